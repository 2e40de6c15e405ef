/-
  t
-/
import Derived.Test.YthofeonffhenmaaAbsB
import Derived.Test.YthofeonffhenmaaProg
namespace Go.Proofs.Ythofeonffhenmaa.Abs
open Go.RowKit Go.Proofs
structure GFrameHead where
  size_ : Int
  sum_ : BitVec 32
def eGFrameHead (x : GFrameHead) : List Lf := [.i .i64 x.size_, .i .u32 (x.sum_.toNat : Int)]

structure GFrameWhole where
  head_ : GFrameHead
  payload_ : List UInt8
def eGFrameWhole (x : GFrameWhole) : List Lf := [.i .i64 x.head_.size_, .i .u32 (x.head_.sum_.toNat : Int), .sl x.payload_.length (x.payload_.flatMap eU8)]

theorem si22 : SI Try.prog 22 5 1 := ⟨Try.underlying22, by kernel_rfl, by decide⟩
theorem zi43 : ZI Try.prog 43 ([.i .i64 0, .i .u32 0, .raw (.slice none 0 0)]) := zi_of (by kernel_rfl)
theorem ei5 : EI Try.prog 5 1 1 [.i .u8 0] := ei_of (by kernel_rfl) (by decide)
theorem sz5 : (Try.prog.info? 5).map (·.size) = some 1 := by kernel_rfl
theorem ei22 : EI Try.prog 22 1 24 [.raw (.slice none 0 0)] := ei_of (by kernel_rfl) (by decide)
theorem si29 : SI Try.prog 29 22 1 := ⟨Try.underlying29, by kernel_rfl, by decide⟩
theorem ti22 : TI Try.prog 22 false 1 := ⟨⟨_, Try.underlying22, rfl⟩, by kernel_rfl⟩
theorem fn27 : FnI Try.prog 27 := ⟨⟨_, Try.func27, by kernel_rfl, by kernel_rfl⟩⟩
theorem ni22 : NI Try.prog 22 := ⟨.inl ⟨_, Try.underlying22⟩⟩
theorem fn20 : FnI Try.prog 20 := ⟨⟨_, Try.func20, by kernel_rfl, by kernel_rfl⟩⟩
theorem fn19 : FnI Try.prog 19 := ⟨⟨_, Try.func19, by kernel_rfl, by kernel_rfl⟩⟩
theorem zi64 : ZI Try.prog 64 (List.replicate 256 (.i .u32 0)) := zi_of (by kernel_rfl)
theorem fn39 : FnI Try.prog 39 := ⟨⟨_, Try.func39, by kernel_rfl, by kernel_rfl⟩⟩
theorem ai64 : AI Try.prog 64 256 39 1 := ⟨Try.underlying64, by kernel_rfl, by decide, by decide⟩
theorem sz39 : (Try.prog.info? 39).map (·.size) = some 1 := by kernel_rfl
theorem ti64 : TI Try.prog 64 true 256 := ⟨⟨_, Try.underlying64, rfl⟩, by kernel_rfl⟩
theorem sz64 : (Try.prog.info? 64).map (·.size) = some 256 := by kernel_rfl
theorem fn37 : FnI Try.prog 37 := ⟨⟨_, Try.func37, by kernel_rfl, by kernel_rfl⟩⟩
theorem ti5 : TI Try.prog 5 false 1 := ⟨⟨_, Try.underlying5, rfl⟩, by kernel_rfl⟩
theorem ti39 : TI Try.prog 39 false 1 := ⟨⟨_, Try.underlying39, rfl⟩, by kernel_rfl⟩
theorem fn32 : FnI Try.prog 32 := ⟨⟨_, Try.func32, by kernel_rfl, by kernel_rfl⟩⟩
theorem fn33 : FnI Try.prog 33 := ⟨⟨_, Try.func33, by kernel_rfl, by kernel_rfl⟩⟩
theorem fn26 : FnI Try.prog 26 := ⟨⟨_, Try.func26, by kernel_rfl, by kernel_rfl⟩⟩
theorem zi41 : ZI Try.prog 41 ([.i .i64 0, .i .u32 0]) := zi_of (by kernel_rfl)
theorem pi41 : PI Try.prog 41 [(0, 1), (1, 1)] := pi_of Try.underlying41 (by kernel_rfl) (by kernel_rfl)
theorem pi43 : PI Try.prog 43 [(0, 2), (2, 1)] := pi_of Try.underlying43 (by kernel_rfl) (by kernel_rfl)
theorem sz43 : (Try.prog.info? 43).map (·.size) = some 3 := by kernel_rfl
theorem ti43 : TI Try.prog 43 true 3 := ⟨⟨_, Try.underlying43, rfl⟩, by kernel_rfl⟩
theorem fn18 : FnI Try.prog 18 := ⟨⟨_, Try.func18, by kernel_rfl, by kernel_rfl⟩⟩
theorem fi43_0 : FI Try.prog 43 0 0 := ⟨⟨_, _, 2, Try.underlying43, rfl, rfl, by kernel_rfl, by decide⟩⟩
theorem fi41_0 : FI Try.prog 41 0 0 := ⟨⟨_, _, 1, Try.underlying41, rfl, rfl, by kernel_rfl, by decide⟩⟩
theorem ti3 : TI Try.prog 3 false 1 := ⟨⟨_, Try.underlying3, rfl⟩, by kernel_rfl⟩
theorem fi41_1 : FI Try.prog 41 1 1 := ⟨⟨_, _, 1, Try.underlying41, rfl, rfl, by kernel_rfl, by decide⟩⟩
theorem fi43_1 : FI Try.prog 43 1 2 := ⟨⟨_, _, 1, Try.underlying43, rfl, rfl, by kernel_rfl, by decide⟩⟩
theorem fn8 : FnI Try.prog 8 := ⟨⟨_, Try.func8, by kernel_rfl, by kernel_rfl⟩⟩
theorem zi3 : ZI Try.prog 3 ([.i .i64 0]) := zi_of (by kernel_rfl)
theorem sz3 : (Try.prog.info? 3).map (·.size) = some 1 := by kernel_rfl
theorem zi61 : ZI Try.prog 61 ([.raw .nilFunc, .i .i64 0]) := zi_of (by kernel_rfl)
theorem pi61 : PI Try.prog 61 [(0, 1), (1, 1)] := pi_of Try.underlying61 (by kernel_rfl) (by kernel_rfl)
theorem fn29 : FnI Try.prog 29 := ⟨⟨_, Try.func29, by kernel_rfl, by kernel_rfl⟩⟩
theorem fi61_1 : FI Try.prog 61 1 1 := ⟨⟨_, _, 1, Try.underlying61, rfl, rfl, by kernel_rfl, by decide⟩⟩
theorem ti24 : TI Try.prog 24 false 1 := ⟨⟨_, Try.underlying24, rfl⟩, by kernel_rfl⟩
theorem fn31 : FnI Try.prog 31 := ⟨⟨_, Try.func31, by kernel_rfl, by kernel_rfl⟩⟩
theorem sz24 : (Try.prog.info? 24).map (·.size) = some 1 := by kernel_rfl
theorem fn35 : FnI Try.prog 35 := ⟨⟨_, Try.func35, by kernel_rfl, by kernel_rfl⟩⟩
theorem fi61_0 : FI Try.prog 61 0 0 := ⟨⟨_, _, 1, Try.underlying61, rfl, rfl, by kernel_rfl, by decide⟩⟩
theorem ti59 : TI Try.prog 59 false 1 := ⟨⟨_, Try.underlying59, rfl⟩, by kernel_rfl⟩
theorem mixed : Try.prog.follows .mixedOrders = true := by kernel_rfl
theorem fn34 : FnI Try.prog 34 := ⟨⟨_, Try.func34, by kernel_rfl, by kernel_rfl⟩⟩
theorem fn38 : FnI Try.prog 38 := ⟨⟨_, Try.func38, by kernel_rfl, by kernel_rfl⟩⟩
theorem fn36 : FnI Try.prog 36 := ⟨⟨_, Try.func36, by kernel_rfl, by kernel_rfl⟩⟩
theorem fn30 : FnI Try.prog 30 := ⟨⟨_, Try.func30, by kernel_rfl, by kernel_rfl⟩⟩
theorem sz22 : (Try.prog.info? 22).map (·.size) = some 1 := by kernel_rfl
theorem fn24 : FnI Try.prog 24 := ⟨⟨_, Try.func24, by kernel_rfl, by kernel_rfl⟩⟩
theorem fn25 : FnI Try.prog 25 := ⟨⟨_, Try.func25, by kernel_rfl, by kernel_rfl⟩⟩
theorem fn10 : FnI Try.prog 10 := ⟨⟨_, Try.func10, by kernel_rfl, by kernel_rfl⟩⟩
theorem fn7 : FnI Try.prog 7 := ⟨⟨_, Try.func7, by kernel_rfl, by kernel_rfl⟩⟩
theorem fn21 : FnI Try.prog 21 := ⟨⟨_, Try.func21, by kernel_rfl, by kernel_rfl⟩⟩
theorem fn28 : FnI Try.prog 28 := ⟨⟨_, Try.func28, by kernel_rfl, by kernel_rfl⟩⟩
theorem fn22 : FnI Try.prog 22 := ⟨⟨_, Try.func22, by kernel_rfl, by kernel_rfl⟩⟩
theorem fn23 : FnI Try.prog 23 := ⟨⟨_, Try.func23, by kernel_rfl, by kernel_rfl⟩⟩
theorem fn9 : FnI Try.prog 9 := ⟨⟨_, Try.func9, by kernel_rfl, by kernel_rfl⟩⟩
theorem fn11 : FnI Try.prog 11 := ⟨⟨_, Try.func11, by kernel_rfl, by kernel_rfl⟩⟩
theorem ni29 : NI Try.prog 29 := ⟨.inl ⟨_, Try.underlying29⟩⟩
theorem fn12 : FnI Try.prog 12 := ⟨⟨_, Try.func12, by kernel_rfl, by kernel_rfl⟩⟩
theorem fn13 : FnI Try.prog 13 := ⟨⟨_, Try.func13, by kernel_rfl, by kernel_rfl⟩⟩
theorem fn14 : FnI Try.prog 14 := ⟨⟨_, Try.func14, by kernel_rfl, by kernel_rfl⟩⟩
theorem fn15 : FnI Try.prog 15 := ⟨⟨_, Try.func15, by kernel_rfl, by kernel_rfl⟩⟩
theorem fn16 : FnI Try.prog 16 := ⟨⟨_, Try.func16, by kernel_rfl, by kernel_rfl⟩⟩
theorem fn17 : FnI Try.prog 17 := ⟨⟨_, Try.func17, by kernel_rfl, by kernel_rfl⟩⟩

def m27_slices_Growo_k1 (a0 : Int) (b1 : Unit) : Option (List UInt8) :=
  if (decide (0 < (wI (a0 - (wI (0 - 0)))))) then (if 0 < (wI (a0 - (wI (0 - 0)))) ∧ (wI (a0 - (wI (0 - 0)))) * ((1 : Nat) : Int) ≤ 281474976710656 then (if (0 : Int) ≤ 0 ∧ 0 ≤ ((List.replicate (wI (a0 - (wI (0 - 0)))).toNat (0 : UInt8)).length : Int) then (some ((List.replicate (wI (a0 - (wI (0 - 0)))).toNat (0 : UInt8)).take (0 : Int).toNat)) else none) else none) else (some ([] : List UInt8))
def m27_slices_Growo (a0 : Int) : Option (List UInt8) :=
  if (decide (a0 < 0)) then none else (m27_slices_Growo_k1 a0 ())

set_option maxRecDepth 100000 in
theorem m27_slices_Growo_c {a0 : Int} {r : (List UInt8)} (h : m27_slices_Growo a0 = some r) : CallsB Try.prog 27 [] [.one (.raw (.slice none 0 0)), .one (.i .i64 a0)] (fun y m' => y = .s (.one (.ls 0 r.length)) ∧ m' = [.arr 5 1 0 (r.flatMap eU8)]) := by
  unfold m27_slices_Growo at h
  refine callsB_of Try.func27 rfl (nt := 27) rfl (Nat.le_of_ble_eq_true rfl) ?_
  intro w0 S0 X0 H0
  refine cseq ?_
  refine cregion ?_
  refine sv rfl (opv_as rfl) ?_
  refine snil ?_
  refine cseq ?_
  refine cseq ?_
  refine cregion ?_
  refine sv rfl (opv_mv rfl) ?_
  refine sv rfl (opv_lss rfl rfl) ?_
  refine snil ?_
  refine cjoin (Unit) (fun b1 => [(0, .s (.one (.raw (.slice none 0 0)))), (1, .s (.one (.i .i64 a0)))]) (fun b1 => []) (fun b1 => m27_slices_Growo_k1 a0 b1 = some r) (fun _ _ => inbL_of rfl) (fun _ _ => blkinb_of rfl) (fun _ _ => Nat.le_of_ble_eq_true rfl) (fun b1 h => ?_) ?_
  · unfold m27_slices_Growo_k1 at h
    refine cseq ?_
    refine cseq ?_
    refine cregion ?_
    refine sv rfl (opv_mv rfl) ?_
    refine sv rfl (opv_mv rfl) ?_
    refine sv rfl (opv_cap_nil si22 rfl) ?_
    refine sv rfl (opv_mv rfl) ?_
    refine sv rfl (opv_len_nil si22 rfl) ?_
    refine sv rfl (opv_sub rfl rfl) ?_
    refine sv rfl (opv_sub rfl rfl) ?_
    refine sv rfl (opv_as rfl) ?_
    refine snil ?_
    refine cseq ?_
    refine cregion ?_
    refine sv rfl (opv_mv rfl) ?_
    refine sv rfl (opv_gtr rfl rfl) ?_
    refine snil ?_
    refine ccond rfl (fun hc => ?_) (fun hc => ?_)
    · replace h := ite_t hc h
      clear hc
      refine cregion ?_
      refine sv rfl (opv_mv rfl) ?_
      refine sv rfl (opv_mv rfl) ?_
      refine sv rfl (opv_cap_nil si22 rfl) ?_
      refine sv rfl (opv_slice_nil si22 rfl rfl) ?_
      refine sv rfl (opv_mv rfl) ?_
      obtain ⟨hm2, h⟩ := chk_eq h
      refine sappz (f := eU8) (z := (0 : UInt8)) rfl Try.underlying22 ei5 Try.underlying3 (fun _ => rfl) rfl rfl rfl hm2 (by decide) ?_
      refine sv rfl (opv_mv rfl) ?_
      refine sv rfl (opv_len_nil si22 rfl) ?_
      obtain ⟨hs3, h⟩ := chk_eq h
      refine strunc (f := eU8) rfl si22 (fun _ => rfl) rfl rfl rfl rfl rfl hs3 ?_
      refine sv rfl (opv_as rfl) ?_
      refine snil ?_
      refine cseq ?_
      refine cregion ?_
      refine sv rfl (opv_mv rfl) ?_
      refine sv rfl (opv_as rfl) ?_
      refine snil ?_
      refine cret ?_
      obtain rfl := Option.some.inj h
      exact ⟨Or.inr rfl, _, [1], [.one (.ls 0 ((List.replicate (wI (a0 - (wI (0 - 0)))).toNat (0 : UInt8)).take (0 : Int).toNat).length)], [.arr 5 1 0 (((List.replicate (wI (a0 - (wI (0 - 0)))).toNat (0 : UInt8)).take (0 : Int).toNat).flatMap eU8)], (resVs_cons (ResV.tmp _ _ rfl) resVs_nil), rfl, rfl, ⟨by decide, rfl⟩, rfl, rfl, ⟨rfl, rfl⟩⟩
    · replace h := ite_f hc h
      clear hc
      refine cskip ?_
      refine then_normal ?_
      refine cseq ?_
      refine cregion ?_
      refine sv rfl (opv_mv rfl) ?_
      refine sv rfl (opv_as rfl) ?_
      refine snil ?_
      refine sadopt_c 5 1 4 (by decide) rfl ?_
      refine cret ?_
      obtain rfl := Option.some.inj h
      exact ⟨Or.inr rfl, _, [0], [.one (.ls 0 ([] : List UInt8).length)], [.arr 5 1 0 (([] : List UInt8).flatMap eU8)], (resVs_cons (ResV.tmp _ _ rfl) resVs_nil), rfl, rfl, ⟨by decide, rfl⟩, rfl, rfl, ⟨rfl, rfl⟩⟩
  · skip
    refine ccond rfl (fun hc => ?_) (fun hc => ?_)
    · replace h := ite_t hc h
      clear hc
      cases h
    · replace h := ite_f hc h
      clear hc
      refine cskip ?_
      refine then_normal ?_
      exact ⟨(), _, h, ⟨rfl, rfl, trivial⟩, rfl⟩

def m20_slices_Concato_k3 (b3 : (List UInt8)) : Option (List UInt8) :=
  some b3

def m20_slices_Concato_s4 (a0 : List (List UInt8)) (s4 : Int × (List UInt8)) : Option (LB (Int × (List UInt8)) ((List UInt8))) :=
  if (decide (s4.1 < (a0.length : Int))) then ((idx a0 s4.1).bind fun u5 => if (s4.2.length + u5.length) * 1 ≤ 140737488355328 then (some (.cont ((wI (s4.1 + 1)), (s4.2 ++ u5)))) else none) else (some (.brk s4.2))

def m20_slices_Concato_k1 (a0 : List (List UInt8)) (b1 : Int) : Option (List UInt8) :=
  (m27_slices_Growo b1).bind fun v2 => (iterB (m20_slices_Concato_s4 a0) fuel (0, v2)).bind fun e7 => m20_slices_Concato_k3 e7

def m20_slices_Concato_s8 (a0 : List (List UInt8)) (s8 : Int × Int) : Option (LB (Int × Int) (Int)) :=
  if (decide (s8.2 < (a0.length : Int))) then ((idx a0 s8.2).bind fun u9 => if (decide ((wI (s8.1 + (u9.length : Int))) < 0)) then none else (some (.cont ((wI (s8.1 + (u9.length : Int))), (wI (s8.2 + 1)))))) else (some (.brk s8.1))
def m20_slices_Concato (a0 : List (List UInt8)) : Option (List UInt8) :=
  (iterB (m20_slices_Concato_s8 a0) fuel (0, 0)).bind fun e10 => m20_slices_Concato_k1 a0 e10

set_option maxRecDepth 100000 in
theorem m20_slices_Concato_c {a0 : List (List UInt8)} {r : (List UInt8)} (h : m20_slices_Concato a0 = some r) : CallsB Try.prog 20 [] [.one (.sl a0.length (a0.flatMap (eL eU8)))] (fun y m' => y = .s (.one (.ls 0 r.length)) ∧ m' = [.arr 5 1 0 (r.flatMap eU8)]) := by
  unfold m20_slices_Concato at h
  refine callsB_of Try.func20 rfl (nt := 36) rfl (Nat.le_of_ble_eq_true rfl) ?_
  intro w0 S0 X0 H0
  refine cseq ?_
  refine cregion ?_
  refine sv rfl (opv_as rfl) ?_
  refine snil ?_
  refine cseq ?_
  refine cregion ?_
  refine sv rfl (opv_as rfl) ?_
  refine snil ?_
  refine cseq ?_
  refine cseq ?_
  refine cregion ?_
  refine sv rfl (opv_mv rfl) ?_
  refine sv rfl (opv_len_sl si29 rfl) ?_
  refine sv rfl (opv_mv rfl) ?_
  refine snil ?_
  refine cjoin (Int) (fun b1 => [(0, .s (.one (.sl a0.length (a0.flatMap (eL eU8))))), (3, .s (.one (.i .i64 b1)))]) (fun b1 => []) (fun b1 => m20_slices_Concato_k1 a0 b1 = some r) (fun _ _ => inbL_of rfl) (fun _ _ => blkinb_of rfl) (fun _ _ => Nat.le_of_ble_eq_true rfl) (fun b1 h => ?_) ?_
  · unfold m20_slices_Concato_k1 at h
    refine cseq ?_
    refine cregion ?_
    refine sv rfl (opv_mv rfl) ?_
    obtain ⟨v2, hv2, h⟩ := bind_eq h
    refine scallB (x' := .s (.one (.ls 0 v2.length))) (M' := [.arr 5 1 0 (v2.flatMap eU8)]) [] rfl fn27 (.func _) (opnds_cons rfl (opnds_cons rfl opnds_nil)) (m27_slices_Growo_c hv2) rfl rfl (by decide) rfl rfl rfl ?_
    refine sv rfl (opv_as rfl) ?_
    refine snil ?_
    refine cseq ?_
    refine cseq ?_
    refine cregion ?_
    refine sv rfl (opv_mv rfl) ?_
    refine sv rfl (opv_len_sl si29 rfl) ?_
    refine sv rfl (opv_mv rfl) ?_
    refine snil ?_
    refine cjoin ((List UInt8)) (fun b3 => [(6, .s (.one (.ls 0 b3.length)))]) (fun b3 => [.arr 5 1 0 (b3.flatMap eU8)]) (fun b3 => m20_slices_Concato_k3 b3 = some r) (fun _ _ => inbL_of rfl) (fun _ _ => blkinb_of rfl) (fun _ _ => Nat.le_of_ble_eq_true rfl) (fun b3 h => ?_) ?_
    · unfold m20_slices_Concato_k3 at h
      refine cseq ?_
      refine cregion ?_
      refine sv rfl (opv_mv rfl) ?_
      refine sv rfl (opv_as rfl) ?_
      refine snil ?_
      refine cret ?_
      obtain rfl := Option.some.inj h
      exact ⟨Or.inr rfl, _, [0], [.one (.ls 0 b3.length)], [.arr 5 1 0 (b3.flatMap eU8)], (resVs_cons (ResV.tmp _ _ rfl) resVs_nil), rfl, rfl, ⟨by decide, rfl⟩, rfl, rfl, ⟨rfl, rfl⟩⟩
    · skip
      refine cblock ?_
      obtain ⟨x4, hx4, ho4⟩ := bind_eq h
      refine awc_loop (G := Nat × (Int × (List UInt8))) (fun g => [(6, .s (.one (.ls 0 g.2.2.length))), (25, .s (.one (.sl a0.length (a0.flatMap (eL eU8))))), (26, .s (.one (.i .i64 (a0.length : Int)))), (27, .s (.one (.i .i64 g.2.1)))]) (fun g => [.arr 5 1 0 (g.2.2.flatMap eU8)]) (fun g => iterB (m20_slices_Concato_s4 a0) g.1 g.2 = some x4) (fun g => g.1) (fuel, (0, v2)) hx4 ⟨rfl, rfl, rfl, rfl, trivial⟩ [] rfl (fun _ _ => inbL_of rfl) (fun _ _ => blkinb_of rfl) (fun _ _ => Nat.le_of_ble_eq_true rfl) ?_
      clear hx4 h
      rintro ⟨n4, s4⟩ h
      obtain ⟨n4, y4, rfl, h, hk4⟩ := iterB_eq h
      unfold m20_slices_Concato_s4 at h
      refine cseq ?_
      refine cregion ?_
      refine sv rfl (opv_lss rfl rfl) ?_
      refine snil ?_
      refine cseq ?_
      refine ccond rfl (fun hc => ?_) (fun hc => ?_)
      · replace h := ite_t hc h
        clear hc
        refine cskip ?_
        refine then_normal ?_
        refine cseq ?_
        refine cblock ?_
        refine cseq ?_
        refine cregion ?_
        obtain ⟨u5, hu5, h⟩ := bind_eq h
        refine sv rfl (opv_ix (f := (eL eU8)) si29 (fun _ => rfl) rfl rfl rfl rfl hu5) ?_
        refine sv rfl (opv_load1 ti22 rfl (.cp _) rfl) ?_
        refine sv rfl (opv_as rfl) ?_
        refine snil ?_
        refine cregion ?_
        refine sv rfl (opv_mv rfl) ?_
        refine sv rfl (opv_mv rfl) ?_
        obtain ⟨hb6, h⟩ := chk_eq h
        refine sapp (f := eU8) (xs := s4.2) (us := u5) rfl Try.underlying22 ei5 ni22 (fun _ => rfl) rfl rfl (.one _ _ _ _ (.id _ rfl)) rfl rfl rfl (.sl _ _ _ (flat_len (f := eU8) (fun _ => rfl) _)) rfl rfl hb6 (by decide) ?_
        refine sv rfl (opv_as rfl) ?_
        refine snil0 ?_
        refine block_normal ?_
        refine then_normal ?_
        refine cregion ?_
        refine sv rfl (opv_add rfl rfl) ?_
        refine sv rfl (opv_mv rfl) ?_
        refine snil ?_
        obtain rfl := Option.some.inj h
        exact ⟨(n4, ((wI (s4.1 + 1)), (s4.2 ++ u5))), _, hk4, ⟨rfl, rfl, rfl, rfl, trivial⟩, rfl, Nat.lt_succ_self _⟩
      · replace h := ite_f hc h
        clear hc
        refine cexit ?_
        refine then_exit ?_
        refine then_exit ?_
        refine block_hit ?_
        refine then_normal ?_
        obtain rfl := Option.some.inj h
        obtain rfl : _ = x4 := hk4
        exact ⟨s4.2, _, ho4, ⟨rfl, trivial⟩, rfl⟩
  · skip
    refine cblock ?_
    obtain ⟨x8, hx8, ho8⟩ := bind_eq h
    refine awc_loop (G := Nat × (Int × Int)) (fun g => [(0, .s (.one (.sl a0.length (a0.flatMap (eL eU8))))), (3, .s (.one (.i .i64 g.2.1))), (9, .s (.one (.sl a0.length (a0.flatMap (eL eU8))))), (10, .s (.one (.i .i64 (a0.length : Int)))), (11, .s (.one (.i .i64 g.2.2)))]) (fun g => []) (fun g => iterB (m20_slices_Concato_s8 a0) g.1 g.2 = some x8) (fun g => g.1) (fuel, (0, 0)) hx8 ⟨rfl, rfl, rfl, rfl, rfl, trivial⟩ [] rfl (fun _ _ => inbL_of rfl) (fun _ _ => blkinb_of rfl) (fun _ _ => Nat.le_of_ble_eq_true rfl) ?_
    clear hx8 h
    rintro ⟨n8, s8⟩ h
    obtain ⟨n8, y8, rfl, h, hk8⟩ := iterB_eq h
    unfold m20_slices_Concato_s8 at h
    refine cseq ?_
    refine cregion ?_
    refine sv rfl (opv_lss rfl rfl) ?_
    refine snil ?_
    refine cseq ?_
    refine ccond rfl (fun hc => ?_) (fun hc => ?_)
    · replace h := ite_t hc h
      clear hc
      refine cskip ?_
      refine then_normal ?_
      refine cseq ?_
      refine cblock ?_
      refine cseq ?_
      refine cregion ?_
      obtain ⟨u9, hu9, h⟩ := bind_eq h
      refine sv rfl (opv_ix (f := (eL eU8)) si29 (fun _ => rfl) rfl rfl rfl rfl hu9) ?_
      refine sv rfl (opv_load1 ti22 rfl (.cp _) rfl) ?_
      refine sv rfl (opv_as rfl) ?_
      refine snil ?_
      refine cseq ?_
      refine cregion ?_
      refine sv rfl (opv_mv rfl) ?_
      refine sv rfl (opv_mv rfl) ?_
      refine sv rfl (opv_len_sl si22 rfl) ?_
      refine sv rfl (opv_add rfl rfl) ?_
      refine sv rfl (opv_as rfl) ?_
      refine snil ?_
      refine cseq ?_
      refine cregion ?_
      refine sv rfl (opv_mv rfl) ?_
      refine sv rfl (opv_lss rfl rfl) ?_
      refine snil ?_
      refine ccond rfl (fun hc => ?_) (fun hc => ?_)
      · replace h := ite_t hc h
        clear hc
        cases h
      · replace h := ite_f hc h
        clear hc
        refine cskip ?_
        refine block_normal ?_
        refine then_normal ?_
        refine cregion ?_
        refine sv rfl (opv_add rfl rfl) ?_
        refine sv rfl (opv_mv rfl) ?_
        refine snil ?_
        obtain rfl := Option.some.inj h
        exact ⟨(n8, ((wI (s8.1 + (u9.length : Int))), (wI (s8.2 + 1)))), _, hk8, ⟨rfl, rfl, rfl, rfl, rfl, trivial⟩, rfl, Nat.lt_succ_self _⟩
    · replace h := ite_f hc h
      clear hc
      refine cexit ?_
      refine then_exit ?_
      refine then_exit ?_
      refine block_hit ?_
      refine then_normal ?_
      obtain rfl := Option.some.inj h
      obtain rfl : _ = x8 := hk8
      exact ⟨s8.1, _, ho8, ⟨rfl, rfl, trivial⟩, rfl⟩

def m19_enc_U_k2 (a0 : List UInt8) (b2 : (List UInt8)) : Option (List UInt8) :=
  (m20_slices_Concato [a0, b2]).bind fun v3 => some v3

def m19_enc_U_s4 (a1 : BitVec 64) (a2 : Int) (s4 : Int × (List UInt8)) : Option (LB (Int × (List UInt8)) ((List UInt8))) :=
  if (decide (s4.1 < ((List.replicate (if (if 8 < a2 then 8 else a2) > 0 then (if 8 < a2 then 8 else a2) else 0).toNat (0 : UInt8)).length : Int))) then (if 0 ≤ (wI (8 * s4.1)) then ((idx s4.2 s4.1).bind fun u6 => some (.cont ((wI (s4.1 + 1)), (s4.2.set s4.1.toNat (UInt8.ofBitVec ((a1 >>> (wI (8 * s4.1)).toNat).setWidth 8)))))) else none) else (some (.brk s4.2))
def m19_enc_U (a0 : List UInt8) (a1 : BitVec 64) (a2 : Int) : Option (List UInt8) :=
  if (0 : Int) ≤ (if (if 8 < a2 then 8 else a2) > 0 then (if 8 < a2 then 8 else a2) else 0) ∧ (if (if 8 < a2 then 8 else a2) > 0 then (if 8 < a2 then 8 else a2) else 0) ≤ (if (if 8 < a2 then 8 else a2) > 0 then (if 8 < a2 then 8 else a2) else 0) ∧ ((1 : Nat) : Int) * (if (if 8 < a2 then 8 else a2) > 0 then (if 8 < a2 then 8 else a2) else 0) ≤ 281474976710656 then ((iterB (m19_enc_U_s4 a1 a2) fuel (0, (List.replicate (if (if 8 < a2 then 8 else a2) > 0 then (if 8 < a2 then 8 else a2) else 0).toNat (0 : UInt8)))).bind fun e7 => m19_enc_U_k2 a0 e7) else none

set_option maxRecDepth 100000 in
theorem m19_enc_U_c {a0 : List UInt8} {a1 : BitVec 64} {a2 : Int} {r : (List UInt8)} (h : m19_enc_U a0 a1 a2 = some r) : CallsA Try.prog 19 [.one (.sl a0.length (a0.flatMap eU8)), .one (.i .u64 (a1.toNat : Int)), .one (.i .i64 a2)] (· = .s (.one (.sl r.length (r.flatMap eU8)))) := by
  unfold m19_enc_U at h
  refine callsA_of Try.func19 rfl (nt := 32) rfl (Nat.le_of_ble_eq_true rfl) ?_
  intro w0 S0
  refine cseq ?_
  refine cregion ?_
  refine sv rfl (opv_as rfl) ?_
  refine snil ?_
  refine cseq ?_
  refine cregion ?_
  refine sv rfl (opv_mv rfl) ?_
  refine sv rfl (opv_min rfl rfl) ?_
  refine sv rfl (opv_max rfl rfl) ?_
  refine sv rfl (opv_as rfl) ?_
  refine snil ?_
  refine cseq ?_
  refine cregion ?_
  refine sv rfl (opv_mv rfl) ?_
  obtain ⟨hm1, h⟩ := chk_eq h
  refine smk (f := eU8) (z := (0 : UInt8)) rfl Try.underlying22 ei5 (fun _ => rfl) rfl rfl rfl hm1 (by decide) ?_
  refine sv rfl (opv_as rfl) ?_
  refine snil ?_
  refine cseq ?_
  refine cseq ?_
  refine cregion ?_
  refine sv rfl (opv_mv rfl) ?_
  refine sv rfl (opv_len_ls si22 rfl rfl (flat_len (f := eU8) (fun _ => rfl) _).symm) ?_
  refine sv rfl (opv_mv rfl) ?_
  refine snil ?_
  refine cjoin ((List UInt8)) (fun b2 => [(0, .s (.one (.sl a0.length (a0.flatMap eU8)))), (7, .s (.one (.ls 0 b2.length)))]) (fun b2 => [.arr 5 1 0 (b2.flatMap eU8)]) (fun b2 => m19_enc_U_k2 a0 b2 = some r) (fun _ _ => inbL_of rfl) (fun _ _ => blkinb_of rfl) (fun _ _ => Nat.le_of_ble_eq_true rfl) (fun b2 h => ?_) ?_
  · unfold m19_enc_U_k2 at h
    refine cseq ?_
    refine cregion ?_
    refine sv rfl (opv_mv rfl) ?_
    refine sv rfl (opv_mv rfl) ?_
    refine spub 29 rfl (by (repeat' first | exact PubA.nil _ | apply PubA.cons | apply PubV.one | apply PubV.agg | exact PubL.nil | exact PubL.ls _ _ _ _ _ _ rfl (flat_len (f := eU8) (fun _ => rfl) _).symm | exact PubL.id _ rfl | exact PubLs.nil _ | apply PubLs.cons)) ?_
    refine sbuildN (out := ([a0, b2] : List (List UInt8)).flatMap (eL eU8)) rfl Try.underlying29 ei22 (parts_cons rfl (parts_cons rfl parts_nil)) (.cons _ _ _ _ _ _ _ rfl rfl (Nat.le_of_ble_eq_true rfl) (.cons _ _ _ _ _ _ _ rfl rfl (Nat.le_of_ble_eq_true rfl) (.nil _))) rfl (by decide) ?_
    refine spub 30 rfl (by (repeat' first | exact PubA.nil _ | apply PubA.cons | apply PubV.one | apply PubV.agg | exact PubL.nil | exact PubL.ls _ _ _ _ _ _ rfl (flat_len (f := (eL eU8)) (fun _ => rfl) ([a0, b2] : List (List UInt8))).symm | exact PubL.ls _ _ _ _ _ _ rfl (flat_len (f := (eL eU8)) (fun _ => rfl) _).symm | exact PubL.ls _ _ _ _ _ _ rfl (flat_len (f := eU8) (fun _ => rfl) _).symm | exact PubL.id _ rfl | exact PubLs.nil _ | apply PubLs.cons)) ?_
    obtain ⟨v3, hv3, h⟩ := bind_eq h
    refine scallB (x' := .s (.one (.ls 2 v3.length))) (M' := [.arr 5 1 (b2.flatMap eU8).length (b2.flatMap eU8), .arr 22 1 ([a0, b2].flatMap (eL eU8)).length ([a0, b2].flatMap (eL eU8)), .arr 5 1 0 (v3.flatMap eU8)]) [] rfl fn20 (.func _) (opnds_cons rfl opnds_nil) (m20_slices_Concato_c hv3) rfl rfl (by decide) rfl rfl rfl ?_
    refine sv rfl (opv_as rfl) ?_
    refine snil ?_
    refine cret ?_
    obtain rfl := Option.some.inj h
    refine ⟨Or.inr rfl, _, _, _, (resVs_cons (ResV.tmp _ _ rfl) resVs_nil), (by (repeat' first | exact PubA.nil _ | apply PubA.cons | apply PubV.one | apply PubV.agg | exact PubL.nil | exact PubL.ls _ _ _ _ _ _ rfl (flat_len (f := (eL eU8)) (fun _ => rfl) _).symm | exact PubL.ls _ _ _ _ _ _ rfl (flat_len (f := eU8) (fun _ => rfl) _).symm | exact PubL.id _ rfl | exact PubLs.nil _ | apply PubLs.cons)), ?_⟩
    rfl
  · skip
    refine cblock ?_
    obtain ⟨x4, hx4, ho4⟩ := bind_eq h
    refine awc_loop (G := Nat × (Int × (List UInt8))) (fun g => [(0, .s (.one (.sl a0.length (a0.flatMap eU8)))), (1, .s (.one (.i .u64 (a1.toNat : Int)))), (7, .s (.one (.ls 0 g.2.2.length))), (15, .s (.one (.i .i64 ((List.replicate (if (if 8 < a2 then 8 else a2) > 0 then (if 8 < a2 then 8 else a2) else 0).toNat (0 : UInt8)).length : Int)))), (16, .s (.one (.i .i64 g.2.1)))]) (fun g => [.arr 5 1 0 (g.2.2.flatMap eU8)]) (fun g => iterB (m19_enc_U_s4 a1 a2) g.1 g.2 = some x4) (fun g => g.1) (fuel, (0, (List.replicate (if (if 8 < a2 then 8 else a2) > 0 then (if 8 < a2 then 8 else a2) else 0).toNat (0 : UInt8)))) hx4 ⟨rfl, rfl, rfl, rfl, rfl, trivial⟩ [] rfl (fun _ _ => inbL_of rfl) (fun _ _ => blkinb_of rfl) (fun _ _ => Nat.le_of_ble_eq_true rfl) ?_
    clear hx4 h
    rintro ⟨n4, s4⟩ h
    obtain ⟨n4, y4, rfl, h, hk4⟩ := iterB_eq h
    unfold m19_enc_U_s4 at h
    refine cseq ?_
    refine cregion ?_
    refine sv rfl (opv_lss rfl rfl) ?_
    refine snil ?_
    refine cseq ?_
    refine ccond rfl (fun hc => ?_) (fun hc => ?_)
    · replace h := ite_t hc h
      clear hc
      refine cskip ?_
      refine then_normal ?_
      refine cseq ?_
      refine cblock ?_
      refine cseq ?_
      refine cregion ?_
      refine sv rfl (opv_mv rfl) ?_
      refine sv rfl (opv_as rfl) ?_
      refine snil ?_
      refine cregion ?_
      refine sv rfl (opv_mv rfl) ?_
      refine sv rfl (opv_mv rfl) ?_
      refine sv rfl (opv_mv rfl) ?_
      refine sv rfl (opv_mv rfl) ?_
      refine sv rfl (opv_mul rfl rfl) ?_
      obtain ⟨hz5, h⟩ := chk_eq h
      refine sv rfl (opv_shr_u64 (a := a1) rfl rfl rfl hz5) ?_
      refine sv rfl (opv_conv_bv (k := .u64) (a := (a1 >>> (wI (8 * s4.1)).toNat)) rfl Try.underlying46 Try.underlying5 rfl rfl) ?_
      obtain ⟨u6, hu6, h⟩ := bind_eq h
      refine sv rfl (opv_ixo (f := eU8) si22 (fun _ => rfl) rfl rfl rfl rfl rfl hu6) ?_
      refine sseto (f := eU8) (u' := (UInt8.ofBitVec ((a1 >>> (wI (8 * s4.1)).toNat).setWidth 8))) (sz := 1) 0 sz5 (fun _ => rfl) rfl rfl rfl rfl rfl rfl rfl (List.all_eq_true.1 rfl) (idx_eq hu6).2 (Nat.le_of_ble_eq_true rfl) rfl ?_
      refine stell 7 (y := .s (.one (.ls 0 s4.2.length))) (.s (.one (.ls 0 (s4.2.set s4.1.toNat (UInt8.ofBitVec ((a1 >>> (wI (8 * s4.1)).toNat).setWidth 8))).length))) rfl (congrArg (fun n => AV.s (.one (.ls 0 n))) List.length_set.symm) ?_
      refine stell 19 (y := .s (.one (.ls 0 s4.2.length))) (.s (.one (.ls 0 (s4.2.set s4.1.toNat (UInt8.ofBitVec ((a1 >>> (wI (8 * s4.1)).toNat).setWidth 8))).length))) rfl (congrArg (fun n => AV.s (.one (.ls 0 n))) List.length_set.symm) ?_
      refine snil0 ?_
      refine block_normal ?_
      refine then_normal ?_
      refine cregion ?_
      refine sv rfl (opv_add rfl rfl) ?_
      refine sv rfl (opv_mv rfl) ?_
      refine snil ?_
      obtain rfl := Option.some.inj h
      exact ⟨(n4, ((wI (s4.1 + 1)), (s4.2.set s4.1.toNat (UInt8.ofBitVec ((a1 >>> (wI (8 * s4.1)).toNat).setWidth 8))))), _, hk4, ⟨rfl, rfl, rfl, rfl, rfl, trivial⟩, rfl, Nat.lt_succ_self _⟩
    · replace h := ite_f hc h
      clear hc
      refine cexit ?_
      refine then_exit ?_
      refine then_exit ?_
      refine block_hit ?_
      refine then_normal ?_
      obtain rfl := Option.some.inj h
      obtain rfl : _ = x4 := hk4
      exact ⟨s4.2, _, ho4, ⟨rfl, rfl, trivial⟩, rfl⟩

def m39_crc_step (a0 : BitVec 32) : Option (BitVec 32) :=
  if (decide (((a0 &&& (1#32)).toNat : Int) = (1 : Int))) then (some ((a0 >>> (1 : Int).toNat) ^^^ (3988292384#32))) else (some (a0 >>> (1 : Int).toNat))

set_option maxRecDepth 100000 in
theorem m39_crc_step_c {a0 : BitVec 32} {r : (BitVec 32)} (h : m39_crc_step a0 = some r) : CallsA Try.prog 39 [.one (.i .u32 (a0.toNat : Int))] (· = .s (.one (.i .u32 (r.toNat : Int)))) := by
  unfold m39_crc_step at h
  refine callsA_of Try.func39 rfl (nt := 11) rfl (Nat.le_of_ble_eq_true rfl) ?_
  intro w0 S0
  refine cseq ?_
  refine cregion ?_
  refine sv rfl (opv_as rfl) ?_
  refine snil ?_
  refine cseq ?_
  refine cseq ?_
  refine cregion ?_
  refine sv rfl (opv_mv rfl) ?_
  refine sv rfl (opv_and_u32 (a := a0) (b := 1#32) rfl rfl rfl rfl) ?_
  refine sv rfl (opv_ieql rfl rfl) ?_
  refine snil ?_
  refine ccond rfl (fun hc => ?_) (fun hc => ?_)
  · replace h := ite_t hc h
    clear hc
    refine cseq ?_
    refine cregion ?_
    refine sv rfl (opv_mv rfl) ?_
    refine sv rfl (opv_shr_u32 (a := a0) rfl rfl rfl (by decide)) ?_
    refine sv rfl (opv_xor_u32 (a := (a0 >>> (1 : Int).toNat)) (b := 3988292384#32) rfl rfl rfl rfl) ?_
    refine sv rfl (opv_as rfl) ?_
    refine snil ?_
    refine cret ?_
    refine then_ret ?_
    obtain rfl := Option.some.inj h
    refine ⟨Or.inr rfl, _, _, _, (resVs_cons (ResV.tmp _ _ rfl) resVs_nil), (pubA_id rfl), ?_⟩
    rfl
  · replace h := ite_f hc h
    clear hc
    refine cskip ?_
    refine then_normal ?_
    refine cseq ?_
    refine cregion ?_
    refine sv rfl (opv_mv rfl) ?_
    refine sv rfl (opv_shr_u32 (a := a0) rfl rfl rfl (by decide)) ?_
    refine sv rfl (opv_as rfl) ?_
    refine snil ?_
    refine cret ?_
    obtain rfl := Option.some.inj h
    refine ⟨Or.inr rfl, _, _, _, (resVs_cons (ResV.tmp _ _ rfl) resVs_nil), (pubA_id rfl), ?_⟩
    rfl

def m37_crc_Table_k1 (b1 : (List (BitVec 32))) : Option (List (BitVec 32)) :=
  if b1.length = 256 then (if (List.replicate 256 0#32).length = 256 then (if b1.length = 256 then (if b1.length = 256 then (some b1) else none) else none) else none) else none

def m37_crc_Table_k6 (s5 : Int × (List (BitVec 32))) (b6 : (BitVec 32)) : Option (LB (Int × (List (BitVec 32))) ((List (BitVec 32)))) :=
  if 0 ≤ s5.1 ∧ s5.1 < ((256 : Nat) : Int) then ((idx s5.2 s5.1).bind fun u8 => some (.cont ((wI (s5.1 + 1)), (s5.2.set s5.1.toNat b6)))) else none

def m37_crc_Table_s9 (s9 : (BitVec 32) × Int) : Option (LB ((BitVec 32) × Int) ((BitVec 32))) :=
  if (decide (s9.2 < 8)) then ((m39_crc_step s9.1).bind fun v10 => some (.cont (v10, (wI (s9.2 + 1))))) else (some (.brk s9.1))

def m37_crc_Table_s5 (s5 : Int × (List (BitVec 32))) : Option (LB (Int × (List (BitVec 32))) ((List (BitVec 32)))) :=
  if (decide (s5.1 < 256)) then ((iterB m37_crc_Table_s9 fuel ((BitVec.ofInt 32 s5.1), 0)).bind fun e11 => m37_crc_Table_k6 s5 e11) else (some (.brk s5.2))
def m37_crc_Table  : Option (List (BitVec 32)) :=
  (iterB m37_crc_Table_s5 fuel (0, (List.replicate 256 0#32))).bind fun e12 => m37_crc_Table_k1 e12

set_option maxRecDepth 100000 in
theorem m37_crc_Table_c  {r : (List (BitVec 32))} (h : m37_crc_Table = some r) : CallsA Try.prog 37 [] (· = .s (.agg (r.flatMap eU32))) := by
  unfold m37_crc_Table at h
  refine callsA_of Try.func37 rfl (nt := 19) rfl (Nat.le_of_ble_eq_true rfl) ?_
  intro w0 S0
  refine cseq ?_
  refine cregion ?_
  refine salloc rfl zi64 ?_
  refine snil ?_
  refine cseq ?_
  refine cregion ?_
  refine salloc rfl zi64 ?_
  refine snil ?_
  refine cseq ?_
  refine cseq ?_
  refine cregion ?_
  refine sv rfl (opv_mv rfl) ?_
  refine snil ?_
  refine cjoin ((List (BitVec 32))) (fun b1 => [(0, .s (.one (.lp 0 0))), (1, .s (.one (.lp 1 0)))]) (fun b1 => [.box ((List.replicate 256 0#32).flatMap eU32), .box (b1.flatMap eU32)]) (fun b1 => m37_crc_Table_k1 b1 = some r) (fun _ _ => inbL_of rfl) (fun _ _ => blkinb_of (by simp only [List.all_cons, List.all_nil, Blk.inbB, Lf.inbB, Lf.inb0, Bool.and_true, Bool.and_self, Bool.true_and, flat_inb (f := eU32) (fun _ _ => rfl)] <;> rfl)) (fun _ _ => Nat.le_of_ble_eq_true rfl) (fun b1 h => ?_) ?_
  · unfold m37_crc_Table_k1 at h
    refine cseq ?_
    refine cregion ?_
    obtain ⟨hl2, h⟩ := chk_eq h
    refine sv rfl (opv_ldall (f := eU32) (n := 256) ti64 (fun _ => rfl) rfl rfl rfl hl2) ?_
    obtain ⟨hl3, h⟩ := chk_eq h
    obtain ⟨hl4, h⟩ := chk_eq h
    refine sstall (f := eU32) (n := 256) sz64 (fun _ => rfl) rfl rfl rfl rfl hl3 hl4 ?_
    refine smem [.box (b1.flatMap eU32), .box (b1.flatMap eU32)] rfl ?_
    refine snil ?_
    refine cret ?_
    obtain ⟨hlr, h⟩ := chk_eq h
    obtain rfl := Option.some.inj h
    refine ⟨Or.inr rfl, _, _, _, (resVs_cons (resv_arr (f := eU32) (n := 256) (fun _ => rfl) ti64 rfl rfl rfl hlr) resVs_nil), (pubA_id (by simp [List.all_cons, pub_agg (f := eU32) (fun _ => rfl), SV.cells])), ?_⟩
    rfl
  · skip
    refine cblock ?_
    obtain ⟨x5, hx5, ho5⟩ := bind_eq h
    refine awc_loop (G := Nat × (Int × (List (BitVec 32)))) (fun g => [(0, .s (.one (.lp 0 0))), (1, .s (.one (.lp 1 0))), (4, .s (.one (.i .i64 g.2.1)))]) (fun g => [.box ((List.replicate 256 0#32).flatMap eU32), .box (g.2.2.flatMap eU32)]) (fun g => iterB m37_crc_Table_s5 g.1 g.2 = some x5) (fun g => g.1) (fuel, (0, (List.replicate 256 0#32))) hx5 ⟨rfl, rfl, rfl, trivial⟩ [] rfl (fun _ _ => inbL_of rfl) (fun _ _ => blkinb_of (by simp only [List.all_cons, List.all_nil, Blk.inbB, Lf.inbB, Lf.inb0, Bool.and_true, Bool.and_self, Bool.true_and, flat_inb (f := eU32) (fun _ _ => rfl)] <;> rfl)) (fun _ _ => Nat.le_of_ble_eq_true rfl) ?_
    clear hx5 h
    rintro ⟨n5, s5⟩ h
    obtain ⟨n5, y5, rfl, h, hk5⟩ := iterB_eq h
    unfold m37_crc_Table_s5 at h
    refine cseq ?_
    refine cregion ?_
    refine sv rfl (opv_lss rfl rfl) ?_
    refine snil ?_
    refine cseq ?_
    refine ccond rfl (fun hc => ?_) (fun hc => ?_)
    · replace h := ite_t hc h
      clear hc
      refine cskip ?_
      refine then_normal ?_
      refine cseq ?_
      refine cblock ?_
      refine cseq ?_
      refine cregion ?_
      refine sv rfl (opv_mv rfl) ?_
      refine sv rfl (opv_as rfl) ?_
      refine snil ?_
      refine cseq ?_
      refine cregion ?_
      refine sv rfl (opv_mv rfl) ?_
      refine sv rfl (opv_conv_ibv rfl Try.underlying3 Try.underlying39 rfl) ?_
      refine sv rfl (opv_as rfl) ?_
      refine snil ?_
      refine cseq ?_
      refine cseq ?_
      refine cregion ?_
      refine sv rfl (opv_mv rfl) ?_
      refine snil ?_
      refine cjoin ((BitVec 32)) (fun b6 => [(0, .s (.one (.lp 0 0))), (1, .s (.one (.lp 1 0))), (2, .s (.one (.i .i64 s5.1))), (3, .s (.one (.i .u32 (b6.toNat : Int)))), (4, .s (.one (.i .i64 s5.1)))]) (fun b6 => [.box ((List.replicate 256 0#32).flatMap eU32), .box (s5.2.flatMap eU32)]) (fun b6 => m37_crc_Table_k6 s5 b6 = some y5) (fun _ _ => inbL_of rfl) (fun _ _ => blkinb_of (by simp only [List.all_cons, List.all_nil, Blk.inbB, Lf.inbB, Lf.inb0, Bool.and_true, Bool.and_self, Bool.true_and, flat_inb (f := eU32) (fun _ _ => rfl)] <;> rfl)) (fun _ _ => Nat.le_of_ble_eq_true rfl) (fun b6 h => ?_) ?_
      · unfold m37_crc_Table_k6 at h
        refine cregion ?_
        refine sv rfl (opv_mv rfl) ?_
        refine sv rfl (opv_mv rfl) ?_
        obtain ⟨hj7, h⟩ := chk_eq h
        obtain ⟨u8, hu8, h⟩ := bind_eq h
        refine sv rfl (opv_ixar ai64 rfl rfl hj7) ?_
        refine sstar (f := eU32) (u' := b6) 0 sz39 (fun _ => rfl) rfl rfl rfl rfl rfl (idx_eq hu8).2 (Nat.le_of_ble_eq_true rfl) rfl ?_
        refine smem [.box ((List.replicate 256 0#32).flatMap eU32), .box ((s5.2.set s5.1.toNat b6).flatMap eU32)] rfl ?_
        refine snil0 ?_
        refine block_normal ?_
        refine then_normal ?_
        refine cregion ?_
        refine sv rfl (opv_add rfl rfl) ?_
        refine sv rfl (opv_mv rfl) ?_
        refine snil ?_
        obtain rfl := Option.some.inj h
        exact ⟨(n5, ((wI (s5.1 + 1)), (s5.2.set s5.1.toNat b6))), _, hk5, ⟨rfl, rfl, rfl, trivial⟩, rfl, Nat.lt_succ_self _⟩
      · skip
        refine cblock ?_
        obtain ⟨x9, hx9, ho9⟩ := bind_eq h
        refine awc_loop (G := Nat × ((BitVec 32) × Int)) (fun g => [(0, .s (.one (.lp 0 0))), (1, .s (.one (.lp 1 0))), (2, .s (.one (.i .i64 s5.1))), (3, .s (.one (.i .u32 (g.2.1.toNat : Int)))), (4, .s (.one (.i .i64 s5.1))), (9, .s (.one (.i .i64 g.2.2)))]) (fun g => [.box ((List.replicate 256 0#32).flatMap eU32), .box (s5.2.flatMap eU32)]) (fun g => iterB m37_crc_Table_s9 g.1 g.2 = some x9) (fun g => g.1) (fuel, ((BitVec.ofInt 32 s5.1), 0)) hx9 ⟨rfl, rfl, rfl, rfl, rfl, rfl, trivial⟩ [] rfl (fun _ _ => inbL_of rfl) (fun _ _ => blkinb_of (by simp only [List.all_cons, List.all_nil, Blk.inbB, Lf.inbB, Lf.inb0, Bool.and_true, Bool.and_self, Bool.true_and, flat_inb (f := eU32) (fun _ _ => rfl)] <;> rfl)) (fun _ _ => Nat.le_of_ble_eq_true rfl) ?_
        clear hx9 h
        rintro ⟨n9, s9⟩ h
        obtain ⟨n9, y9, rfl, h, hk9⟩ := iterB_eq h
        unfold m37_crc_Table_s9 at h
        refine cseq ?_
        refine cregion ?_
        refine sv rfl (opv_lss rfl rfl) ?_
        refine snil ?_
        refine cseq ?_
        refine ccond rfl (fun hc => ?_) (fun hc => ?_)
        · replace h := ite_t hc h
          clear hc
          refine cskip ?_
          refine then_normal ?_
          refine cseq ?_
          refine cblock ?_
          refine cregion ?_
          refine sv rfl (opv_mv rfl) ?_
          obtain ⟨v10, hv10, h⟩ := bind_eq h
          refine scall1 rfl fn39 (opnds_cons rfl opnds_nil) (pubA_id rfl) (m39_crc_step_c hv10) ?_
          refine sv rfl (opv_as rfl) ?_
          refine snil0 ?_
          refine block_normal ?_
          refine then_normal ?_
          refine cregion ?_
          refine sv rfl (opv_add rfl rfl) ?_
          refine sv rfl (opv_mv rfl) ?_
          refine snil ?_
          obtain rfl := Option.some.inj h
          exact ⟨(n9, (v10, (wI (s9.2 + 1)))), _, hk9, ⟨rfl, rfl, rfl, rfl, rfl, rfl, trivial⟩, rfl, Nat.lt_succ_self _⟩
        · replace h := ite_f hc h
          clear hc
          refine cexit ?_
          refine then_exit ?_
          refine then_exit ?_
          refine block_hit ?_
          refine then_normal ?_
          obtain rfl := Option.some.inj h
          obtain rfl : _ = x9 := hk9
          exact ⟨s9.1, _, ho9, ⟨rfl, rfl, rfl, rfl, rfl, trivial⟩, rfl⟩
    · replace h := ite_f hc h
      clear hc
      refine cexit ?_
      refine then_exit ?_
      refine then_exit ?_
      refine block_hit ?_
      refine then_normal ?_
      obtain rfl := Option.some.inj h
      obtain rfl : _ = x5 := hk5
      exact ⟨s5.2, _, ho5, ⟨rfl, rfl, trivial⟩, rfl⟩

def m32_crc_More_k4 (b4 : (BitVec 32)) : Option (BitVec 32) :=
  some (~~~b4)

def m32_crc_More_s5 (a1 : List UInt8) (v1 : (List (BitVec 32))) (s5 : (BitVec 32) × Int) : Option (LB ((BitVec 32) × Int) ((BitVec 32))) :=
  if (decide (s5.2 < (a1.length : Int))) then ((idx a1 s5.2).bind fun u6 => if 0 ≤ (((s5.1.setWidth 8) ^^^ u6.toBitVec).toNat : Int) ∧ (((s5.1.setWidth 8) ^^^ u6.toBitVec).toNat : Int) < ((256 : Nat) : Int) then ((idx v1 (((s5.1.setWidth 8) ^^^ u6.toBitVec).toNat : Int)).bind fun u8 => some (.cont (((s5.1 >>> (8 : Int).toNat) ^^^ u8), (wI (s5.2 + 1))))) else none) else (some (.brk s5.1))
def m32_crc_More (a0 : BitVec 32) (a1 : List UInt8) : Option (BitVec 32) :=
  (m37_crc_Table).bind fun v1 => if (List.replicate 256 0#32).length = 256 then (if v1.length = 256 then ((iterB (m32_crc_More_s5 a1 v1) fuel ((~~~a0), 0)).bind fun e9 => m32_crc_More_k4 e9) else none) else none

set_option maxRecDepth 100000 in
theorem m32_crc_More_c {a0 : BitVec 32} {a1 : List UInt8} {r : (BitVec 32)} (h : m32_crc_More a0 a1 = some r) : CallsA Try.prog 32 [.one (.i .u32 (a0.toNat : Int)), .one (.sl a1.length (a1.flatMap eU8))] (· = .s (.one (.i .u32 (r.toNat : Int)))) := by
  unfold m32_crc_More at h
  refine callsA_of Try.func32 rfl (nt := 29) rfl (Nat.le_of_ble_eq_true rfl) ?_
  intro w0 S0
  refine cseq ?_
  refine cregion ?_
  refine sv rfl (opv_as rfl) ?_
  refine snil ?_
  refine cseq ?_
  refine cregion ?_
  obtain ⟨v1, hv1, h⟩ := bind_eq h
  refine scall1 rfl fn37 opnds_nil (pubA_id rfl) (m37_crc_Table_c hv1) ?_
  refine salloc rfl zi64 ?_
  obtain ⟨hl2, h⟩ := chk_eq h
  obtain ⟨hl3, h⟩ := chk_eq h
  refine sstall (f := eU32) (n := 256) sz64 (fun _ => rfl) rfl rfl rfl rfl hl2 hl3 ?_
  refine smem [.box (v1.flatMap eU32)] rfl ?_
  refine snil ?_
  refine cseq ?_
  refine cregion ?_
  refine sv rfl (opv_mv rfl) ?_
  refine sv rfl (opv_compl_u32 (a := a0) rfl rfl) ?_
  refine sv rfl (opv_as rfl) ?_
  refine snil ?_
  refine cseq ?_
  refine cseq ?_
  refine cregion ?_
  refine sv rfl (opv_mv rfl) ?_
  refine sv rfl (opv_len_sl si22 rfl) ?_
  refine sv rfl (opv_mv rfl) ?_
  refine snil ?_
  refine cjoin ((BitVec 32)) (fun b4 => [(0, .s (.one (.i .u32 (b4.toNat : Int))))]) (fun b4 => [.box (v1.flatMap eU32)]) (fun b4 => m32_crc_More_k4 b4 = some r) (fun _ _ => inbL_of rfl) (fun _ _ => blkinb_of (by simp only [List.all_cons, List.all_nil, Blk.inbB, Lf.inbB, Lf.inb0, Bool.and_true, Bool.and_self, Bool.true_and, flat_inb (f := eU32) (fun _ _ => rfl)] <;> rfl)) (fun _ _ => Nat.le_of_ble_eq_true rfl) (fun b4 h => ?_) ?_
  · unfold m32_crc_More_k4 at h
    refine cseq ?_
    refine cregion ?_
    refine sv rfl (opv_mv rfl) ?_
    refine sv rfl (opv_compl_u32 (a := b4) rfl rfl) ?_
    refine sv rfl (opv_as rfl) ?_
    refine snil ?_
    refine cret ?_
    obtain rfl := Option.some.inj h
    refine ⟨Or.inr rfl, _, _, _, (resVs_cons (ResV.tmp _ _ rfl) resVs_nil), (pubA_id rfl), ?_⟩
    rfl
  · skip
    refine cblock ?_
    obtain ⟨x5, hx5, ho5⟩ := bind_eq h
    refine awc_loop (G := Nat × ((BitVec 32) × Int)) (fun g => [(0, .s (.one (.i .u32 (g.2.1.toNat : Int)))), (5, .s (.one (.lp 0 0))), (11, .s (.one (.sl a1.length (a1.flatMap eU8)))), (12, .s (.one (.i .i64 (a1.length : Int)))), (13, .s (.one (.i .i64 g.2.2)))]) (fun g => [.box (v1.flatMap eU32)]) (fun g => iterB (m32_crc_More_s5 a1 v1) g.1 g.2 = some x5) (fun g => g.1) (fuel, ((~~~a0), 0)) hx5 ⟨rfl, rfl, rfl, rfl, rfl, trivial⟩ [] rfl (fun _ _ => inbL_of rfl) (fun _ _ => blkinb_of (by simp only [List.all_cons, List.all_nil, Blk.inbB, Lf.inbB, Lf.inb0, Bool.and_true, Bool.and_self, Bool.true_and, flat_inb (f := eU32) (fun _ _ => rfl)] <;> rfl)) (fun _ _ => Nat.le_of_ble_eq_true rfl) ?_
    clear hx5 h
    rintro ⟨n5, s5⟩ h
    obtain ⟨n5, y5, rfl, h, hk5⟩ := iterB_eq h
    unfold m32_crc_More_s5 at h
    refine cseq ?_
    refine cregion ?_
    refine sv rfl (opv_lss rfl rfl) ?_
    refine snil ?_
    refine cseq ?_
    refine ccond rfl (fun hc => ?_) (fun hc => ?_)
    · replace h := ite_t hc h
      clear hc
      refine cskip ?_
      refine then_normal ?_
      refine cseq ?_
      refine cblock ?_
      refine cseq ?_
      refine cregion ?_
      obtain ⟨u6, hu6, h⟩ := bind_eq h
      refine sv rfl (opv_ix (f := eU8) si22 (fun _ => rfl) rfl rfl rfl rfl hu6) ?_
      refine sv rfl (opv_load1 ti5 rfl (.cp _) rfl) ?_
      refine sv rfl (opv_as rfl) ?_
      refine snil ?_
      refine cregion ?_
      refine sv rfl (opv_mv rfl) ?_
      refine sv rfl (opv_shr_u32 (a := s5.1) rfl rfl rfl (by decide)) ?_
      refine sv rfl (opv_mv rfl) ?_
      refine sv rfl (opv_conv_bv (k := .u32) (a := s5.1) rfl Try.underlying39 Try.underlying5 rfl rfl) ?_
      refine sv rfl (opv_mv rfl) ?_
      refine sv rfl (opv_xor_u8 (a := (s5.1.setWidth 8)) (b := u6.toBitVec) rfl rfl rfl rfl) ?_
      obtain ⟨hj7, h⟩ := chk_eq h
      obtain ⟨u8, hu8, h⟩ := bind_eq h
      refine sv rfl (opv_ixar ai64 rfl rfl hj7) ?_
      refine sv rfl (opv_ldar (f := eU32) 0 ti39 (fun _ => rfl) rfl rfl rfl (idx_eq hu8).2 rfl) ?_
      refine sv rfl (opv_xor_u32 (a := (s5.1 >>> (8 : Int).toNat)) (b := u8) rfl rfl rfl rfl) ?_
      refine sv rfl (opv_as rfl) ?_
      refine snil0 ?_
      refine block_normal ?_
      refine then_normal ?_
      refine cregion ?_
      refine sv rfl (opv_add rfl rfl) ?_
      refine sv rfl (opv_mv rfl) ?_
      refine snil ?_
      obtain rfl := Option.some.inj h
      exact ⟨(n5, (((s5.1 >>> (8 : Int).toNat) ^^^ u8), (wI (s5.2 + 1)))), _, hk5, ⟨rfl, rfl, rfl, rfl, rfl, trivial⟩, rfl, Nat.lt_succ_self _⟩
    · replace h := ite_f hc h
      clear hc
      refine cexit ?_
      refine then_exit ?_
      refine then_exit ?_
      refine block_hit ?_
      refine then_normal ?_
      obtain rfl := Option.some.inj h
      obtain rfl : _ = x5 := hk5
      exact ⟨s5.1, _, ho5, ⟨rfl, trivial⟩, rfl⟩

def m33_crc_Of (a0 : List UInt8) : Option (BitVec 32) :=
  (m32_crc_More (0#32) a0).bind fun v1 => some v1

set_option maxRecDepth 100000 in
theorem m33_crc_Of_c {a0 : List UInt8} {r : (BitVec 32)} (h : m33_crc_Of a0 = some r) : CallsA Try.prog 33 [.one (.sl a0.length (a0.flatMap eU8))] (· = .s (.one (.i .u32 (r.toNat : Int)))) := by
  unfold m33_crc_Of at h
  refine callsA_of Try.func33 rfl (nt := 5) rfl (Nat.le_of_ble_eq_true rfl) ?_
  intro w0 S0
  refine cseq ?_
  refine cregion ?_
  refine sv rfl (opv_as rfl) ?_
  refine snil ?_
  refine cseq ?_
  refine cregion ?_
  refine sv rfl (opv_mv rfl) ?_
  obtain ⟨v1, hv1, h⟩ := bind_eq h
  refine scall1 rfl fn32 (opnds_cons rfl (opnds_cons rfl opnds_nil)) (pubA_id rfl) (m32_crc_More_c hv1) ?_
  refine sv rfl (opv_as rfl) ?_
  refine snil ?_
  refine cret ?_
  obtain rfl := Option.some.inj h
  refine ⟨Or.inr rfl, _, _, _, (resVs_cons (ResV.tmp _ _ rfl) resVs_nil), (pubA_id rfl), ?_⟩
  rfl

def m26_frame_sumOf (a0 : List UInt8) : Option (BitVec 32) :=
  (m19_enc_U ([] : List UInt8) (BitVec.ofInt 64 (a0.length : Int)) 2).bind fun v1 => (m33_crc_Of v1).bind fun v2 => (m32_crc_More v2 a0).bind fun v3 => some v3

set_option maxRecDepth 100000 in
theorem m26_frame_sumOf_c {a0 : List UInt8} {r : (BitVec 32)} (h : m26_frame_sumOf a0 = some r) : CallsA Try.prog 26 [.one (.sl a0.length (a0.flatMap eU8))] (· = .s (.one (.i .u32 (r.toNat : Int)))) := by
  unfold m26_frame_sumOf at h
  refine callsA_of Try.func26 rfl (nt := 12) rfl (Nat.le_of_ble_eq_true rfl) ?_
  intro w0 S0
  refine cseq ?_
  refine cregion ?_
  refine sv rfl (opv_as rfl) ?_
  refine snil ?_
  refine cseq ?_
  refine cregion ?_
  refine sv rfl (opv_mv rfl) ?_
  refine sv rfl (opv_len_sl si22 rfl) ?_
  refine sv rfl (opv_conv_ibv rfl Try.underlying3 Try.underlying46 rfl) ?_
  obtain ⟨v1, hv1, h⟩ := bind_eq h
  refine scall1 rfl fn19 (opnds_cons rfl (opnds_cons rfl (opnds_cons rfl opnds_nil))) (pubC rfl) (m19_enc_U_c hv1) ?_
  refine sv rfl (opv_as rfl) ?_
  refine snil ?_
  refine cseq ?_
  refine cregion ?_
  refine sv rfl (opv_mv rfl) ?_
  obtain ⟨v2, hv2, h⟩ := bind_eq h
  refine scall1 rfl fn33 (opnds_cons rfl opnds_nil) (pubA_id rfl) (m33_crc_Of_c hv2) ?_
  refine sv rfl (opv_mv rfl) ?_
  obtain ⟨v3, hv3, h⟩ := bind_eq h
  refine scall1 rfl fn32 (opnds_cons rfl (opnds_cons rfl opnds_nil)) (pubA_id rfl) (m32_crc_More_c hv3) ?_
  refine sv rfl (opv_as rfl) ?_
  refine snil ?_
  refine cret ?_
  obtain rfl := Option.some.inj h
  refine ⟨Or.inr rfl, _, _, _, (resVs_cons (ResV.tmp _ _ rfl) resVs_nil), (pubA_id rfl), ?_⟩
  rfl

def m18_frame_wrap (a0 : List UInt8) : Option GFrameWhole :=
  (m26_frame_sumOf a0).bind fun v1 => some (GFrameWhole.mk (GFrameHead.mk (a0.length : Int) v1) a0)

set_option maxRecDepth 100000 in
theorem m18_frame_wrap_c {a0 : List UInt8} {r : GFrameWhole} (h : m18_frame_wrap a0 = some r) : CallsA Try.prog 18 [.one (.sl a0.length (a0.flatMap eU8))] (· = .s (.agg [.i .i64 r.head_.size_, .i .u32 (r.head_.sum_.toNat : Int), .sl r.payload_.length (r.payload_.flatMap eU8)])) := by
  unfold m18_frame_wrap at h
  refine callsA_of Try.func18 rfl (nt := 10) rfl (Nat.le_of_ble_eq_true rfl) ?_
  intro w0 S0
  refine cseq ?_
  refine cregion ?_
  refine salloc rfl zi43 ?_
  refine snil ?_
  refine cseq ?_
  refine cregion ?_
  refine sv rfl (opv_mv rfl) ?_
  refine sv rfl (opv_len_sl si22 rfl) ?_
  refine sv rfl (opv_mv rfl) ?_
  obtain ⟨v1, hv1, h⟩ := bind_eq h
  refine scall1 rfl fn26 (opnds_cons rfl opnds_nil) (pubA_id rfl) (m26_frame_sumOf_c hv1) ?_
  refine sv rfl (opv_build zi41 pi41 (parts_cons rfl (parts_cons rfl parts_nil)) (.cons _ _ _ _ _ _ _ rfl rfl (Nat.le_of_ble_eq_true rfl) (.cons _ _ _ _ _ _ _ rfl rfl (Nat.le_of_ble_eq_true rfl) (.nil _)))) ?_
  refine sv rfl (opv_mv rfl) ?_
  refine sv rfl (opv_build zi43 pi43 (parts_cons rfl (parts_cons rfl parts_nil)) (.cons _ _ _ _ _ _ _ rfl rfl (Nat.le_of_ble_eq_true rfl) (.cons _ _ _ _ _ _ _ rfl rfl (Nat.le_of_ble_eq_true rfl) (.nil _)))) ?_
  refine sstore sz43 rfl rfl rfl rfl (Nat.le_of_ble_eq_true rfl) ?_
  refine smem [.box [.i .i64 (a0.length : Int), .i .u32 (v1.toNat : Int), .sl a0.length (a0.flatMap eU8)]] rfl ?_
  refine snil ?_
  refine cret ?_
  obtain rfl := Option.some.inj h
  refine ⟨Or.inr rfl, _, _, _, (resVs_cons (ResV.agg _ _ _ _ _ ti43 rfl (.lp _ _ _ rfl) (Nat.le_of_ble_eq_true rfl)) resVs_nil), (pubA_id rfl), ?_⟩
  rfl

def m8_frame_Put (a0 : List UInt8) (a1 : List UInt8) : Option ((List UInt8) × Int) :=
  if (decide (512 < (a1.length : Int))) then (some (([] : List UInt8), 5)) else ((m18_frame_wrap a1).bind fun v1 => (m19_enc_U ([] : List UInt8) (BitVec.ofInt 64 v1.head_.size_) 2).bind fun v2 => (m19_enc_U v2 (v1.head_.sum_.setWidth 64) 4).bind fun v3 => (m20_slices_Concato [a0, v3, v1.payload_]).bind fun v4 => some (v4, 0))

set_option maxRecDepth 100000 in
theorem m8_frame_Put_c {a0 : List UInt8} {a1 : List UInt8} {r : (List UInt8) × Int} (h : m8_frame_Put a0 a1 = some r) : CallsA Try.prog 8 [.one (.sl a0.length (a0.flatMap eU8)), .one (.sl a1.length (a1.flatMap eU8))] (· = .tup [.one (.sl r.1.length (r.1.flatMap eU8)), .one (.i .i64 r.2)]) := by
  unfold m8_frame_Put at h
  refine callsA_of Try.func8 rfl (nt := 30) rfl (Nat.le_of_ble_eq_true rfl) ?_
  intro w0 S0
  refine cseq ?_
  refine cregion ?_
  refine sv rfl (opv_as rfl) ?_
  refine sv rfl (opv_as rfl) ?_
  refine snil ?_
  refine cseq ?_
  refine cseq ?_
  refine cregion ?_
  refine sv rfl (opv_mv rfl) ?_
  refine sv rfl (opv_len_sl si22 rfl) ?_
  refine sv rfl (opv_gtr rfl rfl) ?_
  refine snil ?_
  refine ccond rfl (fun hc => ?_) (fun hc => ?_)
  · replace h := ite_t hc h
    clear hc
    refine cseq ?_
    refine cregion ?_
    refine sv rfl (opv_as rfl) ?_
    refine sv rfl (opv_as rfl) ?_
    refine snil ?_
    refine cret ?_
    refine then_ret ?_
    obtain rfl := Option.some.inj h
    refine ⟨Or.inr rfl, _, _, _, (resVs_cons (ResV.tmp _ _ rfl) (resVs_cons (ResV.tmp _ _ rfl) resVs_nil)), (pubC rfl), ?_⟩
    rfl
  · replace h := ite_f hc h
    clear hc
    refine cskip ?_
    refine then_normal ?_
    refine cseq ?_
    refine cregion ?_
    refine sv rfl (opv_mv rfl) ?_
    obtain ⟨v1, hv1, h⟩ := bind_eq h
    refine scall1 rfl fn18 (opnds_cons rfl opnds_nil) (pubA_id rfl) (m18_frame_wrap_c hv1) ?_
    refine salloc rfl zi43 ?_
    refine sstore sz43 rfl rfl rfl rfl (Nat.le_of_ble_eq_true rfl) ?_
    refine smem [.box [.i .i64 v1.head_.size_, .i .u32 (v1.head_.sum_.toNat : Int), .sl v1.payload_.length (v1.payload_.flatMap eU8)]] rfl ?_
    refine snil ?_
    refine cseq ?_
    refine cregion ?_
    refine sv rfl (opv_fieldAddr_lp fi43_0 rfl) ?_
    refine sv rfl (opv_fieldAddr_lp fi41_0 rfl) ?_
    refine sv rfl (opv_load1 ti3 rfl (.lp _ _ _ rfl) rfl) ?_
    refine sv rfl (opv_conv_ibv rfl Try.underlying3 Try.underlying46 rfl) ?_
    obtain ⟨v2, hv2, h⟩ := bind_eq h
    refine scall1 rfl fn19 (opnds_cons rfl (opnds_cons rfl (opnds_cons rfl opnds_nil))) (pubC rfl) (m19_enc_U_c hv2) ?_
    refine sv rfl (opv_as rfl) ?_
    refine snil ?_
    refine cseq ?_
    refine cregion ?_
    refine sv rfl (opv_mv rfl) ?_
    refine sv rfl (opv_fieldAddr_lp fi43_0 rfl) ?_
    refine sv rfl (opv_fieldAddr_lp fi41_1 rfl) ?_
    refine sv rfl (opv_load1 ti39 rfl (.lp _ _ _ rfl) rfl) ?_
    refine sv rfl (opv_conv_bv (k := .u32) (a := v1.head_.sum_) rfl Try.underlying39 Try.underlying46 rfl rfl) ?_
    obtain ⟨v3, hv3, h⟩ := bind_eq h
    refine scall1 rfl fn19 (opnds_cons rfl (opnds_cons rfl (opnds_cons rfl opnds_nil))) (pubA_id rfl) (m19_enc_U_c hv3) ?_
    refine sv rfl (opv_as rfl) ?_
    refine snil ?_
    refine cseq ?_
    refine cregion ?_
    refine sv rfl (opv_mv rfl) ?_
    refine sv rfl (opv_mv rfl) ?_
    refine sv rfl (opv_fieldAddr_lp fi43_1 rfl) ?_
    refine sv rfl (opv_load1 ti22 rfl (.lp _ _ _ rfl) rfl) ?_
    refine sbuildN (out := ([a0, v3, v1.payload_] : List (List UInt8)).flatMap (eL eU8)) rfl Try.underlying29 ei22 (parts_cons rfl (parts_cons rfl (parts_cons rfl parts_nil))) (.cons _ _ _ _ _ _ _ rfl rfl (Nat.le_of_ble_eq_true rfl) (.cons _ _ _ _ _ _ _ rfl rfl (Nat.le_of_ble_eq_true rfl) (.cons _ _ _ _ _ _ _ rfl rfl (Nat.le_of_ble_eq_true rfl) (.nil _)))) rfl (by decide) ?_
    refine spub 28 rfl (by (repeat' first | exact PubA.nil _ | apply PubA.cons | apply PubV.one | apply PubV.agg | exact PubL.nil | exact PubL.ls _ _ _ _ _ _ rfl (flat_len (f := (eL eU8)) (fun _ => rfl) ([a0, v3, v1.payload_] : List (List UInt8))).symm | exact PubL.ls _ _ _ _ _ _ rfl (flat_len (f := (eL eU8)) (fun _ => rfl) _).symm | exact PubL.id _ rfl | exact PubLs.nil _ | apply PubLs.cons)) ?_
    obtain ⟨v4, hv4, h⟩ := bind_eq h
    refine scallB (x' := .s (.one (.ls 2 v4.length))) (M' := [.box [.i .i64 v1.head_.size_, .i .u32 (v1.head_.sum_.toNat : Int), .sl v1.payload_.length (v1.payload_.flatMap eU8)], .arr 22 1 ([a0, v3, v1.payload_].flatMap (eL eU8)).length ([a0, v3, v1.payload_].flatMap (eL eU8)), .arr 5 1 0 (v4.flatMap eU8)]) [] rfl fn20 (.func _) (opnds_cons rfl opnds_nil) (m20_slices_Concato_c hv4) rfl rfl (by decide) rfl rfl rfl ?_
    refine sv rfl (opv_as rfl) ?_
    refine sv rfl (opv_as rfl) ?_
    refine snil ?_
    refine cret ?_
    obtain rfl := Option.some.inj h
    refine ⟨Or.inr rfl, _, _, _, (resVs_cons (ResV.tmp _ _ rfl) (resVs_cons (ResV.tmp _ _ rfl) resVs_nil)), (by (repeat' first | exact PubA.nil _ | apply PubA.cons | apply PubV.one | apply PubV.agg | exact PubL.nil | exact PubL.ls _ _ _ _ _ _ rfl (flat_len (f := (eL eU8)) (fun _ => rfl) _).symm | exact PubL.ls _ _ _ _ _ _ rfl (flat_len (f := eU8) (fun _ => rfl) _).symm | exact PubL.id _ rfl | exact PubLs.nil _ | apply PubLs.cons)), ?_⟩
    rfl

def m29_enc_News (a0 : List UInt8) : Option (Int × Int × (List UInt8)) :=
  some (0, 0, a0)

set_option maxRecDepth 100000 in
theorem m29_enc_News_c {a0 : List UInt8} {r : Int × Int × (List UInt8)} (h : m29_enc_News a0 = some r) : CallsB Try.prog 29 [] [.one (.sl a0.length (a0.flatMap eU8))] (fun y m' => y = .s (.one (.lp 0 0)) ∧ m' = [.box [.fn 34 [] [.lp 1 0, .lp 2 0], .i .i64 r.1], .box [.i .i64 r.2.1], .box [.sl r.2.2.length (r.2.2.flatMap eU8)]]) := by
  unfold m29_enc_News at h
  refine callsB_of Try.func29 rfl (nt := 7) rfl (Nat.le_of_ble_eq_true rfl) ?_
  intro w0 S0 X0 H0
  refine cseq ?_
  refine cregion ?_
  refine sbox rfl rfl ?_
  refine sv rfl (opv_as rfl) ?_
  refine snil ?_
  refine cseq ?_
  refine cregion ?_
  refine salloc rfl zi3 ?_
  refine sstore sz3 rfl rfl rfl rfl (Nat.le_of_ble_eq_true rfl) ?_
  refine smem [.box [.sl a0.length (a0.flatMap eU8)], .box [.i .i64 0]] rfl ?_
  refine snil ?_
  refine cseq ?_
  refine cregion ?_
  refine sv rfl (opv_makeFunc opnds1_nil (opnds1_cons rfl rfl (opnds1_cons rfl rfl opnds1_nil))) ?_
  refine sv rfl (opv_build zi61 pi61 (parts_cons rfl parts_nil) (.cons _ _ _ _ _ _ _ rfl rfl (Nat.le_of_ble_eq_true rfl) (.nil _))) ?_
  refine sbox rfl rfl ?_
  refine sv rfl (opv_as rfl) ?_
  refine snil ?_
  refine cret ?_
  obtain rfl := Option.some.inj h
  exact ⟨Or.inr rfl, _, [2, 1, 0], [.one (.lp 0 0)], [.box [.fn 34 [] [.lp 1 0, .lp 2 0], .i .i64 0], .box [.i .i64 0], .box [.sl a0.length (a0.flatMap eU8)]], (resVs_cons (ResV.tmp _ _ rfl) resVs_nil), rfl, rfl, ⟨by decide, rfl⟩, rfl, rfl, ⟨rfl, rfl⟩⟩

def m31_enc_Reader_Errs (a0 : Int) (a1 : Int) (a2 : List UInt8) : Option Int :=
  some a0

set_option maxRecDepth 100000 in
theorem m31_enc_Reader_Errs_c {a0 : Int} {a1 : Int} {a2 : List UInt8} {r : Int} (h : m31_enc_Reader_Errs a0 a1 a2 = some r) : CallsB Try.prog 31 [.box [.fn 34 [] [.lp 1 0, .lp 2 0], .i .i64 a0], .box [.i .i64 a1], .box [.sl a2.length (a2.flatMap eU8)]] [.one (.lp 0 0)] (fun y m' => y = .s (.one (.i .i64 r)) ∧ m' = [.box [.fn 34 [] [.lp 1 0, .lp 2 0], .i .i64 a0], .box [.i .i64 a1], .box [.sl a2.length (a2.flatMap eU8)]]) := by
  unfold m31_enc_Reader_Errs at h
  refine callsB_of Try.func31 rfl (nt := 9) rfl (Nat.le_of_ble_eq_true rfl) ?_
  intro w0 S0 X0 H0
  refine cseq ?_
  refine cregion ?_
  refine sv rfl (opv_as rfl) ?_
  refine snil ?_
  refine cseq ?_
  refine cseq ?_
  refine cregion ?_
  refine sv rfl (opv_mv rfl) ?_
  refine sv rfl (opv_pnil_eql Try.underlying55 rfl) ?_
  refine snil ?_
  refine ccond rfl (fun hx => Bool.noConfusion hx) (fun _ => ?_)
  refine cskip ?_
  refine then_normal ?_
  refine cseq ?_
  refine cregion ?_
  refine sv rfl (opv_mv rfl) ?_
  refine sv rfl (opv_nilCheck rfl rfl (fun _ _ _ h => by cases h)) ?_
  refine sv rfl (opv_fieldAddr_lp fi61_1 rfl) ?_
  refine sv rfl (opv_load1 ti24 rfl (.lp _ _ _ rfl) rfl) ?_
  refine sv rfl (opv_as rfl) ?_
  refine snil ?_
  refine cret ?_
  obtain rfl := Option.some.inj h
  exact ⟨Or.inr rfl, _, [0, 1, 2], [.one (.i .i64 a0)], [.box [.fn 34 [] [.lp 1 0, .lp 2 0], .i .i64 a0], .box [.i .i64 a1], .box [.sl a2.length (a2.flatMap eU8)]], (resVs_cons (ResV.tmp _ _ rfl) resVs_nil), rfl, rfl, ⟨by decide, rfl⟩, rfl, rfl, ⟨rfl, rfl⟩⟩

def m35_enc_Reader_Fails (a0 : Int) (a1 : Int) (a2 : Int) (a3 : List UInt8) : Option Int :=
  if (decide (a1 = 0)) then (some a0) else (some a1)

set_option maxRecDepth 100000 in
theorem m35_enc_Reader_Fails_c {a0 : Int} {a1 : Int} {a2 : Int} {a3 : List UInt8} {r : Int} (h : m35_enc_Reader_Fails a0 a1 a2 a3 = some r) : CallsB Try.prog 35 [.box [.fn 34 [] [.lp 1 0, .lp 2 0], .i .i64 a1], .box [.i .i64 a2], .box [.sl a3.length (a3.flatMap eU8)]] [.one (.lp 0 0), .one (.i .i64 a0)] (fun y m' => y = .tup [] ∧ m' = [.box [.fn 34 [] [.lp 1 0, .lp 2 0], .i .i64 r], .box [.i .i64 a2], .box [.sl a3.length (a3.flatMap eU8)]]) := by
  unfold m35_enc_Reader_Fails at h
  refine callsB_of Try.func35 rfl (nt := 17) rfl (Nat.le_of_ble_eq_true rfl) ?_
  intro w0 S0 X0 H0
  refine cseq ?_
  refine cregion ?_
  refine sv rfl (opv_mv rfl) ?_
  refine sv rfl (opv_pnil_neq Try.underlying55 rfl) ?_
  refine sv rfl (opv_mv rfl) ?_
  refine son rfl rfl rfl ?_
  refine sv rfl (opv_mv rfl) ?_
  refine son rfl rfl rfl ?_
  refine sv rfl (opv_nilCheck rfl rfl (fun _ _ _ h => by cases h)) ?_
  refine son rfl rfl rfl ?_
  refine sv rfl (opv_fieldAddr_lp fi61_1 rfl) ?_
  refine son rfl rfl rfl ?_
  refine sv rfl (opv_load1 ti24 rfl (.lp _ _ _ rfl) rfl) ?_
  refine son rfl rfl rfl ?_
  refine sv rfl (opv_ieql rfl rfl) ?_
  refine sv rfl (opv_pick_t rfl rfl) ?_
  refine snil ?_
  refine ccond rfl (fun hc => ?_) (fun hc => ?_)
  · replace h := ite_t hc h
    clear hc
    refine cregion ?_
    refine sv rfl (opv_mv rfl) ?_
    refine sv rfl (opv_mv rfl) ?_
    refine sv rfl (opv_nilCheck rfl rfl (fun _ _ _ h => by cases h)) ?_
    refine sv rfl (opv_fieldAddr_lp fi61_1 rfl) ?_
    refine sstore sz24 rfl rfl rfl rfl (Nat.le_of_ble_eq_true rfl) ?_
    refine smem [.box [.fn 34 [] [.lp 1 0, .lp 2 0], .i .i64 a0], .box [.i .i64 a2], .box [.sl a3.length (a3.flatMap eU8)]] rfl ?_
    refine snil0 ?_
    obtain rfl := Option.some.inj h
    exact ⟨Or.inl rfl, _, [0, 1, 2], [], [.box [.fn 34 [] [.lp 1 0, .lp 2 0], .i .i64 a0], .box [.i .i64 a2], .box [.sl a3.length (a3.flatMap eU8)]], resVs_nil, rfl, rfl, ⟨by decide, rfl⟩, rfl, rfl, ⟨rfl, rfl⟩⟩
  · replace h := ite_f hc h
    clear hc
    refine cskip ?_
    obtain rfl := Option.some.inj h
    exact ⟨Or.inl rfl, _, [0, 1, 2], [], [.box [.fn 34 [] [.lp 1 0, .lp 2 0], .i .i64 a1], .box [.i .i64 a2], .box [.sl a3.length (a3.flatMap eU8)]], resVs_nil, rfl, rfl, ⟨by decide, rfl⟩, rfl, rfl, ⟨rfl, rfl⟩⟩

def m34_enc_New_1s (a0 : Int) (a1 : Int) (a2 : List UInt8) : Option (Int × (List UInt8) × Int) :=
  (cut a2 (wI (a1 + a0)) (a2.length : Int)).bind fun c1 => some ((wI (a1 + a0)), c1, (wI (a1 + a0)))

set_option maxRecDepth 100000 in
theorem m34_enc_New_1s_c {a0 : Int} {a1 : Int} {a2 : List UInt8} {r : Int × (List UInt8) × Int} (h : m34_enc_New_1s a0 a1 a2 = some r) : CallsB Try.prog 34 [.box [.i .i64 a1], .box [.sl a2.length (a2.flatMap eU8)]] [.one (.i .i64 a0), .one (.lp 0 0), .one (.lp 1 0)] (fun y m' => y = .tup [.one (.i .i64 r.1), .one (.sl r.2.1.length (r.2.1.flatMap eU8))] ∧ m' = [.box [.i .i64 r.2.2], .box [.sl a2.length (a2.flatMap eU8)]]) := by
  unfold m34_enc_New_1s at h
  refine callsB_of Try.func34 rfl (nt := 13) rfl (Nat.le_of_ble_eq_true rfl) ?_
  intro w0 S0 X0 H0
  refine cseq ?_
  refine cregion ?_
  refine sv rfl (opv_as rfl) ?_
  refine sv rfl (opv_as rfl) ?_
  refine snil ?_
  refine cseq ?_
  refine cregion ?_
  refine sv rfl (opv_load1 ti3 rfl (.lp _ _ _ rfl) rfl) ?_
  refine sv rfl (opv_mv rfl) ?_
  refine sv rfl (opv_add rfl rfl) ?_
  refine sstore sz3 rfl rfl rfl rfl (Nat.le_of_ble_eq_true rfl) ?_
  refine smem [.box [.i .i64 (wI (a1 + a0))], .box [.sl a2.length (a2.flatMap eU8)]] rfl ?_
  refine snil ?_
  refine cseq ?_
  refine cdraw mixed (by kernel_rfl) ?_
  refine dv rfl (opv_load1 ti3 rfl (.lp _ _ _ rfl) rfl) ?_
  refine dv rfl (opv_load1 ti22 rfl (.lp _ _ _ rfl) rfl) ?_
  refine dv rfl (opv_load1 ti3 rfl (.lp _ _ _ rfl) rfl) ?_
  obtain ⟨c1, hc1, h⟩ := bind_eq h
  refine dv rfl (opv_cut (f := eU8) (lo := (wI (a1 + a0))) (hi := (a2.length : Int)) si22 (fun _ => rfl) rfl rfl rfl (bound_some rfl (cut_eq hc1).1.1) (by exact rfl) hc1) ?_
  refine dv rfl (opv_as rfl) ?_
  refine dv rfl (opv_as rfl) ?_
  refine dnil ?_
  refine then_normal ?_
  refine cret ?_
  obtain rfl := Option.some.inj h
  exact ⟨Or.inr rfl, _, [0, 1], [.one (.i .i64 (wI (a1 + a0))), .one (.sl c1.length (c1.flatMap eU8))], [.box [.i .i64 (wI (a1 + a0))], .box [.sl a2.length (a2.flatMap eU8)]], (resVs_cons (ResV.tmp _ _ rfl) (resVs_cons (ResV.tmp _ _ rfl) resVs_nil)), rfl, rfl, ⟨by decide, rfl⟩, rfl, rfl, ⟨rfl, rfl⟩⟩

def m38_enc_Reader_places_k1 (a1 : Int) (a2 : List UInt8) (b1 : Unit) : Option (Int × (List UInt8) × Int) :=
  (m34_enc_New_1s 0 a1 a2).bind fun v2 => some (v2.1, v2.2.1, v2.2.2)
def m38_enc_Reader_places (a0 : Int) (a1 : Int) (a2 : List UInt8) : Option (Int × (List UInt8) × Int) :=
  m38_enc_Reader_places_k1 a1 a2 ()

set_option maxRecDepth 100000 in
theorem m38_enc_Reader_places_c {a0 : Int} {a1 : Int} {a2 : List UInt8} {r : Int × (List UInt8) × Int} (h : m38_enc_Reader_places a0 a1 a2 = some r) : CallsB Try.prog 38 [.box [.fn 34 [] [.lp 1 0, .lp 2 0], .i .i64 a0], .box [.i .i64 a1], .box [.sl a2.length (a2.flatMap eU8)]] [.one (.lp 0 0)] (fun y m' => y = .tup [.one (.i .i64 r.1), .one (.sl r.2.1.length (r.2.1.flatMap eU8))] ∧ m' = [.box [.fn 34 [] [.lp 1 0, .lp 2 0], .i .i64 a0], .box [.i .i64 r.2.2], .box [.sl a2.length (a2.flatMap eU8)]]) := by
  unfold m38_enc_Reader_places at h
  refine callsB_of Try.func38 rfl (nt := 20) rfl (Nat.le_of_ble_eq_true rfl) ?_
  intro w0 S0 X0 H0
  refine cseq ?_
  refine cregion ?_
  refine sv rfl (opv_as rfl) ?_
  refine sv rfl (opv_as rfl) ?_
  refine snil ?_
  refine cseq ?_
  refine cseq ?_
  refine cjoin3 (Unit) (fun b1 => [(0, .s (.one (.lp 0 0)))]) (fun b1 => [.box [.fn 34 [] [.lp 1 0, .lp 2 0], .i .i64 a0], .box [.i .i64 a1], .box [.sl a2.length (a2.flatMap eU8)]]) (fun b1 => m38_enc_Reader_places_k1 a1 a2 b1 = some r) (fun _ _ => inbL_of rfl) (fun _ _ => blkinb_of rfl) (fun _ _ => Nat.le_of_ble_eq_true rfl) (fun b1 h => ?_) ?_
  · unfold m38_enc_Reader_places_k1 at h
    refine cseq ?_
    refine cregion ?_
    refine sv rfl (opv_mv rfl) ?_
    refine sv rfl (opv_nilCheck rfl rfl (fun _ _ _ h => by cases h)) ?_
    refine sv rfl (opv_fieldAddr_lp fi61_0 rfl) ?_
    refine sv rfl (opv_load1 ti59 rfl (.lp _ _ _ rfl) rfl) ?_
    obtain ⟨v2, hv2, h⟩ := bind_eq h
    refine scallB (x' := .tup [.one (.i .i64 v2.1), .one (.sl v2.2.1.length (v2.2.1.flatMap eU8))]) (M' := [.box [.fn 34 [] [.lp 1 0, .lp 2 0], .i .i64 a0], .box [.i .i64 v2.2.2], .box [.sl a2.length (a2.flatMap eU8)]]) [1, 2] rfl fn34 (.fn _ _ _ _ rfl) (opnds_cons rfl opnds_nil) (m34_enc_New_1s_c hv2) rfl rfl (by decide) rfl rfl rfl ?_
    refine sv rfl (opv_extract rfl rfl) ?_
    refine sv rfl (opv_extract rfl rfl) ?_
    refine sv rfl (opv_as rfl) ?_
    refine sv rfl (opv_as rfl) ?_
    refine snil ?_
    refine cret ?_
    obtain rfl := Option.some.inj h
    exact ⟨Or.inr rfl, _, [0, 1, 2], [.one (.i .i64 v2.1), .one (.sl v2.2.1.length (v2.2.1.flatMap eU8))], [.box [.fn 34 [] [.lp 1 0, .lp 2 0], .i .i64 a0], .box [.i .i64 v2.2.2], .box [.sl a2.length (a2.flatMap eU8)]], (resVs_cons (ResV.tmp _ _ rfl) (resVs_cons (ResV.tmp _ _ rfl) resVs_nil)), rfl, rfl, ⟨by decide, rfl⟩, rfl, rfl, ⟨rfl, rfl⟩⟩
  · skip
    refine cregion ?_
    refine sv rfl (opv_mv rfl) ?_
    refine sv rfl (opv_pnil_eql Try.underlying55 rfl) ?_
    refine sv rfl (opv_mv rfl) ?_
    refine son rfl rfl rfl ?_
    refine sv rfl (opv_mv rfl) ?_
    refine son rfl rfl rfl ?_
    refine sv rfl (opv_nilCheck rfl rfl (fun _ _ _ h => by cases h)) ?_
    refine son rfl rfl rfl ?_
    refine sv rfl (opv_fieldAddr_lp fi61_0 rfl) ?_
    refine son rfl rfl rfl ?_
    refine sv rfl (opv_load1 ti59 rfl (.lp _ _ _ rfl) rfl) ?_
    refine son rfl rfl rfl ?_
    refine sv rfl (opv_fnil_eql Try.underlying59 rfl rfl) ?_
    refine sv rfl (opv_pick_f rfl rfl) ?_
    refine snil ?_
    refine ccond rfl (fun hx => Bool.noConfusion hx) (fun _ => ?_)
    refine cskip ?_
    refine then_normal ?_
    exact ⟨(), _, h, ⟨rfl, trivial⟩, rfl⟩

def m36_enc_Reader_takes_k3 (a0 : Int) (a1 : Int) (v1 : Int × (List UInt8) × Int) (b3 : Int) : Option ((List UInt8) × Int × Int) :=
  (cut v1.2.1 0 a0).bind fun c4 => some (c4, a1, b3)
def m36_enc_Reader_takes (a0 : Int) (a1 : Int) (a2 : Int) (a3 : List UInt8) : Option ((List UInt8) × Int × Int) :=
  (m38_enc_Reader_places a1 a2 a3).bind fun v1 => if (decide ((v1.2.1.length : Int) < a0)) then ((m35_enc_Reader_Fails 2 a1 v1.2.2 a3).bind fun v2 => some (([] : List UInt8), v2, v1.2.2)) else (if (decide (0 < a0)) then ((m34_enc_New_1s a0 v1.2.2 a3).bind fun v5 => m36_enc_Reader_takes_k3 a0 a1 v1 v5.2.2) else (m36_enc_Reader_takes_k3 a0 a1 v1 v1.2.2))

set_option maxRecDepth 100000 in
theorem m36_enc_Reader_takes_c {a0 : Int} {a1 : Int} {a2 : Int} {a3 : List UInt8} {r : (List UInt8) × Int × Int} (h : m36_enc_Reader_takes a0 a1 a2 a3 = some r) : CallsB Try.prog 36 [.box [.fn 34 [] [.lp 1 0, .lp 2 0], .i .i64 a1], .box [.i .i64 a2], .box [.sl a3.length (a3.flatMap eU8)]] [.one (.lp 0 0), .one (.i .i64 a0)] (fun y m' => y = .s (.one (.sl r.1.length (r.1.flatMap eU8))) ∧ m' = [.box [.fn 34 [] [.lp 1 0, .lp 2 0], .i .i64 r.2.1], .box [.i .i64 r.2.2], .box [.sl a3.length (a3.flatMap eU8)]]) := by
  unfold m36_enc_Reader_takes at h
  refine callsB_of Try.func36 rfl (nt := 29) rfl (Nat.le_of_ble_eq_true rfl) ?_
  intro w0 S0 X0 H0
  refine cseq ?_
  refine cregion ?_
  refine sv rfl (opv_as rfl) ?_
  refine snil ?_
  refine cseq ?_
  refine cregion ?_
  refine sv rfl (opv_mv rfl) ?_
  obtain ⟨v1, hv1, h⟩ := bind_eq h
  refine scallB (x' := .tup [.one (.i .i64 v1.1), .one (.sl v1.2.1.length (v1.2.1.flatMap eU8))]) (M' := [.box [.fn 34 [] [.lp 1 0, .lp 2 0], .i .i64 a1], .box [.i .i64 v1.2.2], .box [.sl a3.length (a3.flatMap eU8)]]) [0, 1, 2] rfl fn38 (.func _) (opnds_cons rfl opnds_nil) (m38_enc_Reader_places_c hv1) rfl rfl (by decide) rfl rfl rfl ?_
  refine sv rfl (opv_mvt rfl) ?_
  refine sv rfl (opv_extract rfl rfl) ?_
  refine sv rfl (opv_extract rfl rfl) ?_
  refine sv rfl (opv_as rfl) ?_
  refine sv rfl (opv_as rfl) ?_
  refine snil ?_
  refine cseq ?_
  refine cseq ?_
  refine cregion ?_
  refine sv rfl (opv_mv rfl) ?_
  refine sv rfl (opv_len_sl si22 rfl) ?_
  refine sv rfl (opv_mv rfl) ?_
  refine sv rfl (opv_lss rfl rfl) ?_
  refine snil ?_
  refine ccond rfl (fun hc => ?_) (fun hc => ?_)
  · replace h := ite_t hc h
    clear hc
    refine cseq ?_
    refine cregion ?_
    refine sv rfl (opv_mv rfl) ?_
    obtain ⟨v2, hv2, h⟩ := bind_eq h
    refine scallB (x' := .tup []) (M' := [.box [.fn 34 [] [.lp 1 0, .lp 2 0], .i .i64 v2], .box [.i .i64 v1.2.2], .box [.sl a3.length (a3.flatMap eU8)]]) [0, 1, 2] rfl fn35 (.func _) (opnds_cons rfl (opnds_cons rfl opnds_nil)) (m35_enc_Reader_Fails_c hv2) rfl rfl (by decide) rfl rfl rfl ?_
    refine snil ?_
    refine cseq ?_
    refine cregion ?_
    refine sv rfl (opv_as rfl) ?_
    refine snil ?_
    refine cpub 4 rfl (by (repeat' first | exact PubA.nil _ | apply PubA.cons | apply PubV.one | apply PubV.agg | exact PubL.nil | exact PubL.id _ rfl | exact PubLs.nil _ | apply PubLs.cons)) ?_
    refine cret ?_
    refine then_ret ?_
    obtain rfl := Option.some.inj h
    exact ⟨Or.inr rfl, _, [0, 1, 2], [.one (.sl ([] : List UInt8).length (([] : List UInt8).flatMap eU8))], [.box [.fn 34 [] [.lp 1 0, .lp 2 0], .i .i64 v2], .box [.i .i64 v1.2.2], .box [.sl a3.length (a3.flatMap eU8)]], (resVs_cons (ResV.tmp _ _ rfl) resVs_nil), rfl, rfl, ⟨by decide, rfl⟩, rfl, rfl, ⟨rfl, rfl⟩⟩
  · replace h := ite_f hc h
    clear hc
    refine cskip ?_
    refine then_normal ?_
    refine cseq ?_
    refine cseq ?_
    refine cregion ?_
    refine sv rfl (opv_mv rfl) ?_
    refine sv rfl (opv_gtr rfl rfl) ?_
    refine snil ?_
    refine cjoin (Int) (fun b3 => [(1, .s (.one (.i .i64 a0))), (6, .s (.one (.sl v1.2.1.length (v1.2.1.flatMap eU8))))]) (fun b3 => [.box [.fn 34 [] [.lp 1 0, .lp 2 0], .i .i64 a1], .box [.i .i64 b3], .box [.sl a3.length (a3.flatMap eU8)]]) (fun b3 => m36_enc_Reader_takes_k3 a0 a1 v1 b3 = some r) (fun _ _ => inbL_of rfl) (fun _ _ => blkinb_of rfl) (fun _ _ => Nat.le_of_ble_eq_true rfl) (fun b3 h => ?_) ?_
    · unfold m36_enc_Reader_takes_k3 at h
      refine cseq ?_
      refine cregion ?_
      refine sv rfl (opv_mv rfl) ?_
      refine sv rfl (opv_mv rfl) ?_
      obtain ⟨c4, hc4, h⟩ := bind_eq h
      refine sv rfl (opv_cut (f := eU8) (lo := 0) (hi := a0) si22 (fun _ => rfl) rfl rfl rfl bound_none (bound_some rfl (Int.le_trans (cut_eq hc4).1.1 (cut_eq hc4).1.2.1)) hc4) ?_
      refine sv rfl (opv_as rfl) ?_
      refine snil ?_
      refine cret ?_
      obtain rfl := Option.some.inj h
      exact ⟨Or.inr rfl, _, [0, 1, 2], [.one (.sl c4.length (c4.flatMap eU8))], [.box [.fn 34 [] [.lp 1 0, .lp 2 0], .i .i64 a1], .box [.i .i64 b3], .box [.sl a3.length (a3.flatMap eU8)]], (resVs_cons (ResV.tmp _ _ rfl) resVs_nil), rfl, rfl, ⟨by decide, rfl⟩, rfl, rfl, ⟨rfl, rfl⟩⟩
    · skip
      refine ccond rfl (fun hc => ?_) (fun hc => ?_)
      · replace h := ite_t hc h
        clear hc
        refine cregion ?_
        refine sv rfl (opv_mv rfl) ?_
        refine sv rfl (opv_nilCheck rfl rfl (fun _ _ _ h => by cases h)) ?_
        refine sv rfl (opv_fieldAddr_lp fi61_0 rfl) ?_
        refine sv rfl (opv_load1 ti59 rfl (.lp _ _ _ rfl) rfl) ?_
        refine sv rfl (opv_mv rfl) ?_
        obtain ⟨v5, hv5, h⟩ := bind_eq h
        refine scallB (x' := .tup [.one (.i .i64 v5.1), .one (.sl v5.2.1.length (v5.2.1.flatMap eU8))]) (M' := [.box [.fn 34 [] [.lp 1 0, .lp 2 0], .i .i64 a1], .box [.i .i64 v5.2.2], .box [.sl a3.length (a3.flatMap eU8)]]) [1, 2] rfl fn34 (.fn _ _ _ _ rfl) (opnds_cons rfl opnds_nil) (m34_enc_New_1s_c hv5) rfl rfl (by decide) rfl rfl rfl ?_
        refine snil ?_
        exact ⟨v5.2.2, _, h, ⟨rfl, rfl, trivial⟩, rfl⟩
      · replace h := ite_f hc h
        clear hc
        refine cskip ?_
        refine then_normal ?_
        exact ⟨v1.2.2, _, h, ⟨rfl, rfl, trivial⟩, rfl⟩

def m30_enc_Reader_Us_k4 (v3 : (List UInt8) × Int × Int) (b4 : (BitVec 64)) : Option ((BitVec 64) × Int × Int) :=
  some (b4, v3.2.1, v3.2.2)

def m30_enc_Reader_Us_s5 (v3 : (List UInt8) × Int × Int) (s5 : (BitVec 64) × Int) : Option (LB ((BitVec 64) × Int) ((BitVec 64))) :=
  if (decide (s5.2 < (v3.1.length : Int))) then ((idx v3.1 s5.2).bind fun u6 => if 0 ≤ (wI (8 * s5.2)) then (some (.cont ((s5.1 ||| ((u6.toBitVec.setWidth 64) <<< (wI (8 * s5.2)).toNat)), (wI (s5.2 + 1))))) else none) else (some (.brk s5.1))

def m30_enc_Reader_Us_k2 (a0 : Int) (a1 : Int) (a2 : Int) (a3 : List UInt8) (b2 : Unit) : Option ((BitVec 64) × Int × Int) :=
  (m36_enc_Reader_takes a0 a1 a2 a3).bind fun v3 => (iterB (m30_enc_Reader_Us_s5 v3) fuel (0#64, 0)).bind fun e8 => m30_enc_Reader_Us_k4 v3 e8
def m30_enc_Reader_Us (a0 : Int) (a1 : Int) (a2 : Int) (a3 : List UInt8) : Option ((BitVec 64) × Int × Int) :=
  (m31_enc_Reader_Errs a1 a2 a3).bind fun v1 => if (!decide (v1 = 0)) then (some (0#64, a1, a2)) else (if (decide (a0 < 1)) then ((m35_enc_Reader_Fails 1 a1 a2 a3).bind fun v9 => some (0#64, v9, a2)) else (if (decide (8 < a0)) then ((m35_enc_Reader_Fails 1 a1 a2 a3).bind fun v10 => some (0#64, v10, a2)) else (m30_enc_Reader_Us_k2 a0 a1 a2 a3 ())))

set_option maxRecDepth 100000 in
theorem m30_enc_Reader_Us_c {a0 : Int} {a1 : Int} {a2 : Int} {a3 : List UInt8} {r : (BitVec 64) × Int × Int} (h : m30_enc_Reader_Us a0 a1 a2 a3 = some r) : CallsB Try.prog 30 [.box [.fn 34 [] [.lp 1 0, .lp 2 0], .i .i64 a1], .box [.i .i64 a2], .box [.sl a3.length (a3.flatMap eU8)]] [.one (.lp 0 0), .one (.i .i64 a0)] (fun y m' => y = .s (.one (.i .u64 (r.1.toNat : Int))) ∧ m' = [.box [.fn 34 [] [.lp 1 0, .lp 2 0], .i .i64 r.2.1], .box [.i .i64 r.2.2], .box [.sl a3.length (a3.flatMap eU8)]]) := by
  unfold m30_enc_Reader_Us at h
  refine callsB_of Try.func30 rfl (nt := 37) rfl (Nat.le_of_ble_eq_true rfl) ?_
  intro w0 S0 X0 H0
  refine cseq ?_
  refine cregion ?_
  refine sv rfl (opv_as rfl) ?_
  refine snil ?_
  refine cseq ?_
  refine cseq ?_
  refine cregion ?_
  refine sv rfl (opv_mv rfl) ?_
  obtain ⟨v1, hv1, h⟩ := bind_eq h
  refine scallB (x' := .s (.one (.i .i64 v1))) (M' := [.box [.fn 34 [] [.lp 1 0, .lp 2 0], .i .i64 a1], .box [.i .i64 a2], .box [.sl a3.length (a3.flatMap eU8)]]) [0, 1, 2] rfl fn31 (.func _) (opnds_cons rfl opnds_nil) (m31_enc_Reader_Errs_c hv1) rfl rfl (by decide) rfl rfl rfl ?_
  refine sv rfl (opv_ineq rfl rfl) ?_
  refine snil ?_
  refine ccond rfl (fun hc => ?_) (fun hc => ?_)
  · replace h := ite_t hc h
    clear hc
    refine cseq ?_
    refine cregion ?_
    refine sv rfl (opv_as rfl) ?_
    refine snil ?_
    refine cret ?_
    refine then_ret ?_
    obtain rfl := Option.some.inj h
    exact ⟨Or.inr rfl, _, [0, 1, 2], [.one (.i .u64 ((0#64).toNat : Int))], [.box [.fn 34 [] [.lp 1 0, .lp 2 0], .i .i64 a1], .box [.i .i64 a2], .box [.sl a3.length (a3.flatMap eU8)]], (resVs_cons (ResV.tmp _ _ rfl) resVs_nil), rfl, rfl, ⟨by decide, rfl⟩, rfl, rfl, ⟨rfl, rfl⟩⟩
  · replace h := ite_f hc h
    clear hc
    refine cskip ?_
    refine then_normal ?_
    refine cseq ?_
    refine cseq ?_
    refine cjoin3 (Unit) (fun b2 => [(0, .s (.one (.lp 0 0))), (1, .s (.one (.i .i64 a0)))]) (fun b2 => [.box [.fn 34 [] [.lp 1 0, .lp 2 0], .i .i64 a1], .box [.i .i64 a2], .box [.sl a3.length (a3.flatMap eU8)]]) (fun b2 => m30_enc_Reader_Us_k2 a0 a1 a2 a3 b2 = some r) (fun _ _ => inbL_of rfl) (fun _ _ => blkinb_of rfl) (fun _ _ => Nat.le_of_ble_eq_true rfl) (fun b2 h => ?_) ?_
    · unfold m30_enc_Reader_Us_k2 at h
      refine cseq ?_
      refine cregion ?_
      refine sv rfl (opv_as rfl) ?_
      refine snil ?_
      refine cseq ?_
      refine cseq ?_
      refine cregion ?_
      refine sv rfl (opv_mv rfl) ?_
      refine sv rfl (opv_mv rfl) ?_
      obtain ⟨v3, hv3, h⟩ := bind_eq h
      refine scallB (x' := .s (.one (.sl v3.1.length (v3.1.flatMap eU8)))) (M' := [.box [.fn 34 [] [.lp 1 0, .lp 2 0], .i .i64 v3.2.1], .box [.i .i64 v3.2.2], .box [.sl a3.length (a3.flatMap eU8)]]) [0, 1, 2] rfl fn36 (.func _) (opnds_cons rfl (opnds_cons rfl opnds_nil)) (m36_enc_Reader_takes_c hv3) rfl rfl (by decide) rfl rfl rfl ?_
      refine sv rfl (opv_len_sl si22 rfl) ?_
      refine sv rfl (opv_mv rfl) ?_
      refine snil ?_
      refine cjoin ((BitVec 64)) (fun b4 => [(5, .s (.one (.i .u64 (b4.toNat : Int))))]) (fun b4 => [.box [.fn 34 [] [.lp 1 0, .lp 2 0], .i .i64 v3.2.1], .box [.i .i64 v3.2.2], .box [.sl a3.length (a3.flatMap eU8)]]) (fun b4 => m30_enc_Reader_Us_k4 v3 b4 = some r) (fun _ _ => inbL_of rfl) (fun _ _ => blkinb_of rfl) (fun _ _ => Nat.le_of_ble_eq_true rfl) (fun b4 h => ?_) ?_
      · unfold m30_enc_Reader_Us_k4 at h
        refine cseq ?_
        refine cregion ?_
        refine sv rfl (opv_mv rfl) ?_
        refine sv rfl (opv_as rfl) ?_
        refine snil ?_
        refine cret ?_
        obtain rfl := Option.some.inj h
        exact ⟨Or.inr rfl, _, [0, 1, 2], [.one (.i .u64 (b4.toNat : Int))], [.box [.fn 34 [] [.lp 1 0, .lp 2 0], .i .i64 v3.2.1], .box [.i .i64 v3.2.2], .box [.sl a3.length (a3.flatMap eU8)]], (resVs_cons (ResV.tmp _ _ rfl) resVs_nil), rfl, rfl, ⟨by decide, rfl⟩, rfl, rfl, ⟨rfl, rfl⟩⟩
      · skip
        refine cblock ?_
        obtain ⟨x5, hx5, ho5⟩ := bind_eq h
        refine awc_loop (G := Nat × ((BitVec 64) × Int)) (fun g => [(5, .s (.one (.i .u64 (g.2.1.toNat : Int)))), (21, .s (.one (.sl v3.1.length (v3.1.flatMap eU8)))), (22, .s (.one (.i .i64 (v3.1.length : Int)))), (23, .s (.one (.i .i64 g.2.2)))]) (fun g => [.box [.fn 34 [] [.lp 1 0, .lp 2 0], .i .i64 v3.2.1], .box [.i .i64 v3.2.2], .box [.sl a3.length (a3.flatMap eU8)]]) (fun g => iterB (m30_enc_Reader_Us_s5 v3) g.1 g.2 = some x5) (fun g => g.1) (fuel, (0#64, 0)) hx5 ⟨rfl, rfl, rfl, rfl, trivial⟩ [] rfl (fun _ _ => inbL_of rfl) (fun _ _ => blkinb_of rfl) (fun _ _ => Nat.le_of_ble_eq_true rfl) ?_
        clear hx5 h
        rintro ⟨n5, s5⟩ h
        obtain ⟨n5, y5, rfl, h, hk5⟩ := iterB_eq h
        unfold m30_enc_Reader_Us_s5 at h
        refine cseq ?_
        refine cregion ?_
        refine sv rfl (opv_lss rfl rfl) ?_
        refine snil ?_
        refine cseq ?_
        refine ccond rfl (fun hc => ?_) (fun hc => ?_)
        · replace h := ite_t hc h
          clear hc
          refine cskip ?_
          refine then_normal ?_
          refine cseq ?_
          refine cblock ?_
          refine cseq ?_
          refine cregion ?_
          refine sv rfl (opv_mv rfl) ?_
          obtain ⟨u6, hu6, h⟩ := bind_eq h
          refine sv rfl (opv_ix (f := eU8) si22 (fun _ => rfl) rfl rfl rfl rfl hu6) ?_
          refine sv rfl (opv_load1 ti5 rfl (.cp _) rfl) ?_
          refine sv rfl (opv_as rfl) ?_
          refine sv rfl (opv_as rfl) ?_
          refine snil ?_
          refine cregion ?_
          refine sv rfl (opv_mv rfl) ?_
          refine sv rfl (opv_mv rfl) ?_
          refine sv rfl (opv_conv_bv (k := .u8) (a := u6.toBitVec) rfl Try.underlying5 Try.underlying46 rfl rfl) ?_
          refine sv rfl (opv_mv rfl) ?_
          refine sv rfl (opv_mul rfl rfl) ?_
          obtain ⟨hz7, h⟩ := chk_eq h
          refine sv rfl (opv_shl_u64 (a := (u6.toBitVec.setWidth 64)) rfl rfl rfl hz7) ?_
          refine sv rfl (opv_or_u64 (a := s5.1) (b := ((u6.toBitVec.setWidth 64) <<< (wI (8 * s5.2)).toNat)) rfl rfl rfl rfl) ?_
          refine sv rfl (opv_as rfl) ?_
          refine snil0 ?_
          refine block_normal ?_
          refine then_normal ?_
          refine cregion ?_
          refine sv rfl (opv_add rfl rfl) ?_
          refine sv rfl (opv_mv rfl) ?_
          refine snil ?_
          obtain rfl := Option.some.inj h
          exact ⟨(n5, ((s5.1 ||| ((u6.toBitVec.setWidth 64) <<< (wI (8 * s5.2)).toNat)), (wI (s5.2 + 1)))), _, hk5, ⟨rfl, rfl, rfl, rfl, trivial⟩, rfl, Nat.lt_succ_self _⟩
        · replace h := ite_f hc h
          clear hc
          refine cexit ?_
          refine then_exit ?_
          refine then_exit ?_
          refine block_hit ?_
          refine then_normal ?_
          obtain rfl := Option.some.inj h
          obtain rfl : _ = x5 := hk5
          exact ⟨s5.1, _, ho5, ⟨rfl, trivial⟩, rfl⟩
    · skip
      refine cregion ?_
      refine sv rfl (opv_mv rfl) ?_
      refine sv rfl (opv_lss rfl rfl) ?_
      refine sv rfl (opv_mv rfl) ?_
      refine ssplit 13 rfl (fun hc => ?_) (fun hc => ?_)
      · replace h := ite_t hc h
        clear hc
        refine soff rfl rfl rfl rfl ?_
        refine soff rfl rfl rfl rfl ?_
        refine sv rfl (opv_pick_t rfl rfl) ?_
        refine snil ?_
        refine ccond rfl (fun _ => ?_) (fun hx => Bool.noConfusion hx)
        refine cseq ?_
        refine cregion ?_
        refine sv rfl (opv_mv rfl) ?_
        obtain ⟨v9, hv9, h⟩ := bind_eq h
        refine scallB (x' := .tup []) (M' := [.box [.fn 34 [] [.lp 1 0, .lp 2 0], .i .i64 v9], .box [.i .i64 a2], .box [.sl a3.length (a3.flatMap eU8)]]) [0, 1, 2] rfl fn35 (.func _) (opnds_cons rfl (opnds_cons rfl opnds_nil)) (m35_enc_Reader_Fails_c hv9) rfl rfl (by decide) rfl rfl rfl ?_
        refine snil ?_
        refine cseq ?_
        refine cregion ?_
        refine sv rfl (opv_as rfl) ?_
        refine snil ?_
        refine cret ?_
        refine then_ret ?_
        obtain rfl := Option.some.inj h
        exact ⟨Or.inr rfl, _, [0, 1, 2], [.one (.i .u64 ((0#64).toNat : Int))], [.box [.fn 34 [] [.lp 1 0, .lp 2 0], .i .i64 v9], .box [.i .i64 a2], .box [.sl a3.length (a3.flatMap eU8)]], (resVs_cons (ResV.tmp _ _ rfl) resVs_nil), rfl, rfl, ⟨by decide, rfl⟩, rfl, rfl, ⟨rfl, rfl⟩⟩
      · replace h := ite_f hc h
        clear hc
        refine son rfl rfl rfl ?_
        refine sv rfl (opv_mv rfl) ?_
        refine son rfl rfl rfl ?_
        refine sv rfl (opv_gtr rfl rfl) ?_
        refine sv rfl (opv_pick_f rfl rfl) ?_
        refine snil ?_
        refine ccond rfl (fun hc => ?_) (fun hc => ?_)
        · replace h := ite_t hc h
          clear hc
          refine cseq ?_
          refine cregion ?_
          refine sv rfl (opv_mv rfl) ?_
          obtain ⟨v10, hv10, h⟩ := bind_eq h
          refine scallB (x' := .tup []) (M' := [.box [.fn 34 [] [.lp 1 0, .lp 2 0], .i .i64 v10], .box [.i .i64 a2], .box [.sl a3.length (a3.flatMap eU8)]]) [0, 1, 2] rfl fn35 (.func _) (opnds_cons rfl (opnds_cons rfl opnds_nil)) (m35_enc_Reader_Fails_c hv10) rfl rfl (by decide) rfl rfl rfl ?_
          refine snil ?_
          refine cseq ?_
          refine cregion ?_
          refine sv rfl (opv_as rfl) ?_
          refine snil ?_
          refine cret ?_
          refine then_ret ?_
          obtain rfl := Option.some.inj h
          exact ⟨Or.inr rfl, _, [0, 1, 2], [.one (.i .u64 ((0#64).toNat : Int))], [.box [.fn 34 [] [.lp 1 0, .lp 2 0], .i .i64 v10], .box [.i .i64 a2], .box [.sl a3.length (a3.flatMap eU8)]], (resVs_cons (ResV.tmp _ _ rfl) resVs_nil), rfl, rfl, ⟨by decide, rfl⟩, rfl, rfl, ⟨rfl, rfl⟩⟩
        · replace h := ite_f hc h
          clear hc
          refine cskip ?_
          refine then_normal ?_
          exact ⟨(), _, h, ⟨rfl, rfl, trivial⟩, rfl⟩

def m24_frame_open_k4 (a0 : List UInt8) (v2 : (BitVec 64) × Int × Int) (v3 : (BitVec 64) × Int × Int) (b4 : Unit) : Option (GFrameWhole × Int) :=
  (cut a0 6 (wI (6 + (wI (v2.1.toNat : Int))))).bind fun c5 => (m26_frame_sumOf c5).bind fun v6 => if (!decide (((v3.1.setWidth 32).toNat : Int) = (v6.toNat : Int))) then (some ((GFrameWhole.mk (GFrameHead.mk 0 (0#32)) ([] : List UInt8)), 4)) else (some ((GFrameWhole.mk (GFrameHead.mk (wI (v2.1.toNat : Int)) (v3.1.setWidth 32)) c5), 0))
def m24_frame_open (a0 : List UInt8) : Option (GFrameWhole × Int) :=
  (m29_enc_News a0).bind fun v1 => (m30_enc_Reader_Us 2 v1.1 v1.2.1 v1.2.2).bind fun v2 => if (decide (512 < (wI (v2.1.toNat : Int)))) then (some ((GFrameWhole.mk (GFrameHead.mk 0 (0#32)) ([] : List UInt8)), 5)) else ((m30_enc_Reader_Us 4 v2.2.1 v2.2.2 v1.2.2).bind fun v3 => (m31_enc_Reader_Errs v3.2.1 v3.2.2 v1.2.2).bind fun v7 => if (!decide (v7 = 0)) then (some ((GFrameWhole.mk (GFrameHead.mk 0 (0#32)) ([] : List UInt8)), 2)) else (if (decide ((a0.length : Int) < (wI (6 + (wI (v2.1.toNat : Int)))))) then (some ((GFrameWhole.mk (GFrameHead.mk 0 (0#32)) ([] : List UInt8)), 2)) else (m24_frame_open_k4 a0 v2 v3 ())))

set_option maxRecDepth 100000 in
theorem m24_frame_open_c {a0 : List UInt8} {r : GFrameWhole × Int} (h : m24_frame_open a0 = some r) : CallsA Try.prog 24 [.one (.sl a0.length (a0.flatMap eU8))] (· = .tup [.agg [.i .i64 r.1.head_.size_, .i .u32 (r.1.head_.sum_.toNat : Int), .sl r.1.payload_.length (r.1.payload_.flatMap eU8)], .one (.i .i64 r.2)]) := by
  unfold m24_frame_open at h
  refine callsA_of Try.func24 rfl (nt := 53) rfl (Nat.le_of_ble_eq_true rfl) ?_
  intro w0 S0
  refine cseq ?_
  refine cregion ?_
  refine salloc rfl zi43 ?_
  refine sv rfl (opv_as rfl) ?_
  refine snil ?_
  refine cseq ?_
  refine cregion ?_
  refine sv rfl (opv_mv rfl) ?_
  obtain ⟨v1, hv1, h⟩ := bind_eq h
  refine scallB (x' := .s (.one (.lp 1 0))) (M' := [.box [.i .i64 0, .i .u32 ((0#32).toNat : Int), .raw (.slice none 0 0)], .box [.fn 34 [] [.lp 2 0, .lp 3 0], .i .i64 v1.1], .box [.i .i64 v1.2.1], .box [.sl v1.2.2.length (v1.2.2.flatMap eU8)]]) [] rfl fn29 (.func _) (opnds_cons rfl opnds_nil) (m29_enc_News_c hv1) rfl rfl (by decide) rfl rfl rfl ?_
  refine sv rfl (opv_as rfl) ?_
  refine snil ?_
  refine cseq ?_
  refine cregion ?_
  refine sv rfl (opv_build zi43 pi43 parts_nil (.nil _)) ?_
  refine salloc rfl zi43 ?_
  refine sstore sz43 rfl rfl rfl rfl (Nat.le_of_ble_eq_true rfl) ?_
  refine smem [.box [.i .i64 0, .i .u32 ((0#32).toNat : Int), .raw (.slice none 0 0)], .box [.fn 34 [] [.lp 2 0, .lp 3 0], .i .i64 v1.1], .box [.i .i64 v1.2.1], .box [.sl v1.2.2.length (v1.2.2.flatMap eU8)], .box [.i .i64 0, .i .u32 ((0#32).toNat : Int), .raw (.slice none 0 0)]] rfl ?_
  refine snil ?_
  refine cseq ?_
  refine cregion ?_
  refine sv rfl (opv_mv rfl) ?_
  obtain ⟨v2, hv2, h⟩ := bind_eq h
  refine scallB (x' := .s (.one (.i .u64 (v2.1.toNat : Int)))) (M' := [.box [.i .i64 0, .i .u32 ((0#32).toNat : Int), .raw (.slice none 0 0)], .box [.fn 34 [] [.lp 2 0, .lp 3 0], .i .i64 v2.2.1], .box [.i .i64 v2.2.2], .box [.sl v1.2.2.length (v1.2.2.flatMap eU8)], .box [.i .i64 0, .i .u32 ((0#32).toNat : Int), .raw (.slice none 0 0)]]) [1, 2, 3] rfl fn30 (.func _) (opnds_cons rfl (opnds_cons rfl opnds_nil)) (m30_enc_Reader_Us_c hv2) rfl rfl (by decide) rfl rfl rfl ?_
  refine sv rfl (opv_conv_int Try.underlying46 Try.underlying3 rfl) ?_
  refine sv rfl (opv_fieldAddr_lp fi43_0 rfl) ?_
  refine sv rfl (opv_fieldAddr_lp fi41_0 rfl) ?_
  refine sstore sz3 rfl rfl rfl rfl (Nat.le_of_ble_eq_true rfl) ?_
  refine smem [.box [.i .i64 0, .i .u32 ((0#32).toNat : Int), .raw (.slice none 0 0)], .box [.fn 34 [] [.lp 2 0, .lp 3 0], .i .i64 v2.2.1], .box [.i .i64 v2.2.2], .box [.sl v1.2.2.length (v1.2.2.flatMap eU8)], .box [.i .i64 (wI (v2.1.toNat : Int)), .i .u32 ((0#32).toNat : Int), .raw (.slice none 0 0)]] rfl ?_
  refine snil ?_
  refine cseq ?_
  refine cseq ?_
  refine cregion ?_
  refine sv rfl (opv_fieldAddr_lp fi43_0 rfl) ?_
  refine sv rfl (opv_fieldAddr_lp fi41_0 rfl) ?_
  refine sv rfl (opv_load1 ti3 rfl (.lp _ _ _ rfl) rfl) ?_
  refine sv rfl (opv_gtr rfl rfl) ?_
  refine snil ?_
  refine ccond rfl (fun hc => ?_) (fun hc => ?_)
  · replace h := ite_t hc h
    clear hc
    refine cseq ?_
    refine cregion ?_
    refine sv rfl (opv_build zi43 pi43 parts_nil (.nil _)) ?_
    refine sstore sz43 rfl rfl rfl rfl (Nat.le_of_ble_eq_true rfl) ?_
    refine smem [.box [.i .i64 0, .i .u32 ((0#32).toNat : Int), .raw (.slice none 0 0)], .box [.fn 34 [] [.lp 2 0, .lp 3 0], .i .i64 v2.2.1], .box [.i .i64 v2.2.2], .box [.sl v1.2.2.length (v1.2.2.flatMap eU8)], .box [.i .i64 (wI (v2.1.toNat : Int)), .i .u32 ((0#32).toNat : Int), .raw (.slice none 0 0)]] rfl ?_
    refine sv rfl (opv_as rfl) ?_
    refine snil ?_
    refine cret ?_
    refine then_ret ?_
    obtain rfl := Option.some.inj h
    refine ⟨Or.inr rfl, _, _, _, (resVs_cons (ResV.agg _ _ _ _ _ ti43 rfl (.lp _ _ _ rfl) (Nat.le_of_ble_eq_true rfl)) (resVs_cons (ResV.tmp _ _ rfl) resVs_nil)), (pubC rfl), ?_⟩
    rfl
  · replace h := ite_f hc h
    clear hc
    refine cskip ?_
    refine then_normal ?_
    refine cseq ?_
    refine cregion ?_
    refine sv rfl (opv_mv rfl) ?_
    obtain ⟨v3, hv3, h⟩ := bind_eq h
    refine scallB (x' := .s (.one (.i .u64 (v3.1.toNat : Int)))) (M' := [.box [.i .i64 0, .i .u32 ((0#32).toNat : Int), .raw (.slice none 0 0)], .box [.fn 34 [] [.lp 2 0, .lp 3 0], .i .i64 v3.2.1], .box [.i .i64 v3.2.2], .box [.sl v1.2.2.length (v1.2.2.flatMap eU8)], .box [.i .i64 (wI (v2.1.toNat : Int)), .i .u32 ((0#32).toNat : Int), .raw (.slice none 0 0)]]) [1, 2, 3] rfl fn30 (.func _) (opnds_cons rfl (opnds_cons rfl opnds_nil)) (m30_enc_Reader_Us_c hv3) rfl rfl (by decide) rfl rfl rfl ?_
    refine sv rfl (opv_conv_bv (k := .u64) (a := v3.1) rfl Try.underlying46 Try.underlying39 rfl rfl) ?_
    refine sv rfl (opv_fieldAddr_lp fi43_0 rfl) ?_
    refine sv rfl (opv_fieldAddr_lp fi41_1 rfl) ?_
    refine sstore sz39 rfl rfl rfl rfl (Nat.le_of_ble_eq_true rfl) ?_
    refine smem [.box [.i .i64 0, .i .u32 ((0#32).toNat : Int), .raw (.slice none 0 0)], .box [.fn 34 [] [.lp 2 0, .lp 3 0], .i .i64 v3.2.1], .box [.i .i64 v3.2.2], .box [.sl v1.2.2.length (v1.2.2.flatMap eU8)], .box [.i .i64 (wI (v2.1.toNat : Int)), .i .u32 ((v3.1.setWidth 32).toNat : Int), .raw (.slice none 0 0)]] rfl ?_
    refine snil ?_
    refine cseq ?_
    refine cseq ?_
    refine cjoin3 (Unit) (fun b4 => [(0, .s (.one (.sl a0.length (a0.flatMap eU8)))), (2, .s (.one (.lp 0 0))), (5, .s (.one (.lp 4 0)))]) (fun b4 => [.box [.i .i64 0, .i .u32 ((0#32).toNat : Int), .raw (.slice none 0 0)], .box [.fn 34 [] [.lp 2 0, .lp 3 0], .i .i64 v3.2.1], .box [.i .i64 v3.2.2], .box [.sl v1.2.2.length (v1.2.2.flatMap eU8)], .box [.i .i64 (wI (v2.1.toNat : Int)), .i .u32 ((v3.1.setWidth 32).toNat : Int), .raw (.slice none 0 0)]]) (fun b4 => m24_frame_open_k4 a0 v2 v3 b4 = some r) (fun _ _ => inbL_of rfl) (fun _ _ => blkinb_of rfl) (fun _ _ => Nat.le_of_ble_eq_true rfl) (fun b4 h => ?_) ?_
    · unfold m24_frame_open_k4 at h
      refine cseq ?_
      refine cregion ?_
      refine sv rfl (opv_mv rfl) ?_
      refine sv rfl (opv_fieldAddr_lp fi43_0 rfl) ?_
      refine sv rfl (opv_fieldAddr_lp fi41_0 rfl) ?_
      refine sv rfl (opv_load1 ti3 rfl (.lp _ _ _ rfl) rfl) ?_
      refine sv rfl (opv_add rfl rfl) ?_
      obtain ⟨c5, hc5, h⟩ := bind_eq h
      refine sv rfl (opv_cut (f := eU8) (lo := 6) (hi := (wI (6 + (wI (v2.1.toNat : Int))))) si22 (fun _ => rfl) rfl rfl rfl (bound_some rfl (cut_eq hc5).1.1) (bound_some rfl (Int.le_trans (cut_eq hc5).1.1 (cut_eq hc5).1.2.1)) hc5) ?_
      refine sv rfl (opv_fieldAddr_lp fi43_1 rfl) ?_
      refine sstore sz22 rfl rfl rfl rfl (Nat.le_of_ble_eq_true rfl) ?_
      refine smem [.box [.i .i64 0, .i .u32 ((0#32).toNat : Int), .raw (.slice none 0 0)], .box [.fn 34 [] [.lp 2 0, .lp 3 0], .i .i64 v3.2.1], .box [.i .i64 v3.2.2], .box [.sl v1.2.2.length (v1.2.2.flatMap eU8)], .box [.i .i64 (wI (v2.1.toNat : Int)), .i .u32 ((v3.1.setWidth 32).toNat : Int), .sl c5.length (c5.flatMap eU8)]] rfl ?_
      refine snil ?_
      refine cseq ?_
      refine cseq ?_
      refine cdraw mixed (by kernel_rfl) ?_
      refine dv rfl (opv_fieldAddr_lp fi43_0 rfl) ?_
      refine dv rfl (opv_fieldAddr_lp fi41_1 rfl) ?_
      refine dv rfl (opv_load1 ti39 rfl (.lp _ _ _ rfl) rfl) ?_
      refine dv rfl (opv_fieldAddr_lp fi43_1 rfl) ?_
      refine dv rfl (opv_load1 ti22 rfl (.lp _ _ _ rfl) rfl) ?_
      obtain ⟨v6, hv6, h⟩ := bind_eq h
      refine dd rfl (opD_call fn26 (opnds_cons rfl opnds_nil) rfl (m26_frame_sumOf_c hv6)) ?_
      refine dv rfl (opv_ineq rfl rfl) ?_
      refine dnil ?_
      refine then_normal ?_
      refine ccond rfl (fun hc => ?_) (fun hc => ?_)
      · replace h := ite_t hc h
        clear hc
        refine cseq ?_
        refine cregion ?_
        refine sv rfl (opv_build zi43 pi43 parts_nil (.nil _)) ?_
        refine sstore sz43 rfl rfl rfl rfl (Nat.le_of_ble_eq_true rfl) ?_
        refine smem [.box [.i .i64 0, .i .u32 ((0#32).toNat : Int), .raw (.slice none 0 0)], .box [.fn 34 [] [.lp 2 0, .lp 3 0], .i .i64 v3.2.1], .box [.i .i64 v3.2.2], .box [.sl v1.2.2.length (v1.2.2.flatMap eU8)], .box [.i .i64 (wI (v2.1.toNat : Int)), .i .u32 ((v3.1.setWidth 32).toNat : Int), .sl c5.length (c5.flatMap eU8)]] rfl ?_
        refine sv rfl (opv_as rfl) ?_
        refine snil ?_
        refine cret ?_
        refine then_ret ?_
        obtain rfl := Option.some.inj h
        refine ⟨Or.inr rfl, _, _, _, (resVs_cons (ResV.agg _ _ _ _ _ ti43 rfl (.lp _ _ _ rfl) (Nat.le_of_ble_eq_true rfl)) (resVs_cons (ResV.tmp _ _ rfl) resVs_nil)), (pubC rfl), ?_⟩
        rfl
      · replace h := ite_f hc h
        clear hc
        refine cskip ?_
        refine then_normal ?_
        refine cseq ?_
        refine cregion ?_
        refine sv rfl (opv_loadN ti43 rfl (.lp _ _ _ rfl) (Nat.le_of_ble_eq_true rfl)) ?_
        refine sstore sz43 rfl rfl rfl rfl (Nat.le_of_ble_eq_true rfl) ?_
        refine smem [.box [.i .i64 (wI (v2.1.toNat : Int)), .i .u32 ((v3.1.setWidth 32).toNat : Int), .sl c5.length (c5.flatMap eU8)], .box [.fn 34 [] [.lp 2 0, .lp 3 0], .i .i64 v3.2.1], .box [.i .i64 v3.2.2], .box [.sl v1.2.2.length (v1.2.2.flatMap eU8)], .box [.i .i64 (wI (v2.1.toNat : Int)), .i .u32 ((v3.1.setWidth 32).toNat : Int), .sl c5.length (c5.flatMap eU8)]] rfl ?_
        refine sv rfl (opv_as rfl) ?_
        refine snil ?_
        refine cret ?_
        obtain rfl := Option.some.inj h
        refine ⟨Or.inr rfl, _, _, _, (resVs_cons (ResV.agg _ _ _ _ _ ti43 rfl (.lp _ _ _ rfl) (Nat.le_of_ble_eq_true rfl)) (resVs_cons (ResV.tmp _ _ rfl) resVs_nil)), (pubA_id rfl), ?_⟩
        rfl
    · skip
      refine cregion ?_
      refine sv rfl (opv_mv rfl) ?_
      obtain ⟨v7, hv7, h⟩ := bind_eq h
      refine scallB (x' := .s (.one (.i .i64 v7))) (M' := [.box [.i .i64 0, .i .u32 ((0#32).toNat : Int), .raw (.slice none 0 0)], .box [.fn 34 [] [.lp 2 0, .lp 3 0], .i .i64 v3.2.1], .box [.i .i64 v3.2.2], .box [.sl v1.2.2.length (v1.2.2.flatMap eU8)], .box [.i .i64 (wI (v2.1.toNat : Int)), .i .u32 ((v3.1.setWidth 32).toNat : Int), .raw (.slice none 0 0)]]) [1, 2, 3] rfl fn31 (.func _) (opnds_cons rfl opnds_nil) (m31_enc_Reader_Errs_c hv7) rfl rfl (by decide) rfl rfl rfl ?_
      refine sv rfl (opv_ineq rfl rfl) ?_
      refine sv rfl (opv_mv rfl) ?_
      refine ssplit 27 rfl (fun hc => ?_) (fun hc => ?_)
      · replace h := ite_t hc h
        clear hc
        refine soff rfl rfl rfl rfl ?_
        refine soff rfl rfl rfl rfl ?_
        refine soff rfl rfl rfl rfl ?_
        refine soff rfl rfl rfl rfl ?_
        refine soff rfl rfl rfl rfl ?_
        refine soff rfl rfl rfl rfl ?_
        refine soff rfl rfl rfl rfl ?_
        refine sv rfl (opv_pick_t rfl rfl) ?_
        refine snil ?_
        refine ccond rfl (fun _ => ?_) (fun hx => Bool.noConfusion hx)
        refine cseq ?_
        refine cregion ?_
        refine sv rfl (opv_build zi43 pi43 parts_nil (.nil _)) ?_
        refine sstore sz43 rfl rfl rfl rfl (Nat.le_of_ble_eq_true rfl) ?_
        refine smem [.box [.i .i64 0, .i .u32 ((0#32).toNat : Int), .raw (.slice none 0 0)], .box [.fn 34 [] [.lp 2 0, .lp 3 0], .i .i64 v3.2.1], .box [.i .i64 v3.2.2], .box [.sl v1.2.2.length (v1.2.2.flatMap eU8)], .box [.i .i64 (wI (v2.1.toNat : Int)), .i .u32 ((v3.1.setWidth 32).toNat : Int), .raw (.slice none 0 0)]] rfl ?_
        refine sv rfl (opv_as rfl) ?_
        refine snil ?_
        refine cret ?_
        refine then_ret ?_
        obtain rfl := Option.some.inj h
        refine ⟨Or.inr rfl, _, _, _, (resVs_cons (ResV.agg _ _ _ _ _ ti43 rfl (.lp _ _ _ rfl) (Nat.le_of_ble_eq_true rfl)) (resVs_cons (ResV.tmp _ _ rfl) resVs_nil)), (pubC rfl), ?_⟩
        rfl
      · replace h := ite_f hc h
        clear hc
        refine son rfl rfl rfl ?_
        refine sv rfl (opv_mv rfl) ?_
        refine son rfl rfl rfl ?_
        refine sv rfl (opv_len_sl si22 rfl) ?_
        refine son rfl rfl rfl ?_
        refine sv rfl (opv_fieldAddr_lp fi43_0 rfl) ?_
        refine son rfl rfl rfl ?_
        refine sv rfl (opv_fieldAddr_lp fi41_0 rfl) ?_
        refine son rfl rfl rfl ?_
        refine sv rfl (opv_load1 ti3 rfl (.lp _ _ _ rfl) rfl) ?_
        refine son rfl rfl rfl ?_
        refine sv rfl (opv_add rfl rfl) ?_
        refine son rfl rfl rfl ?_
        refine sv rfl (opv_lss rfl rfl) ?_
        refine sv rfl (opv_pick_f rfl rfl) ?_
        refine snil ?_
        refine ccond rfl (fun hc => ?_) (fun hc => ?_)
        · replace h := ite_t hc h
          clear hc
          refine cseq ?_
          refine cregion ?_
          refine sv rfl (opv_build zi43 pi43 parts_nil (.nil _)) ?_
          refine sstore sz43 rfl rfl rfl rfl (Nat.le_of_ble_eq_true rfl) ?_
          refine smem [.box [.i .i64 0, .i .u32 ((0#32).toNat : Int), .raw (.slice none 0 0)], .box [.fn 34 [] [.lp 2 0, .lp 3 0], .i .i64 v3.2.1], .box [.i .i64 v3.2.2], .box [.sl v1.2.2.length (v1.2.2.flatMap eU8)], .box [.i .i64 (wI (v2.1.toNat : Int)), .i .u32 ((v3.1.setWidth 32).toNat : Int), .raw (.slice none 0 0)]] rfl ?_
          refine sv rfl (opv_as rfl) ?_
          refine snil ?_
          refine cret ?_
          refine then_ret ?_
          obtain rfl := Option.some.inj h
          refine ⟨Or.inr rfl, _, _, _, (resVs_cons (ResV.agg _ _ _ _ _ ti43 rfl (.lp _ _ _ rfl) (Nat.le_of_ble_eq_true rfl)) (resVs_cons (ResV.tmp _ _ rfl) resVs_nil)), (pubC rfl), ?_⟩
          rfl
        · replace h := ite_f hc h
          clear hc
          refine cskip ?_
          refine then_normal ?_
          exact ⟨(), _, h, ⟨rfl, rfl, rfl, trivial⟩, rfl⟩

def m25_slices_Clone (a0 : List UInt8) : Option (List UInt8) :=
  if (([] : List UInt8).length + a0.length) * 1 ≤ 140737488355328 then (some (([] : List UInt8) ++ a0)) else none

set_option maxRecDepth 100000 in
theorem m25_slices_Clone_c {a0 : List UInt8} {r : (List UInt8)} (h : m25_slices_Clone a0 = some r) : CallsA Try.prog 25 [.one (.sl a0.length (a0.flatMap eU8))] (· = .s (.one (.sl r.length (r.flatMap eU8)))) := by
  unfold m25_slices_Clone at h
  refine callsA_of Try.func25 rfl (nt := 8) rfl (Nat.le_of_ble_eq_true rfl) ?_
  intro w0 S0
  refine cseq ?_
  refine cregion ?_
  refine sv rfl (opv_as rfl) ?_
  refine snil ?_
  refine cseq ?_
  refine cseq ?_
  refine cregion ?_
  refine sv rfl (opv_mv rfl) ?_
  refine snilq rfl Try.underlying22 rfl (fun nq hnq => ?_)
  cases nq
  · skip
    refine snil ?_
    refine ccond rfl (fun hx => Bool.noConfusion hx) (fun _ => ?_)
    refine cskip ?_
    refine then_normal ?_
    refine cseq ?_
    refine cregion ?_
    refine sbuild0 rfl Try.underlying22 ei5 ?_
    refine sv rfl (opv_mv rfl) ?_
    obtain ⟨hb1, h⟩ := chk_eq h
    refine sapp (f := eU8) (xs := ([] : List UInt8)) (us := a0) rfl Try.underlying22 ei5 ni22 (fun _ => rfl) rfl rfl (.one _ _ _ _ (.id _ rfl)) rfl rfl rfl (.sl _ _ _ (flat_len (f := eU8) (fun _ => rfl) _)) rfl rfl hb1 (by decide) ?_
    refine sv rfl (opv_as rfl) ?_
    refine snil ?_
    refine cret ?_
    obtain rfl := Option.some.inj h
    refine ⟨Or.inr rfl, _, _, _, (resVs_cons (ResV.tmp _ _ rfl) resVs_nil), (by (repeat' first | exact PubA.nil _ | apply PubA.cons | apply PubV.one | apply PubV.agg | exact PubL.nil | exact PubL.ls _ _ _ _ _ _ rfl (flat_len (f := eU8) (fun _ => rfl) _).symm | exact PubL.id _ rfl | exact PubLs.nil _ | apply PubLs.cons)), ?_⟩
    rfl
  · obtain rfl := List.eq_nil_of_length_eq_zero (hnq rfl)
    replace h : (some ([] : List UInt8)) = some r := by first | exact h | (rw [if_pos (by decide)] at h; exact h)
    refine snil ?_
    refine ccond rfl (fun _ => ?_) (fun hx => Bool.noConfusion hx)
    refine cseq ?_
    refine cregion ?_
    refine sv rfl (opv_as rfl) ?_
    refine snil ?_
    refine cret ?_
    refine then_ret ?_
    obtain rfl := Option.some.inj h
    refine ⟨Or.inr rfl, _, _, _, (resVs_cons (ResV.tmp _ _ rfl) resVs_nil), (pubC rfl), ?_⟩
    rfl

def m10_frame_Read_k1 (a0 : List UInt8) (a1 : Int) (b1 : Unit) : Option ((List UInt8) × Int × Int) :=
  (cut a0 a1 (a0.length : Int)).bind fun c2 => (m24_frame_open c2).bind fun v3 => if (!decide (v3.2 = 0)) then (some (([] : List UInt8), 0, v3.2)) else ((m25_slices_Clone v3.1.payload_).bind fun v4 => some (v4, (wI ((wI (a1 + 6)) + v3.1.head_.size_)), 0))
def m10_frame_Read (a0 : List UInt8) (a1 : Int) : Option ((List UInt8) × Int × Int) :=
  if (decide (a1 < 0)) then (some (([] : List UInt8), 0, 1)) else (if (decide ((a0.length : Int) < a1)) then (some (([] : List UInt8), 0, 1)) else (m10_frame_Read_k1 a0 a1 ()))

set_option maxRecDepth 100000 in
theorem m10_frame_Read_c {a0 : List UInt8} {a1 : Int} {r : (List UInt8) × Int × Int} (h : m10_frame_Read a0 a1 = some r) : CallsA Try.prog 10 [.one (.sl a0.length (a0.flatMap eU8)), .one (.i .i64 a1)] (· = .tup [.one (.sl r.1.length (r.1.flatMap eU8)), .one (.i .i64 r.2.1), .one (.i .i64 r.2.2)]) := by
  unfold m10_frame_Read at h
  refine callsA_of Try.func10 rfl (nt := 36) rfl (Nat.le_of_ble_eq_true rfl) ?_
  intro w0 S0
  refine cseq ?_
  refine cregion ?_
  refine sv rfl (opv_as rfl) ?_
  refine sv rfl (opv_as rfl) ?_
  refine sv rfl (opv_as rfl) ?_
  refine snil ?_
  refine cseq ?_
  refine cseq ?_
  refine cjoin3 (Unit) (fun b1 => [(0, .s (.one (.sl a0.length (a0.flatMap eU8)))), (1, .s (.one (.i .i64 a1)))]) (fun b1 => []) (fun b1 => m10_frame_Read_k1 a0 a1 b1 = some r) (fun _ _ => inbL_of rfl) (fun _ _ => blkinb_of rfl) (fun _ _ => Nat.le_of_ble_eq_true rfl) (fun b1 h => ?_) ?_
  · unfold m10_frame_Read_k1 at h
    refine cseq ?_
    refine cregion ?_
    refine sv rfl (opv_mv rfl) ?_
    refine sv rfl (opv_mv rfl) ?_
    obtain ⟨c2, hc2, h⟩ := bind_eq h
    refine sv rfl (opv_cut (f := eU8) (lo := a1) (hi := (a0.length : Int)) si22 (fun _ => rfl) rfl rfl rfl (bound_some rfl (cut_eq hc2).1.1) (by exact rfl) hc2) ?_
    obtain ⟨v3, hv3, h⟩ := bind_eq h
    refine scall1 rfl fn24 (opnds_cons rfl opnds_nil) (pubA_id rfl) (m24_frame_open_c hv3) ?_
    refine sv rfl (opv_mvt rfl) ?_
    refine sv rfl (opv_extract rfl rfl) ?_
    refine sv rfl (opv_extract rfl rfl) ?_
    refine salloc rfl zi43 ?_
    refine sstore sz43 rfl rfl rfl rfl (Nat.le_of_ble_eq_true rfl) ?_
    refine smem [.box [.i .i64 v3.1.head_.size_, .i .u32 (v3.1.head_.sum_.toNat : Int), .sl v3.1.payload_.length (v3.1.payload_.flatMap eU8)]] rfl ?_
    refine sv rfl (opv_as rfl) ?_
    refine snil ?_
    refine cseq ?_
    refine cseq ?_
    refine cregion ?_
    refine sv rfl (opv_mv rfl) ?_
    refine sv rfl (opv_ineq rfl rfl) ?_
    refine snil ?_
    refine ccond rfl (fun hc => ?_) (fun hc => ?_)
    · replace h := ite_t hc h
      clear hc
      refine cseq ?_
      refine cregion ?_
      refine sv rfl (opv_mv rfl) ?_
      refine sv rfl (opv_as rfl) ?_
      refine sv rfl (opv_as rfl) ?_
      refine sv rfl (opv_as rfl) ?_
      refine snil ?_
      refine cret ?_
      refine then_ret ?_
      obtain rfl := Option.some.inj h
      refine ⟨Or.inr rfl, _, _, _, (resVs_cons (ResV.tmp _ _ rfl) (resVs_cons (ResV.tmp _ _ rfl) (resVs_cons (ResV.tmp _ _ rfl) resVs_nil))), (pubC rfl), ?_⟩
      rfl
    · replace h := ite_f hc h
      clear hc
      refine cskip ?_
      refine then_normal ?_
      refine cseq ?_
      obtain ⟨v4, hv4, h⟩ := bind_eq h
      refine cdraw_e [] [0, 1, 3, 0, 8, 0, 32, 96, 248, 7, 1023, 2047] [[.box [.i .i64 v3.1.head_.size_, .i .u32 (v3.1.head_.sum_.toNat : Int), .sl v3.1.payload_.length (v3.1.payload_.flatMap eU8)]]] (by kernel_rfl) mixed (by kernel_rfl) (by decide) rfl rfl rfl rfl ?_
      refine ev (sees_at 0 rfl rfl) rfl rfl (opv_fieldAddr_lp fi43_1 rfl) ?_
      refine ev (sees_at 0 rfl rfl) rfl rfl (opv_load1 ti22 rfl (.lp _ _ _ rfl) rfl) ?_
      refine ed (sees_at 0 rfl rfl) rfl rfl (opD_call fn25 (opnds_cons rfl opnds_nil) rfl (m25_slices_Clone_c hv4)) ?_
      refine ev (sees_at 0 rfl rfl) rfl rfl (opv_mv rfl) ?_
      refine ev (sees_at 0 rfl rfl) rfl rfl (opv_add rfl rfl) ?_
      refine ev (sees_at 0 rfl rfl) rfl rfl (opv_fieldAddr_lp fi43_0 rfl) ?_
      refine ev (sees_at 0 rfl rfl) rfl rfl (opv_fieldAddr_lp fi41_0 rfl) ?_
      refine ev (sees_at 0 rfl rfl) rfl rfl (opv_load1 ti3 rfl (.lp _ _ _ rfl) rfl) ?_
      refine ev (sees_at 0 rfl rfl) rfl rfl (opv_add rfl rfl) ?_
      refine ev (sees_at 0 rfl rfl) rfl rfl (opv_as rfl) ?_
      refine ev (sees_at 0 rfl rfl) rfl rfl (opv_as rfl) ?_
      refine ev (sees_at 0 rfl rfl) rfl rfl (opv_as rfl) ?_
      refine enil ?_
      refine then_normal ?_
      refine cret ?_
      obtain rfl := Option.some.inj h
      refine ⟨Or.inr rfl, _, _, _, (resVs_cons (ResV.tmp _ _ rfl) (resVs_cons (ResV.tmp _ _ rfl) (resVs_cons (ResV.tmp _ _ rfl) resVs_nil))), (pubA_id rfl), ?_⟩
      rfl
  · skip
    refine cregion ?_
    refine sv rfl (opv_mv rfl) ?_
    refine sv rfl (opv_lss rfl rfl) ?_
    refine sv rfl (opv_mv rfl) ?_
    refine ssplit 11 rfl (fun hc => ?_) (fun hc => ?_)
    · replace h := ite_t hc h
      clear hc
      refine soff rfl rfl rfl rfl ?_
      refine soff rfl rfl rfl rfl ?_
      refine soff rfl rfl rfl rfl ?_
      refine soff rfl rfl rfl rfl ?_
      refine sv rfl (opv_pick_t rfl rfl) ?_
      refine snil ?_
      refine ccond rfl (fun _ => ?_) (fun hx => Bool.noConfusion hx)
      refine cseq ?_
      refine cregion ?_
      refine sv rfl (opv_as rfl) ?_
      refine sv rfl (opv_as rfl) ?_
      refine sv rfl (opv_as rfl) ?_
      refine snil ?_
      refine cret ?_
      refine then_ret ?_
      obtain rfl := Option.some.inj h
      refine ⟨Or.inr rfl, _, _, _, (resVs_cons (ResV.tmp _ _ rfl) (resVs_cons (ResV.tmp _ _ rfl) (resVs_cons (ResV.tmp _ _ rfl) resVs_nil))), (pubC rfl), ?_⟩
      rfl
    · replace h := ite_f hc h
      clear hc
      refine son rfl rfl rfl ?_
      refine sv rfl (opv_mv rfl) ?_
      refine son rfl rfl rfl ?_
      refine sv rfl (opv_mv rfl) ?_
      refine son rfl rfl rfl ?_
      refine sv rfl (opv_len_sl si22 rfl) ?_
      refine son rfl rfl rfl ?_
      refine sv rfl (opv_gtr rfl rfl) ?_
      refine sv rfl (opv_pick_f rfl rfl) ?_
      refine snil ?_
      refine ccond rfl (fun hc => ?_) (fun hc => ?_)
      · replace h := ite_t hc h
        clear hc
        refine cseq ?_
        refine cregion ?_
        refine sv rfl (opv_as rfl) ?_
        refine sv rfl (opv_as rfl) ?_
        refine sv rfl (opv_as rfl) ?_
        refine snil ?_
        refine cret ?_
        refine then_ret ?_
        obtain rfl := Option.some.inj h
        refine ⟨Or.inr rfl, _, _, _, (resVs_cons (ResV.tmp _ _ rfl) (resVs_cons (ResV.tmp _ _ rfl) (resVs_cons (ResV.tmp _ _ rfl) resVs_nil))), (pubC rfl), ?_⟩
        rfl
      · replace h := ite_f hc h
        clear hc
        refine cskip ?_
        refine then_normal ?_
        exact ⟨(), _, h, ⟨rfl, rfl, trivial⟩, rfl⟩

def m7_l03_awake  : Option Bool :=
  (m8_frame_Put ([] : List UInt8) ([] : List UInt8)).bind fun v1 => (m10_frame_Read v1.1 0).bind fun v2 => (m10_frame_Read [(UInt8.ofBitVec (1#8))] 0).bind fun v3 => if (decide (v1.2 = 0)) then (if (decide (v2.2.2 = 0)) then (if (decide ((v1.1.length : Int) = 6)) then (if (decide ((v2.1.length : Int) = 0)) then (if (decide (v2.2.1 = 6)) then (some (decide (v3.2.2 = 2))) else (some false)) else (some false)) else (some false)) else (some false)) else (some false)

set_option maxRecDepth 100000 in
theorem m7_l03_awake_c  {r : Bool} (h : m7_l03_awake = some r) : CallsA Try.prog 7 [] (· = .s (.one (.b r))) := by
  unfold m7_l03_awake at h
  refine callsA_of Try.func7 rfl (nt := 49) rfl (Nat.le_of_ble_eq_true rfl) ?_
  intro w0 S0
  refine cseq ?_
  refine cregion ?_
  refine sv rfl (opv_as rfl) ?_
  refine snil ?_
  refine cseq ?_
  refine cregion ?_
  obtain ⟨v1, hv1, h⟩ := bind_eq h
  refine scall1 rfl fn8 (opnds_cons rfl (opnds_cons rfl opnds_nil)) (pubC rfl) (m8_frame_Put_c hv1) ?_
  refine sv rfl (opv_mvt rfl) ?_
  refine sv rfl (opv_extract rfl rfl) ?_
  refine sv rfl (opv_extract rfl rfl) ?_
  refine sv rfl (opv_as rfl) ?_
  refine sv rfl (opv_as rfl) ?_
  refine snil ?_
  refine cseq ?_
  refine cregion ?_
  refine sv rfl (opv_mv rfl) ?_
  obtain ⟨v2, hv2, h⟩ := bind_eq h
  refine scall1 rfl fn10 (opnds_cons rfl (opnds_cons rfl opnds_nil)) (pubA_id rfl) (m10_frame_Read_c hv2) ?_
  refine sv rfl (opv_mvt rfl) ?_
  refine sv rfl (opv_extract rfl rfl) ?_
  refine sv rfl (opv_extract rfl rfl) ?_
  refine sv rfl (opv_extract rfl rfl) ?_
  refine sv rfl (opv_as rfl) ?_
  refine sv rfl (opv_as rfl) ?_
  refine sv rfl (opv_as rfl) ?_
  refine snil ?_
  refine cseq ?_
  refine cregion ?_
  refine sbuild1 rfl Try.underlying22 ei5 rfl rfl (List.all_eq_true.1 rfl) (by decide) ?_
  refine smem [.arr 5 1 0 ([(UInt8.ofBitVec (1#8))].flatMap eU8)] rfl ?_
  refine spub 20 rfl (by (repeat' first | exact PubA.nil _ | apply PubA.cons | apply PubV.one | apply PubV.agg | exact PubL.nil | exact PubL.ls _ _ _ _ _ _ rfl (flat_len (f := eU8) (fun _ => rfl) ([(UInt8.ofBitVec (1#8))] : List UInt8)).symm | exact PubL.ls _ _ _ _ _ _ rfl (flat_len (f := eU8) (fun _ => rfl) _).symm | exact PubL.id _ rfl | exact PubLs.nil _ | apply PubLs.cons)) ?_
  obtain ⟨v3, hv3, h⟩ := bind_eq h
  refine scall1 rfl fn10 (opnds_cons rfl (opnds_cons rfl opnds_nil)) (pubA_id rfl) (m10_frame_Read_c hv3) ?_
  refine sv rfl (opv_mvt rfl) ?_
  refine sv rfl (opv_extract rfl rfl) ?_
  refine sv rfl (opv_extract rfl rfl) ?_
  refine sv rfl (opv_extract rfl rfl) ?_
  refine sv rfl (opv_as rfl) ?_
  refine sv rfl (opv_as rfl) ?_
  refine sv rfl (opv_as rfl) ?_
  refine snil ?_
  refine cseq ?_
  refine cregion ?_
  refine sv rfl (opv_mv rfl) ?_
  refine sv rfl (opv_ieql rfl rfl) ?_
  refine sv rfl (opv_mv rfl) ?_
  refine ssplit 27 rfl (fun hc => ?_) (fun hc => ?_)
  · replace h := ite_t hc h
    clear hc
    refine son rfl rfl rfl ?_
    refine sv rfl (opv_mv rfl) ?_
    refine son rfl rfl rfl ?_
    refine sv rfl (opv_ieql rfl rfl) ?_
    refine sv rfl (opv_pick_t rfl rfl) ?_
    refine sv rfl (opv_mv rfl) ?_
    refine ssplit 31 rfl (fun hc => ?_) (fun hc => ?_)
    · replace h := ite_t hc h
      clear hc
      refine son rfl rfl rfl ?_
      refine sv rfl (opv_mv rfl) ?_
      refine son rfl rfl rfl ?_
      refine sv rfl (opv_len_sl si22 rfl) ?_
      refine son rfl rfl rfl ?_
      refine sv rfl (opv_ieql rfl rfl) ?_
      refine sv rfl (opv_pick_t rfl rfl) ?_
      refine sv rfl (opv_mv rfl) ?_
      refine ssplit 36 rfl (fun hc => ?_) (fun hc => ?_)
      · replace h := ite_t hc h
        clear hc
        refine son rfl rfl rfl ?_
        refine sv rfl (opv_mv rfl) ?_
        refine son rfl rfl rfl ?_
        refine sv rfl (opv_len_sl si22 rfl) ?_
        refine son rfl rfl rfl ?_
        refine sv rfl (opv_ieql rfl rfl) ?_
        refine sv rfl (opv_pick_t rfl rfl) ?_
        refine sv rfl (opv_mv rfl) ?_
        refine ssplit 41 rfl (fun hc => ?_) (fun hc => ?_)
        · replace h := ite_t hc h
          clear hc
          refine son rfl rfl rfl ?_
          refine sv rfl (opv_mv rfl) ?_
          refine son rfl rfl rfl ?_
          refine sv rfl (opv_ieql rfl rfl) ?_
          refine sv rfl (opv_pick_t rfl rfl) ?_
          refine sv rfl (opv_mv rfl) ?_
          refine ssplit 45 rfl (fun hc => ?_) (fun hc => ?_)
          · replace h := ite_t hc h
            clear hc
            refine son rfl rfl rfl ?_
            refine sv rfl (opv_mv rfl) ?_
            refine son rfl rfl rfl ?_
            refine sv rfl (opv_ieql rfl rfl) ?_
            refine sv rfl (opv_pick_t rfl rfl) ?_
            refine sv rfl (opv_as rfl) ?_
            refine snil ?_
            refine cret ?_
            obtain rfl := Option.some.inj h
            refine ⟨Or.inr rfl, _, _, _, (resVs_cons (ResV.tmp _ _ rfl) resVs_nil), (pubA_id rfl), ?_⟩
            rfl
          · replace h := ite_f hc h
            clear hc
            refine soff rfl rfl rfl rfl ?_
            refine soff rfl rfl rfl rfl ?_
            refine sv rfl (opv_pick_f rfl rfl) ?_
            refine sv rfl (opv_as rfl) ?_
            refine snil ?_
            refine cret ?_
            obtain rfl := Option.some.inj h
            refine ⟨Or.inr rfl, _, _, _, (resVs_cons (ResV.tmp _ _ rfl) resVs_nil), (pubA_id rfl), ?_⟩
            rfl
        · replace h := ite_f hc h
          clear hc
          refine soff rfl rfl rfl rfl ?_
          refine soff rfl rfl rfl rfl ?_
          refine sv rfl (opv_pick_f rfl rfl) ?_
          refine sv rfl (opv_mv rfl) ?_
          refine soff rfl rfl rfl rfl ?_
          refine soff rfl rfl rfl rfl ?_
          refine sv rfl (opv_pick_f rfl rfl) ?_
          refine sv rfl (opv_as rfl) ?_
          refine snil ?_
          refine cret ?_
          obtain rfl := Option.some.inj h
          refine ⟨Or.inr rfl, _, _, _, (resVs_cons (ResV.tmp _ _ rfl) resVs_nil), (pubA_id rfl), ?_⟩
          rfl
      · replace h := ite_f hc h
        clear hc
        refine soff rfl rfl rfl rfl ?_
        refine soff rfl rfl rfl rfl ?_
        refine soff rfl rfl rfl rfl ?_
        refine sv rfl (opv_pick_f rfl rfl) ?_
        refine sv rfl (opv_mv rfl) ?_
        refine soff rfl rfl rfl rfl ?_
        refine soff rfl rfl rfl rfl ?_
        refine sv rfl (opv_pick_f rfl rfl) ?_
        refine sv rfl (opv_mv rfl) ?_
        refine soff rfl rfl rfl rfl ?_
        refine soff rfl rfl rfl rfl ?_
        refine sv rfl (opv_pick_f rfl rfl) ?_
        refine sv rfl (opv_as rfl) ?_
        refine snil ?_
        refine cret ?_
        obtain rfl := Option.some.inj h
        refine ⟨Or.inr rfl, _, _, _, (resVs_cons (ResV.tmp _ _ rfl) resVs_nil), (pubA_id rfl), ?_⟩
        rfl
    · replace h := ite_f hc h
      clear hc
      refine soff rfl rfl rfl rfl ?_
      refine soff rfl rfl rfl rfl ?_
      refine soff rfl rfl rfl rfl ?_
      refine sv rfl (opv_pick_f rfl rfl) ?_
      refine sv rfl (opv_mv rfl) ?_
      refine soff rfl rfl rfl rfl ?_
      refine soff rfl rfl rfl rfl ?_
      refine soff rfl rfl rfl rfl ?_
      refine sv rfl (opv_pick_f rfl rfl) ?_
      refine sv rfl (opv_mv rfl) ?_
      refine soff rfl rfl rfl rfl ?_
      refine soff rfl rfl rfl rfl ?_
      refine sv rfl (opv_pick_f rfl rfl) ?_
      refine sv rfl (opv_mv rfl) ?_
      refine soff rfl rfl rfl rfl ?_
      refine soff rfl rfl rfl rfl ?_
      refine sv rfl (opv_pick_f rfl rfl) ?_
      refine sv rfl (opv_as rfl) ?_
      refine snil ?_
      refine cret ?_
      obtain rfl := Option.some.inj h
      refine ⟨Or.inr rfl, _, _, _, (resVs_cons (ResV.tmp _ _ rfl) resVs_nil), (pubA_id rfl), ?_⟩
      rfl
  · replace h := ite_f hc h
    clear hc
    refine soff rfl rfl rfl rfl ?_
    refine soff rfl rfl rfl rfl ?_
    refine sv rfl (opv_pick_f rfl rfl) ?_
    refine sv rfl (opv_mv rfl) ?_
    refine soff rfl rfl rfl rfl ?_
    refine soff rfl rfl rfl rfl ?_
    refine soff rfl rfl rfl rfl ?_
    refine sv rfl (opv_pick_f rfl rfl) ?_
    refine sv rfl (opv_mv rfl) ?_
    refine soff rfl rfl rfl rfl ?_
    refine soff rfl rfl rfl rfl ?_
    refine soff rfl rfl rfl rfl ?_
    refine sv rfl (opv_pick_f rfl rfl) ?_
    refine sv rfl (opv_mv rfl) ?_
    refine soff rfl rfl rfl rfl ?_
    refine soff rfl rfl rfl rfl ?_
    refine sv rfl (opv_pick_f rfl rfl) ?_
    refine sv rfl (opv_mv rfl) ?_
    refine soff rfl rfl rfl rfl ?_
    refine soff rfl rfl rfl rfl ?_
    refine sv rfl (opv_pick_f rfl rfl) ?_
    refine sv rfl (opv_as rfl) ?_
    refine snil ?_
    refine cret ?_
    obtain rfl := Option.some.inj h
    refine ⟨Or.inr rfl, _, _, _, (resVs_cons (ResV.tmp _ _ rfl) resVs_nil), (pubA_id rfl), ?_⟩
    rfl

def m21_r01_U_k2 (b2 : (List UInt8)) : Option (List UInt8) :=
  some b2

def m21_r01_U_k4 (s3 : (BitVec 64) × Int × (List UInt8)) (b4 : Unit) : Option (LB ((BitVec 64) × Int × (List UInt8)) ((List UInt8))) :=
  if (s3.2.2.length + [(UInt8.ofBitVec ((s3.1 % (256#64)).setWidth 8))].length) * 1 ≤ 140737488355328 then (some (.cont ((s3.1 / (256#64)), (wI (s3.2.1 + 1)), (s3.2.2 ++ [(UInt8.ofBitVec ((s3.1 % (256#64)).setWidth 8))])))) else none

def m21_r01_U_s3 (a2 : Int) (s3 : (BitVec 64) × Int × (List UInt8)) : Option (LB ((BitVec 64) × Int × (List UInt8)) ((List UInt8))) :=
  if (decide (s3.2.1 < a2)) then (if (decide (s3.2.1 < 8)) then (m21_r01_U_k4 s3 ()) else (some (.brk s3.2.2))) else (some (.brk s3.2.2))
def m21_r01_U (a0 : List UInt8) (a1 : BitVec 64) (a2 : Int) : Option (List UInt8) :=
  if (([] : List UInt8).length + a0.length) * 1 ≤ 140737488355328 then ((iterB (m21_r01_U_s3 a2) fuel (a1, 0, (([] : List UInt8) ++ a0))).bind fun e6 => m21_r01_U_k2 e6) else none

set_option maxRecDepth 100000 in
theorem m21_r01_U_c {a0 : List UInt8} {a1 : BitVec 64} {a2 : Int} {r : (List UInt8)} (h : m21_r01_U a0 a1 a2 = some r) : CallsA Try.prog 21 [.one (.sl a0.length (a0.flatMap eU8)), .one (.i .u64 (a1.toNat : Int)), .one (.i .i64 a2)] (· = .s (.one (.sl r.length (r.flatMap eU8)))) := by
  unfold m21_r01_U at h
  refine callsA_of Try.func21 rfl (nt := 30) rfl (Nat.le_of_ble_eq_true rfl) ?_
  intro w0 S0
  refine cseq ?_
  refine cregion ?_
  refine sv rfl (opv_as rfl) ?_
  refine snil ?_
  refine cseq ?_
  refine cregion ?_
  refine sbuild0 rfl Try.underlying22 ei5 ?_
  refine sv rfl (opv_mv rfl) ?_
  obtain ⟨hb1, h⟩ := chk_eq h
  refine sapp (f := eU8) (xs := ([] : List UInt8)) (us := a0) rfl Try.underlying22 ei5 ni22 (fun _ => rfl) rfl rfl (.one _ _ _ _ (.id _ rfl)) rfl rfl rfl (.sl _ _ _ (flat_len (f := eU8) (fun _ => rfl) _)) rfl rfl hb1 (by decide) ?_
  refine sv rfl (opv_as rfl) ?_
  refine snil ?_
  refine cseq ?_
  refine cseq ?_
  refine cregion ?_
  refine sv rfl (opv_as rfl) ?_
  refine snil ?_
  refine cjoin ((List UInt8)) (fun b2 => [(7, .s (.one (.ls 0 b2.length)))]) (fun b2 => [.arr 5 1 0 (b2.flatMap eU8)]) (fun b2 => m21_r01_U_k2 b2 = some r) (fun _ _ => inbL_of rfl) (fun _ _ => blkinb_of rfl) (fun _ _ => Nat.le_of_ble_eq_true rfl) (fun b2 h => ?_) ?_
  · unfold m21_r01_U_k2 at h
    refine cseq ?_
    refine cregion ?_
    refine sv rfl (opv_mv rfl) ?_
    refine sv rfl (opv_as rfl) ?_
    refine snil ?_
    refine cret ?_
    obtain rfl := Option.some.inj h
    refine ⟨Or.inr rfl, _, _, _, (resVs_cons (ResV.tmp _ _ rfl) resVs_nil), (by (repeat' first | exact PubA.nil _ | apply PubA.cons | apply PubV.one | apply PubV.agg | exact PubL.nil | exact PubL.ls _ _ _ _ _ _ rfl (flat_len (f := eU8) (fun _ => rfl) _).symm | exact PubL.id _ rfl | exact PubLs.nil _ | apply PubLs.cons)), ?_⟩
    rfl
  · skip
    refine cblock ?_
    obtain ⟨x3, hx3, ho3⟩ := bind_eq h
    refine awc_loop (G := Nat × ((BitVec 64) × Int × (List UInt8))) (fun g => [(1, .s (.one (.i .u64 (g.2.1.toNat : Int)))), (2, .s (.one (.i .i64 a2))), (7, .s (.one (.ls 0 g.2.2.2.length))), (8, .s (.one (.i .i64 g.2.2.1)))]) (fun g => [.arr 5 1 0 (g.2.2.2.flatMap eU8)]) (fun g => iterB (m21_r01_U_s3 a2) g.1 g.2 = some x3) (fun g => g.1) (fuel, (a1, 0, (([] : List UInt8) ++ a0))) hx3 ⟨rfl, rfl, rfl, rfl, trivial⟩ [] rfl (fun _ _ => inbL_of rfl) (fun _ _ => blkinb_of rfl) (fun _ _ => Nat.le_of_ble_eq_true rfl) ?_
    clear hx3 h
    rintro ⟨n3, s3⟩ h
    obtain ⟨n3, y3, rfl, h, hk3⟩ := iterB_eq h
    unfold m21_r01_U_s3 at h
    refine cseq ?_
    refine cseq ?_
    refine cjoin3 (Unit) (fun b4 => [(1, .s (.one (.i .u64 (s3.1.toNat : Int)))), (2, .s (.one (.i .i64 a2))), (7, .s (.one (.ls 0 s3.2.2.length))), (8, .s (.one (.i .i64 s3.2.1)))]) (fun b4 => [.arr 5 1 0 (s3.2.2.flatMap eU8)]) (fun b4 => m21_r01_U_k4 s3 b4 = some y3) (fun _ _ => inbL_of rfl) (fun _ _ => blkinb_of rfl) (fun _ _ => Nat.le_of_ble_eq_true rfl) (fun b4 h => ?_) ?_
    · unfold m21_r01_U_k4 at h
      refine cseq ?_
      refine cblock ?_
      refine cseq ?_
      refine cregion ?_
      refine sv rfl (opv_mv rfl) ?_
      refine sv rfl (opv_mv rfl) ?_
      refine sv rfl (opv_rem_u64 (a := s3.1) (b := 256#64) rfl rfl rfl rfl (by decide)) ?_
      refine sv rfl (opv_conv_bv (k := .u64) (a := (s3.1 % (256#64))) rfl Try.underlying46 Try.underlying5 rfl rfl) ?_
      refine sbuild1 rfl Try.underlying22 ei5 rfl rfl (List.all_eq_true.1 rfl) (by decide) ?_
      refine smem [.arr 5 1 0 (s3.2.2.flatMap eU8), .arr 5 1 0 ([(UInt8.ofBitVec ((s3.1 % (256#64)).setWidth 8))].flatMap eU8)] rfl ?_
      obtain ⟨hb5, h⟩ := chk_eq h
      refine sapp (f := eU8) (xs := s3.2.2) (us := [(UInt8.ofBitVec ((s3.1 % (256#64)).setWidth 8))]) rfl Try.underlying22 ei5 ni22 (fun _ => rfl) rfl rfl (.one _ _ _ _ (.ls _ _ _ _ _ _ rfl (flat_len (f := eU8) (fun _ => rfl) [(UInt8.ofBitVec ((s3.1 % (256#64)).setWidth 8))]).symm)) rfl rfl rfl (.sl _ _ _ (flat_len (f := eU8) (fun _ => rfl) _)) rfl rfl hb5 (by decide) ?_
      refine sv rfl (opv_as rfl) ?_
      refine snil ?_
      refine cregion ?_
      refine sv rfl (opv_mv rfl) ?_
      refine sv rfl (opv_quo_u64 (a := s3.1) (b := 256#64) rfl rfl rfl rfl (by decide)) ?_
      refine sv rfl (opv_as rfl) ?_
      refine snil0 ?_
      refine block_normal ?_
      refine then_normal ?_
      refine cregion ?_
      refine sv rfl (opv_mv rfl) ?_
      refine sv rfl (opv_add rfl rfl) ?_
      refine sv rfl (opv_as rfl) ?_
      refine snil ?_
      obtain rfl := Option.some.inj h
      exact ⟨(n3, ((s3.1 / (256#64)), (wI (s3.2.1 + 1)), (s3.2.2 ++ [(UInt8.ofBitVec ((s3.1 % (256#64)).setWidth 8))]))), _, hk3, ⟨rfl, rfl, rfl, rfl, trivial⟩, rfl, Nat.lt_succ_self _⟩
    · skip
      refine cregion ?_
      refine sv rfl (opv_mv rfl) ?_
      refine sv rfl (opv_mv rfl) ?_
      refine sv rfl (opv_lss rfl rfl) ?_
      refine sv rfl (opv_mv rfl) ?_
      refine ssplit 15 rfl (fun hc => ?_) (fun hc => ?_)
      · replace h := ite_t hc h
        clear hc
        refine son rfl rfl rfl ?_
        refine sv rfl (opv_mv rfl) ?_
        refine son rfl rfl rfl ?_
        refine sv rfl (opv_lss rfl rfl) ?_
        refine sv rfl (opv_pick_t rfl rfl) ?_
        refine snil ?_
        refine ccond rfl (fun hc => ?_) (fun hc => ?_)
        · replace h := ite_t hc h
          clear hc
          refine cskip ?_
          refine then_normal ?_
          exact ⟨(), _, h, ⟨rfl, rfl, rfl, rfl, trivial⟩, rfl⟩
        · replace h := ite_f hc h
          clear hc
          refine cexit ?_
          refine then_exit ?_
          refine then_exit ?_
          refine block_hit ?_
          refine then_normal ?_
          obtain rfl := Option.some.inj h
          obtain rfl : _ = x3 := hk3
          exact ⟨s3.2.2, _, ho3, ⟨rfl, trivial⟩, rfl⟩
      · replace h := ite_f hc h
        clear hc
        refine soff rfl rfl rfl rfl ?_
        refine soff rfl rfl rfl rfl ?_
        refine sv rfl (opv_pick_f rfl rfl) ?_
        refine snil ?_
        refine ccond rfl (fun hx => Bool.noConfusion hx) (fun _ => ?_)
        refine cexit ?_
        refine then_exit ?_
        refine then_exit ?_
        refine block_hit ?_
        refine then_normal ?_
        obtain rfl := Option.some.inj h
        obtain rfl : _ = x3 := hk3
        exact ⟨s3.2.2, _, ho3, ⟨rfl, trivial⟩, rfl⟩

def m28_r02_eight_k1 (b1 : (BitVec 32)) : Option (BitVec 32) :=
  some b1

def m28_r02_eight_s2 (s2 : (BitVec 32) × Int) : Option (LB ((BitVec 32) × Int) ((BitVec 32))) :=
  if (decide (s2.2 < 8)) then (if (decide (((s2.1 % (2#32)).toNat : Int) = (1 : Int))) then (some (.cont (((s2.1 / (2#32)) ^^^ (3988292384#32)), (wI (s2.2 + 1))))) else (some (.cont ((s2.1 / (2#32)), (wI (s2.2 + 1)))))) else (some (.brk s2.1))
def m28_r02_eight (a0 : BitVec 32) : Option (BitVec 32) :=
  (iterB m28_r02_eight_s2 fuel (a0, 0)).bind fun e3 => m28_r02_eight_k1 e3

set_option maxRecDepth 100000 in
theorem m28_r02_eight_c {a0 : BitVec 32} {r : (BitVec 32)} (h : m28_r02_eight a0 = some r) : CallsA Try.prog 28 [.one (.i .u32 (a0.toNat : Int))] (· = .s (.one (.i .u32 (r.toNat : Int)))) := by
  unfold m28_r02_eight at h
  refine callsA_of Try.func28 rfl (nt := 18) rfl (Nat.le_of_ble_eq_true rfl) ?_
  intro w0 S0
  refine cseq ?_
  refine cregion ?_
  refine sv rfl (opv_as rfl) ?_
  refine snil ?_
  refine cseq ?_
  refine cseq ?_
  refine cregion ?_
  refine sv rfl (opv_as rfl) ?_
  refine snil ?_
  refine cjoin ((BitVec 32)) (fun b1 => [(0, .s (.one (.i .u32 (b1.toNat : Int))))]) (fun b1 => []) (fun b1 => m28_r02_eight_k1 b1 = some r) (fun _ _ => inbL_of rfl) (fun _ _ => blkinb_of rfl) (fun _ _ => Nat.le_of_ble_eq_true rfl) (fun b1 h => ?_) ?_
  · unfold m28_r02_eight_k1 at h
    refine cseq ?_
    refine cregion ?_
    refine sv rfl (opv_mv rfl) ?_
    refine sv rfl (opv_as rfl) ?_
    refine snil ?_
    refine cret ?_
    obtain rfl := Option.some.inj h
    refine ⟨Or.inr rfl, _, _, _, (resVs_cons (ResV.tmp _ _ rfl) resVs_nil), (pubA_id rfl), ?_⟩
    rfl
  · skip
    refine cblock ?_
    obtain ⟨x2, hx2, ho2⟩ := bind_eq h
    refine awc_loop (G := Nat × ((BitVec 32) × Int)) (fun g => [(0, .s (.one (.i .u32 (g.2.1.toNat : Int)))), (3, .s (.one (.i .i64 g.2.2)))]) (fun g => []) (fun g => iterB m28_r02_eight_s2 g.1 g.2 = some x2) (fun g => g.1) (fuel, (a0, 0)) hx2 ⟨rfl, rfl, trivial⟩ [] rfl (fun _ _ => inbL_of rfl) (fun _ _ => blkinb_of rfl) (fun _ _ => Nat.le_of_ble_eq_true rfl) ?_
    clear hx2 h
    rintro ⟨n2, s2⟩ h
    obtain ⟨n2, y2, rfl, h, hk2⟩ := iterB_eq h
    unfold m28_r02_eight_s2 at h
    refine cseq ?_
    refine cseq ?_
    refine cregion ?_
    refine sv rfl (opv_mv rfl) ?_
    refine sv rfl (opv_lss rfl rfl) ?_
    refine snil ?_
    refine ccond rfl (fun hc => ?_) (fun hc => ?_)
    · replace h := ite_t hc h
      clear hc
      refine cskip ?_
      refine then_normal ?_
      refine cseq ?_
      refine cblock ?_
      refine cseq ?_
      refine cregion ?_
      refine sv rfl (opv_mv rfl) ?_
      refine sv rfl (opv_rem_u32 (a := s2.1) (b := 2#32) rfl rfl rfl rfl (by decide)) ?_
      refine sv rfl (opv_as rfl) ?_
      refine snil ?_
      refine cseq ?_
      refine cregion ?_
      refine sv rfl (opv_mv rfl) ?_
      refine sv rfl (opv_quo_u32 (a := s2.1) (b := 2#32) rfl rfl rfl rfl (by decide)) ?_
      refine sv rfl (opv_as rfl) ?_
      refine snil ?_
      refine cseq ?_
      refine cregion ?_
      refine sv rfl (opv_mv rfl) ?_
      refine sv rfl (opv_ieql rfl rfl) ?_
      refine snil ?_
      refine ccond rfl (fun hc => ?_) (fun hc => ?_)
      · replace h := ite_t hc h
        clear hc
        refine cregion ?_
        refine sv rfl (opv_mv rfl) ?_
        refine sv rfl (opv_xor_u32 (a := (s2.1 / (2#32))) (b := 3988292384#32) rfl rfl rfl rfl) ?_
        refine sv rfl (opv_as rfl) ?_
        refine snil0 ?_
        refine block_normal ?_
        refine then_normal ?_
        refine cregion ?_
        refine sv rfl (opv_mv rfl) ?_
        refine sv rfl (opv_add rfl rfl) ?_
        refine sv rfl (opv_as rfl) ?_
        refine snil ?_
        obtain rfl := Option.some.inj h
        exact ⟨(n2, (((s2.1 / (2#32)) ^^^ (3988292384#32)), (wI (s2.2 + 1)))), _, hk2, ⟨rfl, rfl, trivial⟩, rfl, Nat.lt_succ_self _⟩
      · replace h := ite_f hc h
        clear hc
        refine cskip ?_
        refine block_normal ?_
        refine then_normal ?_
        refine cregion ?_
        refine sv rfl (opv_mv rfl) ?_
        refine sv rfl (opv_add rfl rfl) ?_
        refine sv rfl (opv_as rfl) ?_
        refine snil ?_
        obtain rfl := Option.some.inj h
        exact ⟨(n2, ((s2.1 / (2#32)), (wI (s2.2 + 1)))), _, hk2, ⟨rfl, rfl, trivial⟩, rfl, Nat.lt_succ_self _⟩
    · replace h := ite_f hc h
      clear hc
      refine cexit ?_
      refine then_exit ?_
      refine then_exit ?_
      refine block_hit ?_
      refine then_normal ?_
      obtain rfl := Option.some.inj h
      obtain rfl : _ = x2 := hk2
      exact ⟨s2.1, _, ho2, ⟨rfl, trivial⟩, rfl⟩

def m22_r02_More_k1 (b1 : (BitVec 32)) : Option (BitVec 32) :=
  some ((4294967295#32) - b1)

def m22_r02_More_s2 (a1 : List UInt8) (s2 : (BitVec 32) × Int) : Option (LB ((BitVec 32) × Int) ((BitVec 32))) :=
  if (decide (s2.2 < (a1.length : Int))) then ((idx a1 s2.2).bind fun u3 => (m28_r02_eight (s2.1 ^^^ (u3.toBitVec.setWidth 32))).bind fun v4 => some (.cont (v4, (wI (s2.2 + 1))))) else (some (.brk s2.1))
def m22_r02_More (a0 : BitVec 32) (a1 : List UInt8) : Option (BitVec 32) :=
  (iterB (m22_r02_More_s2 a1) fuel (((4294967295#32) - a0), 0)).bind fun e5 => m22_r02_More_k1 e5

set_option maxRecDepth 100000 in
theorem m22_r02_More_c {a0 : BitVec 32} {a1 : List UInt8} {r : (BitVec 32)} (h : m22_r02_More a0 a1 = some r) : CallsA Try.prog 22 [.one (.i .u32 (a0.toNat : Int)), .one (.sl a1.length (a1.flatMap eU8))] (· = .s (.one (.i .u32 (r.toNat : Int)))) := by
  unfold m22_r02_More at h
  refine callsA_of Try.func22 rfl (nt := 25) rfl (Nat.le_of_ble_eq_true rfl) ?_
  intro w0 S0
  refine cseq ?_
  refine cregion ?_
  refine sv rfl (opv_as rfl) ?_
  refine snil ?_
  refine cseq ?_
  refine cregion ?_
  refine sv rfl (opv_mv rfl) ?_
  refine sv rfl (opv_sub_u32 (a := 4294967295#32) (b := a0) rfl rfl rfl rfl) ?_
  refine sv rfl (opv_as rfl) ?_
  refine snil ?_
  refine cseq ?_
  refine cseq ?_
  refine cregion ?_
  refine sv rfl (opv_as rfl) ?_
  refine snil ?_
  refine cjoin ((BitVec 32)) (fun b1 => [(5, .s (.one (.i .u32 (b1.toNat : Int))))]) (fun b1 => []) (fun b1 => m22_r02_More_k1 b1 = some r) (fun _ _ => inbL_of rfl) (fun _ _ => blkinb_of rfl) (fun _ _ => Nat.le_of_ble_eq_true rfl) (fun b1 h => ?_) ?_
  · unfold m22_r02_More_k1 at h
    refine cseq ?_
    refine cregion ?_
    refine sv rfl (opv_mv rfl) ?_
    refine sv rfl (opv_sub_u32 (a := 4294967295#32) (b := b1) rfl rfl rfl rfl) ?_
    refine sv rfl (opv_as rfl) ?_
    refine snil ?_
    refine cret ?_
    obtain rfl := Option.some.inj h
    refine ⟨Or.inr rfl, _, _, _, (resVs_cons (ResV.tmp _ _ rfl) resVs_nil), (pubA_id rfl), ?_⟩
    rfl
  · skip
    refine cblock ?_
    obtain ⟨x2, hx2, ho2⟩ := bind_eq h
    refine awc_loop (G := Nat × ((BitVec 32) × Int)) (fun g => [(1, .s (.one (.sl a1.length (a1.flatMap eU8)))), (5, .s (.one (.i .u32 (g.2.1.toNat : Int)))), (6, .s (.one (.i .i64 g.2.2)))]) (fun g => []) (fun g => iterB (m22_r02_More_s2 a1) g.1 g.2 = some x2) (fun g => g.1) (fuel, (((4294967295#32) - a0), 0)) hx2 ⟨rfl, rfl, rfl, trivial⟩ [] rfl (fun _ _ => inbL_of rfl) (fun _ _ => blkinb_of rfl) (fun _ _ => Nat.le_of_ble_eq_true rfl) ?_
    clear hx2 h
    rintro ⟨n2, s2⟩ h
    obtain ⟨n2, y2, rfl, h, hk2⟩ := iterB_eq h
    unfold m22_r02_More_s2 at h
    refine cseq ?_
    refine cseq ?_
    refine cregion ?_
    refine sv rfl (opv_mv rfl) ?_
    refine sv rfl (opv_mv rfl) ?_
    refine sv rfl (opv_len_sl si22 rfl) ?_
    refine sv rfl (opv_lss rfl rfl) ?_
    refine snil ?_
    refine ccond rfl (fun hc => ?_) (fun hc => ?_)
    · replace h := ite_t hc h
      clear hc
      refine cskip ?_
      refine then_normal ?_
      refine cseq ?_
      refine cblock ?_
      refine cregion ?_
      refine sv rfl (opv_mv rfl) ?_
      refine sv rfl (opv_mv rfl) ?_
      refine sv rfl (opv_mv rfl) ?_
      obtain ⟨u3, hu3, h⟩ := bind_eq h
      refine sv rfl (opv_ix (f := eU8) si22 (fun _ => rfl) rfl rfl rfl rfl hu3) ?_
      refine sv rfl (opv_load1 ti5 rfl (.cp _) rfl) ?_
      refine sv rfl (opv_conv_bv (k := .u8) (a := u3.toBitVec) rfl Try.underlying5 Try.underlying39 rfl rfl) ?_
      refine sv rfl (opv_xor_u32 (a := s2.1) (b := (u3.toBitVec.setWidth 32)) rfl rfl rfl rfl) ?_
      obtain ⟨v4, hv4, h⟩ := bind_eq h
      refine scall1 rfl fn28 (opnds_cons rfl opnds_nil) (pubA_id rfl) (m28_r02_eight_c hv4) ?_
      refine sv rfl (opv_as rfl) ?_
      refine snil0 ?_
      refine block_normal ?_
      refine then_normal ?_
      refine cregion ?_
      refine sv rfl (opv_mv rfl) ?_
      refine sv rfl (opv_add rfl rfl) ?_
      refine sv rfl (opv_as rfl) ?_
      refine snil ?_
      obtain rfl := Option.some.inj h
      exact ⟨(n2, (v4, (wI (s2.2 + 1)))), _, hk2, ⟨rfl, rfl, rfl, trivial⟩, rfl, Nat.lt_succ_self _⟩
    · replace h := ite_f hc h
      clear hc
      refine cexit ?_
      refine then_exit ?_
      refine then_exit ?_
      refine block_hit ?_
      refine then_normal ?_
      obtain rfl := Option.some.inj h
      obtain rfl : _ = x2 := hk2
      exact ⟨s2.1, _, ho2, ⟨rfl, trivial⟩, rfl⟩

def m23_r02_Of (a0 : List UInt8) : Option (BitVec 32) :=
  (m22_r02_More (0#32) a0).bind fun v1 => some v1

set_option maxRecDepth 100000 in
theorem m23_r02_Of_c {a0 : List UInt8} {r : (BitVec 32)} (h : m23_r02_Of a0 = some r) : CallsA Try.prog 23 [.one (.sl a0.length (a0.flatMap eU8))] (· = .s (.one (.i .u32 (r.toNat : Int)))) := by
  unfold m23_r02_Of at h
  refine callsA_of Try.func23 rfl (nt := 5) rfl (Nat.le_of_ble_eq_true rfl) ?_
  intro w0 S0
  refine cseq ?_
  refine cregion ?_
  refine sv rfl (opv_as rfl) ?_
  refine snil ?_
  refine cseq ?_
  refine cregion ?_
  refine sv rfl (opv_mv rfl) ?_
  obtain ⟨v1, hv1, h⟩ := bind_eq h
  refine scall1 rfl fn22 (opnds_cons rfl (opnds_cons rfl opnds_nil)) (pubA_id rfl) (m22_r02_More_c hv1) ?_
  refine sv rfl (opv_as rfl) ?_
  refine snil ?_
  refine cret ?_
  obtain rfl := Option.some.inj h
  refine ⟨Or.inr rfl, _, _, _, (resVs_cons (ResV.tmp _ _ rfl) resVs_nil), (pubA_id rfl), ?_⟩
  rfl

def m21_r01_Uo_k2 (b2 : (List UInt8)) : Option (List UInt8) :=
  some b2

def m21_r01_Uo_k4 (s3 : (BitVec 64) × Int × (List UInt8)) (b4 : Unit) : Option (LB ((BitVec 64) × Int × (List UInt8)) ((List UInt8))) :=
  if (s3.2.2.length + [(UInt8.ofBitVec ((s3.1 % (256#64)).setWidth 8))].length) * 1 ≤ 140737488355328 then (some (.cont ((s3.1 / (256#64)), (wI (s3.2.1 + 1)), (s3.2.2 ++ [(UInt8.ofBitVec ((s3.1 % (256#64)).setWidth 8))])))) else none

def m21_r01_Uo_s3 (a2 : Int) (s3 : (BitVec 64) × Int × (List UInt8)) : Option (LB ((BitVec 64) × Int × (List UInt8)) ((List UInt8))) :=
  if (decide (s3.2.1 < a2)) then (if (decide (s3.2.1 < 8)) then (m21_r01_Uo_k4 s3 ()) else (some (.brk s3.2.2))) else (some (.brk s3.2.2))
def m21_r01_Uo (a0 : List UInt8) (a1 : BitVec 64) (a2 : Int) : Option (List UInt8) :=
  if (([] : List UInt8).length + a0.length) * 1 ≤ 140737488355328 then ((iterB (m21_r01_Uo_s3 a2) fuel (a1, 0, (([] : List UInt8) ++ a0))).bind fun e6 => m21_r01_Uo_k2 e6) else none

set_option maxRecDepth 100000 in
theorem m21_r01_Uo_c {a0 : List UInt8} {a1 : BitVec 64} {a2 : Int} {r : (List UInt8)} (h : m21_r01_Uo a0 a1 a2 = some r) : CallsB Try.prog 21 [] [.one (.sl a0.length (a0.flatMap eU8)), .one (.i .u64 (a1.toNat : Int)), .one (.i .i64 a2)] (fun y m' => y = .s (.one (.ls 0 r.length)) ∧ m' = [.arr 5 1 0 (r.flatMap eU8)]) := by
  unfold m21_r01_Uo at h
  refine callsB_of Try.func21 rfl (nt := 30) rfl (Nat.le_of_ble_eq_true rfl) ?_
  intro w0 S0 X0 H0
  refine cseq ?_
  refine cregion ?_
  refine sv rfl (opv_as rfl) ?_
  refine snil ?_
  refine cseq ?_
  refine cregion ?_
  refine sbuild0 rfl Try.underlying22 ei5 ?_
  refine sv rfl (opv_mv rfl) ?_
  obtain ⟨hb1, h⟩ := chk_eq h
  refine sapp (f := eU8) (xs := ([] : List UInt8)) (us := a0) rfl Try.underlying22 ei5 ni22 (fun _ => rfl) rfl rfl (.one _ _ _ _ (.id _ rfl)) rfl rfl rfl (.sl _ _ _ (flat_len (f := eU8) (fun _ => rfl) _)) rfl rfl hb1 (by decide) ?_
  refine sv rfl (opv_as rfl) ?_
  refine snil ?_
  refine cseq ?_
  refine cseq ?_
  refine cregion ?_
  refine sv rfl (opv_as rfl) ?_
  refine snil ?_
  refine cjoin ((List UInt8)) (fun b2 => [(7, .s (.one (.ls 0 b2.length)))]) (fun b2 => [.arr 5 1 0 (b2.flatMap eU8)]) (fun b2 => m21_r01_Uo_k2 b2 = some r) (fun _ _ => inbL_of rfl) (fun _ _ => blkinb_of rfl) (fun _ _ => Nat.le_of_ble_eq_true rfl) (fun b2 h => ?_) ?_
  · unfold m21_r01_Uo_k2 at h
    refine cseq ?_
    refine cregion ?_
    refine sv rfl (opv_mv rfl) ?_
    refine sv rfl (opv_as rfl) ?_
    refine snil ?_
    refine cret ?_
    obtain rfl := Option.some.inj h
    exact ⟨Or.inr rfl, _, [0], [.one (.ls 0 b2.length)], [.arr 5 1 0 (b2.flatMap eU8)], (resVs_cons (ResV.tmp _ _ rfl) resVs_nil), rfl, rfl, ⟨by decide, rfl⟩, rfl, rfl, ⟨rfl, rfl⟩⟩
  · skip
    refine cblock ?_
    obtain ⟨x3, hx3, ho3⟩ := bind_eq h
    refine awc_loop (G := Nat × ((BitVec 64) × Int × (List UInt8))) (fun g => [(1, .s (.one (.i .u64 (g.2.1.toNat : Int)))), (2, .s (.one (.i .i64 a2))), (7, .s (.one (.ls 0 g.2.2.2.length))), (8, .s (.one (.i .i64 g.2.2.1)))]) (fun g => [.arr 5 1 0 (g.2.2.2.flatMap eU8)]) (fun g => iterB (m21_r01_Uo_s3 a2) g.1 g.2 = some x3) (fun g => g.1) (fuel, (a1, 0, (([] : List UInt8) ++ a0))) hx3 ⟨rfl, rfl, rfl, rfl, trivial⟩ [] rfl (fun _ _ => inbL_of rfl) (fun _ _ => blkinb_of rfl) (fun _ _ => Nat.le_of_ble_eq_true rfl) ?_
    clear hx3 h
    rintro ⟨n3, s3⟩ h
    obtain ⟨n3, y3, rfl, h, hk3⟩ := iterB_eq h
    unfold m21_r01_Uo_s3 at h
    refine cseq ?_
    refine cseq ?_
    refine cjoin3 (Unit) (fun b4 => [(1, .s (.one (.i .u64 (s3.1.toNat : Int)))), (2, .s (.one (.i .i64 a2))), (7, .s (.one (.ls 0 s3.2.2.length))), (8, .s (.one (.i .i64 s3.2.1)))]) (fun b4 => [.arr 5 1 0 (s3.2.2.flatMap eU8)]) (fun b4 => m21_r01_Uo_k4 s3 b4 = some y3) (fun _ _ => inbL_of rfl) (fun _ _ => blkinb_of rfl) (fun _ _ => Nat.le_of_ble_eq_true rfl) (fun b4 h => ?_) ?_
    · unfold m21_r01_Uo_k4 at h
      refine cseq ?_
      refine cblock ?_
      refine cseq ?_
      refine cregion ?_
      refine sv rfl (opv_mv rfl) ?_
      refine sv rfl (opv_mv rfl) ?_
      refine sv rfl (opv_rem_u64 (a := s3.1) (b := 256#64) rfl rfl rfl rfl (by decide)) ?_
      refine sv rfl (opv_conv_bv (k := .u64) (a := (s3.1 % (256#64))) rfl Try.underlying46 Try.underlying5 rfl rfl) ?_
      refine sbuild1 rfl Try.underlying22 ei5 rfl rfl (List.all_eq_true.1 rfl) (by decide) ?_
      refine smem [.arr 5 1 0 (s3.2.2.flatMap eU8), .arr 5 1 0 ([(UInt8.ofBitVec ((s3.1 % (256#64)).setWidth 8))].flatMap eU8)] rfl ?_
      obtain ⟨hb5, h⟩ := chk_eq h
      refine sapp (f := eU8) (xs := s3.2.2) (us := [(UInt8.ofBitVec ((s3.1 % (256#64)).setWidth 8))]) rfl Try.underlying22 ei5 ni22 (fun _ => rfl) rfl rfl (.one _ _ _ _ (.ls _ _ _ _ _ _ rfl (flat_len (f := eU8) (fun _ => rfl) [(UInt8.ofBitVec ((s3.1 % (256#64)).setWidth 8))]).symm)) rfl rfl rfl (.sl _ _ _ (flat_len (f := eU8) (fun _ => rfl) _)) rfl rfl hb5 (by decide) ?_
      refine sv rfl (opv_as rfl) ?_
      refine snil ?_
      refine cregion ?_
      refine sv rfl (opv_mv rfl) ?_
      refine sv rfl (opv_quo_u64 (a := s3.1) (b := 256#64) rfl rfl rfl rfl (by decide)) ?_
      refine sv rfl (opv_as rfl) ?_
      refine snil0 ?_
      refine block_normal ?_
      refine then_normal ?_
      refine cregion ?_
      refine sv rfl (opv_mv rfl) ?_
      refine sv rfl (opv_add rfl rfl) ?_
      refine sv rfl (opv_as rfl) ?_
      refine snil ?_
      obtain rfl := Option.some.inj h
      exact ⟨(n3, ((s3.1 / (256#64)), (wI (s3.2.1 + 1)), (s3.2.2 ++ [(UInt8.ofBitVec ((s3.1 % (256#64)).setWidth 8))]))), _, hk3, ⟨rfl, rfl, rfl, rfl, trivial⟩, rfl, Nat.lt_succ_self _⟩
    · skip
      refine cregion ?_
      refine sv rfl (opv_mv rfl) ?_
      refine sv rfl (opv_mv rfl) ?_
      refine sv rfl (opv_lss rfl rfl) ?_
      refine sv rfl (opv_mv rfl) ?_
      refine ssplit 15 rfl (fun hc => ?_) (fun hc => ?_)
      · replace h := ite_t hc h
        clear hc
        refine son rfl rfl rfl ?_
        refine sv rfl (opv_mv rfl) ?_
        refine son rfl rfl rfl ?_
        refine sv rfl (opv_lss rfl rfl) ?_
        refine sv rfl (opv_pick_t rfl rfl) ?_
        refine snil ?_
        refine ccond rfl (fun hc => ?_) (fun hc => ?_)
        · replace h := ite_t hc h
          clear hc
          refine cskip ?_
          refine then_normal ?_
          exact ⟨(), _, h, ⟨rfl, rfl, rfl, rfl, trivial⟩, rfl⟩
        · replace h := ite_f hc h
          clear hc
          refine cexit ?_
          refine then_exit ?_
          refine then_exit ?_
          refine block_hit ?_
          refine then_normal ?_
          obtain rfl := Option.some.inj h
          obtain rfl : _ = x3 := hk3
          exact ⟨s3.2.2, _, ho3, ⟨rfl, trivial⟩, rfl⟩
      · replace h := ite_f hc h
        clear hc
        refine soff rfl rfl rfl rfl ?_
        refine soff rfl rfl rfl rfl ?_
        refine sv rfl (opv_pick_f rfl rfl) ?_
        refine snil ?_
        refine ccond rfl (fun hx => Bool.noConfusion hx) (fun _ => ?_)
        refine cexit ?_
        refine then_exit ?_
        refine then_exit ?_
        refine block_hit ?_
        refine then_normal ?_
        obtain rfl := Option.some.inj h
        obtain rfl : _ = x3 := hk3
        exact ⟨s3.2.2, _, ho3, ⟨rfl, trivial⟩, rfl⟩

def m9_r03_Put (a0 : List UInt8) (a1 : List UInt8) : Option ((List UInt8) × Int) :=
  if (decide (512 < (a1.length : Int))) then (some (([] : List UInt8), 5)) else ((m21_r01_U ([] : List UInt8) (BitVec.ofInt 64 (a1.length : Int)) 2).bind fun v1 => (m23_r02_Of v1).bind fun v2 => (m22_r02_More v2 a1).bind fun v3 => if (([] : List UInt8).length + a0.length) * 1 ≤ 140737488355328 then (if ((([] : List UInt8) ++ a0).length + v1.length) * 1 ≤ 140737488355328 then ((m21_r01_Uo ((([] : List UInt8) ++ a0) ++ v1) (v3.setWidth 64) 4).bind fun v6 => if (v6.length + a1.length) * 1 ≤ 140737488355328 then (some ((v6 ++ a1), 0)) else none) else none) else none)

set_option maxRecDepth 100000 in
theorem m9_r03_Put_c {a0 : List UInt8} {a1 : List UInt8} {r : (List UInt8) × Int} (h : m9_r03_Put a0 a1 = some r) : CallsA Try.prog 9 [.one (.sl a0.length (a0.flatMap eU8)), .one (.sl a1.length (a1.flatMap eU8))] (· = .tup [.one (.sl r.1.length (r.1.flatMap eU8)), .one (.i .i64 r.2)]) := by
  unfold m9_r03_Put at h
  refine callsA_of Try.func9 rfl (nt := 33) rfl (Nat.le_of_ble_eq_true rfl) ?_
  intro w0 S0
  refine cseq ?_
  refine cregion ?_
  refine sv rfl (opv_as rfl) ?_
  refine sv rfl (opv_as rfl) ?_
  refine snil ?_
  refine cseq ?_
  refine cseq ?_
  refine cregion ?_
  refine sv rfl (opv_mv rfl) ?_
  refine sv rfl (opv_len_sl si22 rfl) ?_
  refine sv rfl (opv_gtr rfl rfl) ?_
  refine snil ?_
  refine ccond rfl (fun hc => ?_) (fun hc => ?_)
  · replace h := ite_t hc h
    clear hc
    refine cseq ?_
    refine cregion ?_
    refine sv rfl (opv_as rfl) ?_
    refine sv rfl (opv_as rfl) ?_
    refine snil ?_
    refine cret ?_
    refine then_ret ?_
    obtain rfl := Option.some.inj h
    refine ⟨Or.inr rfl, _, _, _, (resVs_cons (ResV.tmp _ _ rfl) (resVs_cons (ResV.tmp _ _ rfl) resVs_nil)), (pubC rfl), ?_⟩
    rfl
  · replace h := ite_f hc h
    clear hc
    refine cskip ?_
    refine then_normal ?_
    refine cseq ?_
    refine cregion ?_
    refine sv rfl (opv_mv rfl) ?_
    refine sv rfl (opv_len_sl si22 rfl) ?_
    refine sv rfl (opv_conv_ibv rfl Try.underlying3 Try.underlying46 rfl) ?_
    obtain ⟨v1, hv1, h⟩ := bind_eq h
    refine scall1 rfl fn21 (opnds_cons rfl (opnds_cons rfl (opnds_cons rfl opnds_nil))) (pubC rfl) (m21_r01_U_c hv1) ?_
    refine sv rfl (opv_as rfl) ?_
    refine snil ?_
    refine cseq ?_
    refine cregion ?_
    refine sv rfl (opv_mv rfl) ?_
    obtain ⟨v2, hv2, h⟩ := bind_eq h
    refine scall1 rfl fn23 (opnds_cons rfl opnds_nil) (pubA_id rfl) (m23_r02_Of_c hv2) ?_
    refine sv rfl (opv_mv rfl) ?_
    obtain ⟨v3, hv3, h⟩ := bind_eq h
    refine scall1 rfl fn22 (opnds_cons rfl (opnds_cons rfl opnds_nil)) (pubA_id rfl) (m22_r02_More_c hv3) ?_
    refine sv rfl (opv_as rfl) ?_
    refine snil ?_
    refine cseq ?_
    refine cregion ?_
    refine sbuild0 rfl Try.underlying22 ei5 ?_
    refine sv rfl (opv_mv rfl) ?_
    obtain ⟨hb4, h⟩ := chk_eq h
    refine sapp (f := eU8) (xs := ([] : List UInt8)) (us := a0) rfl Try.underlying22 ei5 ni22 (fun _ => rfl) rfl rfl (.one _ _ _ _ (.id _ rfl)) rfl rfl rfl (.sl _ _ _ (flat_len (f := eU8) (fun _ => rfl) _)) rfl rfl hb4 (by decide) ?_
    refine sv rfl (opv_as rfl) ?_
    refine snil ?_
    refine cseq ?_
    refine cregion ?_
    refine sv rfl (opv_mv rfl) ?_
    refine sv rfl (opv_mv rfl) ?_
    obtain ⟨hb5, h⟩ := chk_eq h
    refine sapp (f := eU8) (xs := (([] : List UInt8) ++ a0)) (us := v1) rfl Try.underlying22 ei5 ni22 (fun _ => rfl) rfl rfl (.one _ _ _ _ (.id _ rfl)) rfl rfl rfl (.sl _ _ _ (flat_len (f := eU8) (fun _ => rfl) _)) rfl rfl hb5 (by decide) ?_
    refine sv rfl (opv_as rfl) ?_
    refine snil ?_
    refine cseq ?_
    refine cregion ?_
    refine sv rfl (opv_mv rfl) ?_
    refine sv rfl (opv_mv rfl) ?_
    refine sv rfl (opv_conv_bv (k := .u32) (a := v3) rfl Try.underlying39 Try.underlying46 rfl rfl) ?_
    refine spub 26 rfl (by (repeat' first | exact PubA.nil _ | apply PubA.cons | apply PubV.one | apply PubV.agg | exact PubL.nil | exact PubL.ls _ _ _ _ _ _ rfl (flat_len (f := eU8) (fun _ => rfl) _).symm | exact PubL.id _ rfl | exact PubLs.nil _ | apply PubLs.cons)) ?_
    obtain ⟨v6, hv6, h⟩ := bind_eq h
    refine scallB (x' := .s (.one (.ls 1 v6.length))) (M' := [.arr 5 1 (((([] : List UInt8) ++ a0) ++ v1).flatMap eU8).length (((([] : List UInt8) ++ a0) ++ v1).flatMap eU8), .arr 5 1 0 (v6.flatMap eU8)]) [] rfl fn21 (.func _) (opnds_cons rfl (opnds_cons rfl (opnds_cons rfl opnds_nil))) (m21_r01_Uo_c hv6) rfl rfl (by decide) rfl rfl rfl ?_
    refine sv rfl (opv_as rfl) ?_
    refine snil ?_
    refine cseq ?_
    refine cregion ?_
    refine sv rfl (opv_mv rfl) ?_
    refine sv rfl (opv_mv rfl) ?_
    obtain ⟨hb7, h⟩ := chk_eq h
    refine sapp (f := eU8) (xs := v6) (us := a1) rfl Try.underlying22 ei5 ni22 (fun _ => rfl) rfl rfl (.one _ _ _ _ (.id _ rfl)) rfl rfl rfl (.sl _ _ _ (flat_len (f := eU8) (fun _ => rfl) _)) rfl rfl hb7 (by decide) ?_
    refine sv rfl (opv_as rfl) ?_
    refine sv rfl (opv_as rfl) ?_
    refine snil ?_
    refine cret ?_
    obtain rfl := Option.some.inj h
    refine ⟨Or.inr rfl, _, _, _, (resVs_cons (ResV.tmp _ _ rfl) (resVs_cons (ResV.tmp _ _ rfl) resVs_nil)), (by (repeat' first | exact PubA.nil _ | apply PubA.cons | apply PubV.one | apply PubV.agg | exact PubL.nil | exact PubL.ls _ _ _ _ _ _ rfl (flat_len (f := eU8) (fun _ => rfl) _).symm | exact PubL.id _ rfl | exact PubLs.nil _ | apply PubLs.cons)), ?_⟩
    rfl

def m11_r03_Read_k1 (a0 : List UInt8) (a1 : Int) (b1 : Unit) : Option ((List UInt8) × Int × Int) :=
  if (decide ((wI ((a0.length : Int) - a1)) < 2)) then (some (([] : List UInt8), 0, 2)) else ((idx a0 a1).bind fun u2 => (idx a0 (wI (a1 + 1))).bind fun u3 => if (decide (512 < (wI ((wI (u2.toBitVec.toNat : Int)) + (wI (256 * (wI (u3.toBitVec.toNat : Int)))))))) then (some (([] : List UInt8), 0, 5)) else (if (decide ((wI ((a0.length : Int) - a1)) < (wI (6 + (wI ((wI (u2.toBitVec.toNat : Int)) + (wI (256 * (wI (u3.toBitVec.toNat : Int)))))))))) then (some (([] : List UInt8), 0, 2)) else ((cut a0 (wI (a1 + 6)) (wI ((wI (a1 + 6)) + (wI ((wI (u2.toBitVec.toNat : Int)) + (wI (256 * (wI (u3.toBitVec.toNat : Int))))))))).bind fun c4 => if (([] : List UInt8).length + c4.length) * 1 ≤ 140737488355328 then ((m9_r03_Put ([] : List UInt8) (([] : List UInt8) ++ c4)).bind fun v6 => (cut a0 a1 (wI ((wI (a1 + 6)) + (wI ((wI (u2.toBitVec.toNat : Int)) + (wI (256 * (wI (u3.toBitVec.toNat : Int))))))))).bind fun c7 => if (!(v6.1 == c7)) then (some (([] : List UInt8), 0, 4)) else (some ((([] : List UInt8) ++ c4), (wI ((wI (a1 + 6)) + (wI ((wI (u2.toBitVec.toNat : Int)) + (wI (256 * (wI (u3.toBitVec.toNat : Int)))))))), 0))) else none)))
def m11_r03_Read (a0 : List UInt8) (a1 : Int) : Option ((List UInt8) × Int × Int) :=
  if (decide (a1 < 0)) then (some (([] : List UInt8), 0, 1)) else (if (decide ((a0.length : Int) < a1)) then (some (([] : List UInt8), 0, 1)) else (m11_r03_Read_k1 a0 a1 ()))

set_option maxRecDepth 100000 in
theorem m11_r03_Read_c {a0 : List UInt8} {a1 : Int} {r : (List UInt8) × Int × Int} (h : m11_r03_Read a0 a1 = some r) : CallsA Try.prog 11 [.one (.sl a0.length (a0.flatMap eU8)), .one (.i .i64 a1)] (· = .tup [.one (.sl r.1.length (r.1.flatMap eU8)), .one (.i .i64 r.2.1), .one (.i .i64 r.2.2)]) := by
  unfold m11_r03_Read at h
  refine callsA_of Try.func11 rfl (nt := 77) rfl (Nat.le_of_ble_eq_true rfl) ?_
  intro w0 S0
  refine cseq ?_
  refine cregion ?_
  refine sv rfl (opv_as rfl) ?_
  refine sv rfl (opv_as rfl) ?_
  refine sv rfl (opv_as rfl) ?_
  refine snil ?_
  refine cseq ?_
  refine cseq ?_
  refine cjoin3 (Unit) (fun b1 => [(0, .s (.one (.sl a0.length (a0.flatMap eU8)))), (1, .s (.one (.i .i64 a1)))]) (fun b1 => []) (fun b1 => m11_r03_Read_k1 a0 a1 b1 = some r) (fun _ _ => inbL_of rfl) (fun _ _ => blkinb_of rfl) (fun _ _ => Nat.le_of_ble_eq_true rfl) (fun b1 h => ?_) ?_
  · unfold m11_r03_Read_k1 at h
    refine cseq ?_
    refine cseq ?_
    refine cregion ?_
    refine sv rfl (opv_mv rfl) ?_
    refine sv rfl (opv_len_sl si22 rfl) ?_
    refine sv rfl (opv_mv rfl) ?_
    refine sv rfl (opv_sub rfl rfl) ?_
    refine sv rfl (opv_lss rfl rfl) ?_
    refine snil ?_
    refine ccond rfl (fun hc => ?_) (fun hc => ?_)
    · replace h := ite_t hc h
      clear hc
      refine cseq ?_
      refine cregion ?_
      refine sv rfl (opv_as rfl) ?_
      refine sv rfl (opv_as rfl) ?_
      refine sv rfl (opv_as rfl) ?_
      refine snil ?_
      refine cret ?_
      refine then_ret ?_
      obtain rfl := Option.some.inj h
      refine ⟨Or.inr rfl, _, _, _, (resVs_cons (ResV.tmp _ _ rfl) (resVs_cons (ResV.tmp _ _ rfl) (resVs_cons (ResV.tmp _ _ rfl) resVs_nil))), (pubC rfl), ?_⟩
      rfl
    · replace h := ite_f hc h
      clear hc
      refine cskip ?_
      refine then_normal ?_
      refine cseq ?_
      refine cdraw mixed (by kernel_rfl) ?_
      refine dv rfl (opv_mv rfl) ?_
      refine dv rfl (opv_mv rfl) ?_
      obtain ⟨u2, hu2, h⟩ := bind_eq h
      refine dv rfl (opv_ix (f := eU8) si22 (fun _ => rfl) rfl rfl rfl rfl hu2) ?_
      refine dv rfl (opv_load1 ti5 rfl (.cp _) rfl) ?_
      refine dv rfl (opv_conv_int Try.underlying5 Try.underlying3 rfl) ?_
      refine dv rfl (opv_mv rfl) ?_
      refine dv rfl (opv_mv rfl) ?_
      refine dv rfl (opv_add rfl rfl) ?_
      obtain ⟨u3, hu3, h⟩ := bind_eq h
      refine dv rfl (opv_ix (f := eU8) si22 (fun _ => rfl) rfl rfl rfl rfl hu3) ?_
      refine dv rfl (opv_load1 ti5 rfl (.cp _) rfl) ?_
      refine dv rfl (opv_conv_int Try.underlying5 Try.underlying3 rfl) ?_
      refine dv rfl (opv_mul rfl rfl) ?_
      refine dv rfl (opv_add rfl rfl) ?_
      refine dv rfl (opv_as rfl) ?_
      refine dnil ?_
      refine then_normal ?_
      refine cseq ?_
      refine cseq ?_
      refine cregion ?_
      refine sv rfl (opv_mv rfl) ?_
      refine sv rfl (opv_gtr rfl rfl) ?_
      refine snil ?_
      refine ccond rfl (fun hc => ?_) (fun hc => ?_)
      · replace h := ite_t hc h
        clear hc
        refine cseq ?_
        refine cregion ?_
        refine sv rfl (opv_as rfl) ?_
        refine sv rfl (opv_as rfl) ?_
        refine sv rfl (opv_as rfl) ?_
        refine snil ?_
        refine cret ?_
        refine then_ret ?_
        obtain rfl := Option.some.inj h
        refine ⟨Or.inr rfl, _, _, _, (resVs_cons (ResV.tmp _ _ rfl) (resVs_cons (ResV.tmp _ _ rfl) (resVs_cons (ResV.tmp _ _ rfl) resVs_nil))), (pubC rfl), ?_⟩
        rfl
      · replace h := ite_f hc h
        clear hc
        refine cskip ?_
        refine then_normal ?_
        refine cseq ?_
        refine cseq ?_
        refine cregion ?_
        refine sv rfl (opv_mv rfl) ?_
        refine sv rfl (opv_len_sl si22 rfl) ?_
        refine sv rfl (opv_mv rfl) ?_
        refine sv rfl (opv_sub rfl rfl) ?_
        refine sv rfl (opv_mv rfl) ?_
        refine sv rfl (opv_add rfl rfl) ?_
        refine sv rfl (opv_lss rfl rfl) ?_
        refine snil ?_
        refine ccond rfl (fun hc => ?_) (fun hc => ?_)
        · replace h := ite_t hc h
          clear hc
          refine cseq ?_
          refine cregion ?_
          refine sv rfl (opv_as rfl) ?_
          refine sv rfl (opv_as rfl) ?_
          refine sv rfl (opv_as rfl) ?_
          refine snil ?_
          refine cret ?_
          refine then_ret ?_
          obtain rfl := Option.some.inj h
          refine ⟨Or.inr rfl, _, _, _, (resVs_cons (ResV.tmp _ _ rfl) (resVs_cons (ResV.tmp _ _ rfl) (resVs_cons (ResV.tmp _ _ rfl) resVs_nil))), (pubC rfl), ?_⟩
          rfl
        · replace h := ite_f hc h
          clear hc
          refine cskip ?_
          refine then_normal ?_
          refine cseq ?_
          refine cregion ?_
          refine sbuild0 rfl Try.underlying22 ei5 ?_
          refine sv rfl (opv_mv rfl) ?_
          refine sv rfl (opv_mv rfl) ?_
          refine sv rfl (opv_add rfl rfl) ?_
          refine sv rfl (opv_mv rfl) ?_
          refine sv rfl (opv_add rfl rfl) ?_
          refine sv rfl (opv_mv rfl) ?_
          refine sv rfl (opv_add rfl rfl) ?_
          obtain ⟨c4, hc4, h⟩ := bind_eq h
          refine sv rfl (opv_cut (f := eU8) (lo := (wI (a1 + 6))) (hi := (wI ((wI (a1 + 6)) + (wI ((wI (u2.toBitVec.toNat : Int)) + (wI (256 * (wI (u3.toBitVec.toNat : Int))))))))) si22 (fun _ => rfl) rfl rfl rfl (bound_some rfl (cut_eq hc4).1.1) (bound_some rfl (Int.le_trans (cut_eq hc4).1.1 (cut_eq hc4).1.2.1)) hc4) ?_
          obtain ⟨hb5, h⟩ := chk_eq h
          refine sapp (f := eU8) (xs := ([] : List UInt8)) (us := c4) rfl Try.underlying22 ei5 ni22 (fun _ => rfl) rfl rfl (.one _ _ _ _ (.id _ rfl)) rfl rfl rfl (.sl _ _ _ (flat_len (f := eU8) (fun _ => rfl) _)) rfl rfl hb5 (by decide) ?_
          refine sv rfl (opv_as rfl) ?_
          refine snil ?_
          refine cseq ?_
          refine cregion ?_
          refine sv rfl (opv_mv rfl) ?_
          refine spub 57 rfl (by (repeat' first | exact PubA.nil _ | apply PubA.cons | apply PubV.one | apply PubV.agg | exact PubL.nil | exact PubL.ls _ _ _ _ _ _ rfl (flat_len (f := eU8) (fun _ => rfl) _).symm | exact PubL.id _ rfl | exact PubLs.nil _ | apply PubLs.cons)) ?_
          obtain ⟨v6, hv6, h⟩ := bind_eq h
          refine scall1 rfl fn9 (opnds_cons rfl (opnds_cons rfl opnds_nil)) (pubC rfl) (m9_r03_Put_c hv6) ?_
          refine sv rfl (opv_mvt rfl) ?_
          refine sv rfl (opv_extract rfl rfl) ?_
          refine sv rfl (opv_extract rfl rfl) ?_
          refine sv rfl (opv_as rfl) ?_
          refine sv rfl (opv_as rfl) ?_
          refine snil ?_
          refine cseq ?_
          refine cseq ?_
          refine cdraw mixed (by kernel_rfl) ?_
          refine dv rfl (opv_mv rfl) ?_
          refine dv rfl (opv_bs (l := v6.1) Try.underlying22 Try.underlying5 Try.underlying9 rfl rfl rfl) ?_
          refine dv rfl (opv_mv rfl) ?_
          refine dv rfl (opv_mv rfl) ?_
          refine dv rfl (opv_mv rfl) ?_
          refine dv rfl (opv_add rfl rfl) ?_
          refine dv rfl (opv_mv rfl) ?_
          refine dv rfl (opv_add rfl rfl) ?_
          obtain ⟨c7, hc7, h⟩ := bind_eq h
          refine dv rfl (opv_cut (f := eU8) (lo := a1) (hi := (wI ((wI (a1 + 6)) + (wI ((wI (u2.toBitVec.toNat : Int)) + (wI (256 * (wI (u3.toBitVec.toNat : Int))))))))) si22 (fun _ => rfl) rfl rfl rfl (bound_some rfl (cut_eq hc7).1.1) (bound_some rfl (Int.le_trans (cut_eq hc7).1.1 (cut_eq hc7).1.2.1)) hc7) ?_
          refine dv rfl (opv_bs (l := c7) Try.underlying22 Try.underlying5 Try.underlying9 rfl rfl rfl) ?_
          refine dv rfl (opv_sneq' rfl rfl) ?_
          refine dnil ?_
          refine then_normal ?_
          refine ccond rfl (fun hc => ?_) (fun hc => ?_)
          · replace h := ite_t hc h
            clear hc
            refine cseq ?_
            refine cregion ?_
            refine sv rfl (opv_as rfl) ?_
            refine sv rfl (opv_as rfl) ?_
            refine sv rfl (opv_as rfl) ?_
            refine snil ?_
            refine cret ?_
            refine then_ret ?_
            obtain rfl := Option.some.inj h
            refine ⟨Or.inr rfl, _, _, _, (resVs_cons (ResV.tmp _ _ rfl) (resVs_cons (ResV.tmp _ _ rfl) (resVs_cons (ResV.tmp _ _ rfl) resVs_nil))), (pubC rfl), ?_⟩
            rfl
          · replace h := ite_f hc h
            clear hc
            refine cskip ?_
            refine then_normal ?_
            refine cseq ?_
            refine cregion ?_
            refine sv rfl (opv_mv rfl) ?_
            refine sv rfl (opv_mv rfl) ?_
            refine sv rfl (opv_add rfl rfl) ?_
            refine sv rfl (opv_mv rfl) ?_
            refine sv rfl (opv_add rfl rfl) ?_
            refine sv rfl (opv_as rfl) ?_
            refine sv rfl (opv_as rfl) ?_
            refine sv rfl (opv_as rfl) ?_
            refine snil ?_
            refine cret ?_
            obtain rfl := Option.some.inj h
            refine ⟨Or.inr rfl, _, _, _, (resVs_cons (ResV.tmp _ _ rfl) (resVs_cons (ResV.tmp _ _ rfl) (resVs_cons (ResV.tmp _ _ rfl) resVs_nil))), (by (repeat' first | exact PubA.nil _ | apply PubA.cons | apply PubV.one | apply PubV.agg | exact PubL.nil | exact PubL.ls _ _ _ _ _ _ rfl (flat_len (f := eU8) (fun _ => rfl) _).symm | exact PubL.id _ rfl | exact PubLs.nil _ | apply PubLs.cons)), ?_⟩
            rfl
  · skip
    refine cregion ?_
    refine sv rfl (opv_mv rfl) ?_
    refine sv rfl (opv_lss rfl rfl) ?_
    refine sv rfl (opv_mv rfl) ?_
    refine ssplit 13 rfl (fun hc => ?_) (fun hc => ?_)
    · replace h := ite_t hc h
      clear hc
      refine soff rfl rfl rfl rfl ?_
      refine soff rfl rfl rfl rfl ?_
      refine soff rfl rfl rfl rfl ?_
      refine soff rfl rfl rfl rfl ?_
      refine sv rfl (opv_pick_t rfl rfl) ?_
      refine snil ?_
      refine ccond rfl (fun _ => ?_) (fun hx => Bool.noConfusion hx)
      refine cseq ?_
      refine cregion ?_
      refine sv rfl (opv_as rfl) ?_
      refine sv rfl (opv_as rfl) ?_
      refine sv rfl (opv_as rfl) ?_
      refine snil ?_
      refine cret ?_
      refine then_ret ?_
      obtain rfl := Option.some.inj h
      refine ⟨Or.inr rfl, _, _, _, (resVs_cons (ResV.tmp _ _ rfl) (resVs_cons (ResV.tmp _ _ rfl) (resVs_cons (ResV.tmp _ _ rfl) resVs_nil))), (pubC rfl), ?_⟩
      rfl
    · replace h := ite_f hc h
      clear hc
      refine son rfl rfl rfl ?_
      refine sv rfl (opv_mv rfl) ?_
      refine son rfl rfl rfl ?_
      refine sv rfl (opv_mv rfl) ?_
      refine son rfl rfl rfl ?_
      refine sv rfl (opv_len_sl si22 rfl) ?_
      refine son rfl rfl rfl ?_
      refine sv rfl (opv_gtr rfl rfl) ?_
      refine sv rfl (opv_pick_f rfl rfl) ?_
      refine snil ?_
      refine ccond rfl (fun hc => ?_) (fun hc => ?_)
      · replace h := ite_t hc h
        clear hc
        refine cseq ?_
        refine cregion ?_
        refine sv rfl (opv_as rfl) ?_
        refine sv rfl (opv_as rfl) ?_
        refine sv rfl (opv_as rfl) ?_
        refine snil ?_
        refine cret ?_
        refine then_ret ?_
        obtain rfl := Option.some.inj h
        refine ⟨Or.inr rfl, _, _, _, (resVs_cons (ResV.tmp _ _ rfl) (resVs_cons (ResV.tmp _ _ rfl) (resVs_cons (ResV.tmp _ _ rfl) resVs_nil))), (pubC rfl), ?_⟩
        rfl
      · replace h := ite_f hc h
        clear hc
        refine cskip ?_
        refine then_normal ?_
        exact ⟨(), _, h, ⟨rfl, rfl, trivial⟩, rfl⟩

def m12_frame_All_k1 (b1 : Int × (List (List UInt8))) : Option ((List (List UInt8)) × Int × Int) :=
  some (b1.2, b1.1, 0)

def m12_frame_All_s2 (a0 : List UInt8) (s2 : Int × (List (List UInt8))) : Option (LR (Int × (List (List UInt8))) (Int × (List (List UInt8))) ((List (List UInt8)) × Int × Int)) :=
  if (decide (s2.1 < (a0.length : Int))) then ((m10_frame_Read a0 s2.1).bind fun v3 => if (!decide (v3.2.2 = 0)) then (some (.ret (s2.2, s2.1, v3.2.2))) else (if (s2.2.length + [v3.1].length) * 24 ≤ 140737488355328 then (some (.cont (v3.2.1, (s2.2 ++ [v3.1])))) else none)) else (some (.brk (s2.1, s2.2)))
def m12_frame_All (a0 : List UInt8) : Option ((List (List UInt8)) × Int × Int) :=
  (iter (m12_frame_All_s2 a0) fuel (0, ([] : List (List UInt8)))).bind fun x => match x with | .inl r => some r | .inr e5 => m12_frame_All_k1 e5

set_option maxRecDepth 100000 in
theorem m12_frame_All_c {a0 : List UInt8} {r : (List (List UInt8)) × Int × Int} (h : m12_frame_All a0 = some r) : CallsA Try.prog 12 [.one (.sl a0.length (a0.flatMap eU8))] (· = .tup [.one (.sl r.1.length (r.1.flatMap (eL eU8))), .one (.i .i64 r.2.1), .one (.i .i64 r.2.2)]) := by
  unfold m12_frame_All at h
  refine callsA_of Try.func12 rfl (nt := 33) rfl (Nat.le_of_ble_eq_true rfl) ?_
  intro w0 S0
  refine cseq ?_
  refine cregion ?_
  refine sv rfl (opv_as rfl) ?_
  refine sv rfl (opv_as rfl) ?_
  refine sv rfl (opv_as rfl) ?_
  refine snil ?_
  refine cseq ?_
  refine cregion ?_
  refine sv rfl (opv_as rfl) ?_
  refine snil ?_
  refine cseq ?_
  refine cregion ?_
  refine sv rfl (opv_as rfl) ?_
  refine snil ?_
  refine cseq ?_
  refine sadopt_c 22 1 5 (by decide) rfl ?_
  refine cjoin (Int × (List (List UInt8))) (fun b1 => [(5, .s (.one (.ls 0 b1.2.length))), (6, .s (.one (.i .i64 b1.1)))]) (fun b1 => [.arr 22 1 0 (b1.2.flatMap (eL eU8))]) (fun b1 => m12_frame_All_k1 b1 = some r) (fun _ _ => inbL_of rfl) (fun _ _ => blkinb_of rfl) (fun _ _ => Nat.le_of_ble_eq_true rfl) (fun b1 h => ?_) ?_
  · unfold m12_frame_All_k1 at h
    refine cseq ?_
    refine cregion ?_
    refine sv rfl (opv_mv rfl) ?_
    refine sv rfl (opv_mv rfl) ?_
    refine sv rfl (opv_as rfl) ?_
    refine sv rfl (opv_as rfl) ?_
    refine sv rfl (opv_as rfl) ?_
    refine snil ?_
    refine cret ?_
    obtain rfl := Option.some.inj h
    refine ⟨Or.inr rfl, _, _, _, (resVs_cons (ResV.tmp _ _ rfl) (resVs_cons (ResV.tmp _ _ rfl) (resVs_cons (ResV.tmp _ _ rfl) resVs_nil))), (by (repeat' first | exact PubA.nil _ | apply PubA.cons | apply PubV.one | apply PubV.agg | exact PubL.nil | exact PubL.ls _ _ _ _ _ _ rfl (flat_len (f := (eL eU8)) (fun _ => rfl) _).symm | exact PubL.id _ rfl | exact PubLs.nil _ | apply PubLs.cons)), ?_⟩
    rfl
  · skip
    refine cblock ?_
    obtain ⟨x2, hx2, ho2⟩ := bind_eq h
    refine awc_loop (G := Nat × (Int × (List (List UInt8)))) (fun g => [(0, .s (.one (.sl a0.length (a0.flatMap eU8)))), (5, .s (.one (.ls 0 g.2.2.length))), (6, .s (.one (.i .i64 g.2.1)))]) (fun g => [.arr 22 1 0 (g.2.2.flatMap (eL eU8))]) (fun g => iter (m12_frame_All_s2 a0) g.1 g.2 = some x2) (fun g => g.1) (fuel, (0, ([] : List (List UInt8)))) hx2 ⟨rfl, rfl, rfl, trivial⟩ [] rfl (fun _ _ => inbL_of rfl) (fun _ _ => blkinb_of rfl) (fun _ _ => Nat.le_of_ble_eq_true rfl) ?_
    clear hx2 h
    rintro ⟨n2, s2⟩ h
    obtain ⟨n2, y2, rfl, h, hk2⟩ := iter_eq h
    unfold m12_frame_All_s2 at h
    refine cseq ?_
    refine cseq ?_
    refine cregion ?_
    refine sv rfl (opv_mv rfl) ?_
    refine sv rfl (opv_mv rfl) ?_
    refine sv rfl (opv_len_sl si22 rfl) ?_
    refine sv rfl (opv_lss rfl rfl) ?_
    refine snil ?_
    refine ccond rfl (fun hc => ?_) (fun hc => ?_)
    · replace h := ite_t hc h
      clear hc
      refine cskip ?_
      refine then_normal ?_
      refine cblock ?_
      refine cseq ?_
      refine cregion ?_
      refine sv rfl (opv_mv rfl) ?_
      refine sv rfl (opv_mv rfl) ?_
      obtain ⟨v3, hv3, h⟩ := bind_eq h
      refine scall1 rfl fn10 (opnds_cons rfl (opnds_cons rfl opnds_nil)) (pubA_id rfl) (m10_frame_Read_c hv3) ?_
      refine sv rfl (opv_mvt rfl) ?_
      refine sv rfl (opv_extract rfl rfl) ?_
      refine sv rfl (opv_extract rfl rfl) ?_
      refine sv rfl (opv_extract rfl rfl) ?_
      refine sv rfl (opv_as rfl) ?_
      refine sv rfl (opv_as rfl) ?_
      refine sv rfl (opv_as rfl) ?_
      refine snil ?_
      refine cseq ?_
      refine cseq ?_
      refine cregion ?_
      refine sv rfl (opv_mv rfl) ?_
      refine sv rfl (opv_ineq rfl rfl) ?_
      refine snil ?_
      refine ccond rfl (fun hc => ?_) (fun hc => ?_)
      · replace h := ite_t hc h
        clear hc
        refine cseq ?_
        refine cregion ?_
        refine sv rfl (opv_mv rfl) ?_
        refine sv rfl (opv_mv rfl) ?_
        refine sv rfl (opv_mv rfl) ?_
        refine sv rfl (opv_as rfl) ?_
        refine sv rfl (opv_as rfl) ?_
        refine sv rfl (opv_as rfl) ?_
        refine snil ?_
        refine cret ?_
        refine then_ret ?_
        refine block_ret ?_
        refine then_ret ?_
        refine block_ret ?_
        refine then_ret ?_
        obtain rfl := Option.some.inj h
        obtain rfl : Sum.inl _ = x2 := hk2
        replace ho2 : some _ = some _ := ho2
        obtain rfl := Option.some.inj ho2
        refine ⟨Or.inr rfl, _, _, _, (resVs_cons (ResV.tmp _ _ rfl) (resVs_cons (ResV.tmp _ _ rfl) (resVs_cons (ResV.tmp _ _ rfl) resVs_nil))), (by (repeat' first | exact PubA.nil _ | apply PubA.cons | apply PubV.one | apply PubV.agg | exact PubL.nil | exact PubL.ls _ _ _ _ _ _ rfl (flat_len (f := (eL eU8)) (fun _ => rfl) _).symm | exact PubL.id _ rfl | exact PubLs.nil _ | apply PubLs.cons)), ?_⟩
        rfl
      · replace h := ite_f hc h
        clear hc
        refine cskip ?_
        refine then_normal ?_
        refine cseq ?_
        refine cregion ?_
        refine sv rfl (opv_mv rfl) ?_
        refine sv rfl (opv_mv rfl) ?_
        refine sbuild1 rfl Try.underlying29 ei22 rfl rfl (List.all_eq_true.1 rfl) (by decide) ?_
        refine smem [.arr 22 1 0 (s2.2.flatMap (eL eU8)), .arr 22 1 0 ([v3.1].flatMap (eL eU8))] rfl ?_
        obtain ⟨hb4, h⟩ := chk_eq h
        refine sapp (f := (eL eU8)) (xs := s2.2) (us := [v3.1]) rfl Try.underlying29 ei22 ni29 (fun _ => rfl) rfl rfl (.one _ _ _ _ (.ls _ _ _ _ _ _ rfl (flat_len (f := (eL eU8)) (fun _ => rfl) [v3.1]).symm)) rfl rfl rfl (.sl _ _ _ (flat_len (f := (eL eU8)) (fun _ => rfl) _)) rfl rfl hb4 (by decide) ?_
        refine sv rfl (opv_as rfl) ?_
        refine snil ?_
        refine cregion ?_
        refine sv rfl (opv_mv rfl) ?_
        refine sv rfl (opv_as rfl) ?_
        refine snil0 ?_
        refine block_normal ?_
        refine then_normal ?_
        obtain rfl := Option.some.inj h
        exact ⟨(n2, (v3.2.1, (s2.2 ++ [v3.1]))), _, hk2, ⟨rfl, rfl, rfl, trivial⟩, rfl, Nat.lt_succ_self _⟩
    · replace h := ite_f hc h
      clear hc
      refine cexit ?_
      refine then_exit ?_
      refine then_exit ?_
      refine block_hit ?_
      refine then_normal ?_
      obtain rfl := Option.some.inj h
      obtain rfl : _ = x2 := hk2
      exact ⟨(s2.1, s2.2), _, ho2, ⟨rfl, rfl, trivial⟩, rfl⟩

def m13_r03_All_k1 (b1 : Int × (List (List UInt8))) : Option ((List (List UInt8)) × Int × Int) :=
  some (b1.2, b1.1, 0)

def m13_r03_All_s2 (a0 : List UInt8) (s2 : Int × (List (List UInt8))) : Option (LR (Int × (List (List UInt8))) (Int × (List (List UInt8))) ((List (List UInt8)) × Int × Int)) :=
  if (decide (s2.1 < (a0.length : Int))) then ((m11_r03_Read a0 s2.1).bind fun v3 => if (!decide (v3.2.2 = 0)) then (some (.ret (s2.2, s2.1, v3.2.2))) else (if (s2.2.length + [v3.1].length) * 24 ≤ 140737488355328 then (some (.cont (v3.2.1, (s2.2 ++ [v3.1])))) else none)) else (some (.brk (s2.1, s2.2)))
def m13_r03_All (a0 : List UInt8) : Option ((List (List UInt8)) × Int × Int) :=
  (iter (m13_r03_All_s2 a0) fuel (0, ([] : List (List UInt8)))).bind fun x => match x with | .inl r => some r | .inr e5 => m13_r03_All_k1 e5

set_option maxRecDepth 100000 in
theorem m13_r03_All_c {a0 : List UInt8} {r : (List (List UInt8)) × Int × Int} (h : m13_r03_All a0 = some r) : CallsA Try.prog 13 [.one (.sl a0.length (a0.flatMap eU8))] (· = .tup [.one (.sl r.1.length (r.1.flatMap (eL eU8))), .one (.i .i64 r.2.1), .one (.i .i64 r.2.2)]) := by
  unfold m13_r03_All at h
  refine callsA_of Try.func13 rfl (nt := 33) rfl (Nat.le_of_ble_eq_true rfl) ?_
  intro w0 S0
  refine cseq ?_
  refine cregion ?_
  refine sv rfl (opv_as rfl) ?_
  refine sv rfl (opv_as rfl) ?_
  refine sv rfl (opv_as rfl) ?_
  refine snil ?_
  refine cseq ?_
  refine cregion ?_
  refine sv rfl (opv_as rfl) ?_
  refine snil ?_
  refine cseq ?_
  refine cregion ?_
  refine sv rfl (opv_as rfl) ?_
  refine snil ?_
  refine cseq ?_
  refine sadopt_c 22 1 5 (by decide) rfl ?_
  refine cjoin (Int × (List (List UInt8))) (fun b1 => [(5, .s (.one (.ls 0 b1.2.length))), (6, .s (.one (.i .i64 b1.1)))]) (fun b1 => [.arr 22 1 0 (b1.2.flatMap (eL eU8))]) (fun b1 => m13_r03_All_k1 b1 = some r) (fun _ _ => inbL_of rfl) (fun _ _ => blkinb_of rfl) (fun _ _ => Nat.le_of_ble_eq_true rfl) (fun b1 h => ?_) ?_
  · unfold m13_r03_All_k1 at h
    refine cseq ?_
    refine cregion ?_
    refine sv rfl (opv_mv rfl) ?_
    refine sv rfl (opv_mv rfl) ?_
    refine sv rfl (opv_as rfl) ?_
    refine sv rfl (opv_as rfl) ?_
    refine sv rfl (opv_as rfl) ?_
    refine snil ?_
    refine cret ?_
    obtain rfl := Option.some.inj h
    refine ⟨Or.inr rfl, _, _, _, (resVs_cons (ResV.tmp _ _ rfl) (resVs_cons (ResV.tmp _ _ rfl) (resVs_cons (ResV.tmp _ _ rfl) resVs_nil))), (by (repeat' first | exact PubA.nil _ | apply PubA.cons | apply PubV.one | apply PubV.agg | exact PubL.nil | exact PubL.ls _ _ _ _ _ _ rfl (flat_len (f := (eL eU8)) (fun _ => rfl) _).symm | exact PubL.id _ rfl | exact PubLs.nil _ | apply PubLs.cons)), ?_⟩
    rfl
  · skip
    refine cblock ?_
    obtain ⟨x2, hx2, ho2⟩ := bind_eq h
    refine awc_loop (G := Nat × (Int × (List (List UInt8)))) (fun g => [(0, .s (.one (.sl a0.length (a0.flatMap eU8)))), (5, .s (.one (.ls 0 g.2.2.length))), (6, .s (.one (.i .i64 g.2.1)))]) (fun g => [.arr 22 1 0 (g.2.2.flatMap (eL eU8))]) (fun g => iter (m13_r03_All_s2 a0) g.1 g.2 = some x2) (fun g => g.1) (fuel, (0, ([] : List (List UInt8)))) hx2 ⟨rfl, rfl, rfl, trivial⟩ [] rfl (fun _ _ => inbL_of rfl) (fun _ _ => blkinb_of rfl) (fun _ _ => Nat.le_of_ble_eq_true rfl) ?_
    clear hx2 h
    rintro ⟨n2, s2⟩ h
    obtain ⟨n2, y2, rfl, h, hk2⟩ := iter_eq h
    unfold m13_r03_All_s2 at h
    refine cseq ?_
    refine cseq ?_
    refine cregion ?_
    refine sv rfl (opv_mv rfl) ?_
    refine sv rfl (opv_mv rfl) ?_
    refine sv rfl (opv_len_sl si22 rfl) ?_
    refine sv rfl (opv_lss rfl rfl) ?_
    refine snil ?_
    refine ccond rfl (fun hc => ?_) (fun hc => ?_)
    · replace h := ite_t hc h
      clear hc
      refine cskip ?_
      refine then_normal ?_
      refine cblock ?_
      refine cseq ?_
      refine cregion ?_
      refine sv rfl (opv_mv rfl) ?_
      refine sv rfl (opv_mv rfl) ?_
      obtain ⟨v3, hv3, h⟩ := bind_eq h
      refine scall1 rfl fn11 (opnds_cons rfl (opnds_cons rfl opnds_nil)) (pubA_id rfl) (m11_r03_Read_c hv3) ?_
      refine sv rfl (opv_mvt rfl) ?_
      refine sv rfl (opv_extract rfl rfl) ?_
      refine sv rfl (opv_extract rfl rfl) ?_
      refine sv rfl (opv_extract rfl rfl) ?_
      refine sv rfl (opv_as rfl) ?_
      refine sv rfl (opv_as rfl) ?_
      refine sv rfl (opv_as rfl) ?_
      refine snil ?_
      refine cseq ?_
      refine cseq ?_
      refine cregion ?_
      refine sv rfl (opv_mv rfl) ?_
      refine sv rfl (opv_ineq rfl rfl) ?_
      refine snil ?_
      refine ccond rfl (fun hc => ?_) (fun hc => ?_)
      · replace h := ite_t hc h
        clear hc
        refine cseq ?_
        refine cregion ?_
        refine sv rfl (opv_mv rfl) ?_
        refine sv rfl (opv_mv rfl) ?_
        refine sv rfl (opv_mv rfl) ?_
        refine sv rfl (opv_as rfl) ?_
        refine sv rfl (opv_as rfl) ?_
        refine sv rfl (opv_as rfl) ?_
        refine snil ?_
        refine cret ?_
        refine then_ret ?_
        refine block_ret ?_
        refine then_ret ?_
        refine block_ret ?_
        refine then_ret ?_
        obtain rfl := Option.some.inj h
        obtain rfl : Sum.inl _ = x2 := hk2
        replace ho2 : some _ = some _ := ho2
        obtain rfl := Option.some.inj ho2
        refine ⟨Or.inr rfl, _, _, _, (resVs_cons (ResV.tmp _ _ rfl) (resVs_cons (ResV.tmp _ _ rfl) (resVs_cons (ResV.tmp _ _ rfl) resVs_nil))), (by (repeat' first | exact PubA.nil _ | apply PubA.cons | apply PubV.one | apply PubV.agg | exact PubL.nil | exact PubL.ls _ _ _ _ _ _ rfl (flat_len (f := (eL eU8)) (fun _ => rfl) _).symm | exact PubL.id _ rfl | exact PubLs.nil _ | apply PubLs.cons)), ?_⟩
        rfl
      · replace h := ite_f hc h
        clear hc
        refine cskip ?_
        refine then_normal ?_
        refine cseq ?_
        refine cregion ?_
        refine sv rfl (opv_mv rfl) ?_
        refine sv rfl (opv_mv rfl) ?_
        refine sbuild1 rfl Try.underlying29 ei22 rfl rfl (List.all_eq_true.1 rfl) (by decide) ?_
        refine smem [.arr 22 1 0 (s2.2.flatMap (eL eU8)), .arr 22 1 0 ([v3.1].flatMap (eL eU8))] rfl ?_
        obtain ⟨hb4, h⟩ := chk_eq h
        refine sapp (f := (eL eU8)) (xs := s2.2) (us := [v3.1]) rfl Try.underlying29 ei22 ni29 (fun _ => rfl) rfl rfl (.one _ _ _ _ (.ls _ _ _ _ _ _ rfl (flat_len (f := (eL eU8)) (fun _ => rfl) [v3.1]).symm)) rfl rfl rfl (.sl _ _ _ (flat_len (f := (eL eU8)) (fun _ => rfl) _)) rfl rfl hb4 (by decide) ?_
        refine sv rfl (opv_as rfl) ?_
        refine snil ?_
        refine cregion ?_
        refine sv rfl (opv_mv rfl) ?_
        refine sv rfl (opv_as rfl) ?_
        refine snil0 ?_
        refine block_normal ?_
        refine then_normal ?_
        obtain rfl := Option.some.inj h
        exact ⟨(n2, (v3.2.1, (s2.2 ++ [v3.1]))), _, hk2, ⟨rfl, rfl, rfl, trivial⟩, rfl, Nat.lt_succ_self _⟩
    · replace h := ite_f hc h
      clear hc
      refine cexit ?_
      refine then_exit ?_
      refine then_exit ?_
      refine block_hit ?_
      refine then_normal ?_
      obtain rfl := Option.some.inj h
      obtain rfl : _ = x2 := hk2
      exact ⟨(s2.1, s2.2), _, ho2, ⟨rfl, rfl, trivial⟩, rfl⟩

def m14_r03_Lists_k1 (b1 : Unit) : Option Bool :=
  some true

def m14_r03_Lists_s2 (a0 : List (List UInt8)) (a1 : List (List UInt8)) (s2 : Int) : Option (LR (Int) (Unit) (Bool)) :=
  if (decide (s2 < (a0.length : Int))) then ((idx a0 s2).bind fun u3 => (idx a1 s2).bind fun u4 => if (!(u3 == u4)) then (some (.ret false)) else (some (.cont (wI (s2 + 1))))) else (some (.brk ()))
def m14_r03_Lists (a0 : List (List UInt8)) (a1 : List (List UInt8)) : Option Bool :=
  if (!decide ((a0.length : Int) = (a1.length : Int))) then (some false) else ((iter (m14_r03_Lists_s2 a0 a1) fuel 0).bind fun x => match x with | .inl r => some r | .inr e5 => m14_r03_Lists_k1 e5)

set_option maxRecDepth 100000 in
theorem m14_r03_Lists_c {a0 : List (List UInt8)} {a1 : List (List UInt8)} {r : Bool} (h : m14_r03_Lists a0 a1 = some r) : CallsA Try.prog 14 [.one (.sl a0.length (a0.flatMap (eL eU8))), .one (.sl a1.length (a1.flatMap (eL eU8)))] (· = .s (.one (.b r))) := by
  unfold m14_r03_Lists at h
  refine callsA_of Try.func14 rfl (nt := 28) rfl (Nat.le_of_ble_eq_true rfl) ?_
  intro w0 S0
  refine cseq ?_
  refine cregion ?_
  refine sv rfl (opv_as rfl) ?_
  refine snil ?_
  refine cseq ?_
  refine cseq ?_
  refine cregion ?_
  refine sv rfl (opv_mv rfl) ?_
  refine sv rfl (opv_len_sl si29 rfl) ?_
  refine sv rfl (opv_mv rfl) ?_
  refine sv rfl (opv_len_sl si29 rfl) ?_
  refine sv rfl (opv_ineq rfl rfl) ?_
  refine snil ?_
  refine ccond rfl (fun hc => ?_) (fun hc => ?_)
  · replace h := ite_t hc h
    clear hc
    refine cseq ?_
    refine cregion ?_
    refine sv rfl (opv_as rfl) ?_
    refine snil ?_
    refine cret ?_
    refine then_ret ?_
    obtain rfl := Option.some.inj h
    refine ⟨Or.inr rfl, _, _, _, (resVs_cons (ResV.tmp _ _ rfl) resVs_nil), (pubA_id rfl), ?_⟩
    rfl
  · replace h := ite_f hc h
    clear hc
    refine cskip ?_
    refine then_normal ?_
    refine cseq ?_
    refine cseq ?_
    refine cregion ?_
    refine sv rfl (opv_as rfl) ?_
    refine snil ?_
    refine cjoin (Unit) (fun b1 => []) (fun b1 => []) (fun b1 => m14_r03_Lists_k1 b1 = some r) (fun _ _ => inbL_of rfl) (fun _ _ => blkinb_of rfl) (fun _ _ => Nat.le_of_ble_eq_true rfl) (fun b1 h => ?_) ?_
    · unfold m14_r03_Lists_k1 at h
      refine cseq ?_
      refine cregion ?_
      refine sv rfl (opv_as rfl) ?_
      refine snil ?_
      refine cret ?_
      obtain rfl := Option.some.inj h
      refine ⟨Or.inr rfl, _, _, _, (resVs_cons (ResV.tmp _ _ rfl) resVs_nil), (pubA_id rfl), ?_⟩
      rfl
    · skip
      refine cblock ?_
      obtain ⟨x2, hx2, ho2⟩ := bind_eq h
      refine awc_loop (G := Nat × (Int)) (fun g => [(0, .s (.one (.sl a0.length (a0.flatMap (eL eU8))))), (1, .s (.one (.sl a1.length (a1.flatMap (eL eU8))))), (5, .s (.one (.i .i64 g.2)))]) (fun g => []) (fun g => iter (m14_r03_Lists_s2 a0 a1) g.1 g.2 = some x2) (fun g => g.1) (fuel, 0) hx2 ⟨rfl, rfl, rfl, trivial⟩ [] rfl (fun _ _ => inbL_of rfl) (fun _ _ => blkinb_of rfl) (fun _ _ => Nat.le_of_ble_eq_true rfl) ?_
      clear hx2 h
      rintro ⟨n2, s2⟩ h
      obtain ⟨n2, y2, rfl, h, hk2⟩ := iter_eq h
      unfold m14_r03_Lists_s2 at h
      refine cseq ?_
      refine cseq ?_
      refine cregion ?_
      refine sv rfl (opv_mv rfl) ?_
      refine sv rfl (opv_mv rfl) ?_
      refine sv rfl (opv_len_sl si29 rfl) ?_
      refine sv rfl (opv_lss rfl rfl) ?_
      refine snil ?_
      refine ccond rfl (fun hc => ?_) (fun hc => ?_)
      · replace h := ite_t hc h
        clear hc
        refine cskip ?_
        refine then_normal ?_
        refine cseq ?_
        refine cblock ?_
        refine cseq ?_
        refine cdraw mixed (by kernel_rfl) ?_
        refine dv rfl (opv_mv rfl) ?_
        refine dv rfl (opv_mv rfl) ?_
        obtain ⟨u3, hu3, h⟩ := bind_eq h
        refine dv rfl (opv_ix (f := (eL eU8)) si29 (fun _ => rfl) rfl rfl rfl rfl hu3) ?_
        refine dv rfl (opv_load1 ti22 rfl (.cp _) rfl) ?_
        refine dv rfl (opv_bs (l := u3) Try.underlying22 Try.underlying5 Try.underlying9 rfl rfl rfl) ?_
        refine dv rfl (opv_mv rfl) ?_
        refine dv rfl (opv_mv rfl) ?_
        obtain ⟨u4, hu4, h⟩ := bind_eq h
        refine dv rfl (opv_ix (f := (eL eU8)) si29 (fun _ => rfl) rfl rfl rfl rfl hu4) ?_
        refine dv rfl (opv_load1 ti22 rfl (.cp _) rfl) ?_
        refine dv rfl (opv_bs (l := u4) Try.underlying22 Try.underlying5 Try.underlying9 rfl rfl rfl) ?_
        refine dv rfl (opv_sneq' rfl rfl) ?_
        refine dnil ?_
        refine then_normal ?_
        refine ccond rfl (fun hc => ?_) (fun hc => ?_)
        · replace h := ite_t hc h
          clear hc
          refine cseq ?_
          refine cregion ?_
          refine sv rfl (opv_as rfl) ?_
          refine snil ?_
          refine cret ?_
          refine block_ret ?_
          refine then_ret ?_
          refine then_ret ?_
          refine block_ret ?_
          refine then_ret ?_
          obtain rfl := Option.some.inj h
          obtain rfl : Sum.inl _ = x2 := hk2
          replace ho2 : some _ = some _ := ho2
          obtain rfl := Option.some.inj ho2
          refine ⟨Or.inr rfl, _, _, _, (resVs_cons (ResV.tmp _ _ rfl) resVs_nil), (pubA_id rfl), ?_⟩
          rfl
        · replace h := ite_f hc h
          clear hc
          refine cskip ?_
          refine block_normal ?_
          refine then_normal ?_
          refine cregion ?_
          refine sv rfl (opv_mv rfl) ?_
          refine sv rfl (opv_add rfl rfl) ?_
          refine sv rfl (opv_as rfl) ?_
          refine snil ?_
          obtain rfl := Option.some.inj h
          exact ⟨(n2, (wI (s2 + 1))), _, hk2, ⟨rfl, rfl, rfl, trivial⟩, rfl, Nat.lt_succ_self _⟩
      · replace h := ite_f hc h
        clear hc
        refine cexit ?_
        refine then_exit ?_
        refine then_exit ?_
        refine block_hit ?_
        refine then_normal ?_
        obtain rfl := Option.some.inj h
        obtain rfl : _ = x2 := hk2
        exact ⟨(), _, ho2, trivial, rfl⟩

def m15_frame_Len (a0 : List UInt8) : Option Int :=
  if (decide (512 < (a0.length : Int))) then (some 0) else (some (wI (6 + (a0.length : Int))))

set_option maxRecDepth 100000 in
theorem m15_frame_Len_c {a0 : List UInt8} {r : Int} (h : m15_frame_Len a0 = some r) : CallsA Try.prog 15 [.one (.sl a0.length (a0.flatMap eU8))] (· = .s (.one (.i .i64 r))) := by
  unfold m15_frame_Len at h
  refine callsA_of Try.func15 rfl (nt := 9) rfl (Nat.le_of_ble_eq_true rfl) ?_
  intro w0 S0
  refine cseq ?_
  refine cregion ?_
  refine sv rfl (opv_as rfl) ?_
  refine snil ?_
  refine cseq ?_
  refine cseq ?_
  refine cregion ?_
  refine sv rfl (opv_mv rfl) ?_
  refine sv rfl (opv_len_sl si22 rfl) ?_
  refine sv rfl (opv_gtr rfl rfl) ?_
  refine snil ?_
  refine ccond rfl (fun hc => ?_) (fun hc => ?_)
  · replace h := ite_t hc h
    clear hc
    refine cseq ?_
    refine cregion ?_
    refine sv rfl (opv_as rfl) ?_
    refine snil ?_
    refine cret ?_
    refine then_ret ?_
    obtain rfl := Option.some.inj h
    refine ⟨Or.inr rfl, _, _, _, (resVs_cons (ResV.tmp _ _ rfl) resVs_nil), (pubA_id rfl), ?_⟩
    rfl
  · replace h := ite_f hc h
    clear hc
    refine cskip ?_
    refine then_normal ?_
    refine cseq ?_
    refine cregion ?_
    refine sv rfl (opv_mv rfl) ?_
    refine sv rfl (opv_len_sl si22 rfl) ?_
    refine sv rfl (opv_add rfl rfl) ?_
    refine sv rfl (opv_as rfl) ?_
    refine snil ?_
    refine cret ?_
    obtain rfl := Option.some.inj h
    refine ⟨Or.inr rfl, _, _, _, (resVs_cons (ResV.tmp _ _ rfl) resVs_nil), (pubA_id rfl), ?_⟩
    rfl

def m16_r03_Len (a0 : List UInt8) : Option Int :=
  if (decide (512 < (a0.length : Int))) then (some 0) else (some (wI (6 + (a0.length : Int))))

set_option maxRecDepth 100000 in
theorem m16_r03_Len_c {a0 : List UInt8} {r : Int} (h : m16_r03_Len a0 = some r) : CallsA Try.prog 16 [.one (.sl a0.length (a0.flatMap eU8))] (· = .s (.one (.i .i64 r))) := by
  unfold m16_r03_Len at h
  refine callsA_of Try.func16 rfl (nt := 9) rfl (Nat.le_of_ble_eq_true rfl) ?_
  intro w0 S0
  refine cseq ?_
  refine cregion ?_
  refine sv rfl (opv_as rfl) ?_
  refine snil ?_
  refine cseq ?_
  refine cseq ?_
  refine cregion ?_
  refine sv rfl (opv_mv rfl) ?_
  refine sv rfl (opv_len_sl si22 rfl) ?_
  refine sv rfl (opv_gtr rfl rfl) ?_
  refine snil ?_
  refine ccond rfl (fun hc => ?_) (fun hc => ?_)
  · replace h := ite_t hc h
    clear hc
    refine cseq ?_
    refine cregion ?_
    refine sv rfl (opv_as rfl) ?_
    refine snil ?_
    refine cret ?_
    refine then_ret ?_
    obtain rfl := Option.some.inj h
    refine ⟨Or.inr rfl, _, _, _, (resVs_cons (ResV.tmp _ _ rfl) resVs_nil), (pubA_id rfl), ?_⟩
    rfl
  · replace h := ite_f hc h
    clear hc
    refine cskip ?_
    refine then_normal ?_
    refine cseq ?_
    refine cregion ?_
    refine sv rfl (opv_mv rfl) ?_
    refine sv rfl (opv_len_sl si22 rfl) ?_
    refine sv rfl (opv_add rfl rfl) ?_
    refine sv rfl (opv_as rfl) ?_
    refine snil ?_
    refine cret ?_
    obtain rfl := Option.some.inj h
    refine ⟨Or.inr rfl, _, _, _, (resVs_cons (ResV.tmp _ _ rfl) resVs_nil), (pubA_id rfl), ?_⟩
    rfl

def m3_l03_FrameIs_k2 (a0 : List UInt8) (a1 : Int) (a2 : List UInt8) (v1 : Bool) (b2 : Unit) : Option Bool :=
  (m8_frame_Put a0 a2).bind fun v3 => (m9_r03_Put a0 a2).bind fun v4 => (m10_frame_Read a0 a1).bind fun v5 => (m11_r03_Read a0 a1).bind fun v6 => (m12_frame_All a0).bind fun v7 => (m13_r03_All a0).bind fun v8 => if v1 then (if (v3.1 == v4.1) then (if (decide (v3.2 = v4.2)) then (if (v5.1 == v6.1) then (if (decide (v5.2.1 = v6.2.1)) then (if (decide (v5.2.2 = v6.2.2)) then ((m14_r03_Lists v7.1 v8.1).bind fun v9 => if v9 then (if (decide (v7.2.1 = v8.2.1)) then (if (decide (v7.2.2 = v8.2.2)) then ((m15_frame_Len a2).bind fun v10 => (m16_r03_Len a2).bind fun v11 => some (decide (v10 = v11))) else (some false)) else (some false)) else (some false)) else (some false)) else (some false)) else (some false)) else (some false)) else (some false)) else (some false)
def m3_l03_FrameIs (a0 : List UInt8) (a1 : Int) (a2 : List UInt8) : Option Bool :=
  (m7_l03_awake).bind fun v1 => if (decide (2000 < (a0.length : Int))) then (some v1) else (if (decide (2000 < (a2.length : Int))) then (some v1) else (m3_l03_FrameIs_k2 a0 a1 a2 v1 ()))

set_option maxRecDepth 100000 in
theorem m3_l03_FrameIs_c {a0 : List UInt8} {a1 : Int} {a2 : List UInt8} {r : Bool} (h : m3_l03_FrameIs a0 a1 a2 = some r) : CallsA Try.prog 3 [.one (.sl a0.length (a0.flatMap eU8)), .one (.i .i64 a1), .one (.sl a2.length (a2.flatMap eU8))] (· = .s (.one (.b r))) := by
  unfold m3_l03_FrameIs at h
  refine callsA_of Try.func3 rfl (nt := 124) rfl (Nat.le_of_ble_eq_true rfl) ?_
  intro w0 S0
  refine cseq ?_
  refine cregion ?_
  refine sv rfl (opv_as rfl) ?_
  refine snil ?_
  refine cseq ?_
  refine cregion ?_
  obtain ⟨v1, hv1, h⟩ := bind_eq h
  refine scall1 rfl fn7 opnds_nil (pubA_id rfl) (m7_l03_awake_c hv1) ?_
  refine sv rfl (opv_as rfl) ?_
  refine snil ?_
  refine cseq ?_
  refine cseq ?_
  refine cjoin3 (Unit) (fun b2 => [(0, .s (.one (.sl a0.length (a0.flatMap eU8)))), (1, .s (.one (.i .i64 a1))), (2, .s (.one (.sl a2.length (a2.flatMap eU8)))), (7, .s (.one (.b v1)))]) (fun b2 => []) (fun b2 => m3_l03_FrameIs_k2 a0 a1 a2 v1 b2 = some r) (fun _ _ => inbL_of rfl) (fun _ _ => blkinb_of rfl) (fun _ _ => Nat.le_of_ble_eq_true rfl) (fun b2 h => ?_) ?_
  · unfold m3_l03_FrameIs_k2 at h
    refine cseq ?_
    refine cregion ?_
    refine sv rfl (opv_mv rfl) ?_
    refine sv rfl (opv_mv rfl) ?_
    obtain ⟨v3, hv3, h⟩ := bind_eq h
    refine scall1 rfl fn8 (opnds_cons rfl (opnds_cons rfl opnds_nil)) (pubA_id rfl) (m8_frame_Put_c hv3) ?_
    refine sv rfl (opv_mvt rfl) ?_
    refine sv rfl (opv_extract rfl rfl) ?_
    refine sv rfl (opv_extract rfl rfl) ?_
    refine sv rfl (opv_as rfl) ?_
    refine sv rfl (opv_as rfl) ?_
    refine snil ?_
    refine cseq ?_
    refine cregion ?_
    refine sv rfl (opv_mv rfl) ?_
    refine sv rfl (opv_mv rfl) ?_
    obtain ⟨v4, hv4, h⟩ := bind_eq h
    refine scall1 rfl fn9 (opnds_cons rfl (opnds_cons rfl opnds_nil)) (pubA_id rfl) (m9_r03_Put_c hv4) ?_
    refine sv rfl (opv_mvt rfl) ?_
    refine sv rfl (opv_extract rfl rfl) ?_
    refine sv rfl (opv_extract rfl rfl) ?_
    refine sv rfl (opv_as rfl) ?_
    refine sv rfl (opv_as rfl) ?_
    refine snil ?_
    refine cseq ?_
    refine cregion ?_
    refine sv rfl (opv_mv rfl) ?_
    refine sv rfl (opv_mv rfl) ?_
    obtain ⟨v5, hv5, h⟩ := bind_eq h
    refine scall1 rfl fn10 (opnds_cons rfl (opnds_cons rfl opnds_nil)) (pubA_id rfl) (m10_frame_Read_c hv5) ?_
    refine sv rfl (opv_mvt rfl) ?_
    refine sv rfl (opv_extract rfl rfl) ?_
    refine sv rfl (opv_extract rfl rfl) ?_
    refine sv rfl (opv_extract rfl rfl) ?_
    refine sv rfl (opv_as rfl) ?_
    refine sv rfl (opv_as rfl) ?_
    refine sv rfl (opv_as rfl) ?_
    refine snil ?_
    refine cseq ?_
    refine cregion ?_
    refine sv rfl (opv_mv rfl) ?_
    refine sv rfl (opv_mv rfl) ?_
    obtain ⟨v6, hv6, h⟩ := bind_eq h
    refine scall1 rfl fn11 (opnds_cons rfl (opnds_cons rfl opnds_nil)) (pubA_id rfl) (m11_r03_Read_c hv6) ?_
    refine sv rfl (opv_mvt rfl) ?_
    refine sv rfl (opv_extract rfl rfl) ?_
    refine sv rfl (opv_extract rfl rfl) ?_
    refine sv rfl (opv_extract rfl rfl) ?_
    refine sv rfl (opv_as rfl) ?_
    refine sv rfl (opv_as rfl) ?_
    refine sv rfl (opv_as rfl) ?_
    refine snil ?_
    refine cseq ?_
    refine cregion ?_
    refine sv rfl (opv_mv rfl) ?_
    obtain ⟨v7, hv7, h⟩ := bind_eq h
    refine scall1 rfl fn12 (opnds_cons rfl opnds_nil) (pubA_id rfl) (m12_frame_All_c hv7) ?_
    refine sv rfl (opv_mvt rfl) ?_
    refine sv rfl (opv_extract rfl rfl) ?_
    refine sv rfl (opv_extract rfl rfl) ?_
    refine sv rfl (opv_extract rfl rfl) ?_
    refine sv rfl (opv_as rfl) ?_
    refine sv rfl (opv_as rfl) ?_
    refine sv rfl (opv_as rfl) ?_
    refine snil ?_
    refine cseq ?_
    refine cregion ?_
    refine sv rfl (opv_mv rfl) ?_
    obtain ⟨v8, hv8, h⟩ := bind_eq h
    refine scall1 rfl fn13 (opnds_cons rfl opnds_nil) (pubA_id rfl) (m13_r03_All_c hv8) ?_
    refine sv rfl (opv_mvt rfl) ?_
    refine sv rfl (opv_extract rfl rfl) ?_
    refine sv rfl (opv_extract rfl rfl) ?_
    refine sv rfl (opv_extract rfl rfl) ?_
    refine sv rfl (opv_as rfl) ?_
    refine sv rfl (opv_as rfl) ?_
    refine sv rfl (opv_as rfl) ?_
    refine snil ?_
    refine cseq ?_
    refine cregion ?_
    refine sv rfl (opv_mv rfl) ?_
    refine sv rfl (opv_mv rfl) ?_
    refine ssplit 73 rfl (fun hc => ?_) (fun hc => ?_)
    · replace h := ite_t hc h
      clear hc
      refine son rfl rfl rfl ?_
      refine sv rfl (opv_mv rfl) ?_
      refine son rfl rfl rfl ?_
      refine sv rfl (opv_bs (l := v3.1) Try.underlying22 Try.underlying5 Try.underlying9 rfl rfl rfl) ?_
      refine son rfl rfl rfl ?_
      refine sv rfl (opv_mv rfl) ?_
      refine son rfl rfl rfl ?_
      refine sv rfl (opv_bs (l := v4.1) Try.underlying22 Try.underlying5 Try.underlying9 rfl rfl rfl) ?_
      refine son rfl rfl rfl ?_
      refine sv rfl (opv_seql' rfl rfl) ?_
      refine sv rfl (opv_pick_t rfl rfl) ?_
      refine sv rfl (opv_mv rfl) ?_
      refine ssplit 80 rfl (fun hc => ?_) (fun hc => ?_)
      · replace h := ite_t hc h
        clear hc
        refine son rfl rfl rfl ?_
        refine sv rfl (opv_mv rfl) ?_
        refine son rfl rfl rfl ?_
        refine sv rfl (opv_mv rfl) ?_
        refine son rfl rfl rfl ?_
        refine sv rfl (opv_ieql rfl rfl) ?_
        refine sv rfl (opv_pick_t rfl rfl) ?_
        refine sv rfl (opv_mv rfl) ?_
        refine ssplit 85 rfl (fun hc => ?_) (fun hc => ?_)
        · replace h := ite_t hc h
          clear hc
          refine son rfl rfl rfl ?_
          refine sv rfl (opv_mv rfl) ?_
          refine son rfl rfl rfl ?_
          refine sv rfl (opv_bs (l := v5.1) Try.underlying22 Try.underlying5 Try.underlying9 rfl rfl rfl) ?_
          refine son rfl rfl rfl ?_
          refine sv rfl (opv_mv rfl) ?_
          refine son rfl rfl rfl ?_
          refine sv rfl (opv_bs (l := v6.1) Try.underlying22 Try.underlying5 Try.underlying9 rfl rfl rfl) ?_
          refine son rfl rfl rfl ?_
          refine sv rfl (opv_seql' rfl rfl) ?_
          refine sv rfl (opv_pick_t rfl rfl) ?_
          refine sv rfl (opv_mv rfl) ?_
          refine ssplit 92 rfl (fun hc => ?_) (fun hc => ?_)
          · replace h := ite_t hc h
            clear hc
            refine son rfl rfl rfl ?_
            refine sv rfl (opv_mv rfl) ?_
            refine son rfl rfl rfl ?_
            refine sv rfl (opv_mv rfl) ?_
            refine son rfl rfl rfl ?_
            refine sv rfl (opv_ieql rfl rfl) ?_
            refine sv rfl (opv_pick_t rfl rfl) ?_
            refine sv rfl (opv_mv rfl) ?_
            refine ssplit 97 rfl (fun hc => ?_) (fun hc => ?_)
            · replace h := ite_t hc h
              clear hc
              refine son rfl rfl rfl ?_
              refine sv rfl (opv_mv rfl) ?_
              refine son rfl rfl rfl ?_
              refine sv rfl (opv_mv rfl) ?_
              refine son rfl rfl rfl ?_
              refine sv rfl (opv_ieql rfl rfl) ?_
              refine sv rfl (opv_pick_t rfl rfl) ?_
              refine sv rfl (opv_mv rfl) ?_
              refine ssplit 102 rfl (fun hc => ?_) (fun hc => ?_)
              · replace h := ite_t hc h
                clear hc
                refine son rfl rfl rfl ?_
                refine sv rfl (opv_mv rfl) ?_
                refine son rfl rfl rfl ?_
                refine sv rfl (opv_mv rfl) ?_
                refine son rfl rfl rfl ?_
                obtain ⟨v9, hv9, h⟩ := bind_eq h
                refine scall1 rfl fn14 (opnds_cons rfl (opnds_cons rfl opnds_nil)) (pubA_id rfl) (m14_r03_Lists_c hv9) ?_
                refine sv rfl (opv_pick_t rfl rfl) ?_
                refine sv rfl (opv_mv rfl) ?_
                refine ssplit 107 rfl (fun hc => ?_) (fun hc => ?_)
                · replace h := ite_t hc h
                  clear hc
                  refine son rfl rfl rfl ?_
                  refine sv rfl (opv_mv rfl) ?_
                  refine son rfl rfl rfl ?_
                  refine sv rfl (opv_mv rfl) ?_
                  refine son rfl rfl rfl ?_
                  refine sv rfl (opv_ieql rfl rfl) ?_
                  refine sv rfl (opv_pick_t rfl rfl) ?_
                  refine sv rfl (opv_mv rfl) ?_
                  refine ssplit 112 rfl (fun hc => ?_) (fun hc => ?_)
                  · replace h := ite_t hc h
                    clear hc
                    refine son rfl rfl rfl ?_
                    refine sv rfl (opv_mv rfl) ?_
                    refine son rfl rfl rfl ?_
                    refine sv rfl (opv_mv rfl) ?_
                    refine son rfl rfl rfl ?_
                    refine sv rfl (opv_ieql rfl rfl) ?_
                    refine sv rfl (opv_pick_t rfl rfl) ?_
                    refine sv rfl (opv_mv rfl) ?_
                    refine ssplit 117 rfl (fun hc => ?_) (fun hc => ?_)
                    · replace h := ite_t hc h
                      clear hc
                      refine son rfl rfl rfl ?_
                      refine sv rfl (opv_mv rfl) ?_
                      refine son rfl rfl rfl ?_
                      obtain ⟨v10, hv10, h⟩ := bind_eq h
                      refine scall1 rfl fn15 (opnds_cons rfl opnds_nil) (pubA_id rfl) (m15_frame_Len_c hv10) ?_
                      refine son rfl rfl rfl ?_
                      refine sv rfl (opv_mv rfl) ?_
                      refine son rfl rfl rfl ?_
                      obtain ⟨v11, hv11, h⟩ := bind_eq h
                      refine scall1 rfl fn16 (opnds_cons rfl opnds_nil) (pubA_id rfl) (m16_r03_Len_c hv11) ?_
                      refine son rfl rfl rfl ?_
                      refine sv rfl (opv_ieql rfl rfl) ?_
                      refine sv rfl (opv_pick_t rfl rfl) ?_
                      refine sv rfl (opv_as rfl) ?_
                      refine snil ?_
                      refine cret ?_
                      obtain rfl := Option.some.inj h
                      refine ⟨Or.inr rfl, _, _, _, (resVs_cons (ResV.tmp _ _ rfl) resVs_nil), (pubA_id rfl), ?_⟩
                      rfl
                    · replace h := ite_f hc h
                      clear hc
                      refine soff rfl rfl rfl rfl ?_
                      refine soff rfl rfl rfl rfl ?_
                      refine soff rfl rfl rfl rfl ?_
                      refine soff rfl rfl rfl rfl ?_
                      refine soff rfl rfl rfl rfl ?_
                      refine sv rfl (opv_pick_f rfl rfl) ?_
                      refine sv rfl (opv_as rfl) ?_
                      refine snil ?_
                      refine cret ?_
                      obtain rfl := Option.some.inj h
                      refine ⟨Or.inr rfl, _, _, _, (resVs_cons (ResV.tmp _ _ rfl) resVs_nil), (pubA_id rfl), ?_⟩
                      rfl
                  · replace h := ite_f hc h
                    clear hc
                    refine soff rfl rfl rfl rfl ?_
                    refine soff rfl rfl rfl rfl ?_
                    refine soff rfl rfl rfl rfl ?_
                    refine sv rfl (opv_pick_f rfl rfl) ?_
                    refine sv rfl (opv_mv rfl) ?_
                    refine soff rfl rfl rfl rfl ?_
                    refine soff rfl rfl rfl rfl ?_
                    refine soff rfl rfl rfl rfl ?_
                    refine soff rfl rfl rfl rfl ?_
                    refine soff rfl rfl rfl rfl ?_
                    refine sv rfl (opv_pick_f rfl rfl) ?_
                    refine sv rfl (opv_as rfl) ?_
                    refine snil ?_
                    refine cret ?_
                    obtain rfl := Option.some.inj h
                    refine ⟨Or.inr rfl, _, _, _, (resVs_cons (ResV.tmp _ _ rfl) resVs_nil), (pubA_id rfl), ?_⟩
                    rfl
                · replace h := ite_f hc h
                  clear hc
                  refine soff rfl rfl rfl rfl ?_
                  refine soff rfl rfl rfl rfl ?_
                  refine soff rfl rfl rfl rfl ?_
                  refine sv rfl (opv_pick_f rfl rfl) ?_
                  refine sv rfl (opv_mv rfl) ?_
                  refine soff rfl rfl rfl rfl ?_
                  refine soff rfl rfl rfl rfl ?_
                  refine soff rfl rfl rfl rfl ?_
                  refine sv rfl (opv_pick_f rfl rfl) ?_
                  refine sv rfl (opv_mv rfl) ?_
                  refine soff rfl rfl rfl rfl ?_
                  refine soff rfl rfl rfl rfl ?_
                  refine soff rfl rfl rfl rfl ?_
                  refine soff rfl rfl rfl rfl ?_
                  refine soff rfl rfl rfl rfl ?_
                  refine sv rfl (opv_pick_f rfl rfl) ?_
                  refine sv rfl (opv_as rfl) ?_
                  refine snil ?_
                  refine cret ?_
                  obtain rfl := Option.some.inj h
                  refine ⟨Or.inr rfl, _, _, _, (resVs_cons (ResV.tmp _ _ rfl) resVs_nil), (pubA_id rfl), ?_⟩
                  rfl
              · replace h := ite_f hc h
                clear hc
                refine soff rfl rfl rfl rfl ?_
                refine soff rfl rfl rfl rfl ?_
                refine soff rfl rfl rfl rfl ?_
                refine sv rfl (opv_pick_f rfl rfl) ?_
                refine sv rfl (opv_mv rfl) ?_
                refine soff rfl rfl rfl rfl ?_
                refine soff rfl rfl rfl rfl ?_
                refine soff rfl rfl rfl rfl ?_
                refine sv rfl (opv_pick_f rfl rfl) ?_
                refine sv rfl (opv_mv rfl) ?_
                refine soff rfl rfl rfl rfl ?_
                refine soff rfl rfl rfl rfl ?_
                refine soff rfl rfl rfl rfl ?_
                refine sv rfl (opv_pick_f rfl rfl) ?_
                refine sv rfl (opv_mv rfl) ?_
                refine soff rfl rfl rfl rfl ?_
                refine soff rfl rfl rfl rfl ?_
                refine soff rfl rfl rfl rfl ?_
                refine soff rfl rfl rfl rfl ?_
                refine soff rfl rfl rfl rfl ?_
                refine sv rfl (opv_pick_f rfl rfl) ?_
                refine sv rfl (opv_as rfl) ?_
                refine snil ?_
                refine cret ?_
                obtain rfl := Option.some.inj h
                refine ⟨Or.inr rfl, _, _, _, (resVs_cons (ResV.tmp _ _ rfl) resVs_nil), (pubA_id rfl), ?_⟩
                rfl
            · replace h := ite_f hc h
              clear hc
              refine soff rfl rfl rfl rfl ?_
              refine soff rfl rfl rfl rfl ?_
              refine soff rfl rfl rfl rfl ?_
              refine sv rfl (opv_pick_f rfl rfl) ?_
              refine sv rfl (opv_mv rfl) ?_
              refine soff rfl rfl rfl rfl ?_
              refine soff rfl rfl rfl rfl ?_
              refine soff rfl rfl rfl rfl ?_
              refine sv rfl (opv_pick_f rfl rfl) ?_
              refine sv rfl (opv_mv rfl) ?_
              refine soff rfl rfl rfl rfl ?_
              refine soff rfl rfl rfl rfl ?_
              refine soff rfl rfl rfl rfl ?_
              refine sv rfl (opv_pick_f rfl rfl) ?_
              refine sv rfl (opv_mv rfl) ?_
              refine soff rfl rfl rfl rfl ?_
              refine soff rfl rfl rfl rfl ?_
              refine soff rfl rfl rfl rfl ?_
              refine sv rfl (opv_pick_f rfl rfl) ?_
              refine sv rfl (opv_mv rfl) ?_
              refine soff rfl rfl rfl rfl ?_
              refine soff rfl rfl rfl rfl ?_
              refine soff rfl rfl rfl rfl ?_
              refine soff rfl rfl rfl rfl ?_
              refine soff rfl rfl rfl rfl ?_
              refine sv rfl (opv_pick_f rfl rfl) ?_
              refine sv rfl (opv_as rfl) ?_
              refine snil ?_
              refine cret ?_
              obtain rfl := Option.some.inj h
              refine ⟨Or.inr rfl, _, _, _, (resVs_cons (ResV.tmp _ _ rfl) resVs_nil), (pubA_id rfl), ?_⟩
              rfl
          · replace h := ite_f hc h
            clear hc
            refine soff rfl rfl rfl rfl ?_
            refine soff rfl rfl rfl rfl ?_
            refine soff rfl rfl rfl rfl ?_
            refine sv rfl (opv_pick_f rfl rfl) ?_
            refine sv rfl (opv_mv rfl) ?_
            refine soff rfl rfl rfl rfl ?_
            refine soff rfl rfl rfl rfl ?_
            refine soff rfl rfl rfl rfl ?_
            refine sv rfl (opv_pick_f rfl rfl) ?_
            refine sv rfl (opv_mv rfl) ?_
            refine soff rfl rfl rfl rfl ?_
            refine soff rfl rfl rfl rfl ?_
            refine soff rfl rfl rfl rfl ?_
            refine sv rfl (opv_pick_f rfl rfl) ?_
            refine sv rfl (opv_mv rfl) ?_
            refine soff rfl rfl rfl rfl ?_
            refine soff rfl rfl rfl rfl ?_
            refine soff rfl rfl rfl rfl ?_
            refine sv rfl (opv_pick_f rfl rfl) ?_
            refine sv rfl (opv_mv rfl) ?_
            refine soff rfl rfl rfl rfl ?_
            refine soff rfl rfl rfl rfl ?_
            refine soff rfl rfl rfl rfl ?_
            refine sv rfl (opv_pick_f rfl rfl) ?_
            refine sv rfl (opv_mv rfl) ?_
            refine soff rfl rfl rfl rfl ?_
            refine soff rfl rfl rfl rfl ?_
            refine soff rfl rfl rfl rfl ?_
            refine soff rfl rfl rfl rfl ?_
            refine soff rfl rfl rfl rfl ?_
            refine sv rfl (opv_pick_f rfl rfl) ?_
            refine sv rfl (opv_as rfl) ?_
            refine snil ?_
            refine cret ?_
            obtain rfl := Option.some.inj h
            refine ⟨Or.inr rfl, _, _, _, (resVs_cons (ResV.tmp _ _ rfl) resVs_nil), (pubA_id rfl), ?_⟩
            rfl
        · replace h := ite_f hc h
          clear hc
          refine soff rfl rfl rfl rfl ?_
          refine soff rfl rfl rfl rfl ?_
          refine soff rfl rfl rfl rfl ?_
          refine soff rfl rfl rfl rfl ?_
          refine soff rfl rfl rfl rfl ?_
          refine sv rfl (opv_pick_f rfl rfl) ?_
          refine sv rfl (opv_mv rfl) ?_
          refine soff rfl rfl rfl rfl ?_
          refine soff rfl rfl rfl rfl ?_
          refine soff rfl rfl rfl rfl ?_
          refine sv rfl (opv_pick_f rfl rfl) ?_
          refine sv rfl (opv_mv rfl) ?_
          refine soff rfl rfl rfl rfl ?_
          refine soff rfl rfl rfl rfl ?_
          refine soff rfl rfl rfl rfl ?_
          refine sv rfl (opv_pick_f rfl rfl) ?_
          refine sv rfl (opv_mv rfl) ?_
          refine soff rfl rfl rfl rfl ?_
          refine soff rfl rfl rfl rfl ?_
          refine soff rfl rfl rfl rfl ?_
          refine sv rfl (opv_pick_f rfl rfl) ?_
          refine sv rfl (opv_mv rfl) ?_
          refine soff rfl rfl rfl rfl ?_
          refine soff rfl rfl rfl rfl ?_
          refine soff rfl rfl rfl rfl ?_
          refine sv rfl (opv_pick_f rfl rfl) ?_
          refine sv rfl (opv_mv rfl) ?_
          refine soff rfl rfl rfl rfl ?_
          refine soff rfl rfl rfl rfl ?_
          refine soff rfl rfl rfl rfl ?_
          refine sv rfl (opv_pick_f rfl rfl) ?_
          refine sv rfl (opv_mv rfl) ?_
          refine soff rfl rfl rfl rfl ?_
          refine soff rfl rfl rfl rfl ?_
          refine soff rfl rfl rfl rfl ?_
          refine soff rfl rfl rfl rfl ?_
          refine soff rfl rfl rfl rfl ?_
          refine sv rfl (opv_pick_f rfl rfl) ?_
          refine sv rfl (opv_as rfl) ?_
          refine snil ?_
          refine cret ?_
          obtain rfl := Option.some.inj h
          refine ⟨Or.inr rfl, _, _, _, (resVs_cons (ResV.tmp _ _ rfl) resVs_nil), (pubA_id rfl), ?_⟩
          rfl
      · replace h := ite_f hc h
        clear hc
        refine soff rfl rfl rfl rfl ?_
        refine soff rfl rfl rfl rfl ?_
        refine soff rfl rfl rfl rfl ?_
        refine sv rfl (opv_pick_f rfl rfl) ?_
        refine sv rfl (opv_mv rfl) ?_
        refine soff rfl rfl rfl rfl ?_
        refine soff rfl rfl rfl rfl ?_
        refine soff rfl rfl rfl rfl ?_
        refine soff rfl rfl rfl rfl ?_
        refine soff rfl rfl rfl rfl ?_
        refine sv rfl (opv_pick_f rfl rfl) ?_
        refine sv rfl (opv_mv rfl) ?_
        refine soff rfl rfl rfl rfl ?_
        refine soff rfl rfl rfl rfl ?_
        refine soff rfl rfl rfl rfl ?_
        refine sv rfl (opv_pick_f rfl rfl) ?_
        refine sv rfl (opv_mv rfl) ?_
        refine soff rfl rfl rfl rfl ?_
        refine soff rfl rfl rfl rfl ?_
        refine soff rfl rfl rfl rfl ?_
        refine sv rfl (opv_pick_f rfl rfl) ?_
        refine sv rfl (opv_mv rfl) ?_
        refine soff rfl rfl rfl rfl ?_
        refine soff rfl rfl rfl rfl ?_
        refine soff rfl rfl rfl rfl ?_
        refine sv rfl (opv_pick_f rfl rfl) ?_
        refine sv rfl (opv_mv rfl) ?_
        refine soff rfl rfl rfl rfl ?_
        refine soff rfl rfl rfl rfl ?_
        refine soff rfl rfl rfl rfl ?_
        refine sv rfl (opv_pick_f rfl rfl) ?_
        refine sv rfl (opv_mv rfl) ?_
        refine soff rfl rfl rfl rfl ?_
        refine soff rfl rfl rfl rfl ?_
        refine soff rfl rfl rfl rfl ?_
        refine sv rfl (opv_pick_f rfl rfl) ?_
        refine sv rfl (opv_mv rfl) ?_
        refine soff rfl rfl rfl rfl ?_
        refine soff rfl rfl rfl rfl ?_
        refine soff rfl rfl rfl rfl ?_
        refine soff rfl rfl rfl rfl ?_
        refine soff rfl rfl rfl rfl ?_
        refine sv rfl (opv_pick_f rfl rfl) ?_
        refine sv rfl (opv_as rfl) ?_
        refine snil ?_
        refine cret ?_
        obtain rfl := Option.some.inj h
        refine ⟨Or.inr rfl, _, _, _, (resVs_cons (ResV.tmp _ _ rfl) resVs_nil), (pubA_id rfl), ?_⟩
        rfl
    · replace h := ite_f hc h
      clear hc
      refine soff rfl rfl rfl rfl ?_
      refine soff rfl rfl rfl rfl ?_
      refine soff rfl rfl rfl rfl ?_
      refine soff rfl rfl rfl rfl ?_
      refine soff rfl rfl rfl rfl ?_
      refine sv rfl (opv_pick_f rfl rfl) ?_
      refine sv rfl (opv_mv rfl) ?_
      refine soff rfl rfl rfl rfl ?_
      refine soff rfl rfl rfl rfl ?_
      refine soff rfl rfl rfl rfl ?_
      refine sv rfl (opv_pick_f rfl rfl) ?_
      refine sv rfl (opv_mv rfl) ?_
      refine soff rfl rfl rfl rfl ?_
      refine soff rfl rfl rfl rfl ?_
      refine soff rfl rfl rfl rfl ?_
      refine soff rfl rfl rfl rfl ?_
      refine soff rfl rfl rfl rfl ?_
      refine sv rfl (opv_pick_f rfl rfl) ?_
      refine sv rfl (opv_mv rfl) ?_
      refine soff rfl rfl rfl rfl ?_
      refine soff rfl rfl rfl rfl ?_
      refine soff rfl rfl rfl rfl ?_
      refine sv rfl (opv_pick_f rfl rfl) ?_
      refine sv rfl (opv_mv rfl) ?_
      refine soff rfl rfl rfl rfl ?_
      refine soff rfl rfl rfl rfl ?_
      refine soff rfl rfl rfl rfl ?_
      refine sv rfl (opv_pick_f rfl rfl) ?_
      refine sv rfl (opv_mv rfl) ?_
      refine soff rfl rfl rfl rfl ?_
      refine soff rfl rfl rfl rfl ?_
      refine soff rfl rfl rfl rfl ?_
      refine sv rfl (opv_pick_f rfl rfl) ?_
      refine sv rfl (opv_mv rfl) ?_
      refine soff rfl rfl rfl rfl ?_
      refine soff rfl rfl rfl rfl ?_
      refine soff rfl rfl rfl rfl ?_
      refine sv rfl (opv_pick_f rfl rfl) ?_
      refine sv rfl (opv_mv rfl) ?_
      refine soff rfl rfl rfl rfl ?_
      refine soff rfl rfl rfl rfl ?_
      refine soff rfl rfl rfl rfl ?_
      refine sv rfl (opv_pick_f rfl rfl) ?_
      refine sv rfl (opv_mv rfl) ?_
      refine soff rfl rfl rfl rfl ?_
      refine soff rfl rfl rfl rfl ?_
      refine soff rfl rfl rfl rfl ?_
      refine soff rfl rfl rfl rfl ?_
      refine soff rfl rfl rfl rfl ?_
      refine sv rfl (opv_pick_f rfl rfl) ?_
      refine sv rfl (opv_as rfl) ?_
      refine snil ?_
      refine cret ?_
      obtain rfl := Option.some.inj h
      refine ⟨Or.inr rfl, _, _, _, (resVs_cons (ResV.tmp _ _ rfl) resVs_nil), (pubA_id rfl), ?_⟩
      rfl
  · skip
    refine cregion ?_
    refine sv rfl (opv_mv rfl) ?_
    refine sv rfl (opv_len_sl si22 rfl) ?_
    refine sv rfl (opv_gtr rfl rfl) ?_
    refine sv rfl (opv_mv rfl) ?_
    refine ssplit 28 rfl (fun hc => ?_) (fun hc => ?_)
    · replace h := ite_t hc h
      clear hc
      refine soff rfl rfl rfl rfl ?_
      refine soff rfl rfl rfl rfl ?_
      refine soff rfl rfl rfl rfl ?_
      refine sv rfl (opv_pick_t rfl rfl) ?_
      refine snil ?_
      refine ccond rfl (fun _ => ?_) (fun hx => Bool.noConfusion hx)
      refine cseq ?_
      refine cregion ?_
      refine sv rfl (opv_mv rfl) ?_
      refine sv rfl (opv_as rfl) ?_
      refine snil ?_
      refine cret ?_
      refine then_ret ?_
      obtain rfl := Option.some.inj h
      refine ⟨Or.inr rfl, _, _, _, (resVs_cons (ResV.tmp _ _ rfl) resVs_nil), (pubA_id rfl), ?_⟩
      rfl
    · replace h := ite_f hc h
      clear hc
      refine son rfl rfl rfl ?_
      refine sv rfl (opv_mv rfl) ?_
      refine son rfl rfl rfl ?_
      refine sv rfl (opv_len_sl si22 rfl) ?_
      refine son rfl rfl rfl ?_
      refine sv rfl (opv_gtr rfl rfl) ?_
      refine sv rfl (opv_pick_f rfl rfl) ?_
      refine snil ?_
      refine ccond rfl (fun hc => ?_) (fun hc => ?_)
      · replace h := ite_t hc h
        clear hc
        refine cseq ?_
        refine cregion ?_
        refine sv rfl (opv_mv rfl) ?_
        refine sv rfl (opv_as rfl) ?_
        refine snil ?_
        refine cret ?_
        refine then_ret ?_
        obtain rfl := Option.some.inj h
        refine ⟨Or.inr rfl, _, _, _, (resVs_cons (ResV.tmp _ _ rfl) resVs_nil), (pubA_id rfl), ?_⟩
        rfl
      · replace h := ite_f hc h
        clear hc
        refine cskip ?_
        refine then_normal ?_
        exact ⟨(), _, h, ⟨rfl, rfl, rfl, rfl, trivial⟩, rfl⟩

def m17_r03_Few_k1 (b1 : Unit) : Option Bool :=
  some true

def m17_r03_Few_s2 (a0 : List (List UInt8)) (a1 : Int) (s2 : Int) : Option (LR (Int) (Unit) (Bool)) :=
  if (decide (s2 < (a0.length : Int))) then ((idx a0 s2).bind fun u3 => if (decide (a1 < (u3.length : Int))) then (some (.ret false)) else (some (.cont (wI (s2 + 1))))) else (some (.brk ()))
def m17_r03_Few (a0 : List (List UInt8)) (a1 : Int) : Option Bool :=
  if (decide (20 < (a0.length : Int))) then (some false) else ((iter (m17_r03_Few_s2 a0 a1) fuel 0).bind fun x => match x with | .inl r => some r | .inr e4 => m17_r03_Few_k1 e4)

set_option maxRecDepth 100000 in
theorem m17_r03_Few_c {a0 : List (List UInt8)} {a1 : Int} {r : Bool} (h : m17_r03_Few a0 a1 = some r) : CallsA Try.prog 17 [.one (.sl a0.length (a0.flatMap (eL eU8))), .one (.i .i64 a1)] (· = .s (.one (.b r))) := by
  unfold m17_r03_Few at h
  refine callsA_of Try.func17 rfl (nt := 22) rfl (Nat.le_of_ble_eq_true rfl) ?_
  intro w0 S0
  refine cseq ?_
  refine cregion ?_
  refine sv rfl (opv_as rfl) ?_
  refine snil ?_
  refine cseq ?_
  refine cseq ?_
  refine cregion ?_
  refine sv rfl (opv_mv rfl) ?_
  refine sv rfl (opv_len_sl si29 rfl) ?_
  refine sv rfl (opv_gtr rfl rfl) ?_
  refine snil ?_
  refine ccond rfl (fun hc => ?_) (fun hc => ?_)
  · replace h := ite_t hc h
    clear hc
    refine cseq ?_
    refine cregion ?_
    refine sv rfl (opv_as rfl) ?_
    refine snil ?_
    refine cret ?_
    refine then_ret ?_
    obtain rfl := Option.some.inj h
    refine ⟨Or.inr rfl, _, _, _, (resVs_cons (ResV.tmp _ _ rfl) resVs_nil), (pubA_id rfl), ?_⟩
    rfl
  · replace h := ite_f hc h
    clear hc
    refine cskip ?_
    refine then_normal ?_
    refine cseq ?_
    refine cseq ?_
    refine cregion ?_
    refine sv rfl (opv_as rfl) ?_
    refine snil ?_
    refine cjoin (Unit) (fun b1 => []) (fun b1 => []) (fun b1 => m17_r03_Few_k1 b1 = some r) (fun _ _ => inbL_of rfl) (fun _ _ => blkinb_of rfl) (fun _ _ => Nat.le_of_ble_eq_true rfl) (fun b1 h => ?_) ?_
    · unfold m17_r03_Few_k1 at h
      refine cseq ?_
      refine cregion ?_
      refine sv rfl (opv_as rfl) ?_
      refine snil ?_
      refine cret ?_
      obtain rfl := Option.some.inj h
      refine ⟨Or.inr rfl, _, _, _, (resVs_cons (ResV.tmp _ _ rfl) resVs_nil), (pubA_id rfl), ?_⟩
      rfl
    · skip
      refine cblock ?_
      obtain ⟨x2, hx2, ho2⟩ := bind_eq h
      refine awc_loop (G := Nat × (Int)) (fun g => [(0, .s (.one (.sl a0.length (a0.flatMap (eL eU8))))), (1, .s (.one (.i .i64 a1))), (5, .s (.one (.i .i64 g.2)))]) (fun g => []) (fun g => iter (m17_r03_Few_s2 a0 a1) g.1 g.2 = some x2) (fun g => g.1) (fuel, 0) hx2 ⟨rfl, rfl, rfl, trivial⟩ [] rfl (fun _ _ => inbL_of rfl) (fun _ _ => blkinb_of rfl) (fun _ _ => Nat.le_of_ble_eq_true rfl) ?_
      clear hx2 h
      rintro ⟨n2, s2⟩ h
      obtain ⟨n2, y2, rfl, h, hk2⟩ := iter_eq h
      unfold m17_r03_Few_s2 at h
      refine cseq ?_
      refine cseq ?_
      refine cregion ?_
      refine sv rfl (opv_mv rfl) ?_
      refine sv rfl (opv_mv rfl) ?_
      refine sv rfl (opv_len_sl si29 rfl) ?_
      refine sv rfl (opv_lss rfl rfl) ?_
      refine snil ?_
      refine ccond rfl (fun hc => ?_) (fun hc => ?_)
      · replace h := ite_t hc h
        clear hc
        refine cskip ?_
        refine then_normal ?_
        refine cseq ?_
        refine cblock ?_
        refine cseq ?_
        refine cregion ?_
        refine sv rfl (opv_mv rfl) ?_
        refine sv rfl (opv_mv rfl) ?_
        obtain ⟨u3, hu3, h⟩ := bind_eq h
        refine sv rfl (opv_ix (f := (eL eU8)) si29 (fun _ => rfl) rfl rfl rfl rfl hu3) ?_
        refine sv rfl (opv_load1 ti22 rfl (.cp _) rfl) ?_
        refine sv rfl (opv_len_sl si22 rfl) ?_
        refine sv rfl (opv_mv rfl) ?_
        refine sv rfl (opv_gtr rfl rfl) ?_
        refine snil ?_
        refine ccond rfl (fun hc => ?_) (fun hc => ?_)
        · replace h := ite_t hc h
          clear hc
          refine cseq ?_
          refine cregion ?_
          refine sv rfl (opv_as rfl) ?_
          refine snil ?_
          refine cret ?_
          refine block_ret ?_
          refine then_ret ?_
          refine then_ret ?_
          refine block_ret ?_
          refine then_ret ?_
          obtain rfl := Option.some.inj h
          obtain rfl : Sum.inl _ = x2 := hk2
          replace ho2 : some _ = some _ := ho2
          obtain rfl := Option.some.inj ho2
          refine ⟨Or.inr rfl, _, _, _, (resVs_cons (ResV.tmp _ _ rfl) resVs_nil), (pubA_id rfl), ?_⟩
          rfl
        · replace h := ite_f hc h
          clear hc
          refine cskip ?_
          refine block_normal ?_
          refine then_normal ?_
          refine cregion ?_
          refine sv rfl (opv_mv rfl) ?_
          refine sv rfl (opv_add rfl rfl) ?_
          refine sv rfl (opv_as rfl) ?_
          refine snil ?_
          obtain rfl := Option.some.inj h
          exact ⟨(n2, (wI (s2 + 1))), _, hk2, ⟨rfl, rfl, rfl, trivial⟩, rfl, Nat.lt_succ_self _⟩
      · replace h := ite_f hc h
        clear hc
        refine cexit ?_
        refine then_exit ?_
        refine then_exit ?_
        refine block_hit ?_
        refine then_normal ?_
        obtain rfl := Option.some.inj h
        obtain rfl : _ = x2 := hk2
        exact ⟨(), _, ho2, trivial, rfl⟩

def m4_l03_FrameBack_k5 (v1 : Bool) (b3 : (List UInt8) × (List (List UInt8))) (b5 : Unit) : Option Bool :=
  if (decide ((b3.2.length : Int) = 0)) then (some v1) else ((cut b3.1 0 (wI ((b3.1.length : Int) - 1))).bind fun c6 => (m12_frame_All c6).bind fun v7 => if v1 then (if (decide (v7.2.2 = 2)) then ((idx b3.2 (wI ((b3.2.length : Int) - 1))).bind fun u8 => (m15_frame_Len u8).bind fun v9 => if (decide (v7.2.1 = (wI ((b3.1.length : Int) - v9)))) then ((cut b3.2 0 (wI ((b3.2.length : Int) - 1))).bind fun c10 => (m14_r03_Lists v7.1 c10).bind fun v11 => some v11) else (some false)) else (some false)) else (some false))

def m4_l03_FrameBack_k3 (v1 : Bool) (b3 : (List UInt8) × (List (List UInt8))) : Option Bool :=
  (m12_frame_All b3.1).bind fun v4 => if (!decide (v4.2.2 = 0)) then (some false) else (if (!decide (v4.2.1 = (b3.1.length : Int))) then (some false) else ((m14_r03_Lists v4.1 b3.2).bind fun v12 => if (!v12) then (some false) else (m4_l03_FrameBack_k5 v1 b3 ())))

def m4_l03_FrameBack_k16 (a0 : List (List UInt8)) (s13 : (List UInt8) × Int × (List (List UInt8))) (v15 : (List UInt8) × Int) (b16 : Unit) : Option (LR ((List UInt8) × Int × (List (List UInt8))) ((List UInt8) × (List (List UInt8))) (Bool)) :=
  if (decide (v15.2 = 0)) then ((idx a0 s13.2.1).bind fun u17 => if (s13.2.2.length + [u17].length) * 24 ≤ 140737488355328 then (some (.cont (v15.1, (wI (s13.2.1 + 1)), (s13.2.2 ++ [u17])))) else none) else (some (.cont (s13.1, (wI (s13.2.1 + 1)), s13.2.2)))

def m4_l03_FrameBack_s13 (a0 : List (List UInt8)) (s13 : (List UInt8) × Int × (List (List UInt8))) : Option (LR ((List UInt8) × Int × (List (List UInt8))) ((List UInt8) × (List (List UInt8))) (Bool)) :=
  if (decide (s13.2.1 < (a0.length : Int))) then ((idx a0 s13.2.1).bind fun u14 => (m8_frame_Put s13.1 u14).bind fun v15 => (idx a0 s13.2.1).bind fun u19 => if (!((decide (v15.2 = 0)) == (decide ((u19.length : Int) ≤ 512)))) then (some (.ret false)) else (if (decide (v15.2 = 0)) then ((idx a0 s13.2.1).bind fun u20 => (m15_frame_Len u20).bind fun v21 => if (!decide ((v15.1.length : Int) = (wI ((s13.1.length : Int) + v21)))) then (some (.ret false)) else (m4_l03_FrameBack_k16 a0 s13 v15 ())) else (m4_l03_FrameBack_k16 a0 s13 v15 ()))) else (some (.brk (s13.1, s13.2.2)))
def m4_l03_FrameBack (a0 : List (List UInt8)) : Option Bool :=
  (m7_l03_awake).bind fun v1 => (m17_r03_Few a0 600).bind fun v2 => if (!v2) then (some v1) else ((iter (m4_l03_FrameBack_s13 a0) fuel (([] : List UInt8), 0, ([] : List (List UInt8)))).bind fun x => match x with | .inl r => some r | .inr e22 => m4_l03_FrameBack_k3 v1 e22)

set_option maxRecDepth 100000 in
theorem m4_l03_FrameBack_c {a0 : List (List UInt8)} {r : Bool} (h : m4_l03_FrameBack a0 = some r) : CallsA Try.prog 4 [.one (.sl a0.length (a0.flatMap (eL eU8)))] (· = .s (.one (.b r))) := by
  unfold m4_l03_FrameBack at h
  refine callsA_of Try.func4 rfl (nt := 133) rfl (Nat.le_of_ble_eq_true rfl) ?_
  intro w0 S0
  refine cseq ?_
  refine cregion ?_
  refine sv rfl (opv_as rfl) ?_
  refine snil ?_
  refine cseq ?_
  refine cregion ?_
  obtain ⟨v1, hv1, h⟩ := bind_eq h
  refine scall1 rfl fn7 opnds_nil (pubA_id rfl) (m7_l03_awake_c hv1) ?_
  refine sv rfl (opv_as rfl) ?_
  refine snil ?_
  refine cseq ?_
  refine cseq ?_
  refine cregion ?_
  refine sv rfl (opv_mv rfl) ?_
  obtain ⟨v2, hv2, h⟩ := bind_eq h
  refine scall1 rfl fn17 (opnds_cons rfl (opnds_cons rfl opnds_nil)) (pubA_id rfl) (m17_r03_Few_c hv2) ?_
  refine sv rfl (opv_not rfl) ?_
  refine snil ?_
  refine ccond rfl (fun hc => ?_) (fun hc => ?_)
  · replace h := ite_t hc h
    clear hc
    refine cseq ?_
    refine cregion ?_
    refine sv rfl (opv_mv rfl) ?_
    refine sv rfl (opv_as rfl) ?_
    refine snil ?_
    refine cret ?_
    refine then_ret ?_
    obtain rfl := Option.some.inj h
    refine ⟨Or.inr rfl, _, _, _, (resVs_cons (ResV.tmp _ _ rfl) resVs_nil), (pubA_id rfl), ?_⟩
    rfl
  · replace h := ite_f hc h
    clear hc
    refine cskip ?_
    refine then_normal ?_
    refine cseq ?_
    refine cregion ?_
    refine sv rfl (opv_as rfl) ?_
    refine snil ?_
    refine cseq ?_
    refine cregion ?_
    refine sv rfl (opv_as rfl) ?_
    refine snil ?_
    refine cseq ?_
    refine cseq ?_
    refine cregion ?_
    refine sv rfl (opv_as rfl) ?_
    refine snil ?_
    refine sadopt_c 22 1 5 (by decide) rfl ?_
    refine cjoin ((List UInt8) × (List (List UInt8))) (fun b3 => [(3, .s (.one (.b v1))), (4, .s (.one (.sl b3.1.length (b3.1.flatMap eU8)))), (5, .s (.one (.ls 0 b3.2.length)))]) (fun b3 => [.arr 22 1 0 (b3.2.flatMap (eL eU8))]) (fun b3 => m4_l03_FrameBack_k3 v1 b3 = some r) (fun _ _ => inbL_of rfl) (fun _ _ => blkinb_of rfl) (fun _ _ => Nat.le_of_ble_eq_true rfl) (fun b3 h => ?_) ?_
    · unfold m4_l03_FrameBack_k3 at h
      refine cseq ?_
      refine cregion ?_
      refine sv rfl (opv_mv rfl) ?_
      obtain ⟨v4, hv4, h⟩ := bind_eq h
      refine scall1 rfl fn12 (opnds_cons rfl opnds_nil) (pubA_id rfl) (m12_frame_All_c hv4) ?_
      refine sv rfl (opv_mvt rfl) ?_
      refine sv rfl (opv_extract rfl rfl) ?_
      refine sv rfl (opv_extract rfl rfl) ?_
      refine sv rfl (opv_extract rfl rfl) ?_
      refine sv rfl (opv_as rfl) ?_
      refine sv rfl (opv_as rfl) ?_
      refine sv rfl (opv_as rfl) ?_
      refine snil ?_
      refine cseq ?_
      refine cseq ?_
      refine cjoin3 (Unit) (fun b5 => [(3, .s (.one (.b v1))), (4, .s (.one (.sl b3.1.length (b3.1.flatMap eU8)))), (5, .s (.one (.ls 0 b3.2.length)))]) (fun b5 => [.arr 22 1 (b3.2.flatMap (eL eU8)).length (b3.2.flatMap (eL eU8))]) (fun b5 => m4_l03_FrameBack_k5 v1 b3 b5 = some r) (fun _ _ => inbL_of rfl) (fun _ _ => blkinb_of rfl) (fun _ _ => Nat.le_of_ble_eq_true rfl) (fun b5 h => ?_) ?_
      · unfold m4_l03_FrameBack_k5 at h
        refine cseq ?_
        refine cseq ?_
        refine cregion ?_
        refine sv rfl (opv_mv rfl) ?_
        refine sv rfl (opv_len_ls si29 rfl rfl (flat_len (f := (eL eU8)) (fun _ => rfl) _).symm) ?_
        refine sv rfl (opv_ieql rfl rfl) ?_
        refine snil ?_
        refine ccond rfl (fun hc => ?_) (fun hc => ?_)
        · replace h := ite_t hc h
          clear hc
          refine cseq ?_
          refine cregion ?_
          refine sv rfl (opv_mv rfl) ?_
          refine sv rfl (opv_as rfl) ?_
          refine snil ?_
          refine cret ?_
          refine then_ret ?_
          obtain rfl := Option.some.inj h
          refine ⟨Or.inr rfl, _, _, _, (resVs_cons (ResV.tmp _ _ rfl) resVs_nil), (pubA_id rfl), ?_⟩
          rfl
        · replace h := ite_f hc h
          clear hc
          refine cskip ?_
          refine then_normal ?_
          refine cseq ?_
          refine cregion ?_
          refine sv rfl (opv_mv rfl) ?_
          refine sv rfl (opv_mv rfl) ?_
          refine sv rfl (opv_len_sl si22 rfl) ?_
          refine sv rfl (opv_sub rfl rfl) ?_
          obtain ⟨c6, hc6, h⟩ := bind_eq h
          refine sv rfl (opv_cut (f := eU8) (lo := 0) (hi := (wI ((b3.1.length : Int) - 1))) si22 (fun _ => rfl) rfl rfl rfl bound_none (bound_some rfl (Int.le_trans (cut_eq hc6).1.1 (cut_eq hc6).1.2.1)) hc6) ?_
          obtain ⟨v7, hv7, h⟩ := bind_eq h
          refine scall1 rfl fn12 (opnds_cons rfl opnds_nil) (pubA_id rfl) (m12_frame_All_c hv7) ?_
          refine sv rfl (opv_mvt rfl) ?_
          refine sv rfl (opv_extract rfl rfl) ?_
          refine sv rfl (opv_extract rfl rfl) ?_
          refine sv rfl (opv_extract rfl rfl) ?_
          refine sv rfl (opv_as rfl) ?_
          refine sv rfl (opv_as rfl) ?_
          refine sv rfl (opv_as rfl) ?_
          refine snil ?_
          refine cseq ?_
          refine cregion ?_
          refine sv rfl (opv_mv rfl) ?_
          refine sv rfl (opv_mv rfl) ?_
          refine ssplit 106 rfl (fun hc => ?_) (fun hc => ?_)
          · replace h := ite_t hc h
            clear hc
            refine son rfl rfl rfl ?_
            refine sv rfl (opv_mv rfl) ?_
            refine son rfl rfl rfl ?_
            refine sv rfl (opv_ieql rfl rfl) ?_
            refine sv rfl (opv_pick_t rfl rfl) ?_
            refine sv rfl (opv_mv rfl) ?_
            refine ssplit 110 rfl (fun hc => ?_) (fun hc => ?_)
            · replace h := ite_t hc h
              clear hc
              refine son rfl rfl rfl ?_
              refine sv rfl (opv_mv rfl) ?_
              refine son rfl rfl rfl ?_
              refine sv rfl (opv_mv rfl) ?_
              refine son rfl rfl rfl ?_
              refine sv rfl (opv_len_sl si22 rfl) ?_
              refine son rfl rfl rfl ?_
              refine sv rfl (opv_mv rfl) ?_
              refine son rfl rfl rfl ?_
              refine sv rfl (opv_mv rfl) ?_
              refine son rfl rfl rfl ?_
              refine sv rfl (opv_len_ls si29 rfl rfl (flat_len (f := (eL eU8)) (fun _ => rfl) _).symm) ?_
              refine son rfl rfl rfl ?_
              refine sv rfl (opv_sub rfl rfl) ?_
              refine son rfl rfl rfl ?_
              obtain ⟨u8, hu8, h⟩ := bind_eq h
              refine sv rfl (opv_ixo (f := (eL eU8)) si29 (fun _ => rfl) rfl rfl rfl rfl rfl hu8) ?_
              refine son rfl rfl rfl ?_
              refine sv rfl (opv_ld1o (f := (eL eU8)) 0 ti22 (fun _ => rfl) rfl rfl rfl rfl (idx_eq hu8).2 rfl) ?_
              refine son rfl rfl rfl ?_
              obtain ⟨v9, hv9, h⟩ := bind_eq h
              refine scall1 rfl fn15 (opnds_cons rfl opnds_nil) (pubA_id rfl) (m15_frame_Len_c hv9) ?_
              refine son rfl rfl rfl ?_
              refine sv rfl (opv_sub rfl rfl) ?_
              refine son rfl rfl rfl ?_
              refine sv rfl (opv_ieql rfl rfl) ?_
              refine sv rfl (opv_pick_t rfl rfl) ?_
              refine sv rfl (opv_mv rfl) ?_
              refine ssplit 124 rfl (fun hc => ?_) (fun hc => ?_)
              · replace h := ite_t hc h
                clear hc
                refine son rfl rfl rfl ?_
                refine sv rfl (opv_mv rfl) ?_
                refine son rfl rfl rfl ?_
                refine sv rfl (opv_mv rfl) ?_
                refine son rfl rfl rfl ?_
                refine sv rfl (opv_mv rfl) ?_
                refine son rfl rfl rfl ?_
                refine sv rfl (opv_len_ls si29 rfl rfl (flat_len (f := (eL eU8)) (fun _ => rfl) _).symm) ?_
                refine son rfl rfl rfl ?_
                refine sv rfl (opv_sub rfl rfl) ?_
                refine son rfl rfl rfl ?_
                refine spub 126 rfl (by (repeat' first | exact PubA.nil _ | apply PubA.cons | apply PubV.one | apply PubV.agg | exact PubL.nil | exact PubL.ls _ _ _ _ _ _ rfl (flat_len (f := (eL eU8)) (fun _ => rfl) _).symm | exact PubL.id _ rfl | exact PubLs.nil _ | apply PubLs.cons)) ?_
                obtain ⟨c10, hc10, h⟩ := bind_eq h
                refine sv rfl (opv_cut (f := (eL eU8)) (lo := 0) (hi := (wI ((b3.2.length : Int) - 1))) si29 (fun _ => rfl) rfl rfl rfl bound_none (bound_some rfl (Int.le_trans (cut_eq hc10).1.1 (cut_eq hc10).1.2.1)) hc10) ?_
                refine son rfl rfl rfl ?_
                obtain ⟨v11, hv11, h⟩ := bind_eq h
                refine scall1 rfl fn14 (opnds_cons rfl (opnds_cons rfl opnds_nil)) (pubA_id rfl) (m14_r03_Lists_c hv11) ?_
                refine sv rfl (opv_pick_t rfl rfl) ?_
                refine sv rfl (opv_as rfl) ?_
                refine snil ?_
                refine cret ?_
                obtain rfl := Option.some.inj h
                refine ⟨Or.inr rfl, _, _, _, (resVs_cons (ResV.tmp _ _ rfl) resVs_nil), (pubA_id rfl), ?_⟩
                rfl
              · replace h := ite_f hc h
                clear hc
                refine soff rfl rfl rfl rfl ?_
                refine soff rfl rfl rfl rfl ?_
                refine soff rfl rfl rfl rfl ?_
                refine soff rfl rfl rfl rfl ?_
                refine soff rfl rfl rfl rfl ?_
                refine soff rfl rfl rfl rfl ?_
                refine soff rfl rfl rfl rfl ?_
                refine sv rfl (opv_pick_f rfl rfl) ?_
                refine sv rfl (opv_as rfl) ?_
                refine snil ?_
                refine cret ?_
                obtain rfl := Option.some.inj h
                refine ⟨Or.inr rfl, _, _, _, (resVs_cons (ResV.tmp _ _ rfl) resVs_nil), (pubA_id rfl), ?_⟩
                rfl
            · replace h := ite_f hc h
              clear hc
              refine soff rfl rfl rfl rfl ?_
              refine soff rfl rfl rfl rfl ?_
              refine soff rfl rfl rfl rfl ?_
              refine soff rfl rfl rfl rfl ?_
              refine soff rfl rfl rfl rfl ?_
              refine soff rfl rfl rfl rfl ?_
              refine soff rfl rfl rfl rfl ?_
              refine soff rfl rfl rfl rfl ?_
              refine soff rfl rfl rfl rfl ?_
              refine soff rfl rfl rfl rfl ?_
              refine soff rfl rfl rfl rfl ?_
              refine soff rfl rfl rfl rfl ?_
              refine sv rfl (opv_pick_f rfl rfl) ?_
              refine sv rfl (opv_mv rfl) ?_
              refine soff rfl rfl rfl rfl ?_
              refine soff rfl rfl rfl rfl ?_
              refine soff rfl rfl rfl rfl ?_
              refine soff rfl rfl rfl rfl ?_
              refine soff rfl rfl rfl rfl ?_
              refine soff rfl rfl rfl rfl ?_
              refine soff rfl rfl rfl rfl ?_
              refine sv rfl (opv_pick_f rfl rfl) ?_
              refine sv rfl (opv_as rfl) ?_
              refine snil ?_
              refine cret ?_
              obtain rfl := Option.some.inj h
              refine ⟨Or.inr rfl, _, _, _, (resVs_cons (ResV.tmp _ _ rfl) resVs_nil), (pubA_id rfl), ?_⟩
              rfl
          · replace h := ite_f hc h
            clear hc
            refine soff rfl rfl rfl rfl ?_
            refine soff rfl rfl rfl rfl ?_
            refine sv rfl (opv_pick_f rfl rfl) ?_
            refine sv rfl (opv_mv rfl) ?_
            refine soff rfl rfl rfl rfl ?_
            refine soff rfl rfl rfl rfl ?_
            refine soff rfl rfl rfl rfl ?_
            refine soff rfl rfl rfl rfl ?_
            refine soff rfl rfl rfl rfl ?_
            refine soff rfl rfl rfl rfl ?_
            refine soff rfl rfl rfl rfl ?_
            refine soff rfl rfl rfl rfl ?_
            refine soff rfl rfl rfl rfl ?_
            refine soff rfl rfl rfl rfl ?_
            refine soff rfl rfl rfl rfl ?_
            refine soff rfl rfl rfl rfl ?_
            refine sv rfl (opv_pick_f rfl rfl) ?_
            refine sv rfl (opv_mv rfl) ?_
            refine soff rfl rfl rfl rfl ?_
            refine soff rfl rfl rfl rfl ?_
            refine soff rfl rfl rfl rfl ?_
            refine soff rfl rfl rfl rfl ?_
            refine soff rfl rfl rfl rfl ?_
            refine soff rfl rfl rfl rfl ?_
            refine soff rfl rfl rfl rfl ?_
            refine sv rfl (opv_pick_f rfl rfl) ?_
            refine sv rfl (opv_as rfl) ?_
            refine snil ?_
            refine cret ?_
            obtain rfl := Option.some.inj h
            refine ⟨Or.inr rfl, _, _, _, (resVs_cons (ResV.tmp _ _ rfl) resVs_nil), (pubA_id rfl), ?_⟩
            rfl
      · skip
        refine cregion ?_
        refine sv rfl (opv_mv rfl) ?_
        refine sv rfl (opv_ineq rfl rfl) ?_
        refine sv rfl (opv_mv rfl) ?_
        refine ssplit 79 rfl (fun hc => ?_) (fun hc => ?_)
        · replace h := ite_t hc h
          clear hc
          refine soff rfl rfl rfl rfl ?_
          refine soff rfl rfl rfl rfl ?_
          refine soff rfl rfl rfl rfl ?_
          refine soff rfl rfl rfl rfl ?_
          refine sv rfl (opv_pick_t rfl rfl) ?_
          refine sv rfl (opv_mv rfl) ?_
          refine soff rfl rfl rfl rfl ?_
          refine soff rfl rfl rfl rfl ?_
          refine soff rfl rfl rfl rfl ?_
          refine soff rfl rfl rfl rfl ?_
          refine sv rfl (opv_pick_t rfl rfl) ?_
          refine snil ?_
          refine ccond rfl (fun _ => ?_) (fun hx => Bool.noConfusion hx)
          refine cseq ?_
          refine cregion ?_
          refine sv rfl (opv_as rfl) ?_
          refine snil ?_
          refine cret ?_
          refine then_ret ?_
          obtain rfl := Option.some.inj h
          refine ⟨Or.inr rfl, _, _, _, (resVs_cons (ResV.tmp _ _ rfl) resVs_nil), (pubA_id rfl), ?_⟩
          rfl
        · replace h := ite_f hc h
          clear hc
          refine son rfl rfl rfl ?_
          refine sv rfl (opv_mv rfl) ?_
          refine son rfl rfl rfl ?_
          refine sv rfl (opv_mv rfl) ?_
          refine son rfl rfl rfl ?_
          refine sv rfl (opv_len_sl si22 rfl) ?_
          refine son rfl rfl rfl ?_
          refine sv rfl (opv_ineq rfl rfl) ?_
          refine sv rfl (opv_pick_f rfl rfl) ?_
          refine sv rfl (opv_mv rfl) ?_
          refine ssplit 85 rfl (fun hc => ?_) (fun hc => ?_)
          · replace h := ite_t hc h
            clear hc
            refine soff rfl rfl rfl rfl ?_
            refine soff rfl rfl rfl rfl ?_
            refine soff rfl rfl rfl rfl ?_
            refine soff rfl rfl rfl rfl ?_
            refine sv rfl (opv_pick_t rfl rfl) ?_
            refine snil ?_
            refine ccond rfl (fun _ => ?_) (fun hx => Bool.noConfusion hx)
            refine cseq ?_
            refine cregion ?_
            refine sv rfl (opv_as rfl) ?_
            refine snil ?_
            refine cret ?_
            refine then_ret ?_
            obtain rfl := Option.some.inj h
            refine ⟨Or.inr rfl, _, _, _, (resVs_cons (ResV.tmp _ _ rfl) resVs_nil), (pubA_id rfl), ?_⟩
            rfl
          · replace h := ite_f hc h
            clear hc
            refine son rfl rfl rfl ?_
            refine sv rfl (opv_mv rfl) ?_
            refine son rfl rfl rfl ?_
            refine sv rfl (opv_mv rfl) ?_
            refine son rfl rfl rfl ?_
            refine spub 87 rfl (by (repeat' first | exact PubA.nil _ | apply PubA.cons | apply PubV.one | apply PubV.agg | exact PubL.nil | exact PubL.ls _ _ _ _ _ _ rfl (flat_len (f := (eL eU8)) (fun _ => rfl) _).symm | exact PubL.id _ rfl | exact PubLs.nil _ | apply PubLs.cons)) ?_
            obtain ⟨v12, hv12, h⟩ := bind_eq h
            refine scall1 rfl fn14 (opnds_cons rfl (opnds_cons rfl opnds_nil)) (pubA_id rfl) (m14_r03_Lists_c hv12) ?_
            refine son rfl rfl rfl ?_
            refine sv rfl (opv_not rfl) ?_
            refine sv rfl (opv_pick_f rfl rfl) ?_
            refine snil ?_
            refine ccond rfl (fun hc => ?_) (fun hc => ?_)
            · replace h := ite_t hc h
              clear hc
              refine cseq ?_
              refine cregion ?_
              refine sv rfl (opv_as rfl) ?_
              refine snil ?_
              refine cret ?_
              refine then_ret ?_
              obtain rfl := Option.some.inj h
              refine ⟨Or.inr rfl, _, _, _, (resVs_cons (ResV.tmp _ _ rfl) resVs_nil), (pubA_id rfl), ?_⟩
              rfl
            · replace h := ite_f hc h
              clear hc
              refine cskip ?_
              refine then_normal ?_
              exact ⟨(), _, h, ⟨rfl, rfl, rfl, trivial⟩, rfl⟩
    · skip
      refine cblock ?_
      refine cpub 4 rfl (by (repeat' first | exact PubA.nil _ | apply PubA.cons | apply PubV.one | apply PubV.agg | exact PubL.nil | exact PubL.ls _ _ _ _ _ _ rfl (flat_len (f := (eL eU8)) (fun _ => rfl) _).symm | exact PubL.id _ rfl | exact PubLs.nil _ | apply PubLs.cons)) ?_
      obtain ⟨x13, hx13, ho13⟩ := bind_eq h
      refine awc_loop (G := Nat × ((List UInt8) × Int × (List (List UInt8)))) (fun g => [(0, .s (.one (.sl a0.length (a0.flatMap (eL eU8))))), (3, .s (.one (.b v1))), (4, .s (.one (.sl g.2.1.length (g.2.1.flatMap eU8)))), (5, .s (.one (.ls 0 g.2.2.2.length))), (6, .s (.one (.i .i64 g.2.2.1)))]) (fun g => [.arr 22 1 0 (g.2.2.2.flatMap (eL eU8))]) (fun g => iter (m4_l03_FrameBack_s13 a0) g.1 g.2 = some x13) (fun g => g.1) (fuel, (([] : List UInt8), 0, ([] : List (List UInt8)))) hx13 ⟨rfl, rfl, rfl, rfl, rfl, trivial⟩ [] rfl (fun _ _ => inbL_of rfl) (fun _ _ => blkinb_of rfl) (fun _ _ => Nat.le_of_ble_eq_true rfl) ?_
      clear hx13 h
      rintro ⟨n13, s13⟩ h
      obtain ⟨n13, y13, rfl, h, hk13⟩ := iter_eq h
      unfold m4_l03_FrameBack_s13 at h
      refine cseq ?_
      refine cseq ?_
      refine cregion ?_
      refine sv rfl (opv_mv rfl) ?_
      refine sv rfl (opv_mv rfl) ?_
      refine sv rfl (opv_len_sl si29 rfl) ?_
      refine sv rfl (opv_lss rfl rfl) ?_
      refine snil ?_
      refine ccond rfl (fun hc => ?_) (fun hc => ?_)
      · replace h := ite_t hc h
        clear hc
        refine cskip ?_
        refine then_normal ?_
        refine cseq ?_
        refine cblock ?_
        refine cseq ?_
        refine cregion ?_
        refine sv rfl (opv_mv rfl) ?_
        refine sv rfl (opv_mv rfl) ?_
        refine sv rfl (opv_mv rfl) ?_
        obtain ⟨u14, hu14, h⟩ := bind_eq h
        refine sv rfl (opv_ix (f := (eL eU8)) si29 (fun _ => rfl) rfl rfl rfl rfl hu14) ?_
        refine sv rfl (opv_load1 ti22 rfl (.cp _) rfl) ?_
        obtain ⟨v15, hv15, h⟩ := bind_eq h
        refine scall1 rfl fn8 (opnds_cons rfl (opnds_cons rfl opnds_nil)) (pubA_id rfl) (m8_frame_Put_c hv15) ?_
        refine sv rfl (opv_mvt rfl) ?_
        refine sv rfl (opv_extract rfl rfl) ?_
        refine sv rfl (opv_extract rfl rfl) ?_
        refine sv rfl (opv_as rfl) ?_
        refine sv rfl (opv_as rfl) ?_
        refine snil ?_
        refine cseq ?_
        refine cseq ?_
        refine cjoin3 (Unit) (fun b16 => [(0, .s (.one (.sl a0.length (a0.flatMap (eL eU8))))), (3, .s (.one (.b v1))), (4, .s (.one (.sl s13.1.length (s13.1.flatMap eU8)))), (5, .s (.one (.ls 0 s13.2.2.length))), (6, .s (.one (.i .i64 s13.2.1))), (7, .s (.one (.sl v15.1.length (v15.1.flatMap eU8)))), (8, .s (.one (.i .i64 v15.2)))]) (fun b16 => [.arr 22 1 0 (s13.2.2.flatMap (eL eU8))]) (fun b16 => m4_l03_FrameBack_k16 a0 s13 v15 b16 = some y13) (fun _ _ => inbL_of rfl) (fun _ _ => blkinb_of rfl) (fun _ _ => Nat.le_of_ble_eq_true rfl) (fun b16 h => ?_) ?_
        · unfold m4_l03_FrameBack_k16 at h
          refine cseq ?_
          refine cregion ?_
          refine sv rfl (opv_mv rfl) ?_
          refine sv rfl (opv_ieql rfl rfl) ?_
          refine snil ?_
          refine ccond rfl (fun hc => ?_) (fun hc => ?_)
          · replace h := ite_t hc h
            clear hc
            refine cseq ?_
            refine cregion ?_
            refine sv rfl (opv_mv rfl) ?_
            refine sv rfl (opv_as rfl) ?_
            refine snil ?_
            refine cregion ?_
            refine sv rfl (opv_mv rfl) ?_
            refine sv rfl (opv_mv rfl) ?_
            refine sv rfl (opv_mv rfl) ?_
            obtain ⟨u17, hu17, h⟩ := bind_eq h
            refine sv rfl (opv_ix (f := (eL eU8)) si29 (fun _ => rfl) rfl rfl rfl rfl hu17) ?_
            refine sv rfl (opv_load1 ti22 rfl (.cp _) rfl) ?_
            refine sbuild1 rfl Try.underlying29 ei22 rfl rfl (List.all_eq_true.1 rfl) (by decide) ?_
            refine smem [.arr 22 1 0 (s13.2.2.flatMap (eL eU8)), .arr 22 1 0 ([u17].flatMap (eL eU8))] rfl ?_
            obtain ⟨hb18, h⟩ := chk_eq h
            refine sapp (f := (eL eU8)) (xs := s13.2.2) (us := [u17]) rfl Try.underlying29 ei22 ni29 (fun _ => rfl) rfl rfl (.one _ _ _ _ (.ls _ _ _ _ _ _ rfl (flat_len (f := (eL eU8)) (fun _ => rfl) [u17]).symm)) rfl rfl rfl (.sl _ _ _ (flat_len (f := (eL eU8)) (fun _ => rfl) _)) rfl rfl hb18 (by decide) ?_
            refine sv rfl (opv_as rfl) ?_
            refine snil0 ?_
            refine block_normal ?_
            refine then_normal ?_
            refine cregion ?_
            refine sv rfl (opv_mv rfl) ?_
            refine sv rfl (opv_add rfl rfl) ?_
            refine sv rfl (opv_as rfl) ?_
            refine snil ?_
            obtain rfl := Option.some.inj h
            exact ⟨(n13, (v15.1, (wI (s13.2.1 + 1)), (s13.2.2 ++ [u17]))), _, hk13, ⟨rfl, rfl, rfl, rfl, rfl, trivial⟩, rfl, Nat.lt_succ_self _⟩
          · replace h := ite_f hc h
            clear hc
            refine cskip ?_
            refine block_normal ?_
            refine then_normal ?_
            refine cregion ?_
            refine sv rfl (opv_mv rfl) ?_
            refine sv rfl (opv_add rfl rfl) ?_
            refine sv rfl (opv_as rfl) ?_
            refine snil ?_
            obtain rfl := Option.some.inj h
            exact ⟨(n13, (s13.1, (wI (s13.2.1 + 1)), s13.2.2)), _, hk13, ⟨rfl, rfl, rfl, rfl, rfl, trivial⟩, rfl, Nat.lt_succ_self _⟩
        · skip
          refine cregion ?_
          refine sv rfl (opv_mv rfl) ?_
          refine sv rfl (opv_ieql rfl rfl) ?_
          refine sv rfl (opv_mv rfl) ?_
          refine sv rfl (opv_mv rfl) ?_
          obtain ⟨u19, hu19, h⟩ := bind_eq h
          refine sv rfl (opv_ix (f := (eL eU8)) si29 (fun _ => rfl) rfl rfl rfl rfl hu19) ?_
          refine sv rfl (opv_load1 ti22 rfl (.cp _) rfl) ?_
          refine sv rfl (opv_len_sl si22 rfl) ?_
          refine sv rfl (opv_leq rfl rfl) ?_
          refine sv rfl (opv_bneq Try.underlying4 rfl rfl) ?_
          refine sv rfl (opv_mv rfl) ?_
          refine ssplit 44 rfl (fun hc => ?_) (fun hc => ?_)
          · replace h := ite_t hc h
            clear hc
            refine soff rfl rfl rfl rfl ?_
            refine soff rfl rfl rfl rfl ?_
            refine soff rfl rfl rfl rfl ?_
            refine soffu rfl rfl rfl ?_
            refine soffu rfl rfl rfl ?_
            refine soffu rfl rfl rfl ?_
            refine soffu rfl rfl rfl ?_
            refine soffu rfl rfl rfl ?_
            refine soffu rfl rfl rfl ?_
            refine soffu rfl rfl rfl ?_
            refine soffu rfl rfl rfl ?_
            refine soffu rfl rfl rfl ?_
            refine soffu rfl rfl rfl ?_
            refine soffu rfl rfl rfl ?_
            refine soff rfl rfl rfl rfl ?_
            refine sv rfl (opv_pick_t rfl rfl) ?_
            refine snil ?_
            refine ccond rfl (fun _ => ?_) (fun hx => Bool.noConfusion hx)
            refine cseq ?_
            refine cregion ?_
            refine sv rfl (opv_as rfl) ?_
            refine snil ?_
            refine cret ?_
            refine then_ret ?_
            refine block_ret ?_
            refine then_ret ?_
            refine then_ret ?_
            refine block_ret ?_
            refine then_ret ?_
            obtain rfl := Option.some.inj h
            obtain rfl : Sum.inl _ = x13 := hk13
            replace ho13 : some _ = some _ := ho13
            obtain rfl := Option.some.inj ho13
            refine ⟨Or.inr rfl, _, _, _, (resVs_cons (ResV.tmp _ _ rfl) resVs_nil), (pubA_id rfl), ?_⟩
            rfl
          · replace h := ite_f hc h
            clear hc
            refine son rfl rfl rfl ?_
            refine sv rfl (opv_mv rfl) ?_
            refine son rfl rfl rfl ?_
            refine sv rfl (opv_ieql rfl rfl) ?_
            refine son rfl rfl rfl ?_
            refine sv rfl (opv_mv rfl) ?_
            refine ssplit 47 rfl (fun hc => ?_) (fun hc => ?_)
            · replace h := ite_t hc h
              clear hc
              refine son rfl rfl rfl ?_
              refine sv rfl (opv_mv rfl) ?_
              refine son rfl rfl rfl ?_
              refine sv rfl (opv_len_sl si22 rfl) ?_
              refine son rfl rfl rfl ?_
              refine sv rfl (opv_mv rfl) ?_
              refine son rfl rfl rfl ?_
              refine sv rfl (opv_len_sl si22 rfl) ?_
              refine son rfl rfl rfl ?_
              refine sv rfl (opv_mv rfl) ?_
              refine son rfl rfl rfl ?_
              refine sv rfl (opv_mv rfl) ?_
              refine son rfl rfl rfl ?_
              obtain ⟨u20, hu20, h⟩ := bind_eq h
              refine sv rfl (opv_ix (f := (eL eU8)) si29 (fun _ => rfl) rfl rfl rfl rfl hu20) ?_
              refine son rfl rfl rfl ?_
              refine sv rfl (opv_load1 ti22 rfl (.cp _) rfl) ?_
              refine son rfl rfl rfl ?_
              obtain ⟨v21, hv21, h⟩ := bind_eq h
              refine scall1 rfl fn15 (opnds_cons rfl opnds_nil) (pubA_id rfl) (m15_frame_Len_c hv21) ?_
              refine son rfl rfl rfl ?_
              refine sv rfl (opv_add rfl rfl) ?_
              refine son rfl rfl rfl ?_
              refine sv rfl (opv_ineq rfl rfl) ?_
              refine son rfl rfl rfl ?_
              refine sv rfl (opv_pick_t rfl rfl) ?_
              refine sv rfl (opv_pick_f rfl rfl) ?_
              refine snil ?_
              refine ccond rfl (fun hc => ?_) (fun hc => ?_)
              · replace h := ite_t hc h
                clear hc
                refine cseq ?_
                refine cregion ?_
                refine sv rfl (opv_as rfl) ?_
                refine snil ?_
                refine cret ?_
                refine then_ret ?_
                refine block_ret ?_
                refine then_ret ?_
                refine then_ret ?_
                refine block_ret ?_
                refine then_ret ?_
                obtain rfl := Option.some.inj h
                obtain rfl : Sum.inl _ = x13 := hk13
                replace ho13 : some _ = some _ := ho13
                obtain rfl := Option.some.inj ho13
                refine ⟨Or.inr rfl, _, _, _, (resVs_cons (ResV.tmp _ _ rfl) resVs_nil), (pubA_id rfl), ?_⟩
                rfl
              · replace h := ite_f hc h
                clear hc
                refine cskip ?_
                refine then_normal ?_
                exact ⟨(), _, h, ⟨rfl, rfl, rfl, rfl, rfl, rfl, rfl, trivial⟩, rfl⟩
            · replace h := ite_f hc h
              clear hc
              refine soff rfl rfl rfl rfl ?_
              refine soff rfl rfl rfl rfl ?_
              refine soff rfl rfl rfl rfl ?_
              refine soff rfl rfl rfl rfl ?_
              refine soff rfl rfl rfl rfl ?_
              refine soff rfl rfl rfl rfl ?_
              refine soff rfl rfl rfl rfl ?_
              refine soff rfl rfl rfl rfl ?_
              refine soff rfl rfl rfl rfl ?_
              refine soff rfl rfl rfl rfl ?_
              refine soff rfl rfl rfl rfl ?_
              refine son rfl rfl rfl ?_
              refine sv rfl (opv_pick_f rfl rfl) ?_
              refine sv rfl (opv_pick_f rfl rfl) ?_
              refine snil ?_
              refine ccond rfl (fun hx => Bool.noConfusion hx) (fun _ => ?_)
              refine cskip ?_
              refine then_normal ?_
              exact ⟨(), _, h, ⟨rfl, rfl, rfl, rfl, rfl, rfl, rfl, trivial⟩, rfl⟩
      · replace h := ite_f hc h
        clear hc
        refine cexit ?_
        refine then_exit ?_
        refine then_exit ?_
        refine block_hit ?_
        refine then_normal ?_
        obtain rfl := Option.some.inj h
        obtain rfl : _ = x13 := hk13
        exact ⟨(s13.1, s13.2.2), _, ho13, ⟨rfl, rfl, rfl, trivial⟩, rfl⟩

def m5_l03_FrameOne_k5 (a0 : List UInt8) (a1 : Int) (v1 : Bool) (b5 : Unit) : Option Bool :=
  (m10_frame_Read a0 a1).bind fun v6 => if (!decide (v6.2.2 = 0)) then (if v1 then (if (decide (v6.2.1 = 0)) then (some (decide ((v6.1.length : Int) = 0))) else (some false)) else (some false)) else ((m8_frame_Put ([] : List UInt8) v6.1).bind fun v7 => if v1 then (if (decide (v7.2 = 0)) then (if (decide (0 ≤ a1)) then (if (decide (v6.2.1 ≤ (a0.length : Int))) then ((cut a0 a1 v6.2.1).bind fun c8 => if (v7.1 == c8) then ((m15_frame_Len v6.1).bind fun v9 => some (decide ((wI (v6.2.1 - a1)) = v9))) else (some false)) else (some false)) else (some false)) else (some false)) else (some false))

def m5_l03_FrameOne_k2 (a0 : List UInt8) (a1 : Int) (a2 : List UInt8) (a3 : List UInt8) (v1 : Bool) (b2 : Unit) : Option Bool :=
  (m8_frame_Put ([] : List UInt8) a2).bind fun v3 => (m8_frame_Put ([] : List UInt8) a3).bind fun v4 => if (!decide (v3.2 = 0)) then (some false) else (if (!decide (v4.2 = 0)) then (some false) else (if (!((v3.1 == v4.1) == (a2 == a3))) then (some false) else (if (decide ((v3.1.length : Int) < 6)) then (some false) else (m5_l03_FrameOne_k5 a0 a1 v1 ()))))
end Go.Proofs.Ythofeonffhenmaa.Abs
