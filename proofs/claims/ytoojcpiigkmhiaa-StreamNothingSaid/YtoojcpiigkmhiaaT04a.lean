/-
  t
-/
import Derived.Test.YtoojcpiigkmhiaaAbsC
import Derived.Test.YtoojcpiigkmhiaaProg
namespace Go.Proofs.Ytoojcpiigkmhiaa.Abs
open Go.RowKit Go.Proofs
structure GR04Stream where
  Buf : List UInt8
  Dead : Int
def eGR04Stream (x : GR04Stream) : List Lf := [.sl x.Buf.length (x.Buf.flatMap eU8), .i .i64 x.Dead]

structure GFrameHead where
  size_ : Int
  sum_ : BitVec 32
def eGFrameHead (x : GFrameHead) : List Lf := [.i .i64 x.size_, .i .u32 (x.sum_.toNat : Int)]

structure GFrameWhole where
  head_ : GFrameHead
  payload_ : List UInt8
def eGFrameWhole (x : GFrameWhole) : List Lf := [.i .i64 x.head_.size_, .i .u32 (x.head_.sum_.toNat : Int), .sl x.payload_.length (x.payload_.flatMap eU8)]

structure GStreamStream where
  Buf : List UInt8
  Dead : Int
def eGStreamStream (x : GStreamStream) : List Lf := [.sl x.Buf.length (x.Buf.flatMap eU8), .i .i64 x.Dead]

theorem ei5 : EI Try.prog 5 1 1 [.i .u8 0] := ei_of (by kernel_rfl) (by decide)
theorem si22 : SI Try.prog 22 5 1 := ⟨Try.underlying22, by kernel_rfl, by decide⟩
theorem zi66 : ZI Try.prog 66 ([.i .i64 0, .i .u32 0, .raw (.slice none 0 0)]) := zi_of (by kernel_rfl)
theorem sz5 : (Try.prog.info? 5).map (·.size) = some 1 := by kernel_rfl
theorem ei22 : EI Try.prog 22 1 24 [.raw (.slice none 0 0)] := ei_of (by kernel_rfl) (by decide)
theorem si28 : SI Try.prog 28 22 1 := ⟨Try.underlying28, by kernel_rfl, by decide⟩
theorem ti22 : TI Try.prog 22 false 1 := ⟨⟨_, Try.underlying22, rfl⟩, by kernel_rfl⟩
theorem fn37 : FnI Try.prog 37 := ⟨⟨_, Try.func37, by kernel_rfl, by kernel_rfl⟩⟩
theorem ni22 : NI Try.prog 22 := ⟨.inl ⟨_, Try.underlying22⟩⟩
theorem fn25 : FnI Try.prog 25 := ⟨⟨_, Try.func25, by kernel_rfl, by kernel_rfl⟩⟩
theorem fn34 : FnI Try.prog 34 := ⟨⟨_, Try.func34, by kernel_rfl, by kernel_rfl⟩⟩
theorem zi83 : ZI Try.prog 83 (List.replicate 256 (.i .u32 0)) := zi_of (by kernel_rfl)
theorem fn52 : FnI Try.prog 52 := ⟨⟨_, Try.func52, by kernel_rfl, by kernel_rfl⟩⟩
theorem ai83 : AI Try.prog 83 256 62 1 := ⟨Try.underlying83, by kernel_rfl, by decide, by decide⟩
theorem sz62 : (Try.prog.info? 62).map (·.size) = some 1 := by kernel_rfl
theorem ti83 : TI Try.prog 83 true 256 := ⟨⟨_, Try.underlying83, rfl⟩, by kernel_rfl⟩
theorem sz83 : (Try.prog.info? 83).map (·.size) = some 256 := by kernel_rfl
theorem fn51 : FnI Try.prog 51 := ⟨⟨_, Try.func51, by kernel_rfl, by kernel_rfl⟩⟩
theorem ti5 : TI Try.prog 5 false 1 := ⟨⟨_, Try.underlying5, rfl⟩, by kernel_rfl⟩
theorem ti62 : TI Try.prog 62 false 1 := ⟨⟨_, Try.underlying62, rfl⟩, by kernel_rfl⟩
theorem fn48 : FnI Try.prog 48 := ⟨⟨_, Try.func48, by kernel_rfl, by kernel_rfl⟩⟩
theorem fn49 : FnI Try.prog 49 := ⟨⟨_, Try.func49, by kernel_rfl, by kernel_rfl⟩⟩
theorem fn43 : FnI Try.prog 43 := ⟨⟨_, Try.func43, by kernel_rfl, by kernel_rfl⟩⟩
theorem zi64 : ZI Try.prog 64 ([.i .i64 0, .i .u32 0]) := zi_of (by kernel_rfl)
theorem pi64 : PI Try.prog 64 [(0, 1), (1, 1)] := pi_of Try.underlying64 (by kernel_rfl) (by kernel_rfl)
theorem pi66 : PI Try.prog 66 [(0, 2), (2, 1)] := pi_of Try.underlying66 (by kernel_rfl) (by kernel_rfl)
theorem sz66 : (Try.prog.info? 66).map (·.size) = some 3 := by kernel_rfl
theorem ti66 : TI Try.prog 66 true 3 := ⟨⟨_, Try.underlying66, rfl⟩, by kernel_rfl⟩
theorem fn33 : FnI Try.prog 33 := ⟨⟨_, Try.func33, by kernel_rfl, by kernel_rfl⟩⟩
theorem fi66_0 : FI Try.prog 66 0 0 := ⟨⟨_, _, 2, Try.underlying66, rfl, rfl, by kernel_rfl, by decide⟩⟩
theorem fi64_0 : FI Try.prog 64 0 0 := ⟨⟨_, _, 1, Try.underlying64, rfl, rfl, by kernel_rfl, by decide⟩⟩
theorem ti3 : TI Try.prog 3 false 1 := ⟨⟨_, Try.underlying3, rfl⟩, by kernel_rfl⟩
theorem fi64_1 : FI Try.prog 64 1 1 := ⟨⟨_, _, 1, Try.underlying64, rfl, rfl, by kernel_rfl, by decide⟩⟩
theorem fi66_1 : FI Try.prog 66 1 2 := ⟨⟨_, _, 1, Try.underlying66, rfl, rfl, by kernel_rfl, by decide⟩⟩
theorem fn23 : FnI Try.prog 23 := ⟨⟨_, Try.func23, by kernel_rfl, by kernel_rfl⟩⟩
theorem zi27 : ZI Try.prog 27 ([.raw (.slice none 0 0), .i .i64 0]) := zi_of (by kernel_rfl)
theorem pi27 : PI Try.prog 27 [(0, 1), (1, 1)] := pi_of Try.underlying27 (by kernel_rfl) (by kernel_rfl)
theorem sz27 : (Try.prog.info? 27).map (·.size) = some 2 := by kernel_rfl
theorem mixed : Try.prog.follows .mixedOrders = true := by kernel_rfl
theorem ti27 : TI Try.prog 27 true 2 := ⟨⟨_, Try.underlying27, rfl⟩, by kernel_rfl⟩
theorem fi27_1 : FI Try.prog 27 1 1 := ⟨⟨_, _, 1, Try.underlying27, rfl, rfl, by kernel_rfl, by decide⟩⟩
theorem ti23 : TI Try.prog 23 false 1 := ⟨⟨_, Try.underlying23, rfl⟩, by kernel_rfl⟩
theorem fn27 : FnI Try.prog 27 := ⟨⟨_, Try.func27, by kernel_rfl, by kernel_rfl⟩⟩
theorem fi27_0 : FI Try.prog 27 0 0 := ⟨⟨_, _, 1, Try.underlying27, rfl, rfl, by kernel_rfl, by decide⟩⟩
theorem zi3 : ZI Try.prog 3 ([.i .i64 0]) := zi_of (by kernel_rfl)
theorem sz3 : (Try.prog.info? 3).map (·.size) = some 1 := by kernel_rfl
theorem zi74 : ZI Try.prog 74 ([.raw .nilFunc, .i .i64 0]) := zi_of (by kernel_rfl)
theorem pi74 : PI Try.prog 74 [(0, 1), (1, 1)] := pi_of Try.underlying74 (by kernel_rfl) (by kernel_rfl)
theorem fn31 : FnI Try.prog 31 := ⟨⟨_, Try.func31, by kernel_rfl, by kernel_rfl⟩⟩
theorem fi74_1 : FI Try.prog 74 1 1 := ⟨⟨_, _, 1, Try.underlying74, rfl, rfl, by kernel_rfl, by decide⟩⟩
theorem fn40 : FnI Try.prog 40 := ⟨⟨_, Try.func40, by kernel_rfl, by kernel_rfl⟩⟩
theorem sz23 : (Try.prog.info? 23).map (·.size) = some 1 := by kernel_rfl
theorem fn41 : FnI Try.prog 41 := ⟨⟨_, Try.func41, by kernel_rfl, by kernel_rfl⟩⟩
theorem fi74_0 : FI Try.prog 74 0 0 := ⟨⟨_, _, 1, Try.underlying74, rfl, rfl, by kernel_rfl, by decide⟩⟩
theorem ti72 : TI Try.prog 72 false 1 := ⟨⟨_, Try.underlying72, rfl⟩, by kernel_rfl⟩
theorem fn39 : FnI Try.prog 39 := ⟨⟨_, Try.func39, by kernel_rfl, by kernel_rfl⟩⟩
theorem fn47 : FnI Try.prog 47 := ⟨⟨_, Try.func47, by kernel_rfl, by kernel_rfl⟩⟩
theorem fn42 : FnI Try.prog 42 := ⟨⟨_, Try.func42, by kernel_rfl, by kernel_rfl⟩⟩
theorem fn32 : FnI Try.prog 32 := ⟨⟨_, Try.func32, by kernel_rfl, by kernel_rfl⟩⟩
theorem sz22 : (Try.prog.info? 22).map (·.size) = some 1 := by kernel_rfl
theorem fn35 : FnI Try.prog 35 := ⟨⟨_, Try.func35, by kernel_rfl, by kernel_rfl⟩⟩
theorem fn36 : FnI Try.prog 36 := ⟨⟨_, Try.func36, by kernel_rfl, by kernel_rfl⟩⟩
theorem fn24 : FnI Try.prog 24 := ⟨⟨_, Try.func24, by kernel_rfl, by kernel_rfl⟩⟩
theorem fn17 : FnI Try.prog 17 := ⟨⟨_, Try.func17, by kernel_rfl, by kernel_rfl⟩⟩
theorem ni28 : NI Try.prog 28 := ⟨.inl ⟨_, Try.underlying28⟩⟩
theorem fn26 : FnI Try.prog 26 := ⟨⟨_, Try.func26, by kernel_rfl, by kernel_rfl⟩⟩
theorem fn28 : FnI Try.prog 28 := ⟨⟨_, Try.func28, by kernel_rfl, by kernel_rfl⟩⟩
theorem fn11 : FnI Try.prog 11 := ⟨⟨_, Try.func11, by kernel_rfl, by kernel_rfl⟩⟩
theorem fn19 : FnI Try.prog 19 := ⟨⟨_, Try.func19, by kernel_rfl, by kernel_rfl⟩⟩
theorem fn10 : FnI Try.prog 10 := ⟨⟨_, Try.func10, by kernel_rfl, by kernel_rfl⟩⟩
theorem fi25_0 : FI Try.prog 25 0 0 := ⟨⟨_, _, 1, Try.underlying25, rfl, rfl, by kernel_rfl, by decide⟩⟩
theorem ti25 : TI Try.prog 25 true 2 := ⟨⟨_, Try.underlying25, rfl⟩, by kernel_rfl⟩
theorem fi25_1 : FI Try.prog 25 1 1 := ⟨⟨_, _, 1, Try.underlying25, rfl, rfl, by kernel_rfl, by decide⟩⟩
theorem fn12 : FnI Try.prog 12 := ⟨⟨_, Try.func12, by kernel_rfl, by kernel_rfl⟩⟩
theorem zi25 : ZI Try.prog 25 ([.raw (.slice none 0 0), .i .i64 0]) := zi_of (by kernel_rfl)
theorem fn44 : FnI Try.prog 44 := ⟨⟨_, Try.func44, by kernel_rfl, by kernel_rfl⟩⟩
theorem fn50 : FnI Try.prog 50 := ⟨⟨_, Try.func50, by kernel_rfl, by kernel_rfl⟩⟩
theorem fn45 : FnI Try.prog 45 := ⟨⟨_, Try.func45, by kernel_rfl, by kernel_rfl⟩⟩
theorem fn46 : FnI Try.prog 46 := ⟨⟨_, Try.func46, by kernel_rfl, by kernel_rfl⟩⟩
theorem fn38 : FnI Try.prog 38 := ⟨⟨_, Try.func38, by kernel_rfl, by kernel_rfl⟩⟩
theorem fn30 : FnI Try.prog 30 := ⟨⟨_, Try.func30, by kernel_rfl, by kernel_rfl⟩⟩
theorem fn18 : FnI Try.prog 18 := ⟨⟨_, Try.func18, by kernel_rfl, by kernel_rfl⟩⟩
theorem pi25 : PI Try.prog 25 [(0, 1), (1, 1)] := pi_of Try.underlying25 (by kernel_rfl) (by kernel_rfl)
theorem sz25 : (Try.prog.info? 25).map (·.size) = some 2 := by kernel_rfl
theorem fn29 : FnI Try.prog 29 := ⟨⟨_, Try.func29, by kernel_rfl, by kernel_rfl⟩⟩
theorem fn13 : FnI Try.prog 13 := ⟨⟨_, Try.func13, by kernel_rfl, by kernel_rfl⟩⟩
theorem fn15 : FnI Try.prog 15 := ⟨⟨_, Try.func15, by kernel_rfl, by kernel_rfl⟩⟩
theorem fn14 : FnI Try.prog 14 := ⟨⟨_, Try.func14, by kernel_rfl, by kernel_rfl⟩⟩
theorem fn16 : FnI Try.prog 16 := ⟨⟨_, Try.func16, by kernel_rfl, by kernel_rfl⟩⟩
theorem fn20 : FnI Try.prog 20 := ⟨⟨_, Try.func20, by kernel_rfl, by kernel_rfl⟩⟩
theorem si42 : SI Try.prog 42 3 1 := ⟨Try.underlying42, by kernel_rfl, by decide⟩
theorem fn21 : FnI Try.prog 21 := ⟨⟨_, Try.func21, by kernel_rfl, by kernel_rfl⟩⟩
theorem fn22 : FnI Try.prog 22 := ⟨⟨_, Try.func22, by kernel_rfl, by kernel_rfl⟩⟩

def m37_slices_Growo_k1 (a0 : Int) (b1 : Unit) : Option (List UInt8) :=
  if (decide (0 < (wI (a0 - (wI (0 - 0)))))) then (if 0 < (wI (a0 - (wI (0 - 0)))) ∧ (wI (a0 - (wI (0 - 0)))) * ((1 : Nat) : Int) ≤ 281474976710656 then (if (0 : Int) ≤ 0 ∧ 0 ≤ ((List.replicate (wI (a0 - (wI (0 - 0)))).toNat (0 : UInt8)).length : Int) then (some ((List.replicate (wI (a0 - (wI (0 - 0)))).toNat (0 : UInt8)).take (0 : Int).toNat)) else none) else none) else (some ([] : List UInt8))
def m37_slices_Growo (a0 : Int) : Option (List UInt8) :=
  if (decide (a0 < 0)) then none else (m37_slices_Growo_k1 a0 ())

set_option maxRecDepth 100000 in
theorem m37_slices_Growo_c {a0 : Int} {r : (List UInt8)} (h : m37_slices_Growo a0 = some r) : CallsB Try.prog 37 [] [.one (.raw (.slice none 0 0)), .one (.i .i64 a0)] (fun y m' => y = .s (.one (.ls 0 r.length)) ∧ m' = [.arr 5 1 0 (r.flatMap eU8)]) := by
  unfold m37_slices_Growo at h
  refine callsB_of Try.func37 rfl (nt := 27) rfl (Nat.le_of_ble_eq_true rfl) ?_
  intro w0 S0 X0 H0
  refine cseq ?_
  refine cregion ?_
  refine sv rfl (opv_as rfl) ?_
  refine snil ?_
  refine cseq ?_
  refine cseq ?_
  refine cregion ?_
  refine sv rfl (opv_mv rfl) ?_
  refine sv rfl (opv_lss rfl rfl) ?_
  refine snil ?_
  refine cjoin (Unit) (fun b1 => [(0, .s (.one (.raw (.slice none 0 0)))), (1, .s (.one (.i .i64 a0)))]) (fun b1 => []) (fun b1 => m37_slices_Growo_k1 a0 b1 = some r) (fun _ _ => inbL_of rfl) (fun _ _ => blkinb_of rfl) (fun _ _ => Nat.le_of_ble_eq_true rfl) (fun b1 h => ?_) ?_
  · unfold m37_slices_Growo_k1 at h
    refine cseq ?_
    refine cseq ?_
    refine cregion ?_
    refine sv rfl (opv_mv rfl) ?_
    refine sv rfl (opv_mv rfl) ?_
    refine sv rfl (opv_cap_nil si22 rfl) ?_
    refine sv rfl (opv_mv rfl) ?_
    refine sv rfl (opv_len_nil si22 rfl) ?_
    refine sv rfl (opv_sub rfl rfl) ?_
    refine sv rfl (opv_sub rfl rfl) ?_
    refine sv rfl (opv_as rfl) ?_
    refine snil ?_
    refine cseq ?_
    refine cregion ?_
    refine sv rfl (opv_mv rfl) ?_
    refine sv rfl (opv_gtr rfl rfl) ?_
    refine snil ?_
    refine ccond rfl (fun hc => ?_) (fun hc => ?_)
    · replace h := ite_t hc h
      clear hc
      refine cregion ?_
      refine sv rfl (opv_mv rfl) ?_
      refine sv rfl (opv_mv rfl) ?_
      refine sv rfl (opv_cap_nil si22 rfl) ?_
      refine sv rfl (opv_slice_nil si22 rfl rfl) ?_
      refine sv rfl (opv_mv rfl) ?_
      obtain ⟨hm2, h⟩ := chk_eq h
      refine sappz (f := eU8) (z := (0 : UInt8)) rfl Try.underlying22 ei5 Try.underlying3 (fun _ => rfl) rfl rfl rfl hm2 (by decide) ?_
      refine sv rfl (opv_mv rfl) ?_
      refine sv rfl (opv_len_nil si22 rfl) ?_
      obtain ⟨hs3, h⟩ := chk_eq h
      refine strunc (f := eU8) rfl si22 (fun _ => rfl) rfl rfl rfl rfl rfl hs3 ?_
      refine sv rfl (opv_as rfl) ?_
      refine snil ?_
      refine cseq ?_
      refine cregion ?_
      refine sv rfl (opv_mv rfl) ?_
      refine sv rfl (opv_as rfl) ?_
      refine snil ?_
      refine cret ?_
      obtain rfl := Option.some.inj h
      exact ⟨Or.inr rfl, _, [1], [.one (.ls 0 ((List.replicate (wI (a0 - (wI (0 - 0)))).toNat (0 : UInt8)).take (0 : Int).toNat).length)], [.arr 5 1 0 (((List.replicate (wI (a0 - (wI (0 - 0)))).toNat (0 : UInt8)).take (0 : Int).toNat).flatMap eU8)], (resVs_cons (ResV.tmp _ _ rfl) resVs_nil), rfl, rfl, ⟨by decide, rfl⟩, rfl, rfl, ⟨rfl, rfl⟩⟩
    · replace h := ite_f hc h
      clear hc
      refine cskip ?_
      refine then_normal ?_
      refine cseq ?_
      refine cregion ?_
      refine sv rfl (opv_mv rfl) ?_
      refine sv rfl (opv_as rfl) ?_
      refine snil ?_
      refine sadopt_c 5 1 4 (by decide) rfl ?_
      refine cret ?_
      obtain rfl := Option.some.inj h
      exact ⟨Or.inr rfl, _, [0], [.one (.ls 0 ([] : List UInt8).length)], [.arr 5 1 0 (([] : List UInt8).flatMap eU8)], (resVs_cons (ResV.tmp _ _ rfl) resVs_nil), rfl, rfl, ⟨by decide, rfl⟩, rfl, rfl, ⟨rfl, rfl⟩⟩
  · skip
    refine ccond rfl (fun hc => ?_) (fun hc => ?_)
    · replace h := ite_t hc h
      clear hc
      cases h
    · replace h := ite_f hc h
      clear hc
      refine cskip ?_
      refine then_normal ?_
      exact ⟨(), _, h, ⟨rfl, rfl, trivial⟩, rfl⟩

def m25_slices_Concato_k3 (b3 : (List UInt8)) : Option (List UInt8) :=
  some b3

def m25_slices_Concato_s4 (a0 : List (List UInt8)) (s4 : Int × (List UInt8)) : Option (LB (Int × (List UInt8)) ((List UInt8))) :=
  if (decide (s4.1 < (a0.length : Int))) then ((idx a0 s4.1).bind fun u5 => if (s4.2.length + u5.length) * 1 ≤ 140737488355328 then (some (.cont ((wI (s4.1 + 1)), (s4.2 ++ u5)))) else none) else (some (.brk s4.2))

def m25_slices_Concato_k1 (a0 : List (List UInt8)) (b1 : Int) : Option (List UInt8) :=
  (m37_slices_Growo b1).bind fun v2 => (iterB (m25_slices_Concato_s4 a0) fuel (0, v2)).bind fun e7 => m25_slices_Concato_k3 e7

def m25_slices_Concato_s8 (a0 : List (List UInt8)) (s8 : Int × Int) : Option (LB (Int × Int) (Int)) :=
  if (decide (s8.2 < (a0.length : Int))) then ((idx a0 s8.2).bind fun u9 => if (decide ((wI (s8.1 + (u9.length : Int))) < 0)) then none else (some (.cont ((wI (s8.1 + (u9.length : Int))), (wI (s8.2 + 1)))))) else (some (.brk s8.1))
def m25_slices_Concato (a0 : List (List UInt8)) : Option (List UInt8) :=
  (iterB (m25_slices_Concato_s8 a0) fuel (0, 0)).bind fun e10 => m25_slices_Concato_k1 a0 e10

set_option maxRecDepth 100000 in
theorem m25_slices_Concato_c {a0 : List (List UInt8)} {r : (List UInt8)} (h : m25_slices_Concato a0 = some r) : CallsB Try.prog 25 [] [.one (.sl a0.length (a0.flatMap (eL eU8)))] (fun y m' => y = .s (.one (.ls 0 r.length)) ∧ m' = [.arr 5 1 0 (r.flatMap eU8)]) := by
  unfold m25_slices_Concato at h
  refine callsB_of Try.func25 rfl (nt := 36) rfl (Nat.le_of_ble_eq_true rfl) ?_
  intro w0 S0 X0 H0
  refine cseq ?_
  refine cregion ?_
  refine sv rfl (opv_as rfl) ?_
  refine snil ?_
  refine cseq ?_
  refine cregion ?_
  refine sv rfl (opv_as rfl) ?_
  refine snil ?_
  refine cseq ?_
  refine cseq ?_
  refine cregion ?_
  refine sv rfl (opv_mv rfl) ?_
  refine sv rfl (opv_len_sl si28 rfl) ?_
  refine sv rfl (opv_mv rfl) ?_
  refine snil ?_
  refine cjoin (Int) (fun b1 => [(0, .s (.one (.sl a0.length (a0.flatMap (eL eU8))))), (3, .s (.one (.i .i64 b1)))]) (fun b1 => []) (fun b1 => m25_slices_Concato_k1 a0 b1 = some r) (fun _ _ => inbL_of rfl) (fun _ _ => blkinb_of rfl) (fun _ _ => Nat.le_of_ble_eq_true rfl) (fun b1 h => ?_) ?_
  · unfold m25_slices_Concato_k1 at h
    refine cseq ?_
    refine cregion ?_
    refine sv rfl (opv_mv rfl) ?_
    obtain ⟨v2, hv2, h⟩ := bind_eq h
    refine scallB (x' := .s (.one (.ls 0 v2.length))) (M' := [.arr 5 1 0 (v2.flatMap eU8)]) [] rfl fn37 (.func _) (opnds_cons rfl (opnds_cons rfl opnds_nil)) (m37_slices_Growo_c hv2) rfl rfl (by decide) rfl rfl rfl ?_
    refine sv rfl (opv_as rfl) ?_
    refine snil ?_
    refine cseq ?_
    refine cseq ?_
    refine cregion ?_
    refine sv rfl (opv_mv rfl) ?_
    refine sv rfl (opv_len_sl si28 rfl) ?_
    refine sv rfl (opv_mv rfl) ?_
    refine snil ?_
    refine cjoin ((List UInt8)) (fun b3 => [(6, .s (.one (.ls 0 b3.length)))]) (fun b3 => [.arr 5 1 0 (b3.flatMap eU8)]) (fun b3 => m25_slices_Concato_k3 b3 = some r) (fun _ _ => inbL_of rfl) (fun _ _ => blkinb_of rfl) (fun _ _ => Nat.le_of_ble_eq_true rfl) (fun b3 h => ?_) ?_
    · unfold m25_slices_Concato_k3 at h
      refine cseq ?_
      refine cregion ?_
      refine sv rfl (opv_mv rfl) ?_
      refine sv rfl (opv_as rfl) ?_
      refine snil ?_
      refine cret ?_
      obtain rfl := Option.some.inj h
      exact ⟨Or.inr rfl, _, [0], [.one (.ls 0 b3.length)], [.arr 5 1 0 (b3.flatMap eU8)], (resVs_cons (ResV.tmp _ _ rfl) resVs_nil), rfl, rfl, ⟨by decide, rfl⟩, rfl, rfl, ⟨rfl, rfl⟩⟩
    · skip
      refine cblock ?_
      obtain ⟨x4, hx4, ho4⟩ := bind_eq h
      refine awc_loop (G := Nat × (Int × (List UInt8))) (fun g => [(6, .s (.one (.ls 0 g.2.2.length))), (25, .s (.one (.sl a0.length (a0.flatMap (eL eU8))))), (26, .s (.one (.i .i64 (a0.length : Int)))), (27, .s (.one (.i .i64 g.2.1)))]) (fun g => [.arr 5 1 0 (g.2.2.flatMap eU8)]) (fun g => iterB (m25_slices_Concato_s4 a0) g.1 g.2 = some x4) (fun g => g.1) (fuel, (0, v2)) hx4 ⟨rfl, rfl, rfl, rfl, trivial⟩ [] rfl (fun _ _ => inbL_of rfl) (fun _ _ => blkinb_of rfl) (fun _ _ => Nat.le_of_ble_eq_true rfl) ?_
      clear hx4 h
      rintro ⟨n4, s4⟩ h
      obtain ⟨n4, y4, rfl, h, hk4⟩ := iterB_eq h
      unfold m25_slices_Concato_s4 at h
      refine cseq ?_
      refine cregion ?_
      refine sv rfl (opv_lss rfl rfl) ?_
      refine snil ?_
      refine cseq ?_
      refine ccond rfl (fun hc => ?_) (fun hc => ?_)
      · replace h := ite_t hc h
        clear hc
        refine cskip ?_
        refine then_normal ?_
        refine cseq ?_
        refine cblock ?_
        refine cseq ?_
        refine cregion ?_
        obtain ⟨u5, hu5, h⟩ := bind_eq h
        refine sv rfl (opv_ix (f := (eL eU8)) si28 (fun _ => rfl) rfl rfl rfl rfl hu5) ?_
        refine sv rfl (opv_load1 ti22 rfl (.cp _) rfl) ?_
        refine sv rfl (opv_as rfl) ?_
        refine snil ?_
        refine cregion ?_
        refine sv rfl (opv_mv rfl) ?_
        refine sv rfl (opv_mv rfl) ?_
        obtain ⟨hb6, h⟩ := chk_eq h
        refine sapp (f := eU8) (xs := s4.2) (us := u5) rfl Try.underlying22 ei5 ni22 (fun _ => rfl) rfl rfl (.one _ _ _ _ (.id _ rfl)) rfl rfl rfl (.sl _ _ _ (flat_len (f := eU8) (fun _ => rfl) _)) rfl rfl hb6 (by decide) ?_
        refine sv rfl (opv_as rfl) ?_
        refine snil0 ?_
        refine block_normal ?_
        refine then_normal ?_
        refine cregion ?_
        refine sv rfl (opv_add rfl rfl) ?_
        refine sv rfl (opv_mv rfl) ?_
        refine snil ?_
        obtain rfl := Option.some.inj h
        exact ⟨(n4, ((wI (s4.1 + 1)), (s4.2 ++ u5))), _, hk4, ⟨rfl, rfl, rfl, rfl, trivial⟩, rfl, Nat.lt_succ_self _⟩
      · replace h := ite_f hc h
        clear hc
        refine cexit ?_
        refine then_exit ?_
        refine then_exit ?_
        refine block_hit ?_
        refine then_normal ?_
        obtain rfl := Option.some.inj h
        obtain rfl : _ = x4 := hk4
        exact ⟨s4.2, _, ho4, ⟨rfl, trivial⟩, rfl⟩
  · skip
    refine cblock ?_
    obtain ⟨x8, hx8, ho8⟩ := bind_eq h
    refine awc_loop (G := Nat × (Int × Int)) (fun g => [(0, .s (.one (.sl a0.length (a0.flatMap (eL eU8))))), (3, .s (.one (.i .i64 g.2.1))), (9, .s (.one (.sl a0.length (a0.flatMap (eL eU8))))), (10, .s (.one (.i .i64 (a0.length : Int)))), (11, .s (.one (.i .i64 g.2.2)))]) (fun g => []) (fun g => iterB (m25_slices_Concato_s8 a0) g.1 g.2 = some x8) (fun g => g.1) (fuel, (0, 0)) hx8 ⟨rfl, rfl, rfl, rfl, rfl, trivial⟩ [] rfl (fun _ _ => inbL_of rfl) (fun _ _ => blkinb_of rfl) (fun _ _ => Nat.le_of_ble_eq_true rfl) ?_
    clear hx8 h
    rintro ⟨n8, s8⟩ h
    obtain ⟨n8, y8, rfl, h, hk8⟩ := iterB_eq h
    unfold m25_slices_Concato_s8 at h
    refine cseq ?_
    refine cregion ?_
    refine sv rfl (opv_lss rfl rfl) ?_
    refine snil ?_
    refine cseq ?_
    refine ccond rfl (fun hc => ?_) (fun hc => ?_)
    · replace h := ite_t hc h
      clear hc
      refine cskip ?_
      refine then_normal ?_
      refine cseq ?_
      refine cblock ?_
      refine cseq ?_
      refine cregion ?_
      obtain ⟨u9, hu9, h⟩ := bind_eq h
      refine sv rfl (opv_ix (f := (eL eU8)) si28 (fun _ => rfl) rfl rfl rfl rfl hu9) ?_
      refine sv rfl (opv_load1 ti22 rfl (.cp _) rfl) ?_
      refine sv rfl (opv_as rfl) ?_
      refine snil ?_
      refine cseq ?_
      refine cregion ?_
      refine sv rfl (opv_mv rfl) ?_
      refine sv rfl (opv_mv rfl) ?_
      refine sv rfl (opv_len_sl si22 rfl) ?_
      refine sv rfl (opv_add rfl rfl) ?_
      refine sv rfl (opv_as rfl) ?_
      refine snil ?_
      refine cseq ?_
      refine cregion ?_
      refine sv rfl (opv_mv rfl) ?_
      refine sv rfl (opv_lss rfl rfl) ?_
      refine snil ?_
      refine ccond rfl (fun hc => ?_) (fun hc => ?_)
      · replace h := ite_t hc h
        clear hc
        cases h
      · replace h := ite_f hc h
        clear hc
        refine cskip ?_
        refine block_normal ?_
        refine then_normal ?_
        refine cregion ?_
        refine sv rfl (opv_add rfl rfl) ?_
        refine sv rfl (opv_mv rfl) ?_
        refine snil ?_
        obtain rfl := Option.some.inj h
        exact ⟨(n8, ((wI (s8.1 + (u9.length : Int))), (wI (s8.2 + 1)))), _, hk8, ⟨rfl, rfl, rfl, rfl, rfl, trivial⟩, rfl, Nat.lt_succ_self _⟩
    · replace h := ite_f hc h
      clear hc
      refine cexit ?_
      refine then_exit ?_
      refine then_exit ?_
      refine block_hit ?_
      refine then_normal ?_
      obtain rfl := Option.some.inj h
      obtain rfl : _ = x8 := hk8
      exact ⟨s8.1, _, ho8, ⟨rfl, rfl, trivial⟩, rfl⟩

def m34_enc_U_k2 (a0 : List UInt8) (b2 : (List UInt8)) : Option (List UInt8) :=
  (m25_slices_Concato [a0, b2]).bind fun v3 => some v3

def m34_enc_U_s4 (a1 : BitVec 64) (a2 : Int) (s4 : Int × (List UInt8)) : Option (LB (Int × (List UInt8)) ((List UInt8))) :=
  if (decide (s4.1 < ((List.replicate (if (if 8 < a2 then 8 else a2) > 0 then (if 8 < a2 then 8 else a2) else 0).toNat (0 : UInt8)).length : Int))) then (if 0 ≤ (wI (8 * s4.1)) then ((idx s4.2 s4.1).bind fun u6 => some (.cont ((wI (s4.1 + 1)), (s4.2.set s4.1.toNat (UInt8.ofBitVec ((a1 >>> (wI (8 * s4.1)).toNat).setWidth 8)))))) else none) else (some (.brk s4.2))
def m34_enc_U (a0 : List UInt8) (a1 : BitVec 64) (a2 : Int) : Option (List UInt8) :=
  if (0 : Int) ≤ (if (if 8 < a2 then 8 else a2) > 0 then (if 8 < a2 then 8 else a2) else 0) ∧ (if (if 8 < a2 then 8 else a2) > 0 then (if 8 < a2 then 8 else a2) else 0) ≤ (if (if 8 < a2 then 8 else a2) > 0 then (if 8 < a2 then 8 else a2) else 0) ∧ ((1 : Nat) : Int) * (if (if 8 < a2 then 8 else a2) > 0 then (if 8 < a2 then 8 else a2) else 0) ≤ 281474976710656 then ((iterB (m34_enc_U_s4 a1 a2) fuel (0, (List.replicate (if (if 8 < a2 then 8 else a2) > 0 then (if 8 < a2 then 8 else a2) else 0).toNat (0 : UInt8)))).bind fun e7 => m34_enc_U_k2 a0 e7) else none

set_option maxRecDepth 100000 in
theorem m34_enc_U_c {a0 : List UInt8} {a1 : BitVec 64} {a2 : Int} {r : (List UInt8)} (h : m34_enc_U a0 a1 a2 = some r) : CallsA Try.prog 34 [.one (.sl a0.length (a0.flatMap eU8)), .one (.i .u64 (a1.toNat : Int)), .one (.i .i64 a2)] (· = .s (.one (.sl r.length (r.flatMap eU8)))) := by
  unfold m34_enc_U at h
  refine callsA_of Try.func34 rfl (nt := 32) rfl (Nat.le_of_ble_eq_true rfl) ?_
  intro w0 S0
  refine cseq ?_
  refine cregion ?_
  refine sv rfl (opv_as rfl) ?_
  refine snil ?_
  refine cseq ?_
  refine cregion ?_
  refine sv rfl (opv_mv rfl) ?_
  refine sv rfl (opv_min rfl rfl) ?_
  refine sv rfl (opv_max rfl rfl) ?_
  refine sv rfl (opv_as rfl) ?_
  refine snil ?_
  refine cseq ?_
  refine cregion ?_
  refine sv rfl (opv_mv rfl) ?_
  obtain ⟨hm1, h⟩ := chk_eq h
  refine smk (f := eU8) (z := (0 : UInt8)) rfl Try.underlying22 ei5 (fun _ => rfl) rfl rfl rfl hm1 (by decide) ?_
  refine sv rfl (opv_as rfl) ?_
  refine snil ?_
  refine cseq ?_
  refine cseq ?_
  refine cregion ?_
  refine sv rfl (opv_mv rfl) ?_
  refine sv rfl (opv_len_ls si22 rfl rfl (flat_len (f := eU8) (fun _ => rfl) _).symm) ?_
  refine sv rfl (opv_mv rfl) ?_
  refine snil ?_
  refine cjoin ((List UInt8)) (fun b2 => [(0, .s (.one (.sl a0.length (a0.flatMap eU8)))), (7, .s (.one (.ls 0 b2.length)))]) (fun b2 => [.arr 5 1 0 (b2.flatMap eU8)]) (fun b2 => m34_enc_U_k2 a0 b2 = some r) (fun _ _ => inbL_of rfl) (fun _ _ => blkinb_of rfl) (fun _ _ => Nat.le_of_ble_eq_true rfl) (fun b2 h => ?_) ?_
  · unfold m34_enc_U_k2 at h
    refine cseq ?_
    refine cregion ?_
    refine sv rfl (opv_mv rfl) ?_
    refine sv rfl (opv_mv rfl) ?_
    refine spub 29 rfl (by (repeat' first | exact PubA.nil _ | apply PubA.cons | apply PubV.one | apply PubV.agg | exact PubL.nil | exact PubL.ls _ _ _ _ _ _ rfl (flat_len (f := eU8) (fun _ => rfl) _).symm | exact PubL.id _ rfl | exact PubLs.nil _ | apply PubLs.cons)) ?_
    refine sbuildN (out := ([a0, b2] : List (List UInt8)).flatMap (eL eU8)) rfl Try.underlying28 ei22 (parts_cons rfl (parts_cons rfl parts_nil)) (.cons _ _ _ _ _ _ _ rfl rfl (Nat.le_of_ble_eq_true rfl) (.cons _ _ _ _ _ _ _ rfl rfl (Nat.le_of_ble_eq_true rfl) (.nil _))) rfl (by decide) ?_
    refine spub 30 rfl (by (repeat' first | exact PubA.nil _ | apply PubA.cons | apply PubV.one | apply PubV.agg | exact PubL.nil | exact PubL.ls _ _ _ _ _ _ rfl (flat_len (f := (eL eU8)) (fun _ => rfl) ([a0, b2] : List (List UInt8))).symm | exact PubL.ls _ _ _ _ _ _ rfl (flat_len (f := (eL eU8)) (fun _ => rfl) _).symm | exact PubL.ls _ _ _ _ _ _ rfl (flat_len (f := eU8) (fun _ => rfl) _).symm | exact PubL.id _ rfl | exact PubLs.nil _ | apply PubLs.cons)) ?_
    obtain ⟨v3, hv3, h⟩ := bind_eq h
    refine scallB (x' := .s (.one (.ls 2 v3.length))) (M' := [.arr 5 1 (b2.flatMap eU8).length (b2.flatMap eU8), .arr 22 1 ([a0, b2].flatMap (eL eU8)).length ([a0, b2].flatMap (eL eU8)), .arr 5 1 0 (v3.flatMap eU8)]) [] rfl fn25 (.func _) (opnds_cons rfl opnds_nil) (m25_slices_Concato_c hv3) rfl rfl (by decide) rfl rfl rfl ?_
    refine sv rfl (opv_as rfl) ?_
    refine snil ?_
    refine cret ?_
    obtain rfl := Option.some.inj h
    refine ⟨Or.inr rfl, _, _, _, (resVs_cons (ResV.tmp _ _ rfl) resVs_nil), (by (repeat' first | exact PubA.nil _ | apply PubA.cons | apply PubV.one | apply PubV.agg | exact PubL.nil | exact PubL.ls _ _ _ _ _ _ rfl (flat_len (f := (eL eU8)) (fun _ => rfl) _).symm | exact PubL.ls _ _ _ _ _ _ rfl (flat_len (f := eU8) (fun _ => rfl) _).symm | exact PubL.id _ rfl | exact PubLs.nil _ | apply PubLs.cons)), ?_⟩
    rfl
  · skip
    refine cblock ?_
    obtain ⟨x4, hx4, ho4⟩ := bind_eq h
    refine awc_loop (G := Nat × (Int × (List UInt8))) (fun g => [(0, .s (.one (.sl a0.length (a0.flatMap eU8)))), (1, .s (.one (.i .u64 (a1.toNat : Int)))), (7, .s (.one (.ls 0 g.2.2.length))), (15, .s (.one (.i .i64 ((List.replicate (if (if 8 < a2 then 8 else a2) > 0 then (if 8 < a2 then 8 else a2) else 0).toNat (0 : UInt8)).length : Int)))), (16, .s (.one (.i .i64 g.2.1)))]) (fun g => [.arr 5 1 0 (g.2.2.flatMap eU8)]) (fun g => iterB (m34_enc_U_s4 a1 a2) g.1 g.2 = some x4) (fun g => g.1) (fuel, (0, (List.replicate (if (if 8 < a2 then 8 else a2) > 0 then (if 8 < a2 then 8 else a2) else 0).toNat (0 : UInt8)))) hx4 ⟨rfl, rfl, rfl, rfl, rfl, trivial⟩ [] rfl (fun _ _ => inbL_of rfl) (fun _ _ => blkinb_of rfl) (fun _ _ => Nat.le_of_ble_eq_true rfl) ?_
    clear hx4 h
    rintro ⟨n4, s4⟩ h
    obtain ⟨n4, y4, rfl, h, hk4⟩ := iterB_eq h
    unfold m34_enc_U_s4 at h
    refine cseq ?_
    refine cregion ?_
    refine sv rfl (opv_lss rfl rfl) ?_
    refine snil ?_
    refine cseq ?_
    refine ccond rfl (fun hc => ?_) (fun hc => ?_)
    · replace h := ite_t hc h
      clear hc
      refine cskip ?_
      refine then_normal ?_
      refine cseq ?_
      refine cblock ?_
      refine cseq ?_
      refine cregion ?_
      refine sv rfl (opv_mv rfl) ?_
      refine sv rfl (opv_as rfl) ?_
      refine snil ?_
      refine cregion ?_
      refine sv rfl (opv_mv rfl) ?_
      refine sv rfl (opv_mv rfl) ?_
      refine sv rfl (opv_mv rfl) ?_
      refine sv rfl (opv_mv rfl) ?_
      refine sv rfl (opv_mul rfl rfl) ?_
      obtain ⟨hz5, h⟩ := chk_eq h
      refine sv rfl (opv_shr_u64 (a := a1) rfl rfl rfl hz5) ?_
      refine sv rfl (opv_conv_bv (k := .u64) (a := (a1 >>> (wI (8 * s4.1)).toNat)) rfl Try.underlying58 Try.underlying5 rfl rfl) ?_
      obtain ⟨u6, hu6, h⟩ := bind_eq h
      refine sv rfl (opv_ixo (f := eU8) si22 (fun _ => rfl) rfl rfl rfl rfl rfl hu6) ?_
      refine sseto (f := eU8) (u' := (UInt8.ofBitVec ((a1 >>> (wI (8 * s4.1)).toNat).setWidth 8))) (sz := 1) 0 sz5 (fun _ => rfl) rfl rfl rfl rfl rfl rfl rfl (List.all_eq_true.1 rfl) (idx_eq hu6).2 (Nat.le_of_ble_eq_true rfl) rfl ?_
      refine stell 7 (y := .s (.one (.ls 0 s4.2.length))) (.s (.one (.ls 0 (s4.2.set s4.1.toNat (UInt8.ofBitVec ((a1 >>> (wI (8 * s4.1)).toNat).setWidth 8))).length))) rfl (congrArg (fun n => AV.s (.one (.ls 0 n))) List.length_set.symm) ?_
      refine stell 19 (y := .s (.one (.ls 0 s4.2.length))) (.s (.one (.ls 0 (s4.2.set s4.1.toNat (UInt8.ofBitVec ((a1 >>> (wI (8 * s4.1)).toNat).setWidth 8))).length))) rfl (congrArg (fun n => AV.s (.one (.ls 0 n))) List.length_set.symm) ?_
      refine snil0 ?_
      refine block_normal ?_
      refine then_normal ?_
      refine cregion ?_
      refine sv rfl (opv_add rfl rfl) ?_
      refine sv rfl (opv_mv rfl) ?_
      refine snil ?_
      obtain rfl := Option.some.inj h
      exact ⟨(n4, ((wI (s4.1 + 1)), (s4.2.set s4.1.toNat (UInt8.ofBitVec ((a1 >>> (wI (8 * s4.1)).toNat).setWidth 8))))), _, hk4, ⟨rfl, rfl, rfl, rfl, rfl, trivial⟩, rfl, Nat.lt_succ_self _⟩
    · replace h := ite_f hc h
      clear hc
      refine cexit ?_
      refine then_exit ?_
      refine then_exit ?_
      refine block_hit ?_
      refine then_normal ?_
      obtain rfl := Option.some.inj h
      obtain rfl : _ = x4 := hk4
      exact ⟨s4.2, _, ho4, ⟨rfl, rfl, trivial⟩, rfl⟩

def m52_crc_step (a0 : BitVec 32) : Option (BitVec 32) :=
  if (decide (((a0 &&& (1#32)).toNat : Int) = (1 : Int))) then (some ((a0 >>> (1 : Int).toNat) ^^^ (3988292384#32))) else (some (a0 >>> (1 : Int).toNat))

set_option maxRecDepth 100000 in
theorem m52_crc_step_c {a0 : BitVec 32} {r : (BitVec 32)} (h : m52_crc_step a0 = some r) : CallsA Try.prog 52 [.one (.i .u32 (a0.toNat : Int))] (· = .s (.one (.i .u32 (r.toNat : Int)))) := by
  unfold m52_crc_step at h
  refine callsA_of Try.func52 rfl (nt := 11) rfl (Nat.le_of_ble_eq_true rfl) ?_
  intro w0 S0
  refine cseq ?_
  refine cregion ?_
  refine sv rfl (opv_as rfl) ?_
  refine snil ?_
  refine cseq ?_
  refine cseq ?_
  refine cregion ?_
  refine sv rfl (opv_mv rfl) ?_
  refine sv rfl (opv_and_u32 (a := a0) (b := 1#32) rfl rfl rfl rfl) ?_
  refine sv rfl (opv_ieql rfl rfl) ?_
  refine snil ?_
  refine ccond rfl (fun hc => ?_) (fun hc => ?_)
  · replace h := ite_t hc h
    clear hc
    refine cseq ?_
    refine cregion ?_
    refine sv rfl (opv_mv rfl) ?_
    refine sv rfl (opv_shr_u32 (a := a0) rfl rfl rfl (by decide)) ?_
    refine sv rfl (opv_xor_u32 (a := (a0 >>> (1 : Int).toNat)) (b := 3988292384#32) rfl rfl rfl rfl) ?_
    refine sv rfl (opv_as rfl) ?_
    refine snil ?_
    refine cret ?_
    refine then_ret ?_
    obtain rfl := Option.some.inj h
    refine ⟨Or.inr rfl, _, _, _, (resVs_cons (ResV.tmp _ _ rfl) resVs_nil), (pubA_id rfl), ?_⟩
    rfl
  · replace h := ite_f hc h
    clear hc
    refine cskip ?_
    refine then_normal ?_
    refine cseq ?_
    refine cregion ?_
    refine sv rfl (opv_mv rfl) ?_
    refine sv rfl (opv_shr_u32 (a := a0) rfl rfl rfl (by decide)) ?_
    refine sv rfl (opv_as rfl) ?_
    refine snil ?_
    refine cret ?_
    obtain rfl := Option.some.inj h
    refine ⟨Or.inr rfl, _, _, _, (resVs_cons (ResV.tmp _ _ rfl) resVs_nil), (pubA_id rfl), ?_⟩
    rfl

def m51_crc_Table_k1 (b1 : (List (BitVec 32))) : Option (List (BitVec 32)) :=
  if b1.length = 256 then (if (List.replicate 256 0#32).length = 256 then (if b1.length = 256 then (if b1.length = 256 then (some b1) else none) else none) else none) else none

def m51_crc_Table_k6 (s5 : Int × (List (BitVec 32))) (b6 : (BitVec 32)) : Option (LB (Int × (List (BitVec 32))) ((List (BitVec 32)))) :=
  if 0 ≤ s5.1 ∧ s5.1 < ((256 : Nat) : Int) then ((idx s5.2 s5.1).bind fun u8 => some (.cont ((wI (s5.1 + 1)), (s5.2.set s5.1.toNat b6)))) else none

def m51_crc_Table_s9 (s9 : (BitVec 32) × Int) : Option (LB ((BitVec 32) × Int) ((BitVec 32))) :=
  if (decide (s9.2 < 8)) then ((m52_crc_step s9.1).bind fun v10 => some (.cont (v10, (wI (s9.2 + 1))))) else (some (.brk s9.1))

def m51_crc_Table_s5 (s5 : Int × (List (BitVec 32))) : Option (LB (Int × (List (BitVec 32))) ((List (BitVec 32)))) :=
  if (decide (s5.1 < 256)) then ((iterB m51_crc_Table_s9 fuel ((BitVec.ofInt 32 s5.1), 0)).bind fun e11 => m51_crc_Table_k6 s5 e11) else (some (.brk s5.2))
def m51_crc_Table  : Option (List (BitVec 32)) :=
  (iterB m51_crc_Table_s5 fuel (0, (List.replicate 256 0#32))).bind fun e12 => m51_crc_Table_k1 e12

set_option maxRecDepth 100000 in
theorem m51_crc_Table_c  {r : (List (BitVec 32))} (h : m51_crc_Table = some r) : CallsA Try.prog 51 [] (· = .s (.agg (r.flatMap eU32))) := by
  unfold m51_crc_Table at h
  refine callsA_of Try.func51 rfl (nt := 19) rfl (Nat.le_of_ble_eq_true rfl) ?_
  intro w0 S0
  refine cseq ?_
  refine cregion ?_
  refine salloc rfl zi83 ?_
  refine snil ?_
  refine cseq ?_
  refine cregion ?_
  refine salloc rfl zi83 ?_
  refine snil ?_
  refine cseq ?_
  refine cseq ?_
  refine cregion ?_
  refine sv rfl (opv_mv rfl) ?_
  refine snil ?_
  refine cjoin ((List (BitVec 32))) (fun b1 => [(0, .s (.one (.lp 0 0))), (1, .s (.one (.lp 1 0)))]) (fun b1 => [.box ((List.replicate 256 0#32).flatMap eU32), .box (b1.flatMap eU32)]) (fun b1 => m51_crc_Table_k1 b1 = some r) (fun _ _ => inbL_of rfl) (fun _ _ => blkinb_of (by simp only [List.all_cons, List.all_nil, Blk.inbB, Lf.inbB, Lf.inb0, Bool.and_true, Bool.and_self, Bool.true_and, flat_inb (f := eU32) (fun _ _ => rfl)] <;> rfl)) (fun _ _ => Nat.le_of_ble_eq_true rfl) (fun b1 h => ?_) ?_
  · unfold m51_crc_Table_k1 at h
    refine cseq ?_
    refine cregion ?_
    obtain ⟨hl2, h⟩ := chk_eq h
    refine sv rfl (opv_ldall (f := eU32) (n := 256) ti83 (fun _ => rfl) rfl rfl rfl hl2) ?_
    obtain ⟨hl3, h⟩ := chk_eq h
    obtain ⟨hl4, h⟩ := chk_eq h
    refine sstall (f := eU32) (n := 256) sz83 (fun _ => rfl) rfl rfl rfl rfl hl3 hl4 ?_
    refine smem [.box (b1.flatMap eU32), .box (b1.flatMap eU32)] rfl ?_
    refine snil ?_
    refine cret ?_
    obtain ⟨hlr, h⟩ := chk_eq h
    obtain rfl := Option.some.inj h
    refine ⟨Or.inr rfl, _, _, _, (resVs_cons (resv_arr (f := eU32) (n := 256) (fun _ => rfl) ti83 rfl rfl rfl hlr) resVs_nil), (pubA_id (by simp [List.all_cons, pub_agg (f := eU32) (fun _ => rfl), SV.cells])), ?_⟩
    rfl
  · skip
    refine cblock ?_
    obtain ⟨x5, hx5, ho5⟩ := bind_eq h
    refine awc_loop (G := Nat × (Int × (List (BitVec 32)))) (fun g => [(0, .s (.one (.lp 0 0))), (1, .s (.one (.lp 1 0))), (4, .s (.one (.i .i64 g.2.1)))]) (fun g => [.box ((List.replicate 256 0#32).flatMap eU32), .box (g.2.2.flatMap eU32)]) (fun g => iterB m51_crc_Table_s5 g.1 g.2 = some x5) (fun g => g.1) (fuel, (0, (List.replicate 256 0#32))) hx5 ⟨rfl, rfl, rfl, trivial⟩ [] rfl (fun _ _ => inbL_of rfl) (fun _ _ => blkinb_of (by simp only [List.all_cons, List.all_nil, Blk.inbB, Lf.inbB, Lf.inb0, Bool.and_true, Bool.and_self, Bool.true_and, flat_inb (f := eU32) (fun _ _ => rfl)] <;> rfl)) (fun _ _ => Nat.le_of_ble_eq_true rfl) ?_
    clear hx5 h
    rintro ⟨n5, s5⟩ h
    obtain ⟨n5, y5, rfl, h, hk5⟩ := iterB_eq h
    unfold m51_crc_Table_s5 at h
    refine cseq ?_
    refine cregion ?_
    refine sv rfl (opv_lss rfl rfl) ?_
    refine snil ?_
    refine cseq ?_
    refine ccond rfl (fun hc => ?_) (fun hc => ?_)
    · replace h := ite_t hc h
      clear hc
      refine cskip ?_
      refine then_normal ?_
      refine cseq ?_
      refine cblock ?_
      refine cseq ?_
      refine cregion ?_
      refine sv rfl (opv_mv rfl) ?_
      refine sv rfl (opv_as rfl) ?_
      refine snil ?_
      refine cseq ?_
      refine cregion ?_
      refine sv rfl (opv_mv rfl) ?_
      refine sv rfl (opv_conv_ibv rfl Try.underlying3 Try.underlying62 rfl) ?_
      refine sv rfl (opv_as rfl) ?_
      refine snil ?_
      refine cseq ?_
      refine cseq ?_
      refine cregion ?_
      refine sv rfl (opv_mv rfl) ?_
      refine snil ?_
      refine cjoin ((BitVec 32)) (fun b6 => [(0, .s (.one (.lp 0 0))), (1, .s (.one (.lp 1 0))), (2, .s (.one (.i .i64 s5.1))), (3, .s (.one (.i .u32 (b6.toNat : Int)))), (4, .s (.one (.i .i64 s5.1)))]) (fun b6 => [.box ((List.replicate 256 0#32).flatMap eU32), .box (s5.2.flatMap eU32)]) (fun b6 => m51_crc_Table_k6 s5 b6 = some y5) (fun _ _ => inbL_of rfl) (fun _ _ => blkinb_of (by simp only [List.all_cons, List.all_nil, Blk.inbB, Lf.inbB, Lf.inb0, Bool.and_true, Bool.and_self, Bool.true_and, flat_inb (f := eU32) (fun _ _ => rfl)] <;> rfl)) (fun _ _ => Nat.le_of_ble_eq_true rfl) (fun b6 h => ?_) ?_
      · unfold m51_crc_Table_k6 at h
        refine cregion ?_
        refine sv rfl (opv_mv rfl) ?_
        refine sv rfl (opv_mv rfl) ?_
        obtain ⟨hj7, h⟩ := chk_eq h
        obtain ⟨u8, hu8, h⟩ := bind_eq h
        refine sv rfl (opv_ixar ai83 rfl rfl hj7) ?_
        refine sstar (f := eU32) (u' := b6) 0 sz62 (fun _ => rfl) rfl rfl rfl rfl rfl (idx_eq hu8).2 (Nat.le_of_ble_eq_true rfl) rfl ?_
        refine smem [.box ((List.replicate 256 0#32).flatMap eU32), .box ((s5.2.set s5.1.toNat b6).flatMap eU32)] rfl ?_
        refine snil0 ?_
        refine block_normal ?_
        refine then_normal ?_
        refine cregion ?_
        refine sv rfl (opv_add rfl rfl) ?_
        refine sv rfl (opv_mv rfl) ?_
        refine snil ?_
        obtain rfl := Option.some.inj h
        exact ⟨(n5, ((wI (s5.1 + 1)), (s5.2.set s5.1.toNat b6))), _, hk5, ⟨rfl, rfl, rfl, trivial⟩, rfl, Nat.lt_succ_self _⟩
      · skip
        refine cblock ?_
        obtain ⟨x9, hx9, ho9⟩ := bind_eq h
        refine awc_loop (G := Nat × ((BitVec 32) × Int)) (fun g => [(0, .s (.one (.lp 0 0))), (1, .s (.one (.lp 1 0))), (2, .s (.one (.i .i64 s5.1))), (3, .s (.one (.i .u32 (g.2.1.toNat : Int)))), (4, .s (.one (.i .i64 s5.1))), (9, .s (.one (.i .i64 g.2.2)))]) (fun g => [.box ((List.replicate 256 0#32).flatMap eU32), .box (s5.2.flatMap eU32)]) (fun g => iterB m51_crc_Table_s9 g.1 g.2 = some x9) (fun g => g.1) (fuel, ((BitVec.ofInt 32 s5.1), 0)) hx9 ⟨rfl, rfl, rfl, rfl, rfl, rfl, trivial⟩ [] rfl (fun _ _ => inbL_of rfl) (fun _ _ => blkinb_of (by simp only [List.all_cons, List.all_nil, Blk.inbB, Lf.inbB, Lf.inb0, Bool.and_true, Bool.and_self, Bool.true_and, flat_inb (f := eU32) (fun _ _ => rfl)] <;> rfl)) (fun _ _ => Nat.le_of_ble_eq_true rfl) ?_
        clear hx9 h
        rintro ⟨n9, s9⟩ h
        obtain ⟨n9, y9, rfl, h, hk9⟩ := iterB_eq h
        unfold m51_crc_Table_s9 at h
        refine cseq ?_
        refine cregion ?_
        refine sv rfl (opv_lss rfl rfl) ?_
        refine snil ?_
        refine cseq ?_
        refine ccond rfl (fun hc => ?_) (fun hc => ?_)
        · replace h := ite_t hc h
          clear hc
          refine cskip ?_
          refine then_normal ?_
          refine cseq ?_
          refine cblock ?_
          refine cregion ?_
          refine sv rfl (opv_mv rfl) ?_
          obtain ⟨v10, hv10, h⟩ := bind_eq h
          refine scall1 rfl fn52 (opnds_cons rfl opnds_nil) (pubA_id rfl) (m52_crc_step_c hv10) ?_
          refine sv rfl (opv_as rfl) ?_
          refine snil0 ?_
          refine block_normal ?_
          refine then_normal ?_
          refine cregion ?_
          refine sv rfl (opv_add rfl rfl) ?_
          refine sv rfl (opv_mv rfl) ?_
          refine snil ?_
          obtain rfl := Option.some.inj h
          exact ⟨(n9, (v10, (wI (s9.2 + 1)))), _, hk9, ⟨rfl, rfl, rfl, rfl, rfl, rfl, trivial⟩, rfl, Nat.lt_succ_self _⟩
        · replace h := ite_f hc h
          clear hc
          refine cexit ?_
          refine then_exit ?_
          refine then_exit ?_
          refine block_hit ?_
          refine then_normal ?_
          obtain rfl := Option.some.inj h
          obtain rfl : _ = x9 := hk9
          exact ⟨s9.1, _, ho9, ⟨rfl, rfl, rfl, rfl, rfl, trivial⟩, rfl⟩
    · replace h := ite_f hc h
      clear hc
      refine cexit ?_
      refine then_exit ?_
      refine then_exit ?_
      refine block_hit ?_
      refine then_normal ?_
      obtain rfl := Option.some.inj h
      obtain rfl : _ = x5 := hk5
      exact ⟨s5.2, _, ho5, ⟨rfl, rfl, trivial⟩, rfl⟩

def m48_crc_More_k4 (b4 : (BitVec 32)) : Option (BitVec 32) :=
  some (~~~b4)

def m48_crc_More_s5 (a1 : List UInt8) (v1 : (List (BitVec 32))) (s5 : (BitVec 32) × Int) : Option (LB ((BitVec 32) × Int) ((BitVec 32))) :=
  if (decide (s5.2 < (a1.length : Int))) then ((idx a1 s5.2).bind fun u6 => if 0 ≤ (((s5.1.setWidth 8) ^^^ u6.toBitVec).toNat : Int) ∧ (((s5.1.setWidth 8) ^^^ u6.toBitVec).toNat : Int) < ((256 : Nat) : Int) then ((idx v1 (((s5.1.setWidth 8) ^^^ u6.toBitVec).toNat : Int)).bind fun u8 => some (.cont (((s5.1 >>> (8 : Int).toNat) ^^^ u8), (wI (s5.2 + 1))))) else none) else (some (.brk s5.1))
def m48_crc_More (a0 : BitVec 32) (a1 : List UInt8) : Option (BitVec 32) :=
  (m51_crc_Table).bind fun v1 => if (List.replicate 256 0#32).length = 256 then (if v1.length = 256 then ((iterB (m48_crc_More_s5 a1 v1) fuel ((~~~a0), 0)).bind fun e9 => m48_crc_More_k4 e9) else none) else none

set_option maxRecDepth 100000 in
theorem m48_crc_More_c {a0 : BitVec 32} {a1 : List UInt8} {r : (BitVec 32)} (h : m48_crc_More a0 a1 = some r) : CallsA Try.prog 48 [.one (.i .u32 (a0.toNat : Int)), .one (.sl a1.length (a1.flatMap eU8))] (· = .s (.one (.i .u32 (r.toNat : Int)))) := by
  unfold m48_crc_More at h
  refine callsA_of Try.func48 rfl (nt := 29) rfl (Nat.le_of_ble_eq_true rfl) ?_
  intro w0 S0
  refine cseq ?_
  refine cregion ?_
  refine sv rfl (opv_as rfl) ?_
  refine snil ?_
  refine cseq ?_
  refine cregion ?_
  obtain ⟨v1, hv1, h⟩ := bind_eq h
  refine scall1 rfl fn51 opnds_nil (pubA_id rfl) (m51_crc_Table_c hv1) ?_
  refine salloc rfl zi83 ?_
  obtain ⟨hl2, h⟩ := chk_eq h
  obtain ⟨hl3, h⟩ := chk_eq h
  refine sstall (f := eU32) (n := 256) sz83 (fun _ => rfl) rfl rfl rfl rfl hl2 hl3 ?_
  refine smem [.box (v1.flatMap eU32)] rfl ?_
  refine snil ?_
  refine cseq ?_
  refine cregion ?_
  refine sv rfl (opv_mv rfl) ?_
  refine sv rfl (opv_compl_u32 (a := a0) rfl rfl) ?_
  refine sv rfl (opv_as rfl) ?_
  refine snil ?_
  refine cseq ?_
  refine cseq ?_
  refine cregion ?_
  refine sv rfl (opv_mv rfl) ?_
  refine sv rfl (opv_len_sl si22 rfl) ?_
  refine sv rfl (opv_mv rfl) ?_
  refine snil ?_
  refine cjoin ((BitVec 32)) (fun b4 => [(0, .s (.one (.i .u32 (b4.toNat : Int))))]) (fun b4 => [.box (v1.flatMap eU32)]) (fun b4 => m48_crc_More_k4 b4 = some r) (fun _ _ => inbL_of rfl) (fun _ _ => blkinb_of (by simp only [List.all_cons, List.all_nil, Blk.inbB, Lf.inbB, Lf.inb0, Bool.and_true, Bool.and_self, Bool.true_and, flat_inb (f := eU32) (fun _ _ => rfl)] <;> rfl)) (fun _ _ => Nat.le_of_ble_eq_true rfl) (fun b4 h => ?_) ?_
  · unfold m48_crc_More_k4 at h
    refine cseq ?_
    refine cregion ?_
    refine sv rfl (opv_mv rfl) ?_
    refine sv rfl (opv_compl_u32 (a := b4) rfl rfl) ?_
    refine sv rfl (opv_as rfl) ?_
    refine snil ?_
    refine cret ?_
    obtain rfl := Option.some.inj h
    refine ⟨Or.inr rfl, _, _, _, (resVs_cons (ResV.tmp _ _ rfl) resVs_nil), (pubA_id rfl), ?_⟩
    rfl
  · skip
    refine cblock ?_
    obtain ⟨x5, hx5, ho5⟩ := bind_eq h
    refine awc_loop (G := Nat × ((BitVec 32) × Int)) (fun g => [(0, .s (.one (.i .u32 (g.2.1.toNat : Int)))), (5, .s (.one (.lp 0 0))), (11, .s (.one (.sl a1.length (a1.flatMap eU8)))), (12, .s (.one (.i .i64 (a1.length : Int)))), (13, .s (.one (.i .i64 g.2.2)))]) (fun g => [.box (v1.flatMap eU32)]) (fun g => iterB (m48_crc_More_s5 a1 v1) g.1 g.2 = some x5) (fun g => g.1) (fuel, ((~~~a0), 0)) hx5 ⟨rfl, rfl, rfl, rfl, rfl, trivial⟩ [] rfl (fun _ _ => inbL_of rfl) (fun _ _ => blkinb_of (by simp only [List.all_cons, List.all_nil, Blk.inbB, Lf.inbB, Lf.inb0, Bool.and_true, Bool.and_self, Bool.true_and, flat_inb (f := eU32) (fun _ _ => rfl)] <;> rfl)) (fun _ _ => Nat.le_of_ble_eq_true rfl) ?_
    clear hx5 h
    rintro ⟨n5, s5⟩ h
    obtain ⟨n5, y5, rfl, h, hk5⟩ := iterB_eq h
    unfold m48_crc_More_s5 at h
    refine cseq ?_
    refine cregion ?_
    refine sv rfl (opv_lss rfl rfl) ?_
    refine snil ?_
    refine cseq ?_
    refine ccond rfl (fun hc => ?_) (fun hc => ?_)
    · replace h := ite_t hc h
      clear hc
      refine cskip ?_
      refine then_normal ?_
      refine cseq ?_
      refine cblock ?_
      refine cseq ?_
      refine cregion ?_
      obtain ⟨u6, hu6, h⟩ := bind_eq h
      refine sv rfl (opv_ix (f := eU8) si22 (fun _ => rfl) rfl rfl rfl rfl hu6) ?_
      refine sv rfl (opv_load1 ti5 rfl (.cp _) rfl) ?_
      refine sv rfl (opv_as rfl) ?_
      refine snil ?_
      refine cregion ?_
      refine sv rfl (opv_mv rfl) ?_
      refine sv rfl (opv_shr_u32 (a := s5.1) rfl rfl rfl (by decide)) ?_
      refine sv rfl (opv_mv rfl) ?_
      refine sv rfl (opv_conv_bv (k := .u32) (a := s5.1) rfl Try.underlying62 Try.underlying5 rfl rfl) ?_
      refine sv rfl (opv_mv rfl) ?_
      refine sv rfl (opv_xor_u8 (a := (s5.1.setWidth 8)) (b := u6.toBitVec) rfl rfl rfl rfl) ?_
      obtain ⟨hj7, h⟩ := chk_eq h
      obtain ⟨u8, hu8, h⟩ := bind_eq h
      refine sv rfl (opv_ixar ai83 rfl rfl hj7) ?_
      refine sv rfl (opv_ldar (f := eU32) 0 ti62 (fun _ => rfl) rfl rfl rfl (idx_eq hu8).2 rfl) ?_
      refine sv rfl (opv_xor_u32 (a := (s5.1 >>> (8 : Int).toNat)) (b := u8) rfl rfl rfl rfl) ?_
      refine sv rfl (opv_as rfl) ?_
      refine snil0 ?_
      refine block_normal ?_
      refine then_normal ?_
      refine cregion ?_
      refine sv rfl (opv_add rfl rfl) ?_
      refine sv rfl (opv_mv rfl) ?_
      refine snil ?_
      obtain rfl := Option.some.inj h
      exact ⟨(n5, (((s5.1 >>> (8 : Int).toNat) ^^^ u8), (wI (s5.2 + 1)))), _, hk5, ⟨rfl, rfl, rfl, rfl, rfl, trivial⟩, rfl, Nat.lt_succ_self _⟩
    · replace h := ite_f hc h
      clear hc
      refine cexit ?_
      refine then_exit ?_
      refine then_exit ?_
      refine block_hit ?_
      refine then_normal ?_
      obtain rfl := Option.some.inj h
      obtain rfl : _ = x5 := hk5
      exact ⟨s5.1, _, ho5, ⟨rfl, trivial⟩, rfl⟩

def m49_crc_Of (a0 : List UInt8) : Option (BitVec 32) :=
  (m48_crc_More (0#32) a0).bind fun v1 => some v1

set_option maxRecDepth 100000 in
theorem m49_crc_Of_c {a0 : List UInt8} {r : (BitVec 32)} (h : m49_crc_Of a0 = some r) : CallsA Try.prog 49 [.one (.sl a0.length (a0.flatMap eU8))] (· = .s (.one (.i .u32 (r.toNat : Int)))) := by
  unfold m49_crc_Of at h
  refine callsA_of Try.func49 rfl (nt := 5) rfl (Nat.le_of_ble_eq_true rfl) ?_
  intro w0 S0
  refine cseq ?_
  refine cregion ?_
  refine sv rfl (opv_as rfl) ?_
  refine snil ?_
  refine cseq ?_
  refine cregion ?_
  refine sv rfl (opv_mv rfl) ?_
  obtain ⟨v1, hv1, h⟩ := bind_eq h
  refine scall1 rfl fn48 (opnds_cons rfl (opnds_cons rfl opnds_nil)) (pubA_id rfl) (m48_crc_More_c hv1) ?_
  refine sv rfl (opv_as rfl) ?_
  refine snil ?_
  refine cret ?_
  obtain rfl := Option.some.inj h
  refine ⟨Or.inr rfl, _, _, _, (resVs_cons (ResV.tmp _ _ rfl) resVs_nil), (pubA_id rfl), ?_⟩
  rfl

def m43_frame_sumOf (a0 : List UInt8) : Option (BitVec 32) :=
  (m34_enc_U ([] : List UInt8) (BitVec.ofInt 64 (a0.length : Int)) 2).bind fun v1 => (m49_crc_Of v1).bind fun v2 => (m48_crc_More v2 a0).bind fun v3 => some v3

set_option maxRecDepth 100000 in
theorem m43_frame_sumOf_c {a0 : List UInt8} {r : (BitVec 32)} (h : m43_frame_sumOf a0 = some r) : CallsA Try.prog 43 [.one (.sl a0.length (a0.flatMap eU8))] (· = .s (.one (.i .u32 (r.toNat : Int)))) := by
  unfold m43_frame_sumOf at h
  refine callsA_of Try.func43 rfl (nt := 12) rfl (Nat.le_of_ble_eq_true rfl) ?_
  intro w0 S0
  refine cseq ?_
  refine cregion ?_
  refine sv rfl (opv_as rfl) ?_
  refine snil ?_
  refine cseq ?_
  refine cregion ?_
  refine sv rfl (opv_mv rfl) ?_
  refine sv rfl (opv_len_sl si22 rfl) ?_
  refine sv rfl (opv_conv_ibv rfl Try.underlying3 Try.underlying58 rfl) ?_
  obtain ⟨v1, hv1, h⟩ := bind_eq h
  refine scall1 rfl fn34 (opnds_cons rfl (opnds_cons rfl (opnds_cons rfl opnds_nil))) (pubC rfl) (m34_enc_U_c hv1) ?_
  refine sv rfl (opv_as rfl) ?_
  refine snil ?_
  refine cseq ?_
  refine cregion ?_
  refine sv rfl (opv_mv rfl) ?_
  obtain ⟨v2, hv2, h⟩ := bind_eq h
  refine scall1 rfl fn49 (opnds_cons rfl opnds_nil) (pubA_id rfl) (m49_crc_Of_c hv2) ?_
  refine sv rfl (opv_mv rfl) ?_
  obtain ⟨v3, hv3, h⟩ := bind_eq h
  refine scall1 rfl fn48 (opnds_cons rfl (opnds_cons rfl opnds_nil)) (pubA_id rfl) (m48_crc_More_c hv3) ?_
  refine sv rfl (opv_as rfl) ?_
  refine snil ?_
  refine cret ?_
  obtain rfl := Option.some.inj h
  refine ⟨Or.inr rfl, _, _, _, (resVs_cons (ResV.tmp _ _ rfl) resVs_nil), (pubA_id rfl), ?_⟩
  rfl

def m33_frame_wrap (a0 : List UInt8) : Option GFrameWhole :=
  (m43_frame_sumOf a0).bind fun v1 => some (GFrameWhole.mk (GFrameHead.mk (a0.length : Int) v1) a0)

set_option maxRecDepth 100000 in
theorem m33_frame_wrap_c {a0 : List UInt8} {r : GFrameWhole} (h : m33_frame_wrap a0 = some r) : CallsA Try.prog 33 [.one (.sl a0.length (a0.flatMap eU8))] (· = .s (.agg [.i .i64 r.head_.size_, .i .u32 (r.head_.sum_.toNat : Int), .sl r.payload_.length (r.payload_.flatMap eU8)])) := by
  unfold m33_frame_wrap at h
  refine callsA_of Try.func33 rfl (nt := 10) rfl (Nat.le_of_ble_eq_true rfl) ?_
  intro w0 S0
  refine cseq ?_
  refine cregion ?_
  refine salloc rfl zi66 ?_
  refine snil ?_
  refine cseq ?_
  refine cregion ?_
  refine sv rfl (opv_mv rfl) ?_
  refine sv rfl (opv_len_sl si22 rfl) ?_
  refine sv rfl (opv_mv rfl) ?_
  obtain ⟨v1, hv1, h⟩ := bind_eq h
  refine scall1 rfl fn43 (opnds_cons rfl opnds_nil) (pubA_id rfl) (m43_frame_sumOf_c hv1) ?_
  refine sv rfl (opv_build zi64 pi64 (parts_cons rfl (parts_cons rfl parts_nil)) (.cons _ _ _ _ _ _ _ rfl rfl (Nat.le_of_ble_eq_true rfl) (.cons _ _ _ _ _ _ _ rfl rfl (Nat.le_of_ble_eq_true rfl) (.nil _)))) ?_
  refine sv rfl (opv_mv rfl) ?_
  refine sv rfl (opv_build zi66 pi66 (parts_cons rfl (parts_cons rfl parts_nil)) (.cons _ _ _ _ _ _ _ rfl rfl (Nat.le_of_ble_eq_true rfl) (.cons _ _ _ _ _ _ _ rfl rfl (Nat.le_of_ble_eq_true rfl) (.nil _)))) ?_
  refine sstore sz66 rfl rfl rfl rfl (Nat.le_of_ble_eq_true rfl) ?_
  refine smem [.box [.i .i64 (a0.length : Int), .i .u32 (v1.toNat : Int), .sl a0.length (a0.flatMap eU8)]] rfl ?_
  refine snil ?_
  refine cret ?_
  obtain rfl := Option.some.inj h
  refine ⟨Or.inr rfl, _, _, _, (resVs_cons (ResV.agg _ _ _ _ _ ti66 rfl (.lp _ _ _ rfl) (Nat.le_of_ble_eq_true rfl)) resVs_nil), (pubA_id rfl), ?_⟩
  rfl

def m23_frame_Put (a0 : List UInt8) (a1 : List UInt8) : Option ((List UInt8) × Int) :=
  if (decide (512 < (a1.length : Int))) then (some (([] : List UInt8), 5)) else ((m33_frame_wrap a1).bind fun v1 => (m34_enc_U ([] : List UInt8) (BitVec.ofInt 64 v1.head_.size_) 2).bind fun v2 => (m34_enc_U v2 (v1.head_.sum_.setWidth 64) 4).bind fun v3 => (m25_slices_Concato [a0, v3, v1.payload_]).bind fun v4 => some (v4, 0))

set_option maxRecDepth 100000 in
theorem m23_frame_Put_c {a0 : List UInt8} {a1 : List UInt8} {r : (List UInt8) × Int} (h : m23_frame_Put a0 a1 = some r) : CallsA Try.prog 23 [.one (.sl a0.length (a0.flatMap eU8)), .one (.sl a1.length (a1.flatMap eU8))] (· = .tup [.one (.sl r.1.length (r.1.flatMap eU8)), .one (.i .i64 r.2)]) := by
  unfold m23_frame_Put at h
  refine callsA_of Try.func23 rfl (nt := 30) rfl (Nat.le_of_ble_eq_true rfl) ?_
  intro w0 S0
  refine cseq ?_
  refine cregion ?_
  refine sv rfl (opv_as rfl) ?_
  refine sv rfl (opv_as rfl) ?_
  refine snil ?_
  refine cseq ?_
  refine cseq ?_
  refine cregion ?_
  refine sv rfl (opv_mv rfl) ?_
  refine sv rfl (opv_len_sl si22 rfl) ?_
  refine sv rfl (opv_gtr rfl rfl) ?_
  refine snil ?_
  refine ccond rfl (fun hc => ?_) (fun hc => ?_)
  · replace h := ite_t hc h
    clear hc
    refine cseq ?_
    refine cregion ?_
    refine sv rfl (opv_as rfl) ?_
    refine sv rfl (opv_as rfl) ?_
    refine snil ?_
    refine cret ?_
    refine then_ret ?_
    obtain rfl := Option.some.inj h
    refine ⟨Or.inr rfl, _, _, _, (resVs_cons (ResV.tmp _ _ rfl) (resVs_cons (ResV.tmp _ _ rfl) resVs_nil)), (pubC rfl), ?_⟩
    rfl
  · replace h := ite_f hc h
    clear hc
    refine cskip ?_
    refine then_normal ?_
    refine cseq ?_
    refine cregion ?_
    refine sv rfl (opv_mv rfl) ?_
    obtain ⟨v1, hv1, h⟩ := bind_eq h
    refine scall1 rfl fn33 (opnds_cons rfl opnds_nil) (pubA_id rfl) (m33_frame_wrap_c hv1) ?_
    refine salloc rfl zi66 ?_
    refine sstore sz66 rfl rfl rfl rfl (Nat.le_of_ble_eq_true rfl) ?_
    refine smem [.box [.i .i64 v1.head_.size_, .i .u32 (v1.head_.sum_.toNat : Int), .sl v1.payload_.length (v1.payload_.flatMap eU8)]] rfl ?_
    refine snil ?_
    refine cseq ?_
    refine cregion ?_
    refine sv rfl (opv_fieldAddr_lp fi66_0 rfl) ?_
    refine sv rfl (opv_fieldAddr_lp fi64_0 rfl) ?_
    refine sv rfl (opv_load1 ti3 rfl (.lp _ _ _ rfl) rfl) ?_
    refine sv rfl (opv_conv_ibv rfl Try.underlying3 Try.underlying58 rfl) ?_
    obtain ⟨v2, hv2, h⟩ := bind_eq h
    refine scall1 rfl fn34 (opnds_cons rfl (opnds_cons rfl (opnds_cons rfl opnds_nil))) (pubC rfl) (m34_enc_U_c hv2) ?_
    refine sv rfl (opv_as rfl) ?_
    refine snil ?_
    refine cseq ?_
    refine cregion ?_
    refine sv rfl (opv_mv rfl) ?_
    refine sv rfl (opv_fieldAddr_lp fi66_0 rfl) ?_
    refine sv rfl (opv_fieldAddr_lp fi64_1 rfl) ?_
    refine sv rfl (opv_load1 ti62 rfl (.lp _ _ _ rfl) rfl) ?_
    refine sv rfl (opv_conv_bv (k := .u32) (a := v1.head_.sum_) rfl Try.underlying62 Try.underlying58 rfl rfl) ?_
    obtain ⟨v3, hv3, h⟩ := bind_eq h
    refine scall1 rfl fn34 (opnds_cons rfl (opnds_cons rfl (opnds_cons rfl opnds_nil))) (pubA_id rfl) (m34_enc_U_c hv3) ?_
    refine sv rfl (opv_as rfl) ?_
    refine snil ?_
    refine cseq ?_
    refine cregion ?_
    refine sv rfl (opv_mv rfl) ?_
    refine sv rfl (opv_mv rfl) ?_
    refine sv rfl (opv_fieldAddr_lp fi66_1 rfl) ?_
    refine sv rfl (opv_load1 ti22 rfl (.lp _ _ _ rfl) rfl) ?_
    refine sbuildN (out := ([a0, v3, v1.payload_] : List (List UInt8)).flatMap (eL eU8)) rfl Try.underlying28 ei22 (parts_cons rfl (parts_cons rfl (parts_cons rfl parts_nil))) (.cons _ _ _ _ _ _ _ rfl rfl (Nat.le_of_ble_eq_true rfl) (.cons _ _ _ _ _ _ _ rfl rfl (Nat.le_of_ble_eq_true rfl) (.cons _ _ _ _ _ _ _ rfl rfl (Nat.le_of_ble_eq_true rfl) (.nil _)))) rfl (by decide) ?_
    refine spub 28 rfl (by (repeat' first | exact PubA.nil _ | apply PubA.cons | apply PubV.one | apply PubV.agg | exact PubL.nil | exact PubL.ls _ _ _ _ _ _ rfl (flat_len (f := (eL eU8)) (fun _ => rfl) ([a0, v3, v1.payload_] : List (List UInt8))).symm | exact PubL.ls _ _ _ _ _ _ rfl (flat_len (f := (eL eU8)) (fun _ => rfl) _).symm | exact PubL.id _ rfl | exact PubLs.nil _ | apply PubLs.cons)) ?_
    obtain ⟨v4, hv4, h⟩ := bind_eq h
    refine scallB (x' := .s (.one (.ls 2 v4.length))) (M' := [.box [.i .i64 v1.head_.size_, .i .u32 (v1.head_.sum_.toNat : Int), .sl v1.payload_.length (v1.payload_.flatMap eU8)], .arr 22 1 ([a0, v3, v1.payload_].flatMap (eL eU8)).length ([a0, v3, v1.payload_].flatMap (eL eU8)), .arr 5 1 0 (v4.flatMap eU8)]) [] rfl fn25 (.func _) (opnds_cons rfl opnds_nil) (m25_slices_Concato_c hv4) rfl rfl (by decide) rfl rfl rfl ?_
    refine sv rfl (opv_as rfl) ?_
    refine sv rfl (opv_as rfl) ?_
    refine snil ?_
    refine cret ?_
    obtain rfl := Option.some.inj h
    refine ⟨Or.inr rfl, _, _, _, (resVs_cons (ResV.tmp _ _ rfl) (resVs_cons (ResV.tmp _ _ rfl) resVs_nil)), (by (repeat' first | exact PubA.nil _ | apply PubA.cons | apply PubV.one | apply PubV.agg | exact PubL.nil | exact PubL.ls _ _ _ _ _ _ rfl (flat_len (f := (eL eU8)) (fun _ => rfl) _).symm | exact PubL.ls _ _ _ _ _ _ rfl (flat_len (f := eU8) (fun _ => rfl) _).symm | exact PubL.id _ rfl | exact PubLs.nil _ | apply PubLs.cons)), ?_⟩
    rfl

def m27_stream_deadly (a0 : Int) : Option Bool :=
  if (decide (a0 = 4)) then (some true) else (some (decide (a0 = 5)))

set_option maxRecDepth 100000 in
theorem m27_stream_deadly_c {a0 : Int} {r : Bool} (h : m27_stream_deadly a0 = some r) : CallsA Try.prog 27 [.one (.i .i64 a0)] (· = .s (.one (.b r))) := by
  unfold m27_stream_deadly at h
  refine callsA_of Try.func27 rfl (nt := 9) rfl (Nat.le_of_ble_eq_true rfl) ?_
  intro w0 S0
  refine cseq ?_
  refine cregion ?_
  refine sv rfl (opv_as rfl) ?_
  refine snil ?_
  refine cseq ?_
  refine cregion ?_
  refine sv rfl (opv_mv rfl) ?_
  refine sv rfl (opv_ieql rfl rfl) ?_
  refine sv rfl (opv_mv rfl) ?_
  refine ssplit 5 rfl (fun hc => ?_) (fun hc => ?_)
  · replace h := ite_t hc h
    clear hc
    refine soff rfl rfl rfl rfl ?_
    refine soff rfl rfl rfl rfl ?_
    refine sv rfl (opv_pick_t rfl rfl) ?_
    refine sv rfl (opv_as rfl) ?_
    refine snil ?_
    refine cret ?_
    obtain rfl := Option.some.inj h
    refine ⟨Or.inr rfl, _, _, _, (resVs_cons (ResV.tmp _ _ rfl) resVs_nil), (pubA_id rfl), ?_⟩
    rfl
  · replace h := ite_f hc h
    clear hc
    refine son rfl rfl rfl ?_
    refine sv rfl (opv_mv rfl) ?_
    refine son rfl rfl rfl ?_
    refine sv rfl (opv_ieql rfl rfl) ?_
    refine sv rfl (opv_pick_f rfl rfl) ?_
    refine sv rfl (opv_as rfl) ?_
    refine snil ?_
    refine cret ?_
    obtain rfl := Option.some.inj h
    refine ⟨Or.inr rfl, _, _, _, (resVs_cons (ResV.tmp _ _ rfl) resVs_nil), (pubA_id rfl), ?_⟩
    rfl

def m31_enc_News (a0 : List UInt8) : Option (Int × Int × (List UInt8)) :=
  some (0, 0, a0)

set_option maxRecDepth 100000 in
theorem m31_enc_News_c {a0 : List UInt8} {r : Int × Int × (List UInt8)} (h : m31_enc_News a0 = some r) : CallsB Try.prog 31 [] [.one (.sl a0.length (a0.flatMap eU8))] (fun y m' => y = .s (.one (.lp 0 0)) ∧ m' = [.box [.fn 39 [] [.lp 1 0, .lp 2 0], .i .i64 r.1], .box [.i .i64 r.2.1], .box [.sl r.2.2.length (r.2.2.flatMap eU8)]]) := by
  unfold m31_enc_News at h
  refine callsB_of Try.func31 rfl (nt := 7) rfl (Nat.le_of_ble_eq_true rfl) ?_
  intro w0 S0 X0 H0
  refine cseq ?_
  refine cregion ?_
  refine sbox rfl rfl ?_
  refine sv rfl (opv_as rfl) ?_
  refine snil ?_
  refine cseq ?_
  refine cregion ?_
  refine salloc rfl zi3 ?_
  refine sstore sz3 rfl rfl rfl rfl (Nat.le_of_ble_eq_true rfl) ?_
  refine smem [.box [.sl a0.length (a0.flatMap eU8)], .box [.i .i64 0]] rfl ?_
  refine snil ?_
  refine cseq ?_
  refine cregion ?_
  refine sv rfl (opv_makeFunc opnds1_nil (opnds1_cons rfl rfl (opnds1_cons rfl rfl opnds1_nil))) ?_
  refine sv rfl (opv_build zi74 pi74 (parts_cons rfl parts_nil) (.cons _ _ _ _ _ _ _ rfl rfl (Nat.le_of_ble_eq_true rfl) (.nil _))) ?_
  refine sbox rfl rfl ?_
  refine sv rfl (opv_as rfl) ?_
  refine snil ?_
  refine cret ?_
  obtain rfl := Option.some.inj h
  exact ⟨Or.inr rfl, _, [2, 1, 0], [.one (.lp 0 0)], [.box [.fn 39 [] [.lp 1 0, .lp 2 0], .i .i64 0], .box [.i .i64 0], .box [.sl a0.length (a0.flatMap eU8)]], (resVs_cons (ResV.tmp _ _ rfl) resVs_nil), rfl, rfl, ⟨by decide, rfl⟩, rfl, rfl, ⟨rfl, rfl⟩⟩

def m40_enc_Reader_Errs (a0 : Int) (a1 : Int) (a2 : List UInt8) : Option Int :=
  some a0

set_option maxRecDepth 100000 in
theorem m40_enc_Reader_Errs_c {a0 : Int} {a1 : Int} {a2 : List UInt8} {r : Int} (h : m40_enc_Reader_Errs a0 a1 a2 = some r) : CallsB Try.prog 40 [.box [.fn 39 [] [.lp 1 0, .lp 2 0], .i .i64 a0], .box [.i .i64 a1], .box [.sl a2.length (a2.flatMap eU8)]] [.one (.lp 0 0)] (fun y m' => y = .s (.one (.i .i64 r)) ∧ m' = [.box [.fn 39 [] [.lp 1 0, .lp 2 0], .i .i64 a0], .box [.i .i64 a1], .box [.sl a2.length (a2.flatMap eU8)]]) := by
  unfold m40_enc_Reader_Errs at h
  refine callsB_of Try.func40 rfl (nt := 9) rfl (Nat.le_of_ble_eq_true rfl) ?_
  intro w0 S0 X0 H0
  refine cseq ?_
  refine cregion ?_
  refine sv rfl (opv_as rfl) ?_
  refine snil ?_
  refine cseq ?_
  refine cseq ?_
  refine cregion ?_
  refine sv rfl (opv_mv rfl) ?_
  refine sv rfl (opv_pnil_eql Try.underlying59 rfl) ?_
  refine snil ?_
  refine ccond rfl (fun hx => Bool.noConfusion hx) (fun _ => ?_)
  refine cskip ?_
  refine then_normal ?_
  refine cseq ?_
  refine cregion ?_
  refine sv rfl (opv_mv rfl) ?_
  refine sv rfl (opv_nilCheck rfl rfl (fun _ _ _ h => by cases h)) ?_
  refine sv rfl (opv_fieldAddr_lp fi74_1 rfl) ?_
  refine sv rfl (opv_load1 ti23 rfl (.lp _ _ _ rfl) rfl) ?_
  refine sv rfl (opv_as rfl) ?_
  refine snil ?_
  refine cret ?_
  obtain rfl := Option.some.inj h
  exact ⟨Or.inr rfl, _, [0, 1, 2], [.one (.i .i64 a0)], [.box [.fn 39 [] [.lp 1 0, .lp 2 0], .i .i64 a0], .box [.i .i64 a1], .box [.sl a2.length (a2.flatMap eU8)]], (resVs_cons (ResV.tmp _ _ rfl) resVs_nil), rfl, rfl, ⟨by decide, rfl⟩, rfl, rfl, ⟨rfl, rfl⟩⟩

def m41_enc_Reader_Fails (a0 : Int) (a1 : Int) (a2 : Int) (a3 : List UInt8) : Option Int :=
  if (decide (a1 = 0)) then (some a0) else (some a1)

set_option maxRecDepth 100000 in
theorem m41_enc_Reader_Fails_c {a0 : Int} {a1 : Int} {a2 : Int} {a3 : List UInt8} {r : Int} (h : m41_enc_Reader_Fails a0 a1 a2 a3 = some r) : CallsB Try.prog 41 [.box [.fn 39 [] [.lp 1 0, .lp 2 0], .i .i64 a1], .box [.i .i64 a2], .box [.sl a3.length (a3.flatMap eU8)]] [.one (.lp 0 0), .one (.i .i64 a0)] (fun y m' => y = .tup [] ∧ m' = [.box [.fn 39 [] [.lp 1 0, .lp 2 0], .i .i64 r], .box [.i .i64 a2], .box [.sl a3.length (a3.flatMap eU8)]]) := by
  unfold m41_enc_Reader_Fails at h
  refine callsB_of Try.func41 rfl (nt := 17) rfl (Nat.le_of_ble_eq_true rfl) ?_
  intro w0 S0 X0 H0
  refine cseq ?_
  refine cregion ?_
  refine sv rfl (opv_mv rfl) ?_
  refine sv rfl (opv_pnil_neq Try.underlying59 rfl) ?_
  refine sv rfl (opv_mv rfl) ?_
  refine son rfl rfl rfl ?_
  refine sv rfl (opv_mv rfl) ?_
  refine son rfl rfl rfl ?_
  refine sv rfl (opv_nilCheck rfl rfl (fun _ _ _ h => by cases h)) ?_
  refine son rfl rfl rfl ?_
  refine sv rfl (opv_fieldAddr_lp fi74_1 rfl) ?_
  refine son rfl rfl rfl ?_
  refine sv rfl (opv_load1 ti23 rfl (.lp _ _ _ rfl) rfl) ?_
  refine son rfl rfl rfl ?_
  refine sv rfl (opv_ieql rfl rfl) ?_
  refine sv rfl (opv_pick_t rfl rfl) ?_
  refine snil ?_
  refine ccond rfl (fun hc => ?_) (fun hc => ?_)
  · replace h := ite_t hc h
    clear hc
    refine cregion ?_
    refine sv rfl (opv_mv rfl) ?_
    refine sv rfl (opv_mv rfl) ?_
    refine sv rfl (opv_nilCheck rfl rfl (fun _ _ _ h => by cases h)) ?_
    refine sv rfl (opv_fieldAddr_lp fi74_1 rfl) ?_
    refine sstore sz23 rfl rfl rfl rfl (Nat.le_of_ble_eq_true rfl) ?_
    refine smem [.box [.fn 39 [] [.lp 1 0, .lp 2 0], .i .i64 a0], .box [.i .i64 a2], .box [.sl a3.length (a3.flatMap eU8)]] rfl ?_
    refine snil0 ?_
    obtain rfl := Option.some.inj h
    exact ⟨Or.inl rfl, _, [0, 1, 2], [], [.box [.fn 39 [] [.lp 1 0, .lp 2 0], .i .i64 a0], .box [.i .i64 a2], .box [.sl a3.length (a3.flatMap eU8)]], resVs_nil, rfl, rfl, ⟨by decide, rfl⟩, rfl, rfl, ⟨rfl, rfl⟩⟩
  · replace h := ite_f hc h
    clear hc
    refine cskip ?_
    obtain rfl := Option.some.inj h
    exact ⟨Or.inl rfl, _, [0, 1, 2], [], [.box [.fn 39 [] [.lp 1 0, .lp 2 0], .i .i64 a1], .box [.i .i64 a2], .box [.sl a3.length (a3.flatMap eU8)]], resVs_nil, rfl, rfl, ⟨by decide, rfl⟩, rfl, rfl, ⟨rfl, rfl⟩⟩

def m39_enc_New_1s (a0 : Int) (a1 : Int) (a2 : List UInt8) : Option (Int × (List UInt8) × Int) :=
  (cut a2 (wI (a1 + a0)) (a2.length : Int)).bind fun c1 => some ((wI (a1 + a0)), c1, (wI (a1 + a0)))

set_option maxRecDepth 100000 in
theorem m39_enc_New_1s_c {a0 : Int} {a1 : Int} {a2 : List UInt8} {r : Int × (List UInt8) × Int} (h : m39_enc_New_1s a0 a1 a2 = some r) : CallsB Try.prog 39 [.box [.i .i64 a1], .box [.sl a2.length (a2.flatMap eU8)]] [.one (.i .i64 a0), .one (.lp 0 0), .one (.lp 1 0)] (fun y m' => y = .tup [.one (.i .i64 r.1), .one (.sl r.2.1.length (r.2.1.flatMap eU8))] ∧ m' = [.box [.i .i64 r.2.2], .box [.sl a2.length (a2.flatMap eU8)]]) := by
  unfold m39_enc_New_1s at h
  refine callsB_of Try.func39 rfl (nt := 13) rfl (Nat.le_of_ble_eq_true rfl) ?_
  intro w0 S0 X0 H0
  refine cseq ?_
  refine cregion ?_
  refine sv rfl (opv_as rfl) ?_
  refine sv rfl (opv_as rfl) ?_
  refine snil ?_
  refine cseq ?_
  refine cregion ?_
  refine sv rfl (opv_load1 ti3 rfl (.lp _ _ _ rfl) rfl) ?_
  refine sv rfl (opv_mv rfl) ?_
  refine sv rfl (opv_add rfl rfl) ?_
  refine sstore sz3 rfl rfl rfl rfl (Nat.le_of_ble_eq_true rfl) ?_
  refine smem [.box [.i .i64 (wI (a1 + a0))], .box [.sl a2.length (a2.flatMap eU8)]] rfl ?_
  refine snil ?_
  refine cseq ?_
  refine cdraw mixed (by kernel_rfl) ?_
  refine dv rfl (opv_load1 ti3 rfl (.lp _ _ _ rfl) rfl) ?_
  refine dv rfl (opv_load1 ti22 rfl (.lp _ _ _ rfl) rfl) ?_
  refine dv rfl (opv_load1 ti3 rfl (.lp _ _ _ rfl) rfl) ?_
  obtain ⟨c1, hc1, h⟩ := bind_eq h
  refine dv rfl (opv_cut (f := eU8) (lo := (wI (a1 + a0))) (hi := (a2.length : Int)) si22 (fun _ => rfl) rfl rfl rfl (bound_some rfl (cut_eq hc1).1.1) (by exact rfl) hc1) ?_
  refine dv rfl (opv_as rfl) ?_
  refine dv rfl (opv_as rfl) ?_
  refine dnil ?_
  refine then_normal ?_
  refine cret ?_
  obtain rfl := Option.some.inj h
  exact ⟨Or.inr rfl, _, [0, 1], [.one (.i .i64 (wI (a1 + a0))), .one (.sl c1.length (c1.flatMap eU8))], [.box [.i .i64 (wI (a1 + a0))], .box [.sl a2.length (a2.flatMap eU8)]], (resVs_cons (ResV.tmp _ _ rfl) (resVs_cons (ResV.tmp _ _ rfl) resVs_nil)), rfl, rfl, ⟨by decide, rfl⟩, rfl, rfl, ⟨rfl, rfl⟩⟩

def m47_enc_Reader_places_k1 (a1 : Int) (a2 : List UInt8) (b1 : Unit) : Option (Int × (List UInt8) × Int) :=
  (m39_enc_New_1s 0 a1 a2).bind fun v2 => some (v2.1, v2.2.1, v2.2.2)
def m47_enc_Reader_places (a0 : Int) (a1 : Int) (a2 : List UInt8) : Option (Int × (List UInt8) × Int) :=
  m47_enc_Reader_places_k1 a1 a2 ()

set_option maxRecDepth 100000 in
theorem m47_enc_Reader_places_c {a0 : Int} {a1 : Int} {a2 : List UInt8} {r : Int × (List UInt8) × Int} (h : m47_enc_Reader_places a0 a1 a2 = some r) : CallsB Try.prog 47 [.box [.fn 39 [] [.lp 1 0, .lp 2 0], .i .i64 a0], .box [.i .i64 a1], .box [.sl a2.length (a2.flatMap eU8)]] [.one (.lp 0 0)] (fun y m' => y = .tup [.one (.i .i64 r.1), .one (.sl r.2.1.length (r.2.1.flatMap eU8))] ∧ m' = [.box [.fn 39 [] [.lp 1 0, .lp 2 0], .i .i64 a0], .box [.i .i64 r.2.2], .box [.sl a2.length (a2.flatMap eU8)]]) := by
  unfold m47_enc_Reader_places at h
  refine callsB_of Try.func47 rfl (nt := 20) rfl (Nat.le_of_ble_eq_true rfl) ?_
  intro w0 S0 X0 H0
  refine cseq ?_
  refine cregion ?_
  refine sv rfl (opv_as rfl) ?_
  refine sv rfl (opv_as rfl) ?_
  refine snil ?_
  refine cseq ?_
  refine cseq ?_
  refine cjoin3 (Unit) (fun b1 => [(0, .s (.one (.lp 0 0)))]) (fun b1 => [.box [.fn 39 [] [.lp 1 0, .lp 2 0], .i .i64 a0], .box [.i .i64 a1], .box [.sl a2.length (a2.flatMap eU8)]]) (fun b1 => m47_enc_Reader_places_k1 a1 a2 b1 = some r) (fun _ _ => inbL_of rfl) (fun _ _ => blkinb_of rfl) (fun _ _ => Nat.le_of_ble_eq_true rfl) (fun b1 h => ?_) ?_
  · unfold m47_enc_Reader_places_k1 at h
    refine cseq ?_
    refine cregion ?_
    refine sv rfl (opv_mv rfl) ?_
    refine sv rfl (opv_nilCheck rfl rfl (fun _ _ _ h => by cases h)) ?_
    refine sv rfl (opv_fieldAddr_lp fi74_0 rfl) ?_
    refine sv rfl (opv_load1 ti72 rfl (.lp _ _ _ rfl) rfl) ?_
    obtain ⟨v2, hv2, h⟩ := bind_eq h
    refine scallB (x' := .tup [.one (.i .i64 v2.1), .one (.sl v2.2.1.length (v2.2.1.flatMap eU8))]) (M' := [.box [.fn 39 [] [.lp 1 0, .lp 2 0], .i .i64 a0], .box [.i .i64 v2.2.2], .box [.sl a2.length (a2.flatMap eU8)]]) [1, 2] rfl fn39 (.fn _ _ _ _ rfl) (opnds_cons rfl opnds_nil) (m39_enc_New_1s_c hv2) rfl rfl (by decide) rfl rfl rfl ?_
    refine sv rfl (opv_extract rfl rfl) ?_
    refine sv rfl (opv_extract rfl rfl) ?_
    refine sv rfl (opv_as rfl) ?_
    refine sv rfl (opv_as rfl) ?_
    refine snil ?_
    refine cret ?_
    obtain rfl := Option.some.inj h
    exact ⟨Or.inr rfl, _, [0, 1, 2], [.one (.i .i64 v2.1), .one (.sl v2.2.1.length (v2.2.1.flatMap eU8))], [.box [.fn 39 [] [.lp 1 0, .lp 2 0], .i .i64 a0], .box [.i .i64 v2.2.2], .box [.sl a2.length (a2.flatMap eU8)]], (resVs_cons (ResV.tmp _ _ rfl) (resVs_cons (ResV.tmp _ _ rfl) resVs_nil)), rfl, rfl, ⟨by decide, rfl⟩, rfl, rfl, ⟨rfl, rfl⟩⟩
  · skip
    refine cregion ?_
    refine sv rfl (opv_mv rfl) ?_
    refine sv rfl (opv_pnil_eql Try.underlying59 rfl) ?_
    refine sv rfl (opv_mv rfl) ?_
    refine son rfl rfl rfl ?_
    refine sv rfl (opv_mv rfl) ?_
    refine son rfl rfl rfl ?_
    refine sv rfl (opv_nilCheck rfl rfl (fun _ _ _ h => by cases h)) ?_
    refine son rfl rfl rfl ?_
    refine sv rfl (opv_fieldAddr_lp fi74_0 rfl) ?_
    refine son rfl rfl rfl ?_
    refine sv rfl (opv_load1 ti72 rfl (.lp _ _ _ rfl) rfl) ?_
    refine son rfl rfl rfl ?_
    refine sv rfl (opv_fnil_eql Try.underlying72 rfl rfl) ?_
    refine sv rfl (opv_pick_f rfl rfl) ?_
    refine snil ?_
    refine ccond rfl (fun hx => Bool.noConfusion hx) (fun _ => ?_)
    refine cskip ?_
    refine then_normal ?_
    exact ⟨(), _, h, ⟨rfl, trivial⟩, rfl⟩

def m42_enc_Reader_takes_k3 (a0 : Int) (a1 : Int) (v1 : Int × (List UInt8) × Int) (b3 : Int) : Option ((List UInt8) × Int × Int) :=
  (cut v1.2.1 0 a0).bind fun c4 => some (c4, a1, b3)
def m42_enc_Reader_takes (a0 : Int) (a1 : Int) (a2 : Int) (a3 : List UInt8) : Option ((List UInt8) × Int × Int) :=
  (m47_enc_Reader_places a1 a2 a3).bind fun v1 => if (decide ((v1.2.1.length : Int) < a0)) then ((m41_enc_Reader_Fails 2 a1 v1.2.2 a3).bind fun v2 => some (([] : List UInt8), v2, v1.2.2)) else (if (decide (0 < a0)) then ((m39_enc_New_1s a0 v1.2.2 a3).bind fun v5 => m42_enc_Reader_takes_k3 a0 a1 v1 v5.2.2) else (m42_enc_Reader_takes_k3 a0 a1 v1 v1.2.2))

set_option maxRecDepth 100000 in
theorem m42_enc_Reader_takes_c {a0 : Int} {a1 : Int} {a2 : Int} {a3 : List UInt8} {r : (List UInt8) × Int × Int} (h : m42_enc_Reader_takes a0 a1 a2 a3 = some r) : CallsB Try.prog 42 [.box [.fn 39 [] [.lp 1 0, .lp 2 0], .i .i64 a1], .box [.i .i64 a2], .box [.sl a3.length (a3.flatMap eU8)]] [.one (.lp 0 0), .one (.i .i64 a0)] (fun y m' => y = .s (.one (.sl r.1.length (r.1.flatMap eU8))) ∧ m' = [.box [.fn 39 [] [.lp 1 0, .lp 2 0], .i .i64 r.2.1], .box [.i .i64 r.2.2], .box [.sl a3.length (a3.flatMap eU8)]]) := by
  unfold m42_enc_Reader_takes at h
  refine callsB_of Try.func42 rfl (nt := 29) rfl (Nat.le_of_ble_eq_true rfl) ?_
  intro w0 S0 X0 H0
  refine cseq ?_
  refine cregion ?_
  refine sv rfl (opv_as rfl) ?_
  refine snil ?_
  refine cseq ?_
  refine cregion ?_
  refine sv rfl (opv_mv rfl) ?_
  obtain ⟨v1, hv1, h⟩ := bind_eq h
  refine scallB (x' := .tup [.one (.i .i64 v1.1), .one (.sl v1.2.1.length (v1.2.1.flatMap eU8))]) (M' := [.box [.fn 39 [] [.lp 1 0, .lp 2 0], .i .i64 a1], .box [.i .i64 v1.2.2], .box [.sl a3.length (a3.flatMap eU8)]]) [0, 1, 2] rfl fn47 (.func _) (opnds_cons rfl opnds_nil) (m47_enc_Reader_places_c hv1) rfl rfl (by decide) rfl rfl rfl ?_
  refine sv rfl (opv_mvt rfl) ?_
  refine sv rfl (opv_extract rfl rfl) ?_
  refine sv rfl (opv_extract rfl rfl) ?_
  refine sv rfl (opv_as rfl) ?_
  refine sv rfl (opv_as rfl) ?_
  refine snil ?_
  refine cseq ?_
  refine cseq ?_
  refine cregion ?_
  refine sv rfl (opv_mv rfl) ?_
  refine sv rfl (opv_len_sl si22 rfl) ?_
  refine sv rfl (opv_mv rfl) ?_
  refine sv rfl (opv_lss rfl rfl) ?_
  refine snil ?_
  refine ccond rfl (fun hc => ?_) (fun hc => ?_)
  · replace h := ite_t hc h
    clear hc
    refine cseq ?_
    refine cregion ?_
    refine sv rfl (opv_mv rfl) ?_
    obtain ⟨v2, hv2, h⟩ := bind_eq h
    refine scallB (x' := .tup []) (M' := [.box [.fn 39 [] [.lp 1 0, .lp 2 0], .i .i64 v2], .box [.i .i64 v1.2.2], .box [.sl a3.length (a3.flatMap eU8)]]) [0, 1, 2] rfl fn41 (.func _) (opnds_cons rfl (opnds_cons rfl opnds_nil)) (m41_enc_Reader_Fails_c hv2) rfl rfl (by decide) rfl rfl rfl ?_
    refine snil ?_
    refine cseq ?_
    refine cregion ?_
    refine sv rfl (opv_as rfl) ?_
    refine snil ?_
    refine cpub 4 rfl (by (repeat' first | exact PubA.nil _ | apply PubA.cons | apply PubV.one | apply PubV.agg | exact PubL.nil | exact PubL.id _ rfl | exact PubLs.nil _ | apply PubLs.cons)) ?_
    refine cret ?_
    refine then_ret ?_
    obtain rfl := Option.some.inj h
    exact ⟨Or.inr rfl, _, [0, 1, 2], [.one (.sl ([] : List UInt8).length (([] : List UInt8).flatMap eU8))], [.box [.fn 39 [] [.lp 1 0, .lp 2 0], .i .i64 v2], .box [.i .i64 v1.2.2], .box [.sl a3.length (a3.flatMap eU8)]], (resVs_cons (ResV.tmp _ _ rfl) resVs_nil), rfl, rfl, ⟨by decide, rfl⟩, rfl, rfl, ⟨rfl, rfl⟩⟩
  · replace h := ite_f hc h
    clear hc
    refine cskip ?_
    refine then_normal ?_
    refine cseq ?_
    refine cseq ?_
    refine cregion ?_
    refine sv rfl (opv_mv rfl) ?_
    refine sv rfl (opv_gtr rfl rfl) ?_
    refine snil ?_
    refine cjoin (Int) (fun b3 => [(1, .s (.one (.i .i64 a0))), (6, .s (.one (.sl v1.2.1.length (v1.2.1.flatMap eU8))))]) (fun b3 => [.box [.fn 39 [] [.lp 1 0, .lp 2 0], .i .i64 a1], .box [.i .i64 b3], .box [.sl a3.length (a3.flatMap eU8)]]) (fun b3 => m42_enc_Reader_takes_k3 a0 a1 v1 b3 = some r) (fun _ _ => inbL_of rfl) (fun _ _ => blkinb_of rfl) (fun _ _ => Nat.le_of_ble_eq_true rfl) (fun b3 h => ?_) ?_
    · unfold m42_enc_Reader_takes_k3 at h
      refine cseq ?_
      refine cregion ?_
      refine sv rfl (opv_mv rfl) ?_
      refine sv rfl (opv_mv rfl) ?_
      obtain ⟨c4, hc4, h⟩ := bind_eq h
      refine sv rfl (opv_cut (f := eU8) (lo := 0) (hi := a0) si22 (fun _ => rfl) rfl rfl rfl bound_none (bound_some rfl (Int.le_trans (cut_eq hc4).1.1 (cut_eq hc4).1.2.1)) hc4) ?_
      refine sv rfl (opv_as rfl) ?_
      refine snil ?_
      refine cret ?_
      obtain rfl := Option.some.inj h
      exact ⟨Or.inr rfl, _, [0, 1, 2], [.one (.sl c4.length (c4.flatMap eU8))], [.box [.fn 39 [] [.lp 1 0, .lp 2 0], .i .i64 a1], .box [.i .i64 b3], .box [.sl a3.length (a3.flatMap eU8)]], (resVs_cons (ResV.tmp _ _ rfl) resVs_nil), rfl, rfl, ⟨by decide, rfl⟩, rfl, rfl, ⟨rfl, rfl⟩⟩
    · skip
      refine ccond rfl (fun hc => ?_) (fun hc => ?_)
      · replace h := ite_t hc h
        clear hc
        refine cregion ?_
        refine sv rfl (opv_mv rfl) ?_
        refine sv rfl (opv_nilCheck rfl rfl (fun _ _ _ h => by cases h)) ?_
        refine sv rfl (opv_fieldAddr_lp fi74_0 rfl) ?_
        refine sv rfl (opv_load1 ti72 rfl (.lp _ _ _ rfl) rfl) ?_
        refine sv rfl (opv_mv rfl) ?_
        obtain ⟨v5, hv5, h⟩ := bind_eq h
        refine scallB (x' := .tup [.one (.i .i64 v5.1), .one (.sl v5.2.1.length (v5.2.1.flatMap eU8))]) (M' := [.box [.fn 39 [] [.lp 1 0, .lp 2 0], .i .i64 a1], .box [.i .i64 v5.2.2], .box [.sl a3.length (a3.flatMap eU8)]]) [1, 2] rfl fn39 (.fn _ _ _ _ rfl) (opnds_cons rfl opnds_nil) (m39_enc_New_1s_c hv5) rfl rfl (by decide) rfl rfl rfl ?_
        refine snil ?_
        exact ⟨v5.2.2, _, h, ⟨rfl, rfl, trivial⟩, rfl⟩
      · replace h := ite_f hc h
        clear hc
        refine cskip ?_
        refine then_normal ?_
        exact ⟨v1.2.2, _, h, ⟨rfl, rfl, trivial⟩, rfl⟩

def m32_enc_Reader_Us_k4 (v3 : (List UInt8) × Int × Int) (b4 : (BitVec 64)) : Option ((BitVec 64) × Int × Int) :=
  some (b4, v3.2.1, v3.2.2)

def m32_enc_Reader_Us_s5 (v3 : (List UInt8) × Int × Int) (s5 : (BitVec 64) × Int) : Option (LB ((BitVec 64) × Int) ((BitVec 64))) :=
  if (decide (s5.2 < (v3.1.length : Int))) then ((idx v3.1 s5.2).bind fun u6 => if 0 ≤ (wI (8 * s5.2)) then (some (.cont ((s5.1 ||| ((u6.toBitVec.setWidth 64) <<< (wI (8 * s5.2)).toNat)), (wI (s5.2 + 1))))) else none) else (some (.brk s5.1))

def m32_enc_Reader_Us_k2 (a0 : Int) (a1 : Int) (a2 : Int) (a3 : List UInt8) (b2 : Unit) : Option ((BitVec 64) × Int × Int) :=
  (m42_enc_Reader_takes a0 a1 a2 a3).bind fun v3 => (iterB (m32_enc_Reader_Us_s5 v3) fuel (0#64, 0)).bind fun e8 => m32_enc_Reader_Us_k4 v3 e8
def m32_enc_Reader_Us (a0 : Int) (a1 : Int) (a2 : Int) (a3 : List UInt8) : Option ((BitVec 64) × Int × Int) :=
  (m40_enc_Reader_Errs a1 a2 a3).bind fun v1 => if (!decide (v1 = 0)) then (some (0#64, a1, a2)) else (if (decide (a0 < 1)) then ((m41_enc_Reader_Fails 1 a1 a2 a3).bind fun v9 => some (0#64, v9, a2)) else (if (decide (8 < a0)) then ((m41_enc_Reader_Fails 1 a1 a2 a3).bind fun v10 => some (0#64, v10, a2)) else (m32_enc_Reader_Us_k2 a0 a1 a2 a3 ())))

set_option maxRecDepth 100000 in
theorem m32_enc_Reader_Us_c {a0 : Int} {a1 : Int} {a2 : Int} {a3 : List UInt8} {r : (BitVec 64) × Int × Int} (h : m32_enc_Reader_Us a0 a1 a2 a3 = some r) : CallsB Try.prog 32 [.box [.fn 39 [] [.lp 1 0, .lp 2 0], .i .i64 a1], .box [.i .i64 a2], .box [.sl a3.length (a3.flatMap eU8)]] [.one (.lp 0 0), .one (.i .i64 a0)] (fun y m' => y = .s (.one (.i .u64 (r.1.toNat : Int))) ∧ m' = [.box [.fn 39 [] [.lp 1 0, .lp 2 0], .i .i64 r.2.1], .box [.i .i64 r.2.2], .box [.sl a3.length (a3.flatMap eU8)]]) := by
  unfold m32_enc_Reader_Us at h
  refine callsB_of Try.func32 rfl (nt := 37) rfl (Nat.le_of_ble_eq_true rfl) ?_
  intro w0 S0 X0 H0
  refine cseq ?_
  refine cregion ?_
  refine sv rfl (opv_as rfl) ?_
  refine snil ?_
  refine cseq ?_
  refine cseq ?_
  refine cregion ?_
  refine sv rfl (opv_mv rfl) ?_
  obtain ⟨v1, hv1, h⟩ := bind_eq h
  refine scallB (x' := .s (.one (.i .i64 v1))) (M' := [.box [.fn 39 [] [.lp 1 0, .lp 2 0], .i .i64 a1], .box [.i .i64 a2], .box [.sl a3.length (a3.flatMap eU8)]]) [0, 1, 2] rfl fn40 (.func _) (opnds_cons rfl opnds_nil) (m40_enc_Reader_Errs_c hv1) rfl rfl (by decide) rfl rfl rfl ?_
  refine sv rfl (opv_ineq rfl rfl) ?_
  refine snil ?_
  refine ccond rfl (fun hc => ?_) (fun hc => ?_)
  · replace h := ite_t hc h
    clear hc
    refine cseq ?_
    refine cregion ?_
    refine sv rfl (opv_as rfl) ?_
    refine snil ?_
    refine cret ?_
    refine then_ret ?_
    obtain rfl := Option.some.inj h
    exact ⟨Or.inr rfl, _, [0, 1, 2], [.one (.i .u64 ((0#64).toNat : Int))], [.box [.fn 39 [] [.lp 1 0, .lp 2 0], .i .i64 a1], .box [.i .i64 a2], .box [.sl a3.length (a3.flatMap eU8)]], (resVs_cons (ResV.tmp _ _ rfl) resVs_nil), rfl, rfl, ⟨by decide, rfl⟩, rfl, rfl, ⟨rfl, rfl⟩⟩
  · replace h := ite_f hc h
    clear hc
    refine cskip ?_
    refine then_normal ?_
    refine cseq ?_
    refine cseq ?_
    refine cjoin3 (Unit) (fun b2 => [(0, .s (.one (.lp 0 0))), (1, .s (.one (.i .i64 a0)))]) (fun b2 => [.box [.fn 39 [] [.lp 1 0, .lp 2 0], .i .i64 a1], .box [.i .i64 a2], .box [.sl a3.length (a3.flatMap eU8)]]) (fun b2 => m32_enc_Reader_Us_k2 a0 a1 a2 a3 b2 = some r) (fun _ _ => inbL_of rfl) (fun _ _ => blkinb_of rfl) (fun _ _ => Nat.le_of_ble_eq_true rfl) (fun b2 h => ?_) ?_
    · unfold m32_enc_Reader_Us_k2 at h
      refine cseq ?_
      refine cregion ?_
      refine sv rfl (opv_as rfl) ?_
      refine snil ?_
      refine cseq ?_
      refine cseq ?_
      refine cregion ?_
      refine sv rfl (opv_mv rfl) ?_
      refine sv rfl (opv_mv rfl) ?_
      obtain ⟨v3, hv3, h⟩ := bind_eq h
      refine scallB (x' := .s (.one (.sl v3.1.length (v3.1.flatMap eU8)))) (M' := [.box [.fn 39 [] [.lp 1 0, .lp 2 0], .i .i64 v3.2.1], .box [.i .i64 v3.2.2], .box [.sl a3.length (a3.flatMap eU8)]]) [0, 1, 2] rfl fn42 (.func _) (opnds_cons rfl (opnds_cons rfl opnds_nil)) (m42_enc_Reader_takes_c hv3) rfl rfl (by decide) rfl rfl rfl ?_
      refine sv rfl (opv_len_sl si22 rfl) ?_
      refine sv rfl (opv_mv rfl) ?_
      refine snil ?_
      refine cjoin ((BitVec 64)) (fun b4 => [(5, .s (.one (.i .u64 (b4.toNat : Int))))]) (fun b4 => [.box [.fn 39 [] [.lp 1 0, .lp 2 0], .i .i64 v3.2.1], .box [.i .i64 v3.2.2], .box [.sl a3.length (a3.flatMap eU8)]]) (fun b4 => m32_enc_Reader_Us_k4 v3 b4 = some r) (fun _ _ => inbL_of rfl) (fun _ _ => blkinb_of rfl) (fun _ _ => Nat.le_of_ble_eq_true rfl) (fun b4 h => ?_) ?_
      · unfold m32_enc_Reader_Us_k4 at h
        refine cseq ?_
        refine cregion ?_
        refine sv rfl (opv_mv rfl) ?_
        refine sv rfl (opv_as rfl) ?_
        refine snil ?_
        refine cret ?_
        obtain rfl := Option.some.inj h
        exact ⟨Or.inr rfl, _, [0, 1, 2], [.one (.i .u64 (b4.toNat : Int))], [.box [.fn 39 [] [.lp 1 0, .lp 2 0], .i .i64 v3.2.1], .box [.i .i64 v3.2.2], .box [.sl a3.length (a3.flatMap eU8)]], (resVs_cons (ResV.tmp _ _ rfl) resVs_nil), rfl, rfl, ⟨by decide, rfl⟩, rfl, rfl, ⟨rfl, rfl⟩⟩
      · skip
        refine cblock ?_
        obtain ⟨x5, hx5, ho5⟩ := bind_eq h
        refine awc_loop (G := Nat × ((BitVec 64) × Int)) (fun g => [(5, .s (.one (.i .u64 (g.2.1.toNat : Int)))), (21, .s (.one (.sl v3.1.length (v3.1.flatMap eU8)))), (22, .s (.one (.i .i64 (v3.1.length : Int)))), (23, .s (.one (.i .i64 g.2.2)))]) (fun g => [.box [.fn 39 [] [.lp 1 0, .lp 2 0], .i .i64 v3.2.1], .box [.i .i64 v3.2.2], .box [.sl a3.length (a3.flatMap eU8)]]) (fun g => iterB (m32_enc_Reader_Us_s5 v3) g.1 g.2 = some x5) (fun g => g.1) (fuel, (0#64, 0)) hx5 ⟨rfl, rfl, rfl, rfl, trivial⟩ [] rfl (fun _ _ => inbL_of rfl) (fun _ _ => blkinb_of rfl) (fun _ _ => Nat.le_of_ble_eq_true rfl) ?_
        clear hx5 h
        rintro ⟨n5, s5⟩ h
        obtain ⟨n5, y5, rfl, h, hk5⟩ := iterB_eq h
        unfold m32_enc_Reader_Us_s5 at h
        refine cseq ?_
        refine cregion ?_
        refine sv rfl (opv_lss rfl rfl) ?_
        refine snil ?_
        refine cseq ?_
        refine ccond rfl (fun hc => ?_) (fun hc => ?_)
        · replace h := ite_t hc h
          clear hc
          refine cskip ?_
          refine then_normal ?_
          refine cseq ?_
          refine cblock ?_
          refine cseq ?_
          refine cregion ?_
          refine sv rfl (opv_mv rfl) ?_
          obtain ⟨u6, hu6, h⟩ := bind_eq h
          refine sv rfl (opv_ix (f := eU8) si22 (fun _ => rfl) rfl rfl rfl rfl hu6) ?_
          refine sv rfl (opv_load1 ti5 rfl (.cp _) rfl) ?_
          refine sv rfl (opv_as rfl) ?_
          refine sv rfl (opv_as rfl) ?_
          refine snil ?_
          refine cregion ?_
          refine sv rfl (opv_mv rfl) ?_
          refine sv rfl (opv_mv rfl) ?_
          refine sv rfl (opv_conv_bv (k := .u8) (a := u6.toBitVec) rfl Try.underlying5 Try.underlying58 rfl rfl) ?_
          refine sv rfl (opv_mv rfl) ?_
          refine sv rfl (opv_mul rfl rfl) ?_
          obtain ⟨hz7, h⟩ := chk_eq h
          refine sv rfl (opv_shl_u64 (a := (u6.toBitVec.setWidth 64)) rfl rfl rfl hz7) ?_
          refine sv rfl (opv_or_u64 (a := s5.1) (b := ((u6.toBitVec.setWidth 64) <<< (wI (8 * s5.2)).toNat)) rfl rfl rfl rfl) ?_
          refine sv rfl (opv_as rfl) ?_
          refine snil0 ?_
          refine block_normal ?_
          refine then_normal ?_
          refine cregion ?_
          refine sv rfl (opv_add rfl rfl) ?_
          refine sv rfl (opv_mv rfl) ?_
          refine snil ?_
          obtain rfl := Option.some.inj h
          exact ⟨(n5, ((s5.1 ||| ((u6.toBitVec.setWidth 64) <<< (wI (8 * s5.2)).toNat)), (wI (s5.2 + 1)))), _, hk5, ⟨rfl, rfl, rfl, rfl, trivial⟩, rfl, Nat.lt_succ_self _⟩
        · replace h := ite_f hc h
          clear hc
          refine cexit ?_
          refine then_exit ?_
          refine then_exit ?_
          refine block_hit ?_
          refine then_normal ?_
          obtain rfl := Option.some.inj h
          obtain rfl : _ = x5 := hk5
          exact ⟨s5.1, _, ho5, ⟨rfl, trivial⟩, rfl⟩
    · skip
      refine cregion ?_
      refine sv rfl (opv_mv rfl) ?_
      refine sv rfl (opv_lss rfl rfl) ?_
      refine sv rfl (opv_mv rfl) ?_
      refine ssplit 13 rfl (fun hc => ?_) (fun hc => ?_)
      · replace h := ite_t hc h
        clear hc
        refine soff rfl rfl rfl rfl ?_
        refine soff rfl rfl rfl rfl ?_
        refine sv rfl (opv_pick_t rfl rfl) ?_
        refine snil ?_
        refine ccond rfl (fun _ => ?_) (fun hx => Bool.noConfusion hx)
        refine cseq ?_
        refine cregion ?_
        refine sv rfl (opv_mv rfl) ?_
        obtain ⟨v9, hv9, h⟩ := bind_eq h
        refine scallB (x' := .tup []) (M' := [.box [.fn 39 [] [.lp 1 0, .lp 2 0], .i .i64 v9], .box [.i .i64 a2], .box [.sl a3.length (a3.flatMap eU8)]]) [0, 1, 2] rfl fn41 (.func _) (opnds_cons rfl (opnds_cons rfl opnds_nil)) (m41_enc_Reader_Fails_c hv9) rfl rfl (by decide) rfl rfl rfl ?_
        refine snil ?_
        refine cseq ?_
        refine cregion ?_
        refine sv rfl (opv_as rfl) ?_
        refine snil ?_
        refine cret ?_
        refine then_ret ?_
        obtain rfl := Option.some.inj h
        exact ⟨Or.inr rfl, _, [0, 1, 2], [.one (.i .u64 ((0#64).toNat : Int))], [.box [.fn 39 [] [.lp 1 0, .lp 2 0], .i .i64 v9], .box [.i .i64 a2], .box [.sl a3.length (a3.flatMap eU8)]], (resVs_cons (ResV.tmp _ _ rfl) resVs_nil), rfl, rfl, ⟨by decide, rfl⟩, rfl, rfl, ⟨rfl, rfl⟩⟩
      · replace h := ite_f hc h
        clear hc
        refine son rfl rfl rfl ?_
        refine sv rfl (opv_mv rfl) ?_
        refine son rfl rfl rfl ?_
        refine sv rfl (opv_gtr rfl rfl) ?_
        refine sv rfl (opv_pick_f rfl rfl) ?_
        refine snil ?_
        refine ccond rfl (fun hc => ?_) (fun hc => ?_)
        · replace h := ite_t hc h
          clear hc
          refine cseq ?_
          refine cregion ?_
          refine sv rfl (opv_mv rfl) ?_
          obtain ⟨v10, hv10, h⟩ := bind_eq h
          refine scallB (x' := .tup []) (M' := [.box [.fn 39 [] [.lp 1 0, .lp 2 0], .i .i64 v10], .box [.i .i64 a2], .box [.sl a3.length (a3.flatMap eU8)]]) [0, 1, 2] rfl fn41 (.func _) (opnds_cons rfl (opnds_cons rfl opnds_nil)) (m41_enc_Reader_Fails_c hv10) rfl rfl (by decide) rfl rfl rfl ?_
          refine snil ?_
          refine cseq ?_
          refine cregion ?_
          refine sv rfl (opv_as rfl) ?_
          refine snil ?_
          refine cret ?_
          refine then_ret ?_
          obtain rfl := Option.some.inj h
          exact ⟨Or.inr rfl, _, [0, 1, 2], [.one (.i .u64 ((0#64).toNat : Int))], [.box [.fn 39 [] [.lp 1 0, .lp 2 0], .i .i64 v10], .box [.i .i64 a2], .box [.sl a3.length (a3.flatMap eU8)]], (resVs_cons (ResV.tmp _ _ rfl) resVs_nil), rfl, rfl, ⟨by decide, rfl⟩, rfl, rfl, ⟨rfl, rfl⟩⟩
        · replace h := ite_f hc h
          clear hc
          refine cskip ?_
          refine then_normal ?_
          exact ⟨(), _, h, ⟨rfl, rfl, trivial⟩, rfl⟩

def m35_frame_open_k4 (a0 : List UInt8) (v2 : (BitVec 64) × Int × Int) (v3 : (BitVec 64) × Int × Int) (b4 : Unit) : Option (GFrameWhole × Int) :=
  (cut a0 6 (wI (6 + (wI (v2.1.toNat : Int))))).bind fun c5 => (m43_frame_sumOf c5).bind fun v6 => if (!decide (((v3.1.setWidth 32).toNat : Int) = (v6.toNat : Int))) then (some ((GFrameWhole.mk (GFrameHead.mk 0 (0#32)) ([] : List UInt8)), 4)) else (some ((GFrameWhole.mk (GFrameHead.mk (wI (v2.1.toNat : Int)) (v3.1.setWidth 32)) c5), 0))
def m35_frame_open (a0 : List UInt8) : Option (GFrameWhole × Int) :=
  (m31_enc_News a0).bind fun v1 => (m32_enc_Reader_Us 2 v1.1 v1.2.1 v1.2.2).bind fun v2 => if (decide (512 < (wI (v2.1.toNat : Int)))) then (some ((GFrameWhole.mk (GFrameHead.mk 0 (0#32)) ([] : List UInt8)), 5)) else ((m32_enc_Reader_Us 4 v2.2.1 v2.2.2 v1.2.2).bind fun v3 => (m40_enc_Reader_Errs v3.2.1 v3.2.2 v1.2.2).bind fun v7 => if (!decide (v7 = 0)) then (some ((GFrameWhole.mk (GFrameHead.mk 0 (0#32)) ([] : List UInt8)), 2)) else (if (decide ((a0.length : Int) < (wI (6 + (wI (v2.1.toNat : Int)))))) then (some ((GFrameWhole.mk (GFrameHead.mk 0 (0#32)) ([] : List UInt8)), 2)) else (m35_frame_open_k4 a0 v2 v3 ())))

set_option maxRecDepth 100000 in
theorem m35_frame_open_c {a0 : List UInt8} {r : GFrameWhole × Int} (h : m35_frame_open a0 = some r) : CallsA Try.prog 35 [.one (.sl a0.length (a0.flatMap eU8))] (· = .tup [.agg [.i .i64 r.1.head_.size_, .i .u32 (r.1.head_.sum_.toNat : Int), .sl r.1.payload_.length (r.1.payload_.flatMap eU8)], .one (.i .i64 r.2)]) := by
  unfold m35_frame_open at h
  refine callsA_of Try.func35 rfl (nt := 53) rfl (Nat.le_of_ble_eq_true rfl) ?_
  intro w0 S0
  refine cseq ?_
  refine cregion ?_
  refine salloc rfl zi66 ?_
  refine sv rfl (opv_as rfl) ?_
  refine snil ?_
  refine cseq ?_
  refine cregion ?_
  refine sv rfl (opv_mv rfl) ?_
  obtain ⟨v1, hv1, h⟩ := bind_eq h
  refine scallB (x' := .s (.one (.lp 1 0))) (M' := [.box [.i .i64 0, .i .u32 ((0#32).toNat : Int), .raw (.slice none 0 0)], .box [.fn 39 [] [.lp 2 0, .lp 3 0], .i .i64 v1.1], .box [.i .i64 v1.2.1], .box [.sl v1.2.2.length (v1.2.2.flatMap eU8)]]) [] rfl fn31 (.func _) (opnds_cons rfl opnds_nil) (m31_enc_News_c hv1) rfl rfl (by decide) rfl rfl rfl ?_
  refine sv rfl (opv_as rfl) ?_
  refine snil ?_
  refine cseq ?_
  refine cregion ?_
  refine sv rfl (opv_build zi66 pi66 parts_nil (.nil _)) ?_
  refine salloc rfl zi66 ?_
  refine sstore sz66 rfl rfl rfl rfl (Nat.le_of_ble_eq_true rfl) ?_
  refine smem [.box [.i .i64 0, .i .u32 ((0#32).toNat : Int), .raw (.slice none 0 0)], .box [.fn 39 [] [.lp 2 0, .lp 3 0], .i .i64 v1.1], .box [.i .i64 v1.2.1], .box [.sl v1.2.2.length (v1.2.2.flatMap eU8)], .box [.i .i64 0, .i .u32 ((0#32).toNat : Int), .raw (.slice none 0 0)]] rfl ?_
  refine snil ?_
  refine cseq ?_
  refine cregion ?_
  refine sv rfl (opv_mv rfl) ?_
  obtain ⟨v2, hv2, h⟩ := bind_eq h
  refine scallB (x' := .s (.one (.i .u64 (v2.1.toNat : Int)))) (M' := [.box [.i .i64 0, .i .u32 ((0#32).toNat : Int), .raw (.slice none 0 0)], .box [.fn 39 [] [.lp 2 0, .lp 3 0], .i .i64 v2.2.1], .box [.i .i64 v2.2.2], .box [.sl v1.2.2.length (v1.2.2.flatMap eU8)], .box [.i .i64 0, .i .u32 ((0#32).toNat : Int), .raw (.slice none 0 0)]]) [1, 2, 3] rfl fn32 (.func _) (opnds_cons rfl (opnds_cons rfl opnds_nil)) (m32_enc_Reader_Us_c hv2) rfl rfl (by decide) rfl rfl rfl ?_
  refine sv rfl (opv_conv_int Try.underlying58 Try.underlying3 rfl) ?_
  refine sv rfl (opv_fieldAddr_lp fi66_0 rfl) ?_
  refine sv rfl (opv_fieldAddr_lp fi64_0 rfl) ?_
  refine sstore sz3 rfl rfl rfl rfl (Nat.le_of_ble_eq_true rfl) ?_
  refine smem [.box [.i .i64 0, .i .u32 ((0#32).toNat : Int), .raw (.slice none 0 0)], .box [.fn 39 [] [.lp 2 0, .lp 3 0], .i .i64 v2.2.1], .box [.i .i64 v2.2.2], .box [.sl v1.2.2.length (v1.2.2.flatMap eU8)], .box [.i .i64 (wI (v2.1.toNat : Int)), .i .u32 ((0#32).toNat : Int), .raw (.slice none 0 0)]] rfl ?_
  refine snil ?_
  refine cseq ?_
  refine cseq ?_
  refine cregion ?_
  refine sv rfl (opv_fieldAddr_lp fi66_0 rfl) ?_
  refine sv rfl (opv_fieldAddr_lp fi64_0 rfl) ?_
  refine sv rfl (opv_load1 ti3 rfl (.lp _ _ _ rfl) rfl) ?_
  refine sv rfl (opv_gtr rfl rfl) ?_
  refine snil ?_
  refine ccond rfl (fun hc => ?_) (fun hc => ?_)
  · replace h := ite_t hc h
    clear hc
    refine cseq ?_
    refine cregion ?_
    refine sv rfl (opv_build zi66 pi66 parts_nil (.nil _)) ?_
    refine sstore sz66 rfl rfl rfl rfl (Nat.le_of_ble_eq_true rfl) ?_
    refine smem [.box [.i .i64 0, .i .u32 ((0#32).toNat : Int), .raw (.slice none 0 0)], .box [.fn 39 [] [.lp 2 0, .lp 3 0], .i .i64 v2.2.1], .box [.i .i64 v2.2.2], .box [.sl v1.2.2.length (v1.2.2.flatMap eU8)], .box [.i .i64 (wI (v2.1.toNat : Int)), .i .u32 ((0#32).toNat : Int), .raw (.slice none 0 0)]] rfl ?_
    refine sv rfl (opv_as rfl) ?_
    refine snil ?_
    refine cret ?_
    refine then_ret ?_
    obtain rfl := Option.some.inj h
    refine ⟨Or.inr rfl, _, _, _, (resVs_cons (ResV.agg _ _ _ _ _ ti66 rfl (.lp _ _ _ rfl) (Nat.le_of_ble_eq_true rfl)) (resVs_cons (ResV.tmp _ _ rfl) resVs_nil)), (pubC rfl), ?_⟩
    rfl
  · replace h := ite_f hc h
    clear hc
    refine cskip ?_
    refine then_normal ?_
    refine cseq ?_
    refine cregion ?_
    refine sv rfl (opv_mv rfl) ?_
    obtain ⟨v3, hv3, h⟩ := bind_eq h
    refine scallB (x' := .s (.one (.i .u64 (v3.1.toNat : Int)))) (M' := [.box [.i .i64 0, .i .u32 ((0#32).toNat : Int), .raw (.slice none 0 0)], .box [.fn 39 [] [.lp 2 0, .lp 3 0], .i .i64 v3.2.1], .box [.i .i64 v3.2.2], .box [.sl v1.2.2.length (v1.2.2.flatMap eU8)], .box [.i .i64 (wI (v2.1.toNat : Int)), .i .u32 ((0#32).toNat : Int), .raw (.slice none 0 0)]]) [1, 2, 3] rfl fn32 (.func _) (opnds_cons rfl (opnds_cons rfl opnds_nil)) (m32_enc_Reader_Us_c hv3) rfl rfl (by decide) rfl rfl rfl ?_
    refine sv rfl (opv_conv_bv (k := .u64) (a := v3.1) rfl Try.underlying58 Try.underlying62 rfl rfl) ?_
    refine sv rfl (opv_fieldAddr_lp fi66_0 rfl) ?_
    refine sv rfl (opv_fieldAddr_lp fi64_1 rfl) ?_
    refine sstore sz62 rfl rfl rfl rfl (Nat.le_of_ble_eq_true rfl) ?_
    refine smem [.box [.i .i64 0, .i .u32 ((0#32).toNat : Int), .raw (.slice none 0 0)], .box [.fn 39 [] [.lp 2 0, .lp 3 0], .i .i64 v3.2.1], .box [.i .i64 v3.2.2], .box [.sl v1.2.2.length (v1.2.2.flatMap eU8)], .box [.i .i64 (wI (v2.1.toNat : Int)), .i .u32 ((v3.1.setWidth 32).toNat : Int), .raw (.slice none 0 0)]] rfl ?_
    refine snil ?_
    refine cseq ?_
    refine cseq ?_
    refine cjoin3 (Unit) (fun b4 => [(0, .s (.one (.sl a0.length (a0.flatMap eU8)))), (2, .s (.one (.lp 0 0))), (5, .s (.one (.lp 4 0)))]) (fun b4 => [.box [.i .i64 0, .i .u32 ((0#32).toNat : Int), .raw (.slice none 0 0)], .box [.fn 39 [] [.lp 2 0, .lp 3 0], .i .i64 v3.2.1], .box [.i .i64 v3.2.2], .box [.sl v1.2.2.length (v1.2.2.flatMap eU8)], .box [.i .i64 (wI (v2.1.toNat : Int)), .i .u32 ((v3.1.setWidth 32).toNat : Int), .raw (.slice none 0 0)]]) (fun b4 => m35_frame_open_k4 a0 v2 v3 b4 = some r) (fun _ _ => inbL_of rfl) (fun _ _ => blkinb_of rfl) (fun _ _ => Nat.le_of_ble_eq_true rfl) (fun b4 h => ?_) ?_
    · unfold m35_frame_open_k4 at h
      refine cseq ?_
      refine cregion ?_
      refine sv rfl (opv_mv rfl) ?_
      refine sv rfl (opv_fieldAddr_lp fi66_0 rfl) ?_
      refine sv rfl (opv_fieldAddr_lp fi64_0 rfl) ?_
      refine sv rfl (opv_load1 ti3 rfl (.lp _ _ _ rfl) rfl) ?_
      refine sv rfl (opv_add rfl rfl) ?_
      obtain ⟨c5, hc5, h⟩ := bind_eq h
      refine sv rfl (opv_cut (f := eU8) (lo := 6) (hi := (wI (6 + (wI (v2.1.toNat : Int))))) si22 (fun _ => rfl) rfl rfl rfl (bound_some rfl (cut_eq hc5).1.1) (bound_some rfl (Int.le_trans (cut_eq hc5).1.1 (cut_eq hc5).1.2.1)) hc5) ?_
      refine sv rfl (opv_fieldAddr_lp fi66_1 rfl) ?_
      refine sstore sz22 rfl rfl rfl rfl (Nat.le_of_ble_eq_true rfl) ?_
      refine smem [.box [.i .i64 0, .i .u32 ((0#32).toNat : Int), .raw (.slice none 0 0)], .box [.fn 39 [] [.lp 2 0, .lp 3 0], .i .i64 v3.2.1], .box [.i .i64 v3.2.2], .box [.sl v1.2.2.length (v1.2.2.flatMap eU8)], .box [.i .i64 (wI (v2.1.toNat : Int)), .i .u32 ((v3.1.setWidth 32).toNat : Int), .sl c5.length (c5.flatMap eU8)]] rfl ?_
      refine snil ?_
      refine cseq ?_
      refine cseq ?_
      refine cdraw mixed (by kernel_rfl) ?_
      refine dv rfl (opv_fieldAddr_lp fi66_0 rfl) ?_
      refine dv rfl (opv_fieldAddr_lp fi64_1 rfl) ?_
      refine dv rfl (opv_load1 ti62 rfl (.lp _ _ _ rfl) rfl) ?_
      refine dv rfl (opv_fieldAddr_lp fi66_1 rfl) ?_
      refine dv rfl (opv_load1 ti22 rfl (.lp _ _ _ rfl) rfl) ?_
      obtain ⟨v6, hv6, h⟩ := bind_eq h
      refine dd rfl (opD_call fn43 (opnds_cons rfl opnds_nil) rfl (m43_frame_sumOf_c hv6)) ?_
      refine dv rfl (opv_ineq rfl rfl) ?_
      refine dnil ?_
      refine then_normal ?_
      refine ccond rfl (fun hc => ?_) (fun hc => ?_)
      · replace h := ite_t hc h
        clear hc
        refine cseq ?_
        refine cregion ?_
        refine sv rfl (opv_build zi66 pi66 parts_nil (.nil _)) ?_
        refine sstore sz66 rfl rfl rfl rfl (Nat.le_of_ble_eq_true rfl) ?_
        refine smem [.box [.i .i64 0, .i .u32 ((0#32).toNat : Int), .raw (.slice none 0 0)], .box [.fn 39 [] [.lp 2 0, .lp 3 0], .i .i64 v3.2.1], .box [.i .i64 v3.2.2], .box [.sl v1.2.2.length (v1.2.2.flatMap eU8)], .box [.i .i64 (wI (v2.1.toNat : Int)), .i .u32 ((v3.1.setWidth 32).toNat : Int), .sl c5.length (c5.flatMap eU8)]] rfl ?_
        refine sv rfl (opv_as rfl) ?_
        refine snil ?_
        refine cret ?_
        refine then_ret ?_
        obtain rfl := Option.some.inj h
        refine ⟨Or.inr rfl, _, _, _, (resVs_cons (ResV.agg _ _ _ _ _ ti66 rfl (.lp _ _ _ rfl) (Nat.le_of_ble_eq_true rfl)) (resVs_cons (ResV.tmp _ _ rfl) resVs_nil)), (pubC rfl), ?_⟩
        rfl
      · replace h := ite_f hc h
        clear hc
        refine cskip ?_
        refine then_normal ?_
        refine cseq ?_
        refine cregion ?_
        refine sv rfl (opv_loadN ti66 rfl (.lp _ _ _ rfl) (Nat.le_of_ble_eq_true rfl)) ?_
        refine sstore sz66 rfl rfl rfl rfl (Nat.le_of_ble_eq_true rfl) ?_
        refine smem [.box [.i .i64 (wI (v2.1.toNat : Int)), .i .u32 ((v3.1.setWidth 32).toNat : Int), .sl c5.length (c5.flatMap eU8)], .box [.fn 39 [] [.lp 2 0, .lp 3 0], .i .i64 v3.2.1], .box [.i .i64 v3.2.2], .box [.sl v1.2.2.length (v1.2.2.flatMap eU8)], .box [.i .i64 (wI (v2.1.toNat : Int)), .i .u32 ((v3.1.setWidth 32).toNat : Int), .sl c5.length (c5.flatMap eU8)]] rfl ?_
        refine sv rfl (opv_as rfl) ?_
        refine snil ?_
        refine cret ?_
        obtain rfl := Option.some.inj h
        refine ⟨Or.inr rfl, _, _, _, (resVs_cons (ResV.agg _ _ _ _ _ ti66 rfl (.lp _ _ _ rfl) (Nat.le_of_ble_eq_true rfl)) (resVs_cons (ResV.tmp _ _ rfl) resVs_nil)), (pubA_id rfl), ?_⟩
        rfl
    · skip
      refine cregion ?_
      refine sv rfl (opv_mv rfl) ?_
      obtain ⟨v7, hv7, h⟩ := bind_eq h
      refine scallB (x' := .s (.one (.i .i64 v7))) (M' := [.box [.i .i64 0, .i .u32 ((0#32).toNat : Int), .raw (.slice none 0 0)], .box [.fn 39 [] [.lp 2 0, .lp 3 0], .i .i64 v3.2.1], .box [.i .i64 v3.2.2], .box [.sl v1.2.2.length (v1.2.2.flatMap eU8)], .box [.i .i64 (wI (v2.1.toNat : Int)), .i .u32 ((v3.1.setWidth 32).toNat : Int), .raw (.slice none 0 0)]]) [1, 2, 3] rfl fn40 (.func _) (opnds_cons rfl opnds_nil) (m40_enc_Reader_Errs_c hv7) rfl rfl (by decide) rfl rfl rfl ?_
      refine sv rfl (opv_ineq rfl rfl) ?_
      refine sv rfl (opv_mv rfl) ?_
      refine ssplit 27 rfl (fun hc => ?_) (fun hc => ?_)
      · replace h := ite_t hc h
        clear hc
        refine soff rfl rfl rfl rfl ?_
        refine soff rfl rfl rfl rfl ?_
        refine soff rfl rfl rfl rfl ?_
        refine soff rfl rfl rfl rfl ?_
        refine soff rfl rfl rfl rfl ?_
        refine soff rfl rfl rfl rfl ?_
        refine soff rfl rfl rfl rfl ?_
        refine sv rfl (opv_pick_t rfl rfl) ?_
        refine snil ?_
        refine ccond rfl (fun _ => ?_) (fun hx => Bool.noConfusion hx)
        refine cseq ?_
        refine cregion ?_
        refine sv rfl (opv_build zi66 pi66 parts_nil (.nil _)) ?_
        refine sstore sz66 rfl rfl rfl rfl (Nat.le_of_ble_eq_true rfl) ?_
        refine smem [.box [.i .i64 0, .i .u32 ((0#32).toNat : Int), .raw (.slice none 0 0)], .box [.fn 39 [] [.lp 2 0, .lp 3 0], .i .i64 v3.2.1], .box [.i .i64 v3.2.2], .box [.sl v1.2.2.length (v1.2.2.flatMap eU8)], .box [.i .i64 (wI (v2.1.toNat : Int)), .i .u32 ((v3.1.setWidth 32).toNat : Int), .raw (.slice none 0 0)]] rfl ?_
        refine sv rfl (opv_as rfl) ?_
        refine snil ?_
        refine cret ?_
        refine then_ret ?_
        obtain rfl := Option.some.inj h
        refine ⟨Or.inr rfl, _, _, _, (resVs_cons (ResV.agg _ _ _ _ _ ti66 rfl (.lp _ _ _ rfl) (Nat.le_of_ble_eq_true rfl)) (resVs_cons (ResV.tmp _ _ rfl) resVs_nil)), (pubC rfl), ?_⟩
        rfl
      · replace h := ite_f hc h
        clear hc
        refine son rfl rfl rfl ?_
        refine sv rfl (opv_mv rfl) ?_
        refine son rfl rfl rfl ?_
        refine sv rfl (opv_len_sl si22 rfl) ?_
        refine son rfl rfl rfl ?_
        refine sv rfl (opv_fieldAddr_lp fi66_0 rfl) ?_
        refine son rfl rfl rfl ?_
        refine sv rfl (opv_fieldAddr_lp fi64_0 rfl) ?_
        refine son rfl rfl rfl ?_
        refine sv rfl (opv_load1 ti3 rfl (.lp _ _ _ rfl) rfl) ?_
        refine son rfl rfl rfl ?_
        refine sv rfl (opv_add rfl rfl) ?_
        refine son rfl rfl rfl ?_
        refine sv rfl (opv_lss rfl rfl) ?_
        refine sv rfl (opv_pick_f rfl rfl) ?_
        refine snil ?_
        refine ccond rfl (fun hc => ?_) (fun hc => ?_)
        · replace h := ite_t hc h
          clear hc
          refine cseq ?_
          refine cregion ?_
          refine sv rfl (opv_build zi66 pi66 parts_nil (.nil _)) ?_
          refine sstore sz66 rfl rfl rfl rfl (Nat.le_of_ble_eq_true rfl) ?_
          refine smem [.box [.i .i64 0, .i .u32 ((0#32).toNat : Int), .raw (.slice none 0 0)], .box [.fn 39 [] [.lp 2 0, .lp 3 0], .i .i64 v3.2.1], .box [.i .i64 v3.2.2], .box [.sl v1.2.2.length (v1.2.2.flatMap eU8)], .box [.i .i64 (wI (v2.1.toNat : Int)), .i .u32 ((v3.1.setWidth 32).toNat : Int), .raw (.slice none 0 0)]] rfl ?_
          refine sv rfl (opv_as rfl) ?_
          refine snil ?_
          refine cret ?_
          refine then_ret ?_
          obtain rfl := Option.some.inj h
          refine ⟨Or.inr rfl, _, _, _, (resVs_cons (ResV.agg _ _ _ _ _ ti66 rfl (.lp _ _ _ rfl) (Nat.le_of_ble_eq_true rfl)) (resVs_cons (ResV.tmp _ _ rfl) resVs_nil)), (pubC rfl), ?_⟩
          rfl
        · replace h := ite_f hc h
          clear hc
          refine cskip ?_
          refine then_normal ?_
          exact ⟨(), _, h, ⟨rfl, rfl, rfl, trivial⟩, rfl⟩

def m36_slices_Clone (a0 : List UInt8) : Option (List UInt8) :=
  if (([] : List UInt8).length + a0.length) * 1 ≤ 140737488355328 then (some (([] : List UInt8) ++ a0)) else none

set_option maxRecDepth 100000 in
theorem m36_slices_Clone_c {a0 : List UInt8} {r : (List UInt8)} (h : m36_slices_Clone a0 = some r) : CallsA Try.prog 36 [.one (.sl a0.length (a0.flatMap eU8))] (· = .s (.one (.sl r.length (r.flatMap eU8)))) := by
  unfold m36_slices_Clone at h
  refine callsA_of Try.func36 rfl (nt := 8) rfl (Nat.le_of_ble_eq_true rfl) ?_
  intro w0 S0
  refine cseq ?_
  refine cregion ?_
  refine sv rfl (opv_as rfl) ?_
  refine snil ?_
  refine cseq ?_
  refine cseq ?_
  refine cregion ?_
  refine sv rfl (opv_mv rfl) ?_
  refine snilq rfl Try.underlying22 rfl (fun nq hnq => ?_)
  cases nq
  · skip
    refine snil ?_
    refine ccond rfl (fun hx => Bool.noConfusion hx) (fun _ => ?_)
    refine cskip ?_
    refine then_normal ?_
    refine cseq ?_
    refine cregion ?_
    refine sbuild0 rfl Try.underlying22 ei5 ?_
    refine sv rfl (opv_mv rfl) ?_
    obtain ⟨hb1, h⟩ := chk_eq h
    refine sapp (f := eU8) (xs := ([] : List UInt8)) (us := a0) rfl Try.underlying22 ei5 ni22 (fun _ => rfl) rfl rfl (.one _ _ _ _ (.id _ rfl)) rfl rfl rfl (.sl _ _ _ (flat_len (f := eU8) (fun _ => rfl) _)) rfl rfl hb1 (by decide) ?_
    refine sv rfl (opv_as rfl) ?_
    refine snil ?_
    refine cret ?_
    obtain rfl := Option.some.inj h
    refine ⟨Or.inr rfl, _, _, _, (resVs_cons (ResV.tmp _ _ rfl) resVs_nil), (by (repeat' first | exact PubA.nil _ | apply PubA.cons | apply PubV.one | apply PubV.agg | exact PubL.nil | exact PubL.ls _ _ _ _ _ _ rfl (flat_len (f := eU8) (fun _ => rfl) _).symm | exact PubL.id _ rfl | exact PubLs.nil _ | apply PubLs.cons)), ?_⟩
    rfl
  · obtain rfl := List.eq_nil_of_length_eq_zero (hnq rfl)
    replace h : (some ([] : List UInt8)) = some r := by first | exact h | (rw [if_pos (by decide)] at h; exact h)
    refine snil ?_
    refine ccond rfl (fun _ => ?_) (fun hx => Bool.noConfusion hx)
    refine cseq ?_
    refine cregion ?_
    refine sv rfl (opv_as rfl) ?_
    refine snil ?_
    refine cret ?_
    refine then_ret ?_
    obtain rfl := Option.some.inj h
    refine ⟨Or.inr rfl, _, _, _, (resVs_cons (ResV.tmp _ _ rfl) resVs_nil), (pubC rfl), ?_⟩
    rfl

def m24_frame_Read_k1 (a0 : List UInt8) (a1 : Int) (b1 : Unit) : Option ((List UInt8) × Int × Int) :=
  (cut a0 a1 (a0.length : Int)).bind fun c2 => (m35_frame_open c2).bind fun v3 => if (!decide (v3.2 = 0)) then (some (([] : List UInt8), 0, v3.2)) else ((m36_slices_Clone v3.1.payload_).bind fun v4 => some (v4, (wI ((wI (a1 + 6)) + v3.1.head_.size_)), 0))
def m24_frame_Read (a0 : List UInt8) (a1 : Int) : Option ((List UInt8) × Int × Int) :=
  if (decide (a1 < 0)) then (some (([] : List UInt8), 0, 1)) else (if (decide ((a0.length : Int) < a1)) then (some (([] : List UInt8), 0, 1)) else (m24_frame_Read_k1 a0 a1 ()))

set_option maxRecDepth 100000 in
theorem m24_frame_Read_c {a0 : List UInt8} {a1 : Int} {r : (List UInt8) × Int × Int} (h : m24_frame_Read a0 a1 = some r) : CallsA Try.prog 24 [.one (.sl a0.length (a0.flatMap eU8)), .one (.i .i64 a1)] (· = .tup [.one (.sl r.1.length (r.1.flatMap eU8)), .one (.i .i64 r.2.1), .one (.i .i64 r.2.2)]) := by
  unfold m24_frame_Read at h
  refine callsA_of Try.func24 rfl (nt := 36) rfl (Nat.le_of_ble_eq_true rfl) ?_
  intro w0 S0
  refine cseq ?_
  refine cregion ?_
  refine sv rfl (opv_as rfl) ?_
  refine sv rfl (opv_as rfl) ?_
  refine sv rfl (opv_as rfl) ?_
  refine snil ?_
  refine cseq ?_
  refine cseq ?_
  refine cjoin3 (Unit) (fun b1 => [(0, .s (.one (.sl a0.length (a0.flatMap eU8)))), (1, .s (.one (.i .i64 a1)))]) (fun b1 => []) (fun b1 => m24_frame_Read_k1 a0 a1 b1 = some r) (fun _ _ => inbL_of rfl) (fun _ _ => blkinb_of rfl) (fun _ _ => Nat.le_of_ble_eq_true rfl) (fun b1 h => ?_) ?_
  · unfold m24_frame_Read_k1 at h
    refine cseq ?_
    refine cregion ?_
    refine sv rfl (opv_mv rfl) ?_
    refine sv rfl (opv_mv rfl) ?_
    obtain ⟨c2, hc2, h⟩ := bind_eq h
    refine sv rfl (opv_cut (f := eU8) (lo := a1) (hi := (a0.length : Int)) si22 (fun _ => rfl) rfl rfl rfl (bound_some rfl (cut_eq hc2).1.1) (by exact rfl) hc2) ?_
    obtain ⟨v3, hv3, h⟩ := bind_eq h
    refine scall1 rfl fn35 (opnds_cons rfl opnds_nil) (pubA_id rfl) (m35_frame_open_c hv3) ?_
    refine sv rfl (opv_mvt rfl) ?_
    refine sv rfl (opv_extract rfl rfl) ?_
    refine sv rfl (opv_extract rfl rfl) ?_
    refine salloc rfl zi66 ?_
    refine sstore sz66 rfl rfl rfl rfl (Nat.le_of_ble_eq_true rfl) ?_
    refine smem [.box [.i .i64 v3.1.head_.size_, .i .u32 (v3.1.head_.sum_.toNat : Int), .sl v3.1.payload_.length (v3.1.payload_.flatMap eU8)]] rfl ?_
    refine sv rfl (opv_as rfl) ?_
    refine snil ?_
    refine cseq ?_
    refine cseq ?_
    refine cregion ?_
    refine sv rfl (opv_mv rfl) ?_
    refine sv rfl (opv_ineq rfl rfl) ?_
    refine snil ?_
    refine ccond rfl (fun hc => ?_) (fun hc => ?_)
    · replace h := ite_t hc h
      clear hc
      refine cseq ?_
      refine cregion ?_
      refine sv rfl (opv_mv rfl) ?_
      refine sv rfl (opv_as rfl) ?_
      refine sv rfl (opv_as rfl) ?_
      refine sv rfl (opv_as rfl) ?_
      refine snil ?_
      refine cret ?_
      refine then_ret ?_
      obtain rfl := Option.some.inj h
      refine ⟨Or.inr rfl, _, _, _, (resVs_cons (ResV.tmp _ _ rfl) (resVs_cons (ResV.tmp _ _ rfl) (resVs_cons (ResV.tmp _ _ rfl) resVs_nil))), (pubC rfl), ?_⟩
      rfl
    · replace h := ite_f hc h
      clear hc
      refine cskip ?_
      refine then_normal ?_
      refine cseq ?_
      obtain ⟨v4, hv4, h⟩ := bind_eq h
      refine cdraw_e [] [0, 1, 3, 0, 8, 0, 32, 96, 248, 7, 1023, 2047] [[.box [.i .i64 v3.1.head_.size_, .i .u32 (v3.1.head_.sum_.toNat : Int), .sl v3.1.payload_.length (v3.1.payload_.flatMap eU8)]]] (by kernel_rfl) mixed (by kernel_rfl) (by decide) rfl rfl rfl rfl ?_
      refine ev (sees_at 0 rfl rfl) rfl rfl (opv_fieldAddr_lp fi66_1 rfl) ?_
      refine ev (sees_at 0 rfl rfl) rfl rfl (opv_load1 ti22 rfl (.lp _ _ _ rfl) rfl) ?_
      refine ed (sees_at 0 rfl rfl) rfl rfl (opD_call fn36 (opnds_cons rfl opnds_nil) rfl (m36_slices_Clone_c hv4)) ?_
      refine ev (sees_at 0 rfl rfl) rfl rfl (opv_mv rfl) ?_
      refine ev (sees_at 0 rfl rfl) rfl rfl (opv_add rfl rfl) ?_
      refine ev (sees_at 0 rfl rfl) rfl rfl (opv_fieldAddr_lp fi66_0 rfl) ?_
      refine ev (sees_at 0 rfl rfl) rfl rfl (opv_fieldAddr_lp fi64_0 rfl) ?_
      refine ev (sees_at 0 rfl rfl) rfl rfl (opv_load1 ti3 rfl (.lp _ _ _ rfl) rfl) ?_
      refine ev (sees_at 0 rfl rfl) rfl rfl (opv_add rfl rfl) ?_
      refine ev (sees_at 0 rfl rfl) rfl rfl (opv_as rfl) ?_
      refine ev (sees_at 0 rfl rfl) rfl rfl (opv_as rfl) ?_
      refine ev (sees_at 0 rfl rfl) rfl rfl (opv_as rfl) ?_
      refine enil ?_
      refine then_normal ?_
      refine cret ?_
      obtain rfl := Option.some.inj h
      refine ⟨Or.inr rfl, _, _, _, (resVs_cons (ResV.tmp _ _ rfl) (resVs_cons (ResV.tmp _ _ rfl) (resVs_cons (ResV.tmp _ _ rfl) resVs_nil))), (pubA_id rfl), ?_⟩
      rfl
  · skip
    refine cregion ?_
    refine sv rfl (opv_mv rfl) ?_
    refine sv rfl (opv_lss rfl rfl) ?_
    refine sv rfl (opv_mv rfl) ?_
    refine ssplit 11 rfl (fun hc => ?_) (fun hc => ?_)
    · replace h := ite_t hc h
      clear hc
      refine soff rfl rfl rfl rfl ?_
      refine soff rfl rfl rfl rfl ?_
      refine soff rfl rfl rfl rfl ?_
      refine soff rfl rfl rfl rfl ?_
      refine sv rfl (opv_pick_t rfl rfl) ?_
      refine snil ?_
      refine ccond rfl (fun _ => ?_) (fun hx => Bool.noConfusion hx)
      refine cseq ?_
      refine cregion ?_
      refine sv rfl (opv_as rfl) ?_
      refine sv rfl (opv_as rfl) ?_
      refine sv rfl (opv_as rfl) ?_
      refine snil ?_
      refine cret ?_
      refine then_ret ?_
      obtain rfl := Option.some.inj h
      refine ⟨Or.inr rfl, _, _, _, (resVs_cons (ResV.tmp _ _ rfl) (resVs_cons (ResV.tmp _ _ rfl) (resVs_cons (ResV.tmp _ _ rfl) resVs_nil))), (pubC rfl), ?_⟩
      rfl
    · replace h := ite_f hc h
      clear hc
      refine son rfl rfl rfl ?_
      refine sv rfl (opv_mv rfl) ?_
      refine son rfl rfl rfl ?_
      refine sv rfl (opv_mv rfl) ?_
      refine son rfl rfl rfl ?_
      refine sv rfl (opv_len_sl si22 rfl) ?_
      refine son rfl rfl rfl ?_
      refine sv rfl (opv_gtr rfl rfl) ?_
      refine sv rfl (opv_pick_f rfl rfl) ?_
      refine snil ?_
      refine ccond rfl (fun hc => ?_) (fun hc => ?_)
      · replace h := ite_t hc h
        clear hc
        refine cseq ?_
        refine cregion ?_
        refine sv rfl (opv_as rfl) ?_
        refine sv rfl (opv_as rfl) ?_
        refine sv rfl (opv_as rfl) ?_
        refine snil ?_
        refine cret ?_
        refine then_ret ?_
        obtain rfl := Option.some.inj h
        refine ⟨Or.inr rfl, _, _, _, (resVs_cons (ResV.tmp _ _ rfl) (resVs_cons (ResV.tmp _ _ rfl) (resVs_cons (ResV.tmp _ _ rfl) resVs_nil))), (pubC rfl), ?_⟩
        rfl
      · replace h := ite_f hc h
        clear hc
        refine cskip ?_
        refine then_normal ?_
        exact ⟨(), _, h, ⟨rfl, rfl, trivial⟩, rfl⟩

def m17_stream_Sane (a0 : GStreamStream) : Option Bool :=
  (m27_stream_deadly a0.Dead).bind fun v1 => if v1 then (some (decide ((a0.Buf.length : Int) = 0))) else (if (!decide (a0.Dead = 0)) then (some false) else ((m24_frame_Read a0.Buf 0).bind fun v2 => if (decide ((a0.Buf.length : Int) = 0)) then (some true) else (some (decide (v2.2.2 = 2)))))

set_option maxRecDepth 100000 in
theorem m17_stream_Sane_c {a0 : GStreamStream} {r : Bool} (h : m17_stream_Sane a0 = some r) : CallsA Try.prog 17 [.agg [.sl a0.Buf.length (a0.Buf.flatMap eU8), .i .i64 a0.Dead]] (· = .s (.one (.b r))) := by
  unfold m17_stream_Sane at h
  refine callsA_of Try.func17 rfl (nt := 31) rfl (Nat.le_of_ble_eq_true rfl) ?_
  intro w0 S0
  refine cseq ?_
  refine cregion ?_
  refine sbox rfl rfl ?_
  refine sv rfl (opv_as rfl) ?_
  refine snil ?_
  refine cseq ?_
  refine cseq ?_
  refine cregion ?_
  refine sv rfl (opv_fieldAddr_lp fi27_1 rfl) ?_
  refine sv rfl (opv_load1 ti23 rfl (.lp _ _ _ rfl) rfl) ?_
  obtain ⟨v1, hv1, h⟩ := bind_eq h
  refine scall1 rfl fn27 (opnds_cons rfl opnds_nil) (pubA_id rfl) (m27_stream_deadly_c hv1) ?_
  refine snil ?_
  refine ccond rfl (fun hc => ?_) (fun hc => ?_)
  · replace h := ite_t hc h
    clear hc
    refine cseq ?_
    refine cregion ?_
    refine sv rfl (opv_fieldAddr_lp fi27_0 rfl) ?_
    refine sv rfl (opv_load1 ti22 rfl (.lp _ _ _ rfl) rfl) ?_
    refine sv rfl (opv_len_sl si22 rfl) ?_
    refine sv rfl (opv_ieql rfl rfl) ?_
    refine sv rfl (opv_as rfl) ?_
    refine snil ?_
    refine cret ?_
    refine then_ret ?_
    obtain rfl := Option.some.inj h
    refine ⟨Or.inr rfl, _, _, _, (resVs_cons (ResV.tmp _ _ rfl) resVs_nil), (pubA_id rfl), ?_⟩
    rfl
  · replace h := ite_f hc h
    clear hc
    refine cskip ?_
    refine then_normal ?_
    refine cseq ?_
    refine cseq ?_
    refine cregion ?_
    refine sv rfl (opv_fieldAddr_lp fi27_1 rfl) ?_
    refine sv rfl (opv_load1 ti23 rfl (.lp _ _ _ rfl) rfl) ?_
    refine sv rfl (opv_ineq rfl rfl) ?_
    refine snil ?_
    refine ccond rfl (fun hc => ?_) (fun hc => ?_)
    · replace h := ite_t hc h
      clear hc
      refine cseq ?_
      refine cregion ?_
      refine sv rfl (opv_as rfl) ?_
      refine snil ?_
      refine cret ?_
      refine then_ret ?_
      obtain rfl := Option.some.inj h
      refine ⟨Or.inr rfl, _, _, _, (resVs_cons (ResV.tmp _ _ rfl) resVs_nil), (pubA_id rfl), ?_⟩
      rfl
    · replace h := ite_f hc h
      clear hc
      refine cskip ?_
      refine then_normal ?_
      refine cseq ?_
      refine cregion ?_
      refine sv rfl (opv_fieldAddr_lp fi27_0 rfl) ?_
      refine sv rfl (opv_load1 ti22 rfl (.lp _ _ _ rfl) rfl) ?_
      obtain ⟨v2, hv2, h⟩ := bind_eq h
      refine scall1 rfl fn24 (opnds_cons rfl (opnds_cons rfl opnds_nil)) (pubA_id rfl) (m24_frame_Read_c hv2) ?_
      refine sv rfl (opv_mvt rfl) ?_
      refine sv rfl (opv_extract rfl rfl) ?_
      refine sv rfl (opv_extract rfl rfl) ?_
      refine sv rfl (opv_extract rfl rfl) ?_
      refine sv rfl (opv_as rfl) ?_
      refine sv rfl (opv_as rfl) ?_
      refine sv rfl (opv_as rfl) ?_
      refine snil ?_
      refine cseq ?_
      refine cregion ?_
      refine sv rfl (opv_fieldAddr_lp fi27_0 rfl) ?_
      refine sv rfl (opv_load1 ti22 rfl (.lp _ _ _ rfl) rfl) ?_
      refine sv rfl (opv_len_sl si22 rfl) ?_
      refine sv rfl (opv_ieql rfl rfl) ?_
      refine sv rfl (opv_mv rfl) ?_
      refine ssplit 27 rfl (fun hc => ?_) (fun hc => ?_)
      · replace h := ite_t hc h
        clear hc
        refine soff rfl rfl rfl rfl ?_
        refine soff rfl rfl rfl rfl ?_
        refine sv rfl (opv_pick_t rfl rfl) ?_
        refine sv rfl (opv_as rfl) ?_
        refine snil ?_
        refine cret ?_
        obtain rfl := Option.some.inj h
        refine ⟨Or.inr rfl, _, _, _, (resVs_cons (ResV.tmp _ _ rfl) resVs_nil), (pubA_id rfl), ?_⟩
        rfl
      · replace h := ite_f hc h
        clear hc
        refine son rfl rfl rfl ?_
        refine sv rfl (opv_mv rfl) ?_
        refine son rfl rfl rfl ?_
        refine sv rfl (opv_ieql rfl rfl) ?_
        refine sv rfl (opv_pick_f rfl rfl) ?_
        refine sv rfl (opv_as rfl) ?_
        refine snil ?_
        refine cret ?_
        obtain rfl := Option.some.inj h
        refine ⟨Or.inr rfl, _, _, _, (resVs_cons (ResV.tmp _ _ rfl) resVs_nil), (pubA_id rfl), ?_⟩
        rfl

def m26_frame_All_k1 (b1 : Int × (List (List UInt8))) : Option ((List (List UInt8)) × Int × Int) :=
  some (b1.2, b1.1, 0)

def m26_frame_All_s2 (a0 : List UInt8) (s2 : Int × (List (List UInt8))) : Option (LR (Int × (List (List UInt8))) (Int × (List (List UInt8))) ((List (List UInt8)) × Int × Int)) :=
  if (decide (s2.1 < (a0.length : Int))) then ((m24_frame_Read a0 s2.1).bind fun v3 => if (!decide (v3.2.2 = 0)) then (some (.ret (s2.2, s2.1, v3.2.2))) else (if (s2.2.length + [v3.1].length) * 24 ≤ 140737488355328 then (some (.cont (v3.2.1, (s2.2 ++ [v3.1])))) else none)) else (some (.brk (s2.1, s2.2)))
def m26_frame_All (a0 : List UInt8) : Option ((List (List UInt8)) × Int × Int) :=
  (iter (m26_frame_All_s2 a0) fuel (0, ([] : List (List UInt8)))).bind fun x => match x with | .inl r => some r | .inr e5 => m26_frame_All_k1 e5

set_option maxRecDepth 100000 in
theorem m26_frame_All_c {a0 : List UInt8} {r : (List (List UInt8)) × Int × Int} (h : m26_frame_All a0 = some r) : CallsA Try.prog 26 [.one (.sl a0.length (a0.flatMap eU8))] (· = .tup [.one (.sl r.1.length (r.1.flatMap (eL eU8))), .one (.i .i64 r.2.1), .one (.i .i64 r.2.2)]) := by
  unfold m26_frame_All at h
  refine callsA_of Try.func26 rfl (nt := 33) rfl (Nat.le_of_ble_eq_true rfl) ?_
  intro w0 S0
  refine cseq ?_
  refine cregion ?_
  refine sv rfl (opv_as rfl) ?_
  refine sv rfl (opv_as rfl) ?_
  refine sv rfl (opv_as rfl) ?_
  refine snil ?_
  refine cseq ?_
  refine cregion ?_
  refine sv rfl (opv_as rfl) ?_
  refine snil ?_
  refine cseq ?_
  refine cregion ?_
  refine sv rfl (opv_as rfl) ?_
  refine snil ?_
  refine cseq ?_
  refine sadopt_c 22 1 5 (by decide) rfl ?_
  refine cjoin (Int × (List (List UInt8))) (fun b1 => [(5, .s (.one (.ls 0 b1.2.length))), (6, .s (.one (.i .i64 b1.1)))]) (fun b1 => [.arr 22 1 0 (b1.2.flatMap (eL eU8))]) (fun b1 => m26_frame_All_k1 b1 = some r) (fun _ _ => inbL_of rfl) (fun _ _ => blkinb_of rfl) (fun _ _ => Nat.le_of_ble_eq_true rfl) (fun b1 h => ?_) ?_
  · unfold m26_frame_All_k1 at h
    refine cseq ?_
    refine cregion ?_
    refine sv rfl (opv_mv rfl) ?_
    refine sv rfl (opv_mv rfl) ?_
    refine sv rfl (opv_as rfl) ?_
    refine sv rfl (opv_as rfl) ?_
    refine sv rfl (opv_as rfl) ?_
    refine snil ?_
    refine cret ?_
    obtain rfl := Option.some.inj h
    refine ⟨Or.inr rfl, _, _, _, (resVs_cons (ResV.tmp _ _ rfl) (resVs_cons (ResV.tmp _ _ rfl) (resVs_cons (ResV.tmp _ _ rfl) resVs_nil))), (by (repeat' first | exact PubA.nil _ | apply PubA.cons | apply PubV.one | apply PubV.agg | exact PubL.nil | exact PubL.ls _ _ _ _ _ _ rfl (flat_len (f := (eL eU8)) (fun _ => rfl) _).symm | exact PubL.id _ rfl | exact PubLs.nil _ | apply PubLs.cons)), ?_⟩
    rfl
  · skip
    refine cblock ?_
    obtain ⟨x2, hx2, ho2⟩ := bind_eq h
    refine awc_loop (G := Nat × (Int × (List (List UInt8)))) (fun g => [(0, .s (.one (.sl a0.length (a0.flatMap eU8)))), (5, .s (.one (.ls 0 g.2.2.length))), (6, .s (.one (.i .i64 g.2.1)))]) (fun g => [.arr 22 1 0 (g.2.2.flatMap (eL eU8))]) (fun g => iter (m26_frame_All_s2 a0) g.1 g.2 = some x2) (fun g => g.1) (fuel, (0, ([] : List (List UInt8)))) hx2 ⟨rfl, rfl, rfl, trivial⟩ [] rfl (fun _ _ => inbL_of rfl) (fun _ _ => blkinb_of rfl) (fun _ _ => Nat.le_of_ble_eq_true rfl) ?_
    clear hx2 h
    rintro ⟨n2, s2⟩ h
    obtain ⟨n2, y2, rfl, h, hk2⟩ := iter_eq h
    unfold m26_frame_All_s2 at h
    refine cseq ?_
    refine cseq ?_
    refine cregion ?_
    refine sv rfl (opv_mv rfl) ?_
    refine sv rfl (opv_mv rfl) ?_
    refine sv rfl (opv_len_sl si22 rfl) ?_
    refine sv rfl (opv_lss rfl rfl) ?_
    refine snil ?_
    refine ccond rfl (fun hc => ?_) (fun hc => ?_)
    · replace h := ite_t hc h
      clear hc
      refine cskip ?_
      refine then_normal ?_
      refine cblock ?_
      refine cseq ?_
      refine cregion ?_
      refine sv rfl (opv_mv rfl) ?_
      refine sv rfl (opv_mv rfl) ?_
      obtain ⟨v3, hv3, h⟩ := bind_eq h
      refine scall1 rfl fn24 (opnds_cons rfl (opnds_cons rfl opnds_nil)) (pubA_id rfl) (m24_frame_Read_c hv3) ?_
      refine sv rfl (opv_mvt rfl) ?_
      refine sv rfl (opv_extract rfl rfl) ?_
      refine sv rfl (opv_extract rfl rfl) ?_
      refine sv rfl (opv_extract rfl rfl) ?_
      refine sv rfl (opv_as rfl) ?_
      refine sv rfl (opv_as rfl) ?_
      refine sv rfl (opv_as rfl) ?_
      refine snil ?_
      refine cseq ?_
      refine cseq ?_
      refine cregion ?_
      refine sv rfl (opv_mv rfl) ?_
      refine sv rfl (opv_ineq rfl rfl) ?_
      refine snil ?_
      refine ccond rfl (fun hc => ?_) (fun hc => ?_)
      · replace h := ite_t hc h
        clear hc
        refine cseq ?_
        refine cregion ?_
        refine sv rfl (opv_mv rfl) ?_
        refine sv rfl (opv_mv rfl) ?_
        refine sv rfl (opv_mv rfl) ?_
        refine sv rfl (opv_as rfl) ?_
        refine sv rfl (opv_as rfl) ?_
        refine sv rfl (opv_as rfl) ?_
        refine snil ?_
        refine cret ?_
        refine then_ret ?_
        refine block_ret ?_
        refine then_ret ?_
        refine block_ret ?_
        refine then_ret ?_
        obtain rfl := Option.some.inj h
        obtain rfl : Sum.inl _ = x2 := hk2
        replace ho2 : some _ = some _ := ho2
        obtain rfl := Option.some.inj ho2
        refine ⟨Or.inr rfl, _, _, _, (resVs_cons (ResV.tmp _ _ rfl) (resVs_cons (ResV.tmp _ _ rfl) (resVs_cons (ResV.tmp _ _ rfl) resVs_nil))), (by (repeat' first | exact PubA.nil _ | apply PubA.cons | apply PubV.one | apply PubV.agg | exact PubL.nil | exact PubL.ls _ _ _ _ _ _ rfl (flat_len (f := (eL eU8)) (fun _ => rfl) _).symm | exact PubL.id _ rfl | exact PubLs.nil _ | apply PubLs.cons)), ?_⟩
        rfl
      · replace h := ite_f hc h
        clear hc
        refine cskip ?_
        refine then_normal ?_
        refine cseq ?_
        refine cregion ?_
        refine sv rfl (opv_mv rfl) ?_
        refine sv rfl (opv_mv rfl) ?_
        refine sbuild1 rfl Try.underlying28 ei22 rfl rfl (List.all_eq_true.1 rfl) (by decide) ?_
        refine smem [.arr 22 1 0 (s2.2.flatMap (eL eU8)), .arr 22 1 0 ([v3.1].flatMap (eL eU8))] rfl ?_
        obtain ⟨hb4, h⟩ := chk_eq h
        refine sapp (f := (eL eU8)) (xs := s2.2) (us := [v3.1]) rfl Try.underlying28 ei22 ni28 (fun _ => rfl) rfl rfl (.one _ _ _ _ (.ls _ _ _ _ _ _ rfl (flat_len (f := (eL eU8)) (fun _ => rfl) [v3.1]).symm)) rfl rfl rfl (.sl _ _ _ (flat_len (f := (eL eU8)) (fun _ => rfl) _)) rfl rfl hb4 (by decide) ?_
        refine sv rfl (opv_as rfl) ?_
        refine snil ?_
        refine cregion ?_
        refine sv rfl (opv_mv rfl) ?_
        refine sv rfl (opv_as rfl) ?_
        refine snil0 ?_
        refine block_normal ?_
        refine then_normal ?_
        obtain rfl := Option.some.inj h
        exact ⟨(n2, (v3.2.1, (s2.2 ++ [v3.1]))), _, hk2, ⟨rfl, rfl, rfl, trivial⟩, rfl, Nat.lt_succ_self _⟩
    · replace h := ite_f hc h
      clear hc
      refine cexit ?_
      refine then_exit ?_
      refine then_exit ?_
      refine block_hit ?_
      refine then_normal ?_
      obtain rfl := Option.some.inj h
      obtain rfl : _ = x2 := hk2
      exact ⟨(s2.1, s2.2), _, ho2, ⟨rfl, rfl, trivial⟩, rfl⟩

def m28_stream_rest (a0 : List UInt8) (a1 : Int) : Option (List UInt8) :=
  (cut a0 a1 (a0.length : Int)).bind fun c1 => if (a0.length : Int) ≤ (a0.length : Int) ∧ (a0.length : Int) ≤ (a0.length : Int) then (if (0 : Int) ≤ (c1.length : Int) ∧ (c1.length : Int) ≤ (c1.length : Int) ∧ ((1 : Nat) : Int) * (c1.length : Int) ≤ 281474976710656 then ((cut (c1.take (List.replicate (c1.length : Int).toNat (0 : UInt8)).length ++ (List.replicate (c1.length : Int).toNat (0 : UInt8)).drop c1.length) 0 ((Nat.min c1.length (List.replicate (c1.length : Int).toNat (0 : UInt8)).length : Nat) : Int)).bind fun c4 => if ((Nat.min c1.length (List.replicate (c1.length : Int).toNat (0 : UInt8)).length : Nat) : Int) ≤ ((Nat.min c1.length (List.replicate (c1.length : Int).toNat (0 : UInt8)).length : Nat) : Int) ∧ ((Nat.min c1.length (List.replicate (c1.length : Int).toNat (0 : UInt8)).length : Nat) : Int) ≤ ((c1.take (List.replicate (c1.length : Int).toNat (0 : UInt8)).length ++ (List.replicate (c1.length : Int).toNat (0 : UInt8)).drop c1.length).length : Int) then (some c4) else none) else none) else none

set_option maxRecDepth 100000 in
theorem m28_stream_rest_c {a0 : List UInt8} {a1 : Int} {r : (List UInt8)} (h : m28_stream_rest a0 a1 = some r) : CallsA Try.prog 28 [.one (.sl a0.length (a0.flatMap eU8)), .one (.i .i64 a1)] (· = .s (.one (.sl r.length (r.flatMap eU8)))) := by
  unfold m28_stream_rest at h
  refine callsA_of Try.func28 rfl (nt := 25) rfl (Nat.le_of_ble_eq_true rfl) ?_
  intro w0 S0
  refine cseq ?_
  refine cregion ?_
  refine sv rfl (opv_as rfl) ?_
  refine snil ?_
  refine cseq ?_
  refine cregion ?_
  refine sv rfl (opv_mv rfl) ?_
  refine sv rfl (opv_mv rfl) ?_
  refine sv rfl (opv_mv rfl) ?_
  refine sv rfl (opv_len_sl si22 rfl) ?_
  refine sv rfl (opv_mv rfl) ?_
  refine sv rfl (opv_len_sl si22 rfl) ?_
  obtain ⟨c1, hc1, h⟩ := bind_eq h
  obtain ⟨hs2, h⟩ := chk_eq h
  refine sv rfl (opv_cut3 (f := eU8) (lo := a1) (hi := (a0.length : Int)) (mx := (a0.length : Int)) si22 (fun _ => rfl) rfl rfl rfl (bound_some rfl (cut_eq hc1).1.1) (bound_some rfl (Int.le_trans (cut_eq hc1).1.1 (cut_eq hc1).1.2.1)) (bound_some rfl (Int.le_trans (Int.le_trans (cut_eq hc1).1.1 (cut_eq hc1).1.2.1) hs2.1)) hc1 hs2) ?_
  refine sv rfl (opv_as rfl) ?_
  refine snil ?_
  refine cseq ?_
  refine cregion ?_
  refine sv rfl (opv_mv rfl) ?_
  refine sv rfl (opv_len_sl si22 rfl) ?_
  obtain ⟨hm3, h⟩ := chk_eq h
  refine smk (f := eU8) (z := (0 : UInt8)) rfl Try.underlying22 ei5 (fun _ => rfl) rfl rfl rfl hm3 (by decide) ?_
  refine sv rfl (opv_as rfl) ?_
  refine snil ?_
  refine cseq ?_
  refine cregion ?_
  refine sv rfl (opv_mv rfl) ?_
  refine sv rfl (opv_mv rfl) ?_
  refine scopy (f := eU8) (xs := (List.replicate (c1.length : Int).toNat (0 : UInt8))) (us := c1) rfl Try.underlying22 (by kernel_rfl) (fun _ => rfl) rfl rfl rfl rfl rfl rfl rfl ?_
  refine stell 17 (y := .s (.one (.ls 0 (List.replicate (c1.length : Int).toNat (0 : UInt8)).length))) (.s (.one (.ls 0 (c1.take (List.replicate (c1.length : Int).toNat (0 : UInt8)).length ++ (List.replicate (c1.length : Int).toNat (0 : UInt8)).drop c1.length).length))) rfl (congrArg (fun n => AV.s (.one (.ls 0 n))) (copy_len _ _)) ?_
  refine stell 6 (y := .s (.one (.ls 0 (List.replicate (c1.length : Int).toNat (0 : UInt8)).length))) (.s (.one (.ls 0 (c1.take (List.replicate (c1.length : Int).toNat (0 : UInt8)).length ++ (List.replicate (c1.length : Int).toNat (0 : UInt8)).drop c1.length).length))) rfl (congrArg (fun n => AV.s (.one (.ls 0 n))) (copy_len _ _)) ?_
  refine stell 18 (y := .s (.one (.ls 0 (List.replicate (c1.length : Int).toNat (0 : UInt8)).length))) (.s (.one (.ls 0 (c1.take (List.replicate (c1.length : Int).toNat (0 : UInt8)).length ++ (List.replicate (c1.length : Int).toNat (0 : UInt8)).drop c1.length).length))) rfl (congrArg (fun n => AV.s (.one (.ls 0 n))) (copy_len _ _)) ?_
  refine sv rfl (opv_as rfl) ?_
  refine snil ?_
  refine cseq ?_
  refine cregion ?_
  refine sv rfl (opv_mv rfl) ?_
  refine sv rfl (opv_mv rfl) ?_
  refine sv rfl (opv_mv rfl) ?_
  refine spub 21 rfl (by (repeat' first | exact PubA.nil _ | apply PubA.cons | apply PubV.one | apply PubV.agg | exact PubL.nil | exact PubL.ls _ _ _ _ _ _ rfl (flat_len (f := eU8) (fun _ => rfl) _).symm | exact PubL.id _ rfl | exact PubLs.nil _ | apply PubLs.cons)) ?_
  obtain ⟨c4, hc4, h⟩ := bind_eq h
  obtain ⟨hs5, h⟩ := chk_eq h
  refine sv rfl (opv_cut3 (f := eU8) (lo := 0) (hi := ((Nat.min c1.length (List.replicate (c1.length : Int).toNat (0 : UInt8)).length : Nat) : Int)) (mx := ((Nat.min c1.length (List.replicate (c1.length : Int).toNat (0 : UInt8)).length : Nat) : Int)) si22 (fun _ => rfl) rfl rfl rfl bound_none (bound_some rfl (Int.le_trans (cut_eq hc4).1.1 (cut_eq hc4).1.2.1)) (bound_some rfl (Int.le_trans (Int.le_trans (cut_eq hc4).1.1 (cut_eq hc4).1.2.1) hs5.1)) hc4 hs5) ?_
  refine sv rfl (opv_as rfl) ?_
  refine snil ?_
  refine cret ?_
  obtain rfl := Option.some.inj h
  refine ⟨Or.inr rfl, _, _, _, (resVs_cons (ResV.tmp _ _ rfl) resVs_nil), (pubA_id rfl), ?_⟩
  rfl

def m11_stream_Feed (a0 : GStreamStream) (a1 : List UInt8) : Option (GStreamStream × (List (List UInt8)) × Int) :=
  (m17_stream_Sane (GStreamStream.mk a0.Buf a0.Dead)).bind fun v1 => if (!v1) then (some ((GStreamStream.mk ([] : List UInt8) 0), ([] : List (List UInt8)), 1)) else (if (!decide (a0.Dead = 0)) then (some ((GStreamStream.mk a0.Buf a0.Dead), ([] : List (List UInt8)), 13)) else ((m25_slices_Concato [a0.Buf, a1]).bind fun v2 => (m26_frame_All v2).bind fun v3 => (m27_stream_deadly v3.2.2).bind fun v4 => if v4 then (some ((GStreamStream.mk ([] : List UInt8) v3.2.2), v3.1, v3.2.2)) else ((m28_stream_rest v2 v3.2.1).bind fun v5 => some ((GStreamStream.mk v5 0), v3.1, 0))))

set_option maxRecDepth 100000 in
theorem m11_stream_Feed_c {a0 : GStreamStream} {a1 : List UInt8} {r : GStreamStream × (List (List UInt8)) × Int} (h : m11_stream_Feed a0 a1 = some r) : CallsA Try.prog 11 [.agg [.sl a0.Buf.length (a0.Buf.flatMap eU8), .i .i64 a0.Dead], .one (.sl a1.length (a1.flatMap eU8))] (· = .tup [.agg [.sl r.1.Buf.length (r.1.Buf.flatMap eU8), .i .i64 r.1.Dead], .one (.sl r.2.1.length (r.2.1.flatMap (eL eU8))), .one (.i .i64 r.2.2)]) := by
  unfold m11_stream_Feed at h
  refine callsA_of Try.func11 rfl (nt := 41) rfl (Nat.le_of_ble_eq_true rfl) ?_
  intro w0 S0
  refine cseq ?_
  refine cregion ?_
  refine sbox rfl rfl ?_
  refine salloc rfl zi27 ?_
  refine sv rfl (opv_as rfl) ?_
  refine sv rfl (opv_as rfl) ?_
  refine snil ?_
  refine cseq ?_
  refine cseq ?_
  refine cregion ?_
  refine sv rfl (opv_loadN ti27 rfl (.lp _ _ _ rfl) (Nat.le_of_ble_eq_true rfl)) ?_
  obtain ⟨v1, hv1, h⟩ := bind_eq h
  refine scall1 rfl fn17 (opnds_cons rfl opnds_nil) (pubA_id rfl) (m17_stream_Sane_c hv1) ?_
  refine sv rfl (opv_not rfl) ?_
  refine snil ?_
  refine ccond rfl (fun hc => ?_) (fun hc => ?_)
  · replace h := ite_t hc h
    clear hc
    refine cseq ?_
    refine cregion ?_
    refine sv rfl (opv_build zi27 pi27 parts_nil (.nil _)) ?_
    refine sstore sz27 rfl rfl rfl rfl (Nat.le_of_ble_eq_true rfl) ?_
    refine smem [.box [.sl a0.Buf.length (a0.Buf.flatMap eU8), .i .i64 a0.Dead], .box [.raw (.slice none 0 0), .i .i64 0]] rfl ?_
    refine sv rfl (opv_as rfl) ?_
    refine sv rfl (opv_as rfl) ?_
    refine snil ?_
    refine cret ?_
    refine then_ret ?_
    obtain rfl := Option.some.inj h
    refine ⟨Or.inr rfl, _, _, _, (resVs_cons (ResV.agg _ _ _ _ _ ti27 rfl (.lp _ _ _ rfl) (Nat.le_of_ble_eq_true rfl)) (resVs_cons (ResV.tmp _ _ rfl) (resVs_cons (ResV.tmp _ _ rfl) resVs_nil))), (pubC rfl), ?_⟩
    rfl
  · replace h := ite_f hc h
    clear hc
    refine cskip ?_
    refine then_normal ?_
    refine cseq ?_
    refine cseq ?_
    refine cregion ?_
    refine sv rfl (opv_fieldAddr_lp fi27_1 rfl) ?_
    refine sv rfl (opv_load1 ti23 rfl (.lp _ _ _ rfl) rfl) ?_
    refine sv rfl (opv_ineq rfl rfl) ?_
    refine snil ?_
    refine ccond rfl (fun hc => ?_) (fun hc => ?_)
    · replace h := ite_t hc h
      clear hc
      refine cseq ?_
      refine cregion ?_
      refine sv rfl (opv_loadN ti27 rfl (.lp _ _ _ rfl) (Nat.le_of_ble_eq_true rfl)) ?_
      refine sstore sz27 rfl rfl rfl rfl (Nat.le_of_ble_eq_true rfl) ?_
      refine smem [.box [.sl a0.Buf.length (a0.Buf.flatMap eU8), .i .i64 a0.Dead], .box [.sl a0.Buf.length (a0.Buf.flatMap eU8), .i .i64 a0.Dead]] rfl ?_
      refine sv rfl (opv_as rfl) ?_
      refine sv rfl (opv_as rfl) ?_
      refine snil ?_
      refine cret ?_
      refine then_ret ?_
      obtain rfl := Option.some.inj h
      refine ⟨Or.inr rfl, _, _, _, (resVs_cons (ResV.agg _ _ _ _ _ ti27 rfl (.lp _ _ _ rfl) (Nat.le_of_ble_eq_true rfl)) (resVs_cons (ResV.tmp _ _ rfl) (resVs_cons (ResV.tmp _ _ rfl) resVs_nil))), (pubC rfl), ?_⟩
      rfl
    · replace h := ite_f hc h
      clear hc
      refine cskip ?_
      refine then_normal ?_
      refine cseq ?_
      refine cregion ?_
      refine sv rfl (opv_fieldAddr_lp fi27_0 rfl) ?_
      refine sv rfl (opv_load1 ti22 rfl (.lp _ _ _ rfl) rfl) ?_
      refine sv rfl (opv_mv rfl) ?_
      refine sbuildN (out := ([a0.Buf, a1] : List (List UInt8)).flatMap (eL eU8)) rfl Try.underlying28 ei22 (parts_cons rfl (parts_cons rfl parts_nil)) (.cons _ _ _ _ _ _ _ rfl rfl (Nat.le_of_ble_eq_true rfl) (.cons _ _ _ _ _ _ _ rfl rfl (Nat.le_of_ble_eq_true rfl) (.nil _))) rfl (by decide) ?_
      refine spub 22 rfl (by (repeat' first | exact PubA.nil _ | apply PubA.cons | apply PubV.one | apply PubV.agg | exact PubL.nil | exact PubL.ls _ _ _ _ _ _ rfl (flat_len (f := (eL eU8)) (fun _ => rfl) ([a0.Buf, a1] : List (List UInt8))).symm | exact PubL.ls _ _ _ _ _ _ rfl (flat_len (f := (eL eU8)) (fun _ => rfl) _).symm | exact PubL.id _ rfl | exact PubLs.nil _ | apply PubLs.cons)) ?_
      obtain ⟨v2, hv2, h⟩ := bind_eq h
      refine scallB (x' := .s (.one (.ls 3 v2.length))) (M' := [.box [.sl a0.Buf.length (a0.Buf.flatMap eU8), .i .i64 a0.Dead], .box [.raw (.slice none 0 0), .i .i64 0], .arr 22 1 ([a0.Buf, a1].flatMap (eL eU8)).length ([a0.Buf, a1].flatMap (eL eU8)), .arr 5 1 0 (v2.flatMap eU8)]) [] rfl fn25 (.func _) (opnds_cons rfl opnds_nil) (m25_slices_Concato_c hv2) rfl rfl (by decide) rfl rfl rfl ?_
      refine sv rfl (opv_as rfl) ?_
      refine snil ?_
      refine cseq ?_
      refine cregion ?_
      refine sv rfl (opv_mv rfl) ?_
      refine spub 25 rfl (by (repeat' first | exact PubA.nil _ | apply PubA.cons | apply PubV.one | apply PubV.agg | exact PubL.nil | exact PubL.ls _ _ _ _ _ _ rfl (flat_len (f := (eL eU8)) (fun _ => rfl) _).symm | exact PubL.ls _ _ _ _ _ _ rfl (flat_len (f := eU8) (fun _ => rfl) _).symm | exact PubL.id _ rfl | exact PubLs.nil _ | apply PubLs.cons)) ?_
      obtain ⟨v3, hv3, h⟩ := bind_eq h
      refine scall1 rfl fn26 (opnds_cons rfl opnds_nil) (pubA_id rfl) (m26_frame_All_c hv3) ?_
      refine sv rfl (opv_mvt rfl) ?_
      refine sv rfl (opv_extract rfl rfl) ?_
      refine sv rfl (opv_extract rfl rfl) ?_
      refine sv rfl (opv_extract rfl rfl) ?_
      refine sv rfl (opv_as rfl) ?_
      refine sv rfl (opv_as rfl) ?_
      refine sv rfl (opv_as rfl) ?_
      refine snil ?_
      refine cseq ?_
      refine cseq ?_
      refine cregion ?_
      refine sv rfl (opv_mv rfl) ?_
      obtain ⟨v4, hv4, h⟩ := bind_eq h
      refine scall1 rfl fn27 (opnds_cons rfl opnds_nil) (pubA_id rfl) (m27_stream_deadly_c hv4) ?_
      refine snil ?_
      refine ccond rfl (fun hc => ?_) (fun hc => ?_)
      · replace h := ite_t hc h
        clear hc
        refine cseq ?_
        refine cregion ?_
        refine sv rfl (opv_mv rfl) ?_
        refine sv rfl (opv_build zi27 pi27 (parts_cons rfl parts_nil) (.cons _ _ _ _ _ _ _ rfl rfl (Nat.le_of_ble_eq_true rfl) (.nil _))) ?_
        refine sv rfl (opv_mv rfl) ?_
        refine sv rfl (opv_mv rfl) ?_
        refine sstore sz27 rfl rfl rfl rfl (Nat.le_of_ble_eq_true rfl) ?_
        refine smem [.box [.sl a0.Buf.length (a0.Buf.flatMap eU8), .i .i64 a0.Dead], .box [.raw (.slice none 0 0), .i .i64 v3.2.2], .arr 22 1 ([a0.Buf, a1].flatMap (eL eU8)).length ([a0.Buf, a1].flatMap (eL eU8)), .arr 5 1 (v2.flatMap eU8).length (v2.flatMap eU8)] rfl ?_
        refine sv rfl (opv_as rfl) ?_
        refine sv rfl (opv_as rfl) ?_
        refine snil ?_
        refine cret ?_
        refine then_ret ?_
        obtain rfl := Option.some.inj h
        refine ⟨Or.inr rfl, _, _, _, (resVs_cons (ResV.agg _ _ _ _ _ ti27 rfl (.lp _ _ _ rfl) (Nat.le_of_ble_eq_true rfl)) (resVs_cons (ResV.tmp _ _ rfl) (resVs_cons (ResV.tmp _ _ rfl) resVs_nil))), (pubC rfl), ?_⟩
        rfl
      · replace h := ite_f hc h
        clear hc
        refine cskip ?_
        refine then_normal ?_
        refine cseq ?_
        refine cregion ?_
        refine sv rfl (opv_mv rfl) ?_
        refine sv rfl (opv_mv rfl) ?_
        refine spub 36 rfl (by (repeat' first | exact PubA.nil _ | apply PubA.cons | apply PubV.one | apply PubV.agg | exact PubL.nil | exact PubL.ls _ _ _ _ _ _ rfl (flat_len (f := (eL eU8)) (fun _ => rfl) _).symm | exact PubL.ls _ _ _ _ _ _ rfl (flat_len (f := eU8) (fun _ => rfl) _).symm | exact PubL.id _ rfl | exact PubLs.nil _ | apply PubLs.cons)) ?_
        obtain ⟨v5, hv5, h⟩ := bind_eq h
        refine scall1 rfl fn28 (opnds_cons rfl (opnds_cons rfl opnds_nil)) (pubA_id rfl) (m28_stream_rest_c hv5) ?_
        refine sv rfl (opv_build zi27 pi27 (parts_cons rfl parts_nil) (.cons _ _ _ _ _ _ _ rfl rfl (Nat.le_of_ble_eq_true rfl) (.nil _))) ?_
        refine sv rfl (opv_mv rfl) ?_
        refine sstore sz27 rfl rfl rfl rfl (Nat.le_of_ble_eq_true rfl) ?_
        refine smem [.box [.sl a0.Buf.length (a0.Buf.flatMap eU8), .i .i64 a0.Dead], .box [.sl v5.length (v5.flatMap eU8), .i .i64 0], .arr 22 1 ([a0.Buf, a1].flatMap (eL eU8)).length ([a0.Buf, a1].flatMap (eL eU8)), .arr 5 1 (v2.flatMap eU8).length (v2.flatMap eU8)] rfl ?_
        refine sv rfl (opv_as rfl) ?_
        refine sv rfl (opv_as rfl) ?_
        refine snil ?_
        refine cret ?_
        obtain rfl := Option.some.inj h
        refine ⟨Or.inr rfl, _, _, _, (resVs_cons (ResV.agg _ _ _ _ _ ti27 rfl (.lp _ _ _ rfl) (Nat.le_of_ble_eq_true rfl)) (resVs_cons (ResV.tmp _ _ rfl) (resVs_cons (ResV.tmp _ _ rfl) resVs_nil))), (pubA_id rfl), ?_⟩
        rfl

def m19_stream_Wants_k1 (a0 : GStreamStream) (b1 : Unit) : Option Int :=
  if (decide ((a0.Buf.length : Int) < 6)) then (some (wI (6 - (a0.Buf.length : Int)))) else ((m31_enc_News a0.Buf).bind fun v2 => (m32_enc_Reader_Us 2 v2.1 v2.2.1 v2.2.2).bind fun v3 => some (wI ((wI (6 + (wI (v3.1.toNat : Int)))) - (a0.Buf.length : Int))))
def m19_stream_Wants (a0 : GStreamStream) : Option Int :=
  (m17_stream_Sane (GStreamStream.mk a0.Buf a0.Dead)).bind fun v4 => if (!v4) then (some 0) else (if (!decide (a0.Dead = 0)) then (some 0) else (m19_stream_Wants_k1 a0 ()))

set_option maxRecDepth 100000 in
theorem m19_stream_Wants_c {a0 : GStreamStream} {r : Int} (h : m19_stream_Wants a0 = some r) : CallsA Try.prog 19 [.agg [.sl a0.Buf.length (a0.Buf.flatMap eU8), .i .i64 a0.Dead]] (· = .s (.one (.i .i64 r))) := by
  unfold m19_stream_Wants at h
  refine callsA_of Try.func19 rfl (nt := 31) rfl (Nat.le_of_ble_eq_true rfl) ?_
  intro w0 S0
  refine cseq ?_
  refine cregion ?_
  refine sbox rfl rfl ?_
  refine sv rfl (opv_as rfl) ?_
  refine snil ?_
  refine cseq ?_
  refine cseq ?_
  refine cjoin3 (Unit) (fun b1 => [(1, .s (.one (.lp 0 0)))]) (fun b1 => [.box [.sl a0.Buf.length (a0.Buf.flatMap eU8), .i .i64 a0.Dead]]) (fun b1 => m19_stream_Wants_k1 a0 b1 = some r) (fun _ _ => inbL_of rfl) (fun _ _ => blkinb_of rfl) (fun _ _ => Nat.le_of_ble_eq_true rfl) (fun b1 h => ?_) ?_
  · unfold m19_stream_Wants_k1 at h
    refine cseq ?_
    refine cseq ?_
    refine cregion ?_
    refine sv rfl (opv_fieldAddr_lp fi27_0 rfl) ?_
    refine sv rfl (opv_load1 ti22 rfl (.lp _ _ _ rfl) rfl) ?_
    refine sv rfl (opv_len_sl si22 rfl) ?_
    refine sv rfl (opv_lss rfl rfl) ?_
    refine snil ?_
    refine ccond rfl (fun hc => ?_) (fun hc => ?_)
    · replace h := ite_t hc h
      clear hc
      refine cseq ?_
      refine cregion ?_
      refine sv rfl (opv_fieldAddr_lp fi27_0 rfl) ?_
      refine sv rfl (opv_load1 ti22 rfl (.lp _ _ _ rfl) rfl) ?_
      refine sv rfl (opv_len_sl si22 rfl) ?_
      refine sv rfl (opv_sub rfl rfl) ?_
      refine sv rfl (opv_as rfl) ?_
      refine snil ?_
      refine cret ?_
      refine then_ret ?_
      obtain rfl := Option.some.inj h
      refine ⟨Or.inr rfl, _, _, _, (resVs_cons (ResV.tmp _ _ rfl) resVs_nil), (pubA_id rfl), ?_⟩
      rfl
    · replace h := ite_f hc h
      clear hc
      refine cskip ?_
      refine then_normal ?_
      refine cseq ?_
      refine cregion ?_
      refine sv rfl (opv_fieldAddr_lp fi27_0 rfl) ?_
      refine sv rfl (opv_load1 ti22 rfl (.lp _ _ _ rfl) rfl) ?_
      obtain ⟨v2, hv2, h⟩ := bind_eq h
      refine scallB (x' := .s (.one (.lp 1 0))) (M' := [.box [.sl a0.Buf.length (a0.Buf.flatMap eU8), .i .i64 a0.Dead], .box [.fn 39 [] [.lp 2 0, .lp 3 0], .i .i64 v2.1], .box [.i .i64 v2.2.1], .box [.sl v2.2.2.length (v2.2.2.flatMap eU8)]]) [] rfl fn31 (.func _) (opnds_cons rfl opnds_nil) (m31_enc_News_c hv2) rfl rfl (by decide) rfl rfl rfl ?_
      obtain ⟨v3, hv3, h⟩ := bind_eq h
      refine scallB (x' := .s (.one (.i .u64 (v3.1.toNat : Int)))) (M' := [.box [.sl a0.Buf.length (a0.Buf.flatMap eU8), .i .i64 a0.Dead], .box [.fn 39 [] [.lp 2 0, .lp 3 0], .i .i64 v3.2.1], .box [.i .i64 v3.2.2], .box [.sl v2.2.2.length (v2.2.2.flatMap eU8)]]) [1, 2, 3] rfl fn32 (.func _) (opnds_cons rfl (opnds_cons rfl opnds_nil)) (m32_enc_Reader_Us_c hv3) rfl rfl (by decide) rfl rfl rfl ?_
      refine sv rfl (opv_conv_int Try.underlying58 Try.underlying3 rfl) ?_
      refine sv rfl (opv_as rfl) ?_
      refine snil ?_
      refine cseq ?_
      refine cregion ?_
      refine sv rfl (opv_mv rfl) ?_
      refine sv rfl (opv_add rfl rfl) ?_
      refine sv rfl (opv_fieldAddr_lp fi27_0 rfl) ?_
      refine sv rfl (opv_load1 ti22 rfl (.lp _ _ _ rfl) rfl) ?_
      refine sv rfl (opv_len_sl si22 rfl) ?_
      refine sv rfl (opv_sub rfl rfl) ?_
      refine sv rfl (opv_as rfl) ?_
      refine snil ?_
      refine cret ?_
      obtain rfl := Option.some.inj h
      refine ⟨Or.inr rfl, _, _, _, (resVs_cons (ResV.tmp _ _ rfl) resVs_nil), (pubA_id rfl), ?_⟩
      rfl
  · skip
    refine cregion ?_
    refine sv rfl (opv_loadN ti27 rfl (.lp _ _ _ rfl) (Nat.le_of_ble_eq_true rfl)) ?_
    obtain ⟨v4, hv4, h⟩ := bind_eq h
    refine scall1 rfl fn17 (opnds_cons rfl opnds_nil) (pubA_id rfl) (m17_stream_Sane_c hv4) ?_
    refine sv rfl (opv_not rfl) ?_
    refine sv rfl (opv_mv rfl) ?_
    refine ssplit 7 rfl (fun hc => ?_) (fun hc => ?_)
    · replace h := ite_t hc h
      clear hc
      refine soff rfl rfl rfl rfl ?_
      refine soff rfl rfl rfl rfl ?_
      refine soff rfl rfl rfl rfl ?_
      refine sv rfl (opv_pick_t rfl rfl) ?_
      refine snil ?_
      refine ccond rfl (fun _ => ?_) (fun hx => Bool.noConfusion hx)
      refine cseq ?_
      refine cregion ?_
      refine sv rfl (opv_as rfl) ?_
      refine snil ?_
      refine cret ?_
      refine then_ret ?_
      obtain rfl := Option.some.inj h
      refine ⟨Or.inr rfl, _, _, _, (resVs_cons (ResV.tmp _ _ rfl) resVs_nil), (pubA_id rfl), ?_⟩
      rfl
    · replace h := ite_f hc h
      clear hc
      refine son rfl rfl rfl ?_
      refine sv rfl (opv_fieldAddr_lp fi27_1 rfl) ?_
      refine son rfl rfl rfl ?_
      refine sv rfl (opv_load1 ti23 rfl (.lp _ _ _ rfl) rfl) ?_
      refine son rfl rfl rfl ?_
      refine sv rfl (opv_ineq rfl rfl) ?_
      refine sv rfl (opv_pick_f rfl rfl) ?_
      refine snil ?_
      refine ccond rfl (fun hc => ?_) (fun hc => ?_)
      · replace h := ite_t hc h
        clear hc
        refine cseq ?_
        refine cregion ?_
        refine sv rfl (opv_as rfl) ?_
        refine snil ?_
        refine cret ?_
        refine then_ret ?_
        obtain rfl := Option.some.inj h
        refine ⟨Or.inr rfl, _, _, _, (resVs_cons (ResV.tmp _ _ rfl) resVs_nil), (pubA_id rfl), ?_⟩
        rfl
      · replace h := ite_f hc h
        clear hc
        refine cskip ?_
        refine then_normal ?_
        exact ⟨(), _, h, ⟨rfl, trivial⟩, rfl⟩

def m10_l04_awake_k2 (v1 : (List UInt8) × Int) (b2 : Int × (List UInt8) × Int) : Option Bool :=
  if (decide (v1.2 = 0)) then (if (decide (b2.1 = 1)) then ((m19_stream_Wants (GStreamStream.mk b2.2.1 b2.2.2)).bind fun v3 => some (decide (v3 = 6))) else (some false)) else (some false)

def m10_l04_awake_k7 (s4 : Int × Int × (List UInt8) × Int) (v6 : GStreamStream × (List (List UInt8)) × Int) (b7 : Unit) : Option (LR (Int × Int × (List UInt8) × Int) (Int × (List UInt8) × Int) (Bool)) :=
  some (.cont ((wI (s4.1 + (v6.2.1.length : Int))), (wI (s4.2.1 + 1)), v6.1.Buf, v6.1.Dead))

def m10_l04_awake_s4 (v1 : (List UInt8) × Int) (s4 : Int × Int × (List UInt8) × Int) : Option (LR (Int × Int × (List UInt8) × Int) (Int × (List UInt8) × Int) (Bool)) :=
  if (decide (s4.2.1 < (v1.1.length : Int))) then ((cut v1.1 s4.2.1 (wI (s4.2.1 + 1))).bind fun c5 => (m11_stream_Feed (GStreamStream.mk s4.2.2.1 s4.2.2.2) c5).bind fun v6 => if (!decide (v6.2.2 = 0)) then (some (.ret false)) else (if (decide (0 < (v6.2.1.length : Int))) then (if (decide (s4.2.1 < 6)) then (some (.ret false)) else (m10_l04_awake_k7 s4 v6 ())) else (m10_l04_awake_k7 s4 v6 ()))) else (some (.brk (s4.1, s4.2.2.1, s4.2.2.2)))
def m10_l04_awake  : Option Bool :=
  (m23_frame_Put ([] : List UInt8) [(UInt8.ofBitVec (97#8))]).bind fun v1 => (iter (m10_l04_awake_s4 v1) fuel (0, 0, ([] : List UInt8), 0)).bind fun x => match x with | .inl r => some r | .inr e8 => m10_l04_awake_k2 v1 e8

set_option maxRecDepth 100000 in
theorem m10_l04_awake_c  {r : Bool} (h : m10_l04_awake = some r) : CallsA Try.prog 10 [] (· = .s (.one (.b r))) := by
  unfold m10_l04_awake at h
  refine callsA_of Try.func10 rfl (nt := 60) rfl (Nat.le_of_ble_eq_true rfl) ?_
  intro w0 S0
  refine cseq ?_
  refine cregion ?_
  refine sv rfl (opv_as rfl) ?_
  refine snil ?_
  refine cseq ?_
  refine cregion ?_
  refine sbuild1 rfl Try.underlying22 ei5 rfl rfl (List.all_eq_true.1 rfl) (by decide) ?_
  refine smem [.arr 5 1 0 ([(UInt8.ofBitVec (97#8))].flatMap eU8)] rfl ?_
  refine sconv_id rfl Try.underlying22 Try.underlying5 rfl rfl (flat_len (f := eU8) (fun _ => rfl) [(UInt8.ofBitVec (97#8))]).symm (by decide) ?_
  obtain ⟨v1, hv1, h⟩ := bind_eq h
  refine scall1 rfl fn23 (opnds_cons rfl (opnds_cons rfl opnds_nil)) (pubC rfl) (m23_frame_Put_c hv1) ?_
  refine sv rfl (opv_mvt rfl) ?_
  refine sv rfl (opv_extract rfl rfl) ?_
  refine sv rfl (opv_extract rfl rfl) ?_
  refine sv rfl (opv_as rfl) ?_
  refine sv rfl (opv_as rfl) ?_
  refine snil ?_
  refine cseq ?_
  refine cregion ?_
  refine sv rfl (opv_build zi27 pi27 parts_nil (.nil _)) ?_
  refine salloc rfl zi27 ?_
  refine sstore sz27 rfl rfl rfl rfl (Nat.le_of_ble_eq_true rfl) ?_
  refine smem [.dead, .box [.raw (.slice none 0 0), .i .i64 0]] rfl ?_
  refine snil ?_
  refine cseq ?_
  refine cregion ?_
  refine sv rfl (opv_as rfl) ?_
  refine snil ?_
  refine cseq ?_
  refine cseq ?_
  refine cregion ?_
  refine sv rfl (opv_as rfl) ?_
  refine snil ?_
  refine cjoin (Int × (List UInt8) × Int) (fun b2 => [(2, .s (.one (.i .i64 v1.2))), (3, .s (.one (.lp 1 0))), (4, .s (.one (.i .i64 b2.1)))]) (fun b2 => [.dead, .box [.sl b2.2.1.length (b2.2.1.flatMap eU8), .i .i64 b2.2.2]]) (fun b2 => m10_l04_awake_k2 v1 b2 = some r) (fun _ _ => inbL_of rfl) (fun _ _ => blkinb_of rfl) (fun _ _ => Nat.le_of_ble_eq_true rfl) (fun b2 h => ?_) ?_
  · unfold m10_l04_awake_k2 at h
    refine cseq ?_
    refine cregion ?_
    refine sv rfl (opv_mv rfl) ?_
    refine sv rfl (opv_ieql rfl rfl) ?_
    refine sv rfl (opv_mv rfl) ?_
    refine ssplit 51 rfl (fun hc => ?_) (fun hc => ?_)
    · replace h := ite_t hc h
      clear hc
      refine son rfl rfl rfl ?_
      refine sv rfl (opv_mv rfl) ?_
      refine son rfl rfl rfl ?_
      refine sv rfl (opv_ieql rfl rfl) ?_
      refine sv rfl (opv_pick_t rfl rfl) ?_
      refine sv rfl (opv_mv rfl) ?_
      refine ssplit 55 rfl (fun hc => ?_) (fun hc => ?_)
      · replace h := ite_t hc h
        clear hc
        refine son rfl rfl rfl ?_
        refine sv rfl (opv_loadN ti27 rfl (.lp _ _ _ rfl) (Nat.le_of_ble_eq_true rfl)) ?_
        refine son rfl rfl rfl ?_
        obtain ⟨v3, hv3, h⟩ := bind_eq h
        refine scall1 rfl fn19 (opnds_cons rfl opnds_nil) (pubA_id rfl) (m19_stream_Wants_c hv3) ?_
        refine son rfl rfl rfl ?_
        refine sv rfl (opv_ieql rfl rfl) ?_
        refine sv rfl (opv_pick_t rfl rfl) ?_
        refine sv rfl (opv_as rfl) ?_
        refine snil ?_
        refine cret ?_
        obtain rfl := Option.some.inj h
        refine ⟨Or.inr rfl, _, _, _, (resVs_cons (ResV.tmp _ _ rfl) resVs_nil), (pubA_id rfl), ?_⟩
        rfl
      · replace h := ite_f hc h
        clear hc
        refine soff rfl rfl rfl rfl ?_
        refine soff rfl rfl rfl rfl ?_
        refine soff rfl rfl rfl rfl ?_
        refine sv rfl (opv_pick_f rfl rfl) ?_
        refine sv rfl (opv_as rfl) ?_
        refine snil ?_
        refine cret ?_
        obtain rfl := Option.some.inj h
        refine ⟨Or.inr rfl, _, _, _, (resVs_cons (ResV.tmp _ _ rfl) resVs_nil), (pubA_id rfl), ?_⟩
        rfl
    · replace h := ite_f hc h
      clear hc
      refine soff rfl rfl rfl rfl ?_
      refine soff rfl rfl rfl rfl ?_
      refine sv rfl (opv_pick_f rfl rfl) ?_
      refine sv rfl (opv_mv rfl) ?_
      refine soff rfl rfl rfl rfl ?_
      refine soff rfl rfl rfl rfl ?_
      refine soff rfl rfl rfl rfl ?_
      refine sv rfl (opv_pick_f rfl rfl) ?_
      refine sv rfl (opv_as rfl) ?_
      refine snil ?_
      refine cret ?_
      obtain rfl := Option.some.inj h
      refine ⟨Or.inr rfl, _, _, _, (resVs_cons (ResV.tmp _ _ rfl) resVs_nil), (pubA_id rfl), ?_⟩
      rfl
  · skip
    refine cblock ?_
    refine cpubbox 1 0 rfl rfl PubL.nil rfl ?_
    obtain ⟨x4, hx4, ho4⟩ := bind_eq h
    refine awc_loop (G := Nat × (Int × Int × (List UInt8) × Int)) (fun g => [(1, .s (.one (.sl v1.1.length (v1.1.flatMap eU8)))), (2, .s (.one (.i .i64 v1.2))), (3, .s (.one (.lp 1 0))), (4, .s (.one (.i .i64 g.2.1))), (5, .s (.one (.i .i64 g.2.2.1)))]) (fun g => [.dead, .box [.sl g.2.2.2.1.length (g.2.2.2.1.flatMap eU8), .i .i64 g.2.2.2.2]]) (fun g => iter (m10_l04_awake_s4 v1) g.1 g.2 = some x4) (fun g => g.1) (fuel, (0, 0, ([] : List UInt8), 0)) hx4 ⟨rfl, rfl, rfl, rfl, rfl, trivial⟩ [] rfl (fun _ _ => inbL_of rfl) (fun _ _ => blkinb_of rfl) (fun _ _ => Nat.le_of_ble_eq_true rfl) ?_
    clear hx4 h
    rintro ⟨n4, s4⟩ h
    obtain ⟨n4, y4, rfl, h, hk4⟩ := iter_eq h
    unfold m10_l04_awake_s4 at h
    refine cseq ?_
    refine cseq ?_
    refine cregion ?_
    refine sv rfl (opv_mv rfl) ?_
    refine sv rfl (opv_mv rfl) ?_
    refine sv rfl (opv_len_sl si22 rfl) ?_
    refine sv rfl (opv_lss rfl rfl) ?_
    refine snil ?_
    refine ccond rfl (fun hc => ?_) (fun hc => ?_)
    · replace h := ite_t hc h
      clear hc
      refine cskip ?_
      refine then_normal ?_
      refine cseq ?_
      refine cblock ?_
      refine cseq ?_
      refine chole ?_
      obtain ⟨c5, hc5, h⟩ := bind_eq h
      obtain ⟨v6, hv6, h⟩ := bind_eq h
      refine cdraw_e [11, 12] [0, 0, 0, 0, 8, 30, 63, 127, 255, 255, 255, 0, 2559, 7167, 16383] [[.dead, .box [.sl s4.2.2.1.length (s4.2.2.1.flatMap eU8), .i .i64 s4.2.2.2], .hole], [.dead, .box [.sl s4.2.2.1.length (s4.2.2.1.flatMap eU8), .i .i64 s4.2.2.2], .box [.raw (.slice none 0 0), .i .i64 0]], [.dead, .box [.sl s4.2.2.1.length (s4.2.2.1.flatMap eU8), .i .i64 s4.2.2.2], .box [.sl v6.1.Buf.length (v6.1.Buf.flatMap eU8), .i .i64 v6.1.Dead]]] (by kernel_rfl) mixed (by kernel_rfl) (by decide) rfl rfl rfl rfl ?_
      refine ev (sees_all (md := [.dead, .box [.sl s4.2.2.1.length (s4.2.2.1.flatMap eU8), .i .i64 s4.2.2.2], .dead]) ⟨⟨trivial, ⟨rfl, ⟨trivial, trivial⟩⟩⟩, ⟨⟨trivial, ⟨rfl, ⟨trivial, trivial⟩⟩⟩, ⟨⟨trivial, ⟨rfl, ⟨trivial, trivial⟩⟩⟩, trivial⟩⟩⟩) rfl rfl (opv_loadN ti27 rfl (.lp _ _ _ rfl) (Nat.le_of_ble_eq_true rfl)) ?_
      refine ev (sees_all (md := [.dead, .box [.sl s4.2.2.1.length (s4.2.2.1.flatMap eU8), .i .i64 s4.2.2.2], .dead]) ⟨⟨trivial, ⟨rfl, ⟨trivial, trivial⟩⟩⟩, ⟨⟨trivial, ⟨rfl, ⟨trivial, trivial⟩⟩⟩, ⟨⟨trivial, ⟨rfl, ⟨trivial, trivial⟩⟩⟩, trivial⟩⟩⟩) rfl rfl (opv_mv rfl) ?_
      refine ev (sees_all (md := [.dead, .box [.sl s4.2.2.1.length (s4.2.2.1.flatMap eU8), .i .i64 s4.2.2.2], .dead]) ⟨⟨trivial, ⟨rfl, ⟨trivial, trivial⟩⟩⟩, ⟨⟨trivial, ⟨rfl, ⟨trivial, trivial⟩⟩⟩, ⟨⟨trivial, ⟨rfl, ⟨trivial, trivial⟩⟩⟩, trivial⟩⟩⟩) rfl rfl (opv_mv rfl) ?_
      refine ev (sees_all (md := [.dead, .box [.sl s4.2.2.1.length (s4.2.2.1.flatMap eU8), .i .i64 s4.2.2.2], .dead]) ⟨⟨trivial, ⟨rfl, ⟨trivial, trivial⟩⟩⟩, ⟨⟨trivial, ⟨rfl, ⟨trivial, trivial⟩⟩⟩, ⟨⟨trivial, ⟨rfl, ⟨trivial, trivial⟩⟩⟩, trivial⟩⟩⟩) rfl rfl (opv_mv rfl) ?_
      refine ev (sees_all (md := [.dead, .box [.sl s4.2.2.1.length (s4.2.2.1.flatMap eU8), .i .i64 s4.2.2.2], .dead]) ⟨⟨trivial, ⟨rfl, ⟨trivial, trivial⟩⟩⟩, ⟨⟨trivial, ⟨rfl, ⟨trivial, trivial⟩⟩⟩, ⟨⟨trivial, ⟨rfl, ⟨trivial, trivial⟩⟩⟩, trivial⟩⟩⟩) rfl rfl (opv_add rfl rfl) ?_
      refine ev (sees_all (md := [.dead, .box [.sl s4.2.2.1.length (s4.2.2.1.flatMap eU8), .i .i64 s4.2.2.2], .dead]) ⟨⟨trivial, ⟨rfl, ⟨trivial, trivial⟩⟩⟩, ⟨⟨trivial, ⟨rfl, ⟨trivial, trivial⟩⟩⟩, ⟨⟨trivial, ⟨rfl, ⟨trivial, trivial⟩⟩⟩, trivial⟩⟩⟩) rfl rfl (opv_cut (f := eU8) (lo := s4.2.1) (hi := (wI (s4.2.1 + 1))) si22 (fun _ => rfl) rfl rfl rfl (bound_some rfl (cut_eq hc5).1.1) (bound_some rfl (Int.le_trans (cut_eq hc5).1.1 (cut_eq hc5).1.2.1)) hc5) ?_
      refine ed (sees_all (md := [.dead, .box [.sl s4.2.2.1.length (s4.2.2.1.flatMap eU8), .i .i64 s4.2.2.2], .dead]) ⟨⟨trivial, ⟨rfl, ⟨trivial, trivial⟩⟩⟩, ⟨⟨trivial, ⟨rfl, ⟨trivial, trivial⟩⟩⟩, ⟨⟨trivial, ⟨rfl, ⟨trivial, trivial⟩⟩⟩, trivial⟩⟩⟩) rfl rfl (opD_call fn11 (opnds_cons rfl (opnds_cons rfl opnds_nil)) rfl (m11_stream_Feed_c hv6)) ?_
      refine ev (sees_all (md := [.dead, .box [.sl s4.2.2.1.length (s4.2.2.1.flatMap eU8), .i .i64 s4.2.2.2], .dead]) ⟨⟨trivial, ⟨rfl, ⟨trivial, trivial⟩⟩⟩, ⟨⟨trivial, ⟨rfl, ⟨trivial, trivial⟩⟩⟩, ⟨⟨trivial, ⟨rfl, ⟨trivial, trivial⟩⟩⟩, trivial⟩⟩⟩) rfl rfl (opv_mvt rfl) ?_
      refine ev (sees_all (md := [.dead, .box [.sl s4.2.2.1.length (s4.2.2.1.flatMap eU8), .i .i64 s4.2.2.2], .dead]) ⟨⟨trivial, ⟨rfl, ⟨trivial, trivial⟩⟩⟩, ⟨⟨trivial, ⟨rfl, ⟨trivial, trivial⟩⟩⟩, ⟨⟨trivial, ⟨rfl, ⟨trivial, trivial⟩⟩⟩, trivial⟩⟩⟩) rfl rfl (opv_extract rfl rfl) ?_
      refine ev (sees_all (md := [.dead, .box [.sl s4.2.2.1.length (s4.2.2.1.flatMap eU8), .i .i64 s4.2.2.2], .dead]) ⟨⟨trivial, ⟨rfl, ⟨trivial, trivial⟩⟩⟩, ⟨⟨trivial, ⟨rfl, ⟨trivial, trivial⟩⟩⟩, ⟨⟨trivial, ⟨rfl, ⟨trivial, trivial⟩⟩⟩, trivial⟩⟩⟩) rfl rfl (opv_extract rfl rfl) ?_
      refine ev (sees_all (md := [.dead, .box [.sl s4.2.2.1.length (s4.2.2.1.flatMap eU8), .i .i64 s4.2.2.2], .dead]) ⟨⟨trivial, ⟨rfl, ⟨trivial, trivial⟩⟩⟩, ⟨⟨trivial, ⟨rfl, ⟨trivial, trivial⟩⟩⟩, ⟨⟨trivial, ⟨rfl, ⟨trivial, trivial⟩⟩⟩, trivial⟩⟩⟩) rfl rfl (opv_extract rfl rfl) ?_
      refine ee (x := .s (.one (.lp 2 0))) 0 rfl rfl rfl rfl rfl (fun ζ => ?_) ?_
      · refine salloc_at 2 rfl zi27 rfl ?_
        exact eend
      refine ee0 1 rfl rfl rfl rfl (fun ζ => ?_) ?_
      · refine sstore sz27 rfl rfl rfl rfl (Nat.le_of_ble_eq_true rfl) ?_
        refine smem [.dead, .box [.sl s4.2.2.1.length (s4.2.2.1.flatMap eU8), .i .i64 s4.2.2.2], .box [.sl v6.1.Buf.length (v6.1.Buf.flatMap eU8), .i .i64 v6.1.Dead]] rfl ?_
        exact eend
      refine ev (sees_at 2 rfl rfl) rfl rfl (opv_as rfl) ?_
      refine ev (sees_at 2 rfl rfl) rfl rfl (opv_as rfl) ?_
      refine enil ?_
      refine then_normal ?_
      refine cseq ?_
      refine cseq ?_
      refine cjoin3 (Unit) (fun b7 => [(1, .s (.one (.sl v1.1.length (v1.1.flatMap eU8)))), (2, .s (.one (.i .i64 v1.2))), (3, .s (.one (.lp 1 0))), (4, .s (.one (.i .i64 s4.1))), (5, .s (.one (.i .i64 s4.2.1))), (6, .s (.one (.lp 2 0))), (7, .s (.one (.sl v6.2.1.length (v6.2.1.flatMap (eL eU8)))))]) (fun b7 => [.dead, .box [.sl s4.2.2.1.length (s4.2.2.1.flatMap eU8), .i .i64 s4.2.2.2], .box [.sl v6.1.Buf.length (v6.1.Buf.flatMap eU8), .i .i64 v6.1.Dead]]) (fun b7 => m10_l04_awake_k7 s4 v6 b7 = some y4) (fun _ _ => inbL_of rfl) (fun _ _ => blkinb_of rfl) (fun _ _ => Nat.le_of_ble_eq_true rfl) (fun b7 h => ?_) ?_
      · unfold m10_l04_awake_k7 at h
        refine cseq ?_
        refine cregion ?_
        refine sv rfl (opv_loadN ti27 rfl (.lp _ _ _ rfl) (Nat.le_of_ble_eq_true rfl)) ?_
        refine sstore sz27 rfl rfl rfl rfl (Nat.le_of_ble_eq_true rfl) ?_
        refine smem [.dead, .box [.sl v6.1.Buf.length (v6.1.Buf.flatMap eU8), .i .i64 v6.1.Dead], .box [.sl v6.1.Buf.length (v6.1.Buf.flatMap eU8), .i .i64 v6.1.Dead]] rfl ?_
        refine snil ?_
        refine cregion ?_
        refine sv rfl (opv_mv rfl) ?_
        refine sv rfl (opv_mv rfl) ?_
        refine sv rfl (opv_len_sl si28 rfl) ?_
        refine sv rfl (opv_add rfl rfl) ?_
        refine sv rfl (opv_as rfl) ?_
        refine snil0 ?_
        refine block_normal ?_
        refine then_normal ?_
        refine cregion ?_
        refine sv rfl (opv_mv rfl) ?_
        refine sv rfl (opv_add rfl rfl) ?_
        refine sv rfl (opv_as rfl) ?_
        refine snil ?_
        obtain rfl := Option.some.inj h
        exact ⟨(n4, ((wI (s4.1 + (v6.2.1.length : Int))), (wI (s4.2.1 + 1)), v6.1.Buf, v6.1.Dead)), _, hk4, ⟨rfl, rfl, rfl, rfl, rfl, trivial⟩, rfl, Nat.lt_succ_self _⟩
      · skip
        refine cregion ?_
        refine sv rfl (opv_mv rfl) ?_
        refine sv rfl (opv_ineq rfl rfl) ?_
        refine sv rfl (opv_mv rfl) ?_
        refine ssplit 35 rfl (fun hc => ?_) (fun hc => ?_)
        · replace h := ite_t hc h
          clear hc
          refine soff rfl rfl rfl rfl ?_
          refine soff rfl rfl rfl rfl ?_
          refine soff rfl rfl rfl rfl ?_
          refine soff rfl rfl rfl rfl ?_
          refine soffu rfl rfl rfl ?_
          refine soffu rfl rfl rfl ?_
          refine soff rfl rfl rfl rfl ?_
          refine sv rfl (opv_pick_t rfl rfl) ?_
          refine snil ?_
          refine ccond rfl (fun _ => ?_) (fun hx => Bool.noConfusion hx)
          refine cseq ?_
          refine cregion ?_
          refine sv rfl (opv_as rfl) ?_
          refine snil ?_
          refine cret ?_
          refine then_ret ?_
          refine block_ret ?_
          refine then_ret ?_
          refine then_ret ?_
          refine block_ret ?_
          refine then_ret ?_
          obtain rfl := Option.some.inj h
          obtain rfl : Sum.inl _ = x4 := hk4
          replace ho4 : some _ = some _ := ho4
          obtain rfl := Option.some.inj ho4
          refine ⟨Or.inr rfl, _, _, _, (resVs_cons (ResV.tmp _ _ rfl) resVs_nil), (pubA_id rfl), ?_⟩
          rfl
        · replace h := ite_f hc h
          clear hc
          refine son rfl rfl rfl ?_
          refine sv rfl (opv_mv rfl) ?_
          refine son rfl rfl rfl ?_
          refine sv rfl (opv_len_sl si28 rfl) ?_
          refine son rfl rfl rfl ?_
          refine sv rfl (opv_gtr rfl rfl) ?_
          refine son rfl rfl rfl ?_
          refine sv rfl (opv_mv rfl) ?_
          refine ssplit 39 rfl (fun hc => ?_) (fun hc => ?_)
          · replace h := ite_t hc h
            clear hc
            refine son rfl rfl rfl ?_
            refine sv rfl (opv_mv rfl) ?_
            refine son rfl rfl rfl ?_
            refine sv rfl (opv_lss rfl rfl) ?_
            refine son rfl rfl rfl ?_
            refine sv rfl (opv_pick_t rfl rfl) ?_
            refine sv rfl (opv_pick_f rfl rfl) ?_
            refine snil ?_
            refine ccond rfl (fun hc => ?_) (fun hc => ?_)
            · replace h := ite_t hc h
              clear hc
              refine cseq ?_
              refine cregion ?_
              refine sv rfl (opv_as rfl) ?_
              refine snil ?_
              refine cret ?_
              refine then_ret ?_
              refine block_ret ?_
              refine then_ret ?_
              refine then_ret ?_
              refine block_ret ?_
              refine then_ret ?_
              obtain rfl := Option.some.inj h
              obtain rfl : Sum.inl _ = x4 := hk4
              replace ho4 : some _ = some _ := ho4
              obtain rfl := Option.some.inj ho4
              refine ⟨Or.inr rfl, _, _, _, (resVs_cons (ResV.tmp _ _ rfl) resVs_nil), (pubA_id rfl), ?_⟩
              rfl
            · replace h := ite_f hc h
              clear hc
              refine cskip ?_
              refine then_normal ?_
              exact ⟨(), _, h, ⟨rfl, rfl, rfl, rfl, rfl, rfl, rfl, trivial⟩, rfl⟩
          · replace h := ite_f hc h
            clear hc
            refine soff rfl rfl rfl rfl ?_
            refine soff rfl rfl rfl rfl ?_
            refine son rfl rfl rfl ?_
            refine sv rfl (opv_pick_f rfl rfl) ?_
            refine sv rfl (opv_pick_f rfl rfl) ?_
            refine snil ?_
            refine ccond rfl (fun hx => Bool.noConfusion hx) (fun _ => ?_)
            refine cskip ?_
            refine then_normal ?_
            exact ⟨(), _, h, ⟨rfl, rfl, rfl, rfl, rfl, rfl, rfl, trivial⟩, rfl⟩
    · replace h := ite_f hc h
      clear hc
      refine cexit ?_
      refine then_exit ?_
      refine then_exit ?_
      refine block_hit ?_
      refine then_normal ?_
      obtain rfl := Option.some.inj h
      obtain rfl : _ = x4 := hk4
      exact ⟨(s4.1, s4.2.2.1, s4.2.2.2), _, ho4, ⟨rfl, rfl, rfl, trivial⟩, rfl⟩

def m12_l04_ours (a0 : GR04Stream) : Option GStreamStream :=
  some (GStreamStream.mk a0.Buf a0.Dead)

set_option maxRecDepth 100000 in
theorem m12_l04_ours_c {a0 : GR04Stream} {r : GStreamStream} (h : m12_l04_ours a0 = some r) : CallsA Try.prog 12 [.agg [.sl a0.Buf.length (a0.Buf.flatMap eU8), .i .i64 a0.Dead]] (· = .s (.agg [.sl r.Buf.length (r.Buf.flatMap eU8), .i .i64 r.Dead])) := by
  unfold m12_l04_ours at h
  refine callsA_of Try.func12 rfl (nt := 8) rfl (Nat.le_of_ble_eq_true rfl) ?_
  intro w0 S0
  refine cseq ?_
  refine cregion ?_
  refine sbox rfl rfl ?_
  refine salloc rfl zi27 ?_
  refine snil ?_
  refine cseq ?_
  refine cregion ?_
  refine sv rfl (opv_fieldAddr_lp fi25_0 rfl) ?_
  refine sv rfl (opv_load1 ti22 rfl (.lp _ _ _ rfl) rfl) ?_
  refine sv rfl (opv_fieldAddr_lp fi25_1 rfl) ?_
  refine sv rfl (opv_load1 ti23 rfl (.lp _ _ _ rfl) rfl) ?_
  refine sv rfl (opv_build zi27 pi27 (parts_cons rfl (parts_cons rfl parts_nil)) (.cons _ _ _ _ _ _ _ rfl rfl (Nat.le_of_ble_eq_true rfl) (.cons _ _ _ _ _ _ _ rfl rfl (Nat.le_of_ble_eq_true rfl) (.nil _)))) ?_
  refine sstore sz27 rfl rfl rfl rfl (Nat.le_of_ble_eq_true rfl) ?_
  refine smem [.box [.sl a0.Buf.length (a0.Buf.flatMap eU8), .i .i64 a0.Dead], .box [.sl a0.Buf.length (a0.Buf.flatMap eU8), .i .i64 a0.Dead]] rfl ?_
  refine snil ?_
  refine cret ?_
  obtain rfl := Option.some.inj h
  refine ⟨Or.inr rfl, _, _, _, (resVs_cons (ResV.agg _ _ _ _ _ ti27 rfl (.lp _ _ _ rfl) (Nat.le_of_ble_eq_true rfl)) resVs_nil), (pubA_id rfl), ?_⟩
  rfl

def m44_r01_U_k2 (b2 : (List UInt8)) : Option (List UInt8) :=
  some b2

def m44_r01_U_k4 (s3 : (BitVec 64) × Int × (List UInt8)) (b4 : Unit) : Option (LB ((BitVec 64) × Int × (List UInt8)) ((List UInt8))) :=
  if (s3.2.2.length + [(UInt8.ofBitVec ((s3.1 % (256#64)).setWidth 8))].length) * 1 ≤ 140737488355328 then (some (.cont ((s3.1 / (256#64)), (wI (s3.2.1 + 1)), (s3.2.2 ++ [(UInt8.ofBitVec ((s3.1 % (256#64)).setWidth 8))])))) else none

def m44_r01_U_s3 (a2 : Int) (s3 : (BitVec 64) × Int × (List UInt8)) : Option (LB ((BitVec 64) × Int × (List UInt8)) ((List UInt8))) :=
  if (decide (s3.2.1 < a2)) then (if (decide (s3.2.1 < 8)) then (m44_r01_U_k4 s3 ()) else (some (.brk s3.2.2))) else (some (.brk s3.2.2))
def m44_r01_U (a0 : List UInt8) (a1 : BitVec 64) (a2 : Int) : Option (List UInt8) :=
  if (([] : List UInt8).length + a0.length) * 1 ≤ 140737488355328 then ((iterB (m44_r01_U_s3 a2) fuel (a1, 0, (([] : List UInt8) ++ a0))).bind fun e6 => m44_r01_U_k2 e6) else none

set_option maxRecDepth 100000 in
theorem m44_r01_U_c {a0 : List UInt8} {a1 : BitVec 64} {a2 : Int} {r : (List UInt8)} (h : m44_r01_U a0 a1 a2 = some r) : CallsA Try.prog 44 [.one (.sl a0.length (a0.flatMap eU8)), .one (.i .u64 (a1.toNat : Int)), .one (.i .i64 a2)] (· = .s (.one (.sl r.length (r.flatMap eU8)))) := by
  unfold m44_r01_U at h
  refine callsA_of Try.func44 rfl (nt := 30) rfl (Nat.le_of_ble_eq_true rfl) ?_
  intro w0 S0
  refine cseq ?_
  refine cregion ?_
  refine sv rfl (opv_as rfl) ?_
  refine snil ?_
  refine cseq ?_
  refine cregion ?_
  refine sbuild0 rfl Try.underlying22 ei5 ?_
  refine sv rfl (opv_mv rfl) ?_
  obtain ⟨hb1, h⟩ := chk_eq h
  refine sapp (f := eU8) (xs := ([] : List UInt8)) (us := a0) rfl Try.underlying22 ei5 ni22 (fun _ => rfl) rfl rfl (.one _ _ _ _ (.id _ rfl)) rfl rfl rfl (.sl _ _ _ (flat_len (f := eU8) (fun _ => rfl) _)) rfl rfl hb1 (by decide) ?_
  refine sv rfl (opv_as rfl) ?_
  refine snil ?_
  refine cseq ?_
  refine cseq ?_
  refine cregion ?_
  refine sv rfl (opv_as rfl) ?_
  refine snil ?_
  refine cjoin ((List UInt8)) (fun b2 => [(7, .s (.one (.ls 0 b2.length)))]) (fun b2 => [.arr 5 1 0 (b2.flatMap eU8)]) (fun b2 => m44_r01_U_k2 b2 = some r) (fun _ _ => inbL_of rfl) (fun _ _ => blkinb_of rfl) (fun _ _ => Nat.le_of_ble_eq_true rfl) (fun b2 h => ?_) ?_
  · unfold m44_r01_U_k2 at h
    refine cseq ?_
    refine cregion ?_
    refine sv rfl (opv_mv rfl) ?_
    refine sv rfl (opv_as rfl) ?_
    refine snil ?_
    refine cret ?_
    obtain rfl := Option.some.inj h
    refine ⟨Or.inr rfl, _, _, _, (resVs_cons (ResV.tmp _ _ rfl) resVs_nil), (by (repeat' first | exact PubA.nil _ | apply PubA.cons | apply PubV.one | apply PubV.agg | exact PubL.nil | exact PubL.ls _ _ _ _ _ _ rfl (flat_len (f := eU8) (fun _ => rfl) _).symm | exact PubL.id _ rfl | exact PubLs.nil _ | apply PubLs.cons)), ?_⟩
    rfl
  · skip
    refine cblock ?_
    obtain ⟨x3, hx3, ho3⟩ := bind_eq h
    refine awc_loop (G := Nat × ((BitVec 64) × Int × (List UInt8))) (fun g => [(1, .s (.one (.i .u64 (g.2.1.toNat : Int)))), (2, .s (.one (.i .i64 a2))), (7, .s (.one (.ls 0 g.2.2.2.length))), (8, .s (.one (.i .i64 g.2.2.1)))]) (fun g => [.arr 5 1 0 (g.2.2.2.flatMap eU8)]) (fun g => iterB (m44_r01_U_s3 a2) g.1 g.2 = some x3) (fun g => g.1) (fuel, (a1, 0, (([] : List UInt8) ++ a0))) hx3 ⟨rfl, rfl, rfl, rfl, trivial⟩ [] rfl (fun _ _ => inbL_of rfl) (fun _ _ => blkinb_of rfl) (fun _ _ => Nat.le_of_ble_eq_true rfl) ?_
    clear hx3 h
    rintro ⟨n3, s3⟩ h
    obtain ⟨n3, y3, rfl, h, hk3⟩ := iterB_eq h
    unfold m44_r01_U_s3 at h
    refine cseq ?_
    refine cseq ?_
    refine cjoin3 (Unit) (fun b4 => [(1, .s (.one (.i .u64 (s3.1.toNat : Int)))), (2, .s (.one (.i .i64 a2))), (7, .s (.one (.ls 0 s3.2.2.length))), (8, .s (.one (.i .i64 s3.2.1)))]) (fun b4 => [.arr 5 1 0 (s3.2.2.flatMap eU8)]) (fun b4 => m44_r01_U_k4 s3 b4 = some y3) (fun _ _ => inbL_of rfl) (fun _ _ => blkinb_of rfl) (fun _ _ => Nat.le_of_ble_eq_true rfl) (fun b4 h => ?_) ?_
    · unfold m44_r01_U_k4 at h
      refine cseq ?_
      refine cblock ?_
      refine cseq ?_
      refine cregion ?_
      refine sv rfl (opv_mv rfl) ?_
      refine sv rfl (opv_mv rfl) ?_
      refine sv rfl (opv_rem_u64 (a := s3.1) (b := 256#64) rfl rfl rfl rfl (by decide)) ?_
      refine sv rfl (opv_conv_bv (k := .u64) (a := (s3.1 % (256#64))) rfl Try.underlying58 Try.underlying5 rfl rfl) ?_
      refine sbuild1 rfl Try.underlying22 ei5 rfl rfl (List.all_eq_true.1 rfl) (by decide) ?_
      refine smem [.arr 5 1 0 (s3.2.2.flatMap eU8), .arr 5 1 0 ([(UInt8.ofBitVec ((s3.1 % (256#64)).setWidth 8))].flatMap eU8)] rfl ?_
      obtain ⟨hb5, h⟩ := chk_eq h
      refine sapp (f := eU8) (xs := s3.2.2) (us := [(UInt8.ofBitVec ((s3.1 % (256#64)).setWidth 8))]) rfl Try.underlying22 ei5 ni22 (fun _ => rfl) rfl rfl (.one _ _ _ _ (.ls _ _ _ _ _ _ rfl (flat_len (f := eU8) (fun _ => rfl) [(UInt8.ofBitVec ((s3.1 % (256#64)).setWidth 8))]).symm)) rfl rfl rfl (.sl _ _ _ (flat_len (f := eU8) (fun _ => rfl) _)) rfl rfl hb5 (by decide) ?_
      refine sv rfl (opv_as rfl) ?_
      refine snil ?_
      refine cregion ?_
      refine sv rfl (opv_mv rfl) ?_
      refine sv rfl (opv_quo_u64 (a := s3.1) (b := 256#64) rfl rfl rfl rfl (by decide)) ?_
      refine sv rfl (opv_as rfl) ?_
      refine snil0 ?_
      refine block_normal ?_
      refine then_normal ?_
      refine cregion ?_
      refine sv rfl (opv_mv rfl) ?_
      refine sv rfl (opv_add rfl rfl) ?_
      refine sv rfl (opv_as rfl) ?_
      refine snil ?_
      obtain rfl := Option.some.inj h
      exact ⟨(n3, ((s3.1 / (256#64)), (wI (s3.2.1 + 1)), (s3.2.2 ++ [(UInt8.ofBitVec ((s3.1 % (256#64)).setWidth 8))]))), _, hk3, ⟨rfl, rfl, rfl, rfl, trivial⟩, rfl, Nat.lt_succ_self _⟩
    · skip
      refine cregion ?_
      refine sv rfl (opv_mv rfl) ?_
      refine sv rfl (opv_mv rfl) ?_
      refine sv rfl (opv_lss rfl rfl) ?_
      refine sv rfl (opv_mv rfl) ?_
      refine ssplit 15 rfl (fun hc => ?_) (fun hc => ?_)
      · replace h := ite_t hc h
        clear hc
        refine son rfl rfl rfl ?_
        refine sv rfl (opv_mv rfl) ?_
        refine son rfl rfl rfl ?_
        refine sv rfl (opv_lss rfl rfl) ?_
        refine sv rfl (opv_pick_t rfl rfl) ?_
        refine snil ?_
        refine ccond rfl (fun hc => ?_) (fun hc => ?_)
        · replace h := ite_t hc h
          clear hc
          refine cskip ?_
          refine then_normal ?_
          exact ⟨(), _, h, ⟨rfl, rfl, rfl, rfl, trivial⟩, rfl⟩
        · replace h := ite_f hc h
          clear hc
          refine cexit ?_
          refine then_exit ?_
          refine then_exit ?_
          refine block_hit ?_
          refine then_normal ?_
          obtain rfl := Option.some.inj h
          obtain rfl : _ = x3 := hk3
          exact ⟨s3.2.2, _, ho3, ⟨rfl, trivial⟩, rfl⟩
      · replace h := ite_f hc h
        clear hc
        refine soff rfl rfl rfl rfl ?_
        refine soff rfl rfl rfl rfl ?_
        refine sv rfl (opv_pick_f rfl rfl) ?_
        refine snil ?_
        refine ccond rfl (fun hx => Bool.noConfusion hx) (fun _ => ?_)
        refine cexit ?_
        refine then_exit ?_
        refine then_exit ?_
        refine block_hit ?_
        refine then_normal ?_
        obtain rfl := Option.some.inj h
        obtain rfl : _ = x3 := hk3
        exact ⟨s3.2.2, _, ho3, ⟨rfl, trivial⟩, rfl⟩

def m50_r02_eight_k1 (b1 : (BitVec 32)) : Option (BitVec 32) :=
  some b1

def m50_r02_eight_s2 (s2 : (BitVec 32) × Int) : Option (LB ((BitVec 32) × Int) ((BitVec 32))) :=
  if (decide (s2.2 < 8)) then (if (decide (((s2.1 % (2#32)).toNat : Int) = (1 : Int))) then (some (.cont (((s2.1 / (2#32)) ^^^ (3988292384#32)), (wI (s2.2 + 1))))) else (some (.cont ((s2.1 / (2#32)), (wI (s2.2 + 1)))))) else (some (.brk s2.1))
def m50_r02_eight (a0 : BitVec 32) : Option (BitVec 32) :=
  (iterB m50_r02_eight_s2 fuel (a0, 0)).bind fun e3 => m50_r02_eight_k1 e3

set_option maxRecDepth 100000 in
theorem m50_r02_eight_c {a0 : BitVec 32} {r : (BitVec 32)} (h : m50_r02_eight a0 = some r) : CallsA Try.prog 50 [.one (.i .u32 (a0.toNat : Int))] (· = .s (.one (.i .u32 (r.toNat : Int)))) := by
  unfold m50_r02_eight at h
  refine callsA_of Try.func50 rfl (nt := 18) rfl (Nat.le_of_ble_eq_true rfl) ?_
  intro w0 S0
  refine cseq ?_
  refine cregion ?_
  refine sv rfl (opv_as rfl) ?_
  refine snil ?_
  refine cseq ?_
  refine cseq ?_
  refine cregion ?_
  refine sv rfl (opv_as rfl) ?_
  refine snil ?_
  refine cjoin ((BitVec 32)) (fun b1 => [(0, .s (.one (.i .u32 (b1.toNat : Int))))]) (fun b1 => []) (fun b1 => m50_r02_eight_k1 b1 = some r) (fun _ _ => inbL_of rfl) (fun _ _ => blkinb_of rfl) (fun _ _ => Nat.le_of_ble_eq_true rfl) (fun b1 h => ?_) ?_
  · unfold m50_r02_eight_k1 at h
    refine cseq ?_
    refine cregion ?_
    refine sv rfl (opv_mv rfl) ?_
    refine sv rfl (opv_as rfl) ?_
    refine snil ?_
    refine cret ?_
    obtain rfl := Option.some.inj h
    refine ⟨Or.inr rfl, _, _, _, (resVs_cons (ResV.tmp _ _ rfl) resVs_nil), (pubA_id rfl), ?_⟩
    rfl
  · skip
    refine cblock ?_
    obtain ⟨x2, hx2, ho2⟩ := bind_eq h
    refine awc_loop (G := Nat × ((BitVec 32) × Int)) (fun g => [(0, .s (.one (.i .u32 (g.2.1.toNat : Int)))), (3, .s (.one (.i .i64 g.2.2)))]) (fun g => []) (fun g => iterB m50_r02_eight_s2 g.1 g.2 = some x2) (fun g => g.1) (fuel, (a0, 0)) hx2 ⟨rfl, rfl, trivial⟩ [] rfl (fun _ _ => inbL_of rfl) (fun _ _ => blkinb_of rfl) (fun _ _ => Nat.le_of_ble_eq_true rfl) ?_
    clear hx2 h
    rintro ⟨n2, s2⟩ h
    obtain ⟨n2, y2, rfl, h, hk2⟩ := iterB_eq h
    unfold m50_r02_eight_s2 at h
    refine cseq ?_
    refine cseq ?_
    refine cregion ?_
    refine sv rfl (opv_mv rfl) ?_
    refine sv rfl (opv_lss rfl rfl) ?_
    refine snil ?_
    refine ccond rfl (fun hc => ?_) (fun hc => ?_)
    · replace h := ite_t hc h
      clear hc
      refine cskip ?_
      refine then_normal ?_
      refine cseq ?_
      refine cblock ?_
      refine cseq ?_
      refine cregion ?_
      refine sv rfl (opv_mv rfl) ?_
      refine sv rfl (opv_rem_u32 (a := s2.1) (b := 2#32) rfl rfl rfl rfl (by decide)) ?_
      refine sv rfl (opv_as rfl) ?_
      refine snil ?_
      refine cseq ?_
      refine cregion ?_
      refine sv rfl (opv_mv rfl) ?_
      refine sv rfl (opv_quo_u32 (a := s2.1) (b := 2#32) rfl rfl rfl rfl (by decide)) ?_
      refine sv rfl (opv_as rfl) ?_
      refine snil ?_
      refine cseq ?_
      refine cregion ?_
      refine sv rfl (opv_mv rfl) ?_
      refine sv rfl (opv_ieql rfl rfl) ?_
      refine snil ?_
      refine ccond rfl (fun hc => ?_) (fun hc => ?_)
      · replace h := ite_t hc h
        clear hc
        refine cregion ?_
        refine sv rfl (opv_mv rfl) ?_
        refine sv rfl (opv_xor_u32 (a := (s2.1 / (2#32))) (b := 3988292384#32) rfl rfl rfl rfl) ?_
        refine sv rfl (opv_as rfl) ?_
        refine snil0 ?_
        refine block_normal ?_
        refine then_normal ?_
        refine cregion ?_
        refine sv rfl (opv_mv rfl) ?_
        refine sv rfl (opv_add rfl rfl) ?_
        refine sv rfl (opv_as rfl) ?_
        refine snil ?_
        obtain rfl := Option.some.inj h
        exact ⟨(n2, (((s2.1 / (2#32)) ^^^ (3988292384#32)), (wI (s2.2 + 1)))), _, hk2, ⟨rfl, rfl, trivial⟩, rfl, Nat.lt_succ_self _⟩
      · replace h := ite_f hc h
        clear hc
        refine cskip ?_
        refine block_normal ?_
        refine then_normal ?_
        refine cregion ?_
        refine sv rfl (opv_mv rfl) ?_
        refine sv rfl (opv_add rfl rfl) ?_
        refine sv rfl (opv_as rfl) ?_
        refine snil ?_
        obtain rfl := Option.some.inj h
        exact ⟨(n2, ((s2.1 / (2#32)), (wI (s2.2 + 1)))), _, hk2, ⟨rfl, rfl, trivial⟩, rfl, Nat.lt_succ_self _⟩
    · replace h := ite_f hc h
      clear hc
      refine cexit ?_
      refine then_exit ?_
      refine then_exit ?_
      refine block_hit ?_
      refine then_normal ?_
      obtain rfl := Option.some.inj h
      obtain rfl : _ = x2 := hk2
      exact ⟨s2.1, _, ho2, ⟨rfl, trivial⟩, rfl⟩

def m45_r02_More_k1 (b1 : (BitVec 32)) : Option (BitVec 32) :=
  some ((4294967295#32) - b1)

def m45_r02_More_s2 (a1 : List UInt8) (s2 : (BitVec 32) × Int) : Option (LB ((BitVec 32) × Int) ((BitVec 32))) :=
  if (decide (s2.2 < (a1.length : Int))) then ((idx a1 s2.2).bind fun u3 => (m50_r02_eight (s2.1 ^^^ (u3.toBitVec.setWidth 32))).bind fun v4 => some (.cont (v4, (wI (s2.2 + 1))))) else (some (.brk s2.1))
def m45_r02_More (a0 : BitVec 32) (a1 : List UInt8) : Option (BitVec 32) :=
  (iterB (m45_r02_More_s2 a1) fuel (((4294967295#32) - a0), 0)).bind fun e5 => m45_r02_More_k1 e5

set_option maxRecDepth 100000 in
theorem m45_r02_More_c {a0 : BitVec 32} {a1 : List UInt8} {r : (BitVec 32)} (h : m45_r02_More a0 a1 = some r) : CallsA Try.prog 45 [.one (.i .u32 (a0.toNat : Int)), .one (.sl a1.length (a1.flatMap eU8))] (· = .s (.one (.i .u32 (r.toNat : Int)))) := by
  unfold m45_r02_More at h
  refine callsA_of Try.func45 rfl (nt := 25) rfl (Nat.le_of_ble_eq_true rfl) ?_
  intro w0 S0
  refine cseq ?_
  refine cregion ?_
  refine sv rfl (opv_as rfl) ?_
  refine snil ?_
  refine cseq ?_
  refine cregion ?_
  refine sv rfl (opv_mv rfl) ?_
  refine sv rfl (opv_sub_u32 (a := 4294967295#32) (b := a0) rfl rfl rfl rfl) ?_
  refine sv rfl (opv_as rfl) ?_
  refine snil ?_
  refine cseq ?_
  refine cseq ?_
  refine cregion ?_
  refine sv rfl (opv_as rfl) ?_
  refine snil ?_
  refine cjoin ((BitVec 32)) (fun b1 => [(5, .s (.one (.i .u32 (b1.toNat : Int))))]) (fun b1 => []) (fun b1 => m45_r02_More_k1 b1 = some r) (fun _ _ => inbL_of rfl) (fun _ _ => blkinb_of rfl) (fun _ _ => Nat.le_of_ble_eq_true rfl) (fun b1 h => ?_) ?_
  · unfold m45_r02_More_k1 at h
    refine cseq ?_
    refine cregion ?_
    refine sv rfl (opv_mv rfl) ?_
    refine sv rfl (opv_sub_u32 (a := 4294967295#32) (b := b1) rfl rfl rfl rfl) ?_
    refine sv rfl (opv_as rfl) ?_
    refine snil ?_
    refine cret ?_
    obtain rfl := Option.some.inj h
    refine ⟨Or.inr rfl, _, _, _, (resVs_cons (ResV.tmp _ _ rfl) resVs_nil), (pubA_id rfl), ?_⟩
    rfl
  · skip
    refine cblock ?_
    obtain ⟨x2, hx2, ho2⟩ := bind_eq h
    refine awc_loop (G := Nat × ((BitVec 32) × Int)) (fun g => [(1, .s (.one (.sl a1.length (a1.flatMap eU8)))), (5, .s (.one (.i .u32 (g.2.1.toNat : Int)))), (6, .s (.one (.i .i64 g.2.2)))]) (fun g => []) (fun g => iterB (m45_r02_More_s2 a1) g.1 g.2 = some x2) (fun g => g.1) (fuel, (((4294967295#32) - a0), 0)) hx2 ⟨rfl, rfl, rfl, trivial⟩ [] rfl (fun _ _ => inbL_of rfl) (fun _ _ => blkinb_of rfl) (fun _ _ => Nat.le_of_ble_eq_true rfl) ?_
    clear hx2 h
    rintro ⟨n2, s2⟩ h
    obtain ⟨n2, y2, rfl, h, hk2⟩ := iterB_eq h
    unfold m45_r02_More_s2 at h
    refine cseq ?_
    refine cseq ?_
    refine cregion ?_
    refine sv rfl (opv_mv rfl) ?_
    refine sv rfl (opv_mv rfl) ?_
    refine sv rfl (opv_len_sl si22 rfl) ?_
    refine sv rfl (opv_lss rfl rfl) ?_
    refine snil ?_
    refine ccond rfl (fun hc => ?_) (fun hc => ?_)
    · replace h := ite_t hc h
      clear hc
      refine cskip ?_
      refine then_normal ?_
      refine cseq ?_
      refine cblock ?_
      refine cregion ?_
      refine sv rfl (opv_mv rfl) ?_
      refine sv rfl (opv_mv rfl) ?_
      refine sv rfl (opv_mv rfl) ?_
      obtain ⟨u3, hu3, h⟩ := bind_eq h
      refine sv rfl (opv_ix (f := eU8) si22 (fun _ => rfl) rfl rfl rfl rfl hu3) ?_
      refine sv rfl (opv_load1 ti5 rfl (.cp _) rfl) ?_
      refine sv rfl (opv_conv_bv (k := .u8) (a := u3.toBitVec) rfl Try.underlying5 Try.underlying62 rfl rfl) ?_
      refine sv rfl (opv_xor_u32 (a := s2.1) (b := (u3.toBitVec.setWidth 32)) rfl rfl rfl rfl) ?_
      obtain ⟨v4, hv4, h⟩ := bind_eq h
      refine scall1 rfl fn50 (opnds_cons rfl opnds_nil) (pubA_id rfl) (m50_r02_eight_c hv4) ?_
      refine sv rfl (opv_as rfl) ?_
      refine snil0 ?_
      refine block_normal ?_
      refine then_normal ?_
      refine cregion ?_
      refine sv rfl (opv_mv rfl) ?_
      refine sv rfl (opv_add rfl rfl) ?_
      refine sv rfl (opv_as rfl) ?_
      refine snil ?_
      obtain rfl := Option.some.inj h
      exact ⟨(n2, (v4, (wI (s2.2 + 1)))), _, hk2, ⟨rfl, rfl, rfl, trivial⟩, rfl, Nat.lt_succ_self _⟩
    · replace h := ite_f hc h
      clear hc
      refine cexit ?_
      refine then_exit ?_
      refine then_exit ?_
      refine block_hit ?_
      refine then_normal ?_
      obtain rfl := Option.some.inj h
      obtain rfl : _ = x2 := hk2
      exact ⟨s2.1, _, ho2, ⟨rfl, trivial⟩, rfl⟩

def m46_r02_Of (a0 : List UInt8) : Option (BitVec 32) :=
  (m45_r02_More (0#32) a0).bind fun v1 => some v1

set_option maxRecDepth 100000 in
theorem m46_r02_Of_c {a0 : List UInt8} {r : (BitVec 32)} (h : m46_r02_Of a0 = some r) : CallsA Try.prog 46 [.one (.sl a0.length (a0.flatMap eU8))] (· = .s (.one (.i .u32 (r.toNat : Int)))) := by
  unfold m46_r02_Of at h
  refine callsA_of Try.func46 rfl (nt := 5) rfl (Nat.le_of_ble_eq_true rfl) ?_
  intro w0 S0
  refine cseq ?_
  refine cregion ?_
  refine sv rfl (opv_as rfl) ?_
  refine snil ?_
  refine cseq ?_
  refine cregion ?_
  refine sv rfl (opv_mv rfl) ?_
  obtain ⟨v1, hv1, h⟩ := bind_eq h
  refine scall1 rfl fn45 (opnds_cons rfl (opnds_cons rfl opnds_nil)) (pubA_id rfl) (m45_r02_More_c hv1) ?_
  refine sv rfl (opv_as rfl) ?_
  refine snil ?_
  refine cret ?_
  obtain rfl := Option.some.inj h
  refine ⟨Or.inr rfl, _, _, _, (resVs_cons (ResV.tmp _ _ rfl) resVs_nil), (pubA_id rfl), ?_⟩
  rfl

def m44_r01_Uo_k2 (b2 : (List UInt8)) : Option (List UInt8) :=
  some b2

def m44_r01_Uo_k4 (s3 : (BitVec 64) × Int × (List UInt8)) (b4 : Unit) : Option (LB ((BitVec 64) × Int × (List UInt8)) ((List UInt8))) :=
  if (s3.2.2.length + [(UInt8.ofBitVec ((s3.1 % (256#64)).setWidth 8))].length) * 1 ≤ 140737488355328 then (some (.cont ((s3.1 / (256#64)), (wI (s3.2.1 + 1)), (s3.2.2 ++ [(UInt8.ofBitVec ((s3.1 % (256#64)).setWidth 8))])))) else none

def m44_r01_Uo_s3 (a2 : Int) (s3 : (BitVec 64) × Int × (List UInt8)) : Option (LB ((BitVec 64) × Int × (List UInt8)) ((List UInt8))) :=
  if (decide (s3.2.1 < a2)) then (if (decide (s3.2.1 < 8)) then (m44_r01_Uo_k4 s3 ()) else (some (.brk s3.2.2))) else (some (.brk s3.2.2))
def m44_r01_Uo (a0 : List UInt8) (a1 : BitVec 64) (a2 : Int) : Option (List UInt8) :=
  if (([] : List UInt8).length + a0.length) * 1 ≤ 140737488355328 then ((iterB (m44_r01_Uo_s3 a2) fuel (a1, 0, (([] : List UInt8) ++ a0))).bind fun e6 => m44_r01_Uo_k2 e6) else none

set_option maxRecDepth 100000 in
theorem m44_r01_Uo_c {a0 : List UInt8} {a1 : BitVec 64} {a2 : Int} {r : (List UInt8)} (h : m44_r01_Uo a0 a1 a2 = some r) : CallsB Try.prog 44 [] [.one (.sl a0.length (a0.flatMap eU8)), .one (.i .u64 (a1.toNat : Int)), .one (.i .i64 a2)] (fun y m' => y = .s (.one (.ls 0 r.length)) ∧ m' = [.arr 5 1 0 (r.flatMap eU8)]) := by
  unfold m44_r01_Uo at h
  refine callsB_of Try.func44 rfl (nt := 30) rfl (Nat.le_of_ble_eq_true rfl) ?_
  intro w0 S0 X0 H0
  refine cseq ?_
  refine cregion ?_
  refine sv rfl (opv_as rfl) ?_
  refine snil ?_
  refine cseq ?_
  refine cregion ?_
  refine sbuild0 rfl Try.underlying22 ei5 ?_
  refine sv rfl (opv_mv rfl) ?_
  obtain ⟨hb1, h⟩ := chk_eq h
  refine sapp (f := eU8) (xs := ([] : List UInt8)) (us := a0) rfl Try.underlying22 ei5 ni22 (fun _ => rfl) rfl rfl (.one _ _ _ _ (.id _ rfl)) rfl rfl rfl (.sl _ _ _ (flat_len (f := eU8) (fun _ => rfl) _)) rfl rfl hb1 (by decide) ?_
  refine sv rfl (opv_as rfl) ?_
  refine snil ?_
  refine cseq ?_
  refine cseq ?_
  refine cregion ?_
  refine sv rfl (opv_as rfl) ?_
  refine snil ?_
  refine cjoin ((List UInt8)) (fun b2 => [(7, .s (.one (.ls 0 b2.length)))]) (fun b2 => [.arr 5 1 0 (b2.flatMap eU8)]) (fun b2 => m44_r01_Uo_k2 b2 = some r) (fun _ _ => inbL_of rfl) (fun _ _ => blkinb_of rfl) (fun _ _ => Nat.le_of_ble_eq_true rfl) (fun b2 h => ?_) ?_
  · unfold m44_r01_Uo_k2 at h
    refine cseq ?_
    refine cregion ?_
    refine sv rfl (opv_mv rfl) ?_
    refine sv rfl (opv_as rfl) ?_
    refine snil ?_
    refine cret ?_
    obtain rfl := Option.some.inj h
    exact ⟨Or.inr rfl, _, [0], [.one (.ls 0 b2.length)], [.arr 5 1 0 (b2.flatMap eU8)], (resVs_cons (ResV.tmp _ _ rfl) resVs_nil), rfl, rfl, ⟨by decide, rfl⟩, rfl, rfl, ⟨rfl, rfl⟩⟩
  · skip
    refine cblock ?_
    obtain ⟨x3, hx3, ho3⟩ := bind_eq h
    refine awc_loop (G := Nat × ((BitVec 64) × Int × (List UInt8))) (fun g => [(1, .s (.one (.i .u64 (g.2.1.toNat : Int)))), (2, .s (.one (.i .i64 a2))), (7, .s (.one (.ls 0 g.2.2.2.length))), (8, .s (.one (.i .i64 g.2.2.1)))]) (fun g => [.arr 5 1 0 (g.2.2.2.flatMap eU8)]) (fun g => iterB (m44_r01_Uo_s3 a2) g.1 g.2 = some x3) (fun g => g.1) (fuel, (a1, 0, (([] : List UInt8) ++ a0))) hx3 ⟨rfl, rfl, rfl, rfl, trivial⟩ [] rfl (fun _ _ => inbL_of rfl) (fun _ _ => blkinb_of rfl) (fun _ _ => Nat.le_of_ble_eq_true rfl) ?_
    clear hx3 h
    rintro ⟨n3, s3⟩ h
    obtain ⟨n3, y3, rfl, h, hk3⟩ := iterB_eq h
    unfold m44_r01_Uo_s3 at h
    refine cseq ?_
    refine cseq ?_
    refine cjoin3 (Unit) (fun b4 => [(1, .s (.one (.i .u64 (s3.1.toNat : Int)))), (2, .s (.one (.i .i64 a2))), (7, .s (.one (.ls 0 s3.2.2.length))), (8, .s (.one (.i .i64 s3.2.1)))]) (fun b4 => [.arr 5 1 0 (s3.2.2.flatMap eU8)]) (fun b4 => m44_r01_Uo_k4 s3 b4 = some y3) (fun _ _ => inbL_of rfl) (fun _ _ => blkinb_of rfl) (fun _ _ => Nat.le_of_ble_eq_true rfl) (fun b4 h => ?_) ?_
    · unfold m44_r01_Uo_k4 at h
      refine cseq ?_
      refine cblock ?_
      refine cseq ?_
      refine cregion ?_
      refine sv rfl (opv_mv rfl) ?_
      refine sv rfl (opv_mv rfl) ?_
      refine sv rfl (opv_rem_u64 (a := s3.1) (b := 256#64) rfl rfl rfl rfl (by decide)) ?_
      refine sv rfl (opv_conv_bv (k := .u64) (a := (s3.1 % (256#64))) rfl Try.underlying58 Try.underlying5 rfl rfl) ?_
      refine sbuild1 rfl Try.underlying22 ei5 rfl rfl (List.all_eq_true.1 rfl) (by decide) ?_
      refine smem [.arr 5 1 0 (s3.2.2.flatMap eU8), .arr 5 1 0 ([(UInt8.ofBitVec ((s3.1 % (256#64)).setWidth 8))].flatMap eU8)] rfl ?_
      obtain ⟨hb5, h⟩ := chk_eq h
      refine sapp (f := eU8) (xs := s3.2.2) (us := [(UInt8.ofBitVec ((s3.1 % (256#64)).setWidth 8))]) rfl Try.underlying22 ei5 ni22 (fun _ => rfl) rfl rfl (.one _ _ _ _ (.ls _ _ _ _ _ _ rfl (flat_len (f := eU8) (fun _ => rfl) [(UInt8.ofBitVec ((s3.1 % (256#64)).setWidth 8))]).symm)) rfl rfl rfl (.sl _ _ _ (flat_len (f := eU8) (fun _ => rfl) _)) rfl rfl hb5 (by decide) ?_
      refine sv rfl (opv_as rfl) ?_
      refine snil ?_
      refine cregion ?_
      refine sv rfl (opv_mv rfl) ?_
      refine sv rfl (opv_quo_u64 (a := s3.1) (b := 256#64) rfl rfl rfl rfl (by decide)) ?_
      refine sv rfl (opv_as rfl) ?_
      refine snil0 ?_
      refine block_normal ?_
      refine then_normal ?_
      refine cregion ?_
      refine sv rfl (opv_mv rfl) ?_
      refine sv rfl (opv_add rfl rfl) ?_
      refine sv rfl (opv_as rfl) ?_
      refine snil ?_
      obtain rfl := Option.some.inj h
      exact ⟨(n3, ((s3.1 / (256#64)), (wI (s3.2.1 + 1)), (s3.2.2 ++ [(UInt8.ofBitVec ((s3.1 % (256#64)).setWidth 8))]))), _, hk3, ⟨rfl, rfl, rfl, rfl, trivial⟩, rfl, Nat.lt_succ_self _⟩
    · skip
      refine cregion ?_
      refine sv rfl (opv_mv rfl) ?_
      refine sv rfl (opv_mv rfl) ?_
      refine sv rfl (opv_lss rfl rfl) ?_
      refine sv rfl (opv_mv rfl) ?_
      refine ssplit 15 rfl (fun hc => ?_) (fun hc => ?_)
      · replace h := ite_t hc h
        clear hc
        refine son rfl rfl rfl ?_
        refine sv rfl (opv_mv rfl) ?_
        refine son rfl rfl rfl ?_
        refine sv rfl (opv_lss rfl rfl) ?_
        refine sv rfl (opv_pick_t rfl rfl) ?_
        refine snil ?_
        refine ccond rfl (fun hc => ?_) (fun hc => ?_)
        · replace h := ite_t hc h
          clear hc
          refine cskip ?_
          refine then_normal ?_
          exact ⟨(), _, h, ⟨rfl, rfl, rfl, rfl, trivial⟩, rfl⟩
        · replace h := ite_f hc h
          clear hc
          refine cexit ?_
          refine then_exit ?_
          refine then_exit ?_
          refine block_hit ?_
          refine then_normal ?_
          obtain rfl := Option.some.inj h
          obtain rfl : _ = x3 := hk3
          exact ⟨s3.2.2, _, ho3, ⟨rfl, trivial⟩, rfl⟩
      · replace h := ite_f hc h
        clear hc
        refine soff rfl rfl rfl rfl ?_
        refine soff rfl rfl rfl rfl ?_
        refine sv rfl (opv_pick_f rfl rfl) ?_
        refine snil ?_
        refine ccond rfl (fun hx => Bool.noConfusion hx) (fun _ => ?_)
        refine cexit ?_
        refine then_exit ?_
        refine then_exit ?_
        refine block_hit ?_
        refine then_normal ?_
        obtain rfl := Option.some.inj h
        obtain rfl : _ = x3 := hk3
        exact ⟨s3.2.2, _, ho3, ⟨rfl, trivial⟩, rfl⟩

def m38_r03_Put (a0 : List UInt8) (a1 : List UInt8) : Option ((List UInt8) × Int) :=
  if (decide (512 < (a1.length : Int))) then (some (([] : List UInt8), 5)) else ((m44_r01_U ([] : List UInt8) (BitVec.ofInt 64 (a1.length : Int)) 2).bind fun v1 => (m46_r02_Of v1).bind fun v2 => (m45_r02_More v2 a1).bind fun v3 => if (([] : List UInt8).length + a0.length) * 1 ≤ 140737488355328 then (if ((([] : List UInt8) ++ a0).length + v1.length) * 1 ≤ 140737488355328 then ((m44_r01_Uo ((([] : List UInt8) ++ a0) ++ v1) (v3.setWidth 64) 4).bind fun v6 => if (v6.length + a1.length) * 1 ≤ 140737488355328 then (some ((v6 ++ a1), 0)) else none) else none) else none)

set_option maxRecDepth 100000 in
theorem m38_r03_Put_c {a0 : List UInt8} {a1 : List UInt8} {r : (List UInt8) × Int} (h : m38_r03_Put a0 a1 = some r) : CallsA Try.prog 38 [.one (.sl a0.length (a0.flatMap eU8)), .one (.sl a1.length (a1.flatMap eU8))] (· = .tup [.one (.sl r.1.length (r.1.flatMap eU8)), .one (.i .i64 r.2)]) := by
  unfold m38_r03_Put at h
  refine callsA_of Try.func38 rfl (nt := 33) rfl (Nat.le_of_ble_eq_true rfl) ?_
  intro w0 S0
  refine cseq ?_
  refine cregion ?_
  refine sv rfl (opv_as rfl) ?_
  refine sv rfl (opv_as rfl) ?_
  refine snil ?_
  refine cseq ?_
  refine cseq ?_
  refine cregion ?_
  refine sv rfl (opv_mv rfl) ?_
  refine sv rfl (opv_len_sl si22 rfl) ?_
  refine sv rfl (opv_gtr rfl rfl) ?_
  refine snil ?_
  refine ccond rfl (fun hc => ?_) (fun hc => ?_)
  · replace h := ite_t hc h
    clear hc
    refine cseq ?_
    refine cregion ?_
    refine sv rfl (opv_as rfl) ?_
    refine sv rfl (opv_as rfl) ?_
    refine snil ?_
    refine cret ?_
    refine then_ret ?_
    obtain rfl := Option.some.inj h
    refine ⟨Or.inr rfl, _, _, _, (resVs_cons (ResV.tmp _ _ rfl) (resVs_cons (ResV.tmp _ _ rfl) resVs_nil)), (pubC rfl), ?_⟩
    rfl
  · replace h := ite_f hc h
    clear hc
    refine cskip ?_
    refine then_normal ?_
    refine cseq ?_
    refine cregion ?_
    refine sv rfl (opv_mv rfl) ?_
    refine sv rfl (opv_len_sl si22 rfl) ?_
    refine sv rfl (opv_conv_ibv rfl Try.underlying3 Try.underlying58 rfl) ?_
    obtain ⟨v1, hv1, h⟩ := bind_eq h
    refine scall1 rfl fn44 (opnds_cons rfl (opnds_cons rfl (opnds_cons rfl opnds_nil))) (pubC rfl) (m44_r01_U_c hv1) ?_
    refine sv rfl (opv_as rfl) ?_
    refine snil ?_
    refine cseq ?_
    refine cregion ?_
    refine sv rfl (opv_mv rfl) ?_
    obtain ⟨v2, hv2, h⟩ := bind_eq h
    refine scall1 rfl fn46 (opnds_cons rfl opnds_nil) (pubA_id rfl) (m46_r02_Of_c hv2) ?_
    refine sv rfl (opv_mv rfl) ?_
    obtain ⟨v3, hv3, h⟩ := bind_eq h
    refine scall1 rfl fn45 (opnds_cons rfl (opnds_cons rfl opnds_nil)) (pubA_id rfl) (m45_r02_More_c hv3) ?_
    refine sv rfl (opv_as rfl) ?_
    refine snil ?_
    refine cseq ?_
    refine cregion ?_
    refine sbuild0 rfl Try.underlying22 ei5 ?_
    refine sv rfl (opv_mv rfl) ?_
    obtain ⟨hb4, h⟩ := chk_eq h
    refine sapp (f := eU8) (xs := ([] : List UInt8)) (us := a0) rfl Try.underlying22 ei5 ni22 (fun _ => rfl) rfl rfl (.one _ _ _ _ (.id _ rfl)) rfl rfl rfl (.sl _ _ _ (flat_len (f := eU8) (fun _ => rfl) _)) rfl rfl hb4 (by decide) ?_
    refine sv rfl (opv_as rfl) ?_
    refine snil ?_
    refine cseq ?_
    refine cregion ?_
    refine sv rfl (opv_mv rfl) ?_
    refine sv rfl (opv_mv rfl) ?_
    obtain ⟨hb5, h⟩ := chk_eq h
    refine sapp (f := eU8) (xs := (([] : List UInt8) ++ a0)) (us := v1) rfl Try.underlying22 ei5 ni22 (fun _ => rfl) rfl rfl (.one _ _ _ _ (.id _ rfl)) rfl rfl rfl (.sl _ _ _ (flat_len (f := eU8) (fun _ => rfl) _)) rfl rfl hb5 (by decide) ?_
    refine sv rfl (opv_as rfl) ?_
    refine snil ?_
    refine cseq ?_
    refine cregion ?_
    refine sv rfl (opv_mv rfl) ?_
    refine sv rfl (opv_mv rfl) ?_
    refine sv rfl (opv_conv_bv (k := .u32) (a := v3) rfl Try.underlying62 Try.underlying58 rfl rfl) ?_
    refine spub 26 rfl (by (repeat' first | exact PubA.nil _ | apply PubA.cons | apply PubV.one | apply PubV.agg | exact PubL.nil | exact PubL.ls _ _ _ _ _ _ rfl (flat_len (f := eU8) (fun _ => rfl) _).symm | exact PubL.id _ rfl | exact PubLs.nil _ | apply PubLs.cons)) ?_
    obtain ⟨v6, hv6, h⟩ := bind_eq h
    refine scallB (x' := .s (.one (.ls 1 v6.length))) (M' := [.arr 5 1 (((([] : List UInt8) ++ a0) ++ v1).flatMap eU8).length (((([] : List UInt8) ++ a0) ++ v1).flatMap eU8), .arr 5 1 0 (v6.flatMap eU8)]) [] rfl fn44 (.func _) (opnds_cons rfl (opnds_cons rfl (opnds_cons rfl opnds_nil))) (m44_r01_Uo_c hv6) rfl rfl (by decide) rfl rfl rfl ?_
    refine sv rfl (opv_as rfl) ?_
    refine snil ?_
    refine cseq ?_
    refine cregion ?_
    refine sv rfl (opv_mv rfl) ?_
    refine sv rfl (opv_mv rfl) ?_
    obtain ⟨hb7, h⟩ := chk_eq h
    refine sapp (f := eU8) (xs := v6) (us := a1) rfl Try.underlying22 ei5 ni22 (fun _ => rfl) rfl rfl (.one _ _ _ _ (.id _ rfl)) rfl rfl rfl (.sl _ _ _ (flat_len (f := eU8) (fun _ => rfl) _)) rfl rfl hb7 (by decide) ?_
    refine sv rfl (opv_as rfl) ?_
    refine sv rfl (opv_as rfl) ?_
    refine snil ?_
    refine cret ?_
    obtain rfl := Option.some.inj h
    refine ⟨Or.inr rfl, _, _, _, (resVs_cons (ResV.tmp _ _ rfl) (resVs_cons (ResV.tmp _ _ rfl) resVs_nil)), (by (repeat' first | exact PubA.nil _ | apply PubA.cons | apply PubV.one | apply PubV.agg | exact PubL.nil | exact PubL.ls _ _ _ _ _ _ rfl (flat_len (f := eU8) (fun _ => rfl) _).symm | exact PubL.id _ rfl | exact PubLs.nil _ | apply PubLs.cons)), ?_⟩
    rfl

def m30_r03_Read_k1 (a0 : List UInt8) (a1 : Int) (b1 : Unit) : Option ((List UInt8) × Int × Int) :=
  if (decide ((wI ((a0.length : Int) - a1)) < 2)) then (some (([] : List UInt8), 0, 2)) else ((idx a0 a1).bind fun u2 => (idx a0 (wI (a1 + 1))).bind fun u3 => if (decide (512 < (wI ((wI (u2.toBitVec.toNat : Int)) + (wI (256 * (wI (u3.toBitVec.toNat : Int)))))))) then (some (([] : List UInt8), 0, 5)) else (if (decide ((wI ((a0.length : Int) - a1)) < (wI (6 + (wI ((wI (u2.toBitVec.toNat : Int)) + (wI (256 * (wI (u3.toBitVec.toNat : Int)))))))))) then (some (([] : List UInt8), 0, 2)) else ((cut a0 (wI (a1 + 6)) (wI ((wI (a1 + 6)) + (wI ((wI (u2.toBitVec.toNat : Int)) + (wI (256 * (wI (u3.toBitVec.toNat : Int))))))))).bind fun c4 => if (([] : List UInt8).length + c4.length) * 1 ≤ 140737488355328 then ((m38_r03_Put ([] : List UInt8) (([] : List UInt8) ++ c4)).bind fun v6 => (cut a0 a1 (wI ((wI (a1 + 6)) + (wI ((wI (u2.toBitVec.toNat : Int)) + (wI (256 * (wI (u3.toBitVec.toNat : Int))))))))).bind fun c7 => if (!(v6.1 == c7)) then (some (([] : List UInt8), 0, 4)) else (some ((([] : List UInt8) ++ c4), (wI ((wI (a1 + 6)) + (wI ((wI (u2.toBitVec.toNat : Int)) + (wI (256 * (wI (u3.toBitVec.toNat : Int)))))))), 0))) else none)))
def m30_r03_Read (a0 : List UInt8) (a1 : Int) : Option ((List UInt8) × Int × Int) :=
  if (decide (a1 < 0)) then (some (([] : List UInt8), 0, 1)) else (if (decide ((a0.length : Int) < a1)) then (some (([] : List UInt8), 0, 1)) else (m30_r03_Read_k1 a0 a1 ()))

set_option maxRecDepth 100000 in
theorem m30_r03_Read_c {a0 : List UInt8} {a1 : Int} {r : (List UInt8) × Int × Int} (h : m30_r03_Read a0 a1 = some r) : CallsA Try.prog 30 [.one (.sl a0.length (a0.flatMap eU8)), .one (.i .i64 a1)] (· = .tup [.one (.sl r.1.length (r.1.flatMap eU8)), .one (.i .i64 r.2.1), .one (.i .i64 r.2.2)]) := by
  unfold m30_r03_Read at h
  refine callsA_of Try.func30 rfl (nt := 77) rfl (Nat.le_of_ble_eq_true rfl) ?_
  intro w0 S0
  refine cseq ?_
  refine cregion ?_
  refine sv rfl (opv_as rfl) ?_
  refine sv rfl (opv_as rfl) ?_
  refine sv rfl (opv_as rfl) ?_
  refine snil ?_
  refine cseq ?_
  refine cseq ?_
  refine cjoin3 (Unit) (fun b1 => [(0, .s (.one (.sl a0.length (a0.flatMap eU8)))), (1, .s (.one (.i .i64 a1)))]) (fun b1 => []) (fun b1 => m30_r03_Read_k1 a0 a1 b1 = some r) (fun _ _ => inbL_of rfl) (fun _ _ => blkinb_of rfl) (fun _ _ => Nat.le_of_ble_eq_true rfl) (fun b1 h => ?_) ?_
  · unfold m30_r03_Read_k1 at h
    refine cseq ?_
    refine cseq ?_
    refine cregion ?_
    refine sv rfl (opv_mv rfl) ?_
    refine sv rfl (opv_len_sl si22 rfl) ?_
    refine sv rfl (opv_mv rfl) ?_
    refine sv rfl (opv_sub rfl rfl) ?_
    refine sv rfl (opv_lss rfl rfl) ?_
    refine snil ?_
    refine ccond rfl (fun hc => ?_) (fun hc => ?_)
    · replace h := ite_t hc h
      clear hc
      refine cseq ?_
      refine cregion ?_
      refine sv rfl (opv_as rfl) ?_
      refine sv rfl (opv_as rfl) ?_
      refine sv rfl (opv_as rfl) ?_
      refine snil ?_
      refine cret ?_
      refine then_ret ?_
      obtain rfl := Option.some.inj h
      refine ⟨Or.inr rfl, _, _, _, (resVs_cons (ResV.tmp _ _ rfl) (resVs_cons (ResV.tmp _ _ rfl) (resVs_cons (ResV.tmp _ _ rfl) resVs_nil))), (pubC rfl), ?_⟩
      rfl
    · replace h := ite_f hc h
      clear hc
      refine cskip ?_
      refine then_normal ?_
      refine cseq ?_
      refine cdraw mixed (by kernel_rfl) ?_
      refine dv rfl (opv_mv rfl) ?_
      refine dv rfl (opv_mv rfl) ?_
      obtain ⟨u2, hu2, h⟩ := bind_eq h
      refine dv rfl (opv_ix (f := eU8) si22 (fun _ => rfl) rfl rfl rfl rfl hu2) ?_
      refine dv rfl (opv_load1 ti5 rfl (.cp _) rfl) ?_
      refine dv rfl (opv_conv_int Try.underlying5 Try.underlying3 rfl) ?_
      refine dv rfl (opv_mv rfl) ?_
      refine dv rfl (opv_mv rfl) ?_
      refine dv rfl (opv_add rfl rfl) ?_
      obtain ⟨u3, hu3, h⟩ := bind_eq h
      refine dv rfl (opv_ix (f := eU8) si22 (fun _ => rfl) rfl rfl rfl rfl hu3) ?_
      refine dv rfl (opv_load1 ti5 rfl (.cp _) rfl) ?_
      refine dv rfl (opv_conv_int Try.underlying5 Try.underlying3 rfl) ?_
      refine dv rfl (opv_mul rfl rfl) ?_
      refine dv rfl (opv_add rfl rfl) ?_
      refine dv rfl (opv_as rfl) ?_
      refine dnil ?_
      refine then_normal ?_
      refine cseq ?_
      refine cseq ?_
      refine cregion ?_
      refine sv rfl (opv_mv rfl) ?_
      refine sv rfl (opv_gtr rfl rfl) ?_
      refine snil ?_
      refine ccond rfl (fun hc => ?_) (fun hc => ?_)
      · replace h := ite_t hc h
        clear hc
        refine cseq ?_
        refine cregion ?_
        refine sv rfl (opv_as rfl) ?_
        refine sv rfl (opv_as rfl) ?_
        refine sv rfl (opv_as rfl) ?_
        refine snil ?_
        refine cret ?_
        refine then_ret ?_
        obtain rfl := Option.some.inj h
        refine ⟨Or.inr rfl, _, _, _, (resVs_cons (ResV.tmp _ _ rfl) (resVs_cons (ResV.tmp _ _ rfl) (resVs_cons (ResV.tmp _ _ rfl) resVs_nil))), (pubC rfl), ?_⟩
        rfl
      · replace h := ite_f hc h
        clear hc
        refine cskip ?_
        refine then_normal ?_
        refine cseq ?_
        refine cseq ?_
        refine cregion ?_
        refine sv rfl (opv_mv rfl) ?_
        refine sv rfl (opv_len_sl si22 rfl) ?_
        refine sv rfl (opv_mv rfl) ?_
        refine sv rfl (opv_sub rfl rfl) ?_
        refine sv rfl (opv_mv rfl) ?_
        refine sv rfl (opv_add rfl rfl) ?_
        refine sv rfl (opv_lss rfl rfl) ?_
        refine snil ?_
        refine ccond rfl (fun hc => ?_) (fun hc => ?_)
        · replace h := ite_t hc h
          clear hc
          refine cseq ?_
          refine cregion ?_
          refine sv rfl (opv_as rfl) ?_
          refine sv rfl (opv_as rfl) ?_
          refine sv rfl (opv_as rfl) ?_
          refine snil ?_
          refine cret ?_
          refine then_ret ?_
          obtain rfl := Option.some.inj h
          refine ⟨Or.inr rfl, _, _, _, (resVs_cons (ResV.tmp _ _ rfl) (resVs_cons (ResV.tmp _ _ rfl) (resVs_cons (ResV.tmp _ _ rfl) resVs_nil))), (pubC rfl), ?_⟩
          rfl
        · replace h := ite_f hc h
          clear hc
          refine cskip ?_
          refine then_normal ?_
          refine cseq ?_
          refine cregion ?_
          refine sbuild0 rfl Try.underlying22 ei5 ?_
          refine sv rfl (opv_mv rfl) ?_
          refine sv rfl (opv_mv rfl) ?_
          refine sv rfl (opv_add rfl rfl) ?_
          refine sv rfl (opv_mv rfl) ?_
          refine sv rfl (opv_add rfl rfl) ?_
          refine sv rfl (opv_mv rfl) ?_
          refine sv rfl (opv_add rfl rfl) ?_
          obtain ⟨c4, hc4, h⟩ := bind_eq h
          refine sv rfl (opv_cut (f := eU8) (lo := (wI (a1 + 6))) (hi := (wI ((wI (a1 + 6)) + (wI ((wI (u2.toBitVec.toNat : Int)) + (wI (256 * (wI (u3.toBitVec.toNat : Int))))))))) si22 (fun _ => rfl) rfl rfl rfl (bound_some rfl (cut_eq hc4).1.1) (bound_some rfl (Int.le_trans (cut_eq hc4).1.1 (cut_eq hc4).1.2.1)) hc4) ?_
          obtain ⟨hb5, h⟩ := chk_eq h
          refine sapp (f := eU8) (xs := ([] : List UInt8)) (us := c4) rfl Try.underlying22 ei5 ni22 (fun _ => rfl) rfl rfl (.one _ _ _ _ (.id _ rfl)) rfl rfl rfl (.sl _ _ _ (flat_len (f := eU8) (fun _ => rfl) _)) rfl rfl hb5 (by decide) ?_
          refine sv rfl (opv_as rfl) ?_
          refine snil ?_
          refine cseq ?_
          refine cregion ?_
          refine sv rfl (opv_mv rfl) ?_
          refine spub 57 rfl (by (repeat' first | exact PubA.nil _ | apply PubA.cons | apply PubV.one | apply PubV.agg | exact PubL.nil | exact PubL.ls _ _ _ _ _ _ rfl (flat_len (f := eU8) (fun _ => rfl) _).symm | exact PubL.id _ rfl | exact PubLs.nil _ | apply PubLs.cons)) ?_
          obtain ⟨v6, hv6, h⟩ := bind_eq h
          refine scall1 rfl fn38 (opnds_cons rfl (opnds_cons rfl opnds_nil)) (pubC rfl) (m38_r03_Put_c hv6) ?_
          refine sv rfl (opv_mvt rfl) ?_
          refine sv rfl (opv_extract rfl rfl) ?_
          refine sv rfl (opv_extract rfl rfl) ?_
          refine sv rfl (opv_as rfl) ?_
          refine sv rfl (opv_as rfl) ?_
          refine snil ?_
          refine cseq ?_
          refine cseq ?_
          refine cdraw mixed (by kernel_rfl) ?_
          refine dv rfl (opv_mv rfl) ?_
          refine dv rfl (opv_bs (l := v6.1) Try.underlying22 Try.underlying5 Try.underlying9 rfl rfl rfl) ?_
          refine dv rfl (opv_mv rfl) ?_
          refine dv rfl (opv_mv rfl) ?_
          refine dv rfl (opv_mv rfl) ?_
          refine dv rfl (opv_add rfl rfl) ?_
          refine dv rfl (opv_mv rfl) ?_
          refine dv rfl (opv_add rfl rfl) ?_
          obtain ⟨c7, hc7, h⟩ := bind_eq h
          refine dv rfl (opv_cut (f := eU8) (lo := a1) (hi := (wI ((wI (a1 + 6)) + (wI ((wI (u2.toBitVec.toNat : Int)) + (wI (256 * (wI (u3.toBitVec.toNat : Int))))))))) si22 (fun _ => rfl) rfl rfl rfl (bound_some rfl (cut_eq hc7).1.1) (bound_some rfl (Int.le_trans (cut_eq hc7).1.1 (cut_eq hc7).1.2.1)) hc7) ?_
          refine dv rfl (opv_bs (l := c7) Try.underlying22 Try.underlying5 Try.underlying9 rfl rfl rfl) ?_
          refine dv rfl (opv_sneq' rfl rfl) ?_
          refine dnil ?_
          refine then_normal ?_
          refine ccond rfl (fun hc => ?_) (fun hc => ?_)
          · replace h := ite_t hc h
            clear hc
            refine cseq ?_
            refine cregion ?_
            refine sv rfl (opv_as rfl) ?_
            refine sv rfl (opv_as rfl) ?_
            refine sv rfl (opv_as rfl) ?_
            refine snil ?_
            refine cret ?_
            refine then_ret ?_
            obtain rfl := Option.some.inj h
            refine ⟨Or.inr rfl, _, _, _, (resVs_cons (ResV.tmp _ _ rfl) (resVs_cons (ResV.tmp _ _ rfl) (resVs_cons (ResV.tmp _ _ rfl) resVs_nil))), (pubC rfl), ?_⟩
            rfl
          · replace h := ite_f hc h
            clear hc
            refine cskip ?_
            refine then_normal ?_
            refine cseq ?_
            refine cregion ?_
            refine sv rfl (opv_mv rfl) ?_
            refine sv rfl (opv_mv rfl) ?_
            refine sv rfl (opv_add rfl rfl) ?_
            refine sv rfl (opv_mv rfl) ?_
            refine sv rfl (opv_add rfl rfl) ?_
            refine sv rfl (opv_as rfl) ?_
            refine sv rfl (opv_as rfl) ?_
            refine sv rfl (opv_as rfl) ?_
            refine snil ?_
            refine cret ?_
            obtain rfl := Option.some.inj h
            refine ⟨Or.inr rfl, _, _, _, (resVs_cons (ResV.tmp _ _ rfl) (resVs_cons (ResV.tmp _ _ rfl) (resVs_cons (ResV.tmp _ _ rfl) resVs_nil))), (by (repeat' first | exact PubA.nil _ | apply PubA.cons | apply PubV.one | apply PubV.agg | exact PubL.nil | exact PubL.ls _ _ _ _ _ _ rfl (flat_len (f := eU8) (fun _ => rfl) _).symm | exact PubL.id _ rfl | exact PubLs.nil _ | apply PubLs.cons)), ?_⟩
            rfl
  · skip
    refine cregion ?_
    refine sv rfl (opv_mv rfl) ?_
    refine sv rfl (opv_lss rfl rfl) ?_
    refine sv rfl (opv_mv rfl) ?_
    refine ssplit 13 rfl (fun hc => ?_) (fun hc => ?_)
    · replace h := ite_t hc h
      clear hc
      refine soff rfl rfl rfl rfl ?_
      refine soff rfl rfl rfl rfl ?_
      refine soff rfl rfl rfl rfl ?_
      refine soff rfl rfl rfl rfl ?_
      refine sv rfl (opv_pick_t rfl rfl) ?_
      refine snil ?_
      refine ccond rfl (fun _ => ?_) (fun hx => Bool.noConfusion hx)
      refine cseq ?_
      refine cregion ?_
      refine sv rfl (opv_as rfl) ?_
      refine sv rfl (opv_as rfl) ?_
      refine sv rfl (opv_as rfl) ?_
      refine snil ?_
      refine cret ?_
      refine then_ret ?_
      obtain rfl := Option.some.inj h
      refine ⟨Or.inr rfl, _, _, _, (resVs_cons (ResV.tmp _ _ rfl) (resVs_cons (ResV.tmp _ _ rfl) (resVs_cons (ResV.tmp _ _ rfl) resVs_nil))), (pubC rfl), ?_⟩
      rfl
    · replace h := ite_f hc h
      clear hc
      refine son rfl rfl rfl ?_
      refine sv rfl (opv_mv rfl) ?_
      refine son rfl rfl rfl ?_
      refine sv rfl (opv_mv rfl) ?_
      refine son rfl rfl rfl ?_
      refine sv rfl (opv_len_sl si22 rfl) ?_
      refine son rfl rfl rfl ?_
      refine sv rfl (opv_gtr rfl rfl) ?_
      refine sv rfl (opv_pick_f rfl rfl) ?_
      refine snil ?_
      refine ccond rfl (fun hc => ?_) (fun hc => ?_)
      · replace h := ite_t hc h
        clear hc
        refine cseq ?_
        refine cregion ?_
        refine sv rfl (opv_as rfl) ?_
        refine sv rfl (opv_as rfl) ?_
        refine sv rfl (opv_as rfl) ?_
        refine snil ?_
        refine cret ?_
        refine then_ret ?_
        obtain rfl := Option.some.inj h
        refine ⟨Or.inr rfl, _, _, _, (resVs_cons (ResV.tmp _ _ rfl) (resVs_cons (ResV.tmp _ _ rfl) (resVs_cons (ResV.tmp _ _ rfl) resVs_nil))), (pubC rfl), ?_⟩
        rfl
      · replace h := ite_f hc h
        clear hc
        refine cskip ?_
        refine then_normal ?_
        exact ⟨(), _, h, ⟨rfl, rfl, trivial⟩, rfl⟩

def m18_r04_Sane (a0 : GR04Stream) : Option Bool :=
  if (!decide (a0.Dead = 0)) then (if (decide (a0.Dead = 4)) then (some (decide ((a0.Buf.length : Int) = 0))) else (if (decide (a0.Dead = 5)) then (some (decide ((a0.Buf.length : Int) = 0))) else (some false))) else ((m30_r03_Read a0.Buf 0).bind fun v1 => if (decide ((a0.Buf.length : Int) = 0)) then (some true) else (some (decide (v1.2.2 = 2))))

set_option maxRecDepth 100000 in
theorem m18_r04_Sane_c {a0 : GR04Stream} {r : Bool} (h : m18_r04_Sane a0 = some r) : CallsA Try.prog 18 [.agg [.sl a0.Buf.length (a0.Buf.flatMap eU8), .i .i64 a0.Dead]] (· = .s (.one (.b r))) := by
  unfold m18_r04_Sane at h
  refine callsA_of Try.func18 rfl (nt := 38) rfl (Nat.le_of_ble_eq_true rfl) ?_
  intro w0 S0
  refine cseq ?_
  refine cregion ?_
  refine sbox rfl rfl ?_
  refine sv rfl (opv_as rfl) ?_
  refine snil ?_
  refine cseq ?_
  refine cseq ?_
  refine cregion ?_
  refine sv rfl (opv_fieldAddr_lp fi25_1 rfl) ?_
  refine sv rfl (opv_load1 ti23 rfl (.lp _ _ _ rfl) rfl) ?_
  refine sv rfl (opv_ineq rfl rfl) ?_
  refine snil ?_
  refine ccond rfl (fun hc => ?_) (fun hc => ?_)
  · replace h := ite_t hc h
    clear hc
    refine cseq ?_
    refine cregion ?_
    refine sv rfl (opv_fieldAddr_lp fi25_1 rfl) ?_
    refine sv rfl (opv_load1 ti23 rfl (.lp _ _ _ rfl) rfl) ?_
    refine sv rfl (opv_ieql rfl rfl) ?_
    refine sv rfl (opv_mv rfl) ?_
    refine ssplit 12 rfl (fun hc => ?_) (fun hc => ?_)
    · replace h := ite_t hc h
      clear hc
      refine soff rfl rfl rfl rfl ?_
      refine soff rfl rfl rfl rfl ?_
      refine soff rfl rfl rfl rfl ?_
      refine sv rfl (opv_pick_t rfl rfl) ?_
      refine sv rfl (opv_mv rfl) ?_
      refine son rfl rfl rfl ?_
      refine sv rfl (opv_fieldAddr_lp fi25_0 rfl) ?_
      refine son rfl rfl rfl ?_
      refine sv rfl (opv_load1 ti22 rfl (.lp _ _ _ rfl) rfl) ?_
      refine son rfl rfl rfl ?_
      refine sv rfl (opv_len_sl si22 rfl) ?_
      refine son rfl rfl rfl ?_
      refine sv rfl (opv_ieql rfl rfl) ?_
      refine sv rfl (opv_pick_t rfl rfl) ?_
      refine sv rfl (opv_as rfl) ?_
      refine snil ?_
      refine cret ?_
      refine then_ret ?_
      obtain rfl := Option.some.inj h
      refine ⟨Or.inr rfl, _, _, _, (resVs_cons (ResV.tmp _ _ rfl) resVs_nil), (pubA_id rfl), ?_⟩
      rfl
    · replace h := ite_f hc h
      clear hc
      refine son rfl rfl rfl ?_
      refine sv rfl (opv_fieldAddr_lp fi25_1 rfl) ?_
      refine son rfl rfl rfl ?_
      refine sv rfl (opv_load1 ti23 rfl (.lp _ _ _ rfl) rfl) ?_
      refine son rfl rfl rfl ?_
      refine sv rfl (opv_ieql rfl rfl) ?_
      refine sv rfl (opv_pick_f rfl rfl) ?_
      refine sv rfl (opv_mv rfl) ?_
      refine ssplit 17 rfl (fun hc => ?_) (fun hc => ?_)
      · replace h := ite_t hc h
        clear hc
        refine son rfl rfl rfl ?_
        refine sv rfl (opv_fieldAddr_lp fi25_0 rfl) ?_
        refine son rfl rfl rfl ?_
        refine sv rfl (opv_load1 ti22 rfl (.lp _ _ _ rfl) rfl) ?_
        refine son rfl rfl rfl ?_
        refine sv rfl (opv_len_sl si22 rfl) ?_
        refine son rfl rfl rfl ?_
        refine sv rfl (opv_ieql rfl rfl) ?_
        refine sv rfl (opv_pick_t rfl rfl) ?_
        refine sv rfl (opv_as rfl) ?_
        refine snil ?_
        refine cret ?_
        refine then_ret ?_
        obtain rfl := Option.some.inj h
        refine ⟨Or.inr rfl, _, _, _, (resVs_cons (ResV.tmp _ _ rfl) resVs_nil), (pubA_id rfl), ?_⟩
        rfl
      · replace h := ite_f hc h
        clear hc
        refine soff rfl rfl rfl rfl ?_
        refine soff rfl rfl rfl rfl ?_
        refine soff rfl rfl rfl rfl ?_
        refine soff rfl rfl rfl rfl ?_
        refine sv rfl (opv_pick_f rfl rfl) ?_
        refine sv rfl (opv_as rfl) ?_
        refine snil ?_
        refine cret ?_
        refine then_ret ?_
        obtain rfl := Option.some.inj h
        refine ⟨Or.inr rfl, _, _, _, (resVs_cons (ResV.tmp _ _ rfl) resVs_nil), (pubA_id rfl), ?_⟩
        rfl
  · replace h := ite_f hc h
    clear hc
    refine cskip ?_
    refine then_normal ?_
    refine cseq ?_
    refine cregion ?_
    refine sv rfl (opv_fieldAddr_lp fi25_0 rfl) ?_
    refine sv rfl (opv_load1 ti22 rfl (.lp _ _ _ rfl) rfl) ?_
    obtain ⟨v1, hv1, h⟩ := bind_eq h
    refine scall1 rfl fn30 (opnds_cons rfl (opnds_cons rfl opnds_nil)) (pubA_id rfl) (m30_r03_Read_c hv1) ?_
    refine sv rfl (opv_mvt rfl) ?_
    refine sv rfl (opv_extract rfl rfl) ?_
    refine sv rfl (opv_extract rfl rfl) ?_
    refine sv rfl (opv_extract rfl rfl) ?_
    refine sv rfl (opv_as rfl) ?_
    refine sv rfl (opv_as rfl) ?_
    refine sv rfl (opv_as rfl) ?_
    refine snil ?_
    refine cseq ?_
    refine cregion ?_
    refine sv rfl (opv_fieldAddr_lp fi25_0 rfl) ?_
    refine sv rfl (opv_load1 ti22 rfl (.lp _ _ _ rfl) rfl) ?_
    refine sv rfl (opv_len_sl si22 rfl) ?_
    refine sv rfl (opv_ieql rfl rfl) ?_
    refine sv rfl (opv_mv rfl) ?_
    refine ssplit 34 rfl (fun hc => ?_) (fun hc => ?_)
    · replace h := ite_t hc h
      clear hc
      refine soff rfl rfl rfl rfl ?_
      refine soff rfl rfl rfl rfl ?_
      refine sv rfl (opv_pick_t rfl rfl) ?_
      refine sv rfl (opv_as rfl) ?_
      refine snil ?_
      refine cret ?_
      obtain rfl := Option.some.inj h
      refine ⟨Or.inr rfl, _, _, _, (resVs_cons (ResV.tmp _ _ rfl) resVs_nil), (pubA_id rfl), ?_⟩
      rfl
    · replace h := ite_f hc h
      clear hc
      refine son rfl rfl rfl ?_
      refine sv rfl (opv_mv rfl) ?_
      refine son rfl rfl rfl ?_
      refine sv rfl (opv_ieql rfl rfl) ?_
      refine sv rfl (opv_pick_f rfl rfl) ?_
      refine sv rfl (opv_as rfl) ?_
      refine snil ?_
      refine cret ?_
      obtain rfl := Option.some.inj h
      refine ⟨Or.inr rfl, _, _, _, (resVs_cons (ResV.tmp _ _ rfl) resVs_nil), (pubA_id rfl), ?_⟩
      rfl

def m29_r03_All_k1 (b1 : Int × (List (List UInt8))) : Option ((List (List UInt8)) × Int × Int) :=
  some (b1.2, b1.1, 0)

def m29_r03_All_s2 (a0 : List UInt8) (s2 : Int × (List (List UInt8))) : Option (LR (Int × (List (List UInt8))) (Int × (List (List UInt8))) ((List (List UInt8)) × Int × Int)) :=
  if (decide (s2.1 < (a0.length : Int))) then ((m30_r03_Read a0 s2.1).bind fun v3 => if (!decide (v3.2.2 = 0)) then (some (.ret (s2.2, s2.1, v3.2.2))) else (if (s2.2.length + [v3.1].length) * 24 ≤ 140737488355328 then (some (.cont (v3.2.1, (s2.2 ++ [v3.1])))) else none)) else (some (.brk (s2.1, s2.2)))
def m29_r03_All (a0 : List UInt8) : Option ((List (List UInt8)) × Int × Int) :=
  (iter (m29_r03_All_s2 a0) fuel (0, ([] : List (List UInt8)))).bind fun x => match x with | .inl r => some r | .inr e5 => m29_r03_All_k1 e5

set_option maxRecDepth 100000 in
theorem m29_r03_All_c {a0 : List UInt8} {r : (List (List UInt8)) × Int × Int} (h : m29_r03_All a0 = some r) : CallsA Try.prog 29 [.one (.sl a0.length (a0.flatMap eU8))] (· = .tup [.one (.sl r.1.length (r.1.flatMap (eL eU8))), .one (.i .i64 r.2.1), .one (.i .i64 r.2.2)]) := by
  unfold m29_r03_All at h
  refine callsA_of Try.func29 rfl (nt := 33) rfl (Nat.le_of_ble_eq_true rfl) ?_
  intro w0 S0
  refine cseq ?_
  refine cregion ?_
  refine sv rfl (opv_as rfl) ?_
  refine sv rfl (opv_as rfl) ?_
  refine sv rfl (opv_as rfl) ?_
  refine snil ?_
  refine cseq ?_
  refine cregion ?_
  refine sv rfl (opv_as rfl) ?_
  refine snil ?_
  refine cseq ?_
  refine cregion ?_
  refine sv rfl (opv_as rfl) ?_
  refine snil ?_
  refine cseq ?_
  refine sadopt_c 22 1 5 (by decide) rfl ?_
  refine cjoin (Int × (List (List UInt8))) (fun b1 => [(5, .s (.one (.ls 0 b1.2.length))), (6, .s (.one (.i .i64 b1.1)))]) (fun b1 => [.arr 22 1 0 (b1.2.flatMap (eL eU8))]) (fun b1 => m29_r03_All_k1 b1 = some r) (fun _ _ => inbL_of rfl) (fun _ _ => blkinb_of rfl) (fun _ _ => Nat.le_of_ble_eq_true rfl) (fun b1 h => ?_) ?_
  · unfold m29_r03_All_k1 at h
    refine cseq ?_
    refine cregion ?_
    refine sv rfl (opv_mv rfl) ?_
    refine sv rfl (opv_mv rfl) ?_
    refine sv rfl (opv_as rfl) ?_
    refine sv rfl (opv_as rfl) ?_
    refine sv rfl (opv_as rfl) ?_
    refine snil ?_
    refine cret ?_
    obtain rfl := Option.some.inj h
    refine ⟨Or.inr rfl, _, _, _, (resVs_cons (ResV.tmp _ _ rfl) (resVs_cons (ResV.tmp _ _ rfl) (resVs_cons (ResV.tmp _ _ rfl) resVs_nil))), (by (repeat' first | exact PubA.nil _ | apply PubA.cons | apply PubV.one | apply PubV.agg | exact PubL.nil | exact PubL.ls _ _ _ _ _ _ rfl (flat_len (f := (eL eU8)) (fun _ => rfl) _).symm | exact PubL.id _ rfl | exact PubLs.nil _ | apply PubLs.cons)), ?_⟩
    rfl
  · skip
    refine cblock ?_
    obtain ⟨x2, hx2, ho2⟩ := bind_eq h
    refine awc_loop (G := Nat × (Int × (List (List UInt8)))) (fun g => [(0, .s (.one (.sl a0.length (a0.flatMap eU8)))), (5, .s (.one (.ls 0 g.2.2.length))), (6, .s (.one (.i .i64 g.2.1)))]) (fun g => [.arr 22 1 0 (g.2.2.flatMap (eL eU8))]) (fun g => iter (m29_r03_All_s2 a0) g.1 g.2 = some x2) (fun g => g.1) (fuel, (0, ([] : List (List UInt8)))) hx2 ⟨rfl, rfl, rfl, trivial⟩ [] rfl (fun _ _ => inbL_of rfl) (fun _ _ => blkinb_of rfl) (fun _ _ => Nat.le_of_ble_eq_true rfl) ?_
    clear hx2 h
    rintro ⟨n2, s2⟩ h
    obtain ⟨n2, y2, rfl, h, hk2⟩ := iter_eq h
    unfold m29_r03_All_s2 at h
    refine cseq ?_
    refine cseq ?_
    refine cregion ?_
    refine sv rfl (opv_mv rfl) ?_
    refine sv rfl (opv_mv rfl) ?_
    refine sv rfl (opv_len_sl si22 rfl) ?_
    refine sv rfl (opv_lss rfl rfl) ?_
    refine snil ?_
    refine ccond rfl (fun hc => ?_) (fun hc => ?_)
    · replace h := ite_t hc h
      clear hc
      refine cskip ?_
      refine then_normal ?_
      refine cblock ?_
      refine cseq ?_
      refine cregion ?_
      refine sv rfl (opv_mv rfl) ?_
      refine sv rfl (opv_mv rfl) ?_
      obtain ⟨v3, hv3, h⟩ := bind_eq h
      refine scall1 rfl fn30 (opnds_cons rfl (opnds_cons rfl opnds_nil)) (pubA_id rfl) (m30_r03_Read_c hv3) ?_
      refine sv rfl (opv_mvt rfl) ?_
      refine sv rfl (opv_extract rfl rfl) ?_
      refine sv rfl (opv_extract rfl rfl) ?_
      refine sv rfl (opv_extract rfl rfl) ?_
      refine sv rfl (opv_as rfl) ?_
      refine sv rfl (opv_as rfl) ?_
      refine sv rfl (opv_as rfl) ?_
      refine snil ?_
      refine cseq ?_
      refine cseq ?_
      refine cregion ?_
      refine sv rfl (opv_mv rfl) ?_
      refine sv rfl (opv_ineq rfl rfl) ?_
      refine snil ?_
      refine ccond rfl (fun hc => ?_) (fun hc => ?_)
      · replace h := ite_t hc h
        clear hc
        refine cseq ?_
        refine cregion ?_
        refine sv rfl (opv_mv rfl) ?_
        refine sv rfl (opv_mv rfl) ?_
        refine sv rfl (opv_mv rfl) ?_
        refine sv rfl (opv_as rfl) ?_
        refine sv rfl (opv_as rfl) ?_
        refine sv rfl (opv_as rfl) ?_
        refine snil ?_
        refine cret ?_
        refine then_ret ?_
        refine block_ret ?_
        refine then_ret ?_
        refine block_ret ?_
        refine then_ret ?_
        obtain rfl := Option.some.inj h
        obtain rfl : Sum.inl _ = x2 := hk2
        replace ho2 : some _ = some _ := ho2
        obtain rfl := Option.some.inj ho2
        refine ⟨Or.inr rfl, _, _, _, (resVs_cons (ResV.tmp _ _ rfl) (resVs_cons (ResV.tmp _ _ rfl) (resVs_cons (ResV.tmp _ _ rfl) resVs_nil))), (by (repeat' first | exact PubA.nil _ | apply PubA.cons | apply PubV.one | apply PubV.agg | exact PubL.nil | exact PubL.ls _ _ _ _ _ _ rfl (flat_len (f := (eL eU8)) (fun _ => rfl) _).symm | exact PubL.id _ rfl | exact PubLs.nil _ | apply PubLs.cons)), ?_⟩
        rfl
      · replace h := ite_f hc h
        clear hc
        refine cskip ?_
        refine then_normal ?_
        refine cseq ?_
        refine cregion ?_
        refine sv rfl (opv_mv rfl) ?_
        refine sv rfl (opv_mv rfl) ?_
        refine sbuild1 rfl Try.underlying28 ei22 rfl rfl (List.all_eq_true.1 rfl) (by decide) ?_
        refine smem [.arr 22 1 0 (s2.2.flatMap (eL eU8)), .arr 22 1 0 ([v3.1].flatMap (eL eU8))] rfl ?_
        obtain ⟨hb4, h⟩ := chk_eq h
        refine sapp (f := (eL eU8)) (xs := s2.2) (us := [v3.1]) rfl Try.underlying28 ei22 ni28 (fun _ => rfl) rfl rfl (.one _ _ _ _ (.ls _ _ _ _ _ _ rfl (flat_len (f := (eL eU8)) (fun _ => rfl) [v3.1]).symm)) rfl rfl rfl (.sl _ _ _ (flat_len (f := (eL eU8)) (fun _ => rfl) _)) rfl rfl hb4 (by decide) ?_
        refine sv rfl (opv_as rfl) ?_
        refine snil ?_
        refine cregion ?_
        refine sv rfl (opv_mv rfl) ?_
        refine sv rfl (opv_as rfl) ?_
        refine snil0 ?_
        refine block_normal ?_
        refine then_normal ?_
        obtain rfl := Option.some.inj h
        exact ⟨(n2, (v3.2.1, (s2.2 ++ [v3.1]))), _, hk2, ⟨rfl, rfl, rfl, trivial⟩, rfl, Nat.lt_succ_self _⟩
    · replace h := ite_f hc h
      clear hc
      refine cexit ?_
      refine then_exit ?_
      refine then_exit ?_
      refine block_hit ?_
      refine then_normal ?_
      obtain rfl := Option.some.inj h
      obtain rfl : _ = x2 := hk2
      exact ⟨(s2.1, s2.2), _, ho2, ⟨rfl, rfl, trivial⟩, rfl⟩

def m13_r04_Feed_k5 (a0 : GR04Stream) (a1 : List UInt8) (v4 : (List (List UInt8)) × Int × Int) (b5 : Unit) : Option (GR04Stream × (List (List UInt8)) × Int) :=
  (cut ((([] : List UInt8) ++ a0.Buf) ++ a1) v4.2.1 (((([] : List UInt8) ++ a0.Buf) ++ a1).length : Int)).bind fun c6 => some ((GR04Stream.mk c6 0), v4.1, 0)
def m13_r04_Feed (a0 : GR04Stream) (a1 : List UInt8) : Option (GR04Stream × (List (List UInt8)) × Int) :=
  (m18_r04_Sane (GR04Stream.mk a0.Buf a0.Dead)).bind fun v1 => if (!v1) then (some ((GR04Stream.mk ([] : List UInt8) 0), ([] : List (List UInt8)), 1)) else (if (!decide (a0.Dead = 0)) then (some ((GR04Stream.mk a0.Buf a0.Dead), ([] : List (List UInt8)), 13)) else (if (([] : List UInt8).length + a0.Buf.length) * 1 ≤ 140737488355328 then (if ((([] : List UInt8) ++ a0.Buf).length + a1.length) * 1 ≤ 140737488355328 then ((m29_r03_All ((([] : List UInt8) ++ a0.Buf) ++ a1)).bind fun v4 => if (decide (v4.2.2 = 4)) then (some ((GR04Stream.mk ([] : List UInt8) v4.2.2), v4.1, v4.2.2)) else (if (decide (v4.2.2 = 5)) then (some ((GR04Stream.mk ([] : List UInt8) v4.2.2), v4.1, v4.2.2)) else (m13_r04_Feed_k5 a0 a1 v4 ()))) else none) else none))

set_option maxRecDepth 100000 in
theorem m13_r04_Feed_c {a0 : GR04Stream} {a1 : List UInt8} {r : GR04Stream × (List (List UInt8)) × Int} (h : m13_r04_Feed a0 a1 = some r) : CallsA Try.prog 13 [.agg [.sl a0.Buf.length (a0.Buf.flatMap eU8), .i .i64 a0.Dead], .one (.sl a1.length (a1.flatMap eU8))] (· = .tup [.agg [.sl r.1.Buf.length (r.1.Buf.flatMap eU8), .i .i64 r.1.Dead], .one (.sl r.2.1.length (r.2.1.flatMap (eL eU8))), .one (.i .i64 r.2.2)]) := by
  unfold m13_r04_Feed at h
  refine callsA_of Try.func13 rfl (nt := 47) rfl (Nat.le_of_ble_eq_true rfl) ?_
  intro w0 S0
  refine cseq ?_
  refine cregion ?_
  refine sbox rfl rfl ?_
  refine salloc rfl zi25 ?_
  refine sv rfl (opv_as rfl) ?_
  refine sv rfl (opv_as rfl) ?_
  refine snil ?_
  refine cseq ?_
  refine cseq ?_
  refine cregion ?_
  refine sv rfl (opv_loadN ti25 rfl (.lp _ _ _ rfl) (Nat.le_of_ble_eq_true rfl)) ?_
  obtain ⟨v1, hv1, h⟩ := bind_eq h
  refine scall1 rfl fn18 (opnds_cons rfl opnds_nil) (pubA_id rfl) (m18_r04_Sane_c hv1) ?_
  refine sv rfl (opv_not rfl) ?_
  refine snil ?_
  refine ccond rfl (fun hc => ?_) (fun hc => ?_)
  · replace h := ite_t hc h
    clear hc
    refine cseq ?_
    refine cregion ?_
    refine sv rfl (opv_build zi25 pi25 parts_nil (.nil _)) ?_
    refine sstore sz25 rfl rfl rfl rfl (Nat.le_of_ble_eq_true rfl) ?_
    refine smem [.box [.sl a0.Buf.length (a0.Buf.flatMap eU8), .i .i64 a0.Dead], .box [.raw (.slice none 0 0), .i .i64 0]] rfl ?_
    refine sv rfl (opv_as rfl) ?_
    refine sv rfl (opv_as rfl) ?_
    refine snil ?_
    refine cret ?_
    refine then_ret ?_
    obtain rfl := Option.some.inj h
    refine ⟨Or.inr rfl, _, _, _, (resVs_cons (ResV.agg _ _ _ _ _ ti25 rfl (.lp _ _ _ rfl) (Nat.le_of_ble_eq_true rfl)) (resVs_cons (ResV.tmp _ _ rfl) (resVs_cons (ResV.tmp _ _ rfl) resVs_nil))), (pubC rfl), ?_⟩
    rfl
  · replace h := ite_f hc h
    clear hc
    refine cskip ?_
    refine then_normal ?_
    refine cseq ?_
    refine cseq ?_
    refine cregion ?_
    refine sv rfl (opv_fieldAddr_lp fi25_1 rfl) ?_
    refine sv rfl (opv_load1 ti23 rfl (.lp _ _ _ rfl) rfl) ?_
    refine sv rfl (opv_ineq rfl rfl) ?_
    refine snil ?_
    refine ccond rfl (fun hc => ?_) (fun hc => ?_)
    · replace h := ite_t hc h
      clear hc
      refine cseq ?_
      refine cregion ?_
      refine sv rfl (opv_loadN ti25 rfl (.lp _ _ _ rfl) (Nat.le_of_ble_eq_true rfl)) ?_
      refine sstore sz25 rfl rfl rfl rfl (Nat.le_of_ble_eq_true rfl) ?_
      refine smem [.box [.sl a0.Buf.length (a0.Buf.flatMap eU8), .i .i64 a0.Dead], .box [.sl a0.Buf.length (a0.Buf.flatMap eU8), .i .i64 a0.Dead]] rfl ?_
      refine sv rfl (opv_as rfl) ?_
      refine sv rfl (opv_as rfl) ?_
      refine snil ?_
      refine cret ?_
      refine then_ret ?_
      obtain rfl := Option.some.inj h
      refine ⟨Or.inr rfl, _, _, _, (resVs_cons (ResV.agg _ _ _ _ _ ti25 rfl (.lp _ _ _ rfl) (Nat.le_of_ble_eq_true rfl)) (resVs_cons (ResV.tmp _ _ rfl) (resVs_cons (ResV.tmp _ _ rfl) resVs_nil))), (pubC rfl), ?_⟩
      rfl
    · replace h := ite_f hc h
      clear hc
      refine cskip ?_
      refine then_normal ?_
      refine cseq ?_
      refine cregion ?_
      refine sbuild0 rfl Try.underlying22 ei5 ?_
      refine sv rfl (opv_fieldAddr_lp fi25_0 rfl) ?_
      refine sv rfl (opv_load1 ti22 rfl (.lp _ _ _ rfl) rfl) ?_
      obtain ⟨hb2, h⟩ := chk_eq h
      refine sapp (f := eU8) (xs := ([] : List UInt8)) (us := a0.Buf) rfl Try.underlying22 ei5 ni22 (fun _ => rfl) rfl rfl (.one _ _ _ _ (.id _ rfl)) rfl rfl rfl (.sl _ _ _ (flat_len (f := eU8) (fun _ => rfl) _)) rfl rfl hb2 (by decide) ?_
      refine sv rfl (opv_as rfl) ?_
      refine snil ?_
      refine cseq ?_
      refine cregion ?_
      refine sv rfl (opv_mv rfl) ?_
      refine sv rfl (opv_mv rfl) ?_
      obtain ⟨hb3, h⟩ := chk_eq h
      refine sapp (f := eU8) (xs := (([] : List UInt8) ++ a0.Buf)) (us := a1) rfl Try.underlying22 ei5 ni22 (fun _ => rfl) rfl rfl (.one _ _ _ _ (.id _ rfl)) rfl rfl rfl (.sl _ _ _ (flat_len (f := eU8) (fun _ => rfl) _)) rfl rfl hb3 (by decide) ?_
      refine sv rfl (opv_as rfl) ?_
      refine snil ?_
      refine cseq ?_
      refine cregion ?_
      refine sv rfl (opv_mv rfl) ?_
      refine spub 27 rfl (by (repeat' first | exact PubA.nil _ | apply PubA.cons | apply PubV.one | apply PubV.agg | exact PubL.nil | exact PubL.ls _ _ _ _ _ _ rfl (flat_len (f := eU8) (fun _ => rfl) _).symm | exact PubL.id _ rfl | exact PubLs.nil _ | apply PubLs.cons)) ?_
      obtain ⟨v4, hv4, h⟩ := bind_eq h
      refine scall1 rfl fn29 (opnds_cons rfl opnds_nil) (pubA_id rfl) (m29_r03_All_c hv4) ?_
      refine sv rfl (opv_mvt rfl) ?_
      refine sv rfl (opv_extract rfl rfl) ?_
      refine sv rfl (opv_extract rfl rfl) ?_
      refine sv rfl (opv_extract rfl rfl) ?_
      refine sv rfl (opv_as rfl) ?_
      refine sv rfl (opv_as rfl) ?_
      refine sv rfl (opv_as rfl) ?_
      refine snil ?_
      refine cseq ?_
      refine cseq ?_
      refine cjoin3 (Unit) (fun b5 => [(4, .s (.one (.lp 1 0))), (7, .s (.one (.ls 2 ((([] : List UInt8) ++ a0.Buf) ++ a1).length))), (8, .s (.one (.sl v4.1.length (v4.1.flatMap (eL eU8))))), (9, .s (.one (.i .i64 v4.2.1)))]) (fun b5 => [.box [.sl a0.Buf.length (a0.Buf.flatMap eU8), .i .i64 a0.Dead], .box [.raw (.slice none 0 0), .i .i64 0], .arr 5 1 (((([] : List UInt8) ++ a0.Buf) ++ a1).flatMap eU8).length (((([] : List UInt8) ++ a0.Buf) ++ a1).flatMap eU8)]) (fun b5 => m13_r04_Feed_k5 a0 a1 v4 b5 = some r) (fun _ _ => inbL_of rfl) (fun _ _ => blkinb_of rfl) (fun _ _ => Nat.le_of_ble_eq_true rfl) (fun b5 h => ?_) ?_
      · unfold m13_r04_Feed_k5 at h
        refine cseq ?_
        refine cregion ?_
        refine sv rfl (opv_mv rfl) ?_
        refine sv rfl (opv_mv rfl) ?_
        refine spub 42 rfl (by (repeat' first | exact PubA.nil _ | apply PubA.cons | apply PubV.one | apply PubV.agg | exact PubL.nil | exact PubL.ls _ _ _ _ _ _ rfl (flat_len (f := eU8) (fun _ => rfl) _).symm | exact PubL.id _ rfl | exact PubLs.nil _ | apply PubLs.cons)) ?_
        obtain ⟨c6, hc6, h⟩ := bind_eq h
        refine sv rfl (opv_cut (f := eU8) (lo := v4.2.1) (hi := (((([] : List UInt8) ++ a0.Buf) ++ a1).length : Int)) si22 (fun _ => rfl) rfl rfl rfl (bound_some rfl (cut_eq hc6).1.1) (by exact rfl) hc6) ?_
        refine sv rfl (opv_build zi25 pi25 (parts_cons rfl parts_nil) (.cons _ _ _ _ _ _ _ rfl rfl (Nat.le_of_ble_eq_true rfl) (.nil _))) ?_
        refine sv rfl (opv_mv rfl) ?_
        refine sstore sz25 rfl rfl rfl rfl (Nat.le_of_ble_eq_true rfl) ?_
        refine smem [.box [.sl a0.Buf.length (a0.Buf.flatMap eU8), .i .i64 a0.Dead], .box [.sl c6.length (c6.flatMap eU8), .i .i64 0], .arr 5 1 (((([] : List UInt8) ++ a0.Buf) ++ a1).flatMap eU8).length (((([] : List UInt8) ++ a0.Buf) ++ a1).flatMap eU8)] rfl ?_
        refine sv rfl (opv_as rfl) ?_
        refine sv rfl (opv_as rfl) ?_
        refine snil ?_
        refine cret ?_
        obtain rfl := Option.some.inj h
        refine ⟨Or.inr rfl, _, _, _, (resVs_cons (ResV.agg _ _ _ _ _ ti25 rfl (.lp _ _ _ rfl) (Nat.le_of_ble_eq_true rfl)) (resVs_cons (ResV.tmp _ _ rfl) (resVs_cons (ResV.tmp _ _ rfl) resVs_nil))), (pubA_id rfl), ?_⟩
        rfl
      · skip
        refine cregion ?_
        refine sv rfl (opv_mv rfl) ?_
        refine sv rfl (opv_ieql rfl rfl) ?_
        refine sv rfl (opv_mv rfl) ?_
        refine ssplit 34 rfl (fun hc => ?_) (fun hc => ?_)
        · replace h := ite_t hc h
          clear hc
          refine soff rfl rfl rfl rfl ?_
          refine soff rfl rfl rfl rfl ?_
          refine sv rfl (opv_pick_t rfl rfl) ?_
          refine snil ?_
          refine ccond rfl (fun _ => ?_) (fun hx => Bool.noConfusion hx)
          refine cseq ?_
          refine cregion ?_
          refine sv rfl (opv_mv rfl) ?_
          refine sv rfl (opv_build zi25 pi25 (parts_cons rfl parts_nil) (.cons _ _ _ _ _ _ _ rfl rfl (Nat.le_of_ble_eq_true rfl) (.nil _))) ?_
          refine sv rfl (opv_mv rfl) ?_
          refine sv rfl (opv_mv rfl) ?_
          refine sstore sz25 rfl rfl rfl rfl (Nat.le_of_ble_eq_true rfl) ?_
          refine smem [.box [.sl a0.Buf.length (a0.Buf.flatMap eU8), .i .i64 a0.Dead], .box [.raw (.slice none 0 0), .i .i64 v4.2.2], .arr 5 1 (((([] : List UInt8) ++ a0.Buf) ++ a1).flatMap eU8).length (((([] : List UInt8) ++ a0.Buf) ++ a1).flatMap eU8)] rfl ?_
          refine sv rfl (opv_as rfl) ?_
          refine sv rfl (opv_as rfl) ?_
          refine snil ?_
          refine cret ?_
          refine then_ret ?_
          obtain rfl := Option.some.inj h
          refine ⟨Or.inr rfl, _, _, _, (resVs_cons (ResV.agg _ _ _ _ _ ti25 rfl (.lp _ _ _ rfl) (Nat.le_of_ble_eq_true rfl)) (resVs_cons (ResV.tmp _ _ rfl) (resVs_cons (ResV.tmp _ _ rfl) resVs_nil))), (pubC rfl), ?_⟩
          rfl
        · replace h := ite_f hc h
          clear hc
          refine son rfl rfl rfl ?_
          refine sv rfl (opv_mv rfl) ?_
          refine son rfl rfl rfl ?_
          refine sv rfl (opv_ieql rfl rfl) ?_
          refine sv rfl (opv_pick_f rfl rfl) ?_
          refine snil ?_
          refine ccond rfl (fun hc => ?_) (fun hc => ?_)
          · replace h := ite_t hc h
            clear hc
            refine cseq ?_
            refine cregion ?_
            refine sv rfl (opv_mv rfl) ?_
            refine sv rfl (opv_build zi25 pi25 (parts_cons rfl parts_nil) (.cons _ _ _ _ _ _ _ rfl rfl (Nat.le_of_ble_eq_true rfl) (.nil _))) ?_
            refine sv rfl (opv_mv rfl) ?_
            refine sv rfl (opv_mv rfl) ?_
            refine sstore sz25 rfl rfl rfl rfl (Nat.le_of_ble_eq_true rfl) ?_
            refine smem [.box [.sl a0.Buf.length (a0.Buf.flatMap eU8), .i .i64 a0.Dead], .box [.raw (.slice none 0 0), .i .i64 v4.2.2], .arr 5 1 (((([] : List UInt8) ++ a0.Buf) ++ a1).flatMap eU8).length (((([] : List UInt8) ++ a0.Buf) ++ a1).flatMap eU8)] rfl ?_
            refine sv rfl (opv_as rfl) ?_
            refine sv rfl (opv_as rfl) ?_
            refine snil ?_
            refine cret ?_
            refine then_ret ?_
            obtain rfl := Option.some.inj h
            refine ⟨Or.inr rfl, _, _, _, (resVs_cons (ResV.agg _ _ _ _ _ ti25 rfl (.lp _ _ _ rfl) (Nat.le_of_ble_eq_true rfl)) (resVs_cons (ResV.tmp _ _ rfl) (resVs_cons (ResV.tmp _ _ rfl) resVs_nil))), (pubC rfl), ?_⟩
            rfl
          · replace h := ite_f hc h
            clear hc
            refine cskip ?_
            refine then_normal ?_
            exact ⟨(), _, h, ⟨rfl, rfl, rfl, rfl, trivial⟩, rfl⟩

def m15_l04_theirs (a0 : GStreamStream) : Option GR04Stream :=
  some (GR04Stream.mk a0.Buf a0.Dead)

set_option maxRecDepth 100000 in
theorem m15_l04_theirs_c {a0 : GStreamStream} {r : GR04Stream} (h : m15_l04_theirs a0 = some r) : CallsA Try.prog 15 [.agg [.sl a0.Buf.length (a0.Buf.flatMap eU8), .i .i64 a0.Dead]] (· = .s (.agg [.sl r.Buf.length (r.Buf.flatMap eU8), .i .i64 r.Dead])) := by
  unfold m15_l04_theirs at h
  refine callsA_of Try.func15 rfl (nt := 8) rfl (Nat.le_of_ble_eq_true rfl) ?_
  intro w0 S0
  refine cseq ?_
  refine cregion ?_
  refine sbox rfl rfl ?_
  refine salloc rfl zi25 ?_
  refine snil ?_
  refine cseq ?_
  refine cregion ?_
  refine sv rfl (opv_fieldAddr_lp fi27_0 rfl) ?_
  refine sv rfl (opv_load1 ti22 rfl (.lp _ _ _ rfl) rfl) ?_
  refine sv rfl (opv_fieldAddr_lp fi27_1 rfl) ?_
  refine sv rfl (opv_load1 ti23 rfl (.lp _ _ _ rfl) rfl) ?_
  refine sv rfl (opv_build zi25 pi25 (parts_cons rfl (parts_cons rfl parts_nil)) (.cons _ _ _ _ _ _ _ rfl rfl (Nat.le_of_ble_eq_true rfl) (.cons _ _ _ _ _ _ _ rfl rfl (Nat.le_of_ble_eq_true rfl) (.nil _)))) ?_
  refine sstore sz25 rfl rfl rfl rfl (Nat.le_of_ble_eq_true rfl) ?_
  refine smem [.box [.sl a0.Buf.length (a0.Buf.flatMap eU8), .i .i64 a0.Dead], .box [.sl a0.Buf.length (a0.Buf.flatMap eU8), .i .i64 a0.Dead]] rfl ?_
  refine snil ?_
  refine cret ?_
  obtain rfl := Option.some.inj h
  refine ⟨Or.inr rfl, _, _, _, (resVs_cons (ResV.agg _ _ _ _ _ ti25 rfl (.lp _ _ _ rfl) (Nat.le_of_ble_eq_true rfl)) resVs_nil), (pubA_id rfl), ?_⟩
  rfl

def m14_r04_Same (a0 : GR04Stream) (a1 : GR04Stream) : Option Bool :=
  if (a0.Buf == a1.Buf) then (some (decide (a0.Dead = a1.Dead))) else (some false)

set_option maxRecDepth 100000 in
theorem m14_r04_Same_c {a0 : GR04Stream} {a1 : GR04Stream} {r : Bool} (h : m14_r04_Same a0 a1 = some r) : CallsA Try.prog 14 [.agg [.sl a0.Buf.length (a0.Buf.flatMap eU8), .i .i64 a0.Dead], .agg [.sl a1.Buf.length (a1.Buf.flatMap eU8), .i .i64 a1.Dead]] (· = .s (.one (.b r))) := by
  unfold m14_r04_Same at h
  refine callsA_of Try.func14 rfl (nt := 19) rfl (Nat.le_of_ble_eq_true rfl) ?_
  intro w0 S0
  refine cseq ?_
  refine cregion ?_
  refine sbox rfl rfl ?_
  refine sbox rfl rfl ?_
  refine sv rfl (opv_as rfl) ?_
  refine snil ?_
  refine cseq ?_
  refine cregion ?_
  refine sv rfl (opv_fieldAddr_lp fi25_0 rfl) ?_
  refine sv rfl (opv_load1 ti22 rfl (.lp _ _ _ rfl) rfl) ?_
  refine sv rfl (opv_bs (l := a0.Buf) Try.underlying22 Try.underlying5 Try.underlying9 rfl rfl rfl) ?_
  refine sv rfl (opv_fieldAddr_lp fi25_0 rfl) ?_
  refine sv rfl (opv_load1 ti22 rfl (.lp _ _ _ rfl) rfl) ?_
  refine sv rfl (opv_bs (l := a1.Buf) Try.underlying22 Try.underlying5 Try.underlying9 rfl rfl rfl) ?_
  refine sv rfl (opv_seql' rfl rfl) ?_
  refine sv rfl (opv_mv rfl) ?_
  refine ssplit 12 rfl (fun hc => ?_) (fun hc => ?_)
  · replace h := ite_t hc h
    clear hc
    refine son rfl rfl rfl ?_
    refine sv rfl (opv_fieldAddr_lp fi25_1 rfl) ?_
    refine son rfl rfl rfl ?_
    refine sv rfl (opv_load1 ti23 rfl (.lp _ _ _ rfl) rfl) ?_
    refine son rfl rfl rfl ?_
    refine sv rfl (opv_fieldAddr_lp fi25_1 rfl) ?_
    refine son rfl rfl rfl ?_
    refine sv rfl (opv_load1 ti23 rfl (.lp _ _ _ rfl) rfl) ?_
    refine son rfl rfl rfl ?_
    refine sv rfl (opv_ieql rfl rfl) ?_
    refine sv rfl (opv_pick_t rfl rfl) ?_
    refine sv rfl (opv_as rfl) ?_
    refine snil ?_
    refine cret ?_
    obtain rfl := Option.some.inj h
    refine ⟨Or.inr rfl, _, _, _, (resVs_cons (ResV.tmp _ _ rfl) resVs_nil), (pubA_id rfl), ?_⟩
    rfl
  · replace h := ite_f hc h
    clear hc
    refine soff rfl rfl rfl rfl ?_
    refine soff rfl rfl rfl rfl ?_
    refine soff rfl rfl rfl rfl ?_
    refine soff rfl rfl rfl rfl ?_
    refine soff rfl rfl rfl rfl ?_
    refine sv rfl (opv_pick_f rfl rfl) ?_
    refine sv rfl (opv_as rfl) ?_
    refine snil ?_
    refine cret ?_
    obtain rfl := Option.some.inj h
    refine ⟨Or.inr rfl, _, _, _, (resVs_cons (ResV.tmp _ _ rfl) resVs_nil), (pubA_id rfl), ?_⟩
    rfl

def m16_r03_Lists_k1 (b1 : Unit) : Option Bool :=
  some true

def m16_r03_Lists_s2 (a0 : List (List UInt8)) (a1 : List (List UInt8)) (s2 : Int) : Option (LR (Int) (Unit) (Bool)) :=
  if (decide (s2 < (a0.length : Int))) then ((idx a0 s2).bind fun u3 => (idx a1 s2).bind fun u4 => if (!(u3 == u4)) then (some (.ret false)) else (some (.cont (wI (s2 + 1))))) else (some (.brk ()))
def m16_r03_Lists (a0 : List (List UInt8)) (a1 : List (List UInt8)) : Option Bool :=
  if (!decide ((a0.length : Int) = (a1.length : Int))) then (some false) else ((iter (m16_r03_Lists_s2 a0 a1) fuel 0).bind fun x => match x with | .inl r => some r | .inr e5 => m16_r03_Lists_k1 e5)

set_option maxRecDepth 100000 in
theorem m16_r03_Lists_c {a0 : List (List UInt8)} {a1 : List (List UInt8)} {r : Bool} (h : m16_r03_Lists a0 a1 = some r) : CallsA Try.prog 16 [.one (.sl a0.length (a0.flatMap (eL eU8))), .one (.sl a1.length (a1.flatMap (eL eU8)))] (· = .s (.one (.b r))) := by
  unfold m16_r03_Lists at h
  refine callsA_of Try.func16 rfl (nt := 28) rfl (Nat.le_of_ble_eq_true rfl) ?_
  intro w0 S0
  refine cseq ?_
  refine cregion ?_
  refine sv rfl (opv_as rfl) ?_
  refine snil ?_
  refine cseq ?_
  refine cseq ?_
  refine cregion ?_
  refine sv rfl (opv_mv rfl) ?_
  refine sv rfl (opv_len_sl si28 rfl) ?_
  refine sv rfl (opv_mv rfl) ?_
  refine sv rfl (opv_len_sl si28 rfl) ?_
  refine sv rfl (opv_ineq rfl rfl) ?_
  refine snil ?_
  refine ccond rfl (fun hc => ?_) (fun hc => ?_)
  · replace h := ite_t hc h
    clear hc
    refine cseq ?_
    refine cregion ?_
    refine sv rfl (opv_as rfl) ?_
    refine snil ?_
    refine cret ?_
    refine then_ret ?_
    obtain rfl := Option.some.inj h
    refine ⟨Or.inr rfl, _, _, _, (resVs_cons (ResV.tmp _ _ rfl) resVs_nil), (pubA_id rfl), ?_⟩
    rfl
  · replace h := ite_f hc h
    clear hc
    refine cskip ?_
    refine then_normal ?_
    refine cseq ?_
    refine cseq ?_
    refine cregion ?_
    refine sv rfl (opv_as rfl) ?_
    refine snil ?_
    refine cjoin (Unit) (fun b1 => []) (fun b1 => []) (fun b1 => m16_r03_Lists_k1 b1 = some r) (fun _ _ => inbL_of rfl) (fun _ _ => blkinb_of rfl) (fun _ _ => Nat.le_of_ble_eq_true rfl) (fun b1 h => ?_) ?_
    · unfold m16_r03_Lists_k1 at h
      refine cseq ?_
      refine cregion ?_
      refine sv rfl (opv_as rfl) ?_
      refine snil ?_
      refine cret ?_
      obtain rfl := Option.some.inj h
      refine ⟨Or.inr rfl, _, _, _, (resVs_cons (ResV.tmp _ _ rfl) resVs_nil), (pubA_id rfl), ?_⟩
      rfl
    · skip
      refine cblock ?_
      obtain ⟨x2, hx2, ho2⟩ := bind_eq h
      refine awc_loop (G := Nat × (Int)) (fun g => [(0, .s (.one (.sl a0.length (a0.flatMap (eL eU8))))), (1, .s (.one (.sl a1.length (a1.flatMap (eL eU8))))), (5, .s (.one (.i .i64 g.2)))]) (fun g => []) (fun g => iter (m16_r03_Lists_s2 a0 a1) g.1 g.2 = some x2) (fun g => g.1) (fuel, 0) hx2 ⟨rfl, rfl, rfl, trivial⟩ [] rfl (fun _ _ => inbL_of rfl) (fun _ _ => blkinb_of rfl) (fun _ _ => Nat.le_of_ble_eq_true rfl) ?_
      clear hx2 h
      rintro ⟨n2, s2⟩ h
      obtain ⟨n2, y2, rfl, h, hk2⟩ := iter_eq h
      unfold m16_r03_Lists_s2 at h
      refine cseq ?_
      refine cseq ?_
      refine cregion ?_
      refine sv rfl (opv_mv rfl) ?_
      refine sv rfl (opv_mv rfl) ?_
      refine sv rfl (opv_len_sl si28 rfl) ?_
      refine sv rfl (opv_lss rfl rfl) ?_
      refine snil ?_
      refine ccond rfl (fun hc => ?_) (fun hc => ?_)
      · replace h := ite_t hc h
        clear hc
        refine cskip ?_
        refine then_normal ?_
        refine cseq ?_
        refine cblock ?_
        refine cseq ?_
        refine cdraw mixed (by kernel_rfl) ?_
        refine dv rfl (opv_mv rfl) ?_
        refine dv rfl (opv_mv rfl) ?_
        obtain ⟨u3, hu3, h⟩ := bind_eq h
        refine dv rfl (opv_ix (f := (eL eU8)) si28 (fun _ => rfl) rfl rfl rfl rfl hu3) ?_
        refine dv rfl (opv_load1 ti22 rfl (.cp _) rfl) ?_
        refine dv rfl (opv_bs (l := u3) Try.underlying22 Try.underlying5 Try.underlying9 rfl rfl rfl) ?_
        refine dv rfl (opv_mv rfl) ?_
        refine dv rfl (opv_mv rfl) ?_
        obtain ⟨u4, hu4, h⟩ := bind_eq h
        refine dv rfl (opv_ix (f := (eL eU8)) si28 (fun _ => rfl) rfl rfl rfl rfl hu4) ?_
        refine dv rfl (opv_load1 ti22 rfl (.cp _) rfl) ?_
        refine dv rfl (opv_bs (l := u4) Try.underlying22 Try.underlying5 Try.underlying9 rfl rfl rfl) ?_
        refine dv rfl (opv_sneq' rfl rfl) ?_
        refine dnil ?_
        refine then_normal ?_
        refine ccond rfl (fun hc => ?_) (fun hc => ?_)
        · replace h := ite_t hc h
          clear hc
          refine cseq ?_
          refine cregion ?_
          refine sv rfl (opv_as rfl) ?_
          refine snil ?_
          refine cret ?_
          refine block_ret ?_
          refine then_ret ?_
          refine then_ret ?_
          refine block_ret ?_
          refine then_ret ?_
          obtain rfl := Option.some.inj h
          obtain rfl : Sum.inl _ = x2 := hk2
          replace ho2 : some _ = some _ := ho2
          obtain rfl := Option.some.inj ho2
          refine ⟨Or.inr rfl, _, _, _, (resVs_cons (ResV.tmp _ _ rfl) resVs_nil), (pubA_id rfl), ?_⟩
          rfl
        · replace h := ite_f hc h
          clear hc
          refine cskip ?_
          refine block_normal ?_
          refine then_normal ?_
          refine cregion ?_
          refine sv rfl (opv_mv rfl) ?_
          refine sv rfl (opv_add rfl rfl) ?_
          refine sv rfl (opv_as rfl) ?_
          refine snil ?_
          obtain rfl := Option.some.inj h
          exact ⟨(n2, (wI (s2 + 1))), _, hk2, ⟨rfl, rfl, rfl, trivial⟩, rfl, Nat.lt_succ_self _⟩
      · replace h := ite_f hc h
        clear hc
        refine cexit ?_
        refine then_exit ?_
        refine then_exit ?_
        refine block_hit ?_
        refine then_normal ?_
        obtain rfl := Option.some.inj h
        obtain rfl : _ = x2 := hk2
        exact ⟨(), _, ho2, trivial, rfl⟩

def m20_r04_Wants_k1 (a0 : GR04Stream) (b1 : Unit) : Option Int :=
  if (decide ((a0.Buf.length : Int) < 6)) then (some (wI (6 - (a0.Buf.length : Int)))) else ((idx a0.Buf 0).bind fun u2 => (idx a0.Buf 1).bind fun u3 => some (wI ((wI ((wI (6 + (wI (u2.toBitVec.toNat : Int)))) + (wI (256 * (wI (u3.toBitVec.toNat : Int)))))) - (a0.Buf.length : Int))))
def m20_r04_Wants (a0 : GR04Stream) : Option Int :=
  (m18_r04_Sane a0).bind fun v4 => if (!v4) then (some 0) else (if (!decide (a0.Dead = 0)) then (some 0) else (m20_r04_Wants_k1 a0 ()))

set_option maxRecDepth 100000 in
theorem m20_r04_Wants_c {a0 : GR04Stream} {r : Int} (h : m20_r04_Wants a0 = some r) : CallsA Try.prog 20 [.agg [.sl a0.Buf.length (a0.Buf.flatMap eU8), .i .i64 a0.Dead]] (· = .s (.one (.i .i64 r))) := by
  unfold m20_r04_Wants at h
  refine callsA_of Try.func20 rfl (nt := 34) rfl (Nat.le_of_ble_eq_true rfl) ?_
  intro w0 S0
  refine cseq ?_
  refine cregion ?_
  refine sbox rfl rfl ?_
  refine sv rfl (opv_as rfl) ?_
  refine snil ?_
  refine cseq ?_
  refine cseq ?_
  refine cjoin3 (Unit) (fun b1 => [(1, .s (.one (.lp 0 0)))]) (fun b1 => [.box [.sl a0.Buf.length (a0.Buf.flatMap eU8), .i .i64 a0.Dead]]) (fun b1 => m20_r04_Wants_k1 a0 b1 = some r) (fun _ _ => inbL_of rfl) (fun _ _ => blkinb_of rfl) (fun _ _ => Nat.le_of_ble_eq_true rfl) (fun b1 h => ?_) ?_
  · unfold m20_r04_Wants_k1 at h
    refine cseq ?_
    refine cregion ?_
    refine sv rfl (opv_fieldAddr_lp fi25_0 rfl) ?_
    refine sv rfl (opv_load1 ti22 rfl (.lp _ _ _ rfl) rfl) ?_
    refine sv rfl (opv_len_sl si22 rfl) ?_
    refine sv rfl (opv_as rfl) ?_
    refine snil ?_
    refine cseq ?_
    refine cseq ?_
    refine cregion ?_
    refine sv rfl (opv_mv rfl) ?_
    refine sv rfl (opv_lss rfl rfl) ?_
    refine snil ?_
    refine ccond rfl (fun hc => ?_) (fun hc => ?_)
    · replace h := ite_t hc h
      clear hc
      refine cseq ?_
      refine cregion ?_
      refine sv rfl (opv_mv rfl) ?_
      refine sv rfl (opv_sub rfl rfl) ?_
      refine sv rfl (opv_as rfl) ?_
      refine snil ?_
      refine cret ?_
      refine then_ret ?_
      obtain rfl := Option.some.inj h
      refine ⟨Or.inr rfl, _, _, _, (resVs_cons (ResV.tmp _ _ rfl) resVs_nil), (pubA_id rfl), ?_⟩
      rfl
    · replace h := ite_f hc h
      clear hc
      refine cskip ?_
      refine then_normal ?_
      refine cseq ?_
      refine cdraw mixed (by kernel_rfl) ?_
      refine dv rfl (opv_fieldAddr_lp fi25_0 rfl) ?_
      refine dv rfl (opv_load1 ti22 rfl (.lp _ _ _ rfl) rfl) ?_
      obtain ⟨u2, hu2, h⟩ := bind_eq h
      refine dv rfl (opv_ix (f := eU8) si22 (fun _ => rfl) rfl rfl rfl rfl hu2) ?_
      refine dv rfl (opv_load1 ti5 rfl (.cp _) rfl) ?_
      refine dv rfl (opv_conv_int Try.underlying5 Try.underlying3 rfl) ?_
      refine dv rfl (opv_add rfl rfl) ?_
      refine dv rfl (opv_fieldAddr_lp fi25_0 rfl) ?_
      refine dv rfl (opv_load1 ti22 rfl (.lp _ _ _ rfl) rfl) ?_
      obtain ⟨u3, hu3, h⟩ := bind_eq h
      refine dv rfl (opv_ix (f := eU8) si22 (fun _ => rfl) rfl rfl rfl rfl hu3) ?_
      refine dv rfl (opv_load1 ti5 rfl (.cp _) rfl) ?_
      refine dv rfl (opv_conv_int Try.underlying5 Try.underlying3 rfl) ?_
      refine dv rfl (opv_mul rfl rfl) ?_
      refine dv rfl (opv_add rfl rfl) ?_
      refine dv rfl (opv_mv rfl) ?_
      refine dv rfl (opv_sub rfl rfl) ?_
      refine dv rfl (opv_as rfl) ?_
      refine dnil ?_
      refine then_normal ?_
      refine cret ?_
      obtain rfl := Option.some.inj h
      refine ⟨Or.inr rfl, _, _, _, (resVs_cons (ResV.tmp _ _ rfl) resVs_nil), (pubA_id rfl), ?_⟩
      rfl
  · skip
    refine cregion ?_
    refine sv rfl (opv_loadN ti25 rfl (.lp _ _ _ rfl) (Nat.le_of_ble_eq_true rfl)) ?_
    obtain ⟨v4, hv4, h⟩ := bind_eq h
    refine scall1 rfl fn18 (opnds_cons rfl opnds_nil) (pubA_id rfl) (m18_r04_Sane_c hv4) ?_
    refine sv rfl (opv_not rfl) ?_
    refine sv rfl (opv_mv rfl) ?_
    refine ssplit 7 rfl (fun hc => ?_) (fun hc => ?_)
    · replace h := ite_t hc h
      clear hc
      refine soff rfl rfl rfl rfl ?_
      refine soff rfl rfl rfl rfl ?_
      refine soff rfl rfl rfl rfl ?_
      refine sv rfl (opv_pick_t rfl rfl) ?_
      refine snil ?_
      refine ccond rfl (fun _ => ?_) (fun hx => Bool.noConfusion hx)
      refine cseq ?_
      refine cregion ?_
      refine sv rfl (opv_as rfl) ?_
      refine snil ?_
      refine cret ?_
      refine then_ret ?_
      obtain rfl := Option.some.inj h
      refine ⟨Or.inr rfl, _, _, _, (resVs_cons (ResV.tmp _ _ rfl) resVs_nil), (pubA_id rfl), ?_⟩
      rfl
    · replace h := ite_f hc h
      clear hc
      refine son rfl rfl rfl ?_
      refine sv rfl (opv_fieldAddr_lp fi25_1 rfl) ?_
      refine son rfl rfl rfl ?_
      refine sv rfl (opv_load1 ti23 rfl (.lp _ _ _ rfl) rfl) ?_
      refine son rfl rfl rfl ?_
      refine sv rfl (opv_ineq rfl rfl) ?_
      refine sv rfl (opv_pick_f rfl rfl) ?_
      refine snil ?_
      refine ccond rfl (fun hc => ?_) (fun hc => ?_)
      · replace h := ite_t hc h
        clear hc
        refine cseq ?_
        refine cregion ?_
        refine sv rfl (opv_as rfl) ?_
        refine snil ?_
        refine cret ?_
        refine then_ret ?_
        obtain rfl := Option.some.inj h
        refine ⟨Or.inr rfl, _, _, _, (resVs_cons (ResV.tmp _ _ rfl) resVs_nil), (pubA_id rfl), ?_⟩
        rfl
      · replace h := ite_f hc h
        clear hc
        refine cskip ?_
        refine then_normal ?_
        exact ⟨(), _, h, ⟨rfl, trivial⟩, rfl⟩

def m3_l04_StreamIs_k2 (a0 : GR04Stream) (a1 : List UInt8) (v1 : Bool) (b2 : Unit) : Option Bool :=
  (m12_l04_ours a0).bind fun v3 => (m11_stream_Feed v3 a1).bind fun v4 => (m13_r04_Feed (GR04Stream.mk a0.Buf a0.Dead) a1).bind fun v5 => if v1 then ((m15_l04_theirs (GStreamStream.mk v4.1.Buf v4.1.Dead)).bind fun v6 => (m14_r04_Same v6 v5.1).bind fun v7 => if v7 then ((m16_r03_Lists v4.2.1 v5.2.1).bind fun v8 => if v8 then (if (decide (v4.2.2 = v5.2.2)) then ((m12_l04_ours (GR04Stream.mk a0.Buf a0.Dead)).bind fun v9 => (m17_stream_Sane v9).bind fun v10 => (m18_r04_Sane (GR04Stream.mk a0.Buf a0.Dead)).bind fun v11 => if (v10 == v11) then ((m12_l04_ours (GR04Stream.mk a0.Buf a0.Dead)).bind fun v12 => (m19_stream_Wants v12).bind fun v13 => (m20_r04_Wants a0).bind fun v14 => some (decide (v13 = v14))) else (some false)) else (some false)) else (some false)) else (some false)) else (some false)
end Go.Proofs.Ytoojcpiigkmhiaa.Abs
