/-
  t
-/
import Derived.Test.YtdnhpfendflolaaAbsB
import Derived.Test.YtdnhpfendflolaaProg
namespace Go.Proofs.Ytdnhpfendflolaa.Abs
open Go.RowKit Go.Proofs

theorem ei5 : EI Try.prog 5 1 1 [.i .u8 0] := ei_of (by kernel_rfl) (by decide)
theorem zi25 : ZI Try.prog 25 (List.replicate 256 (.i .u32 0)) := zi_of (by kernel_rfl)
theorem fn20 : FnI Try.prog 20 := ⟨⟨_, Try.func20, by kernel_rfl, by kernel_rfl⟩⟩
theorem ai25 : AI Try.prog 25 256 23 1 := ⟨Try.underlying25, by kernel_rfl, by decide, by decide⟩
theorem sz23 : (Try.prog.info? 23).map (·.size) = some 1 := by kernel_rfl
theorem ti25 : TI Try.prog 25 true 256 := ⟨⟨_, Try.underlying25, rfl⟩, by kernel_rfl⟩
theorem sz25 : (Try.prog.info? 25).map (·.size) = some 256 := by kernel_rfl
theorem fn10 : FnI Try.prog 10 := ⟨⟨_, Try.func10, by kernel_rfl, by kernel_rfl⟩⟩
theorem si22 : SI Try.prog 22 5 1 := ⟨Try.underlying22, by kernel_rfl, by decide⟩
theorem ti5 : TI Try.prog 5 false 1 := ⟨⟨_, Try.underlying5, rfl⟩, by kernel_rfl⟩
theorem ti23 : TI Try.prog 23 false 1 := ⟨⟨_, Try.underlying23, rfl⟩, by kernel_rfl⟩
theorem fn14 : FnI Try.prog 14 := ⟨⟨_, Try.func14, by kernel_rfl, by kernel_rfl⟩⟩
theorem fn12 : FnI Try.prog 12 := ⟨⟨_, Try.func12, by kernel_rfl, by kernel_rfl⟩⟩
theorem fn9 : FnI Try.prog 9 := ⟨⟨_, Try.func9, by kernel_rfl, by kernel_rfl⟩⟩
theorem fn21 : FnI Try.prog 21 := ⟨⟨_, Try.func21, by kernel_rfl, by kernel_rfl⟩⟩
theorem fn11 : FnI Try.prog 11 := ⟨⟨_, Try.func11, by kernel_rfl, by kernel_rfl⟩⟩
theorem mixed : Try.prog.follows .mixedOrders = true := by kernel_rfl
theorem fn15 : FnI Try.prog 15 := ⟨⟨_, Try.func15, by kernel_rfl, by kernel_rfl⟩⟩
theorem fn13 : FnI Try.prog 13 := ⟨⟨_, Try.func13, by kernel_rfl, by kernel_rfl⟩⟩
theorem fn16 : FnI Try.prog 16 := ⟨⟨_, Try.func16, by kernel_rfl, by kernel_rfl⟩⟩
theorem fn17 : FnI Try.prog 17 := ⟨⟨_, Try.func17, by kernel_rfl, by kernel_rfl⟩⟩
theorem fn18 : FnI Try.prog 18 := ⟨⟨_, Try.func18, by kernel_rfl, by kernel_rfl⟩⟩
theorem fn19 : FnI Try.prog 19 := ⟨⟨_, Try.func19, by kernel_rfl, by kernel_rfl⟩⟩
theorem ni22 : NI Try.prog 22 := ⟨.inl ⟨_, Try.underlying22⟩⟩
theorem sz5 : (Try.prog.info? 5).map (·.size) = some 1 := by kernel_rfl

def m20_crc_step (a0 : BitVec 32) : Option (BitVec 32) :=
  if (decide (((a0 &&& (1#32)).toNat : Int) = (1 : Int))) then (some ((a0 >>> (1 : Int).toNat) ^^^ (3988292384#32))) else (some (a0 >>> (1 : Int).toNat))

set_option maxRecDepth 100000 in
theorem m20_crc_step_c {a0 : BitVec 32} {r : (BitVec 32)} (h : m20_crc_step a0 = some r) : CallsA Try.prog 20 [.one (.i .u32 (a0.toNat : Int))] (· = .s (.one (.i .u32 (r.toNat : Int)))) := by
  unfold m20_crc_step at h
  refine callsA_of Try.func20 rfl (nt := 11) rfl (Nat.le_of_ble_eq_true rfl) ?_
  intro w0 S0
  refine cseq ?_
  refine cregion ?_
  refine sv rfl (opv_as rfl) ?_
  refine snil ?_
  refine cseq ?_
  refine cseq ?_
  refine cregion ?_
  refine sv rfl (opv_mv rfl) ?_
  refine sv rfl (opv_and_u32 (a := a0) (b := 1#32) rfl rfl rfl rfl) ?_
  refine sv rfl (opv_ieql rfl rfl) ?_
  refine snil ?_
  refine ccond rfl (fun hc => ?_) (fun hc => ?_)
  · replace h := ite_t hc h
    clear hc
    refine cseq ?_
    refine cregion ?_
    refine sv rfl (opv_mv rfl) ?_
    refine sv rfl (opv_shr_u32 (a := a0) rfl rfl rfl (by decide)) ?_
    refine sv rfl (opv_xor_u32 (a := (a0 >>> (1 : Int).toNat)) (b := 3988292384#32) rfl rfl rfl rfl) ?_
    refine sv rfl (opv_as rfl) ?_
    refine snil ?_
    refine cret ?_
    refine then_ret ?_
    obtain rfl := Option.some.inj h
    refine ⟨Or.inr rfl, _, _, _, (resVs_cons (ResV.tmp _ _ rfl) resVs_nil), (pubA_id rfl), ?_⟩
    rfl
  · replace h := ite_f hc h
    clear hc
    refine cskip ?_
    refine then_normal ?_
    refine cseq ?_
    refine cregion ?_
    refine sv rfl (opv_mv rfl) ?_
    refine sv rfl (opv_shr_u32 (a := a0) rfl rfl rfl (by decide)) ?_
    refine sv rfl (opv_as rfl) ?_
    refine snil ?_
    refine cret ?_
    obtain rfl := Option.some.inj h
    refine ⟨Or.inr rfl, _, _, _, (resVs_cons (ResV.tmp _ _ rfl) resVs_nil), (pubA_id rfl), ?_⟩
    rfl

def m10_crc_Table_k1 (b1 : (List (BitVec 32))) : Option (List (BitVec 32)) :=
  if b1.length = 256 then (if (List.replicate 256 0#32).length = 256 then (if b1.length = 256 then (if b1.length = 256 then (some b1) else none) else none) else none) else none

def m10_crc_Table_k6 (s5 : Int × (List (BitVec 32))) (b6 : (BitVec 32)) : Option (LB (Int × (List (BitVec 32))) ((List (BitVec 32)))) :=
  if 0 ≤ s5.1 ∧ s5.1 < ((256 : Nat) : Int) then ((idx s5.2 s5.1).bind fun u8 => some (.cont ((wI (s5.1 + 1)), (s5.2.set s5.1.toNat b6)))) else none

def m10_crc_Table_s9 (s9 : (BitVec 32) × Int) : Option (LB ((BitVec 32) × Int) ((BitVec 32))) :=
  if (decide (s9.2 < 8)) then ((m20_crc_step s9.1).bind fun v10 => some (.cont (v10, (wI (s9.2 + 1))))) else (some (.brk s9.1))

def m10_crc_Table_s5 (s5 : Int × (List (BitVec 32))) : Option (LB (Int × (List (BitVec 32))) ((List (BitVec 32)))) :=
  if (decide (s5.1 < 256)) then ((iterB m10_crc_Table_s9 fuel ((BitVec.ofInt 32 s5.1), 0)).bind fun e11 => m10_crc_Table_k6 s5 e11) else (some (.brk s5.2))
def m10_crc_Table  : Option (List (BitVec 32)) :=
  (iterB m10_crc_Table_s5 fuel (0, (List.replicate 256 0#32))).bind fun e12 => m10_crc_Table_k1 e12

set_option maxRecDepth 100000 in
theorem m10_crc_Table_c  {r : (List (BitVec 32))} (h : m10_crc_Table  = some r) : CallsA Try.prog 10 [] (· = .s (.agg (r.flatMap eU32))) := by
  unfold m10_crc_Table at h
  refine callsA_of Try.func10 rfl (nt := 19) rfl (Nat.le_of_ble_eq_true rfl) ?_
  intro w0 S0
  refine cseq ?_
  refine cregion ?_
  refine salloc rfl zi25 ?_
  refine snil ?_
  refine cseq ?_
  refine cregion ?_
  refine salloc rfl zi25 ?_
  refine snil ?_
  refine cseq ?_
  refine cseq ?_
  refine cregion ?_
  refine sv rfl (opv_mv rfl) ?_
  refine snil ?_
  refine cjoin ((List (BitVec 32))) (fun b1 => [(0, .s (.one (.lp 0 0))), (1, .s (.one (.lp 1 0)))]) (fun b1 => [.box ((List.replicate 256 0#32).flatMap eU32), .box (b1.flatMap eU32)]) (fun b1 => m10_crc_Table_k1 b1 = some r) (fun _ _ => inbL_of rfl) (fun _ _ => blkinb_of (by simp only [List.all_cons, List.all_nil, Blk.inbB, Lf.inbB, Lf.inb0, Bool.and_true, Bool.and_self, Bool.true_and, flat_inb (f := eU32) (fun _ _ => rfl)] <;> rfl)) (fun _ _ => Nat.le_of_ble_eq_true rfl) (fun b1 h => ?_) ?_
  · unfold m10_crc_Table_k1 at h
    refine cseq ?_
    refine cregion ?_
    obtain ⟨hl2, h⟩ := chk_eq h
    refine sv rfl (opv_ldall (f := eU32) (n := 256) ti25 (fun _ => rfl) rfl rfl rfl hl2) ?_
    obtain ⟨hl3, h⟩ := chk_eq h
    obtain ⟨hl4, h⟩ := chk_eq h
    refine sstall (f := eU32) (n := 256) sz25 (fun _ => rfl) rfl rfl rfl rfl hl3 hl4 ?_
    refine smem [.box (b1.flatMap eU32), .box (b1.flatMap eU32)] rfl ?_
    refine snil ?_
    refine cret ?_
    obtain ⟨hlr, h⟩ := chk_eq h
    obtain rfl := Option.some.inj h
    refine ⟨Or.inr rfl, _, _, _, (resVs_cons (resv_arr (f := eU32) (n := 256) (fun _ => rfl) ti25 rfl rfl rfl hlr) resVs_nil), (pubA_id (by simp [List.all_cons, pub_agg (f := eU32) (fun _ => rfl), SV.cells])), ?_⟩
    rfl
  · skip
    refine cblock ?_
    obtain ⟨x5, hx5, ho5⟩ := bind_eq h
    refine awc_loop (G := Nat × (Int × (List (BitVec 32)))) (fun g => [(0, .s (.one (.lp 0 0))), (1, .s (.one (.lp 1 0))), (4, .s (.one (.i .i64 g.2.1)))]) (fun g => [.box ((List.replicate 256 0#32).flatMap eU32), .box (g.2.2.flatMap eU32)]) (fun g => iterB m10_crc_Table_s5 g.1 g.2 = some x5) (fun g => g.1) (fuel, (0, (List.replicate 256 0#32))) hx5 ⟨rfl, rfl, rfl, trivial⟩ [] rfl (fun _ _ => inbL_of rfl) (fun _ _ => blkinb_of (by simp only [List.all_cons, List.all_nil, Blk.inbB, Lf.inbB, Lf.inb0, Bool.and_true, Bool.and_self, Bool.true_and, flat_inb (f := eU32) (fun _ _ => rfl)] <;> rfl)) (fun _ _ => Nat.le_of_ble_eq_true rfl) ?_
    clear hx5 h
    rintro ⟨n5, s5⟩ h
    obtain ⟨n5, y5, rfl, h, hk5⟩ := iterB_eq h
    unfold m10_crc_Table_s5 at h
    refine cseq ?_
    refine cregion ?_
    refine sv rfl (opv_lss rfl rfl) ?_
    refine snil ?_
    refine cseq ?_
    refine ccond rfl (fun hc => ?_) (fun hc => ?_)
    · replace h := ite_t hc h
      clear hc
      refine cskip ?_
      refine then_normal ?_
      refine cseq ?_
      refine cblock ?_
      refine cseq ?_
      refine cregion ?_
      refine sv rfl (opv_mv rfl) ?_
      refine sv rfl (opv_as rfl) ?_
      refine snil ?_
      refine cseq ?_
      refine cregion ?_
      refine sv rfl (opv_mv rfl) ?_
      refine sv rfl (opv_conv_ibv rfl Try.underlying3 Try.underlying23 rfl) ?_
      refine sv rfl (opv_as rfl) ?_
      refine snil ?_
      refine cseq ?_
      refine cseq ?_
      refine cregion ?_
      refine sv rfl (opv_mv rfl) ?_
      refine snil ?_
      refine cjoin ((BitVec 32)) (fun b6 => [(0, .s (.one (.lp 0 0))), (1, .s (.one (.lp 1 0))), (2, .s (.one (.i .i64 s5.1))), (3, .s (.one (.i .u32 (b6.toNat : Int)))), (4, .s (.one (.i .i64 s5.1)))]) (fun b6 => [.box ((List.replicate 256 0#32).flatMap eU32), .box (s5.2.flatMap eU32)]) (fun b6 => m10_crc_Table_k6 s5 b6 = some y5) (fun _ _ => inbL_of rfl) (fun _ _ => blkinb_of (by simp only [List.all_cons, List.all_nil, Blk.inbB, Lf.inbB, Lf.inb0, Bool.and_true, Bool.and_self, Bool.true_and, flat_inb (f := eU32) (fun _ _ => rfl)] <;> rfl)) (fun _ _ => Nat.le_of_ble_eq_true rfl) (fun b6 h => ?_) ?_
      · unfold m10_crc_Table_k6 at h
        refine cregion ?_
        refine sv rfl (opv_mv rfl) ?_
        refine sv rfl (opv_mv rfl) ?_
        obtain ⟨hj7, h⟩ := chk_eq h
        obtain ⟨u8, hu8, h⟩ := bind_eq h
        refine sv rfl (opv_ixar ai25 rfl rfl hj7) ?_
        refine sstar (f := eU32) (u' := b6) 0 sz23 (fun _ => rfl) rfl rfl rfl rfl rfl (idx_eq hu8).2 (Nat.le_of_ble_eq_true rfl) rfl ?_
        refine smem [.box ((List.replicate 256 0#32).flatMap eU32), .box ((s5.2.set s5.1.toNat b6).flatMap eU32)] rfl ?_
        refine snil0 ?_
        refine block_normal ?_
        refine then_normal ?_
        refine cregion ?_
        refine sv rfl (opv_add rfl rfl) ?_
        refine sv rfl (opv_mv rfl) ?_
        refine snil ?_
        obtain rfl := Option.some.inj h
        exact ⟨(n5, ((wI (s5.1 + 1)), (s5.2.set s5.1.toNat b6))), _, hk5, ⟨rfl, rfl, rfl, trivial⟩, rfl, Nat.lt_succ_self _⟩
      · skip
        refine cblock ?_
        obtain ⟨x9, hx9, ho9⟩ := bind_eq h
        refine awc_loop (G := Nat × ((BitVec 32) × Int)) (fun g => [(0, .s (.one (.lp 0 0))), (1, .s (.one (.lp 1 0))), (2, .s (.one (.i .i64 s5.1))), (3, .s (.one (.i .u32 (g.2.1.toNat : Int)))), (4, .s (.one (.i .i64 s5.1))), (9, .s (.one (.i .i64 g.2.2)))]) (fun g => [.box ((List.replicate 256 0#32).flatMap eU32), .box (s5.2.flatMap eU32)]) (fun g => iterB m10_crc_Table_s9 g.1 g.2 = some x9) (fun g => g.1) (fuel, ((BitVec.ofInt 32 s5.1), 0)) hx9 ⟨rfl, rfl, rfl, rfl, rfl, rfl, trivial⟩ [] rfl (fun _ _ => inbL_of rfl) (fun _ _ => blkinb_of (by simp only [List.all_cons, List.all_nil, Blk.inbB, Lf.inbB, Lf.inb0, Bool.and_true, Bool.and_self, Bool.true_and, flat_inb (f := eU32) (fun _ _ => rfl)] <;> rfl)) (fun _ _ => Nat.le_of_ble_eq_true rfl) ?_
        clear hx9 h
        rintro ⟨n9, s9⟩ h
        obtain ⟨n9, y9, rfl, h, hk9⟩ := iterB_eq h
        unfold m10_crc_Table_s9 at h
        refine cseq ?_
        refine cregion ?_
        refine sv rfl (opv_lss rfl rfl) ?_
        refine snil ?_
        refine cseq ?_
        refine ccond rfl (fun hc => ?_) (fun hc => ?_)
        · replace h := ite_t hc h
          clear hc
          refine cskip ?_
          refine then_normal ?_
          refine cseq ?_
          refine cblock ?_
          refine cregion ?_
          refine sv rfl (opv_mv rfl) ?_
          obtain ⟨v10, hv10, h⟩ := bind_eq h
          refine scall1 rfl fn20 (opnds_cons rfl opnds_nil) (pubA_id rfl) (m20_crc_step_c hv10) ?_
          refine sv rfl (opv_as rfl) ?_
          refine snil0 ?_
          refine block_normal ?_
          refine then_normal ?_
          refine cregion ?_
          refine sv rfl (opv_add rfl rfl) ?_
          refine sv rfl (opv_mv rfl) ?_
          refine snil ?_
          obtain rfl := Option.some.inj h
          exact ⟨(n9, (v10, (wI (s9.2 + 1)))), _, hk9, ⟨rfl, rfl, rfl, rfl, rfl, rfl, trivial⟩, rfl, Nat.lt_succ_self _⟩
        · replace h := ite_f hc h
          clear hc
          refine cexit ?_
          refine then_exit ?_
          refine then_exit ?_
          refine block_hit ?_
          refine then_normal ?_
          obtain rfl := Option.some.inj h
          obtain rfl : _ = x9 := hk9
          exact ⟨s9.1, _, ho9, ⟨rfl, rfl, rfl, rfl, rfl, trivial⟩, rfl⟩
    · replace h := ite_f hc h
      clear hc
      refine cexit ?_
      refine then_exit ?_
      refine then_exit ?_
      refine block_hit ?_
      refine then_normal ?_
      obtain rfl := Option.some.inj h
      obtain rfl : _ = x5 := hk5
      exact ⟨s5.2, _, ho5, ⟨rfl, rfl, trivial⟩, rfl⟩

def m14_crc_More_k4 (b4 : (BitVec 32)) : Option (BitVec 32) :=
  some (~~~b4)

def m14_crc_More_s5 (a1 : List UInt8) (v1 : (List (BitVec 32))) (s5 : (BitVec 32) × Int) : Option (LB ((BitVec 32) × Int) ((BitVec 32))) :=
  if (decide (s5.2 < (a1.length : Int))) then ((idx a1 s5.2).bind fun u6 => if 0 ≤ (((s5.1.setWidth 8) ^^^ u6.toBitVec).toNat : Int) ∧ (((s5.1.setWidth 8) ^^^ u6.toBitVec).toNat : Int) < ((256 : Nat) : Int) then ((idx v1 (((s5.1.setWidth 8) ^^^ u6.toBitVec).toNat : Int)).bind fun u8 => some (.cont (((s5.1 >>> (8 : Int).toNat) ^^^ u8), (wI (s5.2 + 1))))) else none) else (some (.brk s5.1))
def m14_crc_More (a0 : BitVec 32) (a1 : List UInt8) : Option (BitVec 32) :=
  (m10_crc_Table).bind fun v1 => if (List.replicate 256 0#32).length = 256 then (if v1.length = 256 then ((iterB (m14_crc_More_s5 a1 v1) fuel ((~~~a0), 0)).bind fun e9 => m14_crc_More_k4 e9) else none) else none

set_option maxRecDepth 100000 in
theorem m14_crc_More_c {a0 : BitVec 32} {a1 : List UInt8} {r : (BitVec 32)} (h : m14_crc_More a0 a1 = some r) : CallsA Try.prog 14 [.one (.i .u32 (a0.toNat : Int)), .one (.sl a1.length (a1.flatMap eU8))] (· = .s (.one (.i .u32 (r.toNat : Int)))) := by
  unfold m14_crc_More at h
  refine callsA_of Try.func14 rfl (nt := 29) rfl (Nat.le_of_ble_eq_true rfl) ?_
  intro w0 S0
  refine cseq ?_
  refine cregion ?_
  refine sv rfl (opv_as rfl) ?_
  refine snil ?_
  refine cseq ?_
  refine cregion ?_
  obtain ⟨v1, hv1, h⟩ := bind_eq h
  refine scall1 rfl fn10 opnds_nil (pubA_id rfl) (m10_crc_Table_c hv1) ?_
  refine salloc rfl zi25 ?_
  obtain ⟨hl2, h⟩ := chk_eq h
  obtain ⟨hl3, h⟩ := chk_eq h
  refine sstall (f := eU32) (n := 256) sz25 (fun _ => rfl) rfl rfl rfl rfl hl2 hl3 ?_
  refine smem [.box (v1.flatMap eU32)] rfl ?_
  refine snil ?_
  refine cseq ?_
  refine cregion ?_
  refine sv rfl (opv_mv rfl) ?_
  refine sv rfl (opv_compl_u32 (a := a0) rfl rfl) ?_
  refine sv rfl (opv_as rfl) ?_
  refine snil ?_
  refine cseq ?_
  refine cseq ?_
  refine cregion ?_
  refine sv rfl (opv_mv rfl) ?_
  refine sv rfl (opv_len_sl si22 rfl) ?_
  refine sv rfl (opv_mv rfl) ?_
  refine snil ?_
  refine cjoin ((BitVec 32)) (fun b4 => [(0, .s (.one (.i .u32 (b4.toNat : Int))))]) (fun b4 => [.box (v1.flatMap eU32)]) (fun b4 => m14_crc_More_k4 b4 = some r) (fun _ _ => inbL_of rfl) (fun _ _ => blkinb_of (by simp only [List.all_cons, List.all_nil, Blk.inbB, Lf.inbB, Lf.inb0, Bool.and_true, Bool.and_self, Bool.true_and, flat_inb (f := eU32) (fun _ _ => rfl)] <;> rfl)) (fun _ _ => Nat.le_of_ble_eq_true rfl) (fun b4 h => ?_) ?_
  · unfold m14_crc_More_k4 at h
    refine cseq ?_
    refine cregion ?_
    refine sv rfl (opv_mv rfl) ?_
    refine sv rfl (opv_compl_u32 (a := b4) rfl rfl) ?_
    refine sv rfl (opv_as rfl) ?_
    refine snil ?_
    refine cret ?_
    obtain rfl := Option.some.inj h
    refine ⟨Or.inr rfl, _, _, _, (resVs_cons (ResV.tmp _ _ rfl) resVs_nil), (pubA_id rfl), ?_⟩
    rfl
  · skip
    refine cblock ?_
    obtain ⟨x5, hx5, ho5⟩ := bind_eq h
    refine awc_loop (G := Nat × ((BitVec 32) × Int)) (fun g => [(0, .s (.one (.i .u32 (g.2.1.toNat : Int)))), (5, .s (.one (.lp 0 0))), (11, .s (.one (.sl a1.length (a1.flatMap eU8)))), (12, .s (.one (.i .i64 (a1.length : Int)))), (13, .s (.one (.i .i64 g.2.2)))]) (fun g => [.box (v1.flatMap eU32)]) (fun g => iterB (m14_crc_More_s5 a1 v1) g.1 g.2 = some x5) (fun g => g.1) (fuel, ((~~~a0), 0)) hx5 ⟨rfl, rfl, rfl, rfl, rfl, trivial⟩ [] rfl (fun _ _ => inbL_of rfl) (fun _ _ => blkinb_of (by simp only [List.all_cons, List.all_nil, Blk.inbB, Lf.inbB, Lf.inb0, Bool.and_true, Bool.and_self, Bool.true_and, flat_inb (f := eU32) (fun _ _ => rfl)] <;> rfl)) (fun _ _ => Nat.le_of_ble_eq_true rfl) ?_
    clear hx5 h
    rintro ⟨n5, s5⟩ h
    obtain ⟨n5, y5, rfl, h, hk5⟩ := iterB_eq h
    unfold m14_crc_More_s5 at h
    refine cseq ?_
    refine cregion ?_
    refine sv rfl (opv_lss rfl rfl) ?_
    refine snil ?_
    refine cseq ?_
    refine ccond rfl (fun hc => ?_) (fun hc => ?_)
    · replace h := ite_t hc h
      clear hc
      refine cskip ?_
      refine then_normal ?_
      refine cseq ?_
      refine cblock ?_
      refine cseq ?_
      refine cregion ?_
      obtain ⟨u6, hu6, h⟩ := bind_eq h
      refine sv rfl (opv_ix (f := eU8) si22 (fun _ => rfl) rfl rfl rfl rfl hu6) ?_
      refine sv rfl (opv_load1 ti5 rfl (.cp _) rfl) ?_
      refine sv rfl (opv_as rfl) ?_
      refine snil ?_
      refine cregion ?_
      refine sv rfl (opv_mv rfl) ?_
      refine sv rfl (opv_shr_u32 (a := s5.1) rfl rfl rfl (by decide)) ?_
      refine sv rfl (opv_mv rfl) ?_
      refine sv rfl (opv_conv_bv (k := .u32) (a := s5.1) rfl Try.underlying23 Try.underlying5 rfl rfl) ?_
      refine sv rfl (opv_mv rfl) ?_
      refine sv rfl (opv_xor_u8 (a := (s5.1.setWidth 8)) (b := u6.toBitVec) rfl rfl rfl rfl) ?_
      obtain ⟨hj7, h⟩ := chk_eq h
      obtain ⟨u8, hu8, h⟩ := bind_eq h
      refine sv rfl (opv_ixar ai25 rfl rfl hj7) ?_
      refine sv rfl (opv_ldar (f := eU32) 0 ti23 (fun _ => rfl) rfl rfl rfl (idx_eq hu8).2 rfl) ?_
      refine sv rfl (opv_xor_u32 (a := (s5.1 >>> (8 : Int).toNat)) (b := u8) rfl rfl rfl rfl) ?_
      refine sv rfl (opv_as rfl) ?_
      refine snil0 ?_
      refine block_normal ?_
      refine then_normal ?_
      refine cregion ?_
      refine sv rfl (opv_add rfl rfl) ?_
      refine sv rfl (opv_mv rfl) ?_
      refine snil ?_
      obtain rfl := Option.some.inj h
      exact ⟨(n5, (((s5.1 >>> (8 : Int).toNat) ^^^ u8), (wI (s5.2 + 1)))), _, hk5, ⟨rfl, rfl, rfl, rfl, rfl, trivial⟩, rfl, Nat.lt_succ_self _⟩
    · replace h := ite_f hc h
      clear hc
      refine cexit ?_
      refine then_exit ?_
      refine then_exit ?_
      refine block_hit ?_
      refine then_normal ?_
      obtain rfl := Option.some.inj h
      obtain rfl : _ = x5 := hk5
      exact ⟨s5.1, _, ho5, ⟨rfl, trivial⟩, rfl⟩

def m12_crc_Of (a0 : List UInt8) : Option (BitVec 32) :=
  (m14_crc_More (0#32) a0).bind fun v1 => some v1

set_option maxRecDepth 100000 in
theorem m12_crc_Of_c {a0 : List UInt8} {r : (BitVec 32)} (h : m12_crc_Of a0 = some r) : CallsA Try.prog 12 [.one (.sl a0.length (a0.flatMap eU8))] (· = .s (.one (.i .u32 (r.toNat : Int)))) := by
  unfold m12_crc_Of at h
  refine callsA_of Try.func12 rfl (nt := 5) rfl (Nat.le_of_ble_eq_true rfl) ?_
  intro w0 S0
  refine cseq ?_
  refine cregion ?_
  refine sv rfl (opv_as rfl) ?_
  refine snil ?_
  refine cseq ?_
  refine cregion ?_
  refine sv rfl (opv_mv rfl) ?_
  obtain ⟨v1, hv1, h⟩ := bind_eq h
  refine scall1 rfl fn14 (opnds_cons rfl (opnds_cons rfl opnds_nil)) (pubA_id rfl) (m14_crc_More_c hv1) ?_
  refine sv rfl (opv_as rfl) ?_
  refine snil ?_
  refine cret ?_
  obtain rfl := Option.some.inj h
  refine ⟨Or.inr rfl, _, _, _, (resVs_cons (ResV.tmp _ _ rfl) resVs_nil), (pubA_id rfl), ?_⟩
  rfl

def m9_l02_awake  : Option Bool :=
  (m12_crc_Of [(UInt8.ofBitVec (49#8)), (UInt8.ofBitVec (50#8)), (UInt8.ofBitVec (51#8)), (UInt8.ofBitVec (52#8)), (UInt8.ofBitVec (53#8)), (UInt8.ofBitVec (54#8)), (UInt8.ofBitVec (55#8)), (UInt8.ofBitVec (56#8)), (UInt8.ofBitVec (57#8))]).bind fun v1 => if (decide ((v1.toNat : Int) = (3421780262 : Int))) then ((m12_crc_Of ([] : List UInt8)).bind fun v2 => some (decide ((v2.toNat : Int) = (0 : Int)))) else (some false)

set_option maxRecDepth 100000 in
theorem m9_l02_awake_c  {r : Bool} (h : m9_l02_awake  = some r) : CallsA Try.prog 9 [] (· = .s (.one (.b r))) := by
  unfold m9_l02_awake at h
  refine callsA_of Try.func9 rfl (nt := 9) rfl (Nat.le_of_ble_eq_true rfl) ?_
  intro w0 S0
  refine cseq ?_
  refine cregion ?_
  refine sv rfl (opv_as rfl) ?_
  refine snil ?_
  refine cseq ?_
  refine cregion ?_
  refine sbuildN (out := ([(UInt8.ofBitVec (49#8)), (UInt8.ofBitVec (50#8)), (UInt8.ofBitVec (51#8)), (UInt8.ofBitVec (52#8)), (UInt8.ofBitVec (53#8)), (UInt8.ofBitVec (54#8)), (UInt8.ofBitVec (55#8)), (UInt8.ofBitVec (56#8)), (UInt8.ofBitVec (57#8))] : List UInt8).flatMap eU8) rfl Try.underlying22 ei5 (parts_cons rfl (parts_cons rfl (parts_cons rfl (parts_cons rfl (parts_cons rfl (parts_cons rfl (parts_cons rfl (parts_cons rfl (parts_cons rfl parts_nil))))))))) (.cons _ _ _ _ _ _ _ rfl rfl (Nat.le_of_ble_eq_true rfl) (.cons _ _ _ _ _ _ _ rfl rfl (Nat.le_of_ble_eq_true rfl) (.cons _ _ _ _ _ _ _ rfl rfl (Nat.le_of_ble_eq_true rfl) (.cons _ _ _ _ _ _ _ rfl rfl (Nat.le_of_ble_eq_true rfl) (.cons _ _ _ _ _ _ _ rfl rfl (Nat.le_of_ble_eq_true rfl) (.cons _ _ _ _ _ _ _ rfl rfl (Nat.le_of_ble_eq_true rfl) (.cons _ _ _ _ _ _ _ rfl rfl (Nat.le_of_ble_eq_true rfl) (.cons _ _ _ _ _ _ _ rfl rfl (Nat.le_of_ble_eq_true rfl) (.cons _ _ _ _ _ _ _ rfl rfl (Nat.le_of_ble_eq_true rfl) (.nil _)))))))))) rfl (by decide) ?_
  refine sconv_id rfl Try.underlying22 Try.underlying5 rfl rfl (flat_len (f := eU8) (fun _ => rfl) [(UInt8.ofBitVec (49#8)), (UInt8.ofBitVec (50#8)), (UInt8.ofBitVec (51#8)), (UInt8.ofBitVec (52#8)), (UInt8.ofBitVec (53#8)), (UInt8.ofBitVec (54#8)), (UInt8.ofBitVec (55#8)), (UInt8.ofBitVec (56#8)), (UInt8.ofBitVec (57#8))]).symm (by decide) ?_
  obtain ⟨v1, hv1, h⟩ := bind_eq h
  refine scall1 rfl fn12 (opnds_cons rfl opnds_nil) (pubA_id rfl) (m12_crc_Of_c hv1) ?_
  refine sv rfl (opv_ieql rfl rfl) ?_
  refine sv rfl (opv_mv rfl) ?_
  refine ssplit 5 rfl (fun hc => ?_) (fun hc => ?_)
  · replace h := ite_t hc h
    clear hc
    refine son rfl rfl rfl ?_
    obtain ⟨v2, hv2, h⟩ := bind_eq h
    refine scall1 rfl fn12 (opnds_cons rfl opnds_nil) (pubC rfl) (m12_crc_Of_c hv2) ?_
    refine son rfl rfl rfl ?_
    refine sv rfl (opv_ieql rfl rfl) ?_
    refine sv rfl (opv_pick_t rfl rfl) ?_
    refine sv rfl (opv_as rfl) ?_
    refine snil ?_
    refine cret ?_
    obtain rfl := Option.some.inj h
    refine ⟨Or.inr rfl, _, _, _, (resVs_cons (ResV.tmp _ _ rfl) resVs_nil), (pubA_id rfl), ?_⟩
    rfl
  · replace h := ite_f hc h
    clear hc
    refine soff rfl rfl rfl rfl ?_
    refine soff rfl rfl rfl rfl ?_
    refine sv rfl (opv_pick_f rfl rfl) ?_
    refine sv rfl (opv_as rfl) ?_
    refine snil ?_
    refine cret ?_
    obtain rfl := Option.some.inj h
    refine ⟨Or.inr rfl, _, _, _, (resVs_cons (ResV.tmp _ _ rfl) resVs_nil), (pubA_id rfl), ?_⟩
    rfl

def m21_r02_eight_k1 (b1 : (BitVec 32)) : Option (BitVec 32) :=
  some b1

def m21_r02_eight_s2 (s2 : (BitVec 32) × Int) : Option (LB ((BitVec 32) × Int) ((BitVec 32))) :=
  if (decide (s2.2 < 8)) then (if (decide (((s2.1 % (2#32)).toNat : Int) = (1 : Int))) then (some (.cont (((s2.1 / (2#32)) ^^^ (3988292384#32)), (wI (s2.2 + 1))))) else (some (.cont ((s2.1 / (2#32)), (wI (s2.2 + 1)))))) else (some (.brk s2.1))
def m21_r02_eight (a0 : BitVec 32) : Option (BitVec 32) :=
  (iterB m21_r02_eight_s2 fuel (a0, 0)).bind fun e3 => m21_r02_eight_k1 e3

set_option maxRecDepth 100000 in
theorem m21_r02_eight_c {a0 : BitVec 32} {r : (BitVec 32)} (h : m21_r02_eight a0 = some r) : CallsA Try.prog 21 [.one (.i .u32 (a0.toNat : Int))] (· = .s (.one (.i .u32 (r.toNat : Int)))) := by
  unfold m21_r02_eight at h
  refine callsA_of Try.func21 rfl (nt := 18) rfl (Nat.le_of_ble_eq_true rfl) ?_
  intro w0 S0
  refine cseq ?_
  refine cregion ?_
  refine sv rfl (opv_as rfl) ?_
  refine snil ?_
  refine cseq ?_
  refine cseq ?_
  refine cregion ?_
  refine sv rfl (opv_as rfl) ?_
  refine snil ?_
  refine cjoin ((BitVec 32)) (fun b1 => [(0, .s (.one (.i .u32 (b1.toNat : Int))))]) (fun b1 => []) (fun b1 => m21_r02_eight_k1 b1 = some r) (fun _ _ => inbL_of rfl) (fun _ _ => blkinb_of rfl) (fun _ _ => Nat.le_of_ble_eq_true rfl) (fun b1 h => ?_) ?_
  · unfold m21_r02_eight_k1 at h
    refine cseq ?_
    refine cregion ?_
    refine sv rfl (opv_mv rfl) ?_
    refine sv rfl (opv_as rfl) ?_
    refine snil ?_
    refine cret ?_
    obtain rfl := Option.some.inj h
    refine ⟨Or.inr rfl, _, _, _, (resVs_cons (ResV.tmp _ _ rfl) resVs_nil), (pubA_id rfl), ?_⟩
    rfl
  · skip
    refine cblock ?_
    obtain ⟨x2, hx2, ho2⟩ := bind_eq h
    refine awc_loop (G := Nat × ((BitVec 32) × Int)) (fun g => [(0, .s (.one (.i .u32 (g.2.1.toNat : Int)))), (3, .s (.one (.i .i64 g.2.2)))]) (fun g => []) (fun g => iterB m21_r02_eight_s2 g.1 g.2 = some x2) (fun g => g.1) (fuel, (a0, 0)) hx2 ⟨rfl, rfl, trivial⟩ [] rfl (fun _ _ => inbL_of rfl) (fun _ _ => blkinb_of rfl) (fun _ _ => Nat.le_of_ble_eq_true rfl) ?_
    clear hx2 h
    rintro ⟨n2, s2⟩ h
    obtain ⟨n2, y2, rfl, h, hk2⟩ := iterB_eq h
    unfold m21_r02_eight_s2 at h
    refine cseq ?_
    refine cseq ?_
    refine cregion ?_
    refine sv rfl (opv_mv rfl) ?_
    refine sv rfl (opv_lss rfl rfl) ?_
    refine snil ?_
    refine ccond rfl (fun hc => ?_) (fun hc => ?_)
    · replace h := ite_t hc h
      clear hc
      refine cskip ?_
      refine then_normal ?_
      refine cseq ?_
      refine cblock ?_
      refine cseq ?_
      refine cregion ?_
      refine sv rfl (opv_mv rfl) ?_
      refine sv rfl (opv_rem_u32 (a := s2.1) (b := 2#32) rfl rfl rfl rfl (by decide)) ?_
      refine sv rfl (opv_as rfl) ?_
      refine snil ?_
      refine cseq ?_
      refine cregion ?_
      refine sv rfl (opv_mv rfl) ?_
      refine sv rfl (opv_quo_u32 (a := s2.1) (b := 2#32) rfl rfl rfl rfl (by decide)) ?_
      refine sv rfl (opv_as rfl) ?_
      refine snil ?_
      refine cseq ?_
      refine cregion ?_
      refine sv rfl (opv_mv rfl) ?_
      refine sv rfl (opv_ieql rfl rfl) ?_
      refine snil ?_
      refine ccond rfl (fun hc => ?_) (fun hc => ?_)
      · replace h := ite_t hc h
        clear hc
        refine cregion ?_
        refine sv rfl (opv_mv rfl) ?_
        refine sv rfl (opv_xor_u32 (a := (s2.1 / (2#32))) (b := 3988292384#32) rfl rfl rfl rfl) ?_
        refine sv rfl (opv_as rfl) ?_
        refine snil0 ?_
        refine block_normal ?_
        refine then_normal ?_
        refine cregion ?_
        refine sv rfl (opv_mv rfl) ?_
        refine sv rfl (opv_add rfl rfl) ?_
        refine sv rfl (opv_as rfl) ?_
        refine snil ?_
        obtain rfl := Option.some.inj h
        exact ⟨(n2, (((s2.1 / (2#32)) ^^^ (3988292384#32)), (wI (s2.2 + 1)))), _, hk2, ⟨rfl, rfl, trivial⟩, rfl, Nat.lt_succ_self _⟩
      · replace h := ite_f hc h
        clear hc
        refine cskip ?_
        refine block_normal ?_
        refine then_normal ?_
        refine cregion ?_
        refine sv rfl (opv_mv rfl) ?_
        refine sv rfl (opv_add rfl rfl) ?_
        refine sv rfl (opv_as rfl) ?_
        refine snil ?_
        obtain rfl := Option.some.inj h
        exact ⟨(n2, ((s2.1 / (2#32)), (wI (s2.2 + 1)))), _, hk2, ⟨rfl, rfl, trivial⟩, rfl, Nat.lt_succ_self _⟩
    · replace h := ite_f hc h
      clear hc
      refine cexit ?_
      refine then_exit ?_
      refine then_exit ?_
      refine block_hit ?_
      refine then_normal ?_
      obtain rfl := Option.some.inj h
      obtain rfl : _ = x2 := hk2
      exact ⟨s2.1, _, ho2, ⟨rfl, trivial⟩, rfl⟩

def m11_r02_Table_k1 (b1 : (List (BitVec 32))) : Option (List (BitVec 32)) :=
  if b1.length = 256 then (if (List.replicate 256 0#32).length = 256 then (if b1.length = 256 then (if b1.length = 256 then (some b1) else none) else none) else none) else none

def m11_r02_Table_s5 (s5 : Int × (List (BitVec 32))) : Option (LB (Int × (List (BitVec 32))) ((List (BitVec 32)))) :=
  if (decide (s5.1 < 256)) then ((m21_r02_eight (BitVec.ofInt 32 s5.1)).bind fun v6 => if 0 ≤ s5.1 ∧ s5.1 < ((256 : Nat) : Int) then ((idx s5.2 s5.1).bind fun u8 => some (.cont ((wI (s5.1 + 1)), (s5.2.set s5.1.toNat v6)))) else none) else (some (.brk s5.2))
def m11_r02_Table  : Option (List (BitVec 32)) :=
  (iterB m11_r02_Table_s5 fuel (0, (List.replicate 256 0#32))).bind fun e9 => m11_r02_Table_k1 e9

set_option maxRecDepth 100000 in
theorem m11_r02_Table_c  {r : (List (BitVec 32))} (h : m11_r02_Table  = some r) : CallsA Try.prog 11 [] (· = .s (.agg (r.flatMap eU32))) := by
  unfold m11_r02_Table at h
  refine callsA_of Try.func11 rfl (nt := 13) rfl (Nat.le_of_ble_eq_true rfl) ?_
  intro w0 S0
  refine cseq ?_
  refine cregion ?_
  refine salloc rfl zi25 ?_
  refine snil ?_
  refine cseq ?_
  refine cregion ?_
  refine salloc rfl zi25 ?_
  refine snil ?_
  refine cseq ?_
  refine cseq ?_
  refine cregion ?_
  refine sv rfl (opv_as rfl) ?_
  refine snil ?_
  refine cjoin ((List (BitVec 32))) (fun b1 => [(0, .s (.one (.lp 0 0))), (1, .s (.one (.lp 1 0)))]) (fun b1 => [.box ((List.replicate 256 0#32).flatMap eU32), .box (b1.flatMap eU32)]) (fun b1 => m11_r02_Table_k1 b1 = some r) (fun _ _ => inbL_of rfl) (fun _ _ => blkinb_of (by simp only [List.all_cons, List.all_nil, Blk.inbB, Lf.inbB, Lf.inb0, Bool.and_true, Bool.and_self, Bool.true_and, flat_inb (f := eU32) (fun _ _ => rfl)] <;> rfl)) (fun _ _ => Nat.le_of_ble_eq_true rfl) (fun b1 h => ?_) ?_
  · unfold m11_r02_Table_k1 at h
    refine cseq ?_
    refine cregion ?_
    obtain ⟨hl2, h⟩ := chk_eq h
    refine sv rfl (opv_ldall (f := eU32) (n := 256) ti25 (fun _ => rfl) rfl rfl rfl hl2) ?_
    obtain ⟨hl3, h⟩ := chk_eq h
    obtain ⟨hl4, h⟩ := chk_eq h
    refine sstall (f := eU32) (n := 256) sz25 (fun _ => rfl) rfl rfl rfl rfl hl3 hl4 ?_
    refine smem [.box (b1.flatMap eU32), .box (b1.flatMap eU32)] rfl ?_
    refine snil ?_
    refine cret ?_
    obtain ⟨hlr, h⟩ := chk_eq h
    obtain rfl := Option.some.inj h
    refine ⟨Or.inr rfl, _, _, _, (resVs_cons (resv_arr (f := eU32) (n := 256) (fun _ => rfl) ti25 rfl rfl rfl hlr) resVs_nil), (pubA_id (by simp [List.all_cons, pub_agg (f := eU32) (fun _ => rfl), SV.cells])), ?_⟩
    rfl
  · skip
    refine cblock ?_
    obtain ⟨x5, hx5, ho5⟩ := bind_eq h
    refine awc_loop (G := Nat × (Int × (List (BitVec 32)))) (fun g => [(0, .s (.one (.lp 0 0))), (1, .s (.one (.lp 1 0))), (2, .s (.one (.i .i64 g.2.1)))]) (fun g => [.box ((List.replicate 256 0#32).flatMap eU32), .box (g.2.2.flatMap eU32)]) (fun g => iterB m11_r02_Table_s5 g.1 g.2 = some x5) (fun g => g.1) (fuel, (0, (List.replicate 256 0#32))) hx5 ⟨rfl, rfl, rfl, trivial⟩ [] rfl (fun _ _ => inbL_of rfl) (fun _ _ => blkinb_of (by simp only [List.all_cons, List.all_nil, Blk.inbB, Lf.inbB, Lf.inb0, Bool.and_true, Bool.and_self, Bool.true_and, flat_inb (f := eU32) (fun _ _ => rfl)] <;> rfl)) (fun _ _ => Nat.le_of_ble_eq_true rfl) ?_
    clear hx5 h
    rintro ⟨n5, s5⟩ h
    obtain ⟨n5, y5, rfl, h, hk5⟩ := iterB_eq h
    unfold m11_r02_Table_s5 at h
    refine cseq ?_
    refine cseq ?_
    refine cregion ?_
    refine sv rfl (opv_mv rfl) ?_
    refine sv rfl (opv_lss rfl rfl) ?_
    refine snil ?_
    refine ccond rfl (fun hc => ?_) (fun hc => ?_)
    · replace h := ite_t hc h
      clear hc
      refine cskip ?_
      refine then_normal ?_
      refine cseq ?_
      refine cblock ?_
      refine cregion ?_
      refine sv rfl (opv_mv rfl) ?_
      refine sv rfl (opv_mv rfl) ?_
      refine sv rfl (opv_conv_ibv rfl Try.underlying3 Try.underlying23 rfl) ?_
      obtain ⟨v6, hv6, h⟩ := bind_eq h
      refine scall1 rfl fn21 (opnds_cons rfl opnds_nil) (pubA_id rfl) (m21_r02_eight_c hv6) ?_
      obtain ⟨hj7, h⟩ := chk_eq h
      obtain ⟨u8, hu8, h⟩ := bind_eq h
      refine sv rfl (opv_ixar ai25 rfl rfl hj7) ?_
      refine sstar (f := eU32) (u' := v6) 0 sz23 (fun _ => rfl) rfl rfl rfl rfl rfl (idx_eq hu8).2 (Nat.le_of_ble_eq_true rfl) rfl ?_
      refine smem [.box ((List.replicate 256 0#32).flatMap eU32), .box ((s5.2.set s5.1.toNat v6).flatMap eU32)] rfl ?_
      refine snil0 ?_
      refine block_normal ?_
      refine then_normal ?_
      refine cregion ?_
      refine sv rfl (opv_mv rfl) ?_
      refine sv rfl (opv_add rfl rfl) ?_
      refine sv rfl (opv_as rfl) ?_
      refine snil ?_
      obtain rfl := Option.some.inj h
      exact ⟨(n5, ((wI (s5.1 + 1)), (s5.2.set s5.1.toNat v6))), _, hk5, ⟨rfl, rfl, rfl, trivial⟩, rfl, Nat.lt_succ_self _⟩
    · replace h := ite_f hc h
      clear hc
      refine cexit ?_
      refine then_exit ?_
      refine then_exit ?_
      refine block_hit ?_
      refine then_normal ?_
      obtain rfl := Option.some.inj h
      obtain rfl : _ = x5 := hk5
      exact ⟨s5.2, _, ho5, ⟨rfl, rfl, trivial⟩, rfl⟩

def m15_r02_More_k1 (b1 : (BitVec 32)) : Option (BitVec 32) :=
  some ((4294967295#32) - b1)

def m15_r02_More_s2 (a1 : List UInt8) (s2 : (BitVec 32) × Int) : Option (LB ((BitVec 32) × Int) ((BitVec 32))) :=
  if (decide (s2.2 < (a1.length : Int))) then ((idx a1 s2.2).bind fun u3 => (m21_r02_eight (s2.1 ^^^ (u3.toBitVec.setWidth 32))).bind fun v4 => some (.cont (v4, (wI (s2.2 + 1))))) else (some (.brk s2.1))
def m15_r02_More (a0 : BitVec 32) (a1 : List UInt8) : Option (BitVec 32) :=
  (iterB (m15_r02_More_s2 a1) fuel (((4294967295#32) - a0), 0)).bind fun e5 => m15_r02_More_k1 e5

set_option maxRecDepth 100000 in
theorem m15_r02_More_c {a0 : BitVec 32} {a1 : List UInt8} {r : (BitVec 32)} (h : m15_r02_More a0 a1 = some r) : CallsA Try.prog 15 [.one (.i .u32 (a0.toNat : Int)), .one (.sl a1.length (a1.flatMap eU8))] (· = .s (.one (.i .u32 (r.toNat : Int)))) := by
  unfold m15_r02_More at h
  refine callsA_of Try.func15 rfl (nt := 25) rfl (Nat.le_of_ble_eq_true rfl) ?_
  intro w0 S0
  refine cseq ?_
  refine cregion ?_
  refine sv rfl (opv_as rfl) ?_
  refine snil ?_
  refine cseq ?_
  refine cregion ?_
  refine sv rfl (opv_mv rfl) ?_
  refine sv rfl (opv_sub_u32 (a := 4294967295#32) (b := a0) rfl rfl rfl rfl) ?_
  refine sv rfl (opv_as rfl) ?_
  refine snil ?_
  refine cseq ?_
  refine cseq ?_
  refine cregion ?_
  refine sv rfl (opv_as rfl) ?_
  refine snil ?_
  refine cjoin ((BitVec 32)) (fun b1 => [(5, .s (.one (.i .u32 (b1.toNat : Int))))]) (fun b1 => []) (fun b1 => m15_r02_More_k1 b1 = some r) (fun _ _ => inbL_of rfl) (fun _ _ => blkinb_of rfl) (fun _ _ => Nat.le_of_ble_eq_true rfl) (fun b1 h => ?_) ?_
  · unfold m15_r02_More_k1 at h
    refine cseq ?_
    refine cregion ?_
    refine sv rfl (opv_mv rfl) ?_
    refine sv rfl (opv_sub_u32 (a := 4294967295#32) (b := b1) rfl rfl rfl rfl) ?_
    refine sv rfl (opv_as rfl) ?_
    refine snil ?_
    refine cret ?_
    obtain rfl := Option.some.inj h
    refine ⟨Or.inr rfl, _, _, _, (resVs_cons (ResV.tmp _ _ rfl) resVs_nil), (pubA_id rfl), ?_⟩
    rfl
  · skip
    refine cblock ?_
    obtain ⟨x2, hx2, ho2⟩ := bind_eq h
    refine awc_loop (G := Nat × ((BitVec 32) × Int)) (fun g => [(1, .s (.one (.sl a1.length (a1.flatMap eU8)))), (5, .s (.one (.i .u32 (g.2.1.toNat : Int)))), (6, .s (.one (.i .i64 g.2.2)))]) (fun g => []) (fun g => iterB (m15_r02_More_s2 a1) g.1 g.2 = some x2) (fun g => g.1) (fuel, (((4294967295#32) - a0), 0)) hx2 ⟨rfl, rfl, rfl, trivial⟩ [] rfl (fun _ _ => inbL_of rfl) (fun _ _ => blkinb_of rfl) (fun _ _ => Nat.le_of_ble_eq_true rfl) ?_
    clear hx2 h
    rintro ⟨n2, s2⟩ h
    obtain ⟨n2, y2, rfl, h, hk2⟩ := iterB_eq h
    unfold m15_r02_More_s2 at h
    refine cseq ?_
    refine cseq ?_
    refine cregion ?_
    refine sv rfl (opv_mv rfl) ?_
    refine sv rfl (opv_mv rfl) ?_
    refine sv rfl (opv_len_sl si22 rfl) ?_
    refine sv rfl (opv_lss rfl rfl) ?_
    refine snil ?_
    refine ccond rfl (fun hc => ?_) (fun hc => ?_)
    · replace h := ite_t hc h
      clear hc
      refine cskip ?_
      refine then_normal ?_
      refine cseq ?_
      refine cblock ?_
      refine cregion ?_
      refine sv rfl (opv_mv rfl) ?_
      refine sv rfl (opv_mv rfl) ?_
      refine sv rfl (opv_mv rfl) ?_
      obtain ⟨u3, hu3, h⟩ := bind_eq h
      refine sv rfl (opv_ix (f := eU8) si22 (fun _ => rfl) rfl rfl rfl rfl hu3) ?_
      refine sv rfl (opv_load1 ti5 rfl (.cp _) rfl) ?_
      refine sv rfl (opv_conv_bv (k := .u8) (a := u3.toBitVec) rfl Try.underlying5 Try.underlying23 rfl rfl) ?_
      refine sv rfl (opv_xor_u32 (a := s2.1) (b := (u3.toBitVec.setWidth 32)) rfl rfl rfl rfl) ?_
      obtain ⟨v4, hv4, h⟩ := bind_eq h
      refine scall1 rfl fn21 (opnds_cons rfl opnds_nil) (pubA_id rfl) (m21_r02_eight_c hv4) ?_
      refine sv rfl (opv_as rfl) ?_
      refine snil0 ?_
      refine block_normal ?_
      refine then_normal ?_
      refine cregion ?_
      refine sv rfl (opv_mv rfl) ?_
      refine sv rfl (opv_add rfl rfl) ?_
      refine sv rfl (opv_as rfl) ?_
      refine snil ?_
      obtain rfl := Option.some.inj h
      exact ⟨(n2, (v4, (wI (s2.2 + 1)))), _, hk2, ⟨rfl, rfl, rfl, trivial⟩, rfl, Nat.lt_succ_self _⟩
    · replace h := ite_f hc h
      clear hc
      refine cexit ?_
      refine then_exit ?_
      refine then_exit ?_
      refine block_hit ?_
      refine then_normal ?_
      obtain rfl := Option.some.inj h
      obtain rfl : _ = x2 := hk2
      exact ⟨s2.1, _, ho2, ⟨rfl, trivial⟩, rfl⟩

def m13_r02_Of (a0 : List UInt8) : Option (BitVec 32) :=
  (m15_r02_More (0#32) a0).bind fun v1 => some v1

set_option maxRecDepth 100000 in
theorem m13_r02_Of_c {a0 : List UInt8} {r : (BitVec 32)} (h : m13_r02_Of a0 = some r) : CallsA Try.prog 13 [.one (.sl a0.length (a0.flatMap eU8))] (· = .s (.one (.i .u32 (r.toNat : Int)))) := by
  unfold m13_r02_Of at h
  refine callsA_of Try.func13 rfl (nt := 5) rfl (Nat.le_of_ble_eq_true rfl) ?_
  intro w0 S0
  refine cseq ?_
  refine cregion ?_
  refine sv rfl (opv_as rfl) ?_
  refine snil ?_
  refine cseq ?_
  refine cregion ?_
  refine sv rfl (opv_mv rfl) ?_
  obtain ⟨v1, hv1, h⟩ := bind_eq h
  refine scall1 rfl fn15 (opnds_cons rfl (opnds_cons rfl opnds_nil)) (pubA_id rfl) (m15_r02_More_c hv1) ?_
  refine sv rfl (opv_as rfl) ?_
  refine snil ?_
  refine cret ?_
  obtain rfl := Option.some.inj h
  refine ⟨Or.inr rfl, _, _, _, (resVs_cons (ResV.tmp _ _ rfl) resVs_nil), (pubA_id rfl), ?_⟩
  rfl

def m16_crc_Shift_k4 (b4 : (BitVec 32)) : Option (BitVec 32) :=
  some b4

def m16_crc_Shift_s5 (a1 : Int) (v1 : (List (BitVec 32))) (s5 : (BitVec 32) × Int) : Option (LB ((BitVec 32) × Int) ((BitVec 32))) :=
  if (decide (s5.2 < (if (if 65536 < a1 then 65536 else a1) > 0 then (if 65536 < a1 then 65536 else a1) else 0))) then (if 0 ≤ ((s5.1.setWidth 8).toNat : Int) ∧ ((s5.1.setWidth 8).toNat : Int) < ((256 : Nat) : Int) then ((idx v1 ((s5.1.setWidth 8).toNat : Int)).bind fun u7 => some (.cont (((s5.1 >>> (8 : Int).toNat) ^^^ u7), (wI (s5.2 + 1))))) else none) else (some (.brk s5.1))
def m16_crc_Shift (a0 : BitVec 32) (a1 : Int) : Option (BitVec 32) :=
  (m10_crc_Table).bind fun v1 => if (List.replicate 256 0#32).length = 256 then (if v1.length = 256 then ((iterB (m16_crc_Shift_s5 a1 v1) fuel (a0, 0)).bind fun e8 => m16_crc_Shift_k4 e8) else none) else none

set_option maxRecDepth 100000 in
theorem m16_crc_Shift_c {a0 : BitVec 32} {a1 : Int} {r : (BitVec 32)} (h : m16_crc_Shift a0 a1 = some r) : CallsA Try.prog 16 [.one (.i .u32 (a0.toNat : Int)), .one (.i .i64 a1)] (· = .s (.one (.i .u32 (r.toNat : Int)))) := by
  unfold m16_crc_Shift at h
  refine callsA_of Try.func16 rfl (nt := 21) rfl (Nat.le_of_ble_eq_true rfl) ?_
  intro w0 S0
  refine cseq ?_
  refine cregion ?_
  refine sv rfl (opv_as rfl) ?_
  refine snil ?_
  refine cseq ?_
  refine cregion ?_
  obtain ⟨v1, hv1, h⟩ := bind_eq h
  refine scall1 rfl fn10 opnds_nil (pubA_id rfl) (m10_crc_Table_c hv1) ?_
  refine salloc rfl zi25 ?_
  obtain ⟨hl2, h⟩ := chk_eq h
  obtain ⟨hl3, h⟩ := chk_eq h
  refine sstall (f := eU32) (n := 256) sz25 (fun _ => rfl) rfl rfl rfl rfl hl2 hl3 ?_
  refine smem [.box (v1.flatMap eU32)] rfl ?_
  refine snil ?_
  refine cseq ?_
  refine cseq ?_
  refine cregion ?_
  refine sv rfl (opv_mv rfl) ?_
  refine sv rfl (opv_min rfl rfl) ?_
  refine sv rfl (opv_max rfl rfl) ?_
  refine sv rfl (opv_mv rfl) ?_
  refine snil ?_
  refine cjoin ((BitVec 32)) (fun b4 => [(0, .s (.one (.i .u32 (b4.toNat : Int))))]) (fun b4 => [.box (v1.flatMap eU32)]) (fun b4 => m16_crc_Shift_k4 b4 = some r) (fun _ _ => inbL_of rfl) (fun _ _ => blkinb_of (by simp only [List.all_cons, List.all_nil, Blk.inbB, Lf.inbB, Lf.inb0, Bool.and_true, Bool.and_self, Bool.true_and, flat_inb (f := eU32) (fun _ _ => rfl)] <;> rfl)) (fun _ _ => Nat.le_of_ble_eq_true rfl) (fun b4 h => ?_) ?_
  · unfold m16_crc_Shift_k4 at h
    refine cseq ?_
    refine cregion ?_
    refine sv rfl (opv_mv rfl) ?_
    refine sv rfl (opv_as rfl) ?_
    refine snil ?_
    refine cret ?_
    obtain rfl := Option.some.inj h
    refine ⟨Or.inr rfl, _, _, _, (resVs_cons (ResV.tmp _ _ rfl) resVs_nil), (pubA_id rfl), ?_⟩
    rfl
  · skip
    refine cblock ?_
    obtain ⟨x5, hx5, ho5⟩ := bind_eq h
    refine awc_loop (G := Nat × ((BitVec 32) × Int)) (fun g => [(0, .s (.one (.i .u32 (g.2.1.toNat : Int)))), (5, .s (.one (.lp 0 0))), (9, .s (.one (.i .i64 (if (if 65536 < a1 then 65536 else a1) > 0 then (if 65536 < a1 then 65536 else a1) else 0)))), (10, .s (.one (.i .i64 g.2.2)))]) (fun g => [.box (v1.flatMap eU32)]) (fun g => iterB (m16_crc_Shift_s5 a1 v1) g.1 g.2 = some x5) (fun g => g.1) (fuel, (a0, 0)) hx5 ⟨rfl, rfl, rfl, rfl, trivial⟩ [] rfl (fun _ _ => inbL_of rfl) (fun _ _ => blkinb_of (by simp only [List.all_cons, List.all_nil, Blk.inbB, Lf.inbB, Lf.inb0, Bool.and_true, Bool.and_self, Bool.true_and, flat_inb (f := eU32) (fun _ _ => rfl)] <;> rfl)) (fun _ _ => Nat.le_of_ble_eq_true rfl) ?_
    clear hx5 h
    rintro ⟨n5, s5⟩ h
    obtain ⟨n5, y5, rfl, h, hk5⟩ := iterB_eq h
    unfold m16_crc_Shift_s5 at h
    refine cseq ?_
    refine cregion ?_
    refine sv rfl (opv_lss rfl rfl) ?_
    refine snil ?_
    refine cseq ?_
    refine ccond rfl (fun hc => ?_) (fun hc => ?_)
    · replace h := ite_t hc h
      clear hc
      refine cskip ?_
      refine then_normal ?_
      refine cseq ?_
      refine cblock ?_
      refine cregion ?_
      refine sv rfl (opv_mv rfl) ?_
      refine sv rfl (opv_shr_u32 (a := s5.1) rfl rfl rfl (by decide)) ?_
      refine sv rfl (opv_mv rfl) ?_
      refine sv rfl (opv_conv_bv (k := .u32) (a := s5.1) rfl Try.underlying23 Try.underlying5 rfl rfl) ?_
      obtain ⟨hj6, h⟩ := chk_eq h
      obtain ⟨u7, hu7, h⟩ := bind_eq h
      refine sv rfl (opv_ixar ai25 rfl rfl hj6) ?_
      refine sv rfl (opv_ldar (f := eU32) 0 ti23 (fun _ => rfl) rfl rfl rfl (idx_eq hu7).2 rfl) ?_
      refine sv rfl (opv_xor_u32 (a := (s5.1 >>> (8 : Int).toNat)) (b := u7) rfl rfl rfl rfl) ?_
      refine sv rfl (opv_as rfl) ?_
      refine snil0 ?_
      refine block_normal ?_
      refine then_normal ?_
      refine cregion ?_
      refine sv rfl (opv_add rfl rfl) ?_
      refine sv rfl (opv_mv rfl) ?_
      refine snil ?_
      obtain rfl := Option.some.inj h
      exact ⟨(n5, (((s5.1 >>> (8 : Int).toNat) ^^^ u7), (wI (s5.2 + 1)))), _, hk5, ⟨rfl, rfl, rfl, rfl, trivial⟩, rfl, Nat.lt_succ_self _⟩
    · replace h := ite_f hc h
      clear hc
      refine cexit ?_
      refine then_exit ?_
      refine then_exit ?_
      refine block_hit ?_
      refine then_normal ?_
      obtain rfl := Option.some.inj h
      obtain rfl : _ = x5 := hk5
      exact ⟨s5.1, _, ho5, ⟨rfl, trivial⟩, rfl⟩

def m17_r02_Shift_k1 (b1 : (BitVec 32)) : Option (BitVec 32) :=
  some b1

def m17_r02_Shift_k3 (s2 : (BitVec 32) × Int) (b3 : Unit) : Option (LB ((BitVec 32) × Int) ((BitVec 32))) :=
  (m21_r02_eight s2.1).bind fun v4 => some (.cont (v4, (wI (s2.2 + 1))))

def m17_r02_Shift_s2 (a1 : Int) (s2 : (BitVec 32) × Int) : Option (LB ((BitVec 32) × Int) ((BitVec 32))) :=
  if (decide (s2.2 < a1)) then (if (decide (s2.2 < 65536)) then (m17_r02_Shift_k3 s2 ()) else (some (.brk s2.1))) else (some (.brk s2.1))
def m17_r02_Shift (a0 : BitVec 32) (a1 : Int) : Option (BitVec 32) :=
  (iterB (m17_r02_Shift_s2 a1) fuel (a0, 0)).bind fun e5 => m17_r02_Shift_k1 e5

set_option maxRecDepth 100000 in
theorem m17_r02_Shift_c {a0 : BitVec 32} {a1 : Int} {r : (BitVec 32)} (h : m17_r02_Shift a0 a1 = some r) : CallsA Try.prog 17 [.one (.i .u32 (a0.toNat : Int)), .one (.i .i64 a1)] (· = .s (.one (.i .u32 (r.toNat : Int)))) := by
  unfold m17_r02_Shift at h
  refine callsA_of Try.func17 rfl (nt := 18) rfl (Nat.le_of_ble_eq_true rfl) ?_
  intro w0 S0
  refine cseq ?_
  refine cregion ?_
  refine sv rfl (opv_as rfl) ?_
  refine snil ?_
  refine cseq ?_
  refine cseq ?_
  refine cregion ?_
  refine sv rfl (opv_as rfl) ?_
  refine snil ?_
  refine cjoin ((BitVec 32)) (fun b1 => [(0, .s (.one (.i .u32 (b1.toNat : Int))))]) (fun b1 => []) (fun b1 => m17_r02_Shift_k1 b1 = some r) (fun _ _ => inbL_of rfl) (fun _ _ => blkinb_of rfl) (fun _ _ => Nat.le_of_ble_eq_true rfl) (fun b1 h => ?_) ?_
  · unfold m17_r02_Shift_k1 at h
    refine cseq ?_
    refine cregion ?_
    refine sv rfl (opv_mv rfl) ?_
    refine sv rfl (opv_as rfl) ?_
    refine snil ?_
    refine cret ?_
    obtain rfl := Option.some.inj h
    refine ⟨Or.inr rfl, _, _, _, (resVs_cons (ResV.tmp _ _ rfl) resVs_nil), (pubA_id rfl), ?_⟩
    rfl
  · skip
    refine cblock ?_
    obtain ⟨x2, hx2, ho2⟩ := bind_eq h
    refine awc_loop (G := Nat × ((BitVec 32) × Int)) (fun g => [(0, .s (.one (.i .u32 (g.2.1.toNat : Int)))), (1, .s (.one (.i .i64 a1))), (5, .s (.one (.i .i64 g.2.2)))]) (fun g => []) (fun g => iterB (m17_r02_Shift_s2 a1) g.1 g.2 = some x2) (fun g => g.1) (fuel, (a0, 0)) hx2 ⟨rfl, rfl, rfl, trivial⟩ [] rfl (fun _ _ => inbL_of rfl) (fun _ _ => blkinb_of rfl) (fun _ _ => Nat.le_of_ble_eq_true rfl) ?_
    clear hx2 h
    rintro ⟨n2, s2⟩ h
    obtain ⟨n2, y2, rfl, h, hk2⟩ := iterB_eq h
    unfold m17_r02_Shift_s2 at h
    refine cseq ?_
    refine cseq ?_
    refine cjoin3 (Unit) (fun b3 => [(0, .s (.one (.i .u32 (s2.1.toNat : Int)))), (1, .s (.one (.i .i64 a1))), (5, .s (.one (.i .i64 s2.2)))]) (fun b3 => []) (fun b3 => m17_r02_Shift_k3 s2 b3 = some y2) (fun _ _ => inbL_of rfl) (fun _ _ => blkinb_of rfl) (fun _ _ => Nat.le_of_ble_eq_true rfl) (fun b3 h => ?_) ?_
    · unfold m17_r02_Shift_k3 at h
      refine cseq ?_
      refine cblock ?_
      refine cregion ?_
      refine sv rfl (opv_mv rfl) ?_
      obtain ⟨v4, hv4, h⟩ := bind_eq h
      refine scall1 rfl fn21 (opnds_cons rfl opnds_nil) (pubA_id rfl) (m21_r02_eight_c hv4) ?_
      refine sv rfl (opv_as rfl) ?_
      refine snil0 ?_
      refine block_normal ?_
      refine then_normal ?_
      refine cregion ?_
      refine sv rfl (opv_mv rfl) ?_
      refine sv rfl (opv_add rfl rfl) ?_
      refine sv rfl (opv_as rfl) ?_
      refine snil ?_
      obtain rfl := Option.some.inj h
      exact ⟨(n2, (v4, (wI (s2.2 + 1)))), _, hk2, ⟨rfl, rfl, rfl, trivial⟩, rfl, Nat.lt_succ_self _⟩
    · skip
      refine cregion ?_
      refine sv rfl (opv_mv rfl) ?_
      refine sv rfl (opv_mv rfl) ?_
      refine sv rfl (opv_lss rfl rfl) ?_
      refine sv rfl (opv_mv rfl) ?_
      refine ssplit 9 rfl (fun hc => ?_) (fun hc => ?_)
      · replace h := ite_t hc h
        clear hc
        refine son rfl rfl rfl ?_
        refine sv rfl (opv_mv rfl) ?_
        refine son rfl rfl rfl ?_
        refine sv rfl (opv_lss rfl rfl) ?_
        refine sv rfl (opv_pick_t rfl rfl) ?_
        refine snil ?_
        refine ccond rfl (fun hc => ?_) (fun hc => ?_)
        · replace h := ite_t hc h
          clear hc
          refine cskip ?_
          refine then_normal ?_
          exact ⟨(), _, h, ⟨rfl, rfl, rfl, trivial⟩, rfl⟩
        · replace h := ite_f hc h
          clear hc
          refine cexit ?_
          refine then_exit ?_
          refine then_exit ?_
          refine block_hit ?_
          refine then_normal ?_
          obtain rfl := Option.some.inj h
          obtain rfl : _ = x2 := hk2
          exact ⟨s2.1, _, ho2, ⟨rfl, trivial⟩, rfl⟩
      · replace h := ite_f hc h
        clear hc
        refine soff rfl rfl rfl rfl ?_
        refine soff rfl rfl rfl rfl ?_
        refine sv rfl (opv_pick_f rfl rfl) ?_
        refine snil ?_
        refine ccond rfl (fun hx => Bool.noConfusion hx) (fun _ => ?_)
        refine cexit ?_
        refine then_exit ?_
        refine then_exit ?_
        refine block_hit ?_
        refine then_normal ?_
        obtain rfl := Option.some.inj h
        obtain rfl : _ = x2 := hk2
        exact ⟨s2.1, _, ho2, ⟨rfl, trivial⟩, rfl⟩

def m18_crc_Join (a0 : BitVec 32) (a1 : BitVec 32) (a2 : Int) : Option (BitVec 32) :=
  (m16_crc_Shift a0 a2).bind fun v1 => some (v1 ^^^ a1)

set_option maxRecDepth 100000 in
theorem m18_crc_Join_c {a0 : BitVec 32} {a1 : BitVec 32} {a2 : Int} {r : (BitVec 32)} (h : m18_crc_Join a0 a1 a2 = some r) : CallsA Try.prog 18 [.one (.i .u32 (a0.toNat : Int)), .one (.i .u32 (a1.toNat : Int)), .one (.i .i64 a2)] (· = .s (.one (.i .u32 (r.toNat : Int)))) := by
  unfold m18_crc_Join at h
  refine callsA_of Try.func18 rfl (nt := 12) rfl (Nat.le_of_ble_eq_true rfl) ?_
  intro w0 S0
  refine cseq ?_
  refine cregion ?_
  refine sv rfl (opv_as rfl) ?_
  refine snil ?_
  refine cseq ?_
  refine cregion ?_
  refine sv rfl (opv_mv rfl) ?_
  refine sv rfl (opv_mv rfl) ?_
  obtain ⟨v1, hv1, h⟩ := bind_eq h
  refine scall1 rfl fn16 (opnds_cons rfl (opnds_cons rfl opnds_nil)) (pubA_id rfl) (m16_crc_Shift_c hv1) ?_
  refine sv rfl (opv_mv rfl) ?_
  refine sv rfl (opv_xor_u32 (a := v1) (b := a1) rfl rfl rfl rfl) ?_
  refine sv rfl (opv_as rfl) ?_
  refine snil ?_
  refine cret ?_
  obtain rfl := Option.some.inj h
  refine ⟨Or.inr rfl, _, _, _, (resVs_cons (ResV.tmp _ _ rfl) resVs_nil), (pubA_id rfl), ?_⟩
  rfl

def m19_r02_Join (a0 : BitVec 32) (a1 : BitVec 32) (a2 : Int) : Option (BitVec 32) :=
  (m17_r02_Shift a0 a2).bind fun v1 => some (v1 ^^^ a1)

set_option maxRecDepth 100000 in
theorem m19_r02_Join_c {a0 : BitVec 32} {a1 : BitVec 32} {a2 : Int} {r : (BitVec 32)} (h : m19_r02_Join a0 a1 a2 = some r) : CallsA Try.prog 19 [.one (.i .u32 (a0.toNat : Int)), .one (.i .u32 (a1.toNat : Int)), .one (.i .i64 a2)] (· = .s (.one (.i .u32 (r.toNat : Int)))) := by
  unfold m19_r02_Join at h
  refine callsA_of Try.func19 rfl (nt := 12) rfl (Nat.le_of_ble_eq_true rfl) ?_
  intro w0 S0
  refine cseq ?_
  refine cregion ?_
  refine sv rfl (opv_as rfl) ?_
  refine snil ?_
  refine cseq ?_
  refine cregion ?_
  refine sv rfl (opv_mv rfl) ?_
  refine sv rfl (opv_mv rfl) ?_
  obtain ⟨v1, hv1, h⟩ := bind_eq h
  refine scall1 rfl fn17 (opnds_cons rfl (opnds_cons rfl opnds_nil)) (pubA_id rfl) (m17_r02_Shift_c hv1) ?_
  refine sv rfl (opv_mv rfl) ?_
  refine sv rfl (opv_xor_u32 (a := v1) (b := a1) rfl rfl rfl rfl) ?_
  refine sv rfl (opv_as rfl) ?_
  refine snil ?_
  refine cret ?_
  obtain rfl := Option.some.inj h
  refine ⟨Or.inr rfl, _, _, _, (resVs_cons (ResV.tmp _ _ rfl) resVs_nil), (pubA_id rfl), ?_⟩
  rfl

def m3_l02_CrcIs_k8 (a0 : List UInt8) (a1 : BitVec 32) (a2 : BitVec 32) (a3 : Int) (v1 : Bool) (b8 : Unit) : Option Bool :=
  if v1 then ((m12_crc_Of a0).bind fun v9 => (m13_r02_Of a0).bind fun v10 => if (decide ((v9.toNat : Int) = (v10.toNat : Int))) then ((m14_crc_More a1 a0).bind fun v11 => (m15_r02_More a1 a0).bind fun v12 => if (decide ((v11.toNat : Int) = (v12.toNat : Int))) then ((m16_crc_Shift a1 (if 3000 < a3 then 3000 else a3)).bind fun v13 => (m17_r02_Shift a1 (if 3000 < a3 then 3000 else a3)).bind fun v14 => if (decide ((v13.toNat : Int) = (v14.toNat : Int))) then ((m18_crc_Join a1 a2 (if 3000 < a3 then 3000 else a3)).bind fun v15 => (m19_r02_Join a1 a2 (if 3000 < a3 then 3000 else a3)).bind fun v16 => some (decide ((v15.toNat : Int) = (v16.toNat : Int)))) else (some false)) else (some false)) else (some false)) else (some false)

def m3_l02_CrcIs_s17 (v2 : (List (BitVec 32))) (v5 : (List (BitVec 32))) (s17 : Int) : Option (LR (Int) (Unit) (Bool)) :=
  if (decide (s17 < 256)) then (if 0 ≤ s17 ∧ s17 < ((256 : Nat) : Int) then ((idx v2 s17).bind fun u19 => if 0 ≤ s17 ∧ s17 < ((256 : Nat) : Int) then ((idx v5 s17).bind fun u21 => if (!decide ((u19.toNat : Int) = (u21.toNat : Int))) then (some (.ret false)) else (some (.cont (wI (s17 + 1))))) else none) else none) else (some (.brk ()))
def m3_l02_CrcIs (a0 : List UInt8) (a1 : BitVec 32) (a2 : BitVec 32) (a3 : Int) : Option Bool :=
  (m9_l02_awake).bind fun v1 => if (decide (2000 < (a0.length : Int))) then (some v1) else ((m10_crc_Table).bind fun v2 => if (List.replicate 256 0#32).length = 256 then (if v2.length = 256 then ((m11_r02_Table).bind fun v5 => if (List.replicate 256 0#32).length = 256 then (if v5.length = 256 then ((iter (m3_l02_CrcIs_s17 v2 v5) fuel 0).bind fun x => match x with | .inl r => some r | .inr e22 => m3_l02_CrcIs_k8 a0 a1 a2 a3 v1 e22) else none) else none) else none) else none)

set_option maxRecDepth 100000 in
theorem m3_l02_CrcIs_c {a0 : List UInt8} {a1 : BitVec 32} {a2 : BitVec 32} {a3 : Int} {r : Bool} (h : m3_l02_CrcIs a0 a1 a2 a3 = some r) : CallsA Try.prog 3 [.one (.sl a0.length (a0.flatMap eU8)), .one (.i .u32 (a1.toNat : Int)), .one (.i .u32 (a2.toNat : Int)), .one (.i .i64 a3)] (· = .s (.one (.b r))) := by
  unfold m3_l02_CrcIs at h
  refine callsA_of Try.func3 rfl (nt := 71) rfl (Nat.le_of_ble_eq_true rfl) ?_
  intro w0 S0
  refine cseq ?_
  refine cregion ?_
  refine sv rfl (opv_as rfl) ?_
  refine snil ?_
  refine cseq ?_
  refine cregion ?_
  obtain ⟨v1, hv1, h⟩ := bind_eq h
  refine scall1 rfl fn9 opnds_nil (pubA_id rfl) (m9_l02_awake_c hv1) ?_
  refine sv rfl (opv_as rfl) ?_
  refine snil ?_
  refine cseq ?_
  refine cseq ?_
  refine cregion ?_
  refine sv rfl (opv_mv rfl) ?_
  refine sv rfl (opv_len_sl si22 rfl) ?_
  refine sv rfl (opv_gtr rfl rfl) ?_
  refine snil ?_
  refine ccond rfl (fun hc => ?_) (fun hc => ?_)
  · replace h := ite_t hc h
    clear hc
    refine cseq ?_
    refine cregion ?_
    refine sv rfl (opv_mv rfl) ?_
    refine sv rfl (opv_as rfl) ?_
    refine snil ?_
    refine cret ?_
    refine then_ret ?_
    obtain rfl := Option.some.inj h
    refine ⟨Or.inr rfl, _, _, _, (resVs_cons (ResV.tmp _ _ rfl) resVs_nil), (pubA_id rfl), ?_⟩
    rfl
  · replace h := ite_f hc h
    clear hc
    refine cskip ?_
    refine then_normal ?_
    refine cseq ?_
    refine cregion ?_
    refine sv rfl (opv_mv rfl) ?_
    refine sv rfl (opv_min rfl rfl) ?_
    refine sv rfl (opv_as rfl) ?_
    refine snil ?_
    refine cseq ?_
    refine cregion ?_
    obtain ⟨v2, hv2, h⟩ := bind_eq h
    refine scall1 rfl fn10 opnds_nil (pubA_id rfl) (m10_crc_Table_c hv2) ?_
    refine salloc rfl zi25 ?_
    obtain ⟨hl3, h⟩ := chk_eq h
    obtain ⟨hl4, h⟩ := chk_eq h
    refine sstall (f := eU32) (n := 256) sz25 (fun _ => rfl) rfl rfl rfl rfl hl3 hl4 ?_
    refine smem [.box (v2.flatMap eU32)] rfl ?_
    refine snil ?_
    refine cseq ?_
    refine cregion ?_
    obtain ⟨v5, hv5, h⟩ := bind_eq h
    refine scall1 rfl fn11 opnds_nil (pubA_id rfl) (m11_r02_Table_c hv5) ?_
    refine salloc rfl zi25 ?_
    obtain ⟨hl6, h⟩ := chk_eq h
    obtain ⟨hl7, h⟩ := chk_eq h
    refine sstall (f := eU32) (n := 256) sz25 (fun _ => rfl) rfl rfl rfl rfl hl6 hl7 ?_
    refine smem [.box (v2.flatMap eU32), .box (v5.flatMap eU32)] rfl ?_
    refine snil ?_
    refine cseq ?_
    refine cseq ?_
    refine cregion ?_
    refine sv rfl (opv_as rfl) ?_
    refine snil ?_
    refine cjoin (Unit) (fun b8 => [(0, .s (.one (.sl a0.length (a0.flatMap eU8)))), (1, .s (.one (.i .u32 (a1.toNat : Int)))), (2, .s (.one (.i .u32 (a2.toNat : Int)))), (9, .s (.one (.b v1))), (10, .s (.one (.i .i64 (if 3000 < a3 then 3000 else a3))))]) (fun b8 => [.box (v2.flatMap eU32), .box (v5.flatMap eU32)]) (fun b8 => m3_l02_CrcIs_k8 a0 a1 a2 a3 v1 b8 = some r) (fun _ _ => inbL_of rfl) (fun _ _ => blkinb_of (by simp only [List.all_cons, List.all_nil, Blk.inbB, Lf.inbB, Lf.inb0, Bool.and_true, Bool.and_self, Bool.true_and, flat_inb (f := eU32) (fun _ _ => rfl)] <;> rfl)) (fun _ _ => Nat.le_of_ble_eq_true rfl) (fun b8 h => ?_) ?_
    · unfold m3_l02_CrcIs_k8 at h
      refine cseq ?_
      refine cregion ?_
      refine sv rfl (opv_mv rfl) ?_
      refine sv rfl (opv_mv rfl) ?_
      refine ssplit 35 rfl (fun hc => ?_) (fun hc => ?_)
      · replace h := ite_t hc h
        clear hc
        refine son rfl rfl rfl ?_
        refine sv rfl (opv_mv rfl) ?_
        refine son rfl rfl rfl ?_
        obtain ⟨v9, hv9, h⟩ := bind_eq h
        refine scall1 rfl fn12 (opnds_cons rfl opnds_nil) (pubA_id rfl) (m12_crc_Of_c hv9) ?_
        refine son rfl rfl rfl ?_
        refine sv rfl (opv_mv rfl) ?_
        refine son rfl rfl rfl ?_
        obtain ⟨v10, hv10, h⟩ := bind_eq h
        refine scall1 rfl fn13 (opnds_cons rfl opnds_nil) (pubA_id rfl) (m13_r02_Of_c hv10) ?_
        refine son rfl rfl rfl ?_
        refine sv rfl (opv_ieql rfl rfl) ?_
        refine sv rfl (opv_pick_t rfl rfl) ?_
        refine sv rfl (opv_mv rfl) ?_
        refine ssplit 42 rfl (fun hc => ?_) (fun hc => ?_)
        · replace h := ite_t hc h
          clear hc
          refine son rfl rfl rfl ?_
          refine sv rfl (opv_mv rfl) ?_
          refine son rfl rfl rfl ?_
          refine sv rfl (opv_mv rfl) ?_
          refine son rfl rfl rfl ?_
          obtain ⟨v11, hv11, h⟩ := bind_eq h
          refine scall1 rfl fn14 (opnds_cons rfl (opnds_cons rfl opnds_nil)) (pubA_id rfl) (m14_crc_More_c hv11) ?_
          refine son rfl rfl rfl ?_
          refine sv rfl (opv_mv rfl) ?_
          refine son rfl rfl rfl ?_
          refine sv rfl (opv_mv rfl) ?_
          refine son rfl rfl rfl ?_
          obtain ⟨v12, hv12, h⟩ := bind_eq h
          refine scall1 rfl fn15 (opnds_cons rfl (opnds_cons rfl opnds_nil)) (pubA_id rfl) (m15_r02_More_c hv12) ?_
          refine son rfl rfl rfl ?_
          refine sv rfl (opv_ieql rfl rfl) ?_
          refine sv rfl (opv_pick_t rfl rfl) ?_
          refine sv rfl (opv_mv rfl) ?_
          refine ssplit 51 rfl (fun hc => ?_) (fun hc => ?_)
          · replace h := ite_t hc h
            clear hc
            refine son rfl rfl rfl ?_
            refine sv rfl (opv_mv rfl) ?_
            refine son rfl rfl rfl ?_
            refine sv rfl (opv_mv rfl) ?_
            refine son rfl rfl rfl ?_
            obtain ⟨v13, hv13, h⟩ := bind_eq h
            refine scall1 rfl fn16 (opnds_cons rfl (opnds_cons rfl opnds_nil)) (pubA_id rfl) (m16_crc_Shift_c hv13) ?_
            refine son rfl rfl rfl ?_
            refine sv rfl (opv_mv rfl) ?_
            refine son rfl rfl rfl ?_
            refine sv rfl (opv_mv rfl) ?_
            refine son rfl rfl rfl ?_
            obtain ⟨v14, hv14, h⟩ := bind_eq h
            refine scall1 rfl fn17 (opnds_cons rfl (opnds_cons rfl opnds_nil)) (pubA_id rfl) (m17_r02_Shift_c hv14) ?_
            refine son rfl rfl rfl ?_
            refine sv rfl (opv_ieql rfl rfl) ?_
            refine sv rfl (opv_pick_t rfl rfl) ?_
            refine sv rfl (opv_mv rfl) ?_
            refine ssplit 60 rfl (fun hc => ?_) (fun hc => ?_)
            · replace h := ite_t hc h
              clear hc
              refine son rfl rfl rfl ?_
              refine sv rfl (opv_mv rfl) ?_
              refine son rfl rfl rfl ?_
              refine sv rfl (opv_mv rfl) ?_
              refine son rfl rfl rfl ?_
              refine sv rfl (opv_mv rfl) ?_
              refine son rfl rfl rfl ?_
              obtain ⟨v15, hv15, h⟩ := bind_eq h
              refine scall1 rfl fn18 (opnds_cons rfl (opnds_cons rfl (opnds_cons rfl opnds_nil))) (pubA_id rfl) (m18_crc_Join_c hv15) ?_
              refine son rfl rfl rfl ?_
              refine sv rfl (opv_mv rfl) ?_
              refine son rfl rfl rfl ?_
              refine sv rfl (opv_mv rfl) ?_
              refine son rfl rfl rfl ?_
              refine sv rfl (opv_mv rfl) ?_
              refine son rfl rfl rfl ?_
              obtain ⟨v16, hv16, h⟩ := bind_eq h
              refine scall1 rfl fn19 (opnds_cons rfl (opnds_cons rfl (opnds_cons rfl opnds_nil))) (pubA_id rfl) (m19_r02_Join_c hv16) ?_
              refine son rfl rfl rfl ?_
              refine sv rfl (opv_ieql rfl rfl) ?_
              refine sv rfl (opv_pick_t rfl rfl) ?_
              refine sv rfl (opv_as rfl) ?_
              refine snil ?_
              refine cret ?_
              obtain rfl := Option.some.inj h
              refine ⟨Or.inr rfl, _, _, _, (resVs_cons (ResV.tmp _ _ rfl) resVs_nil), (pubA_id rfl), ?_⟩
              rfl
            · replace h := ite_f hc h
              clear hc
              refine soff rfl rfl rfl rfl ?_
              refine soff rfl rfl rfl rfl ?_
              refine soff rfl rfl rfl rfl ?_
              refine soff rfl rfl rfl rfl ?_
              refine soff rfl rfl rfl rfl ?_
              refine soff rfl rfl rfl rfl ?_
              refine soff rfl rfl rfl rfl ?_
              refine soff rfl rfl rfl rfl ?_
              refine soff rfl rfl rfl rfl ?_
              refine sv rfl (opv_pick_f rfl rfl) ?_
              refine sv rfl (opv_as rfl) ?_
              refine snil ?_
              refine cret ?_
              obtain rfl := Option.some.inj h
              refine ⟨Or.inr rfl, _, _, _, (resVs_cons (ResV.tmp _ _ rfl) resVs_nil), (pubA_id rfl), ?_⟩
              rfl
          · replace h := ite_f hc h
            clear hc
            refine soff rfl rfl rfl rfl ?_
            refine soff rfl rfl rfl rfl ?_
            refine soff rfl rfl rfl rfl ?_
            refine soff rfl rfl rfl rfl ?_
            refine soff rfl rfl rfl rfl ?_
            refine soff rfl rfl rfl rfl ?_
            refine soff rfl rfl rfl rfl ?_
            refine sv rfl (opv_pick_f rfl rfl) ?_
            refine sv rfl (opv_mv rfl) ?_
            refine soff rfl rfl rfl rfl ?_
            refine soff rfl rfl rfl rfl ?_
            refine soff rfl rfl rfl rfl ?_
            refine soff rfl rfl rfl rfl ?_
            refine soff rfl rfl rfl rfl ?_
            refine soff rfl rfl rfl rfl ?_
            refine soff rfl rfl rfl rfl ?_
            refine soff rfl rfl rfl rfl ?_
            refine soff rfl rfl rfl rfl ?_
            refine sv rfl (opv_pick_f rfl rfl) ?_
            refine sv rfl (opv_as rfl) ?_
            refine snil ?_
            refine cret ?_
            obtain rfl := Option.some.inj h
            refine ⟨Or.inr rfl, _, _, _, (resVs_cons (ResV.tmp _ _ rfl) resVs_nil), (pubA_id rfl), ?_⟩
            rfl
        · replace h := ite_f hc h
          clear hc
          refine soff rfl rfl rfl rfl ?_
          refine soff rfl rfl rfl rfl ?_
          refine soff rfl rfl rfl rfl ?_
          refine soff rfl rfl rfl rfl ?_
          refine soff rfl rfl rfl rfl ?_
          refine soff rfl rfl rfl rfl ?_
          refine soff rfl rfl rfl rfl ?_
          refine sv rfl (opv_pick_f rfl rfl) ?_
          refine sv rfl (opv_mv rfl) ?_
          refine soff rfl rfl rfl rfl ?_
          refine soff rfl rfl rfl rfl ?_
          refine soff rfl rfl rfl rfl ?_
          refine soff rfl rfl rfl rfl ?_
          refine soff rfl rfl rfl rfl ?_
          refine soff rfl rfl rfl rfl ?_
          refine soff rfl rfl rfl rfl ?_
          refine sv rfl (opv_pick_f rfl rfl) ?_
          refine sv rfl (opv_mv rfl) ?_
          refine soff rfl rfl rfl rfl ?_
          refine soff rfl rfl rfl rfl ?_
          refine soff rfl rfl rfl rfl ?_
          refine soff rfl rfl rfl rfl ?_
          refine soff rfl rfl rfl rfl ?_
          refine soff rfl rfl rfl rfl ?_
          refine soff rfl rfl rfl rfl ?_
          refine soff rfl rfl rfl rfl ?_
          refine soff rfl rfl rfl rfl ?_
          refine sv rfl (opv_pick_f rfl rfl) ?_
          refine sv rfl (opv_as rfl) ?_
          refine snil ?_
          refine cret ?_
          obtain rfl := Option.some.inj h
          refine ⟨Or.inr rfl, _, _, _, (resVs_cons (ResV.tmp _ _ rfl) resVs_nil), (pubA_id rfl), ?_⟩
          rfl
      · replace h := ite_f hc h
        clear hc
        refine soff rfl rfl rfl rfl ?_
        refine soff rfl rfl rfl rfl ?_
        refine soff rfl rfl rfl rfl ?_
        refine soff rfl rfl rfl rfl ?_
        refine soff rfl rfl rfl rfl ?_
        refine sv rfl (opv_pick_f rfl rfl) ?_
        refine sv rfl (opv_mv rfl) ?_
        refine soff rfl rfl rfl rfl ?_
        refine soff rfl rfl rfl rfl ?_
        refine soff rfl rfl rfl rfl ?_
        refine soff rfl rfl rfl rfl ?_
        refine soff rfl rfl rfl rfl ?_
        refine soff rfl rfl rfl rfl ?_
        refine soff rfl rfl rfl rfl ?_
        refine sv rfl (opv_pick_f rfl rfl) ?_
        refine sv rfl (opv_mv rfl) ?_
        refine soff rfl rfl rfl rfl ?_
        refine soff rfl rfl rfl rfl ?_
        refine soff rfl rfl rfl rfl ?_
        refine soff rfl rfl rfl rfl ?_
        refine soff rfl rfl rfl rfl ?_
        refine soff rfl rfl rfl rfl ?_
        refine soff rfl rfl rfl rfl ?_
        refine sv rfl (opv_pick_f rfl rfl) ?_
        refine sv rfl (opv_mv rfl) ?_
        refine soff rfl rfl rfl rfl ?_
        refine soff rfl rfl rfl rfl ?_
        refine soff rfl rfl rfl rfl ?_
        refine soff rfl rfl rfl rfl ?_
        refine soff rfl rfl rfl rfl ?_
        refine soff rfl rfl rfl rfl ?_
        refine soff rfl rfl rfl rfl ?_
        refine soff rfl rfl rfl rfl ?_
        refine soff rfl rfl rfl rfl ?_
        refine sv rfl (opv_pick_f rfl rfl) ?_
        refine sv rfl (opv_as rfl) ?_
        refine snil ?_
        refine cret ?_
        obtain rfl := Option.some.inj h
        refine ⟨Or.inr rfl, _, _, _, (resVs_cons (ResV.tmp _ _ rfl) resVs_nil), (pubA_id rfl), ?_⟩
        rfl
    · skip
      refine cblock ?_
      obtain ⟨x17, hx17, ho17⟩ := bind_eq h
      refine awc_loop (G := Nat × (Int)) (fun g => [(0, .s (.one (.sl a0.length (a0.flatMap eU8)))), (1, .s (.one (.i .u32 (a1.toNat : Int)))), (2, .s (.one (.i .u32 (a2.toNat : Int)))), (9, .s (.one (.b v1))), (10, .s (.one (.i .i64 (if 3000 < a3 then 3000 else a3)))), (11, .s (.one (.lp 0 0))), (12, .s (.one (.lp 1 0))), (13, .s (.one (.i .i64 g.2)))]) (fun g => [.box (v2.flatMap eU32), .box (v5.flatMap eU32)]) (fun g => iter (m3_l02_CrcIs_s17 v2 v5) g.1 g.2 = some x17) (fun g => g.1) (fuel, 0) hx17 ⟨rfl, rfl, rfl, rfl, rfl, rfl, rfl, rfl, trivial⟩ [] rfl (fun _ _ => inbL_of rfl) (fun _ _ => blkinb_of (by simp only [List.all_cons, List.all_nil, Blk.inbB, Lf.inbB, Lf.inb0, Bool.and_true, Bool.and_self, Bool.true_and, flat_inb (f := eU32) (fun _ _ => rfl)] <;> rfl)) (fun _ _ => Nat.le_of_ble_eq_true rfl) ?_
      clear hx17 h
      rintro ⟨n17, s17⟩ h
      obtain ⟨n17, y17, rfl, h, hk17⟩ := iter_eq h
      unfold m3_l02_CrcIs_s17 at h
      refine cseq ?_
      refine cseq ?_
      refine cregion ?_
      refine sv rfl (opv_mv rfl) ?_
      refine sv rfl (opv_lss rfl rfl) ?_
      refine snil ?_
      refine ccond rfl (fun hc => ?_) (fun hc => ?_)
      · replace h := ite_t hc h
        clear hc
        refine cskip ?_
        refine then_normal ?_
        refine cseq ?_
        refine cblock ?_
        refine cseq ?_
        refine cdraw mixed (by kernel_rfl) ?_
        refine dv rfl (opv_mv rfl) ?_
        obtain ⟨hj18, h⟩ := chk_eq h
        obtain ⟨u19, hu19, h⟩ := bind_eq h
        refine dv rfl (opv_ixar ai25 rfl rfl hj18) ?_
        refine dv rfl (opv_ldar (f := eU32) 0 ti23 (fun _ => rfl) rfl rfl rfl (idx_eq hu19).2 rfl) ?_
        refine dv rfl (opv_mv rfl) ?_
        obtain ⟨hj20, h⟩ := chk_eq h
        obtain ⟨u21, hu21, h⟩ := bind_eq h
        refine dv rfl (opv_ixar ai25 rfl rfl hj20) ?_
        refine dv rfl (opv_ldar (f := eU32) 0 ti23 (fun _ => rfl) rfl rfl rfl (idx_eq hu21).2 rfl) ?_
        refine dv rfl (opv_ineq rfl rfl) ?_
        refine dnil ?_
        refine then_normal ?_
        refine ccond rfl (fun hc => ?_) (fun hc => ?_)
        · replace h := ite_t hc h
          clear hc
          refine cseq ?_
          refine cregion ?_
          refine sv rfl (opv_as rfl) ?_
          refine snil ?_
          refine cret ?_
          refine block_ret ?_
          refine then_ret ?_
          refine then_ret ?_
          refine block_ret ?_
          refine then_ret ?_
          obtain rfl := Option.some.inj h
          obtain rfl : Sum.inl _ = x17 := hk17
          replace ho17 : some _ = some _ := ho17
          obtain rfl := Option.some.inj ho17
          refine ⟨Or.inr rfl, _, _, _, (resVs_cons (ResV.tmp _ _ rfl) resVs_nil), (pubA_id rfl), ?_⟩
          rfl
        · replace h := ite_f hc h
          clear hc
          refine cskip ?_
          refine block_normal ?_
          refine then_normal ?_
          refine cregion ?_
          refine sv rfl (opv_mv rfl) ?_
          refine sv rfl (opv_add rfl rfl) ?_
          refine sv rfl (opv_as rfl) ?_
          refine snil ?_
          obtain rfl := Option.some.inj h
          exact ⟨(n17, (wI (s17 + 1))), _, hk17, ⟨rfl, rfl, rfl, rfl, rfl, rfl, rfl, rfl, trivial⟩, rfl, Nat.lt_succ_self _⟩
      · replace h := ite_f hc h
        clear hc
        refine cexit ?_
        refine then_exit ?_
        refine then_exit ?_
        refine block_hit ?_
        refine then_normal ?_
        obtain rfl := Option.some.inj h
        obtain rfl : _ = x17 := hk17
        exact ⟨(), _, ho17, ⟨rfl, rfl, rfl, rfl, rfl, trivial⟩, rfl⟩

def m4_l02_CrcJoins_k2 (a0 : List UInt8) (a1 : List UInt8) (a2 : BitVec 32) (v1 : Bool) (b2 : Unit) : Option Bool :=
  if (([] : List UInt8).length + a0.length) * 1 ≤ 140737488355328 then (if ((([] : List UInt8) ++ a0).length + a1.length) * 1 ≤ 140737488355328 then ((m14_crc_More a2 a0).bind fun v5 => if v1 then ((m12_crc_Of ((([] : List UInt8) ++ a0) ++ a1)).bind fun v6 => (m12_crc_Of a0).bind fun v7 => (m14_crc_More v7 a1).bind fun v8 => if (decide ((v6.toNat : Int) = (v8.toNat : Int))) then ((m12_crc_Of ((([] : List UInt8) ++ a0) ++ a1)).bind fun v9 => (m12_crc_Of a0).bind fun v10 => (m12_crc_Of a1).bind fun v11 => (m18_crc_Join v10 v11 (a1.length : Int)).bind fun v12 => if (decide ((v9.toNat : Int) = (v12.toNat : Int))) then ((m14_crc_More a2 ((([] : List UInt8) ++ a0) ++ a1)).bind fun v13 => (m14_crc_More v5 a1).bind fun v14 => some (decide ((v13.toNat : Int) = (v14.toNat : Int)))) else (some false)) else (some false)) else (some false)) else none) else none
def m4_l02_CrcJoins (a0 : List UInt8) (a1 : List UInt8) (a2 : BitVec 32) : Option Bool :=
  (m9_l02_awake).bind fun v1 => if (decide (2000 < (a0.length : Int))) then (some v1) else (if (decide (2000 < (a1.length : Int))) then (some v1) else (m4_l02_CrcJoins_k2 a0 a1 a2 v1 ()))

set_option maxRecDepth 100000 in
theorem m4_l02_CrcJoins_c {a0 : List UInt8} {a1 : List UInt8} {a2 : BitVec 32} {r : Bool} (h : m4_l02_CrcJoins a0 a1 a2 = some r) : CallsA Try.prog 4 [.one (.sl a0.length (a0.flatMap eU8)), .one (.sl a1.length (a1.flatMap eU8)), .one (.i .u32 (a2.toNat : Int))] (· = .s (.one (.b r))) := by
  unfold m4_l02_CrcJoins at h
  refine callsA_of Try.func4 rfl (nt := 59) rfl (Nat.le_of_ble_eq_true rfl) ?_
  intro w0 S0
  refine cseq ?_
  refine cregion ?_
  refine sv rfl (opv_as rfl) ?_
  refine snil ?_
  refine cseq ?_
  refine cregion ?_
  obtain ⟨v1, hv1, h⟩ := bind_eq h
  refine scall1 rfl fn9 opnds_nil (pubA_id rfl) (m9_l02_awake_c hv1) ?_
  refine sv rfl (opv_as rfl) ?_
  refine snil ?_
  refine cseq ?_
  refine cseq ?_
  refine cjoin3 (Unit) (fun b2 => [(0, .s (.one (.sl a0.length (a0.flatMap eU8)))), (1, .s (.one (.sl a1.length (a1.flatMap eU8)))), (2, .s (.one (.i .u32 (a2.toNat : Int)))), (7, .s (.one (.b v1)))]) (fun b2 => []) (fun b2 => m4_l02_CrcJoins_k2 a0 a1 a2 v1 b2 = some r) (fun _ _ => inbL_of rfl) (fun _ _ => blkinb_of rfl) (fun _ _ => Nat.le_of_ble_eq_true rfl) (fun b2 h => ?_) ?_
  · unfold m4_l02_CrcJoins_k2 at h
    refine cseq ?_
    refine cregion ?_
    refine sbuild0 rfl Try.underlying22 ei5 ?_
    refine sv rfl (opv_mv rfl) ?_
    obtain ⟨hb3, h⟩ := chk_eq h
    refine sapp (f := eU8) (xs := ([] : List UInt8)) (us := a0) rfl Try.underlying22 ei5 ni22 (fun _ => rfl) rfl rfl (.one _ _ _ _ (.id _ rfl)) rfl rfl rfl (.sl _ _ _ (flat_len (f := eU8) (fun _ => rfl) _)) rfl rfl hb3 (by decide) ?_
    refine sv rfl (opv_mv rfl) ?_
    obtain ⟨hb4, h⟩ := chk_eq h
    refine sapp (f := eU8) (xs := (([] : List UInt8) ++ a0)) (us := a1) rfl Try.underlying22 ei5 ni22 (fun _ => rfl) rfl rfl (.one _ _ _ _ (.id _ rfl)) rfl rfl rfl (.sl _ _ _ (flat_len (f := eU8) (fun _ => rfl) _)) rfl rfl hb4 (by decide) ?_
    refine sv rfl (opv_as rfl) ?_
    refine snil ?_
    refine cseq ?_
    refine cregion ?_
    refine sv rfl (opv_mv rfl) ?_
    refine sv rfl (opv_mv rfl) ?_
    obtain ⟨v5, hv5, h⟩ := bind_eq h
    refine scall1 rfl fn14 (opnds_cons rfl (opnds_cons rfl opnds_nil)) (pubA_id rfl) (m14_crc_More_c hv5) ?_
    refine sv rfl (opv_as rfl) ?_
    refine snil ?_
    refine cseq ?_
    refine cregion ?_
    refine sv rfl (opv_mv rfl) ?_
    refine sv rfl (opv_mv rfl) ?_
    refine ssplit 29 rfl (fun hc => ?_) (fun hc => ?_)
    · replace h := ite_t hc h
      clear hc
      refine son rfl rfl rfl ?_
      refine sv rfl (opv_mv rfl) ?_
      refine son rfl rfl rfl ?_
      refine spub 30 rfl (by (repeat' first | exact PubA.nil _ | apply PubA.cons | apply PubV.one | apply PubV.agg | exact PubL.nil | exact PubL.ls _ _ _ _ _ _ rfl (flat_len (f := eU8) (fun _ => rfl) _).symm | exact PubL.id _ rfl | exact PubLs.nil _ | apply PubLs.cons)) ?_
      obtain ⟨v6, hv6, h⟩ := bind_eq h
      refine scall1 rfl fn12 (opnds_cons rfl opnds_nil) (pubA_id rfl) (m12_crc_Of_c hv6) ?_
      refine son rfl rfl rfl ?_
      refine sv rfl (opv_mv rfl) ?_
      refine son rfl rfl rfl ?_
      obtain ⟨v7, hv7, h⟩ := bind_eq h
      refine scall1 rfl fn12 (opnds_cons rfl opnds_nil) (pubA_id rfl) (m12_crc_Of_c hv7) ?_
      refine son rfl rfl rfl ?_
      refine sv rfl (opv_mv rfl) ?_
      refine son rfl rfl rfl ?_
      obtain ⟨v8, hv8, h⟩ := bind_eq h
      refine scall1 rfl fn14 (opnds_cons rfl (opnds_cons rfl opnds_nil)) (pubA_id rfl) (m14_crc_More_c hv8) ?_
      refine son rfl rfl rfl ?_
      refine sv rfl (opv_ieql rfl rfl) ?_
      refine sv rfl (opv_pick_t rfl rfl) ?_
      refine sv rfl (opv_mv rfl) ?_
      refine ssplit 38 rfl (fun hc => ?_) (fun hc => ?_)
      · replace h := ite_t hc h
        clear hc
        refine son rfl rfl rfl ?_
        refine sv rfl (opv_mv rfl) ?_
        refine son rfl rfl rfl ?_
        refine spub 39 rfl (by (repeat' first | exact PubA.nil _ | apply PubA.cons | apply PubV.one | apply PubV.agg | exact PubL.nil | exact PubL.ls _ _ _ _ _ _ rfl (flat_len (f := eU8) (fun _ => rfl) _).symm | exact PubL.id _ rfl | exact PubLs.nil _ | apply PubLs.cons)) ?_
        obtain ⟨v9, hv9, h⟩ := bind_eq h
        refine scall1 rfl fn12 (opnds_cons rfl opnds_nil) (pubA_id rfl) (m12_crc_Of_c hv9) ?_
        refine son rfl rfl rfl ?_
        refine sv rfl (opv_mv rfl) ?_
        refine son rfl rfl rfl ?_
        obtain ⟨v10, hv10, h⟩ := bind_eq h
        refine scall1 rfl fn12 (opnds_cons rfl opnds_nil) (pubA_id rfl) (m12_crc_Of_c hv10) ?_
        refine son rfl rfl rfl ?_
        refine sv rfl (opv_mv rfl) ?_
        refine son rfl rfl rfl ?_
        obtain ⟨v11, hv11, h⟩ := bind_eq h
        refine scall1 rfl fn12 (opnds_cons rfl opnds_nil) (pubA_id rfl) (m12_crc_Of_c hv11) ?_
        refine son rfl rfl rfl ?_
        refine sv rfl (opv_mv rfl) ?_
        refine son rfl rfl rfl ?_
        refine sv rfl (opv_len_sl si22 rfl) ?_
        refine son rfl rfl rfl ?_
        obtain ⟨v12, hv12, h⟩ := bind_eq h
        refine scall1 rfl fn18 (opnds_cons rfl (opnds_cons rfl (opnds_cons rfl opnds_nil))) (pubA_id rfl) (m18_crc_Join_c hv12) ?_
        refine son rfl rfl rfl ?_
        refine sv rfl (opv_ieql rfl rfl) ?_
        refine sv rfl (opv_pick_t rfl rfl) ?_
        refine sv rfl (opv_mv rfl) ?_
        refine ssplit 50 rfl (fun hc => ?_) (fun hc => ?_)
        · replace h := ite_t hc h
          clear hc
          refine son rfl rfl rfl ?_
          refine sv rfl (opv_mv rfl) ?_
          refine son rfl rfl rfl ?_
          refine sv rfl (opv_mv rfl) ?_
          refine son rfl rfl rfl ?_
          refine spub 52 rfl (by (repeat' first | exact PubA.nil _ | apply PubA.cons | apply PubV.one | apply PubV.agg | exact PubL.nil | exact PubL.ls _ _ _ _ _ _ rfl (flat_len (f := eU8) (fun _ => rfl) _).symm | exact PubL.id _ rfl | exact PubLs.nil _ | apply PubLs.cons)) ?_
          obtain ⟨v13, hv13, h⟩ := bind_eq h
          refine scall1 rfl fn14 (opnds_cons rfl (opnds_cons rfl opnds_nil)) (pubA_id rfl) (m14_crc_More_c hv13) ?_
          refine son rfl rfl rfl ?_
          refine sv rfl (opv_mv rfl) ?_
          refine son rfl rfl rfl ?_
          refine sv rfl (opv_mv rfl) ?_
          refine son rfl rfl rfl ?_
          obtain ⟨v14, hv14, h⟩ := bind_eq h
          refine scall1 rfl fn14 (opnds_cons rfl (opnds_cons rfl opnds_nil)) (pubA_id rfl) (m14_crc_More_c hv14) ?_
          refine son rfl rfl rfl ?_
          refine sv rfl (opv_ieql rfl rfl) ?_
          refine sv rfl (opv_pick_t rfl rfl) ?_
          refine sv rfl (opv_as rfl) ?_
          refine snil ?_
          refine cret ?_
          obtain rfl := Option.some.inj h
          refine ⟨Or.inr rfl, _, _, _, (resVs_cons (ResV.tmp _ _ rfl) resVs_nil), (pubA_id rfl), ?_⟩
          rfl
        · replace h := ite_f hc h
          clear hc
          refine soff rfl rfl rfl rfl ?_
          refine soff rfl rfl rfl rfl ?_
          refine soff rfl rfl rfl rfl ?_
          refine soff rfl rfl rfl rfl ?_
          refine soff rfl rfl rfl rfl ?_
          refine soff rfl rfl rfl rfl ?_
          refine soff rfl rfl rfl rfl ?_
          refine sv rfl (opv_pick_f rfl rfl) ?_
          refine sv rfl (opv_as rfl) ?_
          refine snil ?_
          refine cret ?_
          obtain rfl := Option.some.inj h
          refine ⟨Or.inr rfl, _, _, _, (resVs_cons (ResV.tmp _ _ rfl) resVs_nil), (pubA_id rfl), ?_⟩
          rfl
      · replace h := ite_f hc h
        clear hc
        refine soff rfl rfl rfl rfl ?_
        refine soff rfl rfl rfl rfl ?_
        refine soff rfl rfl rfl rfl ?_
        refine soff rfl rfl rfl rfl ?_
        refine soff rfl rfl rfl rfl ?_
        refine soff rfl rfl rfl rfl ?_
        refine soff rfl rfl rfl rfl ?_
        refine soff rfl rfl rfl rfl ?_
        refine soff rfl rfl rfl rfl ?_
        refine soff rfl rfl rfl rfl ?_
        refine sv rfl (opv_pick_f rfl rfl) ?_
        refine sv rfl (opv_mv rfl) ?_
        refine soff rfl rfl rfl rfl ?_
        refine soff rfl rfl rfl rfl ?_
        refine soff rfl rfl rfl rfl ?_
        refine soff rfl rfl rfl rfl ?_
        refine soff rfl rfl rfl rfl ?_
        refine soff rfl rfl rfl rfl ?_
        refine soff rfl rfl rfl rfl ?_
        refine sv rfl (opv_pick_f rfl rfl) ?_
        refine sv rfl (opv_as rfl) ?_
        refine snil ?_
        refine cret ?_
        obtain rfl := Option.some.inj h
        refine ⟨Or.inr rfl, _, _, _, (resVs_cons (ResV.tmp _ _ rfl) resVs_nil), (pubA_id rfl), ?_⟩
        rfl
    · replace h := ite_f hc h
      clear hc
      refine soff rfl rfl rfl rfl ?_
      refine soff rfl rfl rfl rfl ?_
      refine soff rfl rfl rfl rfl ?_
      refine soff rfl rfl rfl rfl ?_
      refine soff rfl rfl rfl rfl ?_
      refine soff rfl rfl rfl rfl ?_
      refine soff rfl rfl rfl rfl ?_
      refine sv rfl (opv_pick_f rfl rfl) ?_
      refine sv rfl (opv_mv rfl) ?_
      refine soff rfl rfl rfl rfl ?_
      refine soff rfl rfl rfl rfl ?_
      refine soff rfl rfl rfl rfl ?_
      refine soff rfl rfl rfl rfl ?_
      refine soff rfl rfl rfl rfl ?_
      refine soff rfl rfl rfl rfl ?_
      refine soff rfl rfl rfl rfl ?_
      refine soff rfl rfl rfl rfl ?_
      refine soff rfl rfl rfl rfl ?_
      refine soff rfl rfl rfl rfl ?_
      refine sv rfl (opv_pick_f rfl rfl) ?_
      refine sv rfl (opv_mv rfl) ?_
      refine soff rfl rfl rfl rfl ?_
      refine soff rfl rfl rfl rfl ?_
      refine soff rfl rfl rfl rfl ?_
      refine soff rfl rfl rfl rfl ?_
      refine soff rfl rfl rfl rfl ?_
      refine soff rfl rfl rfl rfl ?_
      refine soff rfl rfl rfl rfl ?_
      refine sv rfl (opv_pick_f rfl rfl) ?_
      refine sv rfl (opv_as rfl) ?_
      refine snil ?_
      refine cret ?_
      obtain rfl := Option.some.inj h
      refine ⟨Or.inr rfl, _, _, _, (resVs_cons (ResV.tmp _ _ rfl) resVs_nil), (pubA_id rfl), ?_⟩
      rfl
  · skip
    refine cregion ?_
    refine sv rfl (opv_mv rfl) ?_
    refine sv rfl (opv_len_sl si22 rfl) ?_
    refine sv rfl (opv_gtr rfl rfl) ?_
    refine sv rfl (opv_mv rfl) ?_
    refine ssplit 14 rfl (fun hc => ?_) (fun hc => ?_)
    · replace h := ite_t hc h
      clear hc
      refine soff rfl rfl rfl rfl ?_
      refine soff rfl rfl rfl rfl ?_
      refine soff rfl rfl rfl rfl ?_
      refine sv rfl (opv_pick_t rfl rfl) ?_
      refine snil ?_
      refine ccond rfl (fun _ => ?_) (fun hx => Bool.noConfusion hx)
      refine cseq ?_
      refine cregion ?_
      refine sv rfl (opv_mv rfl) ?_
      refine sv rfl (opv_as rfl) ?_
      refine snil ?_
      refine cret ?_
      refine then_ret ?_
      obtain rfl := Option.some.inj h
      refine ⟨Or.inr rfl, _, _, _, (resVs_cons (ResV.tmp _ _ rfl) resVs_nil), (pubA_id rfl), ?_⟩
      rfl
    · replace h := ite_f hc h
      clear hc
      refine son rfl rfl rfl ?_
      refine sv rfl (opv_mv rfl) ?_
      refine son rfl rfl rfl ?_
      refine sv rfl (opv_len_sl si22 rfl) ?_
      refine son rfl rfl rfl ?_
      refine sv rfl (opv_gtr rfl rfl) ?_
      refine sv rfl (opv_pick_f rfl rfl) ?_
      refine snil ?_
      refine ccond rfl (fun hc => ?_) (fun hc => ?_)
      · replace h := ite_t hc h
        clear hc
        refine cseq ?_
        refine cregion ?_
        refine sv rfl (opv_mv rfl) ?_
        refine sv rfl (opv_as rfl) ?_
        refine snil ?_
        refine cret ?_
        refine then_ret ?_
        obtain rfl := Option.some.inj h
        refine ⟨Or.inr rfl, _, _, _, (resVs_cons (ResV.tmp _ _ rfl) resVs_nil), (pubA_id rfl), ?_⟩
        rfl
      · replace h := ite_f hc h
        clear hc
        refine cskip ?_
        refine then_normal ?_
        exact ⟨(), _, h, ⟨rfl, rfl, rfl, rfl, trivial⟩, rfl⟩

def m5_l02_CrcTurns_k5 (a0 : List UInt8) (a2 : BitVec 32) (v1 : Bool) (b5 : (List UInt8)) : Option Bool :=
  if v1 then ((m12_crc_Of a0).bind fun v6 => (m12_crc_Of b5).bind fun v7 => some ((decide ((v6.toNat : Int) = (v7.toNat : Int))) == (decide ((a2.toNat : Int) = (0 : Int))))) else (some false)

def m5_l02_CrcTurns_s8 (a0 : List UInt8) (a1 : Int) (a2 : BitVec 32) (s8 : Int × (List UInt8)) : Option (LB (Int × (List UInt8)) ((List UInt8))) :=
  if (decide (s8.1 < 4)) then ((idx s8.2 (wI (((wI ((BitVec.ofInt 64 a1 &&& BitVec.ofInt 64 65535).toNat : Int)).tmod (wI ((a0.length : Int) - 3))) + s8.1))).bind fun u9 => (idx s8.2 (wI (((wI ((BitVec.ofInt 64 a1 &&& BitVec.ofInt 64 65535).toNat : Int)).tmod (wI ((a0.length : Int) - 3))) + s8.1))).bind fun u10 => some (.cont ((wI (s8.1 + 1)), (s8.2.set ((wI (((wI ((BitVec.ofInt 64 a1 &&& BitVec.ofInt 64 65535).toNat : Int)).tmod (wI ((a0.length : Int) - 3))) + s8.1)).toNat) (UInt8.ofBitVec (u9.toBitVec ^^^ ((a2 >>> ((BitVec.ofInt 64 (wI (8 * s8.1))).toNat : Int).toNat).setWidth 8))))))) else (some (.brk s8.2))

def m5_l02_CrcTurns_k2 (a0 : List UInt8) (a1 : Int) (a2 : BitVec 32) (v1 : Bool) (b2 : Unit) : Option Bool :=
  if (wI ((a0.length : Int) - 3)) ≠ 0 then (if (([] : List UInt8).length + a0.length) * 1 ≤ 140737488355328 then ((iterB (m5_l02_CrcTurns_s8 a0 a1 a2) fuel (0, (([] : List UInt8) ++ a0))).bind fun e11 => m5_l02_CrcTurns_k5 a0 a2 v1 e11) else none) else none
def m5_l02_CrcTurns (a0 : List UInt8) (a1 : Int) (a2 : BitVec 32) : Option Bool :=
  (m9_l02_awake).bind fun v1 => if (decide (2000 < (a0.length : Int))) then (some v1) else (if (decide ((a0.length : Int) < 4)) then (some v1) else (m5_l02_CrcTurns_k2 a0 a1 a2 v1 ()))

set_option maxRecDepth 100000 in
theorem m5_l02_CrcTurns_c {a0 : List UInt8} {a1 : Int} {a2 : BitVec 32} {r : Bool} (h : m5_l02_CrcTurns a0 a1 a2 = some r) : CallsA Try.prog 5 [.one (.sl a0.length (a0.flatMap eU8)), .one (.i .i64 a1), .one (.i .u32 (a2.toNat : Int))] (· = .s (.one (.b r))) := by
  unfold m5_l02_CrcTurns at h
  refine callsA_of Try.func5 rfl (nt := 63) rfl (Nat.le_of_ble_eq_true rfl) ?_
  intro w0 S0
  refine cseq ?_
  refine cregion ?_
  refine sv rfl (opv_as rfl) ?_
  refine snil ?_
  refine cseq ?_
  refine cregion ?_
  obtain ⟨v1, hv1, h⟩ := bind_eq h
  refine scall1 rfl fn9 opnds_nil (pubA_id rfl) (m9_l02_awake_c hv1) ?_
  refine sv rfl (opv_as rfl) ?_
  refine snil ?_
  refine cseq ?_
  refine cseq ?_
  refine cjoin3 (Unit) (fun b2 => [(0, .s (.one (.sl a0.length (a0.flatMap eU8)))), (1, .s (.one (.i .i64 a1))), (2, .s (.one (.i .u32 (a2.toNat : Int)))), (7, .s (.one (.b v1)))]) (fun b2 => []) (fun b2 => m5_l02_CrcTurns_k2 a0 a1 a2 v1 b2 = some r) (fun _ _ => inbL_of rfl) (fun _ _ => blkinb_of rfl) (fun _ _ => Nat.le_of_ble_eq_true rfl) (fun b2 h => ?_) ?_
  · unfold m5_l02_CrcTurns_k2 at h
    refine cseq ?_
    refine cregion ?_
    refine sv rfl (opv_mv rfl) ?_
    refine sv rfl (opv_and rfl rfl) ?_
    refine sv rfl (opv_mv rfl) ?_
    refine sv rfl (opv_len_sl si22 rfl) ?_
    refine sv rfl (opv_sub rfl rfl) ?_
    obtain ⟨hz3, h⟩ := chk_eq h
    refine sv rfl (opv_rem rfl rfl hz3) ?_
    refine sv rfl (opv_as rfl) ?_
    refine snil ?_
    refine cseq ?_
    refine cregion ?_
    refine sbuild0 rfl Try.underlying22 ei5 ?_
    refine sv rfl (opv_mv rfl) ?_
    obtain ⟨hb4, h⟩ := chk_eq h
    refine sapp (f := eU8) (xs := ([] : List UInt8)) (us := a0) rfl Try.underlying22 ei5 ni22 (fun _ => rfl) rfl rfl (.one _ _ _ _ (.id _ rfl)) rfl rfl rfl (.sl _ _ _ (flat_len (f := eU8) (fun _ => rfl) _)) rfl rfl hb4 (by decide) ?_
    refine sv rfl (opv_as rfl) ?_
    refine snil ?_
    refine cseq ?_
    refine cseq ?_
    refine cregion ?_
    refine sv rfl (opv_as rfl) ?_
    refine snil ?_
    refine cjoin ((List UInt8)) (fun b5 => [(0, .s (.one (.sl a0.length (a0.flatMap eU8)))), (2, .s (.one (.i .u32 (a2.toNat : Int)))), (7, .s (.one (.b v1))), (9, .s (.one (.ls 0 b5.length)))]) (fun b5 => [.arr 5 1 0 (b5.flatMap eU8)]) (fun b5 => m5_l02_CrcTurns_k5 a0 a2 v1 b5 = some r) (fun _ _ => inbL_of rfl) (fun _ _ => blkinb_of rfl) (fun _ _ => Nat.le_of_ble_eq_true rfl) (fun b5 h => ?_) ?_
    · unfold m5_l02_CrcTurns_k5 at h
      refine cseq ?_
      refine cregion ?_
      refine sv rfl (opv_mv rfl) ?_
      refine sv rfl (opv_mv rfl) ?_
      refine ssplit 53 rfl (fun hc => ?_) (fun hc => ?_)
      · replace h := ite_t hc h
        clear hc
        refine son rfl rfl rfl ?_
        refine sv rfl (opv_mv rfl) ?_
        refine son rfl rfl rfl ?_
        obtain ⟨v6, hv6, h⟩ := bind_eq h
        refine scall1 rfl fn12 (opnds_cons rfl opnds_nil) (pubA_id rfl) (m12_crc_Of_c hv6) ?_
        refine son rfl rfl rfl ?_
        refine sv rfl (opv_mv rfl) ?_
        refine son rfl rfl rfl ?_
        refine spub 56 rfl (by (repeat' first | exact PubA.nil _ | apply PubA.cons | apply PubV.one | apply PubV.agg | exact PubL.nil | exact PubL.ls _ _ _ _ _ _ rfl (flat_len (f := eU8) (fun _ => rfl) _).symm | exact PubL.id _ rfl | exact PubLs.nil _ | apply PubLs.cons)) ?_
        obtain ⟨v7, hv7, h⟩ := bind_eq h
        refine scall1 rfl fn12 (opnds_cons rfl opnds_nil) (pubA_id rfl) (m12_crc_Of_c hv7) ?_
        refine son rfl rfl rfl ?_
        refine sv rfl (opv_ieql rfl rfl) ?_
        refine son rfl rfl rfl ?_
        refine sv rfl (opv_mv rfl) ?_
        refine son rfl rfl rfl ?_
        refine sv rfl (opv_ieql rfl rfl) ?_
        refine son rfl rfl rfl ?_
        refine sv rfl (opv_beql Try.underlying4 rfl rfl) ?_
        refine sv rfl (opv_pick_t rfl rfl) ?_
        refine sv rfl (opv_as rfl) ?_
        refine snil ?_
        refine cret ?_
        obtain rfl := Option.some.inj h
        refine ⟨Or.inr rfl, _, _, _, (resVs_cons (ResV.tmp _ _ rfl) resVs_nil), (pubA_id rfl), ?_⟩
        rfl
      · replace h := ite_f hc h
        clear hc
        refine soff rfl rfl rfl rfl ?_
        refine soff rfl rfl rfl rfl ?_
        refine soff rfl rfl rfl rfl ?_
        refine soff rfl rfl rfl rfl ?_
        refine soff rfl rfl rfl rfl ?_
        refine soff rfl rfl rfl rfl ?_
        refine soff rfl rfl rfl rfl ?_
        refine soff rfl rfl rfl rfl ?_
        refine sv rfl (opv_pick_f rfl rfl) ?_
        refine sv rfl (opv_as rfl) ?_
        refine snil ?_
        refine cret ?_
        obtain rfl := Option.some.inj h
        refine ⟨Or.inr rfl, _, _, _, (resVs_cons (ResV.tmp _ _ rfl) resVs_nil), (pubA_id rfl), ?_⟩
        rfl
    · skip
      refine cblock ?_
      obtain ⟨x8, hx8, ho8⟩ := bind_eq h
      refine awc_loop (G := Nat × (Int × (List UInt8))) (fun g => [(0, .s (.one (.sl a0.length (a0.flatMap eU8)))), (2, .s (.one (.i .u32 (a2.toNat : Int)))), (7, .s (.one (.b v1))), (8, .s (.one (.i .i64 ((wI ((BitVec.ofInt 64 a1 &&& BitVec.ofInt 64 65535).toNat : Int)).tmod (wI ((a0.length : Int) - 3)))))), (9, .s (.one (.ls 0 g.2.2.length))), (10, .s (.one (.i .i64 g.2.1)))]) (fun g => [.arr 5 1 0 (g.2.2.flatMap eU8)]) (fun g => iterB (m5_l02_CrcTurns_s8 a0 a1 a2) g.1 g.2 = some x8) (fun g => g.1) (fuel, (0, (([] : List UInt8) ++ a0))) hx8 ⟨rfl, rfl, rfl, rfl, rfl, rfl, trivial⟩ [] rfl (fun _ _ => inbL_of rfl) (fun _ _ => blkinb_of rfl) (fun _ _ => Nat.le_of_ble_eq_true rfl) ?_
      clear hx8 h
      rintro ⟨n8, s8⟩ h
      obtain ⟨n8, y8, rfl, h, hk8⟩ := iterB_eq h
      unfold m5_l02_CrcTurns_s8 at h
      refine cseq ?_
      refine cseq ?_
      refine cregion ?_
      refine sv rfl (opv_mv rfl) ?_
      refine sv rfl (opv_lss rfl rfl) ?_
      refine snil ?_
      refine ccond rfl (fun hc => ?_) (fun hc => ?_)
      · replace h := ite_t hc h
        clear hc
        refine cskip ?_
        refine then_normal ?_
        refine cseq ?_
        refine cblock ?_
        refine cregion ?_
        refine sv rfl (opv_mv rfl) ?_
        refine sv rfl (opv_mv rfl) ?_
        refine sv rfl (opv_mv rfl) ?_
        refine sv rfl (opv_add rfl rfl) ?_
        refine sv rfl (opv_mv rfl) ?_
        refine sv rfl (opv_mv rfl) ?_
        refine sv rfl (opv_mv rfl) ?_
        refine sv rfl (opv_add rfl rfl) ?_
        obtain ⟨u9, hu9, h⟩ := bind_eq h
        refine sv rfl (opv_ixo (f := eU8) si22 (fun _ => rfl) rfl rfl rfl rfl rfl hu9) ?_
        refine sv rfl (opv_ld1o (f := eU8) 0 ti5 (fun _ => rfl) rfl rfl rfl rfl (idx_eq hu9).2 rfl) ?_
        refine sv rfl (opv_mv rfl) ?_
        refine sv rfl (opv_mv rfl) ?_
        refine sv rfl (opv_mul rfl rfl) ?_
        refine sv rfl (opv_conv_ibv rfl Try.underlying3 Try.underlying33 rfl) ?_
        refine sv rfl (opv_shr_u32 (a := a2) rfl rfl rfl (Int.natCast_nonneg _)) ?_
        refine sv rfl (opv_conv_bv (k := .u32) (a := (a2 >>> ((BitVec.ofInt 64 (wI (8 * s8.1))).toNat : Int).toNat)) rfl Try.underlying23 Try.underlying5 rfl rfl) ?_
        refine sv rfl (opv_xor_u8 (a := u9.toBitVec) (b := ((a2 >>> ((BitVec.ofInt 64 (wI (8 * s8.1))).toNat : Int).toNat).setWidth 8)) rfl rfl rfl rfl) ?_
        obtain ⟨u10, hu10, h⟩ := bind_eq h
        refine sv rfl (opv_ixo (f := eU8) si22 (fun _ => rfl) rfl rfl rfl rfl rfl hu10) ?_
        refine sseto (f := eU8) (u' := (UInt8.ofBitVec (u9.toBitVec ^^^ ((a2 >>> ((BitVec.ofInt 64 (wI (8 * s8.1))).toNat : Int).toNat).setWidth 8)))) 0 sz5 (fun _ => rfl) rfl rfl rfl rfl rfl rfl rfl (List.all_eq_true.1 rfl) (idx_eq hu10).2 (Nat.le_of_ble_eq_true rfl) rfl ?_
        refine stell 9 (y := .s (.one (.ls 0 s8.2.length))) (.s (.one (.ls 0 (s8.2.set ((wI (((wI ((BitVec.ofInt 64 a1 &&& BitVec.ofInt 64 65535).toNat : Int)).tmod (wI ((a0.length : Int) - 3))) + s8.1)).toNat) (UInt8.ofBitVec (u9.toBitVec ^^^ ((a2 >>> ((BitVec.ofInt 64 (wI (8 * s8.1))).toNat : Int).toNat).setWidth 8)))).length))) rfl (congrArg (fun n => AV.s (.one (.ls 0 n))) List.length_set.symm) ?_
        refine stell 34 (y := .s (.one (.ls 0 s8.2.length))) (.s (.one (.ls 0 (s8.2.set ((wI (((wI ((BitVec.ofInt 64 a1 &&& BitVec.ofInt 64 65535).toNat : Int)).tmod (wI ((a0.length : Int) - 3))) + s8.1)).toNat) (UInt8.ofBitVec (u9.toBitVec ^^^ ((a2 >>> ((BitVec.ofInt 64 (wI (8 * s8.1))).toNat : Int).toNat).setWidth 8)))).length))) rfl (congrArg (fun n => AV.s (.one (.ls 0 n))) List.length_set.symm) ?_
        refine stell 38 (y := .s (.one (.ls 0 s8.2.length))) (.s (.one (.ls 0 (s8.2.set ((wI (((wI ((BitVec.ofInt 64 a1 &&& BitVec.ofInt 64 65535).toNat : Int)).tmod (wI ((a0.length : Int) - 3))) + s8.1)).toNat) (UInt8.ofBitVec (u9.toBitVec ^^^ ((a2 >>> ((BitVec.ofInt 64 (wI (8 * s8.1))).toNat : Int).toNat).setWidth 8)))).length))) rfl (congrArg (fun n => AV.s (.one (.ls 0 n))) List.length_set.symm) ?_
        refine snil0 ?_
        refine block_normal ?_
        refine then_normal ?_
        refine cregion ?_
        refine sv rfl (opv_mv rfl) ?_
        refine sv rfl (opv_add rfl rfl) ?_
        refine sv rfl (opv_as rfl) ?_
        refine snil ?_
        obtain rfl := Option.some.inj h
        exact ⟨(n8, ((wI (s8.1 + 1)), (s8.2.set ((wI (((wI ((BitVec.ofInt 64 a1 &&& BitVec.ofInt 64 65535).toNat : Int)).tmod (wI ((a0.length : Int) - 3))) + s8.1)).toNat) (UInt8.ofBitVec (u9.toBitVec ^^^ ((a2 >>> ((BitVec.ofInt 64 (wI (8 * s8.1))).toNat : Int).toNat).setWidth 8)))))), _, hk8, ⟨rfl, rfl, rfl, rfl, rfl, rfl, trivial⟩, rfl, Nat.lt_succ_self _⟩
      · replace h := ite_f hc h
        clear hc
        refine cexit ?_
        refine then_exit ?_
        refine then_exit ?_
        refine block_hit ?_
        refine then_normal ?_
        obtain rfl := Option.some.inj h
        obtain rfl : _ = x8 := hk8
        exact ⟨s8.2, _, ho8, ⟨rfl, rfl, rfl, rfl, trivial⟩, rfl⟩
  · skip
    refine cregion ?_
    refine sv rfl (opv_mv rfl) ?_
    refine sv rfl (opv_len_sl si22 rfl) ?_
    refine sv rfl (opv_gtr rfl rfl) ?_
    refine sv rfl (opv_mv rfl) ?_
    refine ssplit 15 rfl (fun hc => ?_) (fun hc => ?_)
    · replace h := ite_t hc h
      clear hc
      refine soff rfl rfl rfl rfl ?_
      refine soff rfl rfl rfl rfl ?_
      refine soff rfl rfl rfl rfl ?_
      refine sv rfl (opv_pick_t rfl rfl) ?_
      refine snil ?_
      refine ccond rfl (fun _ => ?_) (fun hx => Bool.noConfusion hx)
      refine cseq ?_
      refine cregion ?_
      refine sv rfl (opv_mv rfl) ?_
      refine sv rfl (opv_as rfl) ?_
      refine snil ?_
      refine cret ?_
      refine then_ret ?_
      obtain rfl := Option.some.inj h
      refine ⟨Or.inr rfl, _, _, _, (resVs_cons (ResV.tmp _ _ rfl) resVs_nil), (pubA_id rfl), ?_⟩
      rfl
    · replace h := ite_f hc h
      clear hc
      refine son rfl rfl rfl ?_
      refine sv rfl (opv_mv rfl) ?_
      refine son rfl rfl rfl ?_
      refine sv rfl (opv_len_sl si22 rfl) ?_
      refine son rfl rfl rfl ?_
      refine sv rfl (opv_lss rfl rfl) ?_
      refine sv rfl (opv_pick_f rfl rfl) ?_
      refine snil ?_
      refine ccond rfl (fun hc => ?_) (fun hc => ?_)
      · replace h := ite_t hc h
        clear hc
        refine cseq ?_
        refine cregion ?_
        refine sv rfl (opv_mv rfl) ?_
        refine sv rfl (opv_as rfl) ?_
        refine snil ?_
        refine cret ?_
        refine then_ret ?_
        obtain rfl := Option.some.inj h
        refine ⟨Or.inr rfl, _, _, _, (resVs_cons (ResV.tmp _ _ rfl) resVs_nil), (pubA_id rfl), ?_⟩
        rfl
      · replace h := ite_f hc h
        clear hc
        refine cskip ?_
        refine then_normal ?_
        exact ⟨(), _, h, ⟨rfl, rfl, rfl, rfl, trivial⟩, rfl⟩

def m6_l02_CrcSums_k4 (a0 : List UInt8) (a1 : List UInt8) (v1 : Bool) (b4 : (List UInt8)) : Option Bool :=
  if v1 then ((m12_crc_Of a0).bind fun v5 => (m12_crc_Of a1).bind fun v6 => (m12_crc_Of b4).bind fun v7 => if 0 ≤ (a0.length : Int) ∧ (a0.length : Int) ≤ (a0.length : Int) ∧ ((1 : Nat) : Int) * (a0.length : Int) ≤ 281474976710656 then ((m12_crc_Of (List.replicate (a0.length : Int).toNat (0 : UInt8))).bind fun v9 => some (decide ((((v5 ^^^ v6) ^^^ v7).toNat : Int) = (v9.toNat : Int)))) else none) else (some false)

def m6_l02_CrcSums_s10 (a0 : List UInt8) (a1 : List UInt8) (s10 : Int × (List UInt8)) : Option (LB (Int × (List UInt8)) ((List UInt8))) :=
  if (decide (s10.1 < (a0.length : Int))) then ((idx a0 s10.1).bind fun u11 => (idx a1 s10.1).bind fun u12 => (idx s10.2 s10.1).bind fun u13 => some (.cont ((wI (s10.1 + 1)), (s10.2.set s10.1.toNat (UInt8.ofBitVec (u11.toBitVec ^^^ u12.toBitVec)))))) else (some (.brk s10.2))

def m6_l02_CrcSums_k2 (a0 : List UInt8) (a1 : List UInt8) (v1 : Bool) (b2 : Unit) : Option Bool :=
  if 0 ≤ (a0.length : Int) ∧ (a0.length : Int) ≤ (a0.length : Int) ∧ ((1 : Nat) : Int) * (a0.length : Int) ≤ 281474976710656 then ((iterB (m6_l02_CrcSums_s10 a0 a1) fuel (0, (List.replicate (a0.length : Int).toNat (0 : UInt8)))).bind fun e14 => m6_l02_CrcSums_k4 a0 a1 v1 e14) else none
def m6_l02_CrcSums (a0 : List UInt8) (a1 : List UInt8) : Option Bool :=
  (m9_l02_awake).bind fun v1 => if (decide (2000 < (a0.length : Int))) then (some v1) else (if (!decide ((a0.length : Int) = (a1.length : Int))) then (some v1) else (m6_l02_CrcSums_k2 a0 a1 v1 ()))

set_option maxRecDepth 100000 in
theorem m6_l02_CrcSums_c {a0 : List UInt8} {a1 : List UInt8} {r : Bool} (h : m6_l02_CrcSums a0 a1 = some r) : CallsA Try.prog 6 [.one (.sl a0.length (a0.flatMap eU8)), .one (.sl a1.length (a1.flatMap eU8))] (· = .s (.one (.b r))) := by
  unfold m6_l02_CrcSums at h
  refine callsA_of Try.func6 rfl (nt := 57) rfl (Nat.le_of_ble_eq_true rfl) ?_
  intro w0 S0
  refine cseq ?_
  refine cregion ?_
  refine sv rfl (opv_as rfl) ?_
  refine snil ?_
  refine cseq ?_
  refine cregion ?_
  obtain ⟨v1, hv1, h⟩ := bind_eq h
  refine scall1 rfl fn9 opnds_nil (pubA_id rfl) (m9_l02_awake_c hv1) ?_
  refine sv rfl (opv_as rfl) ?_
  refine snil ?_
  refine cseq ?_
  refine cseq ?_
  refine cjoin3 (Unit) (fun b2 => [(0, .s (.one (.sl a0.length (a0.flatMap eU8)))), (1, .s (.one (.sl a1.length (a1.flatMap eU8)))), (5, .s (.one (.b v1)))]) (fun b2 => []) (fun b2 => m6_l02_CrcSums_k2 a0 a1 v1 b2 = some r) (fun _ _ => inbL_of rfl) (fun _ _ => blkinb_of rfl) (fun _ _ => Nat.le_of_ble_eq_true rfl) (fun b2 h => ?_) ?_
  · unfold m6_l02_CrcSums_k2 at h
    refine cseq ?_
    refine cregion ?_
    refine sv rfl (opv_mv rfl) ?_
    refine sv rfl (opv_len_sl si22 rfl) ?_
    obtain ⟨hm3, h⟩ := chk_eq h
    refine smk (f := eU8) (z := (0 : UInt8)) rfl Try.underlying22 ei5 (fun _ => rfl) rfl rfl rfl hm3 (by decide) ?_
    refine sv rfl (opv_as rfl) ?_
    refine snil ?_
    refine cseq ?_
    refine cseq ?_
    refine cregion ?_
    refine sv rfl (opv_as rfl) ?_
    refine snil ?_
    refine cjoin ((List UInt8)) (fun b4 => [(0, .s (.one (.sl a0.length (a0.flatMap eU8)))), (1, .s (.one (.sl a1.length (a1.flatMap eU8)))), (5, .s (.one (.b v1))), (6, .s (.one (.ls 0 b4.length)))]) (fun b4 => [.arr 5 1 0 (b4.flatMap eU8)]) (fun b4 => m6_l02_CrcSums_k4 a0 a1 v1 b4 = some r) (fun _ _ => inbL_of rfl) (fun _ _ => blkinb_of rfl) (fun _ _ => Nat.le_of_ble_eq_true rfl) (fun b4 h => ?_) ?_
    · unfold m6_l02_CrcSums_k4 at h
      refine cseq ?_
      refine cpub 6 rfl (by (repeat' first | exact PubA.nil _ | apply PubA.cons | apply PubV.one | apply PubV.agg | exact PubL.nil | exact PubL.ls _ _ _ _ _ _ rfl (flat_len (f := eU8) (fun _ => rfl) _).symm | exact PubL.id _ rfl | exact PubLs.nil _ | apply PubLs.cons)) ?_
      refine cdraw mixed (by kernel_rfl) ?_
      refine dv rfl (opv_mv rfl) ?_
      refine dv rfl (opv_mv rfl) ?_
      refine dsplit 42 rfl (fun hc => ?_) (fun hc => ?_)
      · replace h := ite_t hc h
        clear hc
        refine dvg rfl rfl rfl (opv_mv rfl) ?_
        obtain ⟨v5, hv5, h⟩ := bind_eq h
        refine ddg rfl rfl rfl (opD_call fn12 (opnds_cons rfl opnds_nil) rfl (m12_crc_Of_c hv5)) ?_
        refine dvg rfl rfl rfl (opv_mv rfl) ?_
        obtain ⟨v6, hv6, h⟩ := bind_eq h
        refine ddg rfl rfl rfl (opD_call fn12 (opnds_cons rfl opnds_nil) rfl (m12_crc_Of_c hv6)) ?_
        refine dvg rfl rfl rfl (opv_xor_u32 (a := v5) (b := v6) rfl rfl rfl rfl) ?_
        refine dvg rfl rfl rfl (opv_mv rfl) ?_
        obtain ⟨v7, hv7, h⟩ := bind_eq h
        refine ddg rfl rfl rfl (opD_call fn12 (opnds_cons rfl opnds_nil) rfl (m12_crc_Of_c hv7)) ?_
        refine dvg rfl rfl rfl (opv_xor_u32 (a := (v5 ^^^ v6)) (b := v7) rfl rfl rfl rfl) ?_
        refine dvg rfl rfl rfl (opv_mv rfl) ?_
        refine dvg rfl rfl rfl (opv_len_sl si22 rfl) ?_
        obtain ⟨hm8, h⟩ := chk_eq h
        refine ddg rfl rfl rfl (opD_mk (f := eU8) (z := (0 : UInt8)) Try.underlying22 ei5 (fun _ => rfl) rfl rfl rfl hm8 (by decide)) ?_
        obtain ⟨v9, hv9, h⟩ := bind_eq h
        refine ddg rfl rfl rfl (opD_call fn12 (opnds_cons rfl opnds_nil) rfl (m12_crc_Of_c hv9)) ?_
        refine dvg rfl rfl rfl (opv_ieql rfl rfl) ?_
        refine dv rfl (opv_pick_t rfl rfl) ?_
        refine dv rfl (opv_as rfl) ?_
        refine dnil ?_
        refine then_normal ?_
        refine cret ?_
        obtain rfl := Option.some.inj h
        refine ⟨Or.inr rfl, _, _, _, (resVs_cons (ResV.tmp _ _ rfl) resVs_nil), (pubA_id rfl), ?_⟩
        rfl
      · replace h := ite_f hc h
        clear hc
        refine doff rfl rfl rfl rfl ?_
        refine doff rfl rfl rfl rfl ?_
        refine doff rfl rfl rfl rfl ?_
        refine doff rfl rfl rfl rfl ?_
        refine doff rfl rfl rfl rfl ?_
        refine doff rfl rfl rfl rfl ?_
        refine doff rfl rfl rfl rfl ?_
        refine doff rfl rfl rfl rfl ?_
        refine doff rfl rfl rfl rfl ?_
        refine doff rfl rfl rfl rfl ?_
        refine doff rfl rfl rfl rfl ?_
        refine doff rfl rfl rfl rfl ?_
        refine doff rfl rfl rfl rfl ?_
        refine dv rfl (opv_pick_f rfl rfl) ?_
        refine dv rfl (opv_as rfl) ?_
        refine dnil ?_
        refine then_normal ?_
        refine cret ?_
        obtain rfl := Option.some.inj h
        refine ⟨Or.inr rfl, _, _, _, (resVs_cons (ResV.tmp _ _ rfl) resVs_nil), (pubA_id rfl), ?_⟩
        rfl
    · skip
      refine cblock ?_
      obtain ⟨x10, hx10, ho10⟩ := bind_eq h
      refine awc_loop (G := Nat × (Int × (List UInt8))) (fun g => [(0, .s (.one (.sl a0.length (a0.flatMap eU8)))), (1, .s (.one (.sl a1.length (a1.flatMap eU8)))), (5, .s (.one (.b v1))), (6, .s (.one (.ls 0 g.2.2.length))), (7, .s (.one (.i .i64 g.2.1)))]) (fun g => [.arr 5 1 0 (g.2.2.flatMap eU8)]) (fun g => iterB (m6_l02_CrcSums_s10 a0 a1) g.1 g.2 = some x10) (fun g => g.1) (fuel, (0, (List.replicate (a0.length : Int).toNat (0 : UInt8)))) hx10 ⟨rfl, rfl, rfl, rfl, rfl, trivial⟩ [] rfl (fun _ _ => inbL_of rfl) (fun _ _ => blkinb_of rfl) (fun _ _ => Nat.le_of_ble_eq_true rfl) ?_
      clear hx10 h
      rintro ⟨n10, s10⟩ h
      obtain ⟨n10, y10, rfl, h, hk10⟩ := iterB_eq h
      unfold m6_l02_CrcSums_s10 at h
      refine cseq ?_
      refine cseq ?_
      refine cregion ?_
      refine sv rfl (opv_mv rfl) ?_
      refine sv rfl (opv_mv rfl) ?_
      refine sv rfl (opv_len_sl si22 rfl) ?_
      refine sv rfl (opv_lss rfl rfl) ?_
      refine snil ?_
      refine ccond rfl (fun hc => ?_) (fun hc => ?_)
      · replace h := ite_t hc h
        clear hc
        refine cskip ?_
        refine then_normal ?_
        refine cseq ?_
        refine cblock ?_
        obtain ⟨u11, hu11, h⟩ := bind_eq h
        obtain ⟨u12, hu12, h⟩ := bind_eq h
        obtain ⟨u13, hu13, h⟩ := bind_eq h
        refine cdraw_e [12] [0, 0, 0, 0, 12, 28, 0, 0, 192, 448, 1020, 2047, 4095] [[.arr 5 1 0 (s10.2.flatMap eU8)], [.arr 5 1 0 ((s10.2.set s10.1.toNat (UInt8.ofBitVec (u11.toBitVec ^^^ u12.toBitVec))).flatMap eU8)]] (by kernel_rfl) mixed (by kernel_rfl) (by decide) rfl rfl rfl rfl ?_
        refine ev (sees_at 0 rfl rfl) rfl rfl (opv_mv rfl) ?_
        refine ev (sees_at 0 rfl rfl) rfl rfl (opv_mv rfl) ?_
        refine ev (sees_at 0 rfl rfl) rfl rfl (opv_mv rfl) ?_
        refine ev (sees_at 0 rfl rfl) rfl rfl (opv_mv rfl) ?_
        refine ev (sees_at 0 rfl rfl) rfl rfl (opv_ix (f := eU8) si22 (fun _ => rfl) rfl rfl rfl rfl hu11) ?_
        refine ev (sees_at 0 rfl rfl) rfl rfl (opv_load1 ti5 rfl (.cp _) rfl) ?_
        refine ev (sees_at 0 rfl rfl) rfl rfl (opv_mv rfl) ?_
        refine ev (sees_at 0 rfl rfl) rfl rfl (opv_mv rfl) ?_
        refine ev (sees_at 0 rfl rfl) rfl rfl (opv_ix (f := eU8) si22 (fun _ => rfl) rfl rfl rfl rfl hu12) ?_
        refine ev (sees_at 0 rfl rfl) rfl rfl (opv_load1 ti5 rfl (.cp _) rfl) ?_
        refine ev (sees_at 0 rfl rfl) rfl rfl (opv_xor_u8 (a := u11.toBitVec) (b := u12.toBitVec) rfl rfl rfl rfl) ?_
        refine ev (sees_at 0 rfl rfl) rfl rfl (opv_ixo (f := eU8) si22 (fun _ => rfl) rfl rfl rfl rfl rfl hu13) ?_
        refine ee0 0 rfl rfl rfl rfl (fun ζ => ?_) ?_
        · refine sseto (f := eU8) (u' := (UInt8.ofBitVec (u11.toBitVec ^^^ u12.toBitVec))) 0 sz5 (fun _ => rfl) rfl rfl rfl rfl rfl rfl rfl (List.all_eq_true.1 rfl) (idx_eq hu13).2 (Nat.le_of_ble_eq_true rfl) rfl ?_
          exact eend
        refine enil ?_
        refine block_normal ?_
        refine then_normal ?_
        refine stell_c 6 (y := .s (.one (.ls 0 s10.2.length))) (.s (.one (.ls 0 (s10.2.set s10.1.toNat (UInt8.ofBitVec (u11.toBitVec ^^^ u12.toBitVec))).length))) rfl (congrArg (fun n => AV.s (.one (.ls 0 n))) List.length_set.symm) ?_
        refine stell_c 29 (y := .s (.one (.ls 0 s10.2.length))) (.s (.one (.ls 0 (s10.2.set s10.1.toNat (UInt8.ofBitVec (u11.toBitVec ^^^ u12.toBitVec))).length))) rfl (congrArg (fun n => AV.s (.one (.ls 0 n))) List.length_set.symm) ?_
        refine cregion ?_
        refine sv rfl (opv_mv rfl) ?_
        refine sv rfl (opv_add rfl rfl) ?_
        refine sv rfl (opv_as rfl) ?_
        refine snil ?_
        obtain rfl := Option.some.inj h
        exact ⟨(n10, ((wI (s10.1 + 1)), (s10.2.set s10.1.toNat (UInt8.ofBitVec (u11.toBitVec ^^^ u12.toBitVec))))), _, hk10, ⟨rfl, rfl, rfl, rfl, rfl, trivial⟩, rfl, Nat.lt_succ_self _⟩
      · replace h := ite_f hc h
        clear hc
        refine cexit ?_
        refine then_exit ?_
        refine then_exit ?_
        refine block_hit ?_
        refine then_normal ?_
        obtain rfl := Option.some.inj h
        obtain rfl : _ = x10 := hk10
        exact ⟨s10.2, _, ho10, ⟨rfl, rfl, rfl, rfl, trivial⟩, rfl⟩
  · skip
    refine cregion ?_
    refine sv rfl (opv_mv rfl) ?_
    refine sv rfl (opv_len_sl si22 rfl) ?_
    refine sv rfl (opv_gtr rfl rfl) ?_
    refine sv rfl (opv_mv rfl) ?_
    refine ssplit 12 rfl (fun hc => ?_) (fun hc => ?_)
    · replace h := ite_t hc h
      clear hc
      refine soff rfl rfl rfl rfl ?_
      refine soff rfl rfl rfl rfl ?_
      refine soff rfl rfl rfl rfl ?_
      refine soff rfl rfl rfl rfl ?_
      refine soff rfl rfl rfl rfl ?_
      refine sv rfl (opv_pick_t rfl rfl) ?_
      refine snil ?_
      refine ccond rfl (fun _ => ?_) (fun hx => Bool.noConfusion hx)
      refine cseq ?_
      refine cregion ?_
      refine sv rfl (opv_mv rfl) ?_
      refine sv rfl (opv_as rfl) ?_
      refine snil ?_
      refine cret ?_
      refine then_ret ?_
      obtain rfl := Option.some.inj h
      refine ⟨Or.inr rfl, _, _, _, (resVs_cons (ResV.tmp _ _ rfl) resVs_nil), (pubA_id rfl), ?_⟩
      rfl
    · replace h := ite_f hc h
      clear hc
      refine son rfl rfl rfl ?_
      refine sv rfl (opv_mv rfl) ?_
      refine son rfl rfl rfl ?_
      refine sv rfl (opv_len_sl si22 rfl) ?_
      refine son rfl rfl rfl ?_
      refine sv rfl (opv_mv rfl) ?_
      refine son rfl rfl rfl ?_
      refine sv rfl (opv_len_sl si22 rfl) ?_
      refine son rfl rfl rfl ?_
      refine sv rfl (opv_ineq rfl rfl) ?_
      refine sv rfl (opv_pick_f rfl rfl) ?_
      refine snil ?_
      refine ccond rfl (fun hc => ?_) (fun hc => ?_)
      · replace h := ite_t hc h
        clear hc
        refine cseq ?_
        refine cregion ?_
        refine sv rfl (opv_mv rfl) ?_
        refine sv rfl (opv_as rfl) ?_
        refine snil ?_
        refine cret ?_
        refine then_ret ?_
        obtain rfl := Option.some.inj h
        refine ⟨Or.inr rfl, _, _, _, (resVs_cons (ResV.tmp _ _ rfl) resVs_nil), (pubA_id rfl), ?_⟩
        rfl
      · replace h := ite_f hc h
        clear hc
        refine cskip ?_
        refine then_normal ?_
        exact ⟨(), _, h, ⟨rfl, rfl, rfl, trivial⟩, rfl⟩

def m7_l02_CrcShifts (a0 : BitVec 32) (a1 : BitVec 32) (a2 : Int) (a3 : Int) : Option Bool :=
  (m9_l02_awake).bind fun v1 => if v1 then ((m16_crc_Shift a0 (wI ((BitVec.ofInt 64 a2 &&& BitVec.ofInt 64 255).toNat : Int))).bind fun v2 => (m16_crc_Shift v2 (wI ((BitVec.ofInt 64 a3 &&& BitVec.ofInt 64 255).toNat : Int))).bind fun v3 => (m16_crc_Shift a0 (wI ((wI ((BitVec.ofInt 64 a2 &&& BitVec.ofInt 64 255).toNat : Int)) + (wI ((BitVec.ofInt 64 a3 &&& BitVec.ofInt 64 255).toNat : Int))))).bind fun v4 => if (decide ((v3.toNat : Int) = (v4.toNat : Int))) then ((m16_crc_Shift (0#32) (wI ((BitVec.ofInt 64 a2 &&& BitVec.ofInt 64 255).toNat : Int))).bind fun v5 => if (decide ((v5.toNat : Int) = (0 : Int))) then ((m16_crc_Shift a0 0).bind fun v6 => if (decide ((v6.toNat : Int) = (a0.toNat : Int))) then ((m16_crc_Shift a0 (wI ((BitVec.ofInt 64 a2 &&& BitVec.ofInt 64 255).toNat : Int))).bind fun v7 => (m16_crc_Shift a1 (wI ((BitVec.ofInt 64 a2 &&& BitVec.ofInt 64 255).toNat : Int))).bind fun v8 => some ((decide ((v7.toNat : Int) = (v8.toNat : Int))) == (decide ((a0.toNat : Int) = (a1.toNat : Int))))) else (some false)) else (some false)) else (some false)) else (some false)

set_option maxRecDepth 100000 in
theorem m7_l02_CrcShifts_c {a0 : BitVec 32} {a1 : BitVec 32} {a2 : Int} {a3 : Int} {r : Bool} (h : m7_l02_CrcShifts a0 a1 a2 a3 = some r) : CallsA Try.prog 7 [.one (.i .u32 (a0.toNat : Int)), .one (.i .u32 (a1.toNat : Int)), .one (.i .i64 a2), .one (.i .i64 a3)] (· = .s (.one (.b r))) := by
  unfold m7_l02_CrcShifts at h
  refine callsA_of Try.func7 rfl (nt := 55) rfl (Nat.le_of_ble_eq_true rfl) ?_
  intro w0 S0
  refine cseq ?_
  refine cregion ?_
  refine sv rfl (opv_as rfl) ?_
  refine snil ?_
  refine cseq ?_
  refine cregion ?_
  obtain ⟨v1, hv1, h⟩ := bind_eq h
  refine scall1 rfl fn9 opnds_nil (pubA_id rfl) (m9_l02_awake_c hv1) ?_
  refine sv rfl (opv_as rfl) ?_
  refine snil ?_
  refine cseq ?_
  refine cregion ?_
  refine sv rfl (opv_mv rfl) ?_
  refine sv rfl (opv_and rfl rfl) ?_
  refine sv rfl (opv_as rfl) ?_
  refine snil ?_
  refine cseq ?_
  refine cregion ?_
  refine sv rfl (opv_mv rfl) ?_
  refine sv rfl (opv_and rfl rfl) ?_
  refine sv rfl (opv_as rfl) ?_
  refine snil ?_
  refine cseq ?_
  refine cregion ?_
  refine sv rfl (opv_mv rfl) ?_
  refine sv rfl (opv_mv rfl) ?_
  refine ssplit 18 rfl (fun hc => ?_) (fun hc => ?_)
  · replace h := ite_t hc h
    clear hc
    refine son rfl rfl rfl ?_
    refine sv rfl (opv_mv rfl) ?_
    refine son rfl rfl rfl ?_
    refine sv rfl (opv_mv rfl) ?_
    refine son rfl rfl rfl ?_
    obtain ⟨v2, hv2, h⟩ := bind_eq h
    refine scall1 rfl fn16 (opnds_cons rfl (opnds_cons rfl opnds_nil)) (pubA_id rfl) (m16_crc_Shift_c hv2) ?_
    refine son rfl rfl rfl ?_
    refine sv rfl (opv_mv rfl) ?_
    refine son rfl rfl rfl ?_
    obtain ⟨v3, hv3, h⟩ := bind_eq h
    refine scall1 rfl fn16 (opnds_cons rfl (opnds_cons rfl opnds_nil)) (pubA_id rfl) (m16_crc_Shift_c hv3) ?_
    refine son rfl rfl rfl ?_
    refine sv rfl (opv_mv rfl) ?_
    refine son rfl rfl rfl ?_
    refine sv rfl (opv_mv rfl) ?_
    refine son rfl rfl rfl ?_
    refine sv rfl (opv_mv rfl) ?_
    refine son rfl rfl rfl ?_
    refine sv rfl (opv_add rfl rfl) ?_
    refine son rfl rfl rfl ?_
    obtain ⟨v4, hv4, h⟩ := bind_eq h
    refine scall1 rfl fn16 (opnds_cons rfl (opnds_cons rfl opnds_nil)) (pubA_id rfl) (m16_crc_Shift_c hv4) ?_
    refine son rfl rfl rfl ?_
    refine sv rfl (opv_ieql rfl rfl) ?_
    refine sv rfl (opv_pick_t rfl rfl) ?_
    refine sv rfl (opv_mv rfl) ?_
    refine ssplit 31 rfl (fun hc => ?_) (fun hc => ?_)
    · replace h := ite_t hc h
      clear hc
      refine son rfl rfl rfl ?_
      refine sv rfl (opv_mv rfl) ?_
      refine son rfl rfl rfl ?_
      obtain ⟨v5, hv5, h⟩ := bind_eq h
      refine scall1 rfl fn16 (opnds_cons rfl (opnds_cons rfl opnds_nil)) (pubA_id rfl) (m16_crc_Shift_c hv5) ?_
      refine son rfl rfl rfl ?_
      refine sv rfl (opv_ieql rfl rfl) ?_
      refine sv rfl (opv_pick_t rfl rfl) ?_
      refine sv rfl (opv_mv rfl) ?_
      refine ssplit 36 rfl (fun hc => ?_) (fun hc => ?_)
      · replace h := ite_t hc h
        clear hc
        refine son rfl rfl rfl ?_
        refine sv rfl (opv_mv rfl) ?_
        refine son rfl rfl rfl ?_
        obtain ⟨v6, hv6, h⟩ := bind_eq h
        refine scall1 rfl fn16 (opnds_cons rfl (opnds_cons rfl opnds_nil)) (pubA_id rfl) (m16_crc_Shift_c hv6) ?_
        refine son rfl rfl rfl ?_
        refine sv rfl (opv_mv rfl) ?_
        refine son rfl rfl rfl ?_
        refine sv rfl (opv_ieql rfl rfl) ?_
        refine sv rfl (opv_pick_t rfl rfl) ?_
        refine sv rfl (opv_mv rfl) ?_
        refine ssplit 42 rfl (fun hc => ?_) (fun hc => ?_)
        · replace h := ite_t hc h
          clear hc
          refine son rfl rfl rfl ?_
          refine sv rfl (opv_mv rfl) ?_
          refine son rfl rfl rfl ?_
          refine sv rfl (opv_mv rfl) ?_
          refine son rfl rfl rfl ?_
          obtain ⟨v7, hv7, h⟩ := bind_eq h
          refine scall1 rfl fn16 (opnds_cons rfl (opnds_cons rfl opnds_nil)) (pubA_id rfl) (m16_crc_Shift_c hv7) ?_
          refine son rfl rfl rfl ?_
          refine sv rfl (opv_mv rfl) ?_
          refine son rfl rfl rfl ?_
          refine sv rfl (opv_mv rfl) ?_
          refine son rfl rfl rfl ?_
          obtain ⟨v8, hv8, h⟩ := bind_eq h
          refine scall1 rfl fn16 (opnds_cons rfl (opnds_cons rfl opnds_nil)) (pubA_id rfl) (m16_crc_Shift_c hv8) ?_
          refine son rfl rfl rfl ?_
          refine sv rfl (opv_ieql rfl rfl) ?_
          refine son rfl rfl rfl ?_
          refine sv rfl (opv_mv rfl) ?_
          refine son rfl rfl rfl ?_
          refine sv rfl (opv_mv rfl) ?_
          refine son rfl rfl rfl ?_
          refine sv rfl (opv_ieql rfl rfl) ?_
          refine son rfl rfl rfl ?_
          refine sv rfl (opv_beql Try.underlying4 rfl rfl) ?_
          refine sv rfl (opv_pick_t rfl rfl) ?_
          refine sv rfl (opv_as rfl) ?_
          refine snil ?_
          refine cret ?_
          obtain rfl := Option.some.inj h
          refine ⟨Or.inr rfl, _, _, _, (resVs_cons (ResV.tmp _ _ rfl) resVs_nil), (pubA_id rfl), ?_⟩
          rfl
        · replace h := ite_f hc h
          clear hc
          refine soff rfl rfl rfl rfl ?_
          refine soff rfl rfl rfl rfl ?_
          refine soff rfl rfl rfl rfl ?_
          refine soff rfl rfl rfl rfl ?_
          refine soff rfl rfl rfl rfl ?_
          refine soff rfl rfl rfl rfl ?_
          refine soff rfl rfl rfl rfl ?_
          refine soff rfl rfl rfl rfl ?_
          refine soff rfl rfl rfl rfl ?_
          refine soff rfl rfl rfl rfl ?_
          refine soff rfl rfl rfl rfl ?_
          refine sv rfl (opv_pick_f rfl rfl) ?_
          refine sv rfl (opv_as rfl) ?_
          refine snil ?_
          refine cret ?_
          obtain rfl := Option.some.inj h
          refine ⟨Or.inr rfl, _, _, _, (resVs_cons (ResV.tmp _ _ rfl) resVs_nil), (pubA_id rfl), ?_⟩
          rfl
      · replace h := ite_f hc h
        clear hc
        refine soff rfl rfl rfl rfl ?_
        refine soff rfl rfl rfl rfl ?_
        refine soff rfl rfl rfl rfl ?_
        refine soff rfl rfl rfl rfl ?_
        refine sv rfl (opv_pick_f rfl rfl) ?_
        refine sv rfl (opv_mv rfl) ?_
        refine soff rfl rfl rfl rfl ?_
        refine soff rfl rfl rfl rfl ?_
        refine soff rfl rfl rfl rfl ?_
        refine soff rfl rfl rfl rfl ?_
        refine soff rfl rfl rfl rfl ?_
        refine soff rfl rfl rfl rfl ?_
        refine soff rfl rfl rfl rfl ?_
        refine soff rfl rfl rfl rfl ?_
        refine soff rfl rfl rfl rfl ?_
        refine soff rfl rfl rfl rfl ?_
        refine soff rfl rfl rfl rfl ?_
        refine sv rfl (opv_pick_f rfl rfl) ?_
        refine sv rfl (opv_as rfl) ?_
        refine snil ?_
        refine cret ?_
        obtain rfl := Option.some.inj h
        refine ⟨Or.inr rfl, _, _, _, (resVs_cons (ResV.tmp _ _ rfl) resVs_nil), (pubA_id rfl), ?_⟩
        rfl
    · replace h := ite_f hc h
      clear hc
      refine soff rfl rfl rfl rfl ?_
      refine soff rfl rfl rfl rfl ?_
      refine soff rfl rfl rfl rfl ?_
      refine sv rfl (opv_pick_f rfl rfl) ?_
      refine sv rfl (opv_mv rfl) ?_
      refine soff rfl rfl rfl rfl ?_
      refine soff rfl rfl rfl rfl ?_
      refine soff rfl rfl rfl rfl ?_
      refine soff rfl rfl rfl rfl ?_
      refine sv rfl (opv_pick_f rfl rfl) ?_
      refine sv rfl (opv_mv rfl) ?_
      refine soff rfl rfl rfl rfl ?_
      refine soff rfl rfl rfl rfl ?_
      refine soff rfl rfl rfl rfl ?_
      refine soff rfl rfl rfl rfl ?_
      refine soff rfl rfl rfl rfl ?_
      refine soff rfl rfl rfl rfl ?_
      refine soff rfl rfl rfl rfl ?_
      refine soff rfl rfl rfl rfl ?_
      refine soff rfl rfl rfl rfl ?_
      refine soff rfl rfl rfl rfl ?_
      refine soff rfl rfl rfl rfl ?_
      refine sv rfl (opv_pick_f rfl rfl) ?_
      refine sv rfl (opv_as rfl) ?_
      refine snil ?_
      refine cret ?_
      obtain rfl := Option.some.inj h
      refine ⟨Or.inr rfl, _, _, _, (resVs_cons (ResV.tmp _ _ rfl) resVs_nil), (pubA_id rfl), ?_⟩
      rfl
  · replace h := ite_f hc h
    clear hc
    refine soff rfl rfl rfl rfl ?_
    refine soff rfl rfl rfl rfl ?_
    refine soff rfl rfl rfl rfl ?_
    refine soff rfl rfl rfl rfl ?_
    refine soff rfl rfl rfl rfl ?_
    refine soff rfl rfl rfl rfl ?_
    refine soff rfl rfl rfl rfl ?_
    refine soff rfl rfl rfl rfl ?_
    refine soff rfl rfl rfl rfl ?_
    refine soff rfl rfl rfl rfl ?_
    refine soff rfl rfl rfl rfl ?_
    refine sv rfl (opv_pick_f rfl rfl) ?_
    refine sv rfl (opv_mv rfl) ?_
    refine soff rfl rfl rfl rfl ?_
    refine soff rfl rfl rfl rfl ?_
    refine soff rfl rfl rfl rfl ?_
    refine sv rfl (opv_pick_f rfl rfl) ?_
    refine sv rfl (opv_mv rfl) ?_
    refine soff rfl rfl rfl rfl ?_
    refine soff rfl rfl rfl rfl ?_
    refine soff rfl rfl rfl rfl ?_
    refine soff rfl rfl rfl rfl ?_
    refine sv rfl (opv_pick_f rfl rfl) ?_
    refine sv rfl (opv_mv rfl) ?_
    refine soff rfl rfl rfl rfl ?_
    refine soff rfl rfl rfl rfl ?_
    refine soff rfl rfl rfl rfl ?_
    refine soff rfl rfl rfl rfl ?_
    refine soff rfl rfl rfl rfl ?_
    refine soff rfl rfl rfl rfl ?_
    refine soff rfl rfl rfl rfl ?_
    refine soff rfl rfl rfl rfl ?_
    refine soff rfl rfl rfl rfl ?_
    refine soff rfl rfl rfl rfl ?_
    refine soff rfl rfl rfl rfl ?_
    refine sv rfl (opv_pick_f rfl rfl) ?_
    refine sv rfl (opv_as rfl) ?_
    refine snil ?_
    refine cret ?_
    obtain rfl := Option.some.inj h
    refine ⟨Or.inr rfl, _, _, _, (resVs_cons (ResV.tmp _ _ rfl) resVs_nil), (pubA_id rfl), ?_⟩
    rfl

def m8_l02_CrcEach (a0 : BitVec 8) (a1 : BitVec 8) : Option Bool :=
  (m9_l02_awake).bind fun v1 => (m10_crc_Table).bind fun v2 => if (List.replicate 256 0#32).length = 256 then (if v2.length = 256 then (if v1 then (if 0 ≤ (a0.toNat : Int) ∧ (a0.toNat : Int) < ((256 : Nat) : Int) then ((idx v2 (a0.toNat : Int)).bind fun u6 => if 0 ≤ (a1.toNat : Int) ∧ (a1.toNat : Int) < ((256 : Nat) : Int) then ((idx v2 (a1.toNat : Int)).bind fun u8 => if 0 ≤ ((a0 ^^^ a1).toNat : Int) ∧ ((a0 ^^^ a1).toNat : Int) < ((256 : Nat) : Int) then ((idx v2 ((a0 ^^^ a1).toNat : Int)).bind fun u10 => if (decide (((u6 ^^^ u8).toNat : Int) = (u10.toNat : Int))) then (if 0 ≤ (a0.toNat : Int) ∧ (a0.toNat : Int) < ((256 : Nat) : Int) then ((idx v2 (a0.toNat : Int)).bind fun u12 => if 0 ≤ (a1.toNat : Int) ∧ (a1.toNat : Int) < ((256 : Nat) : Int) then ((idx v2 (a1.toNat : Int)).bind fun u14 => if ((decide ((u12.toNat : Int) = (u14.toNat : Int))) == (decide ((a0.toNat : Int) = (a1.toNat : Int)))) then (if 0 ≤ (a0.toNat : Int) ∧ (a0.toNat : Int) < ((256 : Nat) : Int) then ((idx v2 (a0.toNat : Int)).bind fun u16 => (m16_crc_Shift (a0.setWidth 32) 1).bind fun v17 => some (decide ((u16.toNat : Int) = (v17.toNat : Int)))) else none) else (some false)) else none) else none) else (some false)) else none) else none) else none) else (some false)) else none) else none

set_option maxRecDepth 100000 in
theorem m8_l02_CrcEach_c {a0 : BitVec 8} {a1 : BitVec 8} {r : Bool} (h : m8_l02_CrcEach a0 a1 = some r) : CallsA Try.prog 8 [.one (.i .u8 (a0.toNat : Int)), .one (.i .u8 (a1.toNat : Int))] (· = .s (.one (.b r))) := by
  unfold m8_l02_CrcEach at h
  refine callsA_of Try.func8 rfl (nt := 47) rfl (Nat.le_of_ble_eq_true rfl) ?_
  intro w0 S0
  refine cseq ?_
  refine cregion ?_
  refine sv rfl (opv_as rfl) ?_
  refine snil ?_
  refine cseq ?_
  refine cregion ?_
  obtain ⟨v1, hv1, h⟩ := bind_eq h
  refine scall1 rfl fn9 opnds_nil (pubA_id rfl) (m9_l02_awake_c hv1) ?_
  refine sv rfl (opv_as rfl) ?_
  refine snil ?_
  refine cseq ?_
  refine cregion ?_
  obtain ⟨v2, hv2, h⟩ := bind_eq h
  refine scall1 rfl fn10 opnds_nil (pubA_id rfl) (m10_crc_Table_c hv2) ?_
  refine salloc rfl zi25 ?_
  obtain ⟨hl3, h⟩ := chk_eq h
  obtain ⟨hl4, h⟩ := chk_eq h
  refine sstall (f := eU32) (n := 256) sz25 (fun _ => rfl) rfl rfl rfl rfl hl3 hl4 ?_
  refine smem [.box (v2.flatMap eU32)] rfl ?_
  refine snil ?_
  refine cseq ?_
  refine cdraw mixed (by kernel_rfl) ?_
  refine dv rfl (opv_mv rfl) ?_
  refine dv rfl (opv_mv rfl) ?_
  refine dsplit 10 rfl (fun hc => ?_) (fun hc => ?_)
  · replace h := ite_t hc h
    clear hc
    refine dvg rfl rfl rfl (opv_mv rfl) ?_
    obtain ⟨hj5, h⟩ := chk_eq h
    obtain ⟨u6, hu6, h⟩ := bind_eq h
    refine dvg rfl rfl rfl (opv_ixar ai25 rfl rfl hj5) ?_
    refine dvg rfl rfl rfl (opv_ldar (f := eU32) 0 ti23 (fun _ => rfl) rfl rfl rfl (idx_eq hu6).2 rfl) ?_
    refine dvg rfl rfl rfl (opv_mv rfl) ?_
    obtain ⟨hj7, h⟩ := chk_eq h
    obtain ⟨u8, hu8, h⟩ := bind_eq h
    refine dvg rfl rfl rfl (opv_ixar ai25 rfl rfl hj7) ?_
    refine dvg rfl rfl rfl (opv_ldar (f := eU32) 0 ti23 (fun _ => rfl) rfl rfl rfl (idx_eq hu8).2 rfl) ?_
    refine dvg rfl rfl rfl (opv_xor_u32 (a := u6) (b := u8) rfl rfl rfl rfl) ?_
    refine dvg rfl rfl rfl (opv_mv rfl) ?_
    refine dvg rfl rfl rfl (opv_mv rfl) ?_
    refine dvg rfl rfl rfl (opv_xor_u8 (a := a0) (b := a1) rfl rfl rfl rfl) ?_
    obtain ⟨hj9, h⟩ := chk_eq h
    obtain ⟨u10, hu10, h⟩ := bind_eq h
    refine dvg rfl rfl rfl (opv_ixar ai25 rfl rfl hj9) ?_
    refine dvg rfl rfl rfl (opv_ldar (f := eU32) 0 ti23 (fun _ => rfl) rfl rfl rfl (idx_eq hu10).2 rfl) ?_
    refine dvg rfl rfl rfl (opv_ieql rfl rfl) ?_
    refine dv rfl (opv_pick_t rfl rfl) ?_
    refine dv rfl (opv_mv rfl) ?_
    refine dsplit 25 rfl (fun hc => ?_) (fun hc => ?_)
    · replace h := ite_t hc h
      clear hc
      refine dvg rfl rfl rfl (opv_mv rfl) ?_
      obtain ⟨hj11, h⟩ := chk_eq h
      obtain ⟨u12, hu12, h⟩ := bind_eq h
      refine dvg rfl rfl rfl (opv_ixar ai25 rfl rfl hj11) ?_
      refine dvg rfl rfl rfl (opv_ldar (f := eU32) 0 ti23 (fun _ => rfl) rfl rfl rfl (idx_eq hu12).2 rfl) ?_
      refine dvg rfl rfl rfl (opv_mv rfl) ?_
      obtain ⟨hj13, h⟩ := chk_eq h
      obtain ⟨u14, hu14, h⟩ := bind_eq h
      refine dvg rfl rfl rfl (opv_ixar ai25 rfl rfl hj13) ?_
      refine dvg rfl rfl rfl (opv_ldar (f := eU32) 0 ti23 (fun _ => rfl) rfl rfl rfl (idx_eq hu14).2 rfl) ?_
      refine dvg rfl rfl rfl (opv_ieql rfl rfl) ?_
      refine dvg rfl rfl rfl (opv_mv rfl) ?_
      refine dvg rfl rfl rfl (opv_mv rfl) ?_
      refine dvg rfl rfl rfl (opv_ieql rfl rfl) ?_
      refine dvg rfl rfl rfl (opv_beql Try.underlying4 rfl rfl) ?_
      refine dv rfl (opv_pick_t rfl rfl) ?_
      refine dv rfl (opv_mv rfl) ?_
      refine dsplit 38 rfl (fun hc => ?_) (fun hc => ?_)
      · replace h := ite_t hc h
        clear hc
        refine dvg rfl rfl rfl (opv_mv rfl) ?_
        obtain ⟨hj15, h⟩ := chk_eq h
        obtain ⟨u16, hu16, h⟩ := bind_eq h
        refine dvg rfl rfl rfl (opv_ixar ai25 rfl rfl hj15) ?_
        refine dvg rfl rfl rfl (opv_ldar (f := eU32) 0 ti23 (fun _ => rfl) rfl rfl rfl (idx_eq hu16).2 rfl) ?_
        refine dvg rfl rfl rfl (opv_mv rfl) ?_
        refine dvg rfl rfl rfl (opv_conv_bv (k := .u8) (a := a0) rfl Try.underlying5 Try.underlying23 rfl rfl) ?_
        obtain ⟨v17, hv17, h⟩ := bind_eq h
        refine ddg rfl rfl rfl (opD_call fn16 (opnds_cons rfl (opnds_cons rfl opnds_nil)) rfl (m16_crc_Shift_c hv17)) ?_
        refine dvg rfl rfl rfl (opv_ieql rfl rfl) ?_
        refine dv rfl (opv_pick_t rfl rfl) ?_
        refine dv rfl (opv_as rfl) ?_
        refine dnil ?_
        refine then_normal ?_
        refine cret ?_
        obtain rfl := Option.some.inj h
        refine ⟨Or.inr rfl, _, _, _, (resVs_cons (ResV.tmp _ _ rfl) resVs_nil), (pubA_id rfl), ?_⟩
        rfl
      · replace h := ite_f hc h
        clear hc
        refine doff rfl rfl rfl rfl ?_
        refine doff rfl rfl rfl rfl ?_
        refine doff rfl rfl rfl rfl ?_
        refine doff rfl rfl rfl rfl ?_
        refine doff rfl rfl rfl rfl ?_
        refine doff rfl rfl rfl rfl ?_
        refine doff rfl rfl rfl rfl ?_
        refine dv rfl (opv_pick_f rfl rfl) ?_
        refine dv rfl (opv_as rfl) ?_
        refine dnil ?_
        refine then_normal ?_
        refine cret ?_
        obtain rfl := Option.some.inj h
        refine ⟨Or.inr rfl, _, _, _, (resVs_cons (ResV.tmp _ _ rfl) resVs_nil), (pubA_id rfl), ?_⟩
        rfl
    · replace h := ite_f hc h
      clear hc
      refine doff rfl rfl rfl rfl ?_
      refine doff rfl rfl rfl rfl ?_
      refine doff rfl rfl rfl rfl ?_
      refine doff rfl rfl rfl rfl ?_
      refine doff rfl rfl rfl rfl ?_
      refine doff rfl rfl rfl rfl ?_
      refine doff rfl rfl rfl rfl ?_
      refine doff rfl rfl rfl rfl ?_
      refine doff rfl rfl rfl rfl ?_
      refine doff rfl rfl rfl rfl ?_
      refine doff rfl rfl rfl rfl ?_
      refine dv rfl (opv_pick_f rfl rfl) ?_
      refine dv rfl (opv_mv rfl) ?_
      refine doff rfl rfl rfl rfl ?_
      refine doff rfl rfl rfl rfl ?_
      refine doff rfl rfl rfl rfl ?_
      refine doff rfl rfl rfl rfl ?_
      refine doff rfl rfl rfl rfl ?_
      refine doff rfl rfl rfl rfl ?_
      refine doff rfl rfl rfl rfl ?_
      refine dv rfl (opv_pick_f rfl rfl) ?_
      refine dv rfl (opv_as rfl) ?_
      refine dnil ?_
      refine then_normal ?_
      refine cret ?_
      obtain rfl := Option.some.inj h
      refine ⟨Or.inr rfl, _, _, _, (resVs_cons (ResV.tmp _ _ rfl) resVs_nil), (pubA_id rfl), ?_⟩
      rfl
  · replace h := ite_f hc h
    clear hc
    refine doff rfl rfl rfl rfl ?_
    refine doff rfl rfl rfl rfl ?_
    refine doff rfl rfl rfl rfl ?_
    refine doff rfl rfl rfl rfl ?_
    refine doff rfl rfl rfl rfl ?_
    refine doff rfl rfl rfl rfl ?_
    refine doff rfl rfl rfl rfl ?_
    refine doff rfl rfl rfl rfl ?_
    refine doff rfl rfl rfl rfl ?_
    refine doff rfl rfl rfl rfl ?_
    refine doff rfl rfl rfl rfl ?_
    refine doff rfl rfl rfl rfl ?_
    refine doff rfl rfl rfl rfl ?_
    refine dv rfl (opv_pick_f rfl rfl) ?_
    refine dv rfl (opv_mv rfl) ?_
    refine doff rfl rfl rfl rfl ?_
    refine doff rfl rfl rfl rfl ?_
    refine doff rfl rfl rfl rfl ?_
    refine doff rfl rfl rfl rfl ?_
    refine doff rfl rfl rfl rfl ?_
    refine doff rfl rfl rfl rfl ?_
    refine doff rfl rfl rfl rfl ?_
    refine doff rfl rfl rfl rfl ?_
    refine doff rfl rfl rfl rfl ?_
    refine doff rfl rfl rfl rfl ?_
    refine doff rfl rfl rfl rfl ?_
    refine dv rfl (opv_pick_f rfl rfl) ?_
    refine dv rfl (opv_mv rfl) ?_
    refine doff rfl rfl rfl rfl ?_
    refine doff rfl rfl rfl rfl ?_
    refine doff rfl rfl rfl rfl ?_
    refine doff rfl rfl rfl rfl ?_
    refine doff rfl rfl rfl rfl ?_
    refine doff rfl rfl rfl rfl ?_
    refine doff rfl rfl rfl rfl ?_
    refine dv rfl (opv_pick_f rfl rfl) ?_
    refine dv rfl (opv_as rfl) ?_
    refine dnil ?_
    refine then_normal ?_
    refine cret ?_
    obtain rfl := Option.some.inj h
    refine ⟨Or.inr rfl, _, _, _, (resVs_cons (ResV.tmp _ _ rfl) resVs_nil), (pubA_id rfl), ?_⟩
    rfl

end Go.Proofs.Ytdnhpfendflolaa.Abs
