/-
  t
-/
import Derived.Test.YtbmciegldpeaiaaT11a
namespace Go.Proofs.Ytbmciegldpeaiaa.Abs
open Go.RowKit Go.Proofs
def m47_ssi_conflict_s6 (a2 : List (List UInt8)) (u3 : GSsiTx) (s6 : Int) : Option (LR (Int) (Unit) (Bool)) :=
  if (decide (s6 < (a2.length : Int))) then ((idx a2 s6).bind fun u7 => (m66_keys_Find u3.Keys u7).bind fun v8 => if v8.2 then (some (.ret true)) else (some (.cont (wI (s6 + 1))))) else (some (.brk ()))

def m47_ssi_conflict_k4 (a2 : List (List UInt8)) (s2 : Int) (u3 : GSsiTx) (b4 : Unit) : Option (LR (Int) (Unit) (Bool)) :=
  (iter (m47_ssi_conflict_s6 a2 u3) fuel 0).bind fun x => match x with | .inl r => some (.ret r) | .inr e9 => m47_ssi_conflict_k5 s2 e9

def m47_ssi_conflict_s2 (a0 : GSsiCert) (a1 : GSsiTx) (a2 : List (List UInt8)) (s2 : Int) : Option (LR (Int) (Unit) (Bool)) :=
  if (decide (s2 < (a0.Txs.length : Int))) then ((idx a0.Txs s2).bind fun u3 => if (!decide (u3.State = 2)) then (some (.cont (wI (s2 + 1)))) else ((m41_ssi_beside (GSsiTx.mk a1.ID a1.Begin a1.End a1.State a1.In a1.Out a1.RO a1.Keys) u3).bind fun v10 => if (!v10) then (some (.cont (wI (s2 + 1)))) else (m47_ssi_conflict_k4 a2 s2 u3 ()))) else (some (.brk ()))
def m47_ssi_conflict (a0 : GSsiCert) (a1 : GSsiTx) (a2 : List (List UInt8)) : Option Bool :=
  (iter (m47_ssi_conflict_s2 a0 a1 a2) fuel 0).bind fun x => match x with | .inl r => some r | .inr e11 => m47_ssi_conflict_k1 e11

set_option maxRecDepth 100000 in
theorem m47_ssi_conflict_c {a0 : GSsiCert} {a1 : GSsiTx} {a2 : List (List UInt8)} {r : Bool} (h : m47_ssi_conflict a0 a1 a2 = some r) : CallsA Try.prog 47 [.agg a0, .agg a1, .one (.sl a2.length (a2.flatMap (eL eU8)))] (· = .s (.one (.b r))) := by
  unfold m47_ssi_conflict at h
  refine callsA_of Try.func47 rfl (nt := 45) rfl (Nat.le_of_ble_eq_true rfl) ?_
  intro w0 S0
  refine cseq ?_
  refine cregion ?_
  refine sbox rfl rfl ?_
  refine sbox rfl rfl ?_
  refine sv rfl (opv_as rfl) ?_
  refine snil ?_
  refine cseq ?_
  refine cseq ?_
  refine cregion ?_
  refine sv rfl (opv_fieldAddr_lp fi31_0 rfl) ?_
  refine sv rfl (opv_load1 ti26 rfl (.lp _ _ _ rfl) rfl) ?_
  refine sv rfl (opv_len_sl si26 rfl) ?_
  refine sv rfl (opv_mv rfl) ?_
  refine snil ?_
  refine cjoin (Unit) (fun b1 => []) (fun b1 => [.box a0, .box a1]) (fun b1 => m47_ssi_conflict_k1 b1 = some r) (fun _ _ => inbL_of rfl) (fun _ _ => blkinb_of rfl) (fun _ _ => Nat.le_of_ble_eq_true rfl) (fun b1 h => ?_) ?_
  · unfold m47_ssi_conflict_k1 at h
    refine cseq ?_
    refine cregion ?_
    refine sv rfl (opv_as rfl) ?_
    refine snil ?_
    refine cret ?_
    obtain rfl := Option.some.inj h
    refine ⟨Or.inr rfl, _, _, _, (resVs_cons (ResV.tmp _ _ rfl) resVs_nil), (pubA_id rfl), ?_⟩
    rfl
  · skip
    refine cblock ?_
    obtain ⟨x2, hx2, ho2⟩ := bind_eq h
    refine awc_loop (G := Nat × (Int)) (fun g => [(2, .s (.one (.sl a2.length (a2.flatMap (eL eU8))))), (4, .s (.one (.lp 1 0))), (14, .s (.one (.sl a0.Txs.length (a0.Txs.flatMap eGSsiTx)))), (15, .s (.one (.i .i64 (a0.Txs.length : Int)))), (16, .s (.one (.i .i64 g.2)))]) (fun g => [.box a0, .box a1]) (fun g => iter (m47_ssi_conflict_s2 a0 a1 a2) g.1 g.2 = some x2) (fun g => g.1) (fuel, 0) hx2 ⟨rfl, rfl, rfl, rfl, rfl, trivial⟩ [] rfl (fun _ _ => inbL_of rfl) (fun _ _ => blkinb_of rfl) (fun _ _ => Nat.le_of_ble_eq_true rfl) ?_
    clear hx2 h
    rintro ⟨n2, s2⟩ h
    obtain ⟨n2, y2, rfl, h, hk2⟩ := iter_eq h
    unfold m47_ssi_conflict_s2 at h
    refine cseq ?_
    refine cregion ?_
    refine sv rfl (opv_lss rfl rfl) ?_
    refine snil ?_
    refine cseq ?_
    refine ccond rfl (fun hc => ?_) (fun hc => ?_)
    · replace h := ite_t hc h
      clear hc
      refine cskip ?_
      refine then_normal ?_
      refine cseq ?_
      refine cblock ?_
      refine cseq ?_
      refine cregion ?_
      obtain ⟨u3, hu3, h⟩ := bind_eq h
      refine sv rfl (opv_ix (f := eGSsiTx) si26 (fun _ => rfl) rfl rfl rfl rfl hu3) ?_
      refine sv rfl (opv_loadNe (ys := [.i .i64 u3.ID, .i .i64 u3.Begin, .i .i64 u3.End, .i .i64 u3.State, .b u3.In, .b u3.Out, .b u3.RO, .sl u3.Keys.length (u3.Keys.flatMap (eL eU8))]) ti48 rfl (.cp _) rfl rfl) ?_
      refine salloc rfl zi48 ?_
      refine sstore sz48 rfl rfl rfl rfl (Nat.le_of_ble_eq_true rfl) ?_
      refine smem [.box a0, .box a1, .box u3] rfl ?_
      refine snil ?_
      refine cseq ?_
      refine cseq ?_
      refine cjoin3 (Unit) (fun b4 => [(2, .s (.one (.sl a2.length (a2.flatMap (eL eU8))))), (4, .s (.one (.lp 1 0))), (8, .s (.one (.lp 2 0))), (14, .s (.one (.sl a0.Txs.length (a0.Txs.flatMap eGSsiTx)))), (15, .s (.one (.i .i64 (a0.Txs.length : Int)))), (16, .s (.one (.i .i64 s2)))]) (fun b4 => [.box a0, .box a1, .box u3]) (fun b4 => m47_ssi_conflict_k4 a2 s2 u3 b4 = some y2) (fun _ _ => inbL_of rfl) (fun _ _ => blkinb_of rfl) (fun _ _ => Nat.le_of_ble_eq_true rfl) (fun b4 h => ?_) ?_
      · unfold m47_ssi_conflict_k4 at h
        refine cseq ?_
        refine cregion ?_
        refine sv rfl (opv_mv rfl) ?_
        refine sv rfl (opv_len_sl si41 rfl) ?_
        refine sv rfl (opv_mv rfl) ?_
        refine snil ?_
        refine cjoinb (Unit) (fun b5 => [(2, .s (.one (.sl a2.length (a2.flatMap (eL eU8))))), (4, .s (.one (.lp 1 0))), (14, .s (.one (.sl a0.Txs.length (a0.Txs.flatMap eGSsiTx)))), (15, .s (.one (.i .i64 (a0.Txs.length : Int)))), (16, .s (.one (.i .i64 s2)))]) (fun b5 => [.box a0, .box a1, .box u3]) (fun b5 => m47_ssi_conflict_k5 s2 b5 = some y2) (fun _ _ => inbL_of rfl) (fun _ _ => blkinb_of rfl) (fun _ _ => Nat.le_of_ble_eq_true rfl) (fun b5 h => ?_) ?_
        · unfold m47_ssi_conflict_k5 at h
          refine cregion ?_
          refine sv rfl (opv_add rfl rfl) ?_
          refine sv rfl (opv_mv rfl) ?_
          refine snil ?_
          obtain rfl := Option.some.inj h
          exact ⟨(n2, (wI (s2 + 1))), _, hk2, ⟨rfl, rfl, rfl, rfl, rfl, trivial⟩, rfl, Nat.lt_succ_self _⟩
        · skip
          refine cblock ?_
          obtain ⟨x6, hx6, ho6⟩ := bind_eq h
          refine awc_loop (G := Nat × (Int)) (fun g => [(2, .s (.one (.sl a2.length (a2.flatMap (eL eU8))))), (4, .s (.one (.lp 1 0))), (8, .s (.one (.lp 2 0))), (14, .s (.one (.sl a0.Txs.length (a0.Txs.flatMap eGSsiTx)))), (15, .s (.one (.i .i64 (a0.Txs.length : Int)))), (16, .s (.one (.i .i64 s2))), (29, .s (.one (.sl a2.length (a2.flatMap (eL eU8))))), (30, .s (.one (.i .i64 (a2.length : Int)))), (31, .s (.one (.i .i64 g.2)))]) (fun g => [.box a0, .box a1, .box u3]) (fun g => iter (m47_ssi_conflict_s6 a2 u3) g.1 g.2 = some x6) (fun g => g.1) (fuel, 0) hx6 ⟨rfl, rfl, rfl, rfl, rfl, rfl, rfl, rfl, rfl, trivial⟩ [] rfl (fun _ _ => inbL_of rfl) (fun _ _ => blkinb_of rfl) (fun _ _ => Nat.le_of_ble_eq_true rfl) ?_
          clear hx6 h
          rintro ⟨n6, s6⟩ h
          obtain ⟨n6, y6, rfl, h, hk6⟩ := iter_eq h
          unfold m47_ssi_conflict_s6 at h
          refine cseq ?_
          refine cregion ?_
          refine sv rfl (opv_lss rfl rfl) ?_
          refine snil ?_
          refine cseq ?_
          refine ccond rfl (fun hc => ?_) (fun hc => ?_)
          · replace h := ite_t hc h
            clear hc
            refine cskip ?_
            refine then_normal ?_
            refine cseq ?_
            refine cblock ?_
            refine cseq ?_
            refine cregion ?_
            obtain ⟨u7, hu7, h⟩ := bind_eq h
            refine sv rfl (opv_ix (f := (eL eU8)) si41 (fun _ => rfl) rfl rfl rfl rfl hu7) ?_
            refine sv rfl (opv_load1 ti38 rfl (.cp _) rfl) ?_
            refine sv rfl (opv_as rfl) ?_
            refine snil ?_
            refine cseq ?_
            refine cregion ?_
            refine sv rfl (opv_fieldAddr_lp fi48_7 rfl) ?_
            refine sv rfl (opv_load1 ti41 rfl (.lp _ _ _ rfl) rfl) ?_
            refine sv rfl (opv_mv rfl) ?_
            obtain ⟨v8, hv8, h⟩ := bind_eq h
            refine scall1 rfl fn66 (opnds_cons rfl (opnds_cons rfl opnds_nil)) (pubA_id rfl) (m66_keys_Find_c hv8) ?_
            refine sv rfl (opv_mvt rfl) ?_
            refine sv rfl (opv_extract rfl rfl) ?_
            refine sv rfl (opv_extract rfl rfl) ?_
            refine sv rfl (opv_as rfl) ?_
            refine sv rfl (opv_as rfl) ?_
            refine snil ?_
            refine cseq ?_
            refine cregion ?_
            refine sv rfl (opv_mv rfl) ?_
            refine snil ?_
            refine ccond rfl (fun hc => ?_) (fun hc => ?_)
            · replace h := ite_t hc h
              clear hc
              refine cseq ?_
              refine cregion ?_
              refine sv rfl (opv_as rfl) ?_
              refine snil ?_
              refine cret ?_
              refine block_ret ?_
              refine then_ret ?_
              refine then_ret ?_
              refine block_ret ?_
              refine block_ret ?_
              refine then_ret ?_
              refine then_ret ?_
              refine block_ret ?_
              refine then_ret ?_
              obtain rfl := Option.some.inj h
              obtain rfl : Sum.inl _ = x6 := hk6
              replace ho6 : some _ = some _ := ho6
              obtain rfl := Option.some.inj ho6
              obtain rfl : Sum.inl _ = x2 := hk2
              replace ho2 : some _ = some _ := ho2
              obtain rfl := Option.some.inj ho2
              refine ⟨Or.inr rfl, _, _, _, (resVs_cons (ResV.tmp _ _ rfl) resVs_nil), (pubA_id rfl), ?_⟩
              rfl
            · replace h := ite_f hc h
              clear hc
              refine cskip ?_
              refine block_normal ?_
              refine then_normal ?_
              refine cregion ?_
              refine sv rfl (opv_add rfl rfl) ?_
              refine sv rfl (opv_mv rfl) ?_
              refine snil ?_
              obtain rfl := Option.some.inj h
              exact ⟨(n6, (wI (s6 + 1))), _, hk6, ⟨rfl, rfl, rfl, rfl, rfl, rfl, rfl, rfl, rfl, trivial⟩, rfl, Nat.lt_succ_self _⟩
          · replace h := ite_f hc h
            clear hc
            refine cexit ?_
            refine then_exit ?_
            refine then_exit ?_
            refine block_hit ?_
            refine block_normal ?_
            refine then_normal ?_
            obtain rfl := Option.some.inj h
            obtain rfl : _ = x6 := hk6
            exact ⟨(), _, ho6, ⟨rfl, rfl, rfl, rfl, rfl, trivial⟩, rfl⟩
      · skip
        refine cregion ?_
        refine sv rfl (opv_fieldAddr_lp fi48_3 rfl) ?_
        refine sv rfl (opv_load1 ti3 rfl (.lp _ _ _ rfl) rfl) ?_
        refine sv rfl (opv_ineq rfl rfl) ?_
        refine sv rfl (opv_mv rfl) ?_
        refine ssplit 23 rfl (fun hc => ?_) (fun hc => ?_)
        · replace h := ite_t hc h
          clear hc
          refine soff rfl rfl rfl rfl ?_
          refine soff rfl rfl rfl rfl ?_
          refine soff rfl rfl rfl rfl ?_
          refine soff rfl rfl rfl rfl ?_
          refine sv rfl (opv_pick_t rfl rfl) ?_
          refine snil ?_
          refine ccond rfl (fun _ => ?_) (fun hx => Bool.noConfusion hx)
          refine cexit ?_
          refine then_exit ?_
          refine block_hit ?_
          refine then_normal ?_
          refine cregion ?_
          refine sv rfl (opv_add rfl rfl) ?_
          refine sv rfl (opv_mv rfl) ?_
          refine snil ?_
          obtain rfl := Option.some.inj h
          exact ⟨(n2, (wI (s2 + 1))), _, hk2, ⟨rfl, rfl, rfl, rfl, rfl, trivial⟩, rfl, Nat.lt_succ_self _⟩
        · replace h := ite_f hc h
          clear hc
          refine son rfl rfl rfl ?_
          refine sv rfl (opv_loadN ti48 rfl (.lp _ _ _ rfl) (Nat.le_of_ble_eq_true rfl)) ?_
          refine son rfl rfl rfl ?_
          refine sv rfl (opv_loadN ti48 rfl (.lp _ _ _ rfl) (Nat.le_of_ble_eq_true rfl)) ?_
          refine son rfl rfl rfl ?_
          obtain ⟨v10, hv10, h⟩ := bind_eq h
          refine scall1 rfl fn41 (opnds_cons rfl (opnds_cons rfl opnds_nil)) (pubA_id rfl) (m41_ssi_beside_c hv10) ?_
          refine son rfl rfl rfl ?_
          refine sv rfl (opv_not rfl) ?_
          refine sv rfl (opv_pick_f rfl rfl) ?_
          refine snil ?_
          refine ccond rfl (fun hc => ?_) (fun hc => ?_)
          · replace h := ite_t hc h
            clear hc
            refine cexit ?_
            refine then_exit ?_
            refine block_hit ?_
            refine then_normal ?_
            refine cregion ?_
            refine sv rfl (opv_add rfl rfl) ?_
            refine sv rfl (opv_mv rfl) ?_
            refine snil ?_
            obtain rfl := Option.some.inj h
            exact ⟨(n2, (wI (s2 + 1))), _, hk2, ⟨rfl, rfl, rfl, rfl, rfl, trivial⟩, rfl, Nat.lt_succ_self _⟩
          · replace h := ite_f hc h
            clear hc
            refine cskip ?_
            refine then_normal ?_
            exact ⟨(), _, h, ⟨rfl, rfl, rfl, rfl, rfl, rfl, trivial⟩, rfl⟩
    · replace h := ite_f hc h
      clear hc
      refine cexit ?_
      refine then_exit ?_
      refine then_exit ?_
      refine block_hit ?_
      refine then_normal ?_
      obtain rfl := Option.some.inj h
      obtain rfl : _ = x2 := hk2
      exact ⟨(), _, ho2, trivial, rfl⟩

def srt78_ren : Go.Shelf.Ren := ⟨fun | 5 => 78 | 8 => 82 | 7 => 81 | 19 => 93 | 20 => 94 | 10 => 84 | 11 => 85 | 12 => 86 | 13 => 87 | 14 => 88 | 15 => 89 | 16 => 90 | 17 => 91 | 18 => 92 | 30 => 95 | 31 => 96 | 32 => 97 | 33 => 98 | 34 => 99 | 35 => 100 | 40 => 101 | n => n, fun | 23 => 32 | 25 => 3 | 3 => 3 | 32 => 128 | 22 => 32 | 0 => 0 | 44 => 138 | 46 => 140 | 4 => 4 | 36 => 131 | 35 => 130 | 41 => 110 | 5 => 5 | 9 => 9 | 53 => 141 | 57 => 145 | 63 => 148 | 64 => 149 | n => n, fun | n => n⟩
theorem srt78 : Go.Proofs.SlLaysM.n5 Try.prog srt78_ren := {
  mixed := by kernel_rfl,
  f5 :=⟨ "slices.Sort[[]int,int]", by decide, Try.func78.trans (congrArg some (by kernel_rfl))⟩,
  f7 :=⟨ "slices.pdqsortOrdered[int]", by decide, Try.func81.trans (congrArg some (by kernel_rfl))⟩,
  f8 := Try.func82.trans (congrArg some (by kernel_rfl)),
  f10 :=⟨ "slices.insertionSortOrdered[int]", by decide, Try.func84.trans (congrArg some (by kernel_rfl))⟩,
  f11 :=⟨ "slices.heapSortOrdered[int]", by decide, Try.func85.trans (congrArg some (by kernel_rfl))⟩,
  f12 :=⟨ "slices.breakPatternsOrdered[int]", by decide, Try.func86.trans (congrArg some (by kernel_rfl))⟩,
  f13 :=⟨ "slices.choosePivotOrdered[int]", by decide, Try.func87.trans (congrArg some (by kernel_rfl))⟩,
  f14 :=⟨ "slices.reverseRangeOrdered[int]", by decide, Try.func88.trans (congrArg some (by kernel_rfl))⟩,
  f15 :=⟨ "slices.partialInsertionSortOrdered[int]", by decide, Try.func89.trans (congrArg some (by kernel_rfl))⟩,
  f16 :=⟨ "cmp.Less[int]", by decide, Try.func90.trans (congrArg some (by kernel_rfl))⟩,
  f17 :=⟨ "slices.partitionEqualOrdered[int]", by decide, Try.func91.trans (congrArg some (by kernel_rfl))⟩,
  f18 :=⟨ "slices.partitionOrdered[int]", by decide, Try.func92.trans (congrArg some (by kernel_rfl))⟩,
  f19 := Try.func93.trans (congrArg some (by kernel_rfl)),
  f20 := Try.func94.trans (congrArg some (by kernel_rfl)),
  f30 :=⟨ "slices.siftDownOrdered[int]", by decide, Try.func95.trans (congrArg some (by kernel_rfl))⟩,
  f31 := Try.func96.trans (congrArg some (by kernel_rfl)),
  f32 := Try.func97.trans (congrArg some (by kernel_rfl)),
  f33 :=⟨ "slices.medianAdjacentOrdered[int]", by decide, Try.func98.trans (congrArg some (by kernel_rfl))⟩,
  f34 :=⟨ "slices.medianOrdered[int]", by decide, Try.func99.trans (congrArg some (by kernel_rfl))⟩,
  f35 :=⟨ "cmp.isNaN[int]", by decide, Try.func100.trans (congrArg some (by kernel_rfl))⟩,
  f40 :=⟨ "slices.order2Ordered[int]", by decide, Try.func101.trans (congrArg some (by kernel_rfl))⟩,
  t0 := Try.underlying0,
  a0 := Try.isAgg0,
  z0 := Try.sizeOf0,
  v0 := Try.zeroValue0,
  t3 := Try.underlying3,
  a3 := Try.isAgg3,
  z3 := Try.sizeOf3,
  v3 := Try.zeroValue3,
  t4 := Try.underlying4,
  a4 := Try.isAgg4,
  z4 := Try.sizeOf4,
  v4 := Try.zeroValue4,
  t5 := Try.underlying5,
  a5 := Try.isAgg5,
  z5 := Try.sizeOf5,
  v5 := Try.zeroValue5,
  t9 := Try.underlying9,
  a9 := Try.isAgg9,
  z9 := Try.sizeOf9,
  v9 := Try.zeroValue9,
  t22 := Try.underlying32,
  a22 := Try.isAgg32,
  z22 := Try.sizeOf32,
  v22 := Try.zeroValue32,
  t23 := Try.underlying32,
  a23 := Try.isAgg32,
  z23 := Try.sizeOf32,
  v23 := Try.zeroValue32,
  t25 := Try.underlying3,
  a25 := Try.isAgg3,
  z25 := Try.sizeOf3,
  v25 := Try.zeroValue3,
  t32 := Try.underlying128,
  a32 := Try.isAgg128,
  z32 := Try.sizeOf128,
  v32 := Try.zeroValue128,
  t35 := Try.underlying130,
  a35 := Try.isAgg130,
  z35 := Try.sizeOf130,
  v35 := Try.zeroValue130,
  t36 := Try.underlying131,
  a36 := Try.isAgg131,
  z36 := Try.sizeOf131,
  v36 := Try.zeroValue131,
  t41 := Try.underlying110,
  a41 := Try.isAgg110,
  z41 := Try.sizeOf110,
  v41 := Try.zeroValue110,
  t44 := Try.underlying138,
  a44 := Try.isAgg138,
  z44 := Try.sizeOf138,
  v44 := Try.zeroValue138,
  t46 := Try.underlying140,
  a46 := Try.isAgg140,
  z46 := Try.sizeOf140,
  v46 := Try.zeroValue140,
  t53 := Try.underlying141,
  a53 := Try.isAgg141,
  z53 := Try.sizeOf141,
  v53 := Try.zeroValue141,
  t57 := Try.underlying145,
  a57 := Try.isAgg145,
  z57 := Try.sizeOf145,
  v57 := Try.zeroValue145,
  t63 := Try.underlying148,
  a63 := Try.isAgg148,
  z63 := Try.sizeOf148,
  v63 := Try.zeroValue148,
  t64 := Try.underlying149,
  a64 := Try.isAgg149,
  z64 := Try.sizeOf149,
  v64 := Try.zeroValue149 }
def m78_slices_Sort (a0 : List Int) : Option (List Int) := if a0.length ≤ 1000000000000000000 then some (a0.mergeSort fun x y => decide (x ≤ y)) else none
theorem m78_slices_Sort_c {a0 r : List Int} (h : m78_slices_Sort a0 = some r) : CallsB Try.prog 78 [.arr 3 1 0 (a0.flatMap eI)] [.one (.ls 0 a0.length)] (fun y m' => y = .tup [] ∧ m' = [.arr 3 1 0 (r.flatMap eI)]) := by
  unfold m78_slices_Sort at h
  obtain ⟨hn, h⟩ := chk_eq h
  obtain rfl := Option.some.inj h
  exact sortN_B srt78 hn

def cpt79_ren : Go.Shelf.Ren := ⟨fun | 43 => 79 | n => n, fun | 22 => 32 | 23 => 3 | 3 => 3 | 4 => 4 | 0 => 0 | n => n, fun | n => n⟩
theorem cpt79 : Go.Proofs.SlLaysE.n43 Try.prog cpt79_ren := {
  mixed := by kernel_rfl,
  f43 :=⟨ "slices.Compact[[]int,int]", by decide, Try.func79.trans (congrArg some (by kernel_rfl))⟩,
  t0 := Try.underlying0,
  a0 := Try.isAgg0,
  z0 := Try.sizeOf0,
  v0 := Try.zeroValue0,
  t3 := Try.underlying3,
  a3 := Try.isAgg3,
  z3 := Try.sizeOf3,
  v3 := Try.zeroValue3,
  t4 := Try.underlying4,
  a4 := Try.isAgg4,
  z4 := Try.sizeOf4,
  v4 := Try.zeroValue4,
  t22 := Try.underlying32,
  a22 := Try.isAgg32,
  z22 := Try.sizeOf32,
  v22 := Try.zeroValue32,
  a23 := Try.isAgg3,
  z23 := Try.sizeOf3 }
theorem cpt79_nil : CallsA Try.prog 79 [.one (.raw (.slice none 0 0))] (· = .s (.one (.raw (.slice none 0 0)))) := by
  refine callsA_of Try.func79 rfl (nt := 61) rfl (Nat.le_of_ble_eq_true rfl) ?_
  intro w0 S0
  refine cseq ?_
  refine cregion ?_
  refine sv rfl (opv_as rfl) ?_
  refine snil ?_
  refine cseq ?_
  refine cseq ?_
  refine cregion ?_
  refine sv rfl (opv_mv rfl) ?_
  refine sv rfl (opv_len_nil si32 rfl) ?_
  refine sv rfl (opv_lss rfl rfl) ?_
  refine snil ?_
  refine ccond rfl (fun _ => ?_) (fun hx => absurd hx (by decide))
  refine cseq ?_
  refine cregion ?_
  refine sv rfl (opv_mv rfl) ?_
  refine sv rfl (opv_as rfl) ?_
  refine snil ?_
  refine cret ?_
  refine then_ret ?_
  refine ⟨Or.inr rfl, _, _, _, (resVs_cons (ResV.tmp _ _ rfl) resVs_nil), (pubA_id rfl), ?_⟩
  rfl
def m79_slices_Compact (a0 : List Int) : Option (List Int) := if a0.length ≤ 1000000000000000000 then some (cmpU a0) else none
theorem m79_slices_Compact_c {a0 r : List Int} (h : m79_slices_Compact a0 = some r) : CallsB Try.prog 79 [.arr 3 1 0 (a0.flatMap eI)] [.one (.ls 0 a0.length)] (fun y m' => y = .s (.one (.ls 1 r.length)) ∧ m' = [.dead, .arr 3 1 0 (r.flatMap eI)]) := by
  unfold m79_slices_Compact at h
  obtain ⟨hn, h⟩ := chk_eq h
  obtain rfl := Option.some.inj h
  exact compN_B cpt79 hn (Go.Proofs.EqlAt.intD _ _ .i64) (Go.Proofs.NeqAt.intD _ _ .i64) Try.zeroValue3 cpt79_nil

def m67_reads_Hits_k1 (b1 : (List Int)) : Option (List Int) :=
  (m78_slices_Sort b1).bind fun v2 => if v2.length = b1.length then ((m79_slices_Compact v2).bind fun v4 => some v4) else none

def m67_reads_Hits_s5 (a0 : GReadsTable) (a1 : List UInt8) (s5 : Int × (List Int)) : Option (LB (Int × (List Int)) ((List Int))) :=
  if (decide (s5.1 < (a0.L.length : Int))) then ((idx a0.L s5.1).bind fun u6 => (m63_keys_Has (GApiRange.mk u6.Rng.Lo u6.Rng.Hi u6.Rng.Open) a1).bind fun v7 => if v7 then (if (s5.2.length + [u6.Tx].length) * 8 ≤ 140737488355328 then (some (.cont ((wI (s5.1 + 1)), (s5.2 ++ [u6.Tx])))) else none) else (some (.cont ((wI (s5.1 + 1)), s5.2)))) else (some (.brk s5.2))
def m67_reads_Hits (a0 : GReadsTable) (a1 : List UInt8) : Option (List Int) :=
  (iterB (m67_reads_Hits_s5 a0 a1) fuel (0, ([] : List Int))).bind fun e9 => m67_reads_Hits_k1 e9

set_option maxRecDepth 100000 in
theorem m67_reads_Hits_c {a0 : GReadsTable} {a1 : List UInt8} {r : (List Int)} (h : m67_reads_Hits a0 a1 = some r) : CallsA Try.prog 67 [.agg [.sl a0.L.length (a0.L.flatMap eGReadsRead)], .one (.sl a1.length (a1.flatMap eU8))] (· = .s (.one (.sl r.length (r.flatMap eI)))) := by
  unfold m67_reads_Hits at h
  refine callsA_of Try.func67 rfl (nt := 29) rfl (Nat.le_of_ble_eq_true rfl) ?_
  intro w0 S0
  refine cseq ?_
  refine cregion ?_
  refine sbox rfl rfl ?_
  refine sv rfl (opv_as rfl) ?_
  refine snil ?_
  refine cseq ?_
  refine cregion ?_
  refine sv rfl (opv_as rfl) ?_
  refine snil ?_
  refine cseq ?_
  refine cseq ?_
  refine cregion ?_
  refine sv rfl (opv_fieldAddr_lp fi29_0 rfl) ?_
  refine sv rfl (opv_load1 ti27 rfl (.lp _ _ _ rfl) rfl) ?_
  refine sv rfl (opv_len_sl si27 rfl) ?_
  refine sv rfl (opv_mv rfl) ?_
  refine snil ?_
  refine sadopt_c 3 1 5 (by decide) rfl ?_
  refine cjoin ((List Int)) (fun b1 => [(5, .s (.one (.ls 1 b1.length)))]) (fun b1 => [.box [.sl a0.L.length (a0.L.flatMap eGReadsRead)], .arr 3 1 0 (b1.flatMap eI)]) (fun b1 => m67_reads_Hits_k1 b1 = some r) (fun _ _ => inbL_of rfl) (fun _ _ => blkinb_of rfl) (fun _ _ => Nat.le_of_ble_eq_true rfl) (fun b1 h => ?_) ?_
  · unfold m67_reads_Hits_k1 at h
    refine cseq ?_
    refine cregion ?_
    refine sv rfl (opv_mv rfl) ?_
    obtain ⟨v2, hv2, h⟩ := bind_eq h
    refine scallB (x' := .tup []) (M' := [.box [.sl a0.L.length (a0.L.flatMap eGReadsRead)], .arr 3 1 0 (v2.flatMap eI)]) [1] rfl fn78 (.func _) (opnds_cons rfl opnds_nil) (m78_slices_Sort_c hv2) rfl rfl (by decide) rfl rfl rfl ?_
    obtain ⟨hl3, h⟩ := chk_eq h
    refine stell 5 (y := .s (.one (.ls 1 b1.length))) (.s (.one (.ls 1 v2.length))) rfl (congrArg (fun n => AV.s (.one (.ls 1 n))) hl3.symm) ?_
    refine stell 25 (y := .s (.one (.ls 1 b1.length))) (.s (.one (.ls 1 v2.length))) rfl (congrArg (fun n => AV.s (.one (.ls 1 n))) hl3.symm) ?_
    refine snil ?_
    refine cseq ?_
    refine cregion ?_
    refine sv rfl (opv_mv rfl) ?_
    obtain ⟨v4, hv4, h⟩ := bind_eq h
    refine scallB (x' := .s (.one (.ls 2 v4.length))) (M' := [.box [.sl a0.L.length (a0.L.flatMap eGReadsRead)], .dead, .arr 3 1 0 (v4.flatMap eI)]) [1] rfl fn79 (.func _) (opnds_cons rfl opnds_nil) (m79_slices_Compact_c hv4) rfl rfl (by decide) rfl rfl rfl ?_
    refine sv rfl (opv_as rfl) ?_
    refine snil ?_
    refine cret ?_
    obtain rfl := Option.some.inj h
    refine ⟨Or.inr rfl, _, _, _, (resVs_cons (ResV.tmp _ _ rfl) resVs_nil), (by (repeat' first | exact PubA.nil _ | apply PubA.cons | apply PubV.one | apply PubV.agg | exact PubL.nil | exact PubL.ls _ _ _ _ _ _ rfl (flat_len (f := eI) (fun _ => rfl) _).symm | exact PubL.id _ rfl | exact PubLs.nil _ | apply PubLs.cons)), ?_⟩
    rfl
  · skip
    refine cblock ?_
    obtain ⟨x5, hx5, ho5⟩ := bind_eq h
    refine awc_loop (G := Nat × (Int × (List Int))) (fun g => [(1, .s (.one (.sl a1.length (a1.flatMap eU8)))), (5, .s (.one (.ls 1 g.2.2.length))), (9, .s (.one (.sl a0.L.length (a0.L.flatMap eGReadsRead)))), (10, .s (.one (.i .i64 (a0.L.length : Int)))), (11, .s (.one (.i .i64 g.2.1)))]) (fun g => [.box [.sl a0.L.length (a0.L.flatMap eGReadsRead)], .arr 3 1 0 (g.2.2.flatMap eI)]) (fun g => iterB (m67_reads_Hits_s5 a0 a1) g.1 g.2 = some x5) (fun g => g.1) (fuel, (0, ([] : List Int))) hx5 ⟨rfl, rfl, rfl, rfl, rfl, trivial⟩ [] rfl (fun _ _ => inbL_of rfl) (fun _ _ => blkinb_of rfl) (fun _ _ => Nat.le_of_ble_eq_true rfl) ?_
    clear hx5 h
    rintro ⟨n5, s5⟩ h
    obtain ⟨n5, y5, rfl, h, hk5⟩ := iterB_eq h
    unfold m67_reads_Hits_s5 at h
    refine cseq ?_
    refine cregion ?_
    refine sv rfl (opv_lss rfl rfl) ?_
    refine snil ?_
    refine cseq ?_
    refine ccond rfl (fun hc => ?_) (fun hc => ?_)
    · replace h := ite_t hc h
      clear hc
      refine cskip ?_
      refine then_normal ?_
      refine cseq ?_
      refine cblock ?_
      refine cseq ?_
      refine cregion ?_
      obtain ⟨u6, hu6, h⟩ := bind_eq h
      refine sv rfl (opv_ix (f := eGReadsRead) si27 (fun _ => rfl) rfl rfl rfl rfl hu6) ?_
      refine sv rfl (opv_loadNe (ys := [.i .i64 u6.Tx, .sl u6.Rng.Lo.length (u6.Rng.Lo.flatMap eU8), .sl u6.Rng.Hi.length (u6.Rng.Hi.flatMap eU8), .b u6.Rng.Open]) ti72 rfl (.cp _) rfl rfl) ?_
      refine salloc rfl zi72 ?_
      refine sstore sz72 rfl rfl rfl rfl (Nat.le_of_ble_eq_true rfl) ?_
      refine smem [.box [.sl a0.L.length (a0.L.flatMap eGReadsRead)], .arr 3 1 0 (s5.2.flatMap eI), .box u6] rfl ?_
      refine snil ?_
      refine cseq ?_
      refine cregion ?_
      refine sv rfl (opv_fieldAddr_lp fi72_1 rfl) ?_
      refine sv rfl (opv_loadN ti40 rfl (.lp _ _ _ rfl) (Nat.le_of_ble_eq_true rfl)) ?_
      refine sv rfl (opv_mv rfl) ?_
      obtain ⟨v7, hv7, h⟩ := bind_eq h
      refine scall1 rfl fn63 (opnds_cons rfl (opnds_cons rfl opnds_nil)) (pubA_id rfl) (m63_keys_Has_c hv7) ?_
      refine snil ?_
      refine ccond rfl (fun hc => ?_) (fun hc => ?_)
      · replace h := ite_t hc h
        clear hc
        refine cregion ?_
        refine sv rfl (opv_mv rfl) ?_
        refine sv rfl (opv_fieldAddr_lp fi72_0 rfl) ?_
        refine sv rfl (opv_load1 ti3 rfl (.lp _ _ _ rfl) rfl) ?_
        refine sbuild1 rfl Try.underlying32 ei3 rfl rfl (List.all_eq_true.1 rfl) (by decide) ?_
        refine smem [.box [.sl a0.L.length (a0.L.flatMap eGReadsRead)], .arr 3 1 0 (s5.2.flatMap eI), .box u6, .arr 3 1 0 ([u6.Tx].flatMap eI)] rfl ?_
        obtain ⟨hb8, h⟩ := chk_eq h
        refine sapp (f := eI) (xs := s5.2) (us := [u6.Tx]) rfl Try.underlying32 ei3 ni32 (fun _ => rfl) rfl rfl (.one _ _ _ _ (.ls _ _ _ _ _ _ rfl (flat_len (f := eI) (fun _ => rfl) [u6.Tx]).symm)) rfl rfl rfl (.sl _ _ _ (flat_len (f := eI) (fun _ => rfl) _)) rfl rfl hb8 (by decide) ?_
        refine sv rfl (opv_as rfl) ?_
        refine snil0 ?_
        refine block_normal ?_
        refine then_normal ?_
        refine cregion ?_
        refine sv rfl (opv_add rfl rfl) ?_
        refine sv rfl (opv_mv rfl) ?_
        refine snil ?_
        obtain rfl := Option.some.inj h
        exact ⟨(n5, ((wI (s5.1 + 1)), (s5.2 ++ [u6.Tx]))), _, hk5, ⟨rfl, rfl, rfl, rfl, rfl, trivial⟩, rfl, Nat.lt_succ_self _⟩
      · replace h := ite_f hc h
        clear hc
        refine cskip ?_
        refine block_normal ?_
        refine then_normal ?_
        refine cregion ?_
        refine sv rfl (opv_add rfl rfl) ?_
        refine sv rfl (opv_mv rfl) ?_
        refine snil ?_
        obtain rfl := Option.some.inj h
        exact ⟨(n5, ((wI (s5.1 + 1)), s5.2)), _, hk5, ⟨rfl, rfl, rfl, rfl, rfl, trivial⟩, rfl, Nat.lt_succ_self _⟩
    · replace h := ite_f hc h
      clear hc
      refine cexit ?_
      refine then_exit ?_
      refine then_exit ?_
      refine block_hit ?_
      refine then_normal ?_
      obtain rfl := Option.some.inj h
      obtain rfl : _ = x5 := hk5
      exact ⟨s5.2, _, ho5, ⟨rfl, trivial⟩, rfl⟩

def m49_ssi_readersOf_k1 (b1 : (List Int)) : Option (List Int) :=
  some b1

def m49_ssi_readersOf_s2 (a0 : GSsiCert) (a1 : List (List UInt8)) (s2 : Int × (List Int)) : Option (LB (Int × (List Int)) ((List Int))) :=
  if (decide (s2.1 < (a1.length : Int))) then ((idx a1 s2.1).bind fun u3 => (m67_reads_Hits (GReadsTable.mk a0.Reads.L) u3).bind fun v4 => if (s2.2.length + v4.length) * 8 ≤ 140737488355328 then (some (.cont ((wI (s2.1 + 1)), (s2.2 ++ v4)))) else none) else (some (.brk s2.2))
def m49_ssi_readersOf (a0 : GSsiCert) (a1 : List (List UInt8)) : Option (List Int) :=
  (iterB (m49_ssi_readersOf_s2 a0 a1) fuel (0, ([] : List Int))).bind fun e6 => m49_ssi_readersOf_k1 e6

set_option maxRecDepth 100000 in
theorem m49_ssi_readersOf_c {a0 : GSsiCert} {a1 : List (List UInt8)} {r : (List Int)} (h : m49_ssi_readersOf a0 a1 = some r) : CallsA Try.prog 49 [.agg a0, .one (.sl a1.length (a1.flatMap (eL eU8)))] (· = .s (.one (.sl r.length (r.flatMap eI)))) := by
  unfold m49_ssi_readersOf at h
  refine callsA_of Try.func49 rfl (nt := 22) rfl (Nat.le_of_ble_eq_true rfl) ?_
  intro w0 S0
  refine cseq ?_
  refine cregion ?_
  refine sbox rfl rfl ?_
  refine sv rfl (opv_as rfl) ?_
  refine snil ?_
  refine cseq ?_
  refine cregion ?_
  refine sv rfl (opv_as rfl) ?_
  refine snil ?_
  refine cseq ?_
  refine cseq ?_
  refine cregion ?_
  refine sv rfl (opv_mv rfl) ?_
  refine sv rfl (opv_len_sl si41 rfl) ?_
  refine sv rfl (opv_mv rfl) ?_
  refine snil ?_
  refine sadopt_c 3 1 5 (by decide) rfl ?_
  refine cjoin ((List Int)) (fun b1 => [(5, .s (.one (.ls 1 b1.length)))]) (fun b1 => [.box a0, .arr 3 1 0 (b1.flatMap eI)]) (fun b1 => m49_ssi_readersOf_k1 b1 = some r) (fun _ _ => inbL_of rfl) (fun _ _ => blkinb_of rfl) (fun _ _ => Nat.le_of_ble_eq_true rfl) (fun b1 h => ?_) ?_
  · unfold m49_ssi_readersOf_k1 at h
    refine cseq ?_
    refine cregion ?_
    refine sv rfl (opv_mv rfl) ?_
    refine sv rfl (opv_as rfl) ?_
    refine snil ?_
    refine cret ?_
    obtain rfl := Option.some.inj h
    refine ⟨Or.inr rfl, _, _, _, (resVs_cons (ResV.tmp _ _ rfl) resVs_nil), (by (repeat' first | exact PubA.nil _ | apply PubA.cons | apply PubV.one | apply PubV.agg | exact PubL.nil | exact PubL.ls _ _ _ _ _ _ rfl (flat_len (f := eI) (fun _ => rfl) _).symm | exact PubL.id _ rfl | exact PubLs.nil _ | apply PubLs.cons)), ?_⟩
    rfl
  · skip
    refine cblock ?_
    obtain ⟨x2, hx2, ho2⟩ := bind_eq h
    refine awc_loop (G := Nat × (Int × (List Int))) (fun g => [(2, .s (.one (.lp 0 0))), (5, .s (.one (.ls 1 g.2.2.length))), (8, .s (.one (.sl a1.length (a1.flatMap (eL eU8))))), (9, .s (.one (.i .i64 (a1.length : Int)))), (10, .s (.one (.i .i64 g.2.1)))]) (fun g => [.box a0, .arr 3 1 0 (g.2.2.flatMap eI)]) (fun g => iterB (m49_ssi_readersOf_s2 a0 a1) g.1 g.2 = some x2) (fun g => g.1) (fuel, (0, ([] : List Int))) hx2 ⟨rfl, rfl, rfl, rfl, rfl, trivial⟩ [] rfl (fun _ _ => inbL_of rfl) (fun _ _ => blkinb_of rfl) (fun _ _ => Nat.le_of_ble_eq_true rfl) ?_
    clear hx2 h
    rintro ⟨n2, s2⟩ h
    obtain ⟨n2, y2, rfl, h, hk2⟩ := iterB_eq h
    unfold m49_ssi_readersOf_s2 at h
    refine cseq ?_
    refine cregion ?_
    refine sv rfl (opv_lss rfl rfl) ?_
    refine snil ?_
    refine cseq ?_
    refine ccond rfl (fun hc => ?_) (fun hc => ?_)
    · replace h := ite_t hc h
      clear hc
      refine cskip ?_
      refine then_normal ?_
      refine cseq ?_
      refine cblock ?_
      refine cseq ?_
      refine cregion ?_
      obtain ⟨u3, hu3, h⟩ := bind_eq h
      refine sv rfl (opv_ix (f := (eL eU8)) si41 (fun _ => rfl) rfl rfl rfl rfl hu3) ?_
      refine sv rfl (opv_load1 ti38 rfl (.cp _) rfl) ?_
      refine sv rfl (opv_as rfl) ?_
      refine snil ?_
      refine cregion ?_
      refine sv rfl (opv_mv rfl) ?_
      refine sv rfl (opv_fieldAddr_lp fi31_1 rfl) ?_
      refine sv rfl (opv_loadN ti29 rfl (.lp _ _ _ rfl) (Nat.le_of_ble_eq_true rfl)) ?_
      refine sv rfl (opv_mv rfl) ?_
      obtain ⟨v4, hv4, h⟩ := bind_eq h
      refine scall1 rfl fn67 (opnds_cons rfl (opnds_cons rfl opnds_nil)) (pubA_id rfl) (m67_reads_Hits_c hv4) ?_
      obtain ⟨hb5, h⟩ := chk_eq h
      refine sapp (f := eI) (xs := s2.2) (us := v4) rfl Try.underlying32 ei3 ni32 (fun _ => rfl) rfl rfl (.one _ _ _ _ (.id _ rfl)) rfl rfl rfl (.sl _ _ _ (flat_len (f := eI) (fun _ => rfl) _)) rfl rfl hb5 (by decide) ?_
      refine sv rfl (opv_as rfl) ?_
      refine snil0 ?_
      refine block_normal ?_
      refine then_normal ?_
      refine cregion ?_
      refine sv rfl (opv_add rfl rfl) ?_
      refine sv rfl (opv_mv rfl) ?_
      refine snil ?_
      obtain rfl := Option.some.inj h
      exact ⟨(n2, ((wI (s2.1 + 1)), (s2.2 ++ v4))), _, hk2, ⟨rfl, rfl, rfl, rfl, rfl, trivial⟩, rfl, Nat.lt_succ_self _⟩
    · replace h := ite_f hc h
      clear hc
      refine cexit ?_
      refine then_exit ?_
      refine then_exit ?_
      refine block_hit ?_
      refine then_normal ?_
      obtain rfl := Option.some.inj h
      obtain rfl : _ = x2 := hk2
      exact ⟨s2.2, _, ho2, ⟨rfl, trivial⟩, rfl⟩

def m49_ssi_readersOfo_k1 (b1 : (List Int)) : Option (List Int) :=
  some b1

def m49_ssi_readersOfo_s2 (a0 : GSsiCert) (a1 : List (List UInt8)) (s2 : Int × (List Int)) : Option (LB (Int × (List Int)) ((List Int))) :=
  if (decide (s2.1 < (a1.length : Int))) then ((idx a1 s2.1).bind fun u3 => (m67_reads_Hits (GReadsTable.mk a0.Reads.L) u3).bind fun v4 => if (s2.2.length + v4.length) * 8 ≤ 140737488355328 then (some (.cont ((wI (s2.1 + 1)), (s2.2 ++ v4)))) else none) else (some (.brk s2.2))
def m49_ssi_readersOfo (a0 : GSsiCert) (a1 : List (List UInt8)) : Option (List Int) :=
  (iterB (m49_ssi_readersOfo_s2 a0 a1) fuel (0, ([] : List Int))).bind fun e6 => m49_ssi_readersOfo_k1 e6

set_option maxRecDepth 100000 in
theorem m49_ssi_readersOfo_c {a0 : GSsiCert} {a1 : List (List UInt8)} {r : (List Int)} (h : m49_ssi_readersOfo a0 a1 = some r) : CallsB Try.prog 49 [] [.agg a0, .one (.sl a1.length (a1.flatMap (eL eU8)))] (fun y m' => y = .s (.one (.ls 0 r.length)) ∧ m' = [.arr 3 1 0 (r.flatMap eI)]) := by
  unfold m49_ssi_readersOfo at h
  refine callsB_of Try.func49 rfl (nt := 22) rfl (Nat.le_of_ble_eq_true rfl) ?_
  intro w0 S0 X0 H0
  refine cseq ?_
  refine cregion ?_
  refine sbox rfl rfl ?_
  refine sv rfl (opv_as rfl) ?_
  refine snil ?_
  refine cseq ?_
  refine cregion ?_
  refine sv rfl (opv_as rfl) ?_
  refine snil ?_
  refine cseq ?_
  refine cseq ?_
  refine cregion ?_
  refine sv rfl (opv_mv rfl) ?_
  refine sv rfl (opv_len_sl si41 rfl) ?_
  refine sv rfl (opv_mv rfl) ?_
  refine snil ?_
  refine sadopt_c 3 1 5 (by decide) rfl ?_
  refine cjoin ((List Int)) (fun b1 => [(5, .s (.one (.ls 1 b1.length)))]) (fun b1 => [.box a0, .arr 3 1 0 (b1.flatMap eI)]) (fun b1 => m49_ssi_readersOfo_k1 b1 = some r) (fun _ _ => inbL_of rfl) (fun _ _ => blkinb_of rfl) (fun _ _ => Nat.le_of_ble_eq_true rfl) (fun b1 h => ?_) ?_
  · unfold m49_ssi_readersOfo_k1 at h
    refine cseq ?_
    refine cregion ?_
    refine sv rfl (opv_mv rfl) ?_
    refine sv rfl (opv_as rfl) ?_
    refine snil ?_
    refine cret ?_
    obtain rfl := Option.some.inj h
    exact ⟨Or.inr rfl, _, [1], [.one (.ls 0 b1.length)], [.arr 3 1 0 (b1.flatMap eI)], (resVs_cons (ResV.tmp _ _ rfl) resVs_nil), rfl, rfl, ⟨by decide, rfl⟩, rfl, rfl, ⟨rfl, rfl⟩⟩
  · skip
    refine cblock ?_
    obtain ⟨x2, hx2, ho2⟩ := bind_eq h
    refine awc_loop (G := Nat × (Int × (List Int))) (fun g => [(2, .s (.one (.lp 0 0))), (5, .s (.one (.ls 1 g.2.2.length))), (8, .s (.one (.sl a1.length (a1.flatMap (eL eU8))))), (9, .s (.one (.i .i64 (a1.length : Int)))), (10, .s (.one (.i .i64 g.2.1)))]) (fun g => [.box a0, .arr 3 1 0 (g.2.2.flatMap eI)]) (fun g => iterB (m49_ssi_readersOfo_s2 a0 a1) g.1 g.2 = some x2) (fun g => g.1) (fuel, (0, ([] : List Int))) hx2 ⟨rfl, rfl, rfl, rfl, rfl, trivial⟩ [] rfl (fun _ _ => inbL_of rfl) (fun _ _ => blkinb_of rfl) (fun _ _ => Nat.le_of_ble_eq_true rfl) ?_
    clear hx2 h
    rintro ⟨n2, s2⟩ h
    obtain ⟨n2, y2, rfl, h, hk2⟩ := iterB_eq h
    unfold m49_ssi_readersOfo_s2 at h
    refine cseq ?_
    refine cregion ?_
    refine sv rfl (opv_lss rfl rfl) ?_
    refine snil ?_
    refine cseq ?_
    refine ccond rfl (fun hc => ?_) (fun hc => ?_)
    · replace h := ite_t hc h
      clear hc
      refine cskip ?_
      refine then_normal ?_
      refine cseq ?_
      refine cblock ?_
      refine cseq ?_
      refine cregion ?_
      obtain ⟨u3, hu3, h⟩ := bind_eq h
      refine sv rfl (opv_ix (f := (eL eU8)) si41 (fun _ => rfl) rfl rfl rfl rfl hu3) ?_
      refine sv rfl (opv_load1 ti38 rfl (.cp _) rfl) ?_
      refine sv rfl (opv_as rfl) ?_
      refine snil ?_
      refine cregion ?_
      refine sv rfl (opv_mv rfl) ?_
      refine sv rfl (opv_fieldAddr_lp fi31_1 rfl) ?_
      refine sv rfl (opv_loadN ti29 rfl (.lp _ _ _ rfl) (Nat.le_of_ble_eq_true rfl)) ?_
      refine sv rfl (opv_mv rfl) ?_
      obtain ⟨v4, hv4, h⟩ := bind_eq h
      refine scall1 rfl fn67 (opnds_cons rfl (opnds_cons rfl opnds_nil)) (pubA_id rfl) (m67_reads_Hits_c hv4) ?_
      obtain ⟨hb5, h⟩ := chk_eq h
      refine sapp (f := eI) (xs := s2.2) (us := v4) rfl Try.underlying32 ei3 ni32 (fun _ => rfl) rfl rfl (.one _ _ _ _ (.id _ rfl)) rfl rfl rfl (.sl _ _ _ (flat_len (f := eI) (fun _ => rfl) _)) rfl rfl hb5 (by decide) ?_
      refine sv rfl (opv_as rfl) ?_
      refine snil0 ?_
      refine block_normal ?_
      refine then_normal ?_
      refine cregion ?_
      refine sv rfl (opv_add rfl rfl) ?_
      refine sv rfl (opv_mv rfl) ?_
      refine snil ?_
      obtain rfl := Option.some.inj h
      exact ⟨(n2, ((wI (s2.1 + 1)), (s2.2 ++ v4))), _, hk2, ⟨rfl, rfl, rfl, rfl, rfl, trivial⟩, rfl, Nat.lt_succ_self _⟩
    · replace h := ite_f hc h
      clear hc
      refine cexit ?_
      refine then_exit ?_
      refine then_exit ?_
      refine block_hit ?_
      refine then_normal ?_
      obtain rfl := Option.some.inj h
      obtain rfl : _ = x2 := hk2
      exact ⟨s2.2, _, ho2, ⟨rfl, trivial⟩, rfl⟩

def m48_ssi_passeds_k1 (b1 : (List GSsiTx)) : Option (Bool × (List GSsiTx)) :=
  some (true, b1)

def m48_ssi_passeds_k4 (a1 : Int) (s2 : Int × (List GSsiTx)) (u3 : GSsiTx) (b4 : Unit) : Option (LR (Int × (List GSsiTx)) ((List GSsiTx)) (Bool × (List GSsiTx))) :=
  (m43_ssi_passings).bind fun v5 => (m44_ssi_effect_ons s2.2 s2.1 a1).bind fun v6 => if v6.length = s2.2.length then (if (decide (u3.State = 2)) then ((idx v6 s2.1).bind fun u8 => (m45_ssi_pivot u8).bind fun v9 => if v9 then (some (.ret (false, v6))) else (some (.cont ((wI (s2.1 + 1)), v6)))) else (some (.cont ((wI (s2.1 + 1)), v6)))) else none

def m48_ssi_passeds_s2 (a0 : List GSsiTx) (a1 : Int) (a2 : List Int) (s2 : Int × (List GSsiTx)) : Option (LR (Int × (List GSsiTx)) ((List GSsiTx)) (Bool × (List GSsiTx))) :=
  if (decide (s2.1 < (a0.length : Int))) then ((idx s2.2 s2.1).bind fun u3 => if (decide (s2.1 = a1)) then (some (.cont ((wI (s2.1 + 1)), s2.2))) else ((m57_slices_Contains a2 u3.ID).bind fun v10 => if (!v10) then (some (.cont ((wI (s2.1 + 1)), s2.2))) else ((idx s2.2 a1).bind fun u11 => (m41_ssi_beside u3 u11).bind fun v12 => if (!v12) then (some (.cont ((wI (s2.1 + 1)), s2.2))) else (m48_ssi_passeds_k4 a1 s2 u3 ())))) else (some (.brk s2.2))
def m48_ssi_passeds (a0 : List GSsiTx) (a1 : Int) (a2 : List Int) : Option (Bool × (List GSsiTx)) :=
  (iter (m48_ssi_passeds_s2 a0 a1 a2) fuel (0, a0)).bind fun x => match x with | .inl r => some r | .inr e13 => m48_ssi_passeds_k1 e13

set_option maxRecDepth 100000 in
theorem m48_ssi_passeds_c {a0 : List GSsiTx} {a1 : Int} {a2 : List Int} {r : Bool × (List GSsiTx)} (h : m48_ssi_passeds a0 a1 a2 = some r) : CallsB Try.prog 48 [.arr 48 8 0 (a0.flatMap eGSsiTx)] [.one (.ls 0 a0.length), .one (.i .i64 a1), .one (.sl a2.length (a2.flatMap eI))] (fun y m' => y = .s (.one (.b r.1)) ∧ m' = [.arr 48 8 0 (r.2.flatMap eGSsiTx)]) := by
  unfold m48_ssi_passeds at h
  refine callsB_of Try.func48 rfl (nt := 51) rfl (Nat.le_of_ble_eq_true rfl) ?_
  intro w0 S0 X0 H0
  refine cseq ?_
  refine cregion ?_
  refine sv rfl (opv_as rfl) ?_
  refine snil ?_
  refine cseq ?_
  refine cseq ?_
  refine cregion ?_
  refine sv rfl (opv_mv rfl) ?_
  refine sv rfl (opv_len_ls si26 rfl rfl (flat_len (f := eGSsiTx) (fun _ => rfl) _).symm) ?_
  refine sv rfl (opv_mv rfl) ?_
  refine snil ?_
  refine cjoin ((List GSsiTx)) (fun b1 => []) (fun b1 => [.arr 48 8 0 (b1.flatMap eGSsiTx)]) (fun b1 => m48_ssi_passeds_k1 b1 = some r) (fun _ _ => inbL_of rfl) (fun _ _ => blkinb_of rfl) (fun _ _ => Nat.le_of_ble_eq_true rfl) (fun b1 h => ?_) ?_
  · unfold m48_ssi_passeds_k1 at h
    refine cseq ?_
    refine cregion ?_
    refine sv rfl (opv_as rfl) ?_
    refine snil ?_
    refine cret ?_
    obtain rfl := Option.some.inj h
    exact ⟨Or.inr rfl, _, [0], [.one (.b true)], [.arr 48 8 0 (b1.flatMap eGSsiTx)], (resVs_cons (ResV.tmp _ _ rfl) resVs_nil), rfl, rfl, ⟨by decide, rfl⟩, rfl, rfl, ⟨rfl, rfl⟩⟩
  · skip
    refine cblock ?_
    obtain ⟨x2, hx2, ho2⟩ := bind_eq h
    refine awc_loop (G := Nat × (Int × (List GSsiTx))) (fun g => [(0, .s (.one (.ls 0 g.2.2.length))), (1, .s (.one (.i .i64 a1))), (2, .s (.one (.sl a2.length (a2.flatMap eI)))), (9, .s (.one (.ls 0 g.2.2.length))), (10, .s (.one (.i .i64 (a0.length : Int)))), (11, .s (.one (.i .i64 g.2.1)))]) (fun g => [.arr 48 8 0 (g.2.2.flatMap eGSsiTx)]) (fun g => iter (m48_ssi_passeds_s2 a0 a1 a2) g.1 g.2 = some x2) (fun g => g.1) (fuel, (0, a0)) hx2 ⟨rfl, rfl, rfl, rfl, rfl, rfl, trivial⟩ [] rfl (fun _ _ => inbL_of rfl) (fun _ _ => blkinb_of rfl) (fun _ _ => Nat.le_of_ble_eq_true rfl) ?_
    clear hx2 h
    rintro ⟨n2, s2⟩ h
    obtain ⟨n2, y2, rfl, h, hk2⟩ := iter_eq h
    unfold m48_ssi_passeds_s2 at h
    refine cseq ?_
    refine cregion ?_
    refine sv rfl (opv_lss rfl rfl) ?_
    refine snil ?_
    refine cseq ?_
    refine ccond rfl (fun hc => ?_) (fun hc => ?_)
    · replace h := ite_t hc h
      clear hc
      refine cskip ?_
      refine then_normal ?_
      refine cseq ?_
      refine cblock ?_
      refine cseq ?_
      refine cregion ?_
      refine sv rfl (opv_mv rfl) ?_
      obtain ⟨u3, hu3, h⟩ := bind_eq h
      refine sv rfl (opv_ixo (f := eGSsiTx) si26 (fun _ => rfl) rfl rfl rfl rfl rfl hu3) ?_
      refine sv rfl (opv_ldNo (f := eGSsiTx) (sz := 8) 0 ti48 (fun _ => rfl) rfl rfl rfl rfl (idx_eq hu3).2 (Nat.le_of_ble_eq_true rfl) rfl) ?_
      refine salloc rfl zi48 ?_
      refine sv rfl (opv_as rfl) ?_
      refine sstore sz48 rfl rfl rfl rfl (Nat.le_of_ble_eq_true rfl) ?_
      refine smem [.arr 48 8 0 (s2.2.flatMap eGSsiTx), .box u3] rfl ?_
      refine snil ?_
      refine cseq ?_
      refine cseq ?_
      refine cjoin3 (Unit) (fun b4 => [(0, .s (.one (.ls 0 s2.2.length))), (1, .s (.one (.i .i64 a1))), (2, .s (.one (.sl a2.length (a2.flatMap eI)))), (7, .s (.one (.i .i64 s2.1))), (8, .s (.one (.lp 1 0))), (9, .s (.one (.ls 0 s2.2.length))), (10, .s (.one (.i .i64 (a0.length : Int)))), (11, .s (.one (.i .i64 s2.1)))]) (fun b4 => [.arr 48 8 0 (s2.2.flatMap eGSsiTx), .box u3]) (fun b4 => m48_ssi_passeds_k4 a1 s2 u3 b4 = some y2) (fun _ _ => inbL_of rfl) (fun _ _ => blkinb_of rfl) (fun _ _ => Nat.le_of_ble_eq_true rfl) (fun b4 h => ?_) ?_
      · unfold m48_ssi_passeds_k4 at h
        refine cseq ?_
        refine cregion ?_
        obtain ⟨v5, hv5, h⟩ := bind_eq h
        refine scallB (x' := .s (.agg [.raw (.func (.func 64) #[] #[]), .raw (.func (.func 65) #[] #[])])) (M' := [.arr 48 8 0 (s2.2.flatMap eGSsiTx), .box u3]) [] rfl fn43 (.func _) opnds_nil (m43_ssi_passings_c hv5) rfl rfl (by decide) rfl rfl rfl ?_
        refine sv rfl (opv_mv rfl) ?_
        refine sv rfl (opv_mv rfl) ?_
        refine sv rfl (opv_mv rfl) ?_
        obtain ⟨v6, hv6, h⟩ := bind_eq h
        refine scallB (x' := .tup []) (M' := [.arr 48 8 0 (v6.flatMap eGSsiTx), .box u3]) [0] rfl fn44 (.func _) (opnds_cons rfl (opnds_cons rfl (opnds_cons rfl (opnds_cons rfl opnds_nil)))) (m44_ssi_effect_ons_c hv6) rfl rfl (by decide) rfl rfl rfl ?_
        obtain ⟨hl7, h⟩ := chk_eq h
        refine stell 0 (y := .s (.one (.ls 0 s2.2.length))) (.s (.one (.ls 0 v6.length))) rfl (congrArg (fun n => AV.s (.one (.ls 0 n))) hl7.symm) ?_
        refine stell 9 (y := .s (.one (.ls 0 s2.2.length))) (.s (.one (.ls 0 v6.length))) rfl (congrArg (fun n => AV.s (.one (.ls 0 n))) hl7.symm) ?_
        refine stell 36 (y := .s (.one (.ls 0 s2.2.length))) (.s (.one (.ls 0 v6.length))) rfl (congrArg (fun n => AV.s (.one (.ls 0 n))) hl7.symm) ?_
        refine snil ?_
        refine cseq ?_
        refine cregion ?_
        refine sv rfl (opv_fieldAddr_lp fi48_3 rfl) ?_
        refine sv rfl (opv_load1 ti3 rfl (.lp _ _ _ rfl) rfl) ?_
        refine sv rfl (opv_ieql rfl rfl) ?_
        refine sv rfl (opv_mv rfl) ?_
        refine ssplit 43 rfl (fun hc => ?_) (fun hc => ?_)
        · replace h := ite_t hc h
          clear hc
          refine son rfl rfl rfl ?_
          refine sv rfl (opv_mv rfl) ?_
          refine son rfl rfl rfl ?_
          refine sv rfl (opv_mv rfl) ?_
          refine son rfl rfl rfl ?_
          obtain ⟨u8, hu8, h⟩ := bind_eq h
          refine sv rfl (opv_ixo (f := eGSsiTx) si26 (fun _ => rfl) rfl rfl rfl rfl rfl hu8) ?_
          refine son rfl rfl rfl ?_
          refine sv rfl (opv_ldNo (f := eGSsiTx) (sz := 8) 0 ti48 (fun _ => rfl) rfl rfl rfl rfl (idx_eq hu8).2 (Nat.le_of_ble_eq_true rfl) rfl) ?_
          refine son rfl rfl rfl ?_
          obtain ⟨v9, hv9, h⟩ := bind_eq h
          refine scall1 rfl fn45 (opnds_cons rfl opnds_nil) (pubA_id rfl) (m45_ssi_pivot_c hv9) ?_
          refine sv rfl (opv_pick_t rfl rfl) ?_
          refine snil ?_
          refine ccond rfl (fun hc => ?_) (fun hc => ?_)
          · replace h := ite_t hc h
            clear hc
            refine cseq ?_
            refine cregion ?_
            refine sv rfl (opv_as rfl) ?_
            refine snil ?_
            refine cret ?_
            refine block_ret ?_
            refine then_ret ?_
            refine then_ret ?_
            refine block_ret ?_
            refine then_ret ?_
            obtain rfl := Option.some.inj h
            obtain rfl : Sum.inl _ = x2 := hk2
            replace ho2 : some _ = some _ := ho2
            obtain rfl := Option.some.inj ho2
            exact ⟨Or.inr rfl, _, [0], [.one (.b false)], [.arr 48 8 0 (v6.flatMap eGSsiTx)], (resVs_cons (ResV.tmp _ _ rfl) resVs_nil), rfl, rfl, ⟨by decide, rfl⟩, rfl, rfl, ⟨rfl, rfl⟩⟩
          · replace h := ite_f hc h
            clear hc
            refine cskip ?_
            refine block_normal ?_
            refine then_normal ?_
            refine cregion ?_
            refine sv rfl (opv_add rfl rfl) ?_
            refine sv rfl (opv_mv rfl) ?_
            refine snil ?_
            obtain rfl := Option.some.inj h
            exact ⟨(n2, ((wI (s2.1 + 1)), v6)), _, hk2, ⟨rfl, rfl, rfl, rfl, rfl, rfl, trivial⟩, rfl, Nat.lt_succ_self _⟩
        · replace h := ite_f hc h
          clear hc
          refine soff rfl rfl rfl rfl ?_
          refine soff rfl rfl rfl rfl ?_
          refine soff rfl rfl rfl rfl ?_
          refine soff rfl rfl rfl rfl ?_
          refine soff rfl rfl rfl rfl ?_
          refine sv rfl (opv_pick_f rfl rfl) ?_
          refine snil ?_
          refine ccond rfl (fun hx => Bool.noConfusion hx) (fun _ => ?_)
          refine cskip ?_
          refine block_normal ?_
          refine then_normal ?_
          refine cregion ?_
          refine sv rfl (opv_add rfl rfl) ?_
          refine sv rfl (opv_mv rfl) ?_
          refine snil ?_
          obtain rfl := Option.some.inj h
          exact ⟨(n2, ((wI (s2.1 + 1)), v6)), _, hk2, ⟨rfl, rfl, rfl, rfl, rfl, rfl, trivial⟩, rfl, Nat.lt_succ_self _⟩
      · skip
        refine cdraw mixed (by kernel_rfl) ?_
        refine dv rfl (opv_mv rfl) ?_
        refine dv rfl (opv_mv rfl) ?_
        refine dv rfl (opv_ieql rfl rfl) ?_
        refine dv rfl (opv_mv rfl) ?_
        refine dsplit 19 rfl (fun hc => ?_) (fun hc => ?_)
        · replace h := ite_t hc h
          clear hc
          refine doff rfl rfl rfl rfl ?_
          refine doff rfl rfl rfl rfl ?_
          refine doff rfl rfl rfl rfl ?_
          refine doff rfl rfl rfl rfl ?_
          refine doff rfl rfl rfl rfl ?_
          refine dv rfl (opv_pick_t rfl rfl) ?_
          refine dv rfl (opv_mv rfl) ?_
          refine doff rfl rfl rfl rfl ?_
          refine doff rfl rfl rfl rfl ?_
          refine doff rfl rfl rfl rfl ?_
          refine doff rfl rfl rfl rfl ?_
          refine doff rfl rfl rfl rfl ?_
          refine doff rfl rfl rfl rfl ?_
          refine doff rfl rfl rfl rfl ?_
          refine dv rfl (opv_pick_t rfl rfl) ?_
          refine dnil ?_
          refine then_normal ?_
          refine ccond rfl (fun _ => ?_) (fun hx => Bool.noConfusion hx)
          refine cexit ?_
          refine then_exit ?_
          refine block_hit ?_
          refine then_normal ?_
          refine cregion ?_
          refine sv rfl (opv_add rfl rfl) ?_
          refine sv rfl (opv_mv rfl) ?_
          refine snil ?_
          obtain rfl := Option.some.inj h
          exact ⟨(n2, ((wI (s2.1 + 1)), s2.2)), _, hk2, ⟨rfl, rfl, rfl, rfl, rfl, rfl, trivial⟩, rfl, Nat.lt_succ_self _⟩
        · replace h := ite_f hc h
          clear hc
          refine dvg rfl rfl rfl (opv_mv rfl) ?_
          refine dvg rfl rfl rfl (opv_fieldAddr_lp fi48_0 rfl) ?_
          refine dvg rfl rfl rfl (opv_load1 ti3 rfl (.lp _ _ _ rfl) rfl) ?_
          obtain ⟨v10, hv10, h⟩ := bind_eq h
          refine ddg rfl rfl rfl (opD_call fn57 (opnds_cons rfl (opnds_cons rfl opnds_nil)) rfl (m57_slices_Contains_c hv10)) ?_
          refine dvg rfl rfl rfl (opv_not rfl) ?_
          refine dv rfl (opv_pick_f rfl rfl) ?_
          refine dv rfl (opv_mv rfl) ?_
          refine dsplit 26 rfl (fun hc => ?_) (fun hc => ?_)
          · replace h := ite_t hc h
            clear hc
            refine doff rfl rfl rfl rfl ?_
            refine doff rfl rfl rfl rfl ?_
            refine doff rfl rfl rfl rfl ?_
            refine doff rfl rfl rfl rfl ?_
            refine doff rfl rfl rfl rfl ?_
            refine doff rfl rfl rfl rfl ?_
            refine doff rfl rfl rfl rfl ?_
            refine dv rfl (opv_pick_t rfl rfl) ?_
            refine dnil ?_
            refine then_normal ?_
            refine ccond rfl (fun _ => ?_) (fun hx => Bool.noConfusion hx)
            refine cexit ?_
            refine then_exit ?_
            refine block_hit ?_
            refine then_normal ?_
            refine cregion ?_
            refine sv rfl (opv_add rfl rfl) ?_
            refine sv rfl (opv_mv rfl) ?_
            refine snil ?_
            obtain rfl := Option.some.inj h
            exact ⟨(n2, ((wI (s2.1 + 1)), s2.2)), _, hk2, ⟨rfl, rfl, rfl, rfl, rfl, rfl, trivial⟩, rfl, Nat.lt_succ_self _⟩
          · replace h := ite_f hc h
            clear hc
            refine dvg rfl rfl rfl (opv_loadN ti48 rfl (.lp _ _ _ rfl) (Nat.le_of_ble_eq_true rfl)) ?_
            refine dvg rfl rfl rfl (opv_mv rfl) ?_
            refine dvg rfl rfl rfl (opv_mv rfl) ?_
            obtain ⟨u11, hu11, h⟩ := bind_eq h
            refine dvg rfl rfl rfl (opv_ixo (f := eGSsiTx) si26 (fun _ => rfl) rfl rfl rfl rfl rfl hu11) ?_
            refine dvg rfl rfl rfl (opv_ldNo (f := eGSsiTx) (sz := 8) 0 ti48 (fun _ => rfl) rfl rfl rfl rfl (idx_eq hu11).2 (Nat.le_of_ble_eq_true rfl) rfl) ?_
            obtain ⟨v12, hv12, h⟩ := bind_eq h
            refine ddg rfl rfl rfl (opD_call fn41 (opnds_cons rfl (opnds_cons rfl opnds_nil)) rfl (m41_ssi_beside_c hv12)) ?_
            refine dvg rfl rfl rfl (opv_not rfl) ?_
            refine dv rfl (opv_pick_f rfl rfl) ?_
            refine dnil ?_
            refine then_normal ?_
            refine ccond rfl (fun hc => ?_) (fun hc => ?_)
            · replace h := ite_t hc h
              clear hc
              refine cexit ?_
              refine then_exit ?_
              refine block_hit ?_
              refine then_normal ?_
              refine cregion ?_
              refine sv rfl (opv_add rfl rfl) ?_
              refine sv rfl (opv_mv rfl) ?_
              refine snil ?_
              obtain rfl := Option.some.inj h
              exact ⟨(n2, ((wI (s2.1 + 1)), s2.2)), _, hk2, ⟨rfl, rfl, rfl, rfl, rfl, rfl, trivial⟩, rfl, Nat.lt_succ_self _⟩
            · replace h := ite_f hc h
              clear hc
              refine cskip ?_
              refine then_normal ?_
              exact ⟨(), _, h, ⟨rfl, rfl, rfl, rfl, rfl, rfl, rfl, rfl, trivial⟩, rfl⟩
    · replace h := ite_f hc h
      clear hc
      refine cexit ?_
      refine then_exit ?_
      refine then_exit ?_
      refine block_hit ?_
      refine then_normal ?_
      obtain rfl := Option.some.inj h
      obtain rfl : _ = x2 := hk2
      exact ⟨s2.2, _, ho2, trivial, rfl⟩

def m20_ssi_Commit_k8 (a0 : GSsiCert) (a2 : Int) (a3 : List (List UInt8)) (v2 : Int) (b8 : (List GSsiTx)) : Option (GSsiCert × Int) :=
  (idx b8 v2).bind fun u9 => (idx (b8.set v2.toNat (GSsiTx.mk u9.ID u9.Begin u9.End 2 u9.In u9.Out u9.RO u9.Keys)) v2).bind fun u10 => (idx ((b8.set v2.toNat (GSsiTx.mk u9.ID u9.Begin u9.End 2 u9.In u9.Out u9.RO u9.Keys)).set v2.toNat (GSsiTx.mk u10.ID u10.Begin a2 u10.State u10.In u10.Out u10.RO u10.Keys)) v2).bind fun u11 => some ((GSsiCert.mk (((b8.set v2.toNat (GSsiTx.mk u9.ID u9.Begin u9.End 2 u9.In u9.Out u9.RO u9.Keys)).set v2.toNat (GSsiTx.mk u10.ID u10.Begin a2 u10.State u10.In u10.Out u10.RO u10.Keys)).set v2.toNat (GSsiTx.mk u11.ID u11.Begin u11.End u11.State u11.In u11.Out u11.RO a3)) (GReadsTable.mk a0.Reads.L)), 0)
def m20_ssi_Commit (a0 : GSsiCert) (a1 : Int) (a2 : Int) (a3 : List (List UInt8)) : Option (GSsiCert × Int) :=
  (m13_ssi_Sane (GSsiCert.mk a0.Txs (GReadsTable.mk a0.Reads.L))).bind fun v1 => if (!v1) then (some ((GSsiCert.mk ([] : List GSsiTx) (GReadsTable.mk ([] : List GReadsRead))), 1)) else ((m35_ssi_active (GSsiCert.mk a0.Txs (GReadsTable.mk a0.Reads.L)) a1).bind fun v2 => if (decide (v2 < 0)) then (some ((GSsiCert.mk ([] : List GSsiTx) (GReadsTable.mk ([] : List GReadsRead))), 7)) else ((idx a0.Txs v2).bind fun u3 => (m46_ssi_mayEnd (GSsiCert.mk a0.Txs (GReadsTable.mk a0.Reads.L)) u3 a2 a3).bind fun v4 => if (!v4) then (some ((GSsiCert.mk ([] : List GSsiTx) (GReadsTable.mk ([] : List GReadsRead))), 1)) else ((idx a0.Txs v2).bind fun u5 => (m47_ssi_conflict (GSsiCert.mk a0.Txs (GReadsTable.mk a0.Reads.L)) u5 a3).bind fun v6 => if v6 then (some ((GSsiCert.mk ([] : List GSsiTx) (GReadsTable.mk ([] : List GReadsRead))), 9)) else ((m40_slices_Cloneo a0.Txs).bind fun v7 => (m49_ssi_readersOfo (GSsiCert.mk a0.Txs (GReadsTable.mk a0.Reads.L)) a3).bind fun v12 => (m48_ssi_passeds v7 v2 v12).bind fun v13 => if v13.2.length = v7.length then (if (!v13.1) then (some ((GSsiCert.mk ([] : List GSsiTx) (GReadsTable.mk ([] : List GReadsRead))), 10)) else ((idx v13.2 v2).bind fun u15 => (m45_ssi_pivot u15).bind fun v16 => if v16 then (some ((GSsiCert.mk ([] : List GSsiTx) (GReadsTable.mk ([] : List GReadsRead))), 10)) else (m20_ssi_Commit_k8 a0 a2 a3 v2 v13.2))) else none))))

set_option maxRecDepth 100000 in
theorem m20_ssi_Commit_c {a0 : GSsiCert} {a1 : Int} {a2 : Int} {a3 : List (List UInt8)} {r : GSsiCert × Int} (h : m20_ssi_Commit a0 a1 a2 a3 = some r) : CallsA Try.prog 20 [.agg a0, .one (.i .i64 a1), .one (.i .i64 a2), .one (.sl a3.length (a3.flatMap (eL eU8)))] (· = .tup [.agg r.1, .one (.i .i64 r.2)]) := by
  unfold m20_ssi_Commit at h
  refine callsA_of Try.func20 rfl (nt := 81) rfl (Nat.le_of_ble_eq_true rfl) ?_
  intro w0 S0
  refine cseq ?_
  refine cregion ?_
  refine sbox rfl rfl ?_
  refine salloc rfl zi31 ?_
  refine sv rfl (opv_as rfl) ?_
  refine snil ?_
  refine cseq ?_
  refine cseq ?_
  refine cregion ?_
  refine sv rfl (opv_loadN ti31 rfl (.lp _ _ _ rfl) (Nat.le_of_ble_eq_true rfl)) ?_
  obtain ⟨v1, hv1, h⟩ := bind_eq h
  refine scall1 rfl fn13 (opnds_cons rfl opnds_nil) (pubA_id rfl) (m13_ssi_Sane_c hv1) ?_
  refine sv rfl (opv_not rfl) ?_
  refine snil ?_
  refine ccond rfl (fun hc => ?_) (fun hc => ?_)
  · replace h := ite_t hc h
    clear hc
    refine cseq ?_
    refine cregion ?_
    refine sv rfl (opv_build zi31 pi31 parts_nil (.nil _)) ?_
    refine sstore sz31 rfl rfl rfl rfl (Nat.le_of_ble_eq_true rfl) ?_
    refine smem [.box a0, .box [.raw (.slice none 0 0), .raw (.slice none 0 0)]] rfl ?_
    refine sv rfl (opv_as rfl) ?_
    refine snil ?_
    refine cret ?_
    refine then_ret ?_
    obtain rfl := Option.some.inj h
    refine ⟨Or.inr rfl, _, _, _, (resVs_cons (ResV.agg _ _ _ _ _ ti31 rfl (.lp _ _ _ rfl) (Nat.le_of_ble_eq_true rfl)) (resVs_cons (ResV.tmp _ _ rfl) resVs_nil)), (pubC rfl), ?_⟩
    rfl
  · replace h := ite_f hc h
    clear hc
    refine cskip ?_
    refine then_normal ?_
    refine cseq ?_
    refine cregion ?_
    refine sv rfl (opv_loadN ti31 rfl (.lp _ _ _ rfl) (Nat.le_of_ble_eq_true rfl)) ?_
    refine sv rfl (opv_mv rfl) ?_
    obtain ⟨v2, hv2, h⟩ := bind_eq h
    refine scall1 rfl fn35 (opnds_cons rfl (opnds_cons rfl opnds_nil)) (pubA_id rfl) (m35_ssi_active_c hv2) ?_
    refine sv rfl (opv_as rfl) ?_
    refine snil ?_
    refine cseq ?_
    refine cblock ?_
    refine cseq ?_
    refine cregion ?_
    refine sv rfl (opv_mv rfl) ?_
    refine sv rfl (opv_lss rfl rfl) ?_
    refine sv rfl (opv_as rfl) ?_
    refine snil ?_
    refine ccond rfl (fun hc => ?_) (fun hc => ?_)
    · replace h := ite_t hc h
      clear hc
      refine cseq ?_
      refine cregion ?_
      refine sv rfl (opv_build zi31 pi31 parts_nil (.nil _)) ?_
      refine sstore sz31 rfl rfl rfl rfl (Nat.le_of_ble_eq_true rfl) ?_
      refine smem [.box a0, .box [.raw (.slice none 0 0), .raw (.slice none 0 0)]] rfl ?_
      refine sv rfl (opv_as rfl) ?_
      refine snil ?_
      refine cret ?_
      refine block_ret ?_
      refine then_ret ?_
      obtain rfl := Option.some.inj h
      refine ⟨Or.inr rfl, _, _, _, (resVs_cons (ResV.agg _ _ _ _ _ ti31 rfl (.lp _ _ _ rfl) (Nat.le_of_ble_eq_true rfl)) (resVs_cons (ResV.tmp _ _ rfl) resVs_nil)), (pubC rfl), ?_⟩
      rfl
    · replace h := ite_f hc h
      clear hc
      refine cseq ?_
      refine cdraw mixed (by kernel_rfl) ?_
      refine dv rfl (opv_loadN ti31 rfl (.lp _ _ _ rfl) (Nat.le_of_ble_eq_true rfl)) ?_
      refine dv rfl (opv_fieldAddr_lp fi31_0 rfl) ?_
      refine dv rfl (opv_load1 ti26 rfl (.lp _ _ _ rfl) rfl) ?_
      refine dv rfl (opv_mv rfl) ?_
      obtain ⟨u3, hu3, h⟩ := bind_eq h
      refine dv rfl (opv_ix (f := eGSsiTx) si26 (fun _ => rfl) rfl rfl rfl rfl hu3) ?_
      refine dv rfl (opv_loadNe (ys := [.i .i64 u3.ID, .i .i64 u3.Begin, .i .i64 u3.End, .i .i64 u3.State, .b u3.In, .b u3.Out, .b u3.RO, .sl u3.Keys.length (u3.Keys.flatMap (eL eU8))]) ti48 rfl (.cp _) rfl rfl) ?_
      refine dv rfl (opv_mv rfl) ?_
      refine dv rfl (opv_mv rfl) ?_
      obtain ⟨v4, hv4, h⟩ := bind_eq h
      refine dd rfl (opD_call fn46 (opnds_cons rfl (opnds_cons rfl (opnds_cons rfl (opnds_cons rfl opnds_nil)))) rfl (m46_ssi_mayEnd_c hv4)) ?_
      refine dv rfl (opv_not rfl) ?_
      refine dv rfl (opv_as rfl) ?_
      refine dnil ?_
      refine then_normal ?_
      refine ccond rfl (fun hc => ?_) (fun hc => ?_)
      · replace h := ite_t hc h
        clear hc
        refine cseq ?_
        refine cregion ?_
        refine sv rfl (opv_build zi31 pi31 parts_nil (.nil _)) ?_
        refine sstore sz31 rfl rfl rfl rfl (Nat.le_of_ble_eq_true rfl) ?_
        refine smem [.box a0, .box [.raw (.slice none 0 0), .raw (.slice none 0 0)]] rfl ?_
        refine sv rfl (opv_as rfl) ?_
        refine snil ?_
        refine cret ?_
        refine block_ret ?_
        refine then_ret ?_
        obtain rfl := Option.some.inj h
        refine ⟨Or.inr rfl, _, _, _, (resVs_cons (ResV.agg _ _ _ _ _ ti31 rfl (.lp _ _ _ rfl) (Nat.le_of_ble_eq_true rfl)) (resVs_cons (ResV.tmp _ _ rfl) resVs_nil)), (pubC rfl), ?_⟩
        rfl
      · replace h := ite_f hc h
        clear hc
        refine cseq ?_
        refine cdraw mixed (by kernel_rfl) ?_
        refine dv rfl (opv_loadN ti31 rfl (.lp _ _ _ rfl) (Nat.le_of_ble_eq_true rfl)) ?_
        refine dv rfl (opv_fieldAddr_lp fi31_0 rfl) ?_
        refine dv rfl (opv_load1 ti26 rfl (.lp _ _ _ rfl) rfl) ?_
        refine dv rfl (opv_mv rfl) ?_
        obtain ⟨u5, hu5, h⟩ := bind_eq h
        refine dv rfl (opv_ix (f := eGSsiTx) si26 (fun _ => rfl) rfl rfl rfl rfl hu5) ?_
        refine dv rfl (opv_loadNe (ys := [.i .i64 u5.ID, .i .i64 u5.Begin, .i .i64 u5.End, .i .i64 u5.State, .b u5.In, .b u5.Out, .b u5.RO, .sl u5.Keys.length (u5.Keys.flatMap (eL eU8))]) ti48 rfl (.cp _) rfl rfl) ?_
        refine dv rfl (opv_mv rfl) ?_
        obtain ⟨v6, hv6, h⟩ := bind_eq h
        refine dd rfl (opD_call fn47 (opnds_cons rfl (opnds_cons rfl (opnds_cons rfl opnds_nil))) rfl (m47_ssi_conflict_c hv6)) ?_
        refine dv rfl (opv_as rfl) ?_
        refine dnil ?_
        refine then_normal ?_
        refine ccond rfl (fun hc => ?_) (fun hc => ?_)
        · replace h := ite_t hc h
          clear hc
          refine cseq ?_
          refine cregion ?_
          refine sv rfl (opv_build zi31 pi31 parts_nil (.nil _)) ?_
          refine sstore sz31 rfl rfl rfl rfl (Nat.le_of_ble_eq_true rfl) ?_
          refine smem [.box a0, .box [.raw (.slice none 0 0), .raw (.slice none 0 0)]] rfl ?_
          refine sv rfl (opv_as rfl) ?_
          refine snil ?_
          refine cret ?_
          refine block_ret ?_
          refine then_ret ?_
          obtain rfl := Option.some.inj h
          refine ⟨Or.inr rfl, _, _, _, (resVs_cons (ResV.agg _ _ _ _ _ ti31 rfl (.lp _ _ _ rfl) (Nat.le_of_ble_eq_true rfl)) (resVs_cons (ResV.tmp _ _ rfl) resVs_nil)), (pubC rfl), ?_⟩
          rfl
        · replace h := ite_f hc h
          clear hc
          refine cskip ?_
          refine block_normal ?_
          refine then_normal ?_
          refine cseq ?_
          refine cregion ?_
          refine sv rfl (opv_fieldAddr_lp fi31_0 rfl) ?_
          refine sv rfl (opv_load1 ti26 rfl (.lp _ _ _ rfl) rfl) ?_
          obtain ⟨v7, hv7, h⟩ := bind_eq h
          refine scallB (x' := .s (.one (.ls 2 v7.length))) (M' := [.box a0, .box [.raw (.slice none 0 0), .raw (.slice none 0 0)], .arr 48 8 0 (v7.flatMap eGSsiTx)]) [] rfl fn40 (.func _) (opnds_cons rfl opnds_nil) (m40_slices_Cloneo_c hv7) rfl rfl (by decide) rfl rfl rfl ?_
          refine sv rfl (opv_as rfl) ?_
          refine snil ?_
          refine cseq ?_
          refine cseq ?_
          refine cjoin3 ((List GSsiTx)) (fun b8 => [(2, .s (.one (.i .i64 a2))), (3, .s (.one (.sl a3.length (a3.flatMap (eL eU8))))), (4, .s (.one (.lp 0 0))), (8, .s (.one (.lp 1 0))), (10, .s (.one (.i .i64 v2))), (11, .s (.one (.ls 2 b8.length)))]) (fun b8 => [.box a0, .box [.raw (.slice none 0 0), .raw (.slice none 0 0)], .arr 48 8 0 (b8.flatMap eGSsiTx)]) (fun b8 => m20_ssi_Commit_k8 a0 a2 a3 v2 b8 = some r) (fun _ _ => inbL_of rfl) (fun _ _ => blkinb_of rfl) (fun _ _ => Nat.le_of_ble_eq_true rfl) (fun b8 h => ?_) ?_
          · unfold m20_ssi_Commit_k8 at h
            refine cseq ?_
            refine cregion ?_
            refine sv rfl (opv_mv rfl) ?_
            refine sv rfl (opv_mv rfl) ?_
            refine sv rfl (opv_mv rfl) ?_
            refine sv rfl (opv_mv rfl) ?_
            refine sv rfl (opv_mv rfl) ?_
            refine sv rfl (opv_mv rfl) ?_
            refine sv rfl (opv_mv rfl) ?_
            refine sv rfl (opv_mv rfl) ?_
            obtain ⟨u9, hu9, h⟩ := bind_eq h
            refine sv rfl (opv_ixo (f := eGSsiTx) si26 (fun _ => rfl) rfl rfl rfl rfl rfl hu9) ?_
            refine sv rfl (opv_fieldAddr_ap fi48_3 rfl rfl (flat_len (f := eGSsiTx) (fun _ => rfl) _).symm) ?_
            refine sseto (f := eGSsiTx) (u' := (GSsiTx.mk u9.ID u9.Begin u9.End 2 u9.In u9.Out u9.RO u9.Keys)) (sz := 8) 3 sz3 (fun _ => rfl) rfl rfl rfl rfl rfl rfl rfl (List.all_eq_true.1 rfl) (idx_eq hu9).2 (Nat.le_of_ble_eq_true rfl) rfl ?_
            refine stell 11 (y := .s (.one (.ls 2 b8.length))) (.s (.one (.ls 2 (b8.set v2.toNat (GSsiTx.mk u9.ID u9.Begin u9.End 2 u9.In u9.Out u9.RO u9.Keys)).length))) rfl (congrArg (fun n => AV.s (.one (.ls 2 n))) List.length_set.symm) ?_
            refine stell 63 (y := .s (.one (.ls 2 b8.length))) (.s (.one (.ls 2 (b8.set v2.toNat (GSsiTx.mk u9.ID u9.Begin u9.End 2 u9.In u9.Out u9.RO u9.Keys)).length))) rfl (congrArg (fun n => AV.s (.one (.ls 2 n))) List.length_set.symm) ?_
            refine stell 65 (y := .s (.one (.ls 2 b8.length))) (.s (.one (.ls 2 (b8.set v2.toNat (GSsiTx.mk u9.ID u9.Begin u9.End 2 u9.In u9.Out u9.RO u9.Keys)).length))) rfl (congrArg (fun n => AV.s (.one (.ls 2 n))) List.length_set.symm) ?_
            refine stell 67 (y := .s (.one (.ls 2 b8.length))) (.s (.one (.ls 2 (b8.set v2.toNat (GSsiTx.mk u9.ID u9.Begin u9.End 2 u9.In u9.Out u9.RO u9.Keys)).length))) rfl (congrArg (fun n => AV.s (.one (.ls 2 n))) List.length_set.symm) ?_
            obtain ⟨u10, hu10, h⟩ := bind_eq h
            refine sv rfl (opv_ixo (f := eGSsiTx) si26 (fun _ => rfl) rfl rfl rfl rfl rfl hu10) ?_
            refine sv rfl (opv_fieldAddr_ap fi48_2 rfl rfl (flat_len (f := eGSsiTx) (fun _ => rfl) _).symm) ?_
            refine sseto (f := eGSsiTx) (u' := (GSsiTx.mk u10.ID u10.Begin a2 u10.State u10.In u10.Out u10.RO u10.Keys)) (sz := 8) 2 sz3 (fun _ => rfl) rfl rfl rfl rfl rfl rfl rfl (List.all_eq_true.1 rfl) (idx_eq hu10).2 (Nat.le_of_ble_eq_true rfl) rfl ?_
            refine stell 11 (y := .s (.one (.ls 2 (b8.set v2.toNat (GSsiTx.mk u9.ID u9.Begin u9.End 2 u9.In u9.Out u9.RO u9.Keys)).length))) (.s (.one (.ls 2 ((b8.set v2.toNat (GSsiTx.mk u9.ID u9.Begin u9.End 2 u9.In u9.Out u9.RO u9.Keys)).set v2.toNat (GSsiTx.mk u10.ID u10.Begin a2 u10.State u10.In u10.Out u10.RO u10.Keys)).length))) rfl (congrArg (fun n => AV.s (.one (.ls 2 n))) List.length_set.symm) ?_
            refine stell 63 (y := .s (.one (.ls 2 (b8.set v2.toNat (GSsiTx.mk u9.ID u9.Begin u9.End 2 u9.In u9.Out u9.RO u9.Keys)).length))) (.s (.one (.ls 2 ((b8.set v2.toNat (GSsiTx.mk u9.ID u9.Begin u9.End 2 u9.In u9.Out u9.RO u9.Keys)).set v2.toNat (GSsiTx.mk u10.ID u10.Begin a2 u10.State u10.In u10.Out u10.RO u10.Keys)).length))) rfl (congrArg (fun n => AV.s (.one (.ls 2 n))) List.length_set.symm) ?_
            refine stell 65 (y := .s (.one (.ls 2 (b8.set v2.toNat (GSsiTx.mk u9.ID u9.Begin u9.End 2 u9.In u9.Out u9.RO u9.Keys)).length))) (.s (.one (.ls 2 ((b8.set v2.toNat (GSsiTx.mk u9.ID u9.Begin u9.End 2 u9.In u9.Out u9.RO u9.Keys)).set v2.toNat (GSsiTx.mk u10.ID u10.Begin a2 u10.State u10.In u10.Out u10.RO u10.Keys)).length))) rfl (congrArg (fun n => AV.s (.one (.ls 2 n))) List.length_set.symm) ?_
            refine stell 67 (y := .s (.one (.ls 2 (b8.set v2.toNat (GSsiTx.mk u9.ID u9.Begin u9.End 2 u9.In u9.Out u9.RO u9.Keys)).length))) (.s (.one (.ls 2 ((b8.set v2.toNat (GSsiTx.mk u9.ID u9.Begin u9.End 2 u9.In u9.Out u9.RO u9.Keys)).set v2.toNat (GSsiTx.mk u10.ID u10.Begin a2 u10.State u10.In u10.Out u10.RO u10.Keys)).length))) rfl (congrArg (fun n => AV.s (.one (.ls 2 n))) List.length_set.symm) ?_
            obtain ⟨u11, hu11, h⟩ := bind_eq h
            refine sv rfl (opv_ixo (f := eGSsiTx) si26 (fun _ => rfl) rfl rfl rfl rfl rfl hu11) ?_
            refine sv rfl (opv_fieldAddr_ap fi48_7 rfl rfl (flat_len (f := eGSsiTx) (fun _ => rfl) _).symm) ?_
            refine sseto (f := eGSsiTx) (u' := (GSsiTx.mk u11.ID u11.Begin u11.End u11.State u11.In u11.Out u11.RO a3)) (sz := 8) 7 sz41 (fun _ => rfl) rfl rfl rfl rfl rfl rfl rfl (List.all_eq_true.1 rfl) (idx_eq hu11).2 (Nat.le_of_ble_eq_true rfl) rfl ?_
            refine stell 11 (y := .s (.one (.ls 2 ((b8.set v2.toNat (GSsiTx.mk u9.ID u9.Begin u9.End 2 u9.In u9.Out u9.RO u9.Keys)).set v2.toNat (GSsiTx.mk u10.ID u10.Begin a2 u10.State u10.In u10.Out u10.RO u10.Keys)).length))) (.s (.one (.ls 2 (((b8.set v2.toNat (GSsiTx.mk u9.ID u9.Begin u9.End 2 u9.In u9.Out u9.RO u9.Keys)).set v2.toNat (GSsiTx.mk u10.ID u10.Begin a2 u10.State u10.In u10.Out u10.RO u10.Keys)).set v2.toNat (GSsiTx.mk u11.ID u11.Begin u11.End u11.State u11.In u11.Out u11.RO a3)).length))) rfl (congrArg (fun n => AV.s (.one (.ls 2 n))) List.length_set.symm) ?_
            refine stell 63 (y := .s (.one (.ls 2 ((b8.set v2.toNat (GSsiTx.mk u9.ID u9.Begin u9.End 2 u9.In u9.Out u9.RO u9.Keys)).set v2.toNat (GSsiTx.mk u10.ID u10.Begin a2 u10.State u10.In u10.Out u10.RO u10.Keys)).length))) (.s (.one (.ls 2 (((b8.set v2.toNat (GSsiTx.mk u9.ID u9.Begin u9.End 2 u9.In u9.Out u9.RO u9.Keys)).set v2.toNat (GSsiTx.mk u10.ID u10.Begin a2 u10.State u10.In u10.Out u10.RO u10.Keys)).set v2.toNat (GSsiTx.mk u11.ID u11.Begin u11.End u11.State u11.In u11.Out u11.RO a3)).length))) rfl (congrArg (fun n => AV.s (.one (.ls 2 n))) List.length_set.symm) ?_
            refine stell 65 (y := .s (.one (.ls 2 ((b8.set v2.toNat (GSsiTx.mk u9.ID u9.Begin u9.End 2 u9.In u9.Out u9.RO u9.Keys)).set v2.toNat (GSsiTx.mk u10.ID u10.Begin a2 u10.State u10.In u10.Out u10.RO u10.Keys)).length))) (.s (.one (.ls 2 (((b8.set v2.toNat (GSsiTx.mk u9.ID u9.Begin u9.End 2 u9.In u9.Out u9.RO u9.Keys)).set v2.toNat (GSsiTx.mk u10.ID u10.Begin a2 u10.State u10.In u10.Out u10.RO u10.Keys)).set v2.toNat (GSsiTx.mk u11.ID u11.Begin u11.End u11.State u11.In u11.Out u11.RO a3)).length))) rfl (congrArg (fun n => AV.s (.one (.ls 2 n))) List.length_set.symm) ?_
            refine stell 67 (y := .s (.one (.ls 2 ((b8.set v2.toNat (GSsiTx.mk u9.ID u9.Begin u9.End 2 u9.In u9.Out u9.RO u9.Keys)).set v2.toNat (GSsiTx.mk u10.ID u10.Begin a2 u10.State u10.In u10.Out u10.RO u10.Keys)).length))) (.s (.one (.ls 2 (((b8.set v2.toNat (GSsiTx.mk u9.ID u9.Begin u9.End 2 u9.In u9.Out u9.RO u9.Keys)).set v2.toNat (GSsiTx.mk u10.ID u10.Begin a2 u10.State u10.In u10.Out u10.RO u10.Keys)).set v2.toNat (GSsiTx.mk u11.ID u11.Begin u11.End u11.State u11.In u11.Out u11.RO a3)).length))) rfl (congrArg (fun n => AV.s (.one (.ls 2 n))) List.length_set.symm) ?_
            refine snil ?_
            refine cseq ?_
            refine cregion ?_
            refine sv rfl (opv_mv rfl) ?_
            refine sv rfl (opv_fieldAddr_lp fi31_1 rfl) ?_
            refine sv rfl (opv_loadN ti29 rfl (.lp _ _ _ rfl) (Nat.le_of_ble_eq_true rfl)) ?_
            refine sv rfl (opv_build zi31 pi31 (parts_cons rfl (parts_cons rfl parts_nil)) (.cons _ _ _ _ _ _ _ rfl rfl (Nat.le_of_ble_eq_true rfl) (.cons _ _ _ _ _ _ _ rfl rfl (Nat.le_of_ble_eq_true rfl) (.nil _)))) ?_
            refine sstore sz31 rfl rfl rfl rfl (Nat.le_of_ble_eq_true rfl) ?_
            refine smem [.box a0, .box [.ls 2 (((b8.set v2.toNat (GSsiTx.mk u9.ID u9.Begin u9.End 2 u9.In u9.Out u9.RO u9.Keys)).set v2.toNat (GSsiTx.mk u10.ID u10.Begin a2 u10.State u10.In u10.Out u10.RO u10.Keys)).set v2.toNat (GSsiTx.mk u11.ID u11.Begin u11.End u11.State u11.In u11.Out u11.RO a3)).length, .sl a0.Reads.L.length (a0.Reads.L.flatMap eGReadsRead)], .arr 48 8 0 ((((b8.set v2.toNat (GSsiTx.mk u9.ID u9.Begin u9.End 2 u9.In u9.Out u9.RO u9.Keys)).set v2.toNat (GSsiTx.mk u10.ID u10.Begin a2 u10.State u10.In u10.Out u10.RO u10.Keys)).set v2.toNat (GSsiTx.mk u11.ID u11.Begin u11.End u11.State u11.In u11.Out u11.RO a3)).flatMap eGSsiTx)] rfl ?_
            refine sv rfl (opv_as rfl) ?_
            refine snil ?_
            refine cret ?_
            obtain rfl := Option.some.inj h
            refine ⟨Or.inr rfl, _, _, _, (resVs_cons (ResV.agg _ _ _ _ _ ti31 rfl (.lp _ _ _ rfl) (Nat.le_of_ble_eq_true rfl)) (resVs_cons (ResV.tmp _ _ rfl) resVs_nil)), (by (repeat' first | exact PubA.nil _ | apply PubA.cons | apply PubV.one | apply PubV.agg | exact PubL.nil | exact PubL.ls _ _ _ _ _ _ rfl (flat_len (f := eGSsiTx) (fun _ => rfl) _).symm | exact PubL.id _ rfl | exact PubLs.nil _ | apply PubLs.cons)), ?_⟩
            rfl
          · skip
            refine cregion ?_
            refine sv rfl (opv_mv rfl) ?_
            refine sv rfl (opv_mv rfl) ?_
            refine sv rfl (opv_loadN ti31 rfl (.lp _ _ _ rfl) (Nat.le_of_ble_eq_true rfl)) ?_
            refine sv rfl (opv_mv rfl) ?_
            obtain ⟨v12, hv12, h⟩ := bind_eq h
            refine scallB (x' := .s (.one (.ls 3 v12.length))) (M' := [.box a0, .box [.raw (.slice none 0 0), .raw (.slice none 0 0)], .arr 48 8 0 (v7.flatMap eGSsiTx), .arr 3 1 0 (v12.flatMap eI)]) [] rfl fn49 (.func _) (opnds_cons rfl (opnds_cons rfl opnds_nil)) (m49_ssi_readersOfo_c hv12) rfl rfl (by decide) rfl rfl rfl ?_
            refine spub 52 rfl (by (repeat' first | exact PubA.nil _ | apply PubA.cons | apply PubV.one | apply PubV.agg | exact PubL.nil | exact PubL.ls _ _ _ _ _ _ rfl (flat_len (f := eGSsiTx) (fun _ => rfl) _).symm | exact PubL.ls _ _ _ _ _ _ rfl (flat_len (f := eI) (fun _ => rfl) _).symm | exact PubL.id _ rfl | exact PubLs.nil _ | apply PubLs.cons)) ?_
            obtain ⟨v13, hv13, h⟩ := bind_eq h
            refine scallB (x' := .s (.one (.b v13.1))) (M' := [.box a0, .box [.raw (.slice none 0 0), .raw (.slice none 0 0)], .arr 48 8 0 (v13.2.flatMap eGSsiTx), .arr 3 1 (v12.flatMap eI).length (v12.flatMap eI)]) [2] rfl fn48 (.func _) (opnds_cons rfl (opnds_cons rfl (opnds_cons rfl opnds_nil))) (m48_ssi_passeds_c hv13) rfl rfl (by decide) rfl rfl rfl ?_
            obtain ⟨hl14, h⟩ := chk_eq h
            refine stell 47 (y := .s (.one (.ls 2 v7.length))) (.s (.one (.ls 2 v13.2.length))) rfl (congrArg (fun n => AV.s (.one (.ls 2 n))) hl14.symm) ?_
            refine stell 11 (y := .s (.one (.ls 2 v7.length))) (.s (.one (.ls 2 v13.2.length))) rfl (congrArg (fun n => AV.s (.one (.ls 2 n))) hl14.symm) ?_
            refine stell 48 (y := .s (.one (.ls 2 v7.length))) (.s (.one (.ls 2 v13.2.length))) rfl (congrArg (fun n => AV.s (.one (.ls 2 n))) hl14.symm) ?_
            refine sv rfl (opv_not rfl) ?_
            refine sv rfl (opv_mv rfl) ?_
            refine ssplit 55 rfl (fun hc => ?_) (fun hc => ?_)
            · replace h := ite_t hc h
              clear hc
              refine soff rfl rfl rfl rfl ?_
              refine soff rfl rfl rfl rfl ?_
              refine soff rfl rfl rfl rfl ?_
              refine soff rfl rfl rfl rfl ?_
              refine soff rfl rfl rfl rfl ?_
              refine sv rfl (opv_pick_t rfl rfl) ?_
              refine snil ?_
              refine ccond rfl (fun _ => ?_) (fun hx => Bool.noConfusion hx)
              refine cseq ?_
              refine cregion ?_
              refine sv rfl (opv_build zi31 pi31 parts_nil (.nil _)) ?_
              refine sstore sz31 rfl rfl rfl rfl (Nat.le_of_ble_eq_true rfl) ?_
              refine smem [.box a0, .box [.raw (.slice none 0 0), .raw (.slice none 0 0)], .arr 48 8 0 (v13.2.flatMap eGSsiTx), .arr 3 1 (v12.flatMap eI).length (v12.flatMap eI)] rfl ?_
              refine sv rfl (opv_as rfl) ?_
              refine snil ?_
              refine cret ?_
              refine then_ret ?_
              obtain rfl := Option.some.inj h
              refine ⟨Or.inr rfl, _, _, _, (resVs_cons (ResV.agg _ _ _ _ _ ti31 rfl (.lp _ _ _ rfl) (Nat.le_of_ble_eq_true rfl)) (resVs_cons (ResV.tmp _ _ rfl) resVs_nil)), (pubC rfl), ?_⟩
              rfl
            · replace h := ite_f hc h
              clear hc
              refine son rfl rfl rfl ?_
              refine sv rfl (opv_mv rfl) ?_
              refine son rfl rfl rfl ?_
              refine sv rfl (opv_mv rfl) ?_
              refine son rfl rfl rfl ?_
              obtain ⟨u15, hu15, h⟩ := bind_eq h
              refine sv rfl (opv_ixo (f := eGSsiTx) si26 (fun _ => rfl) rfl rfl rfl rfl rfl hu15) ?_
              refine son rfl rfl rfl ?_
              refine sv rfl (opv_ldNo (f := eGSsiTx) (sz := 8) 0 ti48 (fun _ => rfl) rfl rfl rfl rfl (idx_eq hu15).2 (Nat.le_of_ble_eq_true rfl) rfl) ?_
              refine son rfl rfl rfl ?_
              obtain ⟨v16, hv16, h⟩ := bind_eq h
              refine scall1 rfl fn45 (opnds_cons rfl opnds_nil) (pubA_id rfl) (m45_ssi_pivot_c hv16) ?_
              refine sv rfl (opv_pick_f rfl rfl) ?_
              refine snil ?_
              refine ccond rfl (fun hc => ?_) (fun hc => ?_)
              · replace h := ite_t hc h
                clear hc
                refine cseq ?_
                refine cregion ?_
                refine sv rfl (opv_build zi31 pi31 parts_nil (.nil _)) ?_
                refine sstore sz31 rfl rfl rfl rfl (Nat.le_of_ble_eq_true rfl) ?_
                refine smem [.box a0, .box [.raw (.slice none 0 0), .raw (.slice none 0 0)], .arr 48 8 0 (v13.2.flatMap eGSsiTx), .arr 3 1 (v12.flatMap eI).length (v12.flatMap eI)] rfl ?_
                refine sv rfl (opv_as rfl) ?_
                refine snil ?_
                refine cret ?_
                refine then_ret ?_
                obtain rfl := Option.some.inj h
                refine ⟨Or.inr rfl, _, _, _, (resVs_cons (ResV.agg _ _ _ _ _ ti31 rfl (.lp _ _ _ rfl) (Nat.le_of_ble_eq_true rfl)) (resVs_cons (ResV.tmp _ _ rfl) resVs_nil)), (pubC rfl), ?_⟩
                rfl
              · replace h := ite_f hc h
                clear hc
                refine cskip ?_
                refine then_normal ?_
                exact ⟨v13.2, _, h, ⟨rfl, rfl, rfl, rfl, rfl, rfl, trivial⟩, rfl⟩

def m9_l11_awake  : Option Bool :=
  (m17_ssi_Begin (GSsiCert.mk ([] : List GSsiTx) (GReadsTable.mk ([] : List GReadsRead))) 1 0 false).bind fun v1 => (m17_ssi_Begin (GSsiCert.mk v1.1.Txs (GReadsTable.mk v1.1.Reads.L)) 2 0 false).bind fun v2 => (m28_l11_key ([97] : List UInt8)).bind fun v3 => (m19_ssi_Read (GSsiCert.mk v2.1.Txs (GReadsTable.mk v2.1.Reads.L)) 1 (GApiRange.mk v3.Lo v3.Hi v3.Open)).bind fun v4 => (m28_l11_key ([98] : List UInt8)).bind fun v5 => (m19_ssi_Read (GSsiCert.mk v4.1.Txs (GReadsTable.mk v4.1.Reads.L)) 2 v5).bind fun v6 => (m20_ssi_Commit (GSsiCert.mk v6.1.Txs (GReadsTable.mk v6.1.Reads.L)) 1 5 [[(UInt8.ofBitVec (98#8))]]).bind fun v7 => (m20_ssi_Commit (GSsiCert.mk v7.1.Txs (GReadsTable.mk v7.1.Reads.L)) 2 6 [[(UInt8.ofBitVec (97#8))]]).bind fun v8 => (m20_ssi_Commit (GSsiCert.mk v7.1.Txs (GReadsTable.mk v7.1.Reads.L)) 2 6 ([] : List (List UInt8))).bind fun v9 => if (decide (v7.2 = 0)) then (if (decide (v8.2 = 10)) then (if (decide (v9.2 = 0)) then ((m13_ssi_Sane (GSsiCert.mk v7.1.Txs (GReadsTable.mk v7.1.Reads.L))).bind fun v10 => some v10) else (some false)) else (some false)) else (some false)

set_option maxRecDepth 100000 in
theorem m9_l11_awake_c  {r : Bool} (h : m9_l11_awake = some r) : CallsA Try.prog 9 [] (· = .s (.one (.b r))) := by
  unfold m9_l11_awake at h
  refine callsA_of Try.func9 rfl (nt := 66) rfl (Nat.le_of_ble_eq_true rfl) ?_
  intro w0 S0
  refine cseq ?_
  refine cregion ?_
  refine sv rfl (opv_as rfl) ?_
  refine snil ?_
  refine cseq ?_
  refine cregion ?_
  refine sv rfl (opv_build zi31 pi31 parts_nil (.nil _)) ?_
  obtain ⟨v1, hv1, h⟩ := bind_eq h
  refine scall1 rfl fn17 (opnds_cons rfl (opnds_cons rfl (opnds_cons rfl (opnds_cons rfl opnds_nil)))) (pubC rfl) (m17_ssi_Begin_c hv1) ?_
  refine sv rfl (opv_mvt rfl) ?_
  refine sv rfl (opv_extract rfl rfl) ?_
  refine sv rfl (opv_extract rfl rfl) ?_
  refine salloc rfl zi31 ?_
  refine sstore sz31 rfl rfl rfl rfl (Nat.le_of_ble_eq_true rfl) ?_
  refine smem [.box v1.1] rfl ?_
  refine sv rfl (opv_as rfl) ?_
  refine snil ?_
  refine cseq ?_
  refine cregion ?_
  refine sv rfl (opv_loadN ti31 rfl (.lp _ _ _ rfl) (Nat.le_of_ble_eq_true rfl)) ?_
  obtain ⟨v2, hv2, h⟩ := bind_eq h
  refine scall1 rfl fn17 (opnds_cons rfl (opnds_cons rfl (opnds_cons rfl (opnds_cons rfl opnds_nil)))) (pubA_id rfl) (m17_ssi_Begin_c hv2) ?_
  refine sv rfl (opv_mvt rfl) ?_
  refine sv rfl (opv_extract rfl rfl) ?_
  refine sv rfl (opv_extract rfl rfl) ?_
  refine sstore sz31 rfl rfl rfl rfl (Nat.le_of_ble_eq_true rfl) ?_
  refine smem [.box v2.1] rfl ?_
  refine snil ?_
  refine cseq ?_
  obtain ⟨v3, hv3, h⟩ := bind_eq h
  obtain ⟨v4, hv4, h⟩ := bind_eq h
  refine cdraw_e [6] [0, 0, 3, 7, 15, 15, 31] [[.box v2.1], [.box v4.1]] (by kernel_rfl) mixed (by kernel_rfl) (by decide) rfl rfl rfl rfl ?_
  refine ev (sees_at 0 rfl rfl) rfl rfl (opv_loadN ti31 rfl (.lp _ _ _ rfl) (Nat.le_of_ble_eq_true rfl)) ?_
  refine ed (sees_at 0 rfl rfl) rfl rfl (opD_call fn28 (opnds_cons rfl opnds_nil) rfl (m28_l11_key_c hv3)) ?_
  refine ed (sees_at 0 rfl rfl) rfl rfl (opD_call fn19 (opnds_cons rfl (opnds_cons rfl (opnds_cons rfl opnds_nil))) rfl (m19_ssi_Read_c hv4)) ?_
  refine ev (sees_at 0 rfl rfl) rfl rfl (opv_mvt rfl) ?_
  refine ev (sees_at 0 rfl rfl) rfl rfl (opv_extract rfl rfl) ?_
  refine ev (sees_all (md := [.dead]) ⟨⟨trivial, trivial⟩, ⟨⟨trivial, trivial⟩, trivial⟩⟩) rfl rfl (opv_extract rfl rfl) ?_
  refine ee0 0 rfl rfl rfl rfl (fun ζ => ?_) ?_
  · refine sstore sz31 rfl rfl rfl rfl (Nat.le_of_ble_eq_true rfl) ?_
    refine smem [.box v4.1] rfl ?_
    exact eend
  refine enil ?_
  refine then_normal ?_
  refine cseq ?_
  obtain ⟨v5, hv5, h⟩ := bind_eq h
  obtain ⟨v6, hv6, h⟩ := bind_eq h
  refine cdraw_e [6] [0, 0, 3, 7, 15, 15, 31] [[.box v4.1], [.box v6.1]] (by kernel_rfl) mixed (by kernel_rfl) (by decide) rfl rfl rfl rfl ?_
  refine ev (sees_at 0 rfl rfl) rfl rfl (opv_loadN ti31 rfl (.lp _ _ _ rfl) (Nat.le_of_ble_eq_true rfl)) ?_
  refine ed (sees_at 0 rfl rfl) rfl rfl (opD_call fn28 (opnds_cons rfl opnds_nil) rfl (m28_l11_key_c hv5)) ?_
  refine ed (sees_at 0 rfl rfl) rfl rfl (opD_call fn19 (opnds_cons rfl (opnds_cons rfl (opnds_cons rfl opnds_nil))) rfl (m19_ssi_Read_c hv6)) ?_
  refine ev (sees_at 0 rfl rfl) rfl rfl (opv_mvt rfl) ?_
  refine ev (sees_at 0 rfl rfl) rfl rfl (opv_extract rfl rfl) ?_
  refine ev (sees_all (md := [.dead]) ⟨⟨trivial, trivial⟩, ⟨⟨trivial, trivial⟩, trivial⟩⟩) rfl rfl (opv_extract rfl rfl) ?_
  refine ee0 0 rfl rfl rfl rfl (fun ζ => ?_) ?_
  · refine sstore sz31 rfl rfl rfl rfl (Nat.le_of_ble_eq_true rfl) ?_
    refine smem [.box v6.1] rfl ?_
    exact eend
  refine enil ?_
  refine then_normal ?_
  refine cseq ?_
  refine cregion ?_
  refine sv rfl (opv_loadN ti31 rfl (.lp _ _ _ rfl) (Nat.le_of_ble_eq_true rfl)) ?_
  refine sbuild1 rfl Try.underlying38 ei5 rfl rfl (List.all_eq_true.1 rfl) (by decide) ?_
  refine smem [.box v6.1, .arr 5 1 0 ([(UInt8.ofBitVec (98#8))].flatMap eU8)] rfl ?_
  refine sconv_id rfl Try.underlying38 Try.underlying5 rfl rfl (flat_len (f := eU8) (fun _ => rfl) [(UInt8.ofBitVec (98#8))]).symm (by decide) ?_
  refine sbuild1 rfl Try.underlying41 ei38 rfl rfl (List.all_eq_true.1 rfl) (by decide) ?_
  refine smem [.box v6.1, .dead, .arr 38 1 0 ([[(UInt8.ofBitVec (98#8))]].flatMap (eL eU8))] rfl ?_
  refine spub 35 rfl (by (repeat' first | exact PubA.nil _ | apply PubA.cons | apply PubV.one | apply PubV.agg | exact PubL.nil | exact PubL.ls _ _ _ _ _ _ rfl (flat_len (f := (eL eU8)) (fun _ => rfl) ([[(UInt8.ofBitVec (98#8))]] : List (List UInt8))).symm | exact PubL.ls _ _ _ _ _ _ rfl (flat_len (f := (eL eU8)) (fun _ => rfl) _).symm | exact PubL.id _ rfl | exact PubLs.nil _ | apply PubLs.cons)) ?_
  obtain ⟨v7, hv7, h⟩ := bind_eq h
  refine scall1 rfl fn20 (opnds_cons rfl (opnds_cons rfl (opnds_cons rfl (opnds_cons rfl opnds_nil)))) (pubA_id rfl) (m20_ssi_Commit_c hv7) ?_
  refine sv rfl (opv_mvt rfl) ?_
  refine sv rfl (opv_extract rfl rfl) ?_
  refine sv rfl (opv_extract rfl rfl) ?_
  refine salloc rfl zi31 ?_
  refine sstore sz31 rfl rfl rfl rfl (Nat.le_of_ble_eq_true rfl) ?_
  refine smem [.box v6.1, .dead, .arr 38 1 ([[(UInt8.ofBitVec (98#8))]].flatMap (eL eU8)).length ([[(UInt8.ofBitVec (98#8))]].flatMap (eL eU8)), .box v7.1] rfl ?_
  refine sv rfl (opv_as rfl) ?_
  refine snil ?_
  refine cseq ?_
  refine cregion ?_
  refine sv rfl (opv_loadN ti31 rfl (.lp _ _ _ rfl) (Nat.le_of_ble_eq_true rfl)) ?_
  refine sbuild1 rfl Try.underlying38 ei5 rfl rfl (List.all_eq_true.1 rfl) (by decide) ?_
  refine smem [.box v6.1, .dead, .arr 38 1 ([[(UInt8.ofBitVec (98#8))]].flatMap (eL eU8)).length ([[(UInt8.ofBitVec (98#8))]].flatMap (eL eU8)), .box v7.1, .arr 5 1 0 ([(UInt8.ofBitVec (97#8))].flatMap eU8)] rfl ?_
  refine sconv_id rfl Try.underlying38 Try.underlying5 rfl rfl (flat_len (f := eU8) (fun _ => rfl) [(UInt8.ofBitVec (97#8))]).symm (by decide) ?_
  refine sbuild1 rfl Try.underlying41 ei38 rfl rfl (List.all_eq_true.1 rfl) (by decide) ?_
  refine smem [.box v6.1, .dead, .arr 38 1 ([[(UInt8.ofBitVec (98#8))]].flatMap (eL eU8)).length ([[(UInt8.ofBitVec (98#8))]].flatMap (eL eU8)), .box v7.1, .dead, .arr 38 1 0 ([[(UInt8.ofBitVec (97#8))]].flatMap (eL eU8))] rfl ?_
  refine spub 43 rfl (by (repeat' first | exact PubA.nil _ | apply PubA.cons | apply PubV.one | apply PubV.agg | exact PubL.nil | exact PubL.ls _ _ _ _ _ _ rfl (flat_len (f := (eL eU8)) (fun _ => rfl) ([[(UInt8.ofBitVec (97#8))]] : List (List UInt8))).symm | exact PubL.ls _ _ _ _ _ _ rfl (flat_len (f := (eL eU8)) (fun _ => rfl) _).symm | exact PubL.id _ rfl | exact PubLs.nil _ | apply PubLs.cons)) ?_
  obtain ⟨v8, hv8, h⟩ := bind_eq h
  refine scall1 rfl fn20 (opnds_cons rfl (opnds_cons rfl (opnds_cons rfl (opnds_cons rfl opnds_nil)))) (pubA_id rfl) (m20_ssi_Commit_c hv8) ?_
  refine sv rfl (opv_mvt rfl) ?_
  refine sv rfl (opv_extract rfl rfl) ?_
  refine sv rfl (opv_extract rfl rfl) ?_
  refine salloc rfl zi31 ?_
  refine sstore sz31 rfl rfl rfl rfl (Nat.le_of_ble_eq_true rfl) ?_
  refine smem [.box v6.1, .dead, .arr 38 1 ([[(UInt8.ofBitVec (98#8))]].flatMap (eL eU8)).length ([[(UInt8.ofBitVec (98#8))]].flatMap (eL eU8)), .box v7.1, .dead, .arr 38 1 ([[(UInt8.ofBitVec (97#8))]].flatMap (eL eU8)).length ([[(UInt8.ofBitVec (97#8))]].flatMap (eL eU8)), .box v8.1] rfl ?_
  refine sv rfl (opv_as rfl) ?_
  refine snil ?_
  refine cseq ?_
  refine cregion ?_
  refine sv rfl (opv_loadN ti31 rfl (.lp _ _ _ rfl) (Nat.le_of_ble_eq_true rfl)) ?_
  obtain ⟨v9, hv9, h⟩ := bind_eq h
  refine scall1 rfl fn20 (opnds_cons rfl (opnds_cons rfl (opnds_cons rfl (opnds_cons rfl opnds_nil)))) (pubC rfl) (m20_ssi_Commit_c hv9) ?_
  refine sv rfl (opv_mvt rfl) ?_
  refine sv rfl (opv_extract rfl rfl) ?_
  refine sv rfl (opv_extract rfl rfl) ?_
  refine salloc rfl zi31 ?_
  refine sstore sz31 rfl rfl rfl rfl (Nat.le_of_ble_eq_true rfl) ?_
  refine smem [.box v6.1, .dead, .arr 38 1 ([[(UInt8.ofBitVec (98#8))]].flatMap (eL eU8)).length ([[(UInt8.ofBitVec (98#8))]].flatMap (eL eU8)), .box v7.1, .dead, .arr 38 1 ([[(UInt8.ofBitVec (97#8))]].flatMap (eL eU8)).length ([[(UInt8.ofBitVec (97#8))]].flatMap (eL eU8)), .box v8.1, .box v9.1] rfl ?_
  refine sv rfl (opv_as rfl) ?_
  refine snil ?_
  refine cseq ?_
  refine cregion ?_
  refine sv rfl (opv_mv rfl) ?_
  refine sv rfl (opv_ieql rfl rfl) ?_
  refine sv rfl (opv_mv rfl) ?_
  refine ssplit 54 rfl (fun hc => ?_) (fun hc => ?_)
  · replace h := ite_t hc h
    clear hc
    refine son rfl rfl rfl ?_
    refine sv rfl (opv_mv rfl) ?_
    refine son rfl rfl rfl ?_
    refine sv rfl (opv_ieql rfl rfl) ?_
    refine sv rfl (opv_pick_t rfl rfl) ?_
    refine sv rfl (opv_mv rfl) ?_
    refine ssplit 58 rfl (fun hc => ?_) (fun hc => ?_)
    · replace h := ite_t hc h
      clear hc
      refine son rfl rfl rfl ?_
      refine sv rfl (opv_mv rfl) ?_
      refine son rfl rfl rfl ?_
      refine sv rfl (opv_ieql rfl rfl) ?_
      refine sv rfl (opv_pick_t rfl rfl) ?_
      refine sv rfl (opv_mv rfl) ?_
      refine ssplit 62 rfl (fun hc => ?_) (fun hc => ?_)
      · replace h := ite_t hc h
        clear hc
        refine son rfl rfl rfl ?_
        refine sv rfl (opv_loadN ti31 rfl (.lp _ _ _ rfl) (Nat.le_of_ble_eq_true rfl)) ?_
        refine son rfl rfl rfl ?_
        obtain ⟨v10, hv10, h⟩ := bind_eq h
        refine scall1 rfl fn13 (opnds_cons rfl opnds_nil) (pubA_id rfl) (m13_ssi_Sane_c hv10) ?_
        refine sv rfl (opv_pick_t rfl rfl) ?_
        refine sv rfl (opv_as rfl) ?_
        refine snil ?_
        refine cret ?_
        obtain rfl := Option.some.inj h
        refine ⟨Or.inr rfl, _, _, _, (resVs_cons (ResV.tmp _ _ rfl) resVs_nil), (pubA_id rfl), ?_⟩
        rfl
      · replace h := ite_f hc h
        clear hc
        refine soff rfl rfl rfl rfl ?_
        refine soff rfl rfl rfl rfl ?_
        refine sv rfl (opv_pick_f rfl rfl) ?_
        refine sv rfl (opv_as rfl) ?_
        refine snil ?_
        refine cret ?_
        obtain rfl := Option.some.inj h
        refine ⟨Or.inr rfl, _, _, _, (resVs_cons (ResV.tmp _ _ rfl) resVs_nil), (pubA_id rfl), ?_⟩
        rfl
    · replace h := ite_f hc h
      clear hc
      refine soff rfl rfl rfl rfl ?_
      refine soff rfl rfl rfl rfl ?_
      refine sv rfl (opv_pick_f rfl rfl) ?_
      refine sv rfl (opv_mv rfl) ?_
      refine soff rfl rfl rfl rfl ?_
      refine soff rfl rfl rfl rfl ?_
      refine sv rfl (opv_pick_f rfl rfl) ?_
      refine sv rfl (opv_as rfl) ?_
      refine snil ?_
      refine cret ?_
      obtain rfl := Option.some.inj h
      refine ⟨Or.inr rfl, _, _, _, (resVs_cons (ResV.tmp _ _ rfl) resVs_nil), (pubA_id rfl), ?_⟩
      rfl
  · replace h := ite_f hc h
    clear hc
    refine soff rfl rfl rfl rfl ?_
    refine soff rfl rfl rfl rfl ?_
    refine sv rfl (opv_pick_f rfl rfl) ?_
    refine sv rfl (opv_mv rfl) ?_
    refine soff rfl rfl rfl rfl ?_
    refine soff rfl rfl rfl rfl ?_
    refine sv rfl (opv_pick_f rfl rfl) ?_
    refine sv rfl (opv_mv rfl) ?_
    refine soff rfl rfl rfl rfl ?_
    refine soff rfl rfl rfl rfl ?_
    refine sv rfl (opv_pick_f rfl rfl) ?_
    refine sv rfl (opv_as rfl) ?_
    refine snil ?_
    refine cret ?_
    obtain rfl := Option.some.inj h
    refine ⟨Or.inr rfl, _, _, _, (resVs_cons (ResV.tmp _ _ rfl) resVs_nil), (pubA_id rfl), ?_⟩
    rfl

def m18_r06_Short (a0 : GApiRange) : Option Bool :=
  if (decide ((a0.Lo.length : Int) ≤ 100)) then (some (decide ((a0.Hi.length : Int) ≤ 100))) else (some false)

set_option maxRecDepth 100000 in
theorem m18_r06_Short_c {a0 : GApiRange} {r : Bool} (h : m18_r06_Short a0 = some r) : CallsA Try.prog 18 [.agg a0] (· = .s (.one (.b r))) := by
  unfold m18_r06_Short at h
  refine callsA_of Try.func18 rfl (nt := 13) rfl (Nat.le_of_ble_eq_true rfl) ?_
  intro w0 S0
  refine cseq ?_
  refine cregion ?_
  refine sbox rfl rfl ?_
  refine sv rfl (opv_as rfl) ?_
  refine snil ?_
  refine cseq ?_
  refine cregion ?_
  refine sv rfl (opv_fieldAddr_lp fi40_0 rfl) ?_
  refine sv rfl (opv_load1 ti38 rfl (.lp _ _ _ rfl) rfl) ?_
  refine sv rfl (opv_len_sl si38 rfl) ?_
  refine sv rfl (opv_leq rfl rfl) ?_
  refine sv rfl (opv_mv rfl) ?_
  refine ssplit 7 rfl (fun hc => ?_) (fun hc => ?_)
  · replace h := ite_t hc h
    clear hc
    refine son rfl rfl rfl ?_
    refine sv rfl (opv_fieldAddr_lp fi40_1 rfl) ?_
    refine son rfl rfl rfl ?_
    refine sv rfl (opv_load1 ti38 rfl (.lp _ _ _ rfl) rfl) ?_
    refine son rfl rfl rfl ?_
    refine sv rfl (opv_len_sl si38 rfl) ?_
    refine son rfl rfl rfl ?_
    refine sv rfl (opv_leq rfl rfl) ?_
    refine sv rfl (opv_pick_t rfl rfl) ?_
    refine sv rfl (opv_as rfl) ?_
    refine snil ?_
    refine cret ?_
    obtain rfl := Option.some.inj h
    refine ⟨Or.inr rfl, _, _, _, (resVs_cons (ResV.tmp _ _ rfl) resVs_nil), (pubA_id rfl), ?_⟩
    rfl
  · replace h := ite_f hc h
    clear hc
    refine soff rfl rfl rfl rfl ?_
    refine soff rfl rfl rfl rfl ?_
    refine soff rfl rfl rfl rfl ?_
    refine soff rfl rfl rfl rfl ?_
    refine sv rfl (opv_pick_f rfl rfl) ?_
    refine sv rfl (opv_as rfl) ?_
    refine snil ?_
    refine cret ?_
    obtain rfl := Option.some.inj h
    refine ⟨Or.inr rfl, _, _, _, (resVs_cons (ResV.tmp _ _ rfl) resVs_nil), (pubA_id rfl), ?_⟩
    rfl

def m10_l11_small_k1 (b1 : Unit) : Option Bool :=
  some true

def m10_l11_small_k4 (s2 : Int) (b4 : Unit) : Option (LR (Int) (Unit) (Bool)) :=
  some (.cont (wI (s2 + 1)))

def m10_l11_small_s5 (a0 : List GL11Act) (s2 : Int) (s5 : Int) : Option (LR (Int) (Unit) (Bool)) :=
  (idx a0 s2).bind fun u6 => if (decide (s5 < (u6.Keys.length : Int))) then ((idx a0 s2).bind fun u7 => (idx u7.Keys s5).bind fun u8 => if (decide (50 < (u8.length : Int))) then (some (.ret false)) else (some (.cont (wI (s5 + 1))))) else (some (.brk ()))

def m10_l11_small_k3 (a0 : List GL11Act) (s2 : Int) (b3 : Unit) : Option (LR (Int) (Unit) (Bool)) :=
  (iter (m10_l11_small_s5 a0 s2) fuel 0).bind fun x => match x with | .inl r => some (.ret r) | .inr e9 => m10_l11_small_k4 s2 e9

def m10_l11_small_s2 (a0 : List GL11Act) (s2 : Int) : Option (LR (Int) (Unit) (Bool)) :=
  if (decide (s2 < (a0.length : Int))) then ((idx a0 s2).bind fun u10 => (m18_r06_Short (GApiRange.mk u10.Rng.Lo u10.Rng.Hi u10.Rng.Open)).bind fun v11 => if (!v11) then (some (.ret false)) else ((idx a0 s2).bind fun u12 => if (decide (10 < (u12.Keys.length : Int))) then (some (.ret false)) else (m10_l11_small_k3 a0 s2 ()))) else (some (.brk ()))
def m10_l11_small (a0 : List GL11Act) : Option Bool :=
  if (decide (60 < (a0.length : Int))) then (some false) else ((iter (m10_l11_small_s2 a0) fuel 0).bind fun x => match x with | .inl r => some r | .inr e13 => m10_l11_small_k1 e13)

set_option maxRecDepth 100000 in
theorem m10_l11_small_c {a0 : List GL11Act} {r : Bool} (h : m10_l11_small a0 = some r) : CallsA Try.prog 10 [.one (.sl a0.length (a0.flatMap eGL11Act))] (· = .s (.one (.b r))) := by
  unfold m10_l11_small at h
  refine callsA_of Try.func10 rfl (nt := 50) rfl (Nat.le_of_ble_eq_true rfl) ?_
  intro w0 S0
  refine cseq ?_
  refine cregion ?_
  refine sv rfl (opv_as rfl) ?_
  refine snil ?_
  refine cseq ?_
  refine cseq ?_
  refine cregion ?_
  refine sv rfl (opv_mv rfl) ?_
  refine sv rfl (opv_len_sl si22 rfl) ?_
  refine sv rfl (opv_gtr rfl rfl) ?_
  refine snil ?_
  refine ccond rfl (fun hc => ?_) (fun hc => ?_)
  · replace h := ite_t hc h
    clear hc
    refine cseq ?_
    refine cregion ?_
    refine sv rfl (opv_as rfl) ?_
    refine snil ?_
    refine cret ?_
    refine then_ret ?_
    obtain rfl := Option.some.inj h
    refine ⟨Or.inr rfl, _, _, _, (resVs_cons (ResV.tmp _ _ rfl) resVs_nil), (pubA_id rfl), ?_⟩
    rfl
  · replace h := ite_f hc h
    clear hc
    refine cskip ?_
    refine then_normal ?_
    refine cseq ?_
    refine cseq ?_
    refine cregion ?_
    refine sv rfl (opv_as rfl) ?_
    refine snil ?_
    refine cjoin (Unit) (fun b1 => []) (fun b1 => []) (fun b1 => m10_l11_small_k1 b1 = some r) (fun _ _ => inbL_of rfl) (fun _ _ => blkinb_of rfl) (fun _ _ => Nat.le_of_ble_eq_true rfl) (fun b1 h => ?_) ?_
    · unfold m10_l11_small_k1 at h
      refine cseq ?_
      refine cregion ?_
      refine sv rfl (opv_as rfl) ?_
      refine snil ?_
      refine cret ?_
      obtain rfl := Option.some.inj h
      refine ⟨Or.inr rfl, _, _, _, (resVs_cons (ResV.tmp _ _ rfl) resVs_nil), (pubA_id rfl), ?_⟩
      rfl
    · skip
      refine cblock ?_
      obtain ⟨x2, hx2, ho2⟩ := bind_eq h
      refine awc_loop (G := Nat × (Int)) (fun g => [(0, .s (.one (.sl a0.length (a0.flatMap eGL11Act)))), (3, .s (.one (.i .i64 g.2)))]) (fun g => []) (fun g => iter (m10_l11_small_s2 a0) g.1 g.2 = some x2) (fun g => g.1) (fuel, 0) hx2 ⟨rfl, rfl, trivial⟩ [] rfl (fun _ _ => inbL_of rfl) (fun _ _ => blkinb_of rfl) (fun _ _ => Nat.le_of_ble_eq_true rfl) ?_
      clear hx2 h
      rintro ⟨n2, s2⟩ h
      obtain ⟨n2, y2, rfl, h, hk2⟩ := iter_eq h
      unfold m10_l11_small_s2 at h
      refine cseq ?_
      refine cseq ?_
      refine cregion ?_
      refine sv rfl (opv_mv rfl) ?_
      refine sv rfl (opv_mv rfl) ?_
      refine sv rfl (opv_len_sl si22 rfl) ?_
      refine sv rfl (opv_lss rfl rfl) ?_
      refine snil ?_
      refine ccond rfl (fun hc => ?_) (fun hc => ?_)
      · replace h := ite_t hc h
        clear hc
        refine cskip ?_
        refine then_normal ?_
        refine cseq ?_
        refine cblock ?_
        refine cseq ?_
        refine cseq ?_
        refine cjoin3 (Unit) (fun b3 => [(0, .s (.one (.sl a0.length (a0.flatMap eGL11Act)))), (3, .s (.one (.i .i64 s2)))]) (fun b3 => []) (fun b3 => m10_l11_small_k3 a0 s2 b3 = some y2) (fun _ _ => inbL_of rfl) (fun _ _ => blkinb_of rfl) (fun _ _ => Nat.le_of_ble_eq_true rfl) (fun b3 h => ?_) ?_
        · unfold m10_l11_small_k3 at h
          refine cseq ?_
          refine cregion ?_
          refine sv rfl (opv_as rfl) ?_
          refine snil ?_
          refine cjoinb (Unit) (fun b4 => [(0, .s (.one (.sl a0.length (a0.flatMap eGL11Act)))), (3, .s (.one (.i .i64 s2)))]) (fun b4 => []) (fun b4 => m10_l11_small_k4 s2 b4 = some y2) (fun _ _ => inbL_of rfl) (fun _ _ => blkinb_of rfl) (fun _ _ => Nat.le_of_ble_eq_true rfl) (fun b4 h => ?_) ?_
          · unfold m10_l11_small_k4 at h
            refine cregion ?_
            refine sv rfl (opv_mv rfl) ?_
            refine sv rfl (opv_add rfl rfl) ?_
            refine sv rfl (opv_as rfl) ?_
            refine snil ?_
            obtain rfl := Option.some.inj h
            exact ⟨(n2, (wI (s2 + 1))), _, hk2, ⟨rfl, rfl, trivial⟩, rfl, Nat.lt_succ_self _⟩
          · skip
            refine cblock ?_
            obtain ⟨x5, hx5, ho5⟩ := bind_eq h
            refine awc_loop (G := Nat × (Int)) (fun g => [(0, .s (.one (.sl a0.length (a0.flatMap eGL11Act)))), (3, .s (.one (.i .i64 s2))), (4, .s (.one (.i .i64 g.2)))]) (fun g => []) (fun g => iter (m10_l11_small_s5 a0 s2) g.1 g.2 = some x5) (fun g => g.1) (fuel, 0) hx5 ⟨rfl, rfl, rfl, trivial⟩ [] rfl (fun _ _ => inbL_of rfl) (fun _ _ => blkinb_of rfl) (fun _ _ => Nat.le_of_ble_eq_true rfl) ?_
            clear hx5 h
            rintro ⟨n5, s5⟩ h
            obtain ⟨n5, y5, rfl, h, hk5⟩ := iter_eq h
            unfold m10_l11_small_s5 at h
            refine cseq ?_
            refine cseq ?_
            refine cregion ?_
            refine sv rfl (opv_mv rfl) ?_
            refine sv rfl (opv_mv rfl) ?_
            refine sv rfl (opv_mv rfl) ?_
            obtain ⟨u6, hu6, h⟩ := bind_eq h
            refine sv rfl (opv_ix (f := eGL11Act) si22 (fun _ => rfl) rfl rfl rfl rfl hu6) ?_
            refine sv rfl (opv_fieldAddr_cp fi43_4 rfl) ?_
            refine sv rfl (opv_load1 ti41 rfl (.cp _) rfl) ?_
            refine sv rfl (opv_len_sl si41 rfl) ?_
            refine sv rfl (opv_lss rfl rfl) ?_
            refine snil ?_
            refine ccond rfl (fun hc => ?_) (fun hc => ?_)
            · replace h := ite_t hc h
              clear hc
              refine cskip ?_
              refine then_normal ?_
              refine cseq ?_
              refine cblock ?_
              refine cseq ?_
              refine cregion ?_
              refine sv rfl (opv_mv rfl) ?_
              refine sv rfl (opv_mv rfl) ?_
              obtain ⟨u7, hu7, h⟩ := bind_eq h
              refine sv rfl (opv_ix (f := eGL11Act) si22 (fun _ => rfl) rfl rfl rfl rfl hu7) ?_
              refine sv rfl (opv_fieldAddr_cp fi43_4 rfl) ?_
              refine sv rfl (opv_load1 ti41 rfl (.cp _) rfl) ?_
              refine sv rfl (opv_mv rfl) ?_
              obtain ⟨u8, hu8, h⟩ := bind_eq h
              refine sv rfl (opv_ix (f := (eL eU8)) si41 (fun _ => rfl) rfl rfl rfl rfl hu8) ?_
              refine sv rfl (opv_load1 ti38 rfl (.cp _) rfl) ?_
              refine sv rfl (opv_len_sl si38 rfl) ?_
              refine sv rfl (opv_gtr rfl rfl) ?_
              refine snil ?_
              refine ccond rfl (fun hc => ?_) (fun hc => ?_)
              · replace h := ite_t hc h
                clear hc
                refine cseq ?_
                refine cregion ?_
                refine sv rfl (opv_as rfl) ?_
                refine snil ?_
                refine cret ?_
                refine block_ret ?_
                refine then_ret ?_
                refine then_ret ?_
                refine block_ret ?_
                refine block_ret ?_
                refine then_ret ?_
                refine then_ret ?_
                refine block_ret ?_
                refine then_ret ?_
                obtain rfl := Option.some.inj h
                obtain rfl : Sum.inl _ = x5 := hk5
                replace ho5 : some _ = some _ := ho5
                obtain rfl := Option.some.inj ho5
                obtain rfl : Sum.inl _ = x2 := hk2
                replace ho2 : some _ = some _ := ho2
                obtain rfl := Option.some.inj ho2
                refine ⟨Or.inr rfl, _, _, _, (resVs_cons (ResV.tmp _ _ rfl) resVs_nil), (pubA_id rfl), ?_⟩
                rfl
              · replace h := ite_f hc h
                clear hc
                refine cskip ?_
                refine block_normal ?_
                refine then_normal ?_
                refine cregion ?_
                refine sv rfl (opv_mv rfl) ?_
                refine sv rfl (opv_add rfl rfl) ?_
                refine sv rfl (opv_as rfl) ?_
                refine snil ?_
                obtain rfl := Option.some.inj h
                exact ⟨(n5, (wI (s5 + 1))), _, hk5, ⟨rfl, rfl, rfl, trivial⟩, rfl, Nat.lt_succ_self _⟩
            · replace h := ite_f hc h
              clear hc
              refine cexit ?_
              refine then_exit ?_
              refine then_exit ?_
              refine block_hit ?_
              refine block_normal ?_
              refine then_normal ?_
              obtain rfl := Option.some.inj h
              obtain rfl : _ = x5 := hk5
              exact ⟨(), _, ho5, ⟨rfl, rfl, trivial⟩, rfl⟩
        · skip
          refine cregion ?_
          refine sv rfl (opv_mv rfl) ?_
          refine sv rfl (opv_mv rfl) ?_
          obtain ⟨u10, hu10, h⟩ := bind_eq h
          refine sv rfl (opv_ix (f := eGL11Act) si22 (fun _ => rfl) rfl rfl rfl rfl hu10) ?_
          refine sv rfl (opv_fieldAddr_cp fi43_3 rfl) ?_
          refine sv rfl (opv_loadNe (ys := [.sl u10.Rng.Lo.length (u10.Rng.Lo.flatMap eU8), .sl u10.Rng.Hi.length (u10.Rng.Hi.flatMap eU8), .b u10.Rng.Open]) ti40 rfl (.cp _) rfl rfl) ?_
          obtain ⟨v11, hv11, h⟩ := bind_eq h
          refine scall1 rfl fn18 (opnds_cons rfl opnds_nil) (pubA_id rfl) (m18_r06_Short_c hv11) ?_
          refine sv rfl (opv_not rfl) ?_
          refine sv rfl (opv_mv rfl) ?_
          refine ssplit 21 rfl (fun hc => ?_) (fun hc => ?_)
          · replace h := ite_t hc h
            clear hc
            refine soff rfl rfl rfl rfl ?_
            refine soff rfl rfl rfl rfl ?_
            refine soff rfl rfl rfl rfl ?_
            refine soff rfl rfl rfl rfl ?_
            refine soff rfl rfl rfl rfl ?_
            refine soff rfl rfl rfl rfl ?_
            refine soff rfl rfl rfl rfl ?_
            refine sv rfl (opv_pick_t rfl rfl) ?_
            refine snil ?_
            refine ccond rfl (fun _ => ?_) (fun hx => Bool.noConfusion hx)
            refine cseq ?_
            refine cregion ?_
            refine sv rfl (opv_as rfl) ?_
            refine snil ?_
            refine cret ?_
            refine then_ret ?_
            refine block_ret ?_
            refine then_ret ?_
            refine then_ret ?_
            refine block_ret ?_
            refine then_ret ?_
            obtain rfl := Option.some.inj h
            obtain rfl : Sum.inl _ = x2 := hk2
            replace ho2 : some _ = some _ := ho2
            obtain rfl := Option.some.inj ho2
            refine ⟨Or.inr rfl, _, _, _, (resVs_cons (ResV.tmp _ _ rfl) resVs_nil), (pubA_id rfl), ?_⟩
            rfl
          · replace h := ite_f hc h
            clear hc
            refine son rfl rfl rfl ?_
            refine sv rfl (opv_mv rfl) ?_
            refine son rfl rfl rfl ?_
            refine sv rfl (opv_mv rfl) ?_
            refine son rfl rfl rfl ?_
            obtain ⟨u12, hu12, h⟩ := bind_eq h
            refine sv rfl (opv_ix (f := eGL11Act) si22 (fun _ => rfl) rfl rfl rfl rfl hu12) ?_
            refine son rfl rfl rfl ?_
            refine sv rfl (opv_fieldAddr_cp fi43_4 rfl) ?_
            refine son rfl rfl rfl ?_
            refine sv rfl (opv_load1 ti41 rfl (.cp _) rfl) ?_
            refine son rfl rfl rfl ?_
            refine sv rfl (opv_len_sl si41 rfl) ?_
            refine son rfl rfl rfl ?_
            refine sv rfl (opv_gtr rfl rfl) ?_
            refine sv rfl (opv_pick_f rfl rfl) ?_
            refine snil ?_
            refine ccond rfl (fun hc => ?_) (fun hc => ?_)
            · replace h := ite_t hc h
              clear hc
              refine cseq ?_
              refine cregion ?_
              refine sv rfl (opv_as rfl) ?_
              refine snil ?_
              refine cret ?_
              refine then_ret ?_
              refine block_ret ?_
              refine then_ret ?_
              refine then_ret ?_
              refine block_ret ?_
              refine then_ret ?_
              obtain rfl := Option.some.inj h
              obtain rfl : Sum.inl _ = x2 := hk2
              replace ho2 : some _ = some _ := ho2
              obtain rfl := Option.some.inj ho2
              refine ⟨Or.inr rfl, _, _, _, (resVs_cons (ResV.tmp _ _ rfl) resVs_nil), (pubA_id rfl), ?_⟩
              rfl
            · replace h := ite_f hc h
              clear hc
              refine cskip ?_
              refine then_normal ?_
              exact ⟨(), _, h, ⟨rfl, rfl, trivial⟩, rfl⟩
      · replace h := ite_f hc h
        clear hc
        refine cexit ?_
        refine then_exit ?_
        refine then_exit ?_
        refine block_hit ?_
        refine then_normal ?_
        obtain rfl := Option.some.inj h
        obtain rfl : _ = x2 := hk2
        exact ⟨(), _, ho2, trivial, rfl⟩

def m36_ssi_without_k1 (a0 : GSsiCert) (a1 : List Int) (b1 : (List GSsiTx)) : Option GSsiCert :=
  (m32_reads_Drop (GReadsTable.mk a0.Reads.L) a1).bind fun v2 => some (GSsiCert.mk b1 v2)

def m36_ssi_without_s3 (a0 : GSsiCert) (a1 : List Int) (s3 : Int × (List GSsiTx)) : Option (LB (Int × (List GSsiTx)) ((List GSsiTx))) :=
  if (decide (s3.1 < (a0.Txs.length : Int))) then ((idx a0.Txs s3.1).bind fun u4 => (m57_slices_Contains a1 u4.ID).bind fun v5 => if (!v5) then (if (s3.2.length + [u4].length) * 64 ≤ 140737488355328 then (some (.cont ((wI (s3.1 + 1)), (s3.2 ++ [u4])))) else none) else (some (.cont ((wI (s3.1 + 1)), s3.2)))) else (some (.brk s3.2))
def m36_ssi_without (a0 : GSsiCert) (a1 : List Int) : Option GSsiCert :=
  (iterB (m36_ssi_without_s3 a0 a1) fuel (0, ([] : List GSsiTx))).bind fun e7 => m36_ssi_without_k1 a0 a1 e7

set_option maxRecDepth 100000 in
theorem m36_ssi_without_c {a0 : GSsiCert} {a1 : List Int} {r : GSsiCert} (h : m36_ssi_without a0 a1 = some r) : CallsA Try.prog 36 [.agg a0, .one (.sl a1.length (a1.flatMap eI))] (· = .s (.agg r)) := by
  unfold m36_ssi_without at h
  refine callsA_of Try.func36 rfl (nt := 31) rfl (Nat.le_of_ble_eq_true rfl) ?_
  intro w0 S0
  refine cseq ?_
  refine cregion ?_
  refine sbox rfl rfl ?_
  refine salloc rfl zi31 ?_
  refine snil ?_
  refine cseq ?_
  refine cregion ?_
  refine sv rfl (opv_as rfl) ?_
  refine snil ?_
  refine cseq ?_
  refine cseq ?_
  refine cregion ?_
  refine sv rfl (opv_fieldAddr_lp fi31_0 rfl) ?_
  refine sv rfl (opv_load1 ti26 rfl (.lp _ _ _ rfl) rfl) ?_
  refine sv rfl (opv_len_sl si26 rfl) ?_
  refine sv rfl (opv_mv rfl) ?_
  refine snil ?_
  refine sadopt_c 48 8 5 (by decide) rfl ?_
  refine cjoin ((List GSsiTx)) (fun b1 => [(1, .s (.one (.sl a1.length (a1.flatMap eI)))), (2, .s (.one (.lp 0 0))), (4, .s (.one (.lp 1 0))), (5, .s (.one (.ls 2 b1.length)))]) (fun b1 => [.box a0, .box [.raw (.slice none 0 0), .raw (.slice none 0 0)], .arr 48 8 0 (b1.flatMap eGSsiTx)]) (fun b1 => m36_ssi_without_k1 a0 a1 b1 = some r) (fun _ _ => inbL_of rfl) (fun _ _ => blkinb_of rfl) (fun _ _ => Nat.le_of_ble_eq_true rfl) (fun b1 h => ?_) ?_
  · unfold m36_ssi_without_k1 at h
    refine cseq ?_
    refine cregion ?_
    refine sv rfl (opv_mv rfl) ?_
    refine sv rfl (opv_fieldAddr_lp fi31_1 rfl) ?_
    refine sv rfl (opv_loadN ti29 rfl (.lp _ _ _ rfl) (Nat.le_of_ble_eq_true rfl)) ?_
    refine sv rfl (opv_mv rfl) ?_
    obtain ⟨v2, hv2, h⟩ := bind_eq h
    refine scall1 rfl fn32 (opnds_cons rfl (opnds_cons rfl opnds_nil)) (pubA_id rfl) (m32_reads_Drop_c hv2) ?_
    refine sv rfl (opv_build zi31 pi31 (parts_cons rfl (parts_cons rfl parts_nil)) (.cons _ _ _ _ _ _ _ rfl rfl (Nat.le_of_ble_eq_true rfl) (.cons _ _ _ _ _ _ _ rfl rfl (Nat.le_of_ble_eq_true rfl) (.nil _)))) ?_
    refine sstore sz31 rfl rfl rfl rfl (Nat.le_of_ble_eq_true rfl) ?_
    refine smem [.box a0, .box [.ls 2 b1.length, .sl v2.L.length (v2.L.flatMap eGReadsRead)], .arr 48 8 0 (b1.flatMap eGSsiTx)] rfl ?_
    refine snil ?_
    refine cret ?_
    obtain rfl := Option.some.inj h
    refine ⟨Or.inr rfl, _, _, _, (resVs_cons (ResV.agg _ _ _ _ _ ti31 rfl (.lp _ _ _ rfl) (Nat.le_of_ble_eq_true rfl)) resVs_nil), (by (repeat' first | exact PubA.nil _ | apply PubA.cons | apply PubV.one | apply PubV.agg | exact PubL.nil | exact PubL.ls _ _ _ _ _ _ rfl (flat_len (f := eGSsiTx) (fun _ => rfl) _).symm | exact PubL.id _ rfl | exact PubLs.nil _ | apply PubLs.cons)), ?_⟩
    rfl
  · skip
    refine cblock ?_
    obtain ⟨x3, hx3, ho3⟩ := bind_eq h
    refine awc_loop (G := Nat × (Int × (List GSsiTx))) (fun g => [(1, .s (.one (.sl a1.length (a1.flatMap eI)))), (2, .s (.one (.lp 0 0))), (4, .s (.one (.lp 1 0))), (5, .s (.one (.ls 2 g.2.2.length))), (9, .s (.one (.sl a0.Txs.length (a0.Txs.flatMap eGSsiTx)))), (10, .s (.one (.i .i64 (a0.Txs.length : Int)))), (11, .s (.one (.i .i64 g.2.1)))]) (fun g => [.box a0, .box [.raw (.slice none 0 0), .raw (.slice none 0 0)], .arr 48 8 0 (g.2.2.flatMap eGSsiTx)]) (fun g => iterB (m36_ssi_without_s3 a0 a1) g.1 g.2 = some x3) (fun g => g.1) (fuel, (0, ([] : List GSsiTx))) hx3 ⟨rfl, rfl, rfl, rfl, rfl, rfl, rfl, trivial⟩ [] rfl (fun _ _ => inbL_of rfl) (fun _ _ => blkinb_of rfl) (fun _ _ => Nat.le_of_ble_eq_true rfl) ?_
    clear hx3 h
    rintro ⟨n3, s3⟩ h
    obtain ⟨n3, y3, rfl, h, hk3⟩ := iterB_eq h
    unfold m36_ssi_without_s3 at h
    refine cseq ?_
    refine cregion ?_
    refine sv rfl (opv_lss rfl rfl) ?_
    refine snil ?_
    refine cseq ?_
    refine ccond rfl (fun hc => ?_) (fun hc => ?_)
    · replace h := ite_t hc h
      clear hc
      refine cskip ?_
      refine then_normal ?_
      refine cseq ?_
      refine cblock ?_
      refine cseq ?_
      refine cregion ?_
      obtain ⟨u4, hu4, h⟩ := bind_eq h
      refine sv rfl (opv_ix (f := eGSsiTx) si26 (fun _ => rfl) rfl rfl rfl rfl hu4) ?_
      refine sv rfl (opv_loadNe (ys := [.i .i64 u4.ID, .i .i64 u4.Begin, .i .i64 u4.End, .i .i64 u4.State, .b u4.In, .b u4.Out, .b u4.RO, .sl u4.Keys.length (u4.Keys.flatMap (eL eU8))]) ti48 rfl (.cp _) rfl rfl) ?_
      refine salloc rfl zi48 ?_
      refine sstore sz48 rfl rfl rfl rfl (Nat.le_of_ble_eq_true rfl) ?_
      refine smem [.box a0, .box [.raw (.slice none 0 0), .raw (.slice none 0 0)], .arr 48 8 0 (s3.2.flatMap eGSsiTx), .box u4] rfl ?_
      refine snil ?_
      refine cseq ?_
      refine cregion ?_
      refine sv rfl (opv_mv rfl) ?_
      refine sv rfl (opv_fieldAddr_lp fi48_0 rfl) ?_
      refine sv rfl (opv_load1 ti3 rfl (.lp _ _ _ rfl) rfl) ?_
      obtain ⟨v5, hv5, h⟩ := bind_eq h
      refine scall1 rfl fn57 (opnds_cons rfl (opnds_cons rfl opnds_nil)) (pubA_id rfl) (m57_slices_Contains_c hv5) ?_
      refine sv rfl (opv_not rfl) ?_
      refine snil ?_
      refine ccond rfl (fun hc => ?_) (fun hc => ?_)
      · replace h := ite_t hc h
        clear hc
        refine cregion ?_
        refine sv rfl (opv_mv rfl) ?_
        refine sv rfl (opv_loadN ti48 rfl (.lp _ _ _ rfl) (Nat.le_of_ble_eq_true rfl)) ?_
        refine sbuild1 rfl Try.underlying26 ei48 rfl rfl (List.all_eq_true.1 rfl) (by decide) ?_
        refine smem [.box a0, .box [.raw (.slice none 0 0), .raw (.slice none 0 0)], .arr 48 8 0 (s3.2.flatMap eGSsiTx), .box u4, .arr 48 8 0 ([u4].flatMap eGSsiTx)] rfl ?_
        obtain ⟨hb6, h⟩ := chk_eq h
        refine sapp (f := eGSsiTx) (xs := s3.2) (us := [u4]) rfl Try.underlying26 ei48 ni26 (fun _ => rfl) rfl rfl (.one _ _ _ _ (.ls _ _ _ _ _ _ rfl (flat_len (f := eGSsiTx) (fun _ => rfl) [u4]).symm)) rfl rfl rfl (.sl _ _ _ (flat_len (f := eGSsiTx) (fun _ => rfl) _)) rfl rfl hb6 (by decide) ?_
        refine sv rfl (opv_as rfl) ?_
        refine snil0 ?_
        refine block_normal ?_
        refine then_normal ?_
        refine cregion ?_
        refine sv rfl (opv_add rfl rfl) ?_
        refine sv rfl (opv_mv rfl) ?_
        refine snil ?_
        obtain rfl := Option.some.inj h
        exact ⟨(n3, ((wI (s3.1 + 1)), (s3.2 ++ [u4]))), _, hk3, ⟨rfl, rfl, rfl, rfl, rfl, rfl, rfl, trivial⟩, rfl, Nat.lt_succ_self _⟩
      · replace h := ite_f hc h
        clear hc
        refine cskip ?_
        refine block_normal ?_
        refine then_normal ?_
        refine cregion ?_
        refine sv rfl (opv_add rfl rfl) ?_
        refine sv rfl (opv_mv rfl) ?_
        refine snil ?_
        obtain rfl := Option.some.inj h
        exact ⟨(n3, ((wI (s3.1 + 1)), s3.2)), _, hk3, ⟨rfl, rfl, rfl, rfl, rfl, rfl, rfl, trivial⟩, rfl, Nat.lt_succ_self _⟩
    · replace h := ite_f hc h
      clear hc
      refine cexit ?_
      refine then_exit ?_
      refine then_exit ?_
      refine block_hit ?_
      refine then_normal ?_
      obtain rfl := Option.some.inj h
      obtain rfl : _ = x3 := hk3
      exact ⟨s3.2, _, ho3, ⟨rfl, rfl, rfl, rfl, trivial⟩, rfl⟩

def m15_ssi_Abort (a0 : GSsiCert) (a1 : Int) : Option GSsiCert :=
  (m35_ssi_active (GSsiCert.mk a0.Txs (GReadsTable.mk a0.Reads.L)) a1).bind fun v1 => if (decide (v1 < 0)) then (some (GSsiCert.mk a0.Txs (GReadsTable.mk a0.Reads.L))) else ((m36_ssi_without (GSsiCert.mk a0.Txs (GReadsTable.mk a0.Reads.L)) [a1]).bind fun v2 => some (GSsiCert.mk v2.Txs (GReadsTable.mk v2.Reads.L)))

set_option maxRecDepth 100000 in
theorem m15_ssi_Abort_c {a0 : GSsiCert} {a1 : Int} {r : GSsiCert} (h : m15_ssi_Abort a0 a1 = some r) : CallsA Try.prog 15 [.agg a0, .one (.i .i64 a1)] (· = .s (.agg r)) := by
  unfold m15_ssi_Abort at h
  refine callsA_of Try.func15 rfl (nt := 14) rfl (Nat.le_of_ble_eq_true rfl) ?_
  intro w0 S0
  refine cseq ?_
  refine cregion ?_
  refine sbox rfl rfl ?_
  refine salloc rfl zi31 ?_
  refine snil ?_
  refine cseq ?_
  refine cseq ?_
  refine cregion ?_
  refine sv rfl (opv_loadN ti31 rfl (.lp _ _ _ rfl) (Nat.le_of_ble_eq_true rfl)) ?_
  refine sv rfl (opv_mv rfl) ?_
  obtain ⟨v1, hv1, h⟩ := bind_eq h
  refine scall1 rfl fn35 (opnds_cons rfl (opnds_cons rfl opnds_nil)) (pubA_id rfl) (m35_ssi_active_c hv1) ?_
  refine sv rfl (opv_lss rfl rfl) ?_
  refine snil ?_
  refine ccond rfl (fun hc => ?_) (fun hc => ?_)
  · replace h := ite_t hc h
    clear hc
    refine cseq ?_
    refine cregion ?_
    refine sv rfl (opv_loadN ti31 rfl (.lp _ _ _ rfl) (Nat.le_of_ble_eq_true rfl)) ?_
    refine sstore sz31 rfl rfl rfl rfl (Nat.le_of_ble_eq_true rfl) ?_
    refine smem [.box a0, .box a0] rfl ?_
    refine snil ?_
    refine cret ?_
    refine then_ret ?_
    obtain rfl := Option.some.inj h
    refine ⟨Or.inr rfl, _, _, _, (resVs_cons (ResV.agg _ _ _ _ _ ti31 rfl (.lp _ _ _ rfl) (Nat.le_of_ble_eq_true rfl)) resVs_nil), (pubA_id rfl), ?_⟩
    rfl
  · replace h := ite_f hc h
    clear hc
    refine cskip ?_
    refine then_normal ?_
    refine cseq ?_
    refine cregion ?_
    refine sv rfl (opv_loadN ti31 rfl (.lp _ _ _ rfl) (Nat.le_of_ble_eq_true rfl)) ?_
    refine sv rfl (opv_mv rfl) ?_
    refine sbuild1 rfl Try.underlying32 ei3 rfl rfl (List.all_eq_true.1 rfl) (by decide) ?_
    refine smem [.box a0, .box [.raw (.slice none 0 0), .raw (.slice none 0 0)], .arr 3 1 0 ([a1].flatMap eI)] rfl ?_
    refine spub 12 rfl (by (repeat' first | exact PubA.nil _ | apply PubA.cons | apply PubV.one | apply PubV.agg | exact PubL.nil | exact PubL.ls _ _ _ _ _ _ rfl (flat_len (f := eI) (fun _ => rfl) ([a1] : List Int)).symm | exact PubL.ls _ _ _ _ _ _ rfl (flat_len (f := eI) (fun _ => rfl) _).symm | exact PubL.id _ rfl | exact PubLs.nil _ | apply PubLs.cons)) ?_
    obtain ⟨v2, hv2, h⟩ := bind_eq h
    refine scall1 rfl fn36 (opnds_cons rfl (opnds_cons rfl opnds_nil)) (pubA_id rfl) (m36_ssi_without_c hv2) ?_
    refine sstore sz31 rfl rfl rfl rfl (Nat.le_of_ble_eq_true rfl) ?_
    refine smem [.box a0, .box v2, .arr 3 1 ([a1].flatMap eI).length ([a1].flatMap eI)] rfl ?_
    refine snil ?_
    refine cret ?_
    obtain rfl := Option.some.inj h
    refine ⟨Or.inr rfl, _, _, _, (resVs_cons (ResV.agg _ _ _ _ _ ti31 rfl (.lp _ _ _ rfl) (Nat.le_of_ble_eq_true rfl)) resVs_nil), (pubA_id rfl), ?_⟩
    rfl

def m23_ssi_Oldest_k1 (b1 : Int) : Option Int :=
  some b1

def m23_ssi_Oldest_s2 (a0 : GSsiCert) (s2 : Int × Int) : Option (LB (Int × Int) (Int)) :=
  if (decide (s2.2 < (a0.Txs.length : Int))) then ((idx a0.Txs s2.2).bind fun u3 => if (decide (u3.State = 1)) then (some (.cont ((if u3.Begin < s2.1 then u3.Begin else s2.1), (wI (s2.2 + 1))))) else (some (.cont (s2.1, (wI (s2.2 + 1)))))) else (some (.brk s2.1))
def m23_ssi_Oldest (a0 : GSsiCert) (a1 : Int) : Option Int :=
  (iterB (m23_ssi_Oldest_s2 a0) fuel (a1, 0)).bind fun e4 => m23_ssi_Oldest_k1 e4

set_option maxRecDepth 100000 in
theorem m23_ssi_Oldest_c {a0 : GSsiCert} {a1 : Int} {r : Int} (h : m23_ssi_Oldest a0 a1 = some r) : CallsA Try.prog 23 [.agg a0, .one (.i .i64 a1)] (· = .s (.one (.i .i64 r))) := by
  unfold m23_ssi_Oldest at h
  refine callsA_of Try.func23 rfl (nt := 23) rfl (Nat.le_of_ble_eq_true rfl) ?_
  intro w0 S0
  refine cseq ?_
  refine cregion ?_
  refine sbox rfl rfl ?_
  refine sv rfl (opv_as rfl) ?_
  refine snil ?_
  refine cseq ?_
  refine cseq ?_
  refine cregion ?_
  refine sv rfl (opv_fieldAddr_lp fi31_0 rfl) ?_
  refine sv rfl (opv_load1 ti26 rfl (.lp _ _ _ rfl) rfl) ?_
  refine sv rfl (opv_len_sl si26 rfl) ?_
  refine sv rfl (opv_mv rfl) ?_
  refine snil ?_
  refine cjoin (Int) (fun b1 => [(1, .s (.one (.i .i64 b1)))]) (fun b1 => [.box a0]) (fun b1 => m23_ssi_Oldest_k1 b1 = some r) (fun _ _ => inbL_of rfl) (fun _ _ => blkinb_of rfl) (fun _ _ => Nat.le_of_ble_eq_true rfl) (fun b1 h => ?_) ?_
  · unfold m23_ssi_Oldest_k1 at h
    refine cseq ?_
    refine cregion ?_
    refine sv rfl (opv_mv rfl) ?_
    refine sv rfl (opv_as rfl) ?_
    refine snil ?_
    refine cret ?_
    obtain rfl := Option.some.inj h
    refine ⟨Or.inr rfl, _, _, _, (resVs_cons (ResV.tmp _ _ rfl) resVs_nil), (pubA_id rfl), ?_⟩
    rfl
  · skip
    refine cblock ?_
    obtain ⟨x2, hx2, ho2⟩ := bind_eq h
    refine awc_loop (G := Nat × (Int × Int)) (fun g => [(1, .s (.one (.i .i64 g.2.1))), (8, .s (.one (.sl a0.Txs.length (a0.Txs.flatMap eGSsiTx)))), (9, .s (.one (.i .i64 (a0.Txs.length : Int)))), (10, .s (.one (.i .i64 g.2.2)))]) (fun g => [.box a0]) (fun g => iterB (m23_ssi_Oldest_s2 a0) g.1 g.2 = some x2) (fun g => g.1) (fuel, (a1, 0)) hx2 ⟨rfl, rfl, rfl, rfl, trivial⟩ [] rfl (fun _ _ => inbL_of rfl) (fun _ _ => blkinb_of rfl) (fun _ _ => Nat.le_of_ble_eq_true rfl) ?_
    clear hx2 h
    rintro ⟨n2, s2⟩ h
    obtain ⟨n2, y2, rfl, h, hk2⟩ := iterB_eq h
    unfold m23_ssi_Oldest_s2 at h
    refine cseq ?_
    refine cregion ?_
    refine sv rfl (opv_lss rfl rfl) ?_
    refine snil ?_
    refine cseq ?_
    refine ccond rfl (fun hc => ?_) (fun hc => ?_)
    · replace h := ite_t hc h
      clear hc
      refine cskip ?_
      refine then_normal ?_
      refine cseq ?_
      refine cblock ?_
      refine cseq ?_
      refine cregion ?_
      obtain ⟨u3, hu3, h⟩ := bind_eq h
      refine sv rfl (opv_ix (f := eGSsiTx) si26 (fun _ => rfl) rfl rfl rfl rfl hu3) ?_
      refine sv rfl (opv_loadNe (ys := [.i .i64 u3.ID, .i .i64 u3.Begin, .i .i64 u3.End, .i .i64 u3.State, .b u3.In, .b u3.Out, .b u3.RO, .sl u3.Keys.length (u3.Keys.flatMap (eL eU8))]) ti48 rfl (.cp _) rfl rfl) ?_
      refine salloc rfl zi48 ?_
      refine sstore sz48 rfl rfl rfl rfl (Nat.le_of_ble_eq_true rfl) ?_
      refine smem [.box a0, .box u3] rfl ?_
      refine snil ?_
      refine cseq ?_
      refine cregion ?_
      refine sv rfl (opv_fieldAddr_lp fi48_3 rfl) ?_
      refine sv rfl (opv_load1 ti3 rfl (.lp _ _ _ rfl) rfl) ?_
      refine sv rfl (opv_ieql rfl rfl) ?_
      refine snil ?_
      refine ccond rfl (fun hc => ?_) (fun hc => ?_)
      · replace h := ite_t hc h
        clear hc
        refine cregion ?_
        refine sv rfl (opv_mv rfl) ?_
        refine sv rfl (opv_fieldAddr_lp fi48_1 rfl) ?_
        refine sv rfl (opv_load1 ti3 rfl (.lp _ _ _ rfl) rfl) ?_
        refine sv rfl (opv_min rfl rfl) ?_
        refine sv rfl (opv_as rfl) ?_
        refine snil0 ?_
        refine block_normal ?_
        refine then_normal ?_
        refine cregion ?_
        refine sv rfl (opv_add rfl rfl) ?_
        refine sv rfl (opv_mv rfl) ?_
        refine snil ?_
        obtain rfl := Option.some.inj h
        exact ⟨(n2, ((if u3.Begin < s2.1 then u3.Begin else s2.1), (wI (s2.2 + 1)))), _, hk2, ⟨rfl, rfl, rfl, rfl, trivial⟩, rfl, Nat.lt_succ_self _⟩
      · replace h := ite_f hc h
        clear hc
        refine cskip ?_
        refine block_normal ?_
        refine then_normal ?_
        refine cregion ?_
        refine sv rfl (opv_add rfl rfl) ?_
        refine sv rfl (opv_mv rfl) ?_
        refine snil ?_
        obtain rfl := Option.some.inj h
        exact ⟨(n2, (s2.1, (wI (s2.2 + 1)))), _, hk2, ⟨rfl, rfl, rfl, rfl, trivial⟩, rfl, Nat.lt_succ_self _⟩
    · replace h := ite_f hc h
      clear hc
      refine cexit ?_
      refine then_exit ?_
      refine then_exit ?_
      refine block_hit ?_
      refine then_normal ?_
      obtain rfl := Option.some.inj h
      obtain rfl : _ = x2 := hk2
      exact ⟨s2.1, _, ho2, ⟨rfl, trivial⟩, rfl⟩

def m16_ssi_Clean_k1 (a0 : GSsiCert) (b1 : (List Int)) : Option GSsiCert :=
  (m36_ssi_without (GSsiCert.mk a0.Txs (GReadsTable.mk a0.Reads.L)) b1).bind fun v2 => some (GSsiCert.mk v2.Txs (GReadsTable.mk v2.Reads.L))

def m16_ssi_Clean_s3 (a0 : GSsiCert) (s3 : Int × (List Int)) : Option (LB (Int × (List Int)) ((List Int))) :=
  if (decide (s3.1 < (a0.Txs.length : Int))) then ((idx a0.Txs s3.1).bind fun u4 => if (decide (u4.State = 2)) then ((m23_ssi_Oldest (GSsiCert.mk a0.Txs (GReadsTable.mk a0.Reads.L)) u4.End).bind fun v5 => if (decide (u4.End ≤ v5)) then (if (s3.2.length + [u4.ID].length) * 8 ≤ 140737488355328 then (some (.cont ((wI (s3.1 + 1)), (s3.2 ++ [u4.ID])))) else none) else (some (.cont ((wI (s3.1 + 1)), s3.2)))) else (some (.cont ((wI (s3.1 + 1)), s3.2)))) else (some (.brk s3.2))
def m16_ssi_Clean (a0 : GSsiCert) : Option GSsiCert :=
  (iterB (m16_ssi_Clean_s3 a0) fuel (0, ([] : List Int))).bind fun e7 => m16_ssi_Clean_k1 a0 e7

set_option maxRecDepth 100000 in
theorem m16_ssi_Clean_c {a0 : GSsiCert} {r : GSsiCert} (h : m16_ssi_Clean a0 = some r) : CallsA Try.prog 16 [.agg a0] (· = .s (.agg r)) := by
  unfold m16_ssi_Clean at h
  refine callsA_of Try.func16 rfl (nt := 34) rfl (Nat.le_of_ble_eq_true rfl) ?_
  intro w0 S0
  refine cseq ?_
  refine cregion ?_
  refine sbox rfl rfl ?_
  refine salloc rfl zi31 ?_
  refine snil ?_
  refine cseq ?_
  refine cregion ?_
  refine sv rfl (opv_as rfl) ?_
  refine snil ?_
  refine cseq ?_
  refine cseq ?_
  refine cregion ?_
  refine sv rfl (opv_fieldAddr_lp fi31_0 rfl) ?_
  refine sv rfl (opv_load1 ti26 rfl (.lp _ _ _ rfl) rfl) ?_
  refine sv rfl (opv_len_sl si26 rfl) ?_
  refine sv rfl (opv_mv rfl) ?_
  refine snil ?_
  refine sadopt_c 3 1 3 (by decide) rfl ?_
  refine cjoin ((List Int)) (fun b1 => [(1, .s (.one (.lp 0 0))), (2, .s (.one (.lp 1 0))), (3, .s (.one (.ls 2 b1.length)))]) (fun b1 => [.box a0, .box [.raw (.slice none 0 0), .raw (.slice none 0 0)], .arr 3 1 0 (b1.flatMap eI)]) (fun b1 => m16_ssi_Clean_k1 a0 b1 = some r) (fun _ _ => inbL_of rfl) (fun _ _ => blkinb_of rfl) (fun _ _ => Nat.le_of_ble_eq_true rfl) (fun b1 h => ?_) ?_
  · unfold m16_ssi_Clean_k1 at h
    refine cseq ?_
    refine cregion ?_
    refine sv rfl (opv_loadN ti31 rfl (.lp _ _ _ rfl) (Nat.le_of_ble_eq_true rfl)) ?_
    refine sv rfl (opv_mv rfl) ?_
    refine spub 32 rfl (by (repeat' first | exact PubA.nil _ | apply PubA.cons | apply PubV.one | apply PubV.agg | exact PubL.nil | exact PubL.ls _ _ _ _ _ _ rfl (flat_len (f := eI) (fun _ => rfl) _).symm | exact PubL.id _ rfl | exact PubLs.nil _ | apply PubLs.cons)) ?_
    obtain ⟨v2, hv2, h⟩ := bind_eq h
    refine scall1 rfl fn36 (opnds_cons rfl (opnds_cons rfl opnds_nil)) (pubA_id rfl) (m36_ssi_without_c hv2) ?_
    refine sstore sz31 rfl rfl rfl rfl (Nat.le_of_ble_eq_true rfl) ?_
    refine smem [.box a0, .box v2, .arr 3 1 (b1.flatMap eI).length (b1.flatMap eI)] rfl ?_
    refine snil ?_
    refine cret ?_
    obtain rfl := Option.some.inj h
    refine ⟨Or.inr rfl, _, _, _, (resVs_cons (ResV.agg _ _ _ _ _ ti31 rfl (.lp _ _ _ rfl) (Nat.le_of_ble_eq_true rfl)) resVs_nil), (pubA_id rfl), ?_⟩
    rfl
  · skip
    refine cblock ?_
    obtain ⟨x3, hx3, ho3⟩ := bind_eq h
    refine awc_loop (G := Nat × (Int × (List Int))) (fun g => [(1, .s (.one (.lp 0 0))), (2, .s (.one (.lp 1 0))), (3, .s (.one (.ls 2 g.2.2.length))), (7, .s (.one (.sl a0.Txs.length (a0.Txs.flatMap eGSsiTx)))), (8, .s (.one (.i .i64 (a0.Txs.length : Int)))), (9, .s (.one (.i .i64 g.2.1)))]) (fun g => [.box a0, .box [.raw (.slice none 0 0), .raw (.slice none 0 0)], .arr 3 1 0 (g.2.2.flatMap eI)]) (fun g => iterB (m16_ssi_Clean_s3 a0) g.1 g.2 = some x3) (fun g => g.1) (fuel, (0, ([] : List Int))) hx3 ⟨rfl, rfl, rfl, rfl, rfl, rfl, trivial⟩ [] rfl (fun _ _ => inbL_of rfl) (fun _ _ => blkinb_of rfl) (fun _ _ => Nat.le_of_ble_eq_true rfl) ?_
    clear hx3 h
    rintro ⟨n3, s3⟩ h
    obtain ⟨n3, y3, rfl, h, hk3⟩ := iterB_eq h
    unfold m16_ssi_Clean_s3 at h
    refine cseq ?_
    refine cregion ?_
    refine sv rfl (opv_lss rfl rfl) ?_
    refine snil ?_
    refine cseq ?_
    refine ccond rfl (fun hc => ?_) (fun hc => ?_)
    · replace h := ite_t hc h
      clear hc
      refine cskip ?_
      refine then_normal ?_
      refine cseq ?_
      refine cblock ?_
      refine cseq ?_
      refine cregion ?_
      obtain ⟨u4, hu4, h⟩ := bind_eq h
      refine sv rfl (opv_ix (f := eGSsiTx) si26 (fun _ => rfl) rfl rfl rfl rfl hu4) ?_
      refine sv rfl (opv_loadNe (ys := [.i .i64 u4.ID, .i .i64 u4.Begin, .i .i64 u4.End, .i .i64 u4.State, .b u4.In, .b u4.Out, .b u4.RO, .sl u4.Keys.length (u4.Keys.flatMap (eL eU8))]) ti48 rfl (.cp _) rfl rfl) ?_
      refine salloc rfl zi48 ?_
      refine sstore sz48 rfl rfl rfl rfl (Nat.le_of_ble_eq_true rfl) ?_
      refine smem [.box a0, .box [.raw (.slice none 0 0), .raw (.slice none 0 0)], .arr 3 1 0 (s3.2.flatMap eI), .box u4] rfl ?_
      refine snil ?_
      refine cseq ?_
      refine cdraw mixed (by kernel_rfl) ?_
      refine dv rfl (opv_fieldAddr_lp fi48_3 rfl) ?_
      refine dv rfl (opv_load1 ti3 rfl (.lp _ _ _ rfl) rfl) ?_
      refine dv rfl (opv_ieql rfl rfl) ?_
      refine dv rfl (opv_mv rfl) ?_
      refine dsplit 16 rfl (fun hc => ?_) (fun hc => ?_)
      · replace h := ite_t hc h
        clear hc
        refine dvg rfl rfl rfl (opv_loadN ti31 rfl (.lp _ _ _ rfl) (Nat.le_of_ble_eq_true rfl)) ?_
        refine dvg rfl rfl rfl (opv_fieldAddr_lp fi48_2 rfl) ?_
        refine dvg rfl rfl rfl (opv_load1 ti3 rfl (.lp _ _ _ rfl) rfl) ?_
        obtain ⟨v5, hv5, h⟩ := bind_eq h
        refine ddg rfl rfl rfl (opD_call fn23 (opnds_cons rfl (opnds_cons rfl opnds_nil)) rfl (m23_ssi_Oldest_c hv5)) ?_
        refine dvg rfl rfl rfl (opv_fieldAddr_lp fi48_2 rfl) ?_
        refine dvg rfl rfl rfl (opv_load1 ti3 rfl (.lp _ _ _ rfl) rfl) ?_
        refine dvg rfl rfl rfl (opv_geq rfl rfl) ?_
        refine dv rfl (opv_pick_t rfl rfl) ?_
        refine dnil ?_
        refine then_normal ?_
        refine ccond rfl (fun hc => ?_) (fun hc => ?_)
        · replace h := ite_t hc h
          clear hc
          refine cregion ?_
          refine sv rfl (opv_mv rfl) ?_
          refine sv rfl (opv_fieldAddr_lp fi48_0 rfl) ?_
          refine sv rfl (opv_load1 ti3 rfl (.lp _ _ _ rfl) rfl) ?_
          refine sbuild1 rfl Try.underlying32 ei3 rfl rfl (List.all_eq_true.1 rfl) (by decide) ?_
          refine smem [.box a0, .box [.raw (.slice none 0 0), .raw (.slice none 0 0)], .arr 3 1 0 (s3.2.flatMap eI), .box u4, .arr 3 1 0 ([u4.ID].flatMap eI)] rfl ?_
          obtain ⟨hb6, h⟩ := chk_eq h
          refine sapp (f := eI) (xs := s3.2) (us := [u4.ID]) rfl Try.underlying32 ei3 ni32 (fun _ => rfl) rfl rfl (.one _ _ _ _ (.ls _ _ _ _ _ _ rfl (flat_len (f := eI) (fun _ => rfl) [u4.ID]).symm)) rfl rfl rfl (.sl _ _ _ (flat_len (f := eI) (fun _ => rfl) _)) rfl rfl hb6 (by decide) ?_
          refine sv rfl (opv_as rfl) ?_
          refine snil0 ?_
          refine block_normal ?_
          refine then_normal ?_
          refine cregion ?_
          refine sv rfl (opv_add rfl rfl) ?_
          refine sv rfl (opv_mv rfl) ?_
          refine snil ?_
          obtain rfl := Option.some.inj h
          exact ⟨(n3, ((wI (s3.1 + 1)), (s3.2 ++ [u4.ID]))), _, hk3, ⟨rfl, rfl, rfl, rfl, rfl, rfl, trivial⟩, rfl, Nat.lt_succ_self _⟩
        · replace h := ite_f hc h
          clear hc
          refine cskip ?_
          refine block_normal ?_
          refine then_normal ?_
          refine cregion ?_
          refine sv rfl (opv_add rfl rfl) ?_
          refine sv rfl (opv_mv rfl) ?_
          refine snil ?_
          obtain rfl := Option.some.inj h
          exact ⟨(n3, ((wI (s3.1 + 1)), s3.2)), _, hk3, ⟨rfl, rfl, rfl, rfl, rfl, rfl, trivial⟩, rfl, Nat.lt_succ_self _⟩
      · replace h := ite_f hc h
        clear hc
        refine doff rfl rfl rfl rfl ?_
        refine doff rfl rfl rfl rfl ?_
        refine doff rfl rfl rfl rfl ?_
        refine doff rfl rfl rfl rfl ?_
        refine doff rfl rfl rfl rfl ?_
        refine doff rfl rfl rfl rfl ?_
        refine doff rfl rfl rfl rfl ?_
        refine dv rfl (opv_pick_f rfl rfl) ?_
        refine dnil ?_
        refine then_normal ?_
        refine ccond rfl (fun hx => Bool.noConfusion hx) (fun _ => ?_)
        refine cskip ?_
        refine block_normal ?_
        refine then_normal ?_
        refine cregion ?_
        refine sv rfl (opv_add rfl rfl) ?_
        refine sv rfl (opv_mv rfl) ?_
        refine snil ?_
        obtain rfl := Option.some.inj h
        exact ⟨(n3, ((wI (s3.1 + 1)), s3.2)), _, hk3, ⟨rfl, rfl, rfl, rfl, rfl, rfl, trivial⟩, rfl, Nat.lt_succ_self _⟩
    · replace h := ite_f hc h
      clear hc
      refine cexit ?_
      refine then_exit ?_
      refine then_exit ?_
      refine block_hit ?_
      refine then_normal ?_
      obtain rfl := Option.some.inj h
      obtain rfl : _ = x3 := hk3
      exact ⟨s3.2, _, ho3, ⟨rfl, rfl, rfl, trivial⟩, rfl⟩

def m11_l11_world_dos_k1 (a0 : GL11Act) (a1 : List GSsiTx) (a2 : List GReadsRead) (a3 : Int) (a4 : List Int) (a5 : List GR11Tx) (a6 : List GR10Read) (b1 : Int) : Option ((List GSsiTx) × (List GReadsRead) × Int × (List Int) × (List GR11Tx) × (List GR10Read)) :=
  if (decide (a0.What ≤ 1)) then ((m17_ssi_Begin (GSsiCert.mk a1 (GReadsTable.mk a2)) (a4.length : Int) a3 a0.RO).bind fun v2 => if (decide (v2.2 = 0)) then (if (a4.length + ([a3] : List Int).length) * 8 ≤ 140737488355328 then (some (v2.1.Txs, v2.1.Reads.L, a3, (a4 ++ ([a3] : List Int)), a5, a6)) else none) else (some (a1, a2, a3, a4, a5, a6))) else (if (decide (a0.What ≤ 4)) then ((m19_ssi_Read (GSsiCert.mk a1 (GReadsTable.mk a2)) b1 (GApiRange.mk a0.Rng.Lo a0.Rng.Hi a0.Rng.Open)).bind fun v4 => if (decide (v4.2 = 0)) then (if (a6.length + ([(GR10Read.mk b1 (GApiRange.mk a0.Rng.Lo a0.Rng.Hi a0.Rng.Open))] : List GR10Read).length) * 64 ≤ 140737488355328 then (some (v4.1.Txs, v4.1.Reads.L, a3, a4, a5, (a6 ++ ([(GR10Read.mk b1 (GApiRange.mk a0.Rng.Lo a0.Rng.Hi a0.Rng.Open))] : List GR10Read)))) else none) else (if (decide (v4.2 = 10)) then ((m15_ssi_Abort (GSsiCert.mk a1 (GReadsTable.mk a2)) b1).bind fun v6 => some (v6.Txs, v6.Reads.L, a3, a4, a5, a6)) else (some (a1, a2, a3, a4, a5, a6)))) else (if (decide (a0.What ≤ 7)) then ((m20_ssi_Commit (GSsiCert.mk a1 (GReadsTable.mk a2)) b1 (wI (a3 + 1)) a0.Keys).bind fun v7 => if (decide (v7.2 = 0)) then (if (decide (b1 < (a4.length : Int))) then ((idx a4 b1).bind fun u8 => if (a5.length + ([(GR11Tx.mk b1 u8 (wI (a3 + 1)) 0 false false false a0.Keys)] : List GR11Tx).length) * 64 ≤ 140737488355328 then (some (v7.1.Txs, v7.1.Reads.L, (wI (a3 + 1)), a4, (a5 ++ ([(GR11Tx.mk b1 u8 (wI (a3 + 1)) 0 false false false a0.Keys)] : List GR11Tx)), a6)) else none) else (if (decide (v7.2 = 10)) then ((m15_ssi_Abort (GSsiCert.mk a1 (GReadsTable.mk a2)) b1).bind fun v10 => some (v10.Txs, v10.Reads.L, a3, a4, a5, a6)) else (if (decide (v7.2 = 9)) then ((m15_ssi_Abort (GSsiCert.mk a1 (GReadsTable.mk a2)) b1).bind fun v11 => some (v11.Txs, v11.Reads.L, a3, a4, a5, a6)) else (some (a1, a2, a3, a4, a5, a6))))) else (if (decide (v7.2 = 10)) then ((m15_ssi_Abort (GSsiCert.mk a1 (GReadsTable.mk a2)) b1).bind fun v12 => some (v12.Txs, v12.Reads.L, a3, a4, a5, a6)) else (if (decide (v7.2 = 9)) then ((m15_ssi_Abort (GSsiCert.mk a1 (GReadsTable.mk a2)) b1).bind fun v13 => some (v13.Txs, v13.Reads.L, a3, a4, a5, a6)) else (some (a1, a2, a3, a4, a5, a6))))) else (if (decide (a0.What = 8)) then ((m15_ssi_Abort (GSsiCert.mk a1 (GReadsTable.mk a2)) b1).bind fun v14 => some (v14.Txs, v14.Reads.L, a3, a4, a5, a6)) else (if (decide (a0.What = 9)) then ((m16_ssi_Clean (GSsiCert.mk a1 (GReadsTable.mk a2))).bind fun v15 => some (v15.Txs, v15.Reads.L, a3, a4, a5, a6)) else (some (a1, a2, a3, a4, a5, a6))))))
def m11_l11_world_dos (a0 : GL11Act) (a1 : List GSsiTx) (a2 : List GReadsRead) (a3 : Int) (a4 : List Int) (a5 : List GR11Tx) (a6 : List GR10Read) : Option ((List GSsiTx) × (List GReadsRead) × Int × (List Int) × (List GR11Tx) × (List GR10Read)) :=
  if (decide (0 < (a4.length : Int))) then (if (a4.length : Int) ≠ 0 then (m11_l11_world_dos_k1 a0 a1 a2 a3 a4 a5 a6 ((wI ((BitVec.ofInt 64 a0.N &&& BitVec.ofInt 64 65535).toNat : Int)).tmod (a4.length : Int))) else none) else (m11_l11_world_dos_k1 a0 a1 a2 a3 a4 a5 a6 0)

set_option maxRecDepth 100000 in
theorem m11_l11_world_dos_c {a0 : GL11Act} {a1 : List GSsiTx} {a2 : List GReadsRead} {a3 : Int} {a4 : List Int} {a5 : List GR11Tx} {a6 : List GR10Read} {r : (List GSsiTx) × (List GReadsRead) × Int × (List Int) × (List GR11Tx) × (List GR10Read)} (h : m11_l11_world_dos a0 a1 a2 a3 a4 a5 a6 = some r) : CallsB Try.prog 11 [.box [.sl a1.length (a1.flatMap eGSsiTx), .sl a2.length (a2.flatMap eGReadsRead), .i .i64 a3, .ls 1 a4.length, .ls 2 a5.length, .ls 3 a6.length], .arr 3 1 0 (a4.flatMap eI), .arr 46 8 0 (a5.flatMap eGR11Tx), .arr 76 4 0 (a6.flatMap eGR10Read)] [.one (.lp 0 0), .agg a0] (fun y m' => y = .tup [] ∧ m' = [.box [.sl r.1.length (r.1.flatMap eGSsiTx), .sl r.2.1.length (r.2.1.flatMap eGReadsRead), .i .i64 r.2.2.1, .ls 1 r.2.2.2.1.length, .ls 2 r.2.2.2.2.1.length, .ls 3 r.2.2.2.2.2.length], .arr 3 1 0 (r.2.2.2.1.flatMap eI), .arr 46 8 0 (r.2.2.2.2.1.flatMap eGR11Tx), .arr 76 4 0 (r.2.2.2.2.2.flatMap eGR10Read)]) := by
  unfold m11_l11_world_dos at h
  refine callsB_of Try.func11 rfl (nt := 219) rfl (Nat.le_of_ble_eq_true rfl) ?_
  intro w0 S0 X0 H0
  refine cseq ?_
  refine cregion ?_
  refine sbox rfl rfl ?_
  refine snil ?_
  refine cseq ?_
  refine cregion ?_
  refine sv rfl (opv_as rfl) ?_
  refine snil ?_
  refine cseq ?_
  refine cseq ?_
  refine cregion ?_
  refine sv rfl (opv_mv rfl) ?_
  refine sv rfl (opv_nilCheck rfl rfl (fun _ _ _ h => by cases h)) ?_
  refine sv rfl (opv_fieldAddr_lp fi36_2 rfl) ?_
  refine sv rfl (opv_load1 ti32 rfl (.lp _ _ _ rfl) rfl) ?_
  refine sv rfl (opv_len_ls si32 rfl rfl (flat_len (f := eI) (fun _ => rfl) _).symm) ?_
  refine sv rfl (opv_gtr rfl rfl) ?_
  refine snil ?_
  refine cjoin (Int) (fun b1 => [(0, .s (.one (.lp 0 0))), (3, .s (.one (.lp 4 0))), (4, .s (.one (.i .i64 b1)))]) (fun b1 => [.box [.sl a1.length (a1.flatMap eGSsiTx), .sl a2.length (a2.flatMap eGReadsRead), .i .i64 a3, .ls 1 a4.length, .ls 2 a5.length, .ls 3 a6.length], .arr 3 1 0 (a4.flatMap eI), .arr 46 8 0 (a5.flatMap eGR11Tx), .arr 76 4 0 (a6.flatMap eGR10Read), .box a0]) (fun b1 => m11_l11_world_dos_k1 a0 a1 a2 a3 a4 a5 a6 b1 = some r) (fun _ _ => inbL_of rfl) (fun _ _ => blkinb_of rfl) (fun _ _ => Nat.le_of_ble_eq_true rfl) (fun b1 h => ?_) ?_
  · unfold m11_l11_world_dos_k1 at h
    refine cblock ?_
    refine cseq ?_
    refine cregion ?_
    refine sv rfl (opv_fieldAddr_lp fi43_0 rfl) ?_
    refine sv rfl (opv_load1 ti3 rfl (.lp _ _ _ rfl) rfl) ?_
    refine sv rfl (opv_leq rfl rfl) ?_
    refine sv rfl (opv_as rfl) ?_
    refine snil ?_
    refine ccond rfl (fun hc => ?_) (fun hc => ?_)
    · replace h := ite_t hc h
      clear hc
      refine cseq ?_
      refine chole ?_
      obtain ⟨v2, hv2, h⟩ := bind_eq h
      refine cdraw_e [19, 20] [0, 1, 3, 7, 0, 16, 48, 112, 240, 0, 512, 1536, 3584, 0, 8192, 32767, 65535, 131071, 131071, 0, 786431, 2097151] [[.box [.sl a1.length (a1.flatMap eGSsiTx), .sl a2.length (a2.flatMap eGReadsRead), .i .i64 a3, .ls 1 a4.length, .ls 2 a5.length, .ls 3 a6.length], .arr 3 1 0 (a4.flatMap eI), .arr 46 8 0 (a5.flatMap eGR11Tx), .arr 76 4 0 (a6.flatMap eGR10Read), .box a0, .hole], [.box [.sl a1.length (a1.flatMap eGSsiTx), .sl a2.length (a2.flatMap eGReadsRead), .i .i64 a3, .ls 1 a4.length, .ls 2 a5.length, .ls 3 a6.length], .arr 3 1 0 (a4.flatMap eI), .arr 46 8 0 (a5.flatMap eGR11Tx), .arr 76 4 0 (a6.flatMap eGR10Read), .box a0, .box [.raw (.slice none 0 0), .raw (.slice none 0 0)]], [.box [.sl a1.length (a1.flatMap eGSsiTx), .sl a2.length (a2.flatMap eGReadsRead), .i .i64 a3, .ls 1 a4.length, .ls 2 a5.length, .ls 3 a6.length], .arr 3 1 0 (a4.flatMap eI), .arr 46 8 0 (a5.flatMap eGR11Tx), .arr 76 4 0 (a6.flatMap eGR10Read), .box a0, .box v2.1]] (by kernel_rfl) mixed (by kernel_rfl) (by decide) rfl rfl rfl rfl ?_
      refine emv rfl rfl (fun _ => opv_mv rfl) ?_
      refine ev (sees_all (md := [.box [.sl a1.length (a1.flatMap eGSsiTx), .sl a2.length (a2.flatMap eGReadsRead), .i .i64 a3, .ls 1 a4.length, .ls 2 a5.length, .ls 3 a6.length], .arr 3 1 0 (a4.flatMap eI), .arr 46 8 0 (a5.flatMap eGR11Tx), .arr 76 4 0 (a6.flatMap eGR10Read), .box a0, .dead]) ⟨⟨rfl, ⟨rfl, ⟨rfl, ⟨rfl, ⟨rfl, ⟨trivial, trivial⟩⟩⟩⟩⟩⟩, ⟨⟨rfl, ⟨rfl, ⟨rfl, ⟨rfl, ⟨rfl, ⟨trivial, trivial⟩⟩⟩⟩⟩⟩, ⟨⟨rfl, ⟨rfl, ⟨rfl, ⟨rfl, ⟨rfl, ⟨trivial, trivial⟩⟩⟩⟩⟩⟩, trivial⟩⟩⟩) rfl rfl (opv_nilCheck rfl rfl (fun _ _ _ h => by cases h)) ?_
      refine ev (sees_all (md := [.box [.sl a1.length (a1.flatMap eGSsiTx), .sl a2.length (a2.flatMap eGReadsRead), .i .i64 a3, .ls 1 a4.length, .ls 2 a5.length, .ls 3 a6.length], .arr 3 1 0 (a4.flatMap eI), .arr 46 8 0 (a5.flatMap eGR11Tx), .arr 76 4 0 (a6.flatMap eGR10Read), .box a0, .dead]) ⟨⟨rfl, ⟨rfl, ⟨rfl, ⟨rfl, ⟨rfl, ⟨trivial, trivial⟩⟩⟩⟩⟩⟩, ⟨⟨rfl, ⟨rfl, ⟨rfl, ⟨rfl, ⟨rfl, ⟨trivial, trivial⟩⟩⟩⟩⟩⟩, ⟨⟨rfl, ⟨rfl, ⟨rfl, ⟨rfl, ⟨rfl, ⟨trivial, trivial⟩⟩⟩⟩⟩⟩, trivial⟩⟩⟩) rfl rfl (opv_fieldAddr_lp fi36_0 rfl) ?_
      refine ev (sees_all (md := [.box [.sl a1.length (a1.flatMap eGSsiTx), .sl a2.length (a2.flatMap eGReadsRead), .i .i64 a3, .ls 1 a4.length, .ls 2 a5.length, .ls 3 a6.length], .arr 3 1 0 (a4.flatMap eI), .arr 46 8 0 (a5.flatMap eGR11Tx), .arr 76 4 0 (a6.flatMap eGR10Read), .box a0, .dead]) ⟨⟨rfl, ⟨rfl, ⟨rfl, ⟨rfl, ⟨rfl, ⟨trivial, trivial⟩⟩⟩⟩⟩⟩, ⟨⟨rfl, ⟨rfl, ⟨rfl, ⟨rfl, ⟨rfl, ⟨trivial, trivial⟩⟩⟩⟩⟩⟩, ⟨⟨rfl, ⟨rfl, ⟨rfl, ⟨rfl, ⟨rfl, ⟨trivial, trivial⟩⟩⟩⟩⟩⟩, trivial⟩⟩⟩) rfl rfl (opv_loadN ti31 rfl (.lp _ _ _ rfl) (Nat.le_of_ble_eq_true rfl)) ?_
      refine emv rfl rfl (fun _ => opv_mv rfl) ?_
      refine ev (sees_all (md := [.box [.sl a1.length (a1.flatMap eGSsiTx), .sl a2.length (a2.flatMap eGReadsRead), .i .i64 a3, .ls 1 a4.length, .ls 2 a5.length, .ls 3 a6.length], .arr 3 1 0 (a4.flatMap eI), .arr 46 8 0 (a5.flatMap eGR11Tx), .arr 76 4 0 (a6.flatMap eGR10Read), .box a0, .dead]) ⟨⟨rfl, ⟨rfl, ⟨rfl, ⟨rfl, ⟨rfl, ⟨trivial, trivial⟩⟩⟩⟩⟩⟩, ⟨⟨rfl, ⟨rfl, ⟨rfl, ⟨rfl, ⟨rfl, ⟨trivial, trivial⟩⟩⟩⟩⟩⟩, ⟨⟨rfl, ⟨rfl, ⟨rfl, ⟨rfl, ⟨rfl, ⟨trivial, trivial⟩⟩⟩⟩⟩⟩, trivial⟩⟩⟩) rfl rfl (opv_nilCheck rfl rfl (fun _ _ _ h => by cases h)) ?_
      refine ev (sees_all (md := [.box [.sl a1.length (a1.flatMap eGSsiTx), .sl a2.length (a2.flatMap eGReadsRead), .i .i64 a3, .ls 1 a4.length, .ls 2 a5.length, .ls 3 a6.length], .arr 3 1 0 (a4.flatMap eI), .arr 46 8 0 (a5.flatMap eGR11Tx), .arr 76 4 0 (a6.flatMap eGR10Read), .box a0, .dead]) ⟨⟨rfl, ⟨rfl, ⟨rfl, ⟨rfl, ⟨rfl, ⟨trivial, trivial⟩⟩⟩⟩⟩⟩, ⟨⟨rfl, ⟨rfl, ⟨rfl, ⟨rfl, ⟨rfl, ⟨trivial, trivial⟩⟩⟩⟩⟩⟩, ⟨⟨rfl, ⟨rfl, ⟨rfl, ⟨rfl, ⟨rfl, ⟨trivial, trivial⟩⟩⟩⟩⟩⟩, trivial⟩⟩⟩) rfl rfl (opv_fieldAddr_lp fi36_2 rfl) ?_
      refine ev (sees_all (md := [.box [.sl a1.length (a1.flatMap eGSsiTx), .sl a2.length (a2.flatMap eGReadsRead), .i .i64 a3, .ls 1 a4.length, .ls 2 a5.length, .ls 3 a6.length], .arr 3 1 0 (a4.flatMap eI), .arr 46 8 0 (a5.flatMap eGR11Tx), .arr 76 4 0 (a6.flatMap eGR10Read), .box a0, .dead]) ⟨⟨rfl, ⟨rfl, ⟨rfl, ⟨rfl, ⟨rfl, ⟨trivial, trivial⟩⟩⟩⟩⟩⟩, ⟨⟨rfl, ⟨rfl, ⟨rfl, ⟨rfl, ⟨rfl, ⟨trivial, trivial⟩⟩⟩⟩⟩⟩, ⟨⟨rfl, ⟨rfl, ⟨rfl, ⟨rfl, ⟨rfl, ⟨trivial, trivial⟩⟩⟩⟩⟩⟩, trivial⟩⟩⟩) rfl rfl (opv_load1 ti32 rfl (.lp _ _ _ rfl) rfl) ?_
      refine ev (sees_all (md := [.box [.sl a1.length (a1.flatMap eGSsiTx), .sl a2.length (a2.flatMap eGReadsRead), .i .i64 a3, .ls 1 a4.length, .ls 2 a5.length, .ls 3 a6.length], .arr 3 1 0 (a4.flatMap eI), .arr 46 8 0 (a5.flatMap eGR11Tx), .arr 76 4 0 (a6.flatMap eGR10Read), .box a0, .dead]) ⟨⟨rfl, ⟨rfl, ⟨rfl, ⟨rfl, ⟨rfl, ⟨trivial, trivial⟩⟩⟩⟩⟩⟩, ⟨⟨rfl, ⟨rfl, ⟨rfl, ⟨rfl, ⟨rfl, ⟨trivial, trivial⟩⟩⟩⟩⟩⟩, ⟨⟨rfl, ⟨rfl, ⟨rfl, ⟨rfl, ⟨rfl, ⟨trivial, trivial⟩⟩⟩⟩⟩⟩, trivial⟩⟩⟩) rfl rfl (opv_len_ls si32 rfl rfl (flat_len (f := eI) (fun _ => rfl) _).symm) ?_
      refine emv rfl rfl (fun _ => opv_mv rfl) ?_
      refine ev (sees_all (md := [.box [.sl a1.length (a1.flatMap eGSsiTx), .sl a2.length (a2.flatMap eGReadsRead), .i .i64 a3, .ls 1 a4.length, .ls 2 a5.length, .ls 3 a6.length], .arr 3 1 0 (a4.flatMap eI), .arr 46 8 0 (a5.flatMap eGR11Tx), .arr 76 4 0 (a6.flatMap eGR10Read), .box a0, .dead]) ⟨⟨rfl, ⟨rfl, ⟨rfl, ⟨rfl, ⟨rfl, ⟨trivial, trivial⟩⟩⟩⟩⟩⟩, ⟨⟨rfl, ⟨rfl, ⟨rfl, ⟨rfl, ⟨rfl, ⟨trivial, trivial⟩⟩⟩⟩⟩⟩, ⟨⟨rfl, ⟨rfl, ⟨rfl, ⟨rfl, ⟨rfl, ⟨trivial, trivial⟩⟩⟩⟩⟩⟩, trivial⟩⟩⟩) rfl rfl (opv_nilCheck rfl rfl (fun _ _ _ h => by cases h)) ?_
      refine ev (sees_all (md := [.box [.sl a1.length (a1.flatMap eGSsiTx), .sl a2.length (a2.flatMap eGReadsRead), .i .i64 a3, .ls 1 a4.length, .ls 2 a5.length, .ls 3 a6.length], .arr 3 1 0 (a4.flatMap eI), .arr 46 8 0 (a5.flatMap eGR11Tx), .arr 76 4 0 (a6.flatMap eGR10Read), .box a0, .dead]) ⟨⟨rfl, ⟨rfl, ⟨rfl, ⟨rfl, ⟨rfl, ⟨trivial, trivial⟩⟩⟩⟩⟩⟩, ⟨⟨rfl, ⟨rfl, ⟨rfl, ⟨rfl, ⟨rfl, ⟨trivial, trivial⟩⟩⟩⟩⟩⟩, ⟨⟨rfl, ⟨rfl, ⟨rfl, ⟨rfl, ⟨rfl, ⟨trivial, trivial⟩⟩⟩⟩⟩⟩, trivial⟩⟩⟩) rfl rfl (opv_fieldAddr_lp fi36_1 rfl) ?_
      refine ev (sees_all (md := [.box [.sl a1.length (a1.flatMap eGSsiTx), .sl a2.length (a2.flatMap eGReadsRead), .i .i64 a3, .ls 1 a4.length, .ls 2 a5.length, .ls 3 a6.length], .arr 3 1 0 (a4.flatMap eI), .arr 46 8 0 (a5.flatMap eGR11Tx), .arr 76 4 0 (a6.flatMap eGR10Read), .box a0, .dead]) ⟨⟨rfl, ⟨rfl, ⟨rfl, ⟨rfl, ⟨rfl, ⟨trivial, trivial⟩⟩⟩⟩⟩⟩, ⟨⟨rfl, ⟨rfl, ⟨rfl, ⟨rfl, ⟨rfl, ⟨trivial, trivial⟩⟩⟩⟩⟩⟩, ⟨⟨rfl, ⟨rfl, ⟨rfl, ⟨rfl, ⟨rfl, ⟨trivial, trivial⟩⟩⟩⟩⟩⟩, trivial⟩⟩⟩) rfl rfl (opv_load1 ti3 rfl (.lp _ _ _ rfl) rfl) ?_
      refine ev (sees_all (md := [.box [.sl a1.length (a1.flatMap eGSsiTx), .sl a2.length (a2.flatMap eGReadsRead), .i .i64 a3, .ls 1 a4.length, .ls 2 a5.length, .ls 3 a6.length], .arr 3 1 0 (a4.flatMap eI), .arr 46 8 0 (a5.flatMap eGR11Tx), .arr 76 4 0 (a6.flatMap eGR10Read), .box a0, .dead]) ⟨⟨rfl, ⟨rfl, ⟨rfl, ⟨rfl, ⟨rfl, ⟨trivial, trivial⟩⟩⟩⟩⟩⟩, ⟨⟨rfl, ⟨rfl, ⟨rfl, ⟨rfl, ⟨rfl, ⟨trivial, trivial⟩⟩⟩⟩⟩⟩, ⟨⟨rfl, ⟨rfl, ⟨rfl, ⟨rfl, ⟨rfl, ⟨trivial, trivial⟩⟩⟩⟩⟩⟩, trivial⟩⟩⟩) rfl rfl (opv_fieldAddr_lp fi43_2 rfl) ?_
      refine ev (sees_all (md := [.box [.sl a1.length (a1.flatMap eGSsiTx), .sl a2.length (a2.flatMap eGReadsRead), .i .i64 a3, .ls 1 a4.length, .ls 2 a5.length, .ls 3 a6.length], .arr 3 1 0 (a4.flatMap eI), .arr 46 8 0 (a5.flatMap eGR11Tx), .arr 76 4 0 (a6.flatMap eGR10Read), .box a0, .dead]) ⟨⟨rfl, ⟨rfl, ⟨rfl, ⟨rfl, ⟨rfl, ⟨trivial, trivial⟩⟩⟩⟩⟩⟩, ⟨⟨rfl, ⟨rfl, ⟨rfl, ⟨rfl, ⟨rfl, ⟨trivial, trivial⟩⟩⟩⟩⟩⟩, ⟨⟨rfl, ⟨rfl, ⟨rfl, ⟨rfl, ⟨rfl, ⟨trivial, trivial⟩⟩⟩⟩⟩⟩, trivial⟩⟩⟩) rfl rfl (opv_load1 ti4 rfl (.lp _ _ _ rfl) rfl) ?_
      refine ed (sees_all (md := [.box [.sl a1.length (a1.flatMap eGSsiTx), .sl a2.length (a2.flatMap eGReadsRead), .i .i64 a3, .ls 1 a4.length, .ls 2 a5.length, .ls 3 a6.length], .arr 3 1 0 (a4.flatMap eI), .arr 46 8 0 (a5.flatMap eGR11Tx), .arr 76 4 0 (a6.flatMap eGR10Read), .box a0, .dead]) ⟨⟨rfl, ⟨rfl, ⟨rfl, ⟨rfl, ⟨rfl, ⟨trivial, trivial⟩⟩⟩⟩⟩⟩, ⟨⟨rfl, ⟨rfl, ⟨rfl, ⟨rfl, ⟨rfl, ⟨trivial, trivial⟩⟩⟩⟩⟩⟩, ⟨⟨rfl, ⟨rfl, ⟨rfl, ⟨rfl, ⟨rfl, ⟨trivial, trivial⟩⟩⟩⟩⟩⟩, trivial⟩⟩⟩) rfl rfl (opD_call fn17 (opnds_cons rfl (opnds_cons rfl (opnds_cons rfl (opnds_cons rfl opnds_nil)))) rfl (m17_ssi_Begin_c hv2)) ?_
      refine emv rfl rfl (fun _ => opv_mvt rfl) ?_
      refine ev (sees_all (md := [.box [.sl a1.length (a1.flatMap eGSsiTx), .sl a2.length (a2.flatMap eGReadsRead), .i .i64 a3, .ls 1 a4.length, .ls 2 a5.length, .ls 3 a6.length], .arr 3 1 0 (a4.flatMap eI), .arr 46 8 0 (a5.flatMap eGR11Tx), .arr 76 4 0 (a6.flatMap eGR10Read), .box a0, .dead]) ⟨⟨rfl, ⟨rfl, ⟨rfl, ⟨rfl, ⟨rfl, ⟨trivial, trivial⟩⟩⟩⟩⟩⟩, ⟨⟨rfl, ⟨rfl, ⟨rfl, ⟨rfl, ⟨rfl, ⟨trivial, trivial⟩⟩⟩⟩⟩⟩, ⟨⟨rfl, ⟨rfl, ⟨rfl, ⟨rfl, ⟨rfl, ⟨trivial, trivial⟩⟩⟩⟩⟩⟩, trivial⟩⟩⟩) rfl rfl (opv_extract rfl rfl) ?_
      refine ev (sees_all (md := [.box [.sl a1.length (a1.flatMap eGSsiTx), .sl a2.length (a2.flatMap eGReadsRead), .i .i64 a3, .ls 1 a4.length, .ls 2 a5.length, .ls 3 a6.length], .arr 3 1 0 (a4.flatMap eI), .arr 46 8 0 (a5.flatMap eGR11Tx), .arr 76 4 0 (a6.flatMap eGR10Read), .box a0, .dead]) ⟨⟨rfl, ⟨rfl, ⟨rfl, ⟨rfl, ⟨rfl, ⟨trivial, trivial⟩⟩⟩⟩⟩⟩, ⟨⟨rfl, ⟨rfl, ⟨rfl, ⟨rfl, ⟨rfl, ⟨trivial, trivial⟩⟩⟩⟩⟩⟩, ⟨⟨rfl, ⟨rfl, ⟨rfl, ⟨rfl, ⟨rfl, ⟨trivial, trivial⟩⟩⟩⟩⟩⟩, trivial⟩⟩⟩) rfl rfl (opv_extract rfl rfl) ?_
      refine ee (x := .s (.one (.lp 5 0))) 0 rfl rfl rfl rfl rfl (fun ζ => ?_) ?_
      · refine salloc_at 5 rfl zi31 rfl ?_
        exact eend
      refine ee0 1 rfl rfl rfl rfl (fun ζ => ?_) ?_
      · refine sstore sz31 rfl rfl rfl rfl (Nat.le_of_ble_eq_true rfl) ?_
        refine smem [.box [.sl a1.length (a1.flatMap eGSsiTx), .sl a2.length (a2.flatMap eGReadsRead), .i .i64 a3, .ls 1 a4.length, .ls 2 a5.length, .ls 3 a6.length], .arr 3 1 0 (a4.flatMap eI), .arr 46 8 0 (a5.flatMap eGR11Tx), .arr 76 4 0 (a6.flatMap eGR10Read), .box a0, .box v2.1] rfl ?_
        exact eend
      refine ev (sees_at 2 rfl rfl) rfl rfl (opv_as rfl) ?_
      refine enil ?_
      refine then_normal ?_
      refine cseq ?_
      refine cregion ?_
      refine sv rfl (opv_mv rfl) ?_
      refine sv rfl (opv_ieql rfl rfl) ?_
      refine snil ?_
      refine ccond rfl (fun hc => ?_) (fun hc => ?_)
      · replace h := ite_t hc h
        clear hc
        refine cseq ?_
        refine cregion ?_
        refine sv rfl (opv_mv rfl) ?_
        refine sv rfl (opv_loadN ti31 rfl (.lp _ _ _ rfl) (Nat.le_of_ble_eq_true rfl)) ?_
        refine sv rfl (opv_nilCheck rfl rfl (fun _ _ _ h => by cases h)) ?_
        refine sv rfl (opv_fieldAddr_lp fi36_0 rfl) ?_
        refine sstore sz31 rfl rfl rfl rfl (Nat.le_of_ble_eq_true rfl) ?_
        refine smem [.box [.sl v2.1.Txs.length (v2.1.Txs.flatMap eGSsiTx), .sl v2.1.Reads.L.length (v2.1.Reads.L.flatMap eGReadsRead), .i .i64 a3, .ls 1 a4.length, .ls 2 a5.length, .ls 3 a6.length], .arr 3 1 0 (a4.flatMap eI), .arr 46 8 0 (a5.flatMap eGR11Tx), .arr 76 4 0 (a6.flatMap eGR10Read), .box a0, .box v2.1] rfl ?_
        refine snil ?_
        obtain ⟨hb3, h⟩ := chk_eq h
        refine cdraw_e [10, 13] [0, 0, 2, 6, 14, 0, 32, 96, 224, 480, 1022, 2047, 4095, 8191] [[.box [.sl v2.1.Txs.length (v2.1.Txs.flatMap eGSsiTx), .sl v2.1.Reads.L.length (v2.1.Reads.L.flatMap eGReadsRead), .i .i64 a3, .ls 1 a4.length, .ls 2 a5.length, .ls 3 a6.length], .arr 3 1 0 (a4.flatMap eI), .arr 46 8 0 (a5.flatMap eGR11Tx), .arr 76 4 0 (a6.flatMap eGR10Read), .box a0, .box v2.1], [.box [.sl v2.1.Txs.length (v2.1.Txs.flatMap eGSsiTx), .sl v2.1.Reads.L.length (v2.1.Reads.L.flatMap eGReadsRead), .i .i64 a3, .ls 1 a4.length, .ls 2 a5.length, .ls 3 a6.length], .arr 3 1 0 ((a4 ++ ([a3] : List Int)).flatMap eI), .arr 46 8 0 (a5.flatMap eGR11Tx), .arr 76 4 0 (a6.flatMap eGR10Read), .box a0, .box v2.1], [.box [.sl v2.1.Txs.length (v2.1.Txs.flatMap eGSsiTx), .sl v2.1.Reads.L.length (v2.1.Reads.L.flatMap eGReadsRead), .i .i64 a3, .ls 1 (a4 ++ ([a3] : List Int)).length, .ls 2 a5.length, .ls 3 a6.length], .arr 3 1 0 ((a4 ++ ([a3] : List Int)).flatMap eI), .arr 46 8 0 (a5.flatMap eGR11Tx), .arr 76 4 0 (a6.flatMap eGR10Read), .box a0, .box v2.1]] (by kernel_rfl) mixed (by kernel_rfl) (by decide) rfl rfl rfl rfl ?_
        refine emv rfl rfl (fun _ => opv_mv rfl) ?_
        refine ev (sees_at 0 rfl rfl) rfl rfl (opv_mv rfl) ?_
        refine ev (sees_at 0 rfl rfl) rfl rfl (opv_nilCheck rfl rfl (fun _ _ _ h => by cases h)) ?_
        refine ev (sees_at 0 rfl rfl) rfl rfl (opv_fieldAddr_lp fi36_2 rfl) ?_
        refine ev (sees_at 0 rfl rfl) rfl rfl (opv_load1 ti32 rfl (.lp _ _ _ rfl) rfl) ?_
        refine ev (sees_at 0 rfl rfl) rfl rfl (opv_mv rfl) ?_
        refine ev (sees_at 0 rfl rfl) rfl rfl (opv_nilCheck rfl rfl (fun _ _ _ h => by cases h)) ?_
        refine ev (sees_at 0 rfl rfl) rfl rfl (opv_fieldAddr_lp fi36_1 rfl) ?_
        refine ev (sees_at 0 rfl rfl) rfl rfl (opv_load1 ti3 rfl (.lp _ _ _ rfl) rfl) ?_
        refine ed (sees_at 0 rfl rfl) rfl rfl (opD_bld (out := ([a3] : List Int).flatMap eI) Try.underlying32 ei3 (parts_cons rfl parts_nil) (.cons _ _ _ _ _ _ _ rfl rfl (Nat.le_of_ble_eq_true rfl) (.nil _)) rfl (by decide)) ?_
        refine ee (x := .s (.one (.ls 1 (a4 ++ ([a3] : List Int)).length))) 0 rfl rfl rfl rfl rfl (fun ζ => ?_) ?_
        · refine sapp (f := eI) (xs := a4) (us := ([a3] : List Int)) rfl Try.underlying32 ei3 ni32 (fun _ => rfl) rfl rfl (.one _ _ _ _ (.id _ rfl)) rfl rfl rfl (.sl _ _ _ (flat_len (f := eI) (fun _ => rfl) _)) rfl rfl hb3 (by decide) ?_
          exact eend
        refine ev (sees_at 1 rfl rfl) rfl rfl (opv_nilCheck rfl rfl (fun _ _ _ h => by cases h)) ?_
        refine ev (sees_at 1 rfl rfl) rfl rfl (opv_fieldAddr_lp fi36_2 rfl) ?_
        refine ee0 1 rfl rfl rfl rfl (fun ζ => ?_) ?_
        · refine sstore sz32 rfl rfl rfl rfl (Nat.le_of_ble_eq_true rfl) ?_
          refine smem [.box [.sl v2.1.Txs.length (v2.1.Txs.flatMap eGSsiTx), .sl v2.1.Reads.L.length (v2.1.Reads.L.flatMap eGReadsRead), .i .i64 a3, .ls 1 (a4 ++ ([a3] : List Int)).length, .ls 2 a5.length, .ls 3 a6.length], .arr 3 1 0 ((a4 ++ ([a3] : List Int)).flatMap eI), .arr 46 8 0 (a5.flatMap eGR11Tx), .arr 76 4 0 (a6.flatMap eGR10Read), .box a0, .box v2.1] rfl ?_
          exact eend
        refine enil ?_
        refine block_normal ?_
        obtain rfl := Option.some.inj h
        exact ⟨Or.inl rfl, _, [0, 1, 2, 3], [], [.box [.sl v2.1.Txs.length (v2.1.Txs.flatMap eGSsiTx), .sl v2.1.Reads.L.length (v2.1.Reads.L.flatMap eGReadsRead), .i .i64 a3, .ls 1 (a4 ++ ([a3] : List Int)).length, .ls 2 a5.length, .ls 3 a6.length], .arr 3 1 0 ((a4 ++ ([a3] : List Int)).flatMap eI), .arr 46 8 0 (a5.flatMap eGR11Tx), .arr 76 4 0 (a6.flatMap eGR10Read)], resVs_nil, rfl, rfl, ⟨by decide, rfl⟩, rfl, rfl, ⟨rfl, rfl⟩⟩
      · replace h := ite_f hc h
        clear hc
        refine cskip ?_
        refine block_normal ?_
        obtain rfl := Option.some.inj h
        exact ⟨Or.inl rfl, _, [0, 1, 2, 3], [], [.box [.sl a1.length (a1.flatMap eGSsiTx), .sl a2.length (a2.flatMap eGReadsRead), .i .i64 a3, .ls 1 a4.length, .ls 2 a5.length, .ls 3 a6.length], .arr 3 1 0 (a4.flatMap eI), .arr 46 8 0 (a5.flatMap eGR11Tx), .arr 76 4 0 (a6.flatMap eGR10Read)], resVs_nil, rfl, rfl, ⟨by decide, rfl⟩, rfl, rfl, ⟨rfl, rfl⟩⟩
    · replace h := ite_f hc h
      clear hc
      refine cseq ?_
      refine cregion ?_
      refine sv rfl (opv_fieldAddr_lp fi43_0 rfl) ?_
      refine sv rfl (opv_load1 ti3 rfl (.lp _ _ _ rfl) rfl) ?_
      refine sv rfl (opv_leq rfl rfl) ?_
      refine sv rfl (opv_as rfl) ?_
      refine snil ?_
      refine ccond rfl (fun hc => ?_) (fun hc => ?_)
      · replace h := ite_t hc h
        clear hc
        refine cseq ?_
        refine chole ?_
        obtain ⟨v4, hv4, h⟩ := bind_eq h
        refine cdraw_e [11, 12] [0, 1, 3, 7, 0, 0, 32, 127, 255, 511, 511, 0, 3071, 8191] [[.box [.sl a1.length (a1.flatMap eGSsiTx), .sl a2.length (a2.flatMap eGReadsRead), .i .i64 a3, .ls 1 a4.length, .ls 2 a5.length, .ls 3 a6.length], .arr 3 1 0 (a4.flatMap eI), .arr 46 8 0 (a5.flatMap eGR11Tx), .arr 76 4 0 (a6.flatMap eGR10Read), .box a0, .hole], [.box [.sl a1.length (a1.flatMap eGSsiTx), .sl a2.length (a2.flatMap eGReadsRead), .i .i64 a3, .ls 1 a4.length, .ls 2 a5.length, .ls 3 a6.length], .arr 3 1 0 (a4.flatMap eI), .arr 46 8 0 (a5.flatMap eGR11Tx), .arr 76 4 0 (a6.flatMap eGR10Read), .box a0, .box [.raw (.slice none 0 0), .raw (.slice none 0 0)]], [.box [.sl a1.length (a1.flatMap eGSsiTx), .sl a2.length (a2.flatMap eGReadsRead), .i .i64 a3, .ls 1 a4.length, .ls 2 a5.length, .ls 3 a6.length], .arr 3 1 0 (a4.flatMap eI), .arr 46 8 0 (a5.flatMap eGR11Tx), .arr 76 4 0 (a6.flatMap eGR10Read), .box a0, .box v4.1]] (by kernel_rfl) mixed (by kernel_rfl) (by decide) rfl rfl rfl rfl ?_
        refine emv rfl rfl (fun _ => opv_mv rfl) ?_
        refine ev (sees_all (md := [.box [.sl a1.length (a1.flatMap eGSsiTx), .sl a2.length (a2.flatMap eGReadsRead), .i .i64 a3, .ls 1 a4.length, .ls 2 a5.length, .ls 3 a6.length], .arr 3 1 0 (a4.flatMap eI), .arr 46 8 0 (a5.flatMap eGR11Tx), .arr 76 4 0 (a6.flatMap eGR10Read), .box a0, .dead]) ⟨⟨rfl, ⟨rfl, ⟨rfl, ⟨rfl, ⟨rfl, ⟨trivial, trivial⟩⟩⟩⟩⟩⟩, ⟨⟨rfl, ⟨rfl, ⟨rfl, ⟨rfl, ⟨rfl, ⟨trivial, trivial⟩⟩⟩⟩⟩⟩, ⟨⟨rfl, ⟨rfl, ⟨rfl, ⟨rfl, ⟨rfl, ⟨trivial, trivial⟩⟩⟩⟩⟩⟩, trivial⟩⟩⟩) rfl rfl (opv_nilCheck rfl rfl (fun _ _ _ h => by cases h)) ?_
        refine ev (sees_all (md := [.box [.sl a1.length (a1.flatMap eGSsiTx), .sl a2.length (a2.flatMap eGReadsRead), .i .i64 a3, .ls 1 a4.length, .ls 2 a5.length, .ls 3 a6.length], .arr 3 1 0 (a4.flatMap eI), .arr 46 8 0 (a5.flatMap eGR11Tx), .arr 76 4 0 (a6.flatMap eGR10Read), .box a0, .dead]) ⟨⟨rfl, ⟨rfl, ⟨rfl, ⟨rfl, ⟨rfl, ⟨trivial, trivial⟩⟩⟩⟩⟩⟩, ⟨⟨rfl, ⟨rfl, ⟨rfl, ⟨rfl, ⟨rfl, ⟨trivial, trivial⟩⟩⟩⟩⟩⟩, ⟨⟨rfl, ⟨rfl, ⟨rfl, ⟨rfl, ⟨rfl, ⟨trivial, trivial⟩⟩⟩⟩⟩⟩, trivial⟩⟩⟩) rfl rfl (opv_fieldAddr_lp fi36_0 rfl) ?_
        refine ev (sees_all (md := [.box [.sl a1.length (a1.flatMap eGSsiTx), .sl a2.length (a2.flatMap eGReadsRead), .i .i64 a3, .ls 1 a4.length, .ls 2 a5.length, .ls 3 a6.length], .arr 3 1 0 (a4.flatMap eI), .arr 46 8 0 (a5.flatMap eGR11Tx), .arr 76 4 0 (a6.flatMap eGR10Read), .box a0, .dead]) ⟨⟨rfl, ⟨rfl, ⟨rfl, ⟨rfl, ⟨rfl, ⟨trivial, trivial⟩⟩⟩⟩⟩⟩, ⟨⟨rfl, ⟨rfl, ⟨rfl, ⟨rfl, ⟨rfl, ⟨trivial, trivial⟩⟩⟩⟩⟩⟩, ⟨⟨rfl, ⟨rfl, ⟨rfl, ⟨rfl, ⟨rfl, ⟨trivial, trivial⟩⟩⟩⟩⟩⟩, trivial⟩⟩⟩) rfl rfl (opv_loadN ti31 rfl (.lp _ _ _ rfl) (Nat.le_of_ble_eq_true rfl)) ?_
        refine emv rfl rfl (fun _ => opv_mv rfl) ?_
        refine ev (sees_all (md := [.box [.sl a1.length (a1.flatMap eGSsiTx), .sl a2.length (a2.flatMap eGReadsRead), .i .i64 a3, .ls 1 a4.length, .ls 2 a5.length, .ls 3 a6.length], .arr 3 1 0 (a4.flatMap eI), .arr 46 8 0 (a5.flatMap eGR11Tx), .arr 76 4 0 (a6.flatMap eGR10Read), .box a0, .dead]) ⟨⟨rfl, ⟨rfl, ⟨rfl, ⟨rfl, ⟨rfl, ⟨trivial, trivial⟩⟩⟩⟩⟩⟩, ⟨⟨rfl, ⟨rfl, ⟨rfl, ⟨rfl, ⟨rfl, ⟨trivial, trivial⟩⟩⟩⟩⟩⟩, ⟨⟨rfl, ⟨rfl, ⟨rfl, ⟨rfl, ⟨rfl, ⟨trivial, trivial⟩⟩⟩⟩⟩⟩, trivial⟩⟩⟩) rfl rfl (opv_fieldAddr_lp fi43_3 rfl) ?_
        refine ev (sees_all (md := [.box [.sl a1.length (a1.flatMap eGSsiTx), .sl a2.length (a2.flatMap eGReadsRead), .i .i64 a3, .ls 1 a4.length, .ls 2 a5.length, .ls 3 a6.length], .arr 3 1 0 (a4.flatMap eI), .arr 46 8 0 (a5.flatMap eGR11Tx), .arr 76 4 0 (a6.flatMap eGR10Read), .box a0, .dead]) ⟨⟨rfl, ⟨rfl, ⟨rfl, ⟨rfl, ⟨rfl, ⟨trivial, trivial⟩⟩⟩⟩⟩⟩, ⟨⟨rfl, ⟨rfl, ⟨rfl, ⟨rfl, ⟨rfl, ⟨trivial, trivial⟩⟩⟩⟩⟩⟩, ⟨⟨rfl, ⟨rfl, ⟨rfl, ⟨rfl, ⟨rfl, ⟨trivial, trivial⟩⟩⟩⟩⟩⟩, trivial⟩⟩⟩) rfl rfl (opv_loadN ti40 rfl (.lp _ _ _ rfl) (Nat.le_of_ble_eq_true rfl)) ?_
        refine ed (sees_all (md := [.box [.sl a1.length (a1.flatMap eGSsiTx), .sl a2.length (a2.flatMap eGReadsRead), .i .i64 a3, .ls 1 a4.length, .ls 2 a5.length, .ls 3 a6.length], .arr 3 1 0 (a4.flatMap eI), .arr 46 8 0 (a5.flatMap eGR11Tx), .arr 76 4 0 (a6.flatMap eGR10Read), .box a0, .dead]) ⟨⟨rfl, ⟨rfl, ⟨rfl, ⟨rfl, ⟨rfl, ⟨trivial, trivial⟩⟩⟩⟩⟩⟩, ⟨⟨rfl, ⟨rfl, ⟨rfl, ⟨rfl, ⟨rfl, ⟨trivial, trivial⟩⟩⟩⟩⟩⟩, ⟨⟨rfl, ⟨rfl, ⟨rfl, ⟨rfl, ⟨rfl, ⟨trivial, trivial⟩⟩⟩⟩⟩⟩, trivial⟩⟩⟩) rfl rfl (opD_call fn19 (opnds_cons rfl (opnds_cons rfl (opnds_cons rfl opnds_nil))) rfl (m19_ssi_Read_c hv4)) ?_
        refine emv rfl rfl (fun _ => opv_mvt rfl) ?_
        refine ev (sees_all (md := [.box [.sl a1.length (a1.flatMap eGSsiTx), .sl a2.length (a2.flatMap eGReadsRead), .i .i64 a3, .ls 1 a4.length, .ls 2 a5.length, .ls 3 a6.length], .arr 3 1 0 (a4.flatMap eI), .arr 46 8 0 (a5.flatMap eGR11Tx), .arr 76 4 0 (a6.flatMap eGR10Read), .box a0, .dead]) ⟨⟨rfl, ⟨rfl, ⟨rfl, ⟨rfl, ⟨rfl, ⟨trivial, trivial⟩⟩⟩⟩⟩⟩, ⟨⟨rfl, ⟨rfl, ⟨rfl, ⟨rfl, ⟨rfl, ⟨trivial, trivial⟩⟩⟩⟩⟩⟩, ⟨⟨rfl, ⟨rfl, ⟨rfl, ⟨rfl, ⟨rfl, ⟨trivial, trivial⟩⟩⟩⟩⟩⟩, trivial⟩⟩⟩) rfl rfl (opv_extract rfl rfl) ?_
        refine ev (sees_all (md := [.box [.sl a1.length (a1.flatMap eGSsiTx), .sl a2.length (a2.flatMap eGReadsRead), .i .i64 a3, .ls 1 a4.length, .ls 2 a5.length, .ls 3 a6.length], .arr 3 1 0 (a4.flatMap eI), .arr 46 8 0 (a5.flatMap eGR11Tx), .arr 76 4 0 (a6.flatMap eGR10Read), .box a0, .dead]) ⟨⟨rfl, ⟨rfl, ⟨rfl, ⟨rfl, ⟨rfl, ⟨trivial, trivial⟩⟩⟩⟩⟩⟩, ⟨⟨rfl, ⟨rfl, ⟨rfl, ⟨rfl, ⟨rfl, ⟨trivial, trivial⟩⟩⟩⟩⟩⟩, ⟨⟨rfl, ⟨rfl, ⟨rfl, ⟨rfl, ⟨rfl, ⟨trivial, trivial⟩⟩⟩⟩⟩⟩, trivial⟩⟩⟩) rfl rfl (opv_extract rfl rfl) ?_
        refine ee (x := .s (.one (.lp 5 0))) 0 rfl rfl rfl rfl rfl (fun ζ => ?_) ?_
        · refine salloc_at 5 rfl zi31 rfl ?_
          exact eend
        refine ee0 1 rfl rfl rfl rfl (fun ζ => ?_) ?_
        · refine sstore sz31 rfl rfl rfl rfl (Nat.le_of_ble_eq_true rfl) ?_
          refine smem [.box [.sl a1.length (a1.flatMap eGSsiTx), .sl a2.length (a2.flatMap eGReadsRead), .i .i64 a3, .ls 1 a4.length, .ls 2 a5.length, .ls 3 a6.length], .arr 3 1 0 (a4.flatMap eI), .arr 46 8 0 (a5.flatMap eGR11Tx), .arr 76 4 0 (a6.flatMap eGR10Read), .box a0, .box v4.1] rfl ?_
          exact eend
        refine ev (sees_at 2 rfl rfl) rfl rfl (opv_as rfl) ?_
        refine enil ?_
        refine then_normal ?_
        refine cseq ?_
        refine cregion ?_
        refine sv rfl (opv_mv rfl) ?_
        refine sv rfl (opv_ieql rfl rfl) ?_
        refine snil ?_
        refine ccond rfl (fun hc => ?_) (fun hc => ?_)
        · replace h := ite_t hc h
          clear hc
          refine cseq ?_
          refine cregion ?_
          refine sv rfl (opv_mv rfl) ?_
          refine sv rfl (opv_loadN ti31 rfl (.lp _ _ _ rfl) (Nat.le_of_ble_eq_true rfl)) ?_
          refine sv rfl (opv_nilCheck rfl rfl (fun _ _ _ h => by cases h)) ?_
          refine sv rfl (opv_fieldAddr_lp fi36_0 rfl) ?_
          refine sstore sz31 rfl rfl rfl rfl (Nat.le_of_ble_eq_true rfl) ?_
          refine smem [.box [.sl v4.1.Txs.length (v4.1.Txs.flatMap eGSsiTx), .sl v4.1.Reads.L.length (v4.1.Reads.L.flatMap eGReadsRead), .i .i64 a3, .ls 1 a4.length, .ls 2 a5.length, .ls 3 a6.length], .arr 3 1 0 (a4.flatMap eI), .arr 46 8 0 (a5.flatMap eGR11Tx), .arr 76 4 0 (a6.flatMap eGR10Read), .box a0, .box v4.1] rfl ?_
          refine snil ?_
          obtain ⟨hb5, h⟩ := chk_eq h
          refine cdraw_e [10, 13] [0, 0, 2, 6, 14, 0, 0, 64, 224, 480, 1022, 2047, 4095, 8191] [[.box [.sl v4.1.Txs.length (v4.1.Txs.flatMap eGSsiTx), .sl v4.1.Reads.L.length (v4.1.Reads.L.flatMap eGReadsRead), .i .i64 a3, .ls 1 a4.length, .ls 2 a5.length, .ls 3 a6.length], .arr 3 1 0 (a4.flatMap eI), .arr 46 8 0 (a5.flatMap eGR11Tx), .arr 76 4 0 (a6.flatMap eGR10Read), .box a0, .box v4.1], [.box [.sl v4.1.Txs.length (v4.1.Txs.flatMap eGSsiTx), .sl v4.1.Reads.L.length (v4.1.Reads.L.flatMap eGReadsRead), .i .i64 a3, .ls 1 a4.length, .ls 2 a5.length, .ls 3 a6.length], .arr 3 1 0 (a4.flatMap eI), .arr 46 8 0 (a5.flatMap eGR11Tx), .arr 76 4 0 ((a6 ++ ([(GR10Read.mk b1 (GApiRange.mk a0.Rng.Lo a0.Rng.Hi a0.Rng.Open))] : List GR10Read)).flatMap eGR10Read), .box a0, .box v4.1], [.box [.sl v4.1.Txs.length (v4.1.Txs.flatMap eGSsiTx), .sl v4.1.Reads.L.length (v4.1.Reads.L.flatMap eGReadsRead), .i .i64 a3, .ls 1 a4.length, .ls 2 a5.length, .ls 3 (a6 ++ ([(GR10Read.mk b1 (GApiRange.mk a0.Rng.Lo a0.Rng.Hi a0.Rng.Open))] : List GR10Read)).length], .arr 3 1 0 (a4.flatMap eI), .arr 46 8 0 (a5.flatMap eGR11Tx), .arr 76 4 0 ((a6 ++ ([(GR10Read.mk b1 (GApiRange.mk a0.Rng.Lo a0.Rng.Hi a0.Rng.Open))] : List GR10Read)).flatMap eGR10Read), .box a0, .box v4.1]] (by kernel_rfl) mixed (by kernel_rfl) (by decide) rfl rfl rfl rfl ?_
          refine emv rfl rfl (fun _ => opv_mv rfl) ?_
          refine ev (sees_at 0 rfl rfl) rfl rfl (opv_mv rfl) ?_
          refine ev (sees_at 0 rfl rfl) rfl rfl (opv_nilCheck rfl rfl (fun _ _ _ h => by cases h)) ?_
          refine ev (sees_at 0 rfl rfl) rfl rfl (opv_fieldAddr_lp fi36_4 rfl) ?_
          refine ev (sees_at 0 rfl rfl) rfl rfl (opv_load1 ti34 rfl (.lp _ _ _ rfl) rfl) ?_
          refine ev (sees_at 0 rfl rfl) rfl rfl (opv_mv rfl) ?_
          refine ev (sees_at 0 rfl rfl) rfl rfl (opv_fieldAddr_lp fi43_3 rfl) ?_
          refine ev (sees_at 0 rfl rfl) rfl rfl (opv_loadN ti40 rfl (.lp _ _ _ rfl) (Nat.le_of_ble_eq_true rfl)) ?_
          refine ev (sees_at 0 rfl rfl) rfl rfl (opv_build zi76 pi76 (parts_cons rfl (parts_cons rfl parts_nil)) (.cons _ _ _ _ _ _ _ rfl rfl (Nat.le_of_ble_eq_true rfl) (.cons _ _ _ _ _ _ _ rfl rfl (Nat.le_of_ble_eq_true rfl) (.nil _)))) ?_
          refine ed (sees_at 0 rfl rfl) rfl rfl (opD_bld (out := ([(GR10Read.mk b1 (GApiRange.mk a0.Rng.Lo a0.Rng.Hi a0.Rng.Open))] : List GR10Read).flatMap eGR10Read) Try.underlying34 ei76 (parts_cons rfl parts_nil) (.cons _ _ _ _ _ _ _ rfl rfl (Nat.le_of_ble_eq_true rfl) (.nil _)) rfl (by decide)) ?_
          refine ee (x := .s (.one (.ls 3 (a6 ++ ([(GR10Read.mk b1 (GApiRange.mk a0.Rng.Lo a0.Rng.Hi a0.Rng.Open))] : List GR10Read)).length))) 0 rfl rfl rfl rfl rfl (fun ζ => ?_) ?_
          · refine sapp (f := eGR10Read) (xs := a6) (us := ([(GR10Read.mk b1 (GApiRange.mk a0.Rng.Lo a0.Rng.Hi a0.Rng.Open))] : List GR10Read)) rfl Try.underlying34 ei76 ni34 (fun _ => rfl) rfl rfl (.one _ _ _ _ (.id _ rfl)) rfl rfl rfl (.sl _ _ _ (flat_len (f := eGR10Read) (fun _ => rfl) _)) rfl rfl hb5 (by decide) ?_
            exact eend
          refine ev (sees_at 1 rfl rfl) rfl rfl (opv_nilCheck rfl rfl (fun _ _ _ h => by cases h)) ?_
          refine ev (sees_at 1 rfl rfl) rfl rfl (opv_fieldAddr_lp fi36_4 rfl) ?_
          refine ee0 1 rfl rfl rfl rfl (fun ζ => ?_) ?_
          · refine sstore sz34 rfl rfl rfl rfl (Nat.le_of_ble_eq_true rfl) ?_
            refine smem [.box [.sl v4.1.Txs.length (v4.1.Txs.flatMap eGSsiTx), .sl v4.1.Reads.L.length (v4.1.Reads.L.flatMap eGReadsRead), .i .i64 a3, .ls 1 a4.length, .ls 2 a5.length, .ls 3 (a6 ++ ([(GR10Read.mk b1 (GApiRange.mk a0.Rng.Lo a0.Rng.Hi a0.Rng.Open))] : List GR10Read)).length], .arr 3 1 0 (a4.flatMap eI), .arr 46 8 0 (a5.flatMap eGR11Tx), .arr 76 4 0 ((a6 ++ ([(GR10Read.mk b1 (GApiRange.mk a0.Rng.Lo a0.Rng.Hi a0.Rng.Open))] : List GR10Read)).flatMap eGR10Read), .box a0, .box v4.1] rfl ?_
            exact eend
          refine enil ?_
          refine block_normal ?_
          obtain rfl := Option.some.inj h
          exact ⟨Or.inl rfl, _, [0, 1, 2, 3], [], [.box [.sl v4.1.Txs.length (v4.1.Txs.flatMap eGSsiTx), .sl v4.1.Reads.L.length (v4.1.Reads.L.flatMap eGReadsRead), .i .i64 a3, .ls 1 a4.length, .ls 2 a5.length, .ls 3 (a6 ++ ([(GR10Read.mk b1 (GApiRange.mk a0.Rng.Lo a0.Rng.Hi a0.Rng.Open))] : List GR10Read)).length], .arr 3 1 0 (a4.flatMap eI), .arr 46 8 0 (a5.flatMap eGR11Tx), .arr 76 4 0 ((a6 ++ ([(GR10Read.mk b1 (GApiRange.mk a0.Rng.Lo a0.Rng.Hi a0.Rng.Open))] : List GR10Read)).flatMap eGR10Read)], resVs_nil, rfl, rfl, ⟨by decide, rfl⟩, rfl, rfl, ⟨rfl, rfl⟩⟩
        · replace h := ite_f hc h
          clear hc
          refine cseq ?_
          refine cregion ?_
          refine sv rfl (opv_mv rfl) ?_
          refine sv rfl (opv_ieql rfl rfl) ?_
          refine snil ?_
          refine ccond rfl (fun hc => ?_) (fun hc => ?_)
          · replace h := ite_t hc h
            clear hc
            refine cregion ?_
            refine sv rfl (opv_mv rfl) ?_
            refine sv rfl (opv_mv rfl) ?_
            refine sv rfl (opv_nilCheck rfl rfl (fun _ _ _ h => by cases h)) ?_
            refine sv rfl (opv_fieldAddr_lp fi36_0 rfl) ?_
            refine sv rfl (opv_loadN ti31 rfl (.lp _ _ _ rfl) (Nat.le_of_ble_eq_true rfl)) ?_
            refine sv rfl (opv_mv rfl) ?_
            obtain ⟨v6, hv6, h⟩ := bind_eq h
            refine scall1 rfl fn15 (opnds_cons rfl (opnds_cons rfl opnds_nil)) (pubA_id rfl) (m15_ssi_Abort_c hv6) ?_
            refine sv rfl (opv_nilCheck rfl rfl (fun _ _ _ h => by cases h)) ?_
            refine sv rfl (opv_fieldAddr_lp fi36_0 rfl) ?_
            refine sstore sz31 rfl rfl rfl rfl (Nat.le_of_ble_eq_true rfl) ?_
            refine smem [.box [.sl v6.Txs.length (v6.Txs.flatMap eGSsiTx), .sl v6.Reads.L.length (v6.Reads.L.flatMap eGReadsRead), .i .i64 a3, .ls 1 a4.length, .ls 2 a5.length, .ls 3 a6.length], .arr 3 1 0 (a4.flatMap eI), .arr 46 8 0 (a5.flatMap eGR11Tx), .arr 76 4 0 (a6.flatMap eGR10Read), .box a0, .box v4.1] rfl ?_
            refine snil0 ?_
            refine block_normal ?_
            obtain rfl := Option.some.inj h
            exact ⟨Or.inl rfl, _, [0, 1, 2, 3], [], [.box [.sl v6.Txs.length (v6.Txs.flatMap eGSsiTx), .sl v6.Reads.L.length (v6.Reads.L.flatMap eGReadsRead), .i .i64 a3, .ls 1 a4.length, .ls 2 a5.length, .ls 3 a6.length], .arr 3 1 0 (a4.flatMap eI), .arr 46 8 0 (a5.flatMap eGR11Tx), .arr 76 4 0 (a6.flatMap eGR10Read)], resVs_nil, rfl, rfl, ⟨by decide, rfl⟩, rfl, rfl, ⟨rfl, rfl⟩⟩
          · replace h := ite_f hc h
            clear hc
            refine cskip ?_
            refine block_normal ?_
            obtain rfl := Option.some.inj h
            exact ⟨Or.inl rfl, _, [0, 1, 2, 3], [], [.box [.sl a1.length (a1.flatMap eGSsiTx), .sl a2.length (a2.flatMap eGReadsRead), .i .i64 a3, .ls 1 a4.length, .ls 2 a5.length, .ls 3 a6.length], .arr 3 1 0 (a4.flatMap eI), .arr 46 8 0 (a5.flatMap eGR11Tx), .arr 76 4 0 (a6.flatMap eGR10Read)], resVs_nil, rfl, rfl, ⟨by decide, rfl⟩, rfl, rfl, ⟨rfl, rfl⟩⟩
      · replace h := ite_f hc h
        clear hc
        refine cseq ?_
        refine cregion ?_
        refine sv rfl (opv_fieldAddr_lp fi43_0 rfl) ?_
        refine sv rfl (opv_load1 ti3 rfl (.lp _ _ _ rfl) rfl) ?_
        refine sv rfl (opv_leq rfl rfl) ?_
        refine sv rfl (opv_as rfl) ?_
        refine snil ?_
        refine ccond rfl (fun hc => ?_) (fun hc => ?_)
        · replace h := ite_t hc h
          clear hc
          refine cseq ?_
          refine chole ?_
          obtain ⟨v7, hv7, h⟩ := bind_eq h
          refine cdraw_e [16, 17] [0, 1, 3, 7, 0, 0, 32, 96, 224, 480, 0, 1024, 4095, 8191, 16383, 16383, 0, 98303, 262143] [[.box [.sl a1.length (a1.flatMap eGSsiTx), .sl a2.length (a2.flatMap eGReadsRead), .i .i64 a3, .ls 1 a4.length, .ls 2 a5.length, .ls 3 a6.length], .arr 3 1 0 (a4.flatMap eI), .arr 46 8 0 (a5.flatMap eGR11Tx), .arr 76 4 0 (a6.flatMap eGR10Read), .box a0, .hole], [.box [.sl a1.length (a1.flatMap eGSsiTx), .sl a2.length (a2.flatMap eGReadsRead), .i .i64 a3, .ls 1 a4.length, .ls 2 a5.length, .ls 3 a6.length], .arr 3 1 0 (a4.flatMap eI), .arr 46 8 0 (a5.flatMap eGR11Tx), .arr 76 4 0 (a6.flatMap eGR10Read), .box a0, .box [.raw (.slice none 0 0), .raw (.slice none 0 0)]], [.box [.sl a1.length (a1.flatMap eGSsiTx), .sl a2.length (a2.flatMap eGReadsRead), .i .i64 a3, .ls 1 a4.length, .ls 2 a5.length, .ls 3 a6.length], .arr 3 1 0 (a4.flatMap eI), .arr 46 8 0 (a5.flatMap eGR11Tx), .arr 76 4 0 (a6.flatMap eGR10Read), .box a0, .box v7.1]] (by kernel_rfl) mixed (by kernel_rfl) (by decide) rfl rfl rfl rfl ?_
          refine emv rfl rfl (fun _ => opv_mv rfl) ?_
          refine ev (sees_all (md := [.box [.sl a1.length (a1.flatMap eGSsiTx), .sl a2.length (a2.flatMap eGReadsRead), .i .i64 a3, .ls 1 a4.length, .ls 2 a5.length, .ls 3 a6.length], .arr 3 1 0 (a4.flatMap eI), .arr 46 8 0 (a5.flatMap eGR11Tx), .arr 76 4 0 (a6.flatMap eGR10Read), .box a0, .dead]) ⟨⟨rfl, ⟨rfl, ⟨rfl, ⟨rfl, ⟨rfl, ⟨trivial, trivial⟩⟩⟩⟩⟩⟩, ⟨⟨rfl, ⟨rfl, ⟨rfl, ⟨rfl, ⟨rfl, ⟨trivial, trivial⟩⟩⟩⟩⟩⟩, ⟨⟨rfl, ⟨rfl, ⟨rfl, ⟨rfl, ⟨rfl, ⟨trivial, trivial⟩⟩⟩⟩⟩⟩, trivial⟩⟩⟩) rfl rfl (opv_nilCheck rfl rfl (fun _ _ _ h => by cases h)) ?_
          refine ev (sees_all (md := [.box [.sl a1.length (a1.flatMap eGSsiTx), .sl a2.length (a2.flatMap eGReadsRead), .i .i64 a3, .ls 1 a4.length, .ls 2 a5.length, .ls 3 a6.length], .arr 3 1 0 (a4.flatMap eI), .arr 46 8 0 (a5.flatMap eGR11Tx), .arr 76 4 0 (a6.flatMap eGR10Read), .box a0, .dead]) ⟨⟨rfl, ⟨rfl, ⟨rfl, ⟨rfl, ⟨rfl, ⟨trivial, trivial⟩⟩⟩⟩⟩⟩, ⟨⟨rfl, ⟨rfl, ⟨rfl, ⟨rfl, ⟨rfl, ⟨trivial, trivial⟩⟩⟩⟩⟩⟩, ⟨⟨rfl, ⟨rfl, ⟨rfl, ⟨rfl, ⟨rfl, ⟨trivial, trivial⟩⟩⟩⟩⟩⟩, trivial⟩⟩⟩) rfl rfl (opv_fieldAddr_lp fi36_0 rfl) ?_
          refine ev (sees_all (md := [.box [.sl a1.length (a1.flatMap eGSsiTx), .sl a2.length (a2.flatMap eGReadsRead), .i .i64 a3, .ls 1 a4.length, .ls 2 a5.length, .ls 3 a6.length], .arr 3 1 0 (a4.flatMap eI), .arr 46 8 0 (a5.flatMap eGR11Tx), .arr 76 4 0 (a6.flatMap eGR10Read), .box a0, .dead]) ⟨⟨rfl, ⟨rfl, ⟨rfl, ⟨rfl, ⟨rfl, ⟨trivial, trivial⟩⟩⟩⟩⟩⟩, ⟨⟨rfl, ⟨rfl, ⟨rfl, ⟨rfl, ⟨rfl, ⟨trivial, trivial⟩⟩⟩⟩⟩⟩, ⟨⟨rfl, ⟨rfl, ⟨rfl, ⟨rfl, ⟨rfl, ⟨trivial, trivial⟩⟩⟩⟩⟩⟩, trivial⟩⟩⟩) rfl rfl (opv_loadN ti31 rfl (.lp _ _ _ rfl) (Nat.le_of_ble_eq_true rfl)) ?_
          refine emv rfl rfl (fun _ => opv_mv rfl) ?_
          refine emv rfl rfl (fun _ => opv_mv rfl) ?_
          refine ev (sees_all (md := [.box [.sl a1.length (a1.flatMap eGSsiTx), .sl a2.length (a2.flatMap eGReadsRead), .i .i64 a3, .ls 1 a4.length, .ls 2 a5.length, .ls 3 a6.length], .arr 3 1 0 (a4.flatMap eI), .arr 46 8 0 (a5.flatMap eGR11Tx), .arr 76 4 0 (a6.flatMap eGR10Read), .box a0, .dead]) ⟨⟨rfl, ⟨rfl, ⟨rfl, ⟨rfl, ⟨rfl, ⟨trivial, trivial⟩⟩⟩⟩⟩⟩, ⟨⟨rfl, ⟨rfl, ⟨rfl, ⟨rfl, ⟨rfl, ⟨trivial, trivial⟩⟩⟩⟩⟩⟩, ⟨⟨rfl, ⟨rfl, ⟨rfl, ⟨rfl, ⟨rfl, ⟨trivial, trivial⟩⟩⟩⟩⟩⟩, trivial⟩⟩⟩) rfl rfl (opv_nilCheck rfl rfl (fun _ _ _ h => by cases h)) ?_
          refine ev (sees_all (md := [.box [.sl a1.length (a1.flatMap eGSsiTx), .sl a2.length (a2.flatMap eGReadsRead), .i .i64 a3, .ls 1 a4.length, .ls 2 a5.length, .ls 3 a6.length], .arr 3 1 0 (a4.flatMap eI), .arr 46 8 0 (a5.flatMap eGR11Tx), .arr 76 4 0 (a6.flatMap eGR10Read), .box a0, .dead]) ⟨⟨rfl, ⟨rfl, ⟨rfl, ⟨rfl, ⟨rfl, ⟨trivial, trivial⟩⟩⟩⟩⟩⟩, ⟨⟨rfl, ⟨rfl, ⟨rfl, ⟨rfl, ⟨rfl, ⟨trivial, trivial⟩⟩⟩⟩⟩⟩, ⟨⟨rfl, ⟨rfl, ⟨rfl, ⟨rfl, ⟨rfl, ⟨trivial, trivial⟩⟩⟩⟩⟩⟩, trivial⟩⟩⟩) rfl rfl (opv_fieldAddr_lp fi36_1 rfl) ?_
          refine ev (sees_all (md := [.box [.sl a1.length (a1.flatMap eGSsiTx), .sl a2.length (a2.flatMap eGReadsRead), .i .i64 a3, .ls 1 a4.length, .ls 2 a5.length, .ls 3 a6.length], .arr 3 1 0 (a4.flatMap eI), .arr 46 8 0 (a5.flatMap eGR11Tx), .arr 76 4 0 (a6.flatMap eGR10Read), .box a0, .dead]) ⟨⟨rfl, ⟨rfl, ⟨rfl, ⟨rfl, ⟨rfl, ⟨trivial, trivial⟩⟩⟩⟩⟩⟩, ⟨⟨rfl, ⟨rfl, ⟨rfl, ⟨rfl, ⟨rfl, ⟨trivial, trivial⟩⟩⟩⟩⟩⟩, ⟨⟨rfl, ⟨rfl, ⟨rfl, ⟨rfl, ⟨rfl, ⟨trivial, trivial⟩⟩⟩⟩⟩⟩, trivial⟩⟩⟩) rfl rfl (opv_load1 ti3 rfl (.lp _ _ _ rfl) rfl) ?_
          refine ev (sees_all (md := [.box [.sl a1.length (a1.flatMap eGSsiTx), .sl a2.length (a2.flatMap eGReadsRead), .i .i64 a3, .ls 1 a4.length, .ls 2 a5.length, .ls 3 a6.length], .arr 3 1 0 (a4.flatMap eI), .arr 46 8 0 (a5.flatMap eGR11Tx), .arr 76 4 0 (a6.flatMap eGR10Read), .box a0, .dead]) ⟨⟨rfl, ⟨rfl, ⟨rfl, ⟨rfl, ⟨rfl, ⟨trivial, trivial⟩⟩⟩⟩⟩⟩, ⟨⟨rfl, ⟨rfl, ⟨rfl, ⟨rfl, ⟨rfl, ⟨trivial, trivial⟩⟩⟩⟩⟩⟩, ⟨⟨rfl, ⟨rfl, ⟨rfl, ⟨rfl, ⟨rfl, ⟨trivial, trivial⟩⟩⟩⟩⟩⟩, trivial⟩⟩⟩) rfl rfl (opv_add rfl rfl) ?_
          refine ev (sees_all (md := [.box [.sl a1.length (a1.flatMap eGSsiTx), .sl a2.length (a2.flatMap eGReadsRead), .i .i64 a3, .ls 1 a4.length, .ls 2 a5.length, .ls 3 a6.length], .arr 3 1 0 (a4.flatMap eI), .arr 46 8 0 (a5.flatMap eGR11Tx), .arr 76 4 0 (a6.flatMap eGR10Read), .box a0, .dead]) ⟨⟨rfl, ⟨rfl, ⟨rfl, ⟨rfl, ⟨rfl, ⟨trivial, trivial⟩⟩⟩⟩⟩⟩, ⟨⟨rfl, ⟨rfl, ⟨rfl, ⟨rfl, ⟨rfl, ⟨trivial, trivial⟩⟩⟩⟩⟩⟩, ⟨⟨rfl, ⟨rfl, ⟨rfl, ⟨rfl, ⟨rfl, ⟨trivial, trivial⟩⟩⟩⟩⟩⟩, trivial⟩⟩⟩) rfl rfl (opv_fieldAddr_lp fi43_4 rfl) ?_
          refine ev (sees_all (md := [.box [.sl a1.length (a1.flatMap eGSsiTx), .sl a2.length (a2.flatMap eGReadsRead), .i .i64 a3, .ls 1 a4.length, .ls 2 a5.length, .ls 3 a6.length], .arr 3 1 0 (a4.flatMap eI), .arr 46 8 0 (a5.flatMap eGR11Tx), .arr 76 4 0 (a6.flatMap eGR10Read), .box a0, .dead]) ⟨⟨rfl, ⟨rfl, ⟨rfl, ⟨rfl, ⟨rfl, ⟨trivial, trivial⟩⟩⟩⟩⟩⟩, ⟨⟨rfl, ⟨rfl, ⟨rfl, ⟨rfl, ⟨rfl, ⟨trivial, trivial⟩⟩⟩⟩⟩⟩, ⟨⟨rfl, ⟨rfl, ⟨rfl, ⟨rfl, ⟨rfl, ⟨trivial, trivial⟩⟩⟩⟩⟩⟩, trivial⟩⟩⟩) rfl rfl (opv_load1 ti41 rfl (.lp _ _ _ rfl) rfl) ?_
          refine ed (sees_all (md := [.box [.sl a1.length (a1.flatMap eGSsiTx), .sl a2.length (a2.flatMap eGReadsRead), .i .i64 a3, .ls 1 a4.length, .ls 2 a5.length, .ls 3 a6.length], .arr 3 1 0 (a4.flatMap eI), .arr 46 8 0 (a5.flatMap eGR11Tx), .arr 76 4 0 (a6.flatMap eGR10Read), .box a0, .dead]) ⟨⟨rfl, ⟨rfl, ⟨rfl, ⟨rfl, ⟨rfl, ⟨trivial, trivial⟩⟩⟩⟩⟩⟩, ⟨⟨rfl, ⟨rfl, ⟨rfl, ⟨rfl, ⟨rfl, ⟨trivial, trivial⟩⟩⟩⟩⟩⟩, ⟨⟨rfl, ⟨rfl, ⟨rfl, ⟨rfl, ⟨rfl, ⟨trivial, trivial⟩⟩⟩⟩⟩⟩, trivial⟩⟩⟩) rfl rfl (opD_call fn20 (opnds_cons rfl (opnds_cons rfl (opnds_cons rfl (opnds_cons rfl opnds_nil)))) rfl (m20_ssi_Commit_c hv7)) ?_
          refine emv rfl rfl (fun _ => opv_mvt rfl) ?_
          refine ev (sees_all (md := [.box [.sl a1.length (a1.flatMap eGSsiTx), .sl a2.length (a2.flatMap eGReadsRead), .i .i64 a3, .ls 1 a4.length, .ls 2 a5.length, .ls 3 a6.length], .arr 3 1 0 (a4.flatMap eI), .arr 46 8 0 (a5.flatMap eGR11Tx), .arr 76 4 0 (a6.flatMap eGR10Read), .box a0, .dead]) ⟨⟨rfl, ⟨rfl, ⟨rfl, ⟨rfl, ⟨rfl, ⟨trivial, trivial⟩⟩⟩⟩⟩⟩, ⟨⟨rfl, ⟨rfl, ⟨rfl, ⟨rfl, ⟨rfl, ⟨trivial, trivial⟩⟩⟩⟩⟩⟩, ⟨⟨rfl, ⟨rfl, ⟨rfl, ⟨rfl, ⟨rfl, ⟨trivial, trivial⟩⟩⟩⟩⟩⟩, trivial⟩⟩⟩) rfl rfl (opv_extract rfl rfl) ?_
          refine ev (sees_all (md := [.box [.sl a1.length (a1.flatMap eGSsiTx), .sl a2.length (a2.flatMap eGReadsRead), .i .i64 a3, .ls 1 a4.length, .ls 2 a5.length, .ls 3 a6.length], .arr 3 1 0 (a4.flatMap eI), .arr 46 8 0 (a5.flatMap eGR11Tx), .arr 76 4 0 (a6.flatMap eGR10Read), .box a0, .dead]) ⟨⟨rfl, ⟨rfl, ⟨rfl, ⟨rfl, ⟨rfl, ⟨trivial, trivial⟩⟩⟩⟩⟩⟩, ⟨⟨rfl, ⟨rfl, ⟨rfl, ⟨rfl, ⟨rfl, ⟨trivial, trivial⟩⟩⟩⟩⟩⟩, ⟨⟨rfl, ⟨rfl, ⟨rfl, ⟨rfl, ⟨rfl, ⟨trivial, trivial⟩⟩⟩⟩⟩⟩, trivial⟩⟩⟩) rfl rfl (opv_extract rfl rfl) ?_
          refine ee (x := .s (.one (.lp 5 0))) 0 rfl rfl rfl rfl rfl (fun ζ => ?_) ?_
          · refine salloc_at 5 rfl zi31 rfl ?_
            exact eend
          refine ee0 1 rfl rfl rfl rfl (fun ζ => ?_) ?_
          · refine sstore sz31 rfl rfl rfl rfl (Nat.le_of_ble_eq_true rfl) ?_
            refine smem [.box [.sl a1.length (a1.flatMap eGSsiTx), .sl a2.length (a2.flatMap eGReadsRead), .i .i64 a3, .ls 1 a4.length, .ls 2 a5.length, .ls 3 a6.length], .arr 3 1 0 (a4.flatMap eI), .arr 46 8 0 (a5.flatMap eGR11Tx), .arr 76 4 0 (a6.flatMap eGR10Read), .box a0, .box v7.1] rfl ?_
            exact eend
          refine ev (sees_at 2 rfl rfl) rfl rfl (opv_as rfl) ?_
          refine enil ?_
          refine then_normal ?_
          refine cseq ?_
          refine cregion ?_
          refine sv rfl (opv_mv rfl) ?_
          refine sv rfl (opv_ieql rfl rfl) ?_
          refine sv rfl (opv_mv rfl) ?_
          refine ssplit 135 rfl (fun hc => ?_) (fun hc => ?_)
          · replace h := ite_t hc h
            clear hc
            refine son rfl rfl rfl ?_
            refine sv rfl (opv_mv rfl) ?_
            refine son rfl rfl rfl ?_
            refine sv rfl (opv_mv rfl) ?_
            refine son rfl rfl rfl ?_
            refine sv rfl (opv_nilCheck rfl rfl (fun _ _ _ h => by cases h)) ?_
            refine son rfl rfl rfl ?_
            refine sv rfl (opv_fieldAddr_lp fi36_2 rfl) ?_
            refine son rfl rfl rfl ?_
            refine sv rfl (opv_load1 ti32 rfl (.lp _ _ _ rfl) rfl) ?_
            refine son rfl rfl rfl ?_
            refine sv rfl (opv_len_ls si32 rfl rfl (flat_len (f := eI) (fun _ => rfl) _).symm) ?_
            refine son rfl rfl rfl ?_
            refine sv rfl (opv_lss rfl rfl) ?_
            refine sv rfl (opv_pick_t rfl rfl) ?_
            refine snil ?_
            refine ccond rfl (fun hc => ?_) (fun hc => ?_)
            · replace h := ite_t hc h
              clear hc
              refine cseq ?_
              refine cregion ?_
              refine sv rfl (opv_mv rfl) ?_
              refine sv rfl (opv_loadN ti31 rfl (.lp _ _ _ rfl) (Nat.le_of_ble_eq_true rfl)) ?_
              refine sv rfl (opv_nilCheck rfl rfl (fun _ _ _ h => by cases h)) ?_
              refine sv rfl (opv_fieldAddr_lp fi36_0 rfl) ?_
              refine sstore sz31 rfl rfl rfl rfl (Nat.le_of_ble_eq_true rfl) ?_
              refine smem [.box [.sl v7.1.Txs.length (v7.1.Txs.flatMap eGSsiTx), .sl v7.1.Reads.L.length (v7.1.Reads.L.flatMap eGReadsRead), .i .i64 a3, .ls 1 a4.length, .ls 2 a5.length, .ls 3 a6.length], .arr 3 1 0 (a4.flatMap eI), .arr 46 8 0 (a5.flatMap eGR11Tx), .arr 76 4 0 (a6.flatMap eGR10Read), .box a0, .box v7.1] rfl ?_
              refine snil ?_
              refine cseq ?_
              refine cregion ?_
              refine sv rfl (opv_mv rfl) ?_
              refine sv rfl (opv_nilCheck rfl rfl (fun _ _ _ h => by cases h)) ?_
              refine sv rfl (opv_fieldAddr_lp fi36_1 rfl) ?_
              refine sv rfl (opv_load1 ti3 rfl (.lp _ _ _ rfl) rfl) ?_
              refine sv rfl (opv_add rfl rfl) ?_
              refine sv rfl (opv_nilCheck rfl rfl (fun _ _ _ h => by cases h)) ?_
              refine sv rfl (opv_fieldAddr_lp fi36_1 rfl) ?_
              refine sstore sz3 rfl rfl rfl rfl (Nat.le_of_ble_eq_true rfl) ?_
              refine smem [.box [.sl v7.1.Txs.length (v7.1.Txs.flatMap eGSsiTx), .sl v7.1.Reads.L.length (v7.1.Reads.L.flatMap eGReadsRead), .i .i64 (wI (a3 + 1)), .ls 1 a4.length, .ls 2 a5.length, .ls 3 a6.length], .arr 3 1 0 (a4.flatMap eI), .arr 46 8 0 (a5.flatMap eGR11Tx), .arr 76 4 0 (a6.flatMap eGR10Read), .box a0, .box v7.1] rfl ?_
              refine snil ?_
              obtain ⟨u8, hu8, h⟩ := bind_eq h
              obtain ⟨hb9, h⟩ := chk_eq h
              refine cdraw_e [21, 24] [0, 0, 2, 6, 14, 0, 0, 64, 192, 448, 0, 1984, 4032, 0, 8192, 24576, 57344, 0, 131072, 524256, 1048544, 2097150, 4194303, 8388607, 16777215] [[.box [.sl v7.1.Txs.length (v7.1.Txs.flatMap eGSsiTx), .sl v7.1.Reads.L.length (v7.1.Reads.L.flatMap eGReadsRead), .i .i64 (wI (a3 + 1)), .ls 1 a4.length, .ls 2 a5.length, .ls 3 a6.length], .arr 3 1 0 (a4.flatMap eI), .arr 46 8 0 (a5.flatMap eGR11Tx), .arr 76 4 0 (a6.flatMap eGR10Read), .box a0, .box v7.1], [.box [.sl v7.1.Txs.length (v7.1.Txs.flatMap eGSsiTx), .sl v7.1.Reads.L.length (v7.1.Reads.L.flatMap eGReadsRead), .i .i64 (wI (a3 + 1)), .ls 1 a4.length, .ls 2 a5.length, .ls 3 a6.length], .arr 3 1 0 (a4.flatMap eI), .arr 46 8 0 ((a5 ++ ([(GR11Tx.mk b1 u8 (wI (a3 + 1)) 0 false false false a0.Keys)] : List GR11Tx)).flatMap eGR11Tx), .arr 76 4 0 (a6.flatMap eGR10Read), .box a0, .box v7.1], [.box [.sl v7.1.Txs.length (v7.1.Txs.flatMap eGSsiTx), .sl v7.1.Reads.L.length (v7.1.Reads.L.flatMap eGReadsRead), .i .i64 (wI (a3 + 1)), .ls 1 a4.length, .ls 2 (a5 ++ ([(GR11Tx.mk b1 u8 (wI (a3 + 1)) 0 false false false a0.Keys)] : List GR11Tx)).length, .ls 3 a6.length], .arr 3 1 0 (a4.flatMap eI), .arr 46 8 0 ((a5 ++ ([(GR11Tx.mk b1 u8 (wI (a3 + 1)) 0 false false false a0.Keys)] : List GR11Tx)).flatMap eGR11Tx), .arr 76 4 0 (a6.flatMap eGR10Read), .box a0, .box v7.1]] (by kernel_rfl) mixed (by kernel_rfl) (by decide) rfl rfl rfl rfl ?_
              refine emv rfl rfl (fun _ => opv_mv rfl) ?_
              refine ev (sees_at 0 rfl rfl) rfl rfl (opv_mv rfl) ?_
              refine ev (sees_at 0 rfl rfl) rfl rfl (opv_nilCheck rfl rfl (fun _ _ _ h => by cases h)) ?_
              refine ev (sees_at 0 rfl rfl) rfl rfl (opv_fieldAddr_lp fi36_3 rfl) ?_
              refine ev (sees_at 0 rfl rfl) rfl rfl (opv_load1 ti33 rfl (.lp _ _ _ rfl) rfl) ?_
              refine ev (sees_at 0 rfl rfl) rfl rfl (opv_mv rfl) ?_
              refine ev (sees_at 0 rfl rfl) rfl rfl (opv_mv rfl) ?_
              refine ev (sees_at 0 rfl rfl) rfl rfl (opv_nilCheck rfl rfl (fun _ _ _ h => by cases h)) ?_
              refine ev (sees_at 0 rfl rfl) rfl rfl (opv_fieldAddr_lp fi36_2 rfl) ?_
              refine ev (sees_at 0 rfl rfl) rfl rfl (opv_load1 ti32 rfl (.lp _ _ _ rfl) rfl) ?_
              refine ev (sees_at 0 rfl rfl) rfl rfl (opv_mv rfl) ?_
              refine ev (sees_at 0 rfl rfl) rfl rfl (opv_ixo (f := eI) si32 (fun _ => rfl) rfl rfl rfl (by first | rfl | exact List.length_set.symm) rfl hu8) ?_
              refine ev (sees_at 0 rfl rfl) rfl rfl (opv_ld1o (f := eI) 0 ti3 (fun _ => rfl) rfl rfl rfl rfl (idx_eq hu8).2 rfl) ?_
              refine ev (sees_at 0 rfl rfl) rfl rfl (opv_mv rfl) ?_
              refine ev (sees_at 0 rfl rfl) rfl rfl (opv_nilCheck rfl rfl (fun _ _ _ h => by cases h)) ?_
              refine ev (sees_at 0 rfl rfl) rfl rfl (opv_fieldAddr_lp fi36_1 rfl) ?_
              refine ev (sees_at 0 rfl rfl) rfl rfl (opv_load1 ti3 rfl (.lp _ _ _ rfl) rfl) ?_
              refine ev (sees_at 0 rfl rfl) rfl rfl (opv_fieldAddr_lp fi43_4 rfl) ?_
              refine ev (sees_at 0 rfl rfl) rfl rfl (opv_load1 ti41 rfl (.lp _ _ _ rfl) rfl) ?_
              refine ev (sees_at 0 rfl rfl) rfl rfl (opv_build zi46 pi46 (parts_cons rfl (parts_cons rfl (parts_cons rfl (parts_cons rfl parts_nil)))) (.cons _ _ _ _ _ _ _ rfl rfl (Nat.le_of_ble_eq_true rfl) (.cons _ _ _ _ _ _ _ rfl rfl (Nat.le_of_ble_eq_true rfl) (.cons _ _ _ _ _ _ _ rfl rfl (Nat.le_of_ble_eq_true rfl) (.cons _ _ _ _ _ _ _ rfl rfl (Nat.le_of_ble_eq_true rfl) (.nil _)))))) ?_
              refine ed (sees_at 0 rfl rfl) rfl rfl (opD_bld (out := ([(GR11Tx.mk b1 u8 (wI (a3 + 1)) 0 false false false a0.Keys)] : List GR11Tx).flatMap eGR11Tx) Try.underlying33 ei46 (parts_cons rfl parts_nil) (.cons _ _ _ _ _ _ _ rfl rfl (Nat.le_of_ble_eq_true rfl) (.nil _)) rfl (by decide)) ?_
              refine ee (x := .s (.one (.ls 2 (a5 ++ ([(GR11Tx.mk b1 u8 (wI (a3 + 1)) 0 false false false a0.Keys)] : List GR11Tx)).length))) 0 rfl rfl rfl rfl rfl (fun ζ => ?_) ?_
              · refine sapp (f := eGR11Tx) (xs := a5) (us := ([(GR11Tx.mk b1 u8 (wI (a3 + 1)) 0 false false false a0.Keys)] : List GR11Tx)) rfl Try.underlying33 ei46 ni33 (fun _ => rfl) rfl rfl (.one _ _ _ _ (.id _ rfl)) rfl rfl rfl (.sl _ _ _ (flat_len (f := eGR11Tx) (fun _ => rfl) _)) rfl rfl hb9 (by decide) ?_
                exact eend
              refine ev (sees_at 1 rfl rfl) rfl rfl (opv_nilCheck rfl rfl (fun _ _ _ h => by cases h)) ?_
              refine ev (sees_at 1 rfl rfl) rfl rfl (opv_fieldAddr_lp fi36_3 rfl) ?_
              refine ee0 1 rfl rfl rfl rfl (fun ζ => ?_) ?_
              · refine sstore sz33 rfl rfl rfl rfl (Nat.le_of_ble_eq_true rfl) ?_
                refine smem [.box [.sl v7.1.Txs.length (v7.1.Txs.flatMap eGSsiTx), .sl v7.1.Reads.L.length (v7.1.Reads.L.flatMap eGReadsRead), .i .i64 (wI (a3 + 1)), .ls 1 a4.length, .ls 2 (a5 ++ ([(GR11Tx.mk b1 u8 (wI (a3 + 1)) 0 false false false a0.Keys)] : List GR11Tx)).length, .ls 3 a6.length], .arr 3 1 0 (a4.flatMap eI), .arr 46 8 0 ((a5 ++ ([(GR11Tx.mk b1 u8 (wI (a3 + 1)) 0 false false false a0.Keys)] : List GR11Tx)).flatMap eGR11Tx), .arr 76 4 0 (a6.flatMap eGR10Read), .box a0, .box v7.1] rfl ?_
                exact eend
              refine enil ?_
              refine block_normal ?_
              obtain rfl := Option.some.inj h
              exact ⟨Or.inl rfl, _, [0, 1, 2, 3], [], [.box [.sl v7.1.Txs.length (v7.1.Txs.flatMap eGSsiTx), .sl v7.1.Reads.L.length (v7.1.Reads.L.flatMap eGReadsRead), .i .i64 (wI (a3 + 1)), .ls 1 a4.length, .ls 2 (a5 ++ ([(GR11Tx.mk b1 u8 (wI (a3 + 1)) 0 false false false a0.Keys)] : List GR11Tx)).length, .ls 3 a6.length], .arr 3 1 0 (a4.flatMap eI), .arr 46 8 0 ((a5 ++ ([(GR11Tx.mk b1 u8 (wI (a3 + 1)) 0 false false false a0.Keys)] : List GR11Tx)).flatMap eGR11Tx), .arr 76 4 0 (a6.flatMap eGR10Read)], resVs_nil, rfl, rfl, ⟨by decide, rfl⟩, rfl, rfl, ⟨rfl, rfl⟩⟩
            · replace h := ite_f hc h
              clear hc
              refine cseq ?_
              refine cregion ?_
              refine sv rfl (opv_mv rfl) ?_
              refine sv rfl (opv_ieql rfl rfl) ?_
              refine sv rfl (opv_mv rfl) ?_
              refine ssplit 181 rfl (fun hc => ?_) (fun hc => ?_)
              · replace h := ite_t hc h
                clear hc
                refine soff rfl rfl rfl rfl ?_
                refine soff rfl rfl rfl rfl ?_
                refine sv rfl (opv_pick_t rfl rfl) ?_
                refine snil ?_
                refine ccond rfl (fun _ => ?_) (fun hx => Bool.noConfusion hx)
                refine cregion ?_
                refine sv rfl (opv_mv rfl) ?_
                refine sv rfl (opv_mv rfl) ?_
                refine sv rfl (opv_nilCheck rfl rfl (fun _ _ _ h => by cases h)) ?_
                refine sv rfl (opv_fieldAddr_lp fi36_0 rfl) ?_
                refine sv rfl (opv_loadN ti31 rfl (.lp _ _ _ rfl) (Nat.le_of_ble_eq_true rfl)) ?_
                refine sv rfl (opv_mv rfl) ?_
                obtain ⟨v10, hv10, h⟩ := bind_eq h
                refine scall1 rfl fn15 (opnds_cons rfl (opnds_cons rfl opnds_nil)) (pubA_id rfl) (m15_ssi_Abort_c hv10) ?_
                refine sv rfl (opv_nilCheck rfl rfl (fun _ _ _ h => by cases h)) ?_
                refine sv rfl (opv_fieldAddr_lp fi36_0 rfl) ?_
                refine sstore sz31 rfl rfl rfl rfl (Nat.le_of_ble_eq_true rfl) ?_
                refine smem [.box [.sl v10.Txs.length (v10.Txs.flatMap eGSsiTx), .sl v10.Reads.L.length (v10.Reads.L.flatMap eGReadsRead), .i .i64 a3, .ls 1 a4.length, .ls 2 a5.length, .ls 3 a6.length], .arr 3 1 0 (a4.flatMap eI), .arr 46 8 0 (a5.flatMap eGR11Tx), .arr 76 4 0 (a6.flatMap eGR10Read), .box a0, .box v7.1] rfl ?_
                refine snil0 ?_
                refine block_normal ?_
                obtain rfl := Option.some.inj h
                exact ⟨Or.inl rfl, _, [0, 1, 2, 3], [], [.box [.sl v10.Txs.length (v10.Txs.flatMap eGSsiTx), .sl v10.Reads.L.length (v10.Reads.L.flatMap eGReadsRead), .i .i64 a3, .ls 1 a4.length, .ls 2 a5.length, .ls 3 a6.length], .arr 3 1 0 (a4.flatMap eI), .arr 46 8 0 (a5.flatMap eGR11Tx), .arr 76 4 0 (a6.flatMap eGR10Read)], resVs_nil, rfl, rfl, ⟨by decide, rfl⟩, rfl, rfl, ⟨rfl, rfl⟩⟩
              · replace h := ite_f hc h
                clear hc
                refine son rfl rfl rfl ?_
                refine sv rfl (opv_mv rfl) ?_
                refine son rfl rfl rfl ?_
                refine sv rfl (opv_ieql rfl rfl) ?_
                refine sv rfl (opv_pick_f rfl rfl) ?_
                refine snil ?_
                refine ccond rfl (fun hc => ?_) (fun hc => ?_)
                · replace h := ite_t hc h
                  clear hc
                  refine cregion ?_
                  refine sv rfl (opv_mv rfl) ?_
                  refine sv rfl (opv_mv rfl) ?_
                  refine sv rfl (opv_nilCheck rfl rfl (fun _ _ _ h => by cases h)) ?_
                  refine sv rfl (opv_fieldAddr_lp fi36_0 rfl) ?_
                  refine sv rfl (opv_loadN ti31 rfl (.lp _ _ _ rfl) (Nat.le_of_ble_eq_true rfl)) ?_
                  refine sv rfl (opv_mv rfl) ?_
                  obtain ⟨v11, hv11, h⟩ := bind_eq h
                  refine scall1 rfl fn15 (opnds_cons rfl (opnds_cons rfl opnds_nil)) (pubA_id rfl) (m15_ssi_Abort_c hv11) ?_
                  refine sv rfl (opv_nilCheck rfl rfl (fun _ _ _ h => by cases h)) ?_
                  refine sv rfl (opv_fieldAddr_lp fi36_0 rfl) ?_
                  refine sstore sz31 rfl rfl rfl rfl (Nat.le_of_ble_eq_true rfl) ?_
                  refine smem [.box [.sl v11.Txs.length (v11.Txs.flatMap eGSsiTx), .sl v11.Reads.L.length (v11.Reads.L.flatMap eGReadsRead), .i .i64 a3, .ls 1 a4.length, .ls 2 a5.length, .ls 3 a6.length], .arr 3 1 0 (a4.flatMap eI), .arr 46 8 0 (a5.flatMap eGR11Tx), .arr 76 4 0 (a6.flatMap eGR10Read), .box a0, .box v7.1] rfl ?_
                  refine snil0 ?_
                  refine block_normal ?_
                  obtain rfl := Option.some.inj h
                  exact ⟨Or.inl rfl, _, [0, 1, 2, 3], [], [.box [.sl v11.Txs.length (v11.Txs.flatMap eGSsiTx), .sl v11.Reads.L.length (v11.Reads.L.flatMap eGReadsRead), .i .i64 a3, .ls 1 a4.length, .ls 2 a5.length, .ls 3 a6.length], .arr 3 1 0 (a4.flatMap eI), .arr 46 8 0 (a5.flatMap eGR11Tx), .arr 76 4 0 (a6.flatMap eGR10Read)], resVs_nil, rfl, rfl, ⟨by decide, rfl⟩, rfl, rfl, ⟨rfl, rfl⟩⟩
                · replace h := ite_f hc h
                  clear hc
                  refine cskip ?_
                  refine block_normal ?_
                  obtain rfl := Option.some.inj h
                  exact ⟨Or.inl rfl, _, [0, 1, 2, 3], [], [.box [.sl a1.length (a1.flatMap eGSsiTx), .sl a2.length (a2.flatMap eGReadsRead), .i .i64 a3, .ls 1 a4.length, .ls 2 a5.length, .ls 3 a6.length], .arr 3 1 0 (a4.flatMap eI), .arr 46 8 0 (a5.flatMap eGR11Tx), .arr 76 4 0 (a6.flatMap eGR10Read)], resVs_nil, rfl, rfl, ⟨by decide, rfl⟩, rfl, rfl, ⟨rfl, rfl⟩⟩
          · replace h := ite_f hc h
            clear hc
            refine soff rfl rfl rfl rfl ?_
            refine soff rfl rfl rfl rfl ?_
            refine soff rfl rfl rfl rfl ?_
            refine soff rfl rfl rfl rfl ?_
            refine soff rfl rfl rfl rfl ?_
            refine soff rfl rfl rfl rfl ?_
            refine soff rfl rfl rfl rfl ?_
            refine sv rfl (opv_pick_f rfl rfl) ?_
            refine snil ?_
            refine ccond rfl (fun hx => Bool.noConfusion hx) (fun _ => ?_)
            refine cseq ?_
            refine cregion ?_
            refine sv rfl (opv_mv rfl) ?_
            refine sv rfl (opv_ieql rfl rfl) ?_
            refine sv rfl (opv_mv rfl) ?_
            refine ssplit 181 rfl (fun hc => ?_) (fun hc => ?_)
            · replace h := ite_t hc h
              clear hc
              refine soff rfl rfl rfl rfl ?_
              refine soff rfl rfl rfl rfl ?_
              refine sv rfl (opv_pick_t rfl rfl) ?_
              refine snil ?_
              refine ccond rfl (fun _ => ?_) (fun hx => Bool.noConfusion hx)
              refine cregion ?_
              refine sv rfl (opv_mv rfl) ?_
              refine sv rfl (opv_mv rfl) ?_
              refine sv rfl (opv_nilCheck rfl rfl (fun _ _ _ h => by cases h)) ?_
              refine sv rfl (opv_fieldAddr_lp fi36_0 rfl) ?_
              refine sv rfl (opv_loadN ti31 rfl (.lp _ _ _ rfl) (Nat.le_of_ble_eq_true rfl)) ?_
              refine sv rfl (opv_mv rfl) ?_
              obtain ⟨v12, hv12, h⟩ := bind_eq h
              refine scall1 rfl fn15 (opnds_cons rfl (opnds_cons rfl opnds_nil)) (pubA_id rfl) (m15_ssi_Abort_c hv12) ?_
              refine sv rfl (opv_nilCheck rfl rfl (fun _ _ _ h => by cases h)) ?_
              refine sv rfl (opv_fieldAddr_lp fi36_0 rfl) ?_
              refine sstore sz31 rfl rfl rfl rfl (Nat.le_of_ble_eq_true rfl) ?_
              refine smem [.box [.sl v12.Txs.length (v12.Txs.flatMap eGSsiTx), .sl v12.Reads.L.length (v12.Reads.L.flatMap eGReadsRead), .i .i64 a3, .ls 1 a4.length, .ls 2 a5.length, .ls 3 a6.length], .arr 3 1 0 (a4.flatMap eI), .arr 46 8 0 (a5.flatMap eGR11Tx), .arr 76 4 0 (a6.flatMap eGR10Read), .box a0, .box v7.1] rfl ?_
              refine snil0 ?_
              refine block_normal ?_
              obtain rfl := Option.some.inj h
              exact ⟨Or.inl rfl, _, [0, 1, 2, 3], [], [.box [.sl v12.Txs.length (v12.Txs.flatMap eGSsiTx), .sl v12.Reads.L.length (v12.Reads.L.flatMap eGReadsRead), .i .i64 a3, .ls 1 a4.length, .ls 2 a5.length, .ls 3 a6.length], .arr 3 1 0 (a4.flatMap eI), .arr 46 8 0 (a5.flatMap eGR11Tx), .arr 76 4 0 (a6.flatMap eGR10Read)], resVs_nil, rfl, rfl, ⟨by decide, rfl⟩, rfl, rfl, ⟨rfl, rfl⟩⟩
            · replace h := ite_f hc h
              clear hc
              refine son rfl rfl rfl ?_
              refine sv rfl (opv_mv rfl) ?_
              refine son rfl rfl rfl ?_
              refine sv rfl (opv_ieql rfl rfl) ?_
              refine sv rfl (opv_pick_f rfl rfl) ?_
              refine snil ?_
              refine ccond rfl (fun hc => ?_) (fun hc => ?_)
              · replace h := ite_t hc h
                clear hc
                refine cregion ?_
                refine sv rfl (opv_mv rfl) ?_
                refine sv rfl (opv_mv rfl) ?_
                refine sv rfl (opv_nilCheck rfl rfl (fun _ _ _ h => by cases h)) ?_
                refine sv rfl (opv_fieldAddr_lp fi36_0 rfl) ?_
                refine sv rfl (opv_loadN ti31 rfl (.lp _ _ _ rfl) (Nat.le_of_ble_eq_true rfl)) ?_
                refine sv rfl (opv_mv rfl) ?_
                obtain ⟨v13, hv13, h⟩ := bind_eq h
                refine scall1 rfl fn15 (opnds_cons rfl (opnds_cons rfl opnds_nil)) (pubA_id rfl) (m15_ssi_Abort_c hv13) ?_
                refine sv rfl (opv_nilCheck rfl rfl (fun _ _ _ h => by cases h)) ?_
                refine sv rfl (opv_fieldAddr_lp fi36_0 rfl) ?_
                refine sstore sz31 rfl rfl rfl rfl (Nat.le_of_ble_eq_true rfl) ?_
                refine smem [.box [.sl v13.Txs.length (v13.Txs.flatMap eGSsiTx), .sl v13.Reads.L.length (v13.Reads.L.flatMap eGReadsRead), .i .i64 a3, .ls 1 a4.length, .ls 2 a5.length, .ls 3 a6.length], .arr 3 1 0 (a4.flatMap eI), .arr 46 8 0 (a5.flatMap eGR11Tx), .arr 76 4 0 (a6.flatMap eGR10Read), .box a0, .box v7.1] rfl ?_
                refine snil0 ?_
                refine block_normal ?_
                obtain rfl := Option.some.inj h
                exact ⟨Or.inl rfl, _, [0, 1, 2, 3], [], [.box [.sl v13.Txs.length (v13.Txs.flatMap eGSsiTx), .sl v13.Reads.L.length (v13.Reads.L.flatMap eGReadsRead), .i .i64 a3, .ls 1 a4.length, .ls 2 a5.length, .ls 3 a6.length], .arr 3 1 0 (a4.flatMap eI), .arr 46 8 0 (a5.flatMap eGR11Tx), .arr 76 4 0 (a6.flatMap eGR10Read)], resVs_nil, rfl, rfl, ⟨by decide, rfl⟩, rfl, rfl, ⟨rfl, rfl⟩⟩
              · replace h := ite_f hc h
                clear hc
                refine cskip ?_
                refine block_normal ?_
                obtain rfl := Option.some.inj h
                exact ⟨Or.inl rfl, _, [0, 1, 2, 3], [], [.box [.sl a1.length (a1.flatMap eGSsiTx), .sl a2.length (a2.flatMap eGReadsRead), .i .i64 a3, .ls 1 a4.length, .ls 2 a5.length, .ls 3 a6.length], .arr 3 1 0 (a4.flatMap eI), .arr 46 8 0 (a5.flatMap eGR11Tx), .arr 76 4 0 (a6.flatMap eGR10Read)], resVs_nil, rfl, rfl, ⟨by decide, rfl⟩, rfl, rfl, ⟨rfl, rfl⟩⟩
        · replace h := ite_f hc h
          clear hc
          refine cseq ?_
          refine cregion ?_
          refine sv rfl (opv_fieldAddr_lp fi43_0 rfl) ?_
          refine sv rfl (opv_load1 ti3 rfl (.lp _ _ _ rfl) rfl) ?_
          refine sv rfl (opv_ieql rfl rfl) ?_
          refine sv rfl (opv_as rfl) ?_
          refine snil ?_
          refine ccond rfl (fun hc => ?_) (fun hc => ?_)
          · replace h := ite_t hc h
            clear hc
            refine cregion ?_
            refine sv rfl (opv_mv rfl) ?_
            refine sv rfl (opv_mv rfl) ?_
            refine sv rfl (opv_nilCheck rfl rfl (fun _ _ _ h => by cases h)) ?_
            refine sv rfl (opv_fieldAddr_lp fi36_0 rfl) ?_
            refine sv rfl (opv_loadN ti31 rfl (.lp _ _ _ rfl) (Nat.le_of_ble_eq_true rfl)) ?_
            refine sv rfl (opv_mv rfl) ?_
            obtain ⟨v14, hv14, h⟩ := bind_eq h
            refine scall1 rfl fn15 (opnds_cons rfl (opnds_cons rfl opnds_nil)) (pubA_id rfl) (m15_ssi_Abort_c hv14) ?_
            refine sv rfl (opv_nilCheck rfl rfl (fun _ _ _ h => by cases h)) ?_
            refine sv rfl (opv_fieldAddr_lp fi36_0 rfl) ?_
            refine sstore sz31 rfl rfl rfl rfl (Nat.le_of_ble_eq_true rfl) ?_
            refine smem [.box [.sl v14.Txs.length (v14.Txs.flatMap eGSsiTx), .sl v14.Reads.L.length (v14.Reads.L.flatMap eGReadsRead), .i .i64 a3, .ls 1 a4.length, .ls 2 a5.length, .ls 3 a6.length], .arr 3 1 0 (a4.flatMap eI), .arr 46 8 0 (a5.flatMap eGR11Tx), .arr 76 4 0 (a6.flatMap eGR10Read), .box a0] rfl ?_
            refine snil0 ?_
            refine block_normal ?_
            obtain rfl := Option.some.inj h
            exact ⟨Or.inl rfl, _, [0, 1, 2, 3], [], [.box [.sl v14.Txs.length (v14.Txs.flatMap eGSsiTx), .sl v14.Reads.L.length (v14.Reads.L.flatMap eGReadsRead), .i .i64 a3, .ls 1 a4.length, .ls 2 a5.length, .ls 3 a6.length], .arr 3 1 0 (a4.flatMap eI), .arr 46 8 0 (a5.flatMap eGR11Tx), .arr 76 4 0 (a6.flatMap eGR10Read)], resVs_nil, rfl, rfl, ⟨by decide, rfl⟩, rfl, rfl, ⟨rfl, rfl⟩⟩
          · replace h := ite_f hc h
            clear hc
            refine cseq ?_
            refine cregion ?_
            refine sv rfl (opv_fieldAddr_lp fi43_0 rfl) ?_
            refine sv rfl (opv_load1 ti3 rfl (.lp _ _ _ rfl) rfl) ?_
            refine sv rfl (opv_ieql rfl rfl) ?_
            refine sv rfl (opv_as rfl) ?_
            refine snil ?_
            refine ccond rfl (fun hc => ?_) (fun hc => ?_)
            · replace h := ite_t hc h
              clear hc
              refine cregion ?_
              refine sv rfl (opv_mv rfl) ?_
              refine sv rfl (opv_mv rfl) ?_
              refine sv rfl (opv_nilCheck rfl rfl (fun _ _ _ h => by cases h)) ?_
              refine sv rfl (opv_fieldAddr_lp fi36_0 rfl) ?_
              refine sv rfl (opv_loadN ti31 rfl (.lp _ _ _ rfl) (Nat.le_of_ble_eq_true rfl)) ?_
              obtain ⟨v15, hv15, h⟩ := bind_eq h
              refine scall1 rfl fn16 (opnds_cons rfl opnds_nil) (pubA_id rfl) (m16_ssi_Clean_c hv15) ?_
              refine sv rfl (opv_nilCheck rfl rfl (fun _ _ _ h => by cases h)) ?_
              refine sv rfl (opv_fieldAddr_lp fi36_0 rfl) ?_
              refine sstore sz31 rfl rfl rfl rfl (Nat.le_of_ble_eq_true rfl) ?_
              refine smem [.box [.sl v15.Txs.length (v15.Txs.flatMap eGSsiTx), .sl v15.Reads.L.length (v15.Reads.L.flatMap eGReadsRead), .i .i64 a3, .ls 1 a4.length, .ls 2 a5.length, .ls 3 a6.length], .arr 3 1 0 (a4.flatMap eI), .arr 46 8 0 (a5.flatMap eGR11Tx), .arr 76 4 0 (a6.flatMap eGR10Read), .box a0] rfl ?_
              refine snil0 ?_
              refine block_normal ?_
              obtain rfl := Option.some.inj h
              exact ⟨Or.inl rfl, _, [0, 1, 2, 3], [], [.box [.sl v15.Txs.length (v15.Txs.flatMap eGSsiTx), .sl v15.Reads.L.length (v15.Reads.L.flatMap eGReadsRead), .i .i64 a3, .ls 1 a4.length, .ls 2 a5.length, .ls 3 a6.length], .arr 3 1 0 (a4.flatMap eI), .arr 46 8 0 (a5.flatMap eGR11Tx), .arr 76 4 0 (a6.flatMap eGR10Read)], resVs_nil, rfl, rfl, ⟨by decide, rfl⟩, rfl, rfl, ⟨rfl, rfl⟩⟩
            · replace h := ite_f hc h
              clear hc
              refine cskip ?_
              refine block_normal ?_
              obtain rfl := Option.some.inj h
              exact ⟨Or.inl rfl, _, [0, 1, 2, 3], [], [.box [.sl a1.length (a1.flatMap eGSsiTx), .sl a2.length (a2.flatMap eGReadsRead), .i .i64 a3, .ls 1 a4.length, .ls 2 a5.length, .ls 3 a6.length], .arr 3 1 0 (a4.flatMap eI), .arr 46 8 0 (a5.flatMap eGR11Tx), .arr 76 4 0 (a6.flatMap eGR10Read)], resVs_nil, rfl, rfl, ⟨by decide, rfl⟩, rfl, rfl, ⟨rfl, rfl⟩⟩
  · skip
    refine ccond rfl (fun hc => ?_) (fun hc => ?_)
    · replace h := ite_t hc h
      clear hc
      refine cdraw mixed (by kernel_rfl) ?_
      refine dv rfl (opv_fieldAddr_lp fi43_1 rfl) ?_
      refine dv rfl (opv_load1 ti3 rfl (.lp _ _ _ rfl) rfl) ?_
      refine dv rfl (opv_and rfl rfl) ?_
      refine dv rfl (opv_mv rfl) ?_
      refine dv rfl (opv_nilCheck rfl rfl (fun _ _ _ h => by cases h)) ?_
      refine dv rfl (opv_fieldAddr_lp fi36_2 rfl) ?_
      refine dv rfl (opv_load1 ti32 rfl (.lp _ _ _ rfl) rfl) ?_
      refine dv rfl (opv_len_ls si32 rfl rfl (flat_len (f := eI) (fun _ => rfl) _).symm) ?_
      obtain ⟨hz16, h⟩ := chk_eq h
      refine dv rfl (opv_rem rfl rfl hz16) ?_
      refine dv rfl (opv_as rfl) ?_
      refine dnil ?_
      refine then_normal ?_
      exact ⟨((wI ((BitVec.ofInt 64 a0.N &&& BitVec.ofInt 64 65535).toNat : Int)).tmod (a4.length : Int)), _, h, ⟨rfl, rfl, rfl, trivial⟩, rfl⟩
    · replace h := ite_f hc h
      clear hc
      refine cskip ?_
      refine then_normal ?_
      exact ⟨0, _, h, ⟨rfl, rfl, rfl, trivial⟩, rfl⟩

def m5_l11_SsiAlone_k8 (a2 : List (List UInt8)) (v1 : Bool) (b3 : (List GSsiTx) × (List GReadsRead) × Int × (List Int) × (List GR11Tx) × (List GR10Read)) (v7 : GSsiCert × Int) (b8 : (List GSsiTx) × (List GReadsRead)) : Option Bool :=
  (m20_ssi_Commit (GSsiCert.mk b8.1 (GReadsTable.mk b8.2)) 1000 (wI (b3.2.2.1 + 1)) a2).bind fun v9 => if v1 then (if (decide (v7.2 = 0)) then (if (decide (v9.2 = 0)) then (some true) else (some (decide (v9.2 = 1)))) else (some false)) else (some false)

def m5_l11_SsiAlone_k15 (s10 : Int × (List GSsiTx) × (List GReadsRead)) (v14 : GSsiCert × Int) (b15 : Unit) : Option (LR (Int × (List GSsiTx) × (List GReadsRead)) ((List GSsiTx) × (List GReadsRead)) (Bool)) :=
  if (decide (v14.2 = 0)) then (some (.cont ((wI (s10.1 + 1)), v14.1.Txs, v14.1.Reads.L))) else (some (.cont ((wI (s10.1 + 1)), s10.2.1, s10.2.2)))

def m5_l11_SsiAlone_s10 (a1 : List GApiRange) (v1 : Bool) (s10 : Int × (List GSsiTx) × (List GReadsRead)) : Option (LR (Int × (List GSsiTx) × (List GReadsRead)) ((List GSsiTx) × (List GReadsRead)) (Bool)) :=
  if (decide (s10.1 < (a1.length : Int))) then ((idx a1 s10.1).bind fun u11 => (m18_r06_Short u11).bind fun v12 => if (!v12) then (some (.ret v1)) else ((idx a1 s10.1).bind fun u13 => (m19_ssi_Read (GSsiCert.mk s10.2.1 (GReadsTable.mk s10.2.2)) 1000 u13).bind fun v14 => if (!decide (v14.2 = 0)) then (if (!decide (v14.2 = 1)) then (some (.ret false)) else (m5_l11_SsiAlone_k15 s10 v14 ())) else (m5_l11_SsiAlone_k15 s10 v14 ()))) else (some (.brk (s10.2.1, s10.2.2)))

def m5_l11_SsiAlone_k6 (a1 : List GApiRange) (a2 : List (List UInt8)) (v1 : Bool) (b3 : (List GSsiTx) × (List GReadsRead) × Int × (List Int) × (List GR11Tx) × (List GR10Read)) (v5 : GSsiCert) (b6 : Unit) : Option Bool :=
  (m17_ssi_Begin (GSsiCert.mk v5.Txs (GReadsTable.mk v5.Reads.L)) 1000 b3.2.2.1 false).bind fun v7 => (iter (m5_l11_SsiAlone_s10 a1 v1) fuel (0, v7.1.Txs, v7.1.Reads.L)).bind fun x => match x with | .inl r => some r | .inr e16 => m5_l11_SsiAlone_k8 a2 v1 b3 v7 e16

def m5_l11_SsiAlone_k4 (a1 : List GApiRange) (a2 : List (List UInt8)) (v1 : Bool) (b3 : (List GSsiTx) × (List GReadsRead) × Int × (List Int) × (List GR11Tx) × (List GR10Read)) (b4 : (List GSsiTx) × (List GReadsRead)) : Option Bool :=
  (m16_ssi_Clean (GSsiCert.mk b4.1 (GReadsTable.mk b4.2))).bind fun v5 => if (!decide ((v5.Txs.length : Int) = 0)) then (some false) else (if (!decide ((v5.Reads.L.length : Int) = 0)) then (some false) else (m5_l11_SsiAlone_k6 a1 a2 v1 b3 v5 ()))

def m5_l11_SsiAlone_s17 (b3 : (List GSsiTx) × (List GReadsRead) × Int × (List Int) × (List GR11Tx) × (List GR10Read)) (s17 : Int × (List GSsiTx) × (List GReadsRead)) : Option (LB (Int × (List GSsiTx) × (List GReadsRead)) ((List GSsiTx) × (List GReadsRead))) :=
  if (decide (s17.1 < (b3.2.2.2.1.length : Int))) then ((m15_ssi_Abort (GSsiCert.mk s17.2.1 (GReadsTable.mk s17.2.2)) s17.1).bind fun v18 => some (.cont ((wI (s17.1 + 1)), v18.Txs, v18.Reads.L))) else (some (.brk (s17.2.1, s17.2.2)))

def m5_l11_SsiAlone_k3 (a1 : List GApiRange) (a2 : List (List UInt8)) (v1 : Bool) (b3 : (List GSsiTx) × (List GReadsRead) × Int × (List Int) × (List GR11Tx) × (List GR10Read)) : Option Bool :=
  (iterB (m5_l11_SsiAlone_s17 b3) fuel (0, b3.1, b3.2.1)).bind fun e19 => m5_l11_SsiAlone_k4 a1 a2 v1 b3 e19

def m5_l11_SsiAlone_s20 (a0 : List GL11Act) (s20 : Int × (List GSsiTx) × (List GReadsRead) × Int × (List Int) × (List GR11Tx) × (List GR10Read)) : Option (LB (Int × (List GSsiTx) × (List GReadsRead) × Int × (List Int) × (List GR11Tx) × (List GR10Read)) ((List GSsiTx) × (List GReadsRead) × Int × (List Int) × (List GR11Tx) × (List GR10Read))) :=
  if (decide (s20.1 < (a0.length : Int))) then ((idx a0 s20.1).bind fun u21 => (m11_l11_world_dos (GL11Act.mk u21.What u21.N u21.RO (GApiRange.mk u21.Rng.Lo u21.Rng.Hi u21.Rng.Open) u21.Keys) s20.2.1 s20.2.2.1 s20.2.2.2.1 s20.2.2.2.2.1 s20.2.2.2.2.2.1 s20.2.2.2.2.2.2).bind fun v22 => some (.cont ((wI (s20.1 + 1)), v22.1, v22.2.1, v22.2.2.1, v22.2.2.2.1, v22.2.2.2.2.1, v22.2.2.2.2.2))) else (some (.brk (s20.2.1, s20.2.2.1, s20.2.2.2.1, s20.2.2.2.2.1, s20.2.2.2.2.2.1, s20.2.2.2.2.2.2)))

def m5_l11_SsiAlone_k2 (a0 : List GL11Act) (a1 : List GApiRange) (a2 : List (List UInt8)) (v1 : Bool) (b2 : Unit) : Option Bool :=
  (iterB (m5_l11_SsiAlone_s20 a0) fuel (0, ([] : List GSsiTx), ([] : List GReadsRead), 0, ([] : List Int), ([] : List GR11Tx), ([] : List GR10Read))).bind fun e23 => m5_l11_SsiAlone_k3 a1 a2 v1 e23
end Go.Proofs.Ytbmciegldpeaiaa.Abs
