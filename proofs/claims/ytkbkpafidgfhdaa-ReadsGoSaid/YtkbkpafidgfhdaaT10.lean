/-
  t
-/
import Derived.Test.YtkbkpafidgfhdaaT10a
namespace Go.Proofs.Ytkbkpafidgfhdaa.Abs
open Go.RowKit Go.Proofs
def m24_r10_Keep (a0 : GR10Table) (a1 : List Int) : Option GR10Table :=
  (m42_r10_filter a0 a1 true).bind fun v1 => some v1

set_option maxRecDepth 100000 in
theorem m24_r10_Keep_c {a0 : GR10Table} {a1 : List Int} {r : GR10Table} (h : m24_r10_Keep a0 a1 = some r) : CallsA Try.prog 24 [.agg [.sl a0.L.length (a0.L.flatMap eGR10Read)], .one (.sl a1.length (a1.flatMap eI))] (· = .s (.agg [.sl r.L.length (r.L.flatMap eGR10Read)])) := by
  unfold m24_r10_Keep at h
  refine callsA_of Try.func24 rfl (nt := 8) rfl (Nat.le_of_ble_eq_true rfl) ?_
  intro w0 S0
  refine cseq ?_
  refine cregion ?_
  refine sbox rfl rfl ?_
  refine salloc rfl zi24 ?_
  refine snil ?_
  refine cseq ?_
  refine cregion ?_
  refine sv rfl (opv_loadN ti24 rfl (.lp _ _ _ rfl) (Nat.le_of_ble_eq_true rfl)) ?_
  refine sv rfl (opv_mv rfl) ?_
  obtain ⟨v1, hv1, h⟩ := bind_eq h
  refine scall1 rfl fn42 (opnds_cons rfl (opnds_cons rfl (opnds_cons rfl opnds_nil))) (pubA_id rfl) (m42_r10_filter_c hv1) ?_
  refine sstore sz24 rfl rfl rfl rfl (Nat.le_of_ble_eq_true rfl) ?_
  refine smem [.box [.sl a0.L.length (a0.L.flatMap eGR10Read)], .box [.sl v1.L.length (v1.L.flatMap eGR10Read)]] rfl ?_
  refine snil ?_
  refine cret ?_
  obtain rfl := Option.some.inj h
  refine ⟨Or.inr rfl, _, _, _, (resVs_cons (ResV.agg _ _ _ _ _ ti24 rfl (.lp _ _ _ rfl) (Nat.le_of_ble_eq_true rfl)) resVs_nil), (pubA_id rfl), ?_⟩
  rfl

def m26_reads_Of_k2 (b2 : (List GApiRange)) : Option (List GApiRange) :=
  some b2

def m26_reads_Of_s3 (v1 : GReadsTable) (s3 : Int × (List GApiRange)) : Option (LB (Int × (List GApiRange)) ((List GApiRange))) :=
  if (decide (s3.1 < (v1.L.length : Int))) then ((idx v1.L s3.1).bind fun u4 => if (s3.2.length + [(GApiRange.mk u4.Rng.Lo u4.Rng.Hi u4.Rng.Open)].length) * 56 ≤ 140737488355328 then (some (.cont ((wI (s3.1 + 1)), (s3.2 ++ [(GApiRange.mk u4.Rng.Lo u4.Rng.Hi u4.Rng.Open)])))) else none) else (some (.brk s3.2))
def m26_reads_Of (a0 : GReadsTable) (a1 : Int) : Option (List GApiRange) :=
  (m23_reads_Keep a0 [a1]).bind fun v1 => (iterB (m26_reads_Of_s3 v1) fuel (0, ([] : List GApiRange))).bind fun e6 => m26_reads_Of_k2 e6

set_option maxRecDepth 100000 in
theorem m26_reads_Of_c {a0 : GReadsTable} {a1 : Int} {r : (List GApiRange)} (h : m26_reads_Of a0 a1 = some r) : CallsA Try.prog 26 [.agg [.sl a0.L.length (a0.L.flatMap eGReadsRead)], .one (.i .i64 a1)] (· = .s (.one (.sl r.length (r.flatMap eGApiRange)))) := by
  unfold m26_reads_Of at h
  refine callsA_of Try.func26 rfl (nt := 25) rfl (Nat.le_of_ble_eq_true rfl) ?_
  intro w0 S0
  refine cseq ?_
  refine cregion ?_
  refine sbox rfl rfl ?_
  refine sv rfl (opv_as rfl) ?_
  refine snil ?_
  refine cseq ?_
  refine cregion ?_
  refine sv rfl (opv_as rfl) ?_
  refine snil ?_
  refine cseq ?_
  refine cseq ?_
  refine cregion ?_
  refine sv rfl (opv_loadN ti34 rfl (.lp _ _ _ rfl) (Nat.le_of_ble_eq_true rfl)) ?_
  refine sv rfl (opv_mv rfl) ?_
  refine sbuild1 rfl Try.underlying28 ei3 rfl rfl (List.all_eq_true.1 rfl) (by decide) ?_
  refine smem [.box [.sl a0.L.length (a0.L.flatMap eGReadsRead)], .arr 3 1 0 ([a1].flatMap eI)] rfl ?_
  refine spub 10 rfl (by (repeat' first | exact PubA.nil _ | apply PubA.cons | apply PubV.one | apply PubV.agg | exact PubL.nil | exact PubL.ls _ _ _ _ _ _ rfl (flat_len (f := eI) (fun _ => rfl) ([a1] : List Int)).symm | exact PubL.ls _ _ _ _ _ _ rfl (flat_len (f := eI) (fun _ => rfl) _).symm | exact PubL.id _ rfl | exact PubLs.nil _ | apply PubLs.cons)) ?_
  obtain ⟨v1, hv1, h⟩ := bind_eq h
  refine scall1 rfl fn23 (opnds_cons rfl (opnds_cons rfl opnds_nil)) (pubA_id rfl) (m23_reads_Keep_c hv1) ?_
  refine sv rfl (opv_field1 ft34_0 ti32 rfl rfl) ?_
  refine sv rfl (opv_len_sl si32 rfl) ?_
  refine sv rfl (opv_mv rfl) ?_
  refine snil ?_
  refine sadopt_c 27 3 5 (by decide) rfl ?_
  refine cjoin ((List GApiRange)) (fun b2 => [(5, .s (.one (.ls 2 b2.length)))]) (fun b2 => [.box [.sl a0.L.length (a0.L.flatMap eGReadsRead)], .arr 3 1 ([a1].flatMap eI).length ([a1].flatMap eI), .arr 27 3 0 (b2.flatMap eGApiRange)]) (fun b2 => m26_reads_Of_k2 b2 = some r) (fun _ _ => inbL_of rfl) (fun _ _ => blkinb_of rfl) (fun _ _ => Nat.le_of_ble_eq_true rfl) (fun b2 h => ?_) ?_
  · unfold m26_reads_Of_k2 at h
    refine cseq ?_
    refine cregion ?_
    refine sv rfl (opv_mv rfl) ?_
    refine sv rfl (opv_as rfl) ?_
    refine snil ?_
    refine cret ?_
    obtain rfl := Option.some.inj h
    refine ⟨Or.inr rfl, _, _, _, (resVs_cons (ResV.tmp _ _ rfl) resVs_nil), (by (repeat' first | exact PubA.nil _ | apply PubA.cons | apply PubV.one | apply PubV.agg | exact PubL.nil | exact PubL.ls _ _ _ _ _ _ rfl (flat_len (f := eGApiRange) (fun _ => rfl) _).symm | exact PubL.ls _ _ _ _ _ _ rfl (flat_len (f := eI) (fun _ => rfl) _).symm | exact PubL.id _ rfl | exact PubLs.nil _ | apply PubLs.cons)), ?_⟩
    rfl
  · skip
    refine cblock ?_
    obtain ⟨x3, hx3, ho3⟩ := bind_eq h
    refine awc_loop (G := Nat × (Int × (List GApiRange))) (fun g => [(5, .s (.one (.ls 2 g.2.2.length))), (12, .s (.one (.sl v1.L.length (v1.L.flatMap eGReadsRead)))), (13, .s (.one (.i .i64 (v1.L.length : Int)))), (14, .s (.one (.i .i64 g.2.1)))]) (fun g => [.box [.sl a0.L.length (a0.L.flatMap eGReadsRead)], .arr 3 1 ([a1].flatMap eI).length ([a1].flatMap eI), .arr 27 3 0 (g.2.2.flatMap eGApiRange)]) (fun g => iterB (m26_reads_Of_s3 v1) g.1 g.2 = some x3) (fun g => g.1) (fuel, (0, ([] : List GApiRange))) hx3 ⟨rfl, rfl, rfl, rfl, trivial⟩ [] rfl (fun _ _ => inbL_of rfl) (fun _ _ => blkinb_of rfl) (fun _ _ => Nat.le_of_ble_eq_true rfl) ?_
    clear hx3 h
    rintro ⟨n3, s3⟩ h
    obtain ⟨n3, y3, rfl, h, hk3⟩ := iterB_eq h
    unfold m26_reads_Of_s3 at h
    refine cseq ?_
    refine cregion ?_
    refine sv rfl (opv_lss rfl rfl) ?_
    refine snil ?_
    refine cseq ?_
    refine ccond rfl (fun hc => ?_) (fun hc => ?_)
    · replace h := ite_t hc h
      clear hc
      refine cskip ?_
      refine then_normal ?_
      refine cseq ?_
      refine cblock ?_
      refine cseq ?_
      refine cregion ?_
      obtain ⟨u4, hu4, h⟩ := bind_eq h
      refine sv rfl (opv_ix (f := eGReadsRead) si32 (fun _ => rfl) rfl rfl rfl rfl hu4) ?_
      refine sv rfl (opv_loadNe (ys := [.i .i64 u4.Tx, .sl u4.Rng.Lo.length (u4.Rng.Lo.flatMap eU8), .sl u4.Rng.Hi.length (u4.Rng.Hi.flatMap eU8), .b u4.Rng.Open]) ti63 rfl (.cp _) rfl rfl) ?_
      refine salloc rfl zi63 ?_
      refine sstore sz63 rfl rfl rfl rfl (Nat.le_of_ble_eq_true rfl) ?_
      refine smem [.box [.sl a0.L.length (a0.L.flatMap eGReadsRead)], .arr 3 1 ([a1].flatMap eI).length ([a1].flatMap eI), .arr 27 3 0 (s3.2.flatMap eGApiRange), .box u4] rfl ?_
      refine snil ?_
      refine cregion ?_
      refine sv rfl (opv_mv rfl) ?_
      refine sv rfl (opv_fieldAddr_lp fi63_1 rfl) ?_
      refine sv rfl (opv_loadN ti27 rfl (.lp _ _ _ rfl) (Nat.le_of_ble_eq_true rfl)) ?_
      refine sbuild1 rfl Try.underlying50 ei27 rfl rfl (List.all_eq_true.1 rfl) (by decide) ?_
      refine smem [.box [.sl a0.L.length (a0.L.flatMap eGReadsRead)], .arr 3 1 ([a1].flatMap eI).length ([a1].flatMap eI), .arr 27 3 0 (s3.2.flatMap eGApiRange), .box u4, .arr 27 3 0 ([(GApiRange.mk u4.Rng.Lo u4.Rng.Hi u4.Rng.Open)].flatMap eGApiRange)] rfl ?_
      obtain ⟨hb5, h⟩ := chk_eq h
      refine sapp (f := eGApiRange) (xs := s3.2) (us := [(GApiRange.mk u4.Rng.Lo u4.Rng.Hi u4.Rng.Open)]) rfl Try.underlying50 ei27 ni50 (fun _ => rfl) rfl rfl (.one _ _ _ _ (.ls _ _ _ _ _ _ rfl (flat_len (f := eGApiRange) (fun _ => rfl) [(GApiRange.mk u4.Rng.Lo u4.Rng.Hi u4.Rng.Open)]).symm)) rfl rfl rfl (.sl _ _ _ (flat_len (f := eGApiRange) (fun _ => rfl) _)) rfl rfl hb5 (by decide) ?_
      refine sv rfl (opv_as rfl) ?_
      refine snil0 ?_
      refine block_normal ?_
      refine then_normal ?_
      refine cregion ?_
      refine sv rfl (opv_add rfl rfl) ?_
      refine sv rfl (opv_mv rfl) ?_
      refine snil ?_
      obtain rfl := Option.some.inj h
      exact ⟨(n3, ((wI (s3.1 + 1)), (s3.2 ++ [(GApiRange.mk u4.Rng.Lo u4.Rng.Hi u4.Rng.Open)]))), _, hk3, ⟨rfl, rfl, rfl, rfl, trivial⟩, rfl, Nat.lt_succ_self _⟩
    · replace h := ite_f hc h
      clear hc
      refine cexit ?_
      refine then_exit ?_
      refine then_exit ?_
      refine block_hit ?_
      refine then_normal ?_
      obtain rfl := Option.some.inj h
      obtain rfl : _ = x3 := hk3
      exact ⟨s3.2, _, ho3, ⟨rfl, trivial⟩, rfl⟩

def m27_r10_Of_k1 (b1 : (List GApiRange)) : Option (List GApiRange) :=
  some b1

def m27_r10_Of_s2 (a0 : GR10Table) (a1 : Int) (s2 : Int × (List GApiRange)) : Option (LB (Int × (List GApiRange)) ((List GApiRange))) :=
  if (decide (s2.1 < (a0.L.length : Int))) then ((idx a0.L s2.1).bind fun u3 => if (decide (u3.Tx = a1)) then ((idx a0.L s2.1).bind fun u4 => if (s2.2.length + [(GApiRange.mk u4.Rng.Lo u4.Rng.Hi u4.Rng.Open)].length) * 56 ≤ 140737488355328 then (some (.cont ((wI (s2.1 + 1)), (s2.2 ++ [(GApiRange.mk u4.Rng.Lo u4.Rng.Hi u4.Rng.Open)])))) else none) else (some (.cont ((wI (s2.1 + 1)), s2.2)))) else (some (.brk s2.2))
def m27_r10_Of (a0 : GR10Table) (a1 : Int) : Option (List GApiRange) :=
  (iterB (m27_r10_Of_s2 a0 a1) fuel (0, ([] : List GApiRange))).bind fun e6 => m27_r10_Of_k1 e6

set_option maxRecDepth 100000 in
theorem m27_r10_Of_c {a0 : GR10Table} {a1 : Int} {r : (List GApiRange)} (h : m27_r10_Of a0 a1 = some r) : CallsA Try.prog 27 [.agg [.sl a0.L.length (a0.L.flatMap eGR10Read)], .one (.i .i64 a1)] (· = .s (.one (.sl r.length (r.flatMap eGApiRange)))) := by
  unfold m27_r10_Of at h
  refine callsA_of Try.func27 rfl (nt := 32) rfl (Nat.le_of_ble_eq_true rfl) ?_
  intro w0 S0
  refine cseq ?_
  refine cregion ?_
  refine sbox rfl rfl ?_
  refine sv rfl (opv_as rfl) ?_
  refine snil ?_
  refine cseq ?_
  refine cregion ?_
  refine sv rfl (opv_as rfl) ?_
  refine snil ?_
  refine cseq ?_
  refine cseq ?_
  refine cregion ?_
  refine sv rfl (opv_as rfl) ?_
  refine snil ?_
  refine sadopt_c 27 3 5 (by decide) rfl ?_
  refine cjoin ((List GApiRange)) (fun b1 => [(5, .s (.one (.ls 1 b1.length)))]) (fun b1 => [.box [.sl a0.L.length (a0.L.flatMap eGR10Read)], .arr 27 3 0 (b1.flatMap eGApiRange)]) (fun b1 => m27_r10_Of_k1 b1 = some r) (fun _ _ => inbL_of rfl) (fun _ _ => blkinb_of rfl) (fun _ _ => Nat.le_of_ble_eq_true rfl) (fun b1 h => ?_) ?_
  · unfold m27_r10_Of_k1 at h
    refine cseq ?_
    refine cregion ?_
    refine sv rfl (opv_mv rfl) ?_
    refine sv rfl (opv_as rfl) ?_
    refine snil ?_
    refine cret ?_
    obtain rfl := Option.some.inj h
    refine ⟨Or.inr rfl, _, _, _, (resVs_cons (ResV.tmp _ _ rfl) resVs_nil), (by (repeat' first | exact PubA.nil _ | apply PubA.cons | apply PubV.one | apply PubV.agg | exact PubL.nil | exact PubL.ls _ _ _ _ _ _ rfl (flat_len (f := eGApiRange) (fun _ => rfl) _).symm | exact PubL.id _ rfl | exact PubLs.nil _ | apply PubLs.cons)), ?_⟩
    rfl
  · skip
    refine cblock ?_
    obtain ⟨x2, hx2, ho2⟩ := bind_eq h
    refine awc_loop (G := Nat × (Int × (List GApiRange))) (fun g => [(1, .s (.one (.i .i64 a1))), (2, .s (.one (.lp 0 0))), (5, .s (.one (.ls 1 g.2.2.length))), (6, .s (.one (.i .i64 g.2.1)))]) (fun g => [.box [.sl a0.L.length (a0.L.flatMap eGR10Read)], .arr 27 3 0 (g.2.2.flatMap eGApiRange)]) (fun g => iterB (m27_r10_Of_s2 a0 a1) g.1 g.2 = some x2) (fun g => g.1) (fuel, (0, ([] : List GApiRange))) hx2 ⟨rfl, rfl, rfl, rfl, trivial⟩ [] rfl (fun _ _ => inbL_of rfl) (fun _ _ => blkinb_of rfl) (fun _ _ => Nat.le_of_ble_eq_true rfl) ?_
    clear hx2 h
    rintro ⟨n2, s2⟩ h
    obtain ⟨n2, y2, rfl, h, hk2⟩ := iterB_eq h
    unfold m27_r10_Of_s2 at h
    refine cseq ?_
    refine cseq ?_
    refine cregion ?_
    refine sv rfl (opv_mv rfl) ?_
    refine sv rfl (opv_fieldAddr_lp fi24_0 rfl) ?_
    refine sv rfl (opv_load1 ti22 rfl (.lp _ _ _ rfl) rfl) ?_
    refine sv rfl (opv_len_sl si22 rfl) ?_
    refine sv rfl (opv_lss rfl rfl) ?_
    refine snil ?_
    refine ccond rfl (fun hc => ?_) (fun hc => ?_)
    · replace h := ite_t hc h
      clear hc
      refine cskip ?_
      refine then_normal ?_
      refine cseq ?_
      refine cblock ?_
      refine cseq ?_
      refine cregion ?_
      refine sv rfl (opv_fieldAddr_lp fi24_0 rfl) ?_
      refine sv rfl (opv_load1 ti22 rfl (.lp _ _ _ rfl) rfl) ?_
      refine sv rfl (opv_mv rfl) ?_
      obtain ⟨u3, hu3, h⟩ := bind_eq h
      refine sv rfl (opv_ix (f := eGR10Read) si22 (fun _ => rfl) rfl rfl rfl rfl hu3) ?_
      refine sv rfl (opv_fieldAddr_cp fi56_0 rfl) ?_
      refine sv rfl (opv_load1 ti3 rfl (.cp _) rfl) ?_
      refine sv rfl (opv_mv rfl) ?_
      refine sv rfl (opv_ieql rfl rfl) ?_
      refine snil ?_
      refine ccond rfl (fun hc => ?_) (fun hc => ?_)
      · replace h := ite_t hc h
        clear hc
        refine cregion ?_
        refine sv rfl (opv_mv rfl) ?_
        refine sv rfl (opv_fieldAddr_lp fi24_0 rfl) ?_
        refine sv rfl (opv_load1 ti22 rfl (.lp _ _ _ rfl) rfl) ?_
        refine sv rfl (opv_mv rfl) ?_
        obtain ⟨u4, hu4, h⟩ := bind_eq h
        refine sv rfl (opv_ix (f := eGR10Read) si22 (fun _ => rfl) rfl rfl rfl rfl hu4) ?_
        refine sv rfl (opv_fieldAddr_cp fi56_1 rfl) ?_
        refine sv rfl (opv_loadNe (ys := [.sl u4.Rng.Lo.length (u4.Rng.Lo.flatMap eU8), .sl u4.Rng.Hi.length (u4.Rng.Hi.flatMap eU8), .b u4.Rng.Open]) ti27 rfl (.cp _) rfl rfl) ?_
        refine sbuild1 rfl Try.underlying50 ei27 rfl rfl (List.all_eq_true.1 rfl) (by decide) ?_
        refine smem [.box [.sl a0.L.length (a0.L.flatMap eGR10Read)], .arr 27 3 0 (s2.2.flatMap eGApiRange), .arr 27 3 0 ([(GApiRange.mk u4.Rng.Lo u4.Rng.Hi u4.Rng.Open)].flatMap eGApiRange)] rfl ?_
        obtain ⟨hb5, h⟩ := chk_eq h
        refine sapp (f := eGApiRange) (xs := s2.2) (us := [(GApiRange.mk u4.Rng.Lo u4.Rng.Hi u4.Rng.Open)]) rfl Try.underlying50 ei27 ni50 (fun _ => rfl) rfl rfl (.one _ _ _ _ (.ls _ _ _ _ _ _ rfl (flat_len (f := eGApiRange) (fun _ => rfl) [(GApiRange.mk u4.Rng.Lo u4.Rng.Hi u4.Rng.Open)]).symm)) rfl rfl rfl (.sl _ _ _ (flat_len (f := eGApiRange) (fun _ => rfl) _)) rfl rfl hb5 (by decide) ?_
        refine sv rfl (opv_as rfl) ?_
        refine snil0 ?_
        refine block_normal ?_
        refine then_normal ?_
        refine cregion ?_
        refine sv rfl (opv_mv rfl) ?_
        refine sv rfl (opv_add rfl rfl) ?_
        refine sv rfl (opv_as rfl) ?_
        refine snil ?_
        obtain rfl := Option.some.inj h
        exact ⟨(n2, ((wI (s2.1 + 1)), (s2.2 ++ [(GApiRange.mk u4.Rng.Lo u4.Rng.Hi u4.Rng.Open)]))), _, hk2, ⟨rfl, rfl, rfl, rfl, trivial⟩, rfl, Nat.lt_succ_self _⟩
      · replace h := ite_f hc h
        clear hc
        refine cskip ?_
        refine block_normal ?_
        refine then_normal ?_
        refine cregion ?_
        refine sv rfl (opv_mv rfl) ?_
        refine sv rfl (opv_add rfl rfl) ?_
        refine sv rfl (opv_as rfl) ?_
        refine snil ?_
        obtain rfl := Option.some.inj h
        exact ⟨(n2, ((wI (s2.1 + 1)), s2.2)), _, hk2, ⟨rfl, rfl, rfl, rfl, trivial⟩, rfl, Nat.lt_succ_self _⟩
    · replace h := ite_f hc h
      clear hc
      refine cexit ?_
      refine then_exit ?_
      refine then_exit ?_
      refine block_hit ?_
      refine then_normal ?_
      obtain rfl := Option.some.inj h
      obtain rfl : _ = x2 := hk2
      exact ⟨s2.2, _, ho2, ⟨rfl, trivial⟩, rfl⟩

def m25_r10_Ranges_k1 (b1 : Unit) : Option Bool :=
  some true

def m25_r10_Ranges_s2 (a0 : List GApiRange) (a1 : List GApiRange) (s2 : Int) : Option (LR (Int) (Unit) (Bool)) :=
  if (decide (s2 < (a0.length : Int))) then ((idx a0 s2).bind fun u3 => (idx a1 s2).bind fun u4 => (m43_r06_SameRange u3 u4).bind fun v5 => if (!v5) then (some (.ret false)) else (some (.cont (wI (s2 + 1))))) else (some (.brk ()))
def m25_r10_Ranges (a0 : List GApiRange) (a1 : List GApiRange) : Option Bool :=
  if (!decide ((a0.length : Int) = (a1.length : Int))) then (some false) else ((iter (m25_r10_Ranges_s2 a0 a1) fuel 0).bind fun x => match x with | .inl r => some r | .inr e6 => m25_r10_Ranges_k1 e6)

set_option maxRecDepth 100000 in
theorem m25_r10_Ranges_c {a0 : List GApiRange} {a1 : List GApiRange} {r : Bool} (h : m25_r10_Ranges a0 a1 = some r) : CallsA Try.prog 25 [.one (.sl a0.length (a0.flatMap eGApiRange)), .one (.sl a1.length (a1.flatMap eGApiRange))] (· = .s (.one (.b r))) := by
  unfold m25_r10_Ranges at h
  refine callsA_of Try.func25 rfl (nt := 27) rfl (Nat.le_of_ble_eq_true rfl) ?_
  intro w0 S0
  refine cseq ?_
  refine cregion ?_
  refine sv rfl (opv_as rfl) ?_
  refine snil ?_
  refine cseq ?_
  refine cseq ?_
  refine cregion ?_
  refine sv rfl (opv_mv rfl) ?_
  refine sv rfl (opv_len_sl si50 rfl) ?_
  refine sv rfl (opv_mv rfl) ?_
  refine sv rfl (opv_len_sl si50 rfl) ?_
  refine sv rfl (opv_ineq rfl rfl) ?_
  refine snil ?_
  refine ccond rfl (fun hc => ?_) (fun hc => ?_)
  · replace h := ite_t hc h
    clear hc
    refine cseq ?_
    refine cregion ?_
    refine sv rfl (opv_as rfl) ?_
    refine snil ?_
    refine cret ?_
    refine then_ret ?_
    obtain rfl := Option.some.inj h
    refine ⟨Or.inr rfl, _, _, _, (resVs_cons (ResV.tmp _ _ rfl) resVs_nil), (pubA_id rfl), ?_⟩
    rfl
  · replace h := ite_f hc h
    clear hc
    refine cskip ?_
    refine then_normal ?_
    refine cseq ?_
    refine cseq ?_
    refine cregion ?_
    refine sv rfl (opv_as rfl) ?_
    refine snil ?_
    refine cjoin (Unit) (fun b1 => []) (fun b1 => []) (fun b1 => m25_r10_Ranges_k1 b1 = some r) (fun _ _ => inbL_of rfl) (fun _ _ => blkinb_of rfl) (fun _ _ => Nat.le_of_ble_eq_true rfl) (fun b1 h => ?_) ?_
    · unfold m25_r10_Ranges_k1 at h
      refine cseq ?_
      refine cregion ?_
      refine sv rfl (opv_as rfl) ?_
      refine snil ?_
      refine cret ?_
      obtain rfl := Option.some.inj h
      refine ⟨Or.inr rfl, _, _, _, (resVs_cons (ResV.tmp _ _ rfl) resVs_nil), (pubA_id rfl), ?_⟩
      rfl
    · skip
      refine cblock ?_
      obtain ⟨x2, hx2, ho2⟩ := bind_eq h
      refine awc_loop (G := Nat × (Int)) (fun g => [(0, .s (.one (.sl a0.length (a0.flatMap eGApiRange)))), (1, .s (.one (.sl a1.length (a1.flatMap eGApiRange)))), (5, .s (.one (.i .i64 g.2)))]) (fun g => []) (fun g => iter (m25_r10_Ranges_s2 a0 a1) g.1 g.2 = some x2) (fun g => g.1) (fuel, 0) hx2 ⟨rfl, rfl, rfl, trivial⟩ [] rfl (fun _ _ => inbL_of rfl) (fun _ _ => blkinb_of rfl) (fun _ _ => Nat.le_of_ble_eq_true rfl) ?_
      clear hx2 h
      rintro ⟨n2, s2⟩ h
      obtain ⟨n2, y2, rfl, h, hk2⟩ := iter_eq h
      unfold m25_r10_Ranges_s2 at h
      refine cseq ?_
      refine cseq ?_
      refine cregion ?_
      refine sv rfl (opv_mv rfl) ?_
      refine sv rfl (opv_mv rfl) ?_
      refine sv rfl (opv_len_sl si50 rfl) ?_
      refine sv rfl (opv_lss rfl rfl) ?_
      refine snil ?_
      refine ccond rfl (fun hc => ?_) (fun hc => ?_)
      · replace h := ite_t hc h
        clear hc
        refine cskip ?_
        refine then_normal ?_
        refine cseq ?_
        refine cblock ?_
        refine cseq ?_
        refine cdraw mixed (by kernel_rfl) ?_
        refine dv rfl (opv_mv rfl) ?_
        refine dv rfl (opv_mv rfl) ?_
        obtain ⟨u3, hu3, h⟩ := bind_eq h
        refine dv rfl (opv_ix (f := eGApiRange) si50 (fun _ => rfl) rfl rfl rfl rfl hu3) ?_
        refine dv rfl (opv_loadNe (ys := [.sl u3.Lo.length (u3.Lo.flatMap eU8), .sl u3.Hi.length (u3.Hi.flatMap eU8), .b u3.Open]) ti27 rfl (.cp _) rfl rfl) ?_
        refine dv rfl (opv_mv rfl) ?_
        refine dv rfl (opv_mv rfl) ?_
        obtain ⟨u4, hu4, h⟩ := bind_eq h
        refine dv rfl (opv_ix (f := eGApiRange) si50 (fun _ => rfl) rfl rfl rfl rfl hu4) ?_
        refine dv rfl (opv_loadNe (ys := [.sl u4.Lo.length (u4.Lo.flatMap eU8), .sl u4.Hi.length (u4.Hi.flatMap eU8), .b u4.Open]) ti27 rfl (.cp _) rfl rfl) ?_
        obtain ⟨v5, hv5, h⟩ := bind_eq h
        refine dd rfl (opD_call fn43 (opnds_cons rfl (opnds_cons rfl opnds_nil)) rfl (m43_r06_SameRange_c hv5)) ?_
        refine dv rfl (opv_not rfl) ?_
        refine dnil ?_
        refine then_normal ?_
        refine ccond rfl (fun hc => ?_) (fun hc => ?_)
        · replace h := ite_t hc h
          clear hc
          refine cseq ?_
          refine cregion ?_
          refine sv rfl (opv_as rfl) ?_
          refine snil ?_
          refine cret ?_
          refine block_ret ?_
          refine then_ret ?_
          refine then_ret ?_
          refine block_ret ?_
          refine then_ret ?_
          obtain rfl := Option.some.inj h
          obtain rfl : Sum.inl _ = x2 := hk2
          replace ho2 : some _ = some _ := ho2
          obtain rfl := Option.some.inj ho2
          refine ⟨Or.inr rfl, _, _, _, (resVs_cons (ResV.tmp _ _ rfl) resVs_nil), (pubA_id rfl), ?_⟩
          rfl
        · replace h := ite_f hc h
          clear hc
          refine cskip ?_
          refine block_normal ?_
          refine then_normal ?_
          refine cregion ?_
          refine sv rfl (opv_mv rfl) ?_
          refine sv rfl (opv_add rfl rfl) ?_
          refine sv rfl (opv_as rfl) ?_
          refine snil ?_
          obtain rfl := Option.some.inj h
          exact ⟨(n2, (wI (s2 + 1))), _, hk2, ⟨rfl, rfl, rfl, trivial⟩, rfl, Nat.lt_succ_self _⟩
      · replace h := ite_f hc h
        clear hc
        refine cexit ?_
        refine then_exit ?_
        refine then_exit ?_
        refine block_hit ?_
        refine then_normal ?_
        obtain rfl := Option.some.inj h
        obtain rfl : _ = x2 := hk2
        exact ⟨(), _, ho2, trivial, rfl⟩

def m3_l10_ReadsIs_k2 (a0 : GR10Table) (a1 : Int) (a2 : GApiRange) (a3 : List UInt8) (a4 : List Int) (v1 : Bool) (b2 : Unit) : Option Bool :=
  (m11_l10_ours a0).bind fun v3 => (m12_reads_Add v3 a1 a2).bind fun v4 => (m13_r10_Add (GR10Table.mk a0.L) a1 a2).bind fun v5 => if v1 then ((m15_l10_theirs v4.1).bind fun v6 => (m14_r10_Same v6 v5.1).bind fun v7 => if v7 then (if (decide (v4.2 = v5.2)) then ((m16_reads_Sane (GReadsTable.mk v3.L)).bind fun v8 => (m17_r10_Sane a0).bind fun v9 => if (v8 == v9) then ((m19_reads_Hits (GReadsTable.mk v3.L) a3).bind fun v10 => (m20_r10_Hits (GR10Table.mk a0.L) a3).bind fun v11 => (m18_r10_Ints v10 v11).bind fun v12 => if v12 then ((m21_reads_Drop (GReadsTable.mk v3.L) a4).bind fun v13 => (m15_l10_theirs v13).bind fun v14 => (m22_r10_Drop (GR10Table.mk a0.L) a4).bind fun v15 => (m14_r10_Same v14 v15).bind fun v16 => if v16 then ((m23_reads_Keep (GReadsTable.mk v3.L) a4).bind fun v17 => (m15_l10_theirs v17).bind fun v18 => (m24_r10_Keep a0 a4).bind fun v19 => (m14_r10_Same v18 v19).bind fun v20 => if v20 then ((m26_reads_Of (GReadsTable.mk v3.L) a1).bind fun v21 => (m27_r10_Of a0 a1).bind fun v22 => (m25_r10_Ranges v21 v22).bind fun v23 => if v23 then ((m15_l10_theirs (GReadsTable.mk v3.L)).bind fun v24 => (m14_r10_Same v24 (GR10Table.mk a0.L)).bind fun v25 => some v25) else (some false)) else (some false)) else (some false)) else (some false)) else (some false)) else (some false)) else (some false)) else (some false)
def m3_l10_ReadsIs (a0 : GR10Table) (a1 : Int) (a2 : GApiRange) (a3 : List UInt8) (a4 : List Int) : Option Bool :=
  (m8_l10_awake).bind fun v1 => (m9_r10_Few (GR10Table.mk a0.L)).bind fun v26 => if (!v26) then (some v1) else ((m10_r06_Short (GApiRange.mk a2.Lo a2.Hi a2.Open)).bind fun v27 => if (!v27) then (some v1) else (if (decide (50 < (a3.length : Int))) then (some v1) else (if (decide (50 < (a4.length : Int))) then (some v1) else (m3_l10_ReadsIs_k2 a0 a1 a2 a3 a4 v1 ()))))

set_option maxRecDepth 100000 in
theorem m3_l10_ReadsIs_c {a0 : GR10Table} {a1 : Int} {a2 : GApiRange} {a3 : List UInt8} {a4 : List Int} {r : Bool} (h : m3_l10_ReadsIs a0 a1 a2 a3 a4 = some r) : CallsA Try.prog 3 [.agg [.sl a0.L.length (a0.L.flatMap eGR10Read)], .one (.i .i64 a1), .agg a2, .one (.sl a3.length (a3.flatMap eU8)), .one (.sl a4.length (a4.flatMap eI))] (· = .s (.one (.b r))) := by
  unfold m3_l10_ReadsIs at h
  refine callsA_of Try.func3 rfl (nt := 116) rfl (Nat.le_of_ble_eq_true rfl) ?_
  intro w0 S0
  refine cseq ?_
  refine cregion ?_
  refine sbox rfl rfl ?_
  refine sbox rfl rfl ?_
  refine sv rfl (opv_as rfl) ?_
  refine snil ?_
  refine cseq ?_
  refine cregion ?_
  obtain ⟨v1, hv1, h⟩ := bind_eq h
  refine scall1 rfl fn8 opnds_nil (pubA_id rfl) (m8_l10_awake_c hv1) ?_
  refine sv rfl (opv_as rfl) ?_
  refine snil ?_
  refine cseq ?_
  refine cseq ?_
  refine cjoin3 (Unit) (fun b2 => [(1, .s (.one (.i .i64 a1))), (3, .s (.one (.sl a3.length (a3.flatMap eU8)))), (4, .s (.one (.sl a4.length (a4.flatMap eI)))), (5, .s (.one (.lp 0 0))), (7, .s (.one (.lp 1 0))), (11, .s (.one (.b v1)))]) (fun b2 => [.box [.sl a0.L.length (a0.L.flatMap eGR10Read)], .box a2]) (fun b2 => m3_l10_ReadsIs_k2 a0 a1 a2 a3 a4 v1 b2 = some r) (fun _ _ => inbL_of rfl) (fun _ _ => blkinb_of rfl) (fun _ _ => Nat.le_of_ble_eq_true rfl) (fun b2 h => ?_) ?_
  · unfold m3_l10_ReadsIs_k2 at h
    refine cseq ?_
    refine cregion ?_
    refine sv rfl (opv_loadN ti24 rfl (.lp _ _ _ rfl) (Nat.le_of_ble_eq_true rfl)) ?_
    obtain ⟨v3, hv3, h⟩ := bind_eq h
    refine scall1 rfl fn11 (opnds_cons rfl opnds_nil) (pubA_id rfl) (m11_l10_ours_c hv3) ?_
    refine salloc rfl zi34 ?_
    refine sstore sz34 rfl rfl rfl rfl (Nat.le_of_ble_eq_true rfl) ?_
    refine smem [.box [.sl a0.L.length (a0.L.flatMap eGR10Read)], .box a2, .box [.sl v3.L.length (v3.L.flatMap eGReadsRead)]] rfl ?_
    refine snil ?_
    refine cseq ?_
    refine cregion ?_
    refine sv rfl (opv_loadN ti34 rfl (.lp _ _ _ rfl) (Nat.le_of_ble_eq_true rfl)) ?_
    refine sv rfl (opv_mv rfl) ?_
    refine sv rfl (opv_loadN ti27 rfl (.lp _ _ _ rfl) (Nat.le_of_ble_eq_true rfl)) ?_
    obtain ⟨v4, hv4, h⟩ := bind_eq h
    refine scall1 rfl fn12 (opnds_cons rfl (opnds_cons rfl (opnds_cons rfl opnds_nil))) (pubA_id rfl) (m12_reads_Add_c hv4) ?_
    refine sv rfl (opv_mvt rfl) ?_
    refine sv rfl (opv_extract rfl rfl) ?_
    refine sv rfl (opv_extract rfl rfl) ?_
    refine salloc rfl zi34 ?_
    refine sstore sz34 rfl rfl rfl rfl (Nat.le_of_ble_eq_true rfl) ?_
    refine smem [.box [.sl a0.L.length (a0.L.flatMap eGR10Read)], .box a2, .box [.sl v3.L.length (v3.L.flatMap eGReadsRead)], .box [.sl v4.1.L.length (v4.1.L.flatMap eGReadsRead)]] rfl ?_
    refine sv rfl (opv_as rfl) ?_
    refine snil ?_
    refine cseq ?_
    refine cregion ?_
    refine sv rfl (opv_loadN ti24 rfl (.lp _ _ _ rfl) (Nat.le_of_ble_eq_true rfl)) ?_
    refine sv rfl (opv_mv rfl) ?_
    refine sv rfl (opv_loadN ti27 rfl (.lp _ _ _ rfl) (Nat.le_of_ble_eq_true rfl)) ?_
    obtain ⟨v5, hv5, h⟩ := bind_eq h
    refine scall1 rfl fn13 (opnds_cons rfl (opnds_cons rfl (opnds_cons rfl opnds_nil))) (pubA_id rfl) (m13_r10_Add_c hv5) ?_
    refine sv rfl (opv_mvt rfl) ?_
    refine sv rfl (opv_extract rfl rfl) ?_
    refine sv rfl (opv_extract rfl rfl) ?_
    refine salloc rfl zi24 ?_
    refine sstore sz24 rfl rfl rfl rfl (Nat.le_of_ble_eq_true rfl) ?_
    refine smem [.box [.sl a0.L.length (a0.L.flatMap eGR10Read)], .box a2, .box [.sl v3.L.length (v3.L.flatMap eGReadsRead)], .box [.sl v4.1.L.length (v4.1.L.flatMap eGReadsRead)], .box [.sl v5.1.L.length (v5.1.L.flatMap eGR10Read)]] rfl ?_
    refine sv rfl (opv_as rfl) ?_
    refine snil ?_
    refine cseq ?_
    refine cdraw mixed (by kernel_rfl) ?_
    refine dv rfl (opv_mv rfl) ?_
    refine dv rfl (opv_mv rfl) ?_
    refine dsplit 54 rfl (fun hc => ?_) (fun hc => ?_)
    · replace h := ite_t hc h
      clear hc
      refine dvg rfl rfl rfl (opv_loadN ti34 rfl (.lp _ _ _ rfl) (Nat.le_of_ble_eq_true rfl)) ?_
      obtain ⟨v6, hv6, h⟩ := bind_eq h
      refine ddg rfl rfl rfl (opD_call fn15 (opnds_cons rfl opnds_nil) rfl (m15_l10_theirs_c hv6)) ?_
      refine dvg rfl rfl rfl (opv_loadN ti24 rfl (.lp _ _ _ rfl) (Nat.le_of_ble_eq_true rfl)) ?_
      obtain ⟨v7, hv7, h⟩ := bind_eq h
      refine ddg rfl rfl rfl (opD_call fn14 (opnds_cons rfl (opnds_cons rfl opnds_nil)) rfl (m14_r10_Same_c hv7)) ?_
      refine dv rfl (opv_pick_t rfl rfl) ?_
      refine dv rfl (opv_mv rfl) ?_
      refine dsplit 60 rfl (fun hc => ?_) (fun hc => ?_)
      · replace h := ite_t hc h
        clear hc
        refine dvg rfl rfl rfl (opv_mv rfl) ?_
        refine dvg rfl rfl rfl (opv_mv rfl) ?_
        refine dvg rfl rfl rfl (opv_ieql rfl rfl) ?_
        refine dv rfl (opv_pick_t rfl rfl) ?_
        refine dv rfl (opv_mv rfl) ?_
        refine dsplit 65 rfl (fun hc => ?_) (fun hc => ?_)
        · replace h := ite_t hc h
          clear hc
          refine dvg rfl rfl rfl (opv_loadN ti34 rfl (.lp _ _ _ rfl) (Nat.le_of_ble_eq_true rfl)) ?_
          obtain ⟨v8, hv8, h⟩ := bind_eq h
          refine ddg rfl rfl rfl (opD_call fn16 (opnds_cons rfl opnds_nil) rfl (m16_reads_Sane_c hv8)) ?_
          refine dvg rfl rfl rfl (opv_loadN ti24 rfl (.lp _ _ _ rfl) (Nat.le_of_ble_eq_true rfl)) ?_
          obtain ⟨v9, hv9, h⟩ := bind_eq h
          refine ddg rfl rfl rfl (opD_call fn17 (opnds_cons rfl opnds_nil) rfl (m17_r10_Sane_c hv9)) ?_
          refine dvg rfl rfl rfl (opv_beql Try.underlying4 rfl rfl) ?_
          refine dv rfl (opv_pick_t rfl rfl) ?_
          refine dv rfl (opv_mv rfl) ?_
          refine dsplit 72 rfl (fun hc => ?_) (fun hc => ?_)
          · replace h := ite_t hc h
            clear hc
            refine dvg rfl rfl rfl (opv_loadN ti34 rfl (.lp _ _ _ rfl) (Nat.le_of_ble_eq_true rfl)) ?_
            refine dvg rfl rfl rfl (opv_mv rfl) ?_
            obtain ⟨v10, hv10, h⟩ := bind_eq h
            refine ddg rfl rfl rfl (opD_call fn19 (opnds_cons rfl (opnds_cons rfl opnds_nil)) rfl (m19_reads_Hits_c hv10)) ?_
            refine dvg rfl rfl rfl (opv_loadN ti24 rfl (.lp _ _ _ rfl) (Nat.le_of_ble_eq_true rfl)) ?_
            refine dvg rfl rfl rfl (opv_mv rfl) ?_
            obtain ⟨v11, hv11, h⟩ := bind_eq h
            refine ddg rfl rfl rfl (opD_call fn20 (opnds_cons rfl (opnds_cons rfl opnds_nil)) rfl (m20_r10_Hits_c hv11)) ?_
            obtain ⟨v12, hv12, h⟩ := bind_eq h
            refine ddg rfl rfl rfl (opD_call fn18 (opnds_cons rfl (opnds_cons rfl opnds_nil)) rfl (m18_r10_Ints_c hv12)) ?_
            refine dv rfl (opv_pick_t rfl rfl) ?_
            refine dv rfl (opv_mv rfl) ?_
            refine dsplit 81 rfl (fun hc => ?_) (fun hc => ?_)
            · replace h := ite_t hc h
              clear hc
              refine dvg rfl rfl rfl (opv_loadN ti34 rfl (.lp _ _ _ rfl) (Nat.le_of_ble_eq_true rfl)) ?_
              refine dvg rfl rfl rfl (opv_mv rfl) ?_
              obtain ⟨v13, hv13, h⟩ := bind_eq h
              refine ddg rfl rfl rfl (opD_call fn21 (opnds_cons rfl (opnds_cons rfl opnds_nil)) rfl (m21_reads_Drop_c hv13)) ?_
              obtain ⟨v14, hv14, h⟩ := bind_eq h
              refine ddg rfl rfl rfl (opD_call fn15 (opnds_cons rfl opnds_nil) rfl (m15_l10_theirs_c hv14)) ?_
              refine dvg rfl rfl rfl (opv_loadN ti24 rfl (.lp _ _ _ rfl) (Nat.le_of_ble_eq_true rfl)) ?_
              refine dvg rfl rfl rfl (opv_mv rfl) ?_
              obtain ⟨v15, hv15, h⟩ := bind_eq h
              refine ddg rfl rfl rfl (opD_call fn22 (opnds_cons rfl (opnds_cons rfl opnds_nil)) rfl (m22_r10_Drop_c hv15)) ?_
              obtain ⟨v16, hv16, h⟩ := bind_eq h
              refine ddg rfl rfl rfl (opD_call fn14 (opnds_cons rfl (opnds_cons rfl opnds_nil)) rfl (m14_r10_Same_c hv16)) ?_
              refine dv rfl (opv_pick_t rfl rfl) ?_
              refine dv rfl (opv_mv rfl) ?_
              refine dsplit 91 rfl (fun hc => ?_) (fun hc => ?_)
              · replace h := ite_t hc h
                clear hc
                refine dvg rfl rfl rfl (opv_loadN ti34 rfl (.lp _ _ _ rfl) (Nat.le_of_ble_eq_true rfl)) ?_
                refine dvg rfl rfl rfl (opv_mv rfl) ?_
                obtain ⟨v17, hv17, h⟩ := bind_eq h
                refine ddg rfl rfl rfl (opD_call fn23 (opnds_cons rfl (opnds_cons rfl opnds_nil)) rfl (m23_reads_Keep_c hv17)) ?_
                obtain ⟨v18, hv18, h⟩ := bind_eq h
                refine ddg rfl rfl rfl (opD_call fn15 (opnds_cons rfl opnds_nil) rfl (m15_l10_theirs_c hv18)) ?_
                refine dvg rfl rfl rfl (opv_loadN ti24 rfl (.lp _ _ _ rfl) (Nat.le_of_ble_eq_true rfl)) ?_
                refine dvg rfl rfl rfl (opv_mv rfl) ?_
                obtain ⟨v19, hv19, h⟩ := bind_eq h
                refine ddg rfl rfl rfl (opD_call fn24 (opnds_cons rfl (opnds_cons rfl opnds_nil)) rfl (m24_r10_Keep_c hv19)) ?_
                obtain ⟨v20, hv20, h⟩ := bind_eq h
                refine ddg rfl rfl rfl (opD_call fn14 (opnds_cons rfl (opnds_cons rfl opnds_nil)) rfl (m14_r10_Same_c hv20)) ?_
                refine dv rfl (opv_pick_t rfl rfl) ?_
                refine dv rfl (opv_mv rfl) ?_
                refine dsplit 101 rfl (fun hc => ?_) (fun hc => ?_)
                · replace h := ite_t hc h
                  clear hc
                  refine dvg rfl rfl rfl (opv_loadN ti34 rfl (.lp _ _ _ rfl) (Nat.le_of_ble_eq_true rfl)) ?_
                  refine dvg rfl rfl rfl (opv_mv rfl) ?_
                  obtain ⟨v21, hv21, h⟩ := bind_eq h
                  refine ddg rfl rfl rfl (opD_call fn26 (opnds_cons rfl (opnds_cons rfl opnds_nil)) rfl (m26_reads_Of_c hv21)) ?_
                  refine dvg rfl rfl rfl (opv_loadN ti24 rfl (.lp _ _ _ rfl) (Nat.le_of_ble_eq_true rfl)) ?_
                  refine dvg rfl rfl rfl (opv_mv rfl) ?_
                  obtain ⟨v22, hv22, h⟩ := bind_eq h
                  refine ddg rfl rfl rfl (opD_call fn27 (opnds_cons rfl (opnds_cons rfl opnds_nil)) rfl (m27_r10_Of_c hv22)) ?_
                  obtain ⟨v23, hv23, h⟩ := bind_eq h
                  refine ddg rfl rfl rfl (opD_call fn25 (opnds_cons rfl (opnds_cons rfl opnds_nil)) rfl (m25_r10_Ranges_c hv23)) ?_
                  refine dv rfl (opv_pick_t rfl rfl) ?_
                  refine dv rfl (opv_mv rfl) ?_
                  refine dsplit 110 rfl (fun hc => ?_) (fun hc => ?_)
                  · replace h := ite_t hc h
                    clear hc
                    refine dvg rfl rfl rfl (opv_loadN ti34 rfl (.lp _ _ _ rfl) (Nat.le_of_ble_eq_true rfl)) ?_
                    obtain ⟨v24, hv24, h⟩ := bind_eq h
                    refine ddg rfl rfl rfl (opD_call fn15 (opnds_cons rfl opnds_nil) rfl (m15_l10_theirs_c hv24)) ?_
                    refine dvg rfl rfl rfl (opv_loadN ti24 rfl (.lp _ _ _ rfl) (Nat.le_of_ble_eq_true rfl)) ?_
                    obtain ⟨v25, hv25, h⟩ := bind_eq h
                    refine ddg rfl rfl rfl (opD_call fn14 (opnds_cons rfl (opnds_cons rfl opnds_nil)) rfl (m14_r10_Same_c hv25)) ?_
                    refine dv rfl (opv_pick_t rfl rfl) ?_
                    refine dv rfl (opv_as rfl) ?_
                    refine dnil ?_
                    refine then_normal ?_
                    refine cret ?_
                    obtain rfl := Option.some.inj h
                    refine ⟨Or.inr rfl, _, _, _, (resVs_cons (ResV.tmp _ _ rfl) resVs_nil), (pubA_id rfl), ?_⟩
                    rfl
                  · replace h := ite_f hc h
                    clear hc
                    refine doff rfl rfl rfl rfl ?_
                    refine doff rfl rfl rfl rfl ?_
                    refine doff rfl rfl rfl rfl ?_
                    refine doff rfl rfl rfl rfl ?_
                    refine dv rfl (opv_pick_f rfl rfl) ?_
                    refine dv rfl (opv_as rfl) ?_
                    refine dnil ?_
                    refine then_normal ?_
                    refine cret ?_
                    obtain rfl := Option.some.inj h
                    refine ⟨Or.inr rfl, _, _, _, (resVs_cons (ResV.tmp _ _ rfl) resVs_nil), (pubA_id rfl), ?_⟩
                    rfl
                · replace h := ite_f hc h
                  clear hc
                  refine doff rfl rfl rfl rfl ?_
                  refine doff rfl rfl rfl rfl ?_
                  refine doff rfl rfl rfl rfl ?_
                  refine doff rfl rfl rfl rfl ?_
                  refine doff rfl rfl rfl rfl ?_
                  refine doff rfl rfl rfl rfl ?_
                  refine doff rfl rfl rfl rfl ?_
                  refine dv rfl (opv_pick_f rfl rfl) ?_
                  refine dv rfl (opv_mv rfl) ?_
                  refine doff rfl rfl rfl rfl ?_
                  refine doff rfl rfl rfl rfl ?_
                  refine doff rfl rfl rfl rfl ?_
                  refine doff rfl rfl rfl rfl ?_
                  refine dv rfl (opv_pick_f rfl rfl) ?_
                  refine dv rfl (opv_as rfl) ?_
                  refine dnil ?_
                  refine then_normal ?_
                  refine cret ?_
                  obtain rfl := Option.some.inj h
                  refine ⟨Or.inr rfl, _, _, _, (resVs_cons (ResV.tmp _ _ rfl) resVs_nil), (pubA_id rfl), ?_⟩
                  rfl
              · replace h := ite_f hc h
                clear hc
                refine doff rfl rfl rfl rfl ?_
                refine doff rfl rfl rfl rfl ?_
                refine doff rfl rfl rfl rfl ?_
                refine doff rfl rfl rfl rfl ?_
                refine doff rfl rfl rfl rfl ?_
                refine doff rfl rfl rfl rfl ?_
                refine doff rfl rfl rfl rfl ?_
                refine doff rfl rfl rfl rfl ?_
                refine dv rfl (opv_pick_f rfl rfl) ?_
                refine dv rfl (opv_mv rfl) ?_
                refine doff rfl rfl rfl rfl ?_
                refine doff rfl rfl rfl rfl ?_
                refine doff rfl rfl rfl rfl ?_
                refine doff rfl rfl rfl rfl ?_
                refine doff rfl rfl rfl rfl ?_
                refine doff rfl rfl rfl rfl ?_
                refine doff rfl rfl rfl rfl ?_
                refine dv rfl (opv_pick_f rfl rfl) ?_
                refine dv rfl (opv_mv rfl) ?_
                refine doff rfl rfl rfl rfl ?_
                refine doff rfl rfl rfl rfl ?_
                refine doff rfl rfl rfl rfl ?_
                refine doff rfl rfl rfl rfl ?_
                refine dv rfl (opv_pick_f rfl rfl) ?_
                refine dv rfl (opv_as rfl) ?_
                refine dnil ?_
                refine then_normal ?_
                refine cret ?_
                obtain rfl := Option.some.inj h
                refine ⟨Or.inr rfl, _, _, _, (resVs_cons (ResV.tmp _ _ rfl) resVs_nil), (pubA_id rfl), ?_⟩
                rfl
            · replace h := ite_f hc h
              clear hc
              refine doff rfl rfl rfl rfl ?_
              refine doff rfl rfl rfl rfl ?_
              refine doff rfl rfl rfl rfl ?_
              refine doff rfl rfl rfl rfl ?_
              refine doff rfl rfl rfl rfl ?_
              refine doff rfl rfl rfl rfl ?_
              refine doff rfl rfl rfl rfl ?_
              refine doff rfl rfl rfl rfl ?_
              refine dv rfl (opv_pick_f rfl rfl) ?_
              refine dv rfl (opv_mv rfl) ?_
              refine doff rfl rfl rfl rfl ?_
              refine doff rfl rfl rfl rfl ?_
              refine doff rfl rfl rfl rfl ?_
              refine doff rfl rfl rfl rfl ?_
              refine doff rfl rfl rfl rfl ?_
              refine doff rfl rfl rfl rfl ?_
              refine doff rfl rfl rfl rfl ?_
              refine doff rfl rfl rfl rfl ?_
              refine dv rfl (opv_pick_f rfl rfl) ?_
              refine dv rfl (opv_mv rfl) ?_
              refine doff rfl rfl rfl rfl ?_
              refine doff rfl rfl rfl rfl ?_
              refine doff rfl rfl rfl rfl ?_
              refine doff rfl rfl rfl rfl ?_
              refine doff rfl rfl rfl rfl ?_
              refine doff rfl rfl rfl rfl ?_
              refine doff rfl rfl rfl rfl ?_
              refine dv rfl (opv_pick_f rfl rfl) ?_
              refine dv rfl (opv_mv rfl) ?_
              refine doff rfl rfl rfl rfl ?_
              refine doff rfl rfl rfl rfl ?_
              refine doff rfl rfl rfl rfl ?_
              refine doff rfl rfl rfl rfl ?_
              refine dv rfl (opv_pick_f rfl rfl) ?_
              refine dv rfl (opv_as rfl) ?_
              refine dnil ?_
              refine then_normal ?_
              refine cret ?_
              obtain rfl := Option.some.inj h
              refine ⟨Or.inr rfl, _, _, _, (resVs_cons (ResV.tmp _ _ rfl) resVs_nil), (pubA_id rfl), ?_⟩
              rfl
          · replace h := ite_f hc h
            clear hc
            refine doff rfl rfl rfl rfl ?_
            refine doff rfl rfl rfl rfl ?_
            refine doff rfl rfl rfl rfl ?_
            refine doff rfl rfl rfl rfl ?_
            refine doff rfl rfl rfl rfl ?_
            refine doff rfl rfl rfl rfl ?_
            refine doff rfl rfl rfl rfl ?_
            refine dv rfl (opv_pick_f rfl rfl) ?_
            refine dv rfl (opv_mv rfl) ?_
            refine doff rfl rfl rfl rfl ?_
            refine doff rfl rfl rfl rfl ?_
            refine doff rfl rfl rfl rfl ?_
            refine doff rfl rfl rfl rfl ?_
            refine doff rfl rfl rfl rfl ?_
            refine doff rfl rfl rfl rfl ?_
            refine doff rfl rfl rfl rfl ?_
            refine doff rfl rfl rfl rfl ?_
            refine dv rfl (opv_pick_f rfl rfl) ?_
            refine dv rfl (opv_mv rfl) ?_
            refine doff rfl rfl rfl rfl ?_
            refine doff rfl rfl rfl rfl ?_
            refine doff rfl rfl rfl rfl ?_
            refine doff rfl rfl rfl rfl ?_
            refine doff rfl rfl rfl rfl ?_
            refine doff rfl rfl rfl rfl ?_
            refine doff rfl rfl rfl rfl ?_
            refine doff rfl rfl rfl rfl ?_
            refine dv rfl (opv_pick_f rfl rfl) ?_
            refine dv rfl (opv_mv rfl) ?_
            refine doff rfl rfl rfl rfl ?_
            refine doff rfl rfl rfl rfl ?_
            refine doff rfl rfl rfl rfl ?_
            refine doff rfl rfl rfl rfl ?_
            refine doff rfl rfl rfl rfl ?_
            refine doff rfl rfl rfl rfl ?_
            refine doff rfl rfl rfl rfl ?_
            refine dv rfl (opv_pick_f rfl rfl) ?_
            refine dv rfl (opv_mv rfl) ?_
            refine doff rfl rfl rfl rfl ?_
            refine doff rfl rfl rfl rfl ?_
            refine doff rfl rfl rfl rfl ?_
            refine doff rfl rfl rfl rfl ?_
            refine dv rfl (opv_pick_f rfl rfl) ?_
            refine dv rfl (opv_as rfl) ?_
            refine dnil ?_
            refine then_normal ?_
            refine cret ?_
            obtain rfl := Option.some.inj h
            refine ⟨Or.inr rfl, _, _, _, (resVs_cons (ResV.tmp _ _ rfl) resVs_nil), (pubA_id rfl), ?_⟩
            rfl
        · replace h := ite_f hc h
          clear hc
          refine doff rfl rfl rfl rfl ?_
          refine doff rfl rfl rfl rfl ?_
          refine doff rfl rfl rfl rfl ?_
          refine doff rfl rfl rfl rfl ?_
          refine doff rfl rfl rfl rfl ?_
          refine dv rfl (opv_pick_f rfl rfl) ?_
          refine dv rfl (opv_mv rfl) ?_
          refine doff rfl rfl rfl rfl ?_
          refine doff rfl rfl rfl rfl ?_
          refine doff rfl rfl rfl rfl ?_
          refine doff rfl rfl rfl rfl ?_
          refine doff rfl rfl rfl rfl ?_
          refine doff rfl rfl rfl rfl ?_
          refine doff rfl rfl rfl rfl ?_
          refine dv rfl (opv_pick_f rfl rfl) ?_
          refine dv rfl (opv_mv rfl) ?_
          refine doff rfl rfl rfl rfl ?_
          refine doff rfl rfl rfl rfl ?_
          refine doff rfl rfl rfl rfl ?_
          refine doff rfl rfl rfl rfl ?_
          refine doff rfl rfl rfl rfl ?_
          refine doff rfl rfl rfl rfl ?_
          refine doff rfl rfl rfl rfl ?_
          refine doff rfl rfl rfl rfl ?_
          refine dv rfl (opv_pick_f rfl rfl) ?_
          refine dv rfl (opv_mv rfl) ?_
          refine doff rfl rfl rfl rfl ?_
          refine doff rfl rfl rfl rfl ?_
          refine doff rfl rfl rfl rfl ?_
          refine doff rfl rfl rfl rfl ?_
          refine doff rfl rfl rfl rfl ?_
          refine doff rfl rfl rfl rfl ?_
          refine doff rfl rfl rfl rfl ?_
          refine doff rfl rfl rfl rfl ?_
          refine dv rfl (opv_pick_f rfl rfl) ?_
          refine dv rfl (opv_mv rfl) ?_
          refine doff rfl rfl rfl rfl ?_
          refine doff rfl rfl rfl rfl ?_
          refine doff rfl rfl rfl rfl ?_
          refine doff rfl rfl rfl rfl ?_
          refine doff rfl rfl rfl rfl ?_
          refine doff rfl rfl rfl rfl ?_
          refine doff rfl rfl rfl rfl ?_
          refine dv rfl (opv_pick_f rfl rfl) ?_
          refine dv rfl (opv_mv rfl) ?_
          refine doff rfl rfl rfl rfl ?_
          refine doff rfl rfl rfl rfl ?_
          refine doff rfl rfl rfl rfl ?_
          refine doff rfl rfl rfl rfl ?_
          refine dv rfl (opv_pick_f rfl rfl) ?_
          refine dv rfl (opv_as rfl) ?_
          refine dnil ?_
          refine then_normal ?_
          refine cret ?_
          obtain rfl := Option.some.inj h
          refine ⟨Or.inr rfl, _, _, _, (resVs_cons (ResV.tmp _ _ rfl) resVs_nil), (pubA_id rfl), ?_⟩
          rfl
      · replace h := ite_f hc h
        clear hc
        refine doff rfl rfl rfl rfl ?_
        refine doff rfl rfl rfl rfl ?_
        refine doff rfl rfl rfl rfl ?_
        refine dv rfl (opv_pick_f rfl rfl) ?_
        refine dv rfl (opv_mv rfl) ?_
        refine doff rfl rfl rfl rfl ?_
        refine doff rfl rfl rfl rfl ?_
        refine doff rfl rfl rfl rfl ?_
        refine doff rfl rfl rfl rfl ?_
        refine doff rfl rfl rfl rfl ?_
        refine dv rfl (opv_pick_f rfl rfl) ?_
        refine dv rfl (opv_mv rfl) ?_
        refine doff rfl rfl rfl rfl ?_
        refine doff rfl rfl rfl rfl ?_
        refine doff rfl rfl rfl rfl ?_
        refine doff rfl rfl rfl rfl ?_
        refine doff rfl rfl rfl rfl ?_
        refine doff rfl rfl rfl rfl ?_
        refine doff rfl rfl rfl rfl ?_
        refine dv rfl (opv_pick_f rfl rfl) ?_
        refine dv rfl (opv_mv rfl) ?_
        refine doff rfl rfl rfl rfl ?_
        refine doff rfl rfl rfl rfl ?_
        refine doff rfl rfl rfl rfl ?_
        refine doff rfl rfl rfl rfl ?_
        refine doff rfl rfl rfl rfl ?_
        refine doff rfl rfl rfl rfl ?_
        refine doff rfl rfl rfl rfl ?_
        refine doff rfl rfl rfl rfl ?_
        refine dv rfl (opv_pick_f rfl rfl) ?_
        refine dv rfl (opv_mv rfl) ?_
        refine doff rfl rfl rfl rfl ?_
        refine doff rfl rfl rfl rfl ?_
        refine doff rfl rfl rfl rfl ?_
        refine doff rfl rfl rfl rfl ?_
        refine doff rfl rfl rfl rfl ?_
        refine doff rfl rfl rfl rfl ?_
        refine doff rfl rfl rfl rfl ?_
        refine doff rfl rfl rfl rfl ?_
        refine dv rfl (opv_pick_f rfl rfl) ?_
        refine dv rfl (opv_mv rfl) ?_
        refine doff rfl rfl rfl rfl ?_
        refine doff rfl rfl rfl rfl ?_
        refine doff rfl rfl rfl rfl ?_
        refine doff rfl rfl rfl rfl ?_
        refine doff rfl rfl rfl rfl ?_
        refine doff rfl rfl rfl rfl ?_
        refine doff rfl rfl rfl rfl ?_
        refine dv rfl (opv_pick_f rfl rfl) ?_
        refine dv rfl (opv_mv rfl) ?_
        refine doff rfl rfl rfl rfl ?_
        refine doff rfl rfl rfl rfl ?_
        refine doff rfl rfl rfl rfl ?_
        refine doff rfl rfl rfl rfl ?_
        refine dv rfl (opv_pick_f rfl rfl) ?_
        refine dv rfl (opv_as rfl) ?_
        refine dnil ?_
        refine then_normal ?_
        refine cret ?_
        obtain rfl := Option.some.inj h
        refine ⟨Or.inr rfl, _, _, _, (resVs_cons (ResV.tmp _ _ rfl) resVs_nil), (pubA_id rfl), ?_⟩
        rfl
    · replace h := ite_f hc h
      clear hc
      refine doff rfl rfl rfl rfl ?_
      refine doff rfl rfl rfl rfl ?_
      refine doff rfl rfl rfl rfl ?_
      refine doff rfl rfl rfl rfl ?_
      refine dv rfl (opv_pick_f rfl rfl) ?_
      refine dv rfl (opv_mv rfl) ?_
      refine doff rfl rfl rfl rfl ?_
      refine doff rfl rfl rfl rfl ?_
      refine doff rfl rfl rfl rfl ?_
      refine dv rfl (opv_pick_f rfl rfl) ?_
      refine dv rfl (opv_mv rfl) ?_
      refine doff rfl rfl rfl rfl ?_
      refine doff rfl rfl rfl rfl ?_
      refine doff rfl rfl rfl rfl ?_
      refine doff rfl rfl rfl rfl ?_
      refine doff rfl rfl rfl rfl ?_
      refine dv rfl (opv_pick_f rfl rfl) ?_
      refine dv rfl (opv_mv rfl) ?_
      refine doff rfl rfl rfl rfl ?_
      refine doff rfl rfl rfl rfl ?_
      refine doff rfl rfl rfl rfl ?_
      refine doff rfl rfl rfl rfl ?_
      refine doff rfl rfl rfl rfl ?_
      refine doff rfl rfl rfl rfl ?_
      refine doff rfl rfl rfl rfl ?_
      refine dv rfl (opv_pick_f rfl rfl) ?_
      refine dv rfl (opv_mv rfl) ?_
      refine doff rfl rfl rfl rfl ?_
      refine doff rfl rfl rfl rfl ?_
      refine doff rfl rfl rfl rfl ?_
      refine doff rfl rfl rfl rfl ?_
      refine doff rfl rfl rfl rfl ?_
      refine doff rfl rfl rfl rfl ?_
      refine doff rfl rfl rfl rfl ?_
      refine doff rfl rfl rfl rfl ?_
      refine dv rfl (opv_pick_f rfl rfl) ?_
      refine dv rfl (opv_mv rfl) ?_
      refine doff rfl rfl rfl rfl ?_
      refine doff rfl rfl rfl rfl ?_
      refine doff rfl rfl rfl rfl ?_
      refine doff rfl rfl rfl rfl ?_
      refine doff rfl rfl rfl rfl ?_
      refine doff rfl rfl rfl rfl ?_
      refine doff rfl rfl rfl rfl ?_
      refine doff rfl rfl rfl rfl ?_
      refine dv rfl (opv_pick_f rfl rfl) ?_
      refine dv rfl (opv_mv rfl) ?_
      refine doff rfl rfl rfl rfl ?_
      refine doff rfl rfl rfl rfl ?_
      refine doff rfl rfl rfl rfl ?_
      refine doff rfl rfl rfl rfl ?_
      refine doff rfl rfl rfl rfl ?_
      refine doff rfl rfl rfl rfl ?_
      refine doff rfl rfl rfl rfl ?_
      refine dv rfl (opv_pick_f rfl rfl) ?_
      refine dv rfl (opv_mv rfl) ?_
      refine doff rfl rfl rfl rfl ?_
      refine doff rfl rfl rfl rfl ?_
      refine doff rfl rfl rfl rfl ?_
      refine doff rfl rfl rfl rfl ?_
      refine dv rfl (opv_pick_f rfl rfl) ?_
      refine dv rfl (opv_as rfl) ?_
      refine dnil ?_
      refine then_normal ?_
      refine cret ?_
      obtain rfl := Option.some.inj h
      refine ⟨Or.inr rfl, _, _, _, (resVs_cons (ResV.tmp _ _ rfl) resVs_nil), (pubA_id rfl), ?_⟩
      rfl
  · skip
    refine cregion ?_
    refine sv rfl (opv_loadN ti24 rfl (.lp _ _ _ rfl) (Nat.le_of_ble_eq_true rfl)) ?_
    obtain ⟨v26, hv26, h⟩ := bind_eq h
    refine scall1 rfl fn9 (opnds_cons rfl opnds_nil) (pubA_id rfl) (m9_r10_Few_c hv26) ?_
    refine sv rfl (opv_not rfl) ?_
    refine sv rfl (opv_mv rfl) ?_
    refine ssplit 21 rfl (fun hc => ?_) (fun hc => ?_)
    · replace h := ite_t hc h
      clear hc
      refine soff rfl rfl rfl rfl ?_
      refine soff rfl rfl rfl rfl ?_
      refine soff rfl rfl rfl rfl ?_
      refine sv rfl (opv_pick_t rfl rfl) ?_
      refine sv rfl (opv_mv rfl) ?_
      refine soff rfl rfl rfl rfl ?_
      refine soff rfl rfl rfl rfl ?_
      refine soff rfl rfl rfl rfl ?_
      refine sv rfl (opv_pick_t rfl rfl) ?_
      refine sv rfl (opv_mv rfl) ?_
      refine soff rfl rfl rfl rfl ?_
      refine soff rfl rfl rfl rfl ?_
      refine soff rfl rfl rfl rfl ?_
      refine sv rfl (opv_pick_t rfl rfl) ?_
      refine snil ?_
      refine ccond rfl (fun _ => ?_) (fun hx => Bool.noConfusion hx)
      refine cseq ?_
      refine cregion ?_
      refine sv rfl (opv_mv rfl) ?_
      refine sv rfl (opv_as rfl) ?_
      refine snil ?_
      refine cret ?_
      refine then_ret ?_
      obtain rfl := Option.some.inj h
      refine ⟨Or.inr rfl, _, _, _, (resVs_cons (ResV.tmp _ _ rfl) resVs_nil), (pubA_id rfl), ?_⟩
      rfl
    · replace h := ite_f hc h
      clear hc
      refine son rfl rfl rfl ?_
      refine sv rfl (opv_loadN ti27 rfl (.lp _ _ _ rfl) (Nat.le_of_ble_eq_true rfl)) ?_
      refine son rfl rfl rfl ?_
      obtain ⟨v27, hv27, h⟩ := bind_eq h
      refine scall1 rfl fn10 (opnds_cons rfl opnds_nil) (pubA_id rfl) (m10_r06_Short_c hv27) ?_
      refine son rfl rfl rfl ?_
      refine sv rfl (opv_not rfl) ?_
      refine sv rfl (opv_pick_f rfl rfl) ?_
      refine sv rfl (opv_mv rfl) ?_
      refine ssplit 26 rfl (fun hc => ?_) (fun hc => ?_)
      · replace h := ite_t hc h
        clear hc
        refine soff rfl rfl rfl rfl ?_
        refine soff rfl rfl rfl rfl ?_
        refine soff rfl rfl rfl rfl ?_
        refine sv rfl (opv_pick_t rfl rfl) ?_
        refine sv rfl (opv_mv rfl) ?_
        refine soff rfl rfl rfl rfl ?_
        refine soff rfl rfl rfl rfl ?_
        refine soff rfl rfl rfl rfl ?_
        refine sv rfl (opv_pick_t rfl rfl) ?_
        refine snil ?_
        refine ccond rfl (fun _ => ?_) (fun hx => Bool.noConfusion hx)
        refine cseq ?_
        refine cregion ?_
        refine sv rfl (opv_mv rfl) ?_
        refine sv rfl (opv_as rfl) ?_
        refine snil ?_
        refine cret ?_
        refine then_ret ?_
        obtain rfl := Option.some.inj h
        refine ⟨Or.inr rfl, _, _, _, (resVs_cons (ResV.tmp _ _ rfl) resVs_nil), (pubA_id rfl), ?_⟩
        rfl
      · replace h := ite_f hc h
        clear hc
        refine son rfl rfl rfl ?_
        refine sv rfl (opv_mv rfl) ?_
        refine son rfl rfl rfl ?_
        refine sv rfl (opv_len_sl si25 rfl) ?_
        refine son rfl rfl rfl ?_
        refine sv rfl (opv_gtr rfl rfl) ?_
        refine sv rfl (opv_pick_f rfl rfl) ?_
        refine sv rfl (opv_mv rfl) ?_
        refine ssplit 31 rfl (fun hc => ?_) (fun hc => ?_)
        · replace h := ite_t hc h
          clear hc
          refine soff rfl rfl rfl rfl ?_
          refine soff rfl rfl rfl rfl ?_
          refine soff rfl rfl rfl rfl ?_
          refine sv rfl (opv_pick_t rfl rfl) ?_
          refine snil ?_
          refine ccond rfl (fun _ => ?_) (fun hx => Bool.noConfusion hx)
          refine cseq ?_
          refine cregion ?_
          refine sv rfl (opv_mv rfl) ?_
          refine sv rfl (opv_as rfl) ?_
          refine snil ?_
          refine cret ?_
          refine then_ret ?_
          obtain rfl := Option.some.inj h
          refine ⟨Or.inr rfl, _, _, _, (resVs_cons (ResV.tmp _ _ rfl) resVs_nil), (pubA_id rfl), ?_⟩
          rfl
        · replace h := ite_f hc h
          clear hc
          refine son rfl rfl rfl ?_
          refine sv rfl (opv_mv rfl) ?_
          refine son rfl rfl rfl ?_
          refine sv rfl (opv_len_sl si28 rfl) ?_
          refine son rfl rfl rfl ?_
          refine sv rfl (opv_gtr rfl rfl) ?_
          refine sv rfl (opv_pick_f rfl rfl) ?_
          refine snil ?_
          refine ccond rfl (fun hc => ?_) (fun hc => ?_)
          · replace h := ite_t hc h
            clear hc
            refine cseq ?_
            refine cregion ?_
            refine sv rfl (opv_mv rfl) ?_
            refine sv rfl (opv_as rfl) ?_
            refine snil ?_
            refine cret ?_
            refine then_ret ?_
            obtain rfl := Option.some.inj h
            refine ⟨Or.inr rfl, _, _, _, (resVs_cons (ResV.tmp _ _ rfl) resVs_nil), (pubA_id rfl), ?_⟩
            rfl
          · replace h := ite_f hc h
            clear hc
            refine cskip ?_
            refine then_normal ?_
            exact ⟨(), _, h, ⟨rfl, rfl, rfl, rfl, rfl, rfl, trivial⟩, rfl⟩

def m28_l10_grown_k1 (b1 : (List GReadsRead)) : Option GReadsTable :=
  some (GReadsTable.mk b1)

def m28_l10_grown_s2 (a0 : List GR10Read) (s2 : Int × (List GReadsRead)) : Option (LB (Int × (List GReadsRead)) ((List GReadsRead))) :=
  if (decide (s2.1 < (a0.length : Int))) then ((idx a0 s2.1).bind fun u3 => (idx a0 s2.1).bind fun u4 => (m12_reads_Add (GReadsTable.mk s2.2) u3.Tx (GApiRange.mk u4.Rng.Lo u4.Rng.Hi u4.Rng.Open)).bind fun v5 => if (decide (v5.2 = 0)) then (some (.cont ((wI (s2.1 + 1)), v5.1.L))) else (some (.cont ((wI (s2.1 + 1)), s2.2)))) else (some (.brk s2.2))
def m28_l10_grown (a0 : List GR10Read) : Option GReadsTable :=
  (iterB (m28_l10_grown_s2 a0) fuel (0, ([] : List GReadsRead))).bind fun e6 => m28_l10_grown_k1 e6

set_option maxRecDepth 100000 in
theorem m28_l10_grown_c {a0 : List GR10Read} {r : GReadsTable} (h : m28_l10_grown a0 = some r) : CallsA Try.prog 28 [.one (.sl a0.length (a0.flatMap eGR10Read))] (· = .s (.agg [.sl r.L.length (r.L.flatMap eGReadsRead)])) := by
  unfold m28_l10_grown at h
  refine callsA_of Try.func28 rfl (nt := 33) rfl (Nat.le_of_ble_eq_true rfl) ?_
  intro w0 S0
  refine cseq ?_
  refine cregion ?_
  refine salloc rfl zi34 ?_
  refine snil ?_
  refine cseq ?_
  refine cregion ?_
  refine sv rfl (opv_build zi34 pi34 parts_nil (.nil _)) ?_
  refine salloc rfl zi34 ?_
  refine sstore sz34 rfl rfl rfl rfl (Nat.le_of_ble_eq_true rfl) ?_
  refine smem [.box [.raw (.slice none 0 0)], .box [.raw (.slice none 0 0)]] rfl ?_
  refine snil ?_
  refine cseq ?_
  refine cseq ?_
  refine cregion ?_
  refine sv rfl (opv_as rfl) ?_
  refine snil ?_
  refine cjoin ((List GReadsRead)) (fun b1 => [(2, .s (.one (.lp 0 0))), (3, .s (.one (.lp 1 0)))]) (fun b1 => [.box [.raw (.slice none 0 0)], .box [.sl b1.length (b1.flatMap eGReadsRead)]]) (fun b1 => m28_l10_grown_k1 b1 = some r) (fun _ _ => inbL_of rfl) (fun _ _ => blkinb_of rfl) (fun _ _ => Nat.le_of_ble_eq_true rfl) (fun b1 h => ?_) ?_
  · unfold m28_l10_grown_k1 at h
    refine cseq ?_
    refine cregion ?_
    refine sv rfl (opv_loadN ti34 rfl (.lp _ _ _ rfl) (Nat.le_of_ble_eq_true rfl)) ?_
    refine sstore sz34 rfl rfl rfl rfl (Nat.le_of_ble_eq_true rfl) ?_
    refine smem [.box [.sl b1.length (b1.flatMap eGReadsRead)], .box [.sl b1.length (b1.flatMap eGReadsRead)]] rfl ?_
    refine snil ?_
    refine cret ?_
    obtain rfl := Option.some.inj h
    refine ⟨Or.inr rfl, _, _, _, (resVs_cons (ResV.agg _ _ _ _ _ ti34 rfl (.lp _ _ _ rfl) (Nat.le_of_ble_eq_true rfl)) resVs_nil), (pubA_id rfl), ?_⟩
    rfl
  · skip
    refine cblock ?_
    refine cpubbox 1 0 rfl rfl PubL.nil rfl ?_
    obtain ⟨x2, hx2, ho2⟩ := bind_eq h
    refine awc_loop (G := Nat × (Int × (List GReadsRead))) (fun g => [(0, .s (.one (.sl a0.length (a0.flatMap eGR10Read)))), (2, .s (.one (.lp 0 0))), (3, .s (.one (.lp 1 0))), (4, .s (.one (.i .i64 g.2.1)))]) (fun g => [.box [.raw (.slice none 0 0)], .box [.sl g.2.2.length (g.2.2.flatMap eGReadsRead)]]) (fun g => iterB (m28_l10_grown_s2 a0) g.1 g.2 = some x2) (fun g => g.1) (fuel, (0, ([] : List GReadsRead))) hx2 ⟨rfl, rfl, rfl, rfl, trivial⟩ [] rfl (fun _ _ => inbL_of rfl) (fun _ _ => blkinb_of rfl) (fun _ _ => Nat.le_of_ble_eq_true rfl) ?_
    clear hx2 h
    rintro ⟨n2, s2⟩ h
    obtain ⟨n2, y2, rfl, h, hk2⟩ := iterB_eq h
    unfold m28_l10_grown_s2 at h
    refine cseq ?_
    refine cseq ?_
    refine cregion ?_
    refine sv rfl (opv_mv rfl) ?_
    refine sv rfl (opv_mv rfl) ?_
    refine sv rfl (opv_len_sl si22 rfl) ?_
    refine sv rfl (opv_lss rfl rfl) ?_
    refine snil ?_
    refine ccond rfl (fun hc => ?_) (fun hc => ?_)
    · replace h := ite_t hc h
      clear hc
      refine cskip ?_
      refine then_normal ?_
      refine cseq ?_
      refine cblock ?_
      refine cseq ?_
      refine chole ?_
      obtain ⟨u3, hu3, h⟩ := bind_eq h
      obtain ⟨u4, hu4, h⟩ := bind_eq h
      obtain ⟨v5, hv5, h⟩ := bind_eq h
      refine cdraw_e [15, 16] [0, 0, 0, 6, 14, 30, 0, 0, 192, 448, 960, 2047, 4095, 8191, 8191, 0, 49151, 131071] [[.box [.raw (.slice none 0 0)], .box [.sl s2.2.length (s2.2.flatMap eGReadsRead)], .hole], [.box [.raw (.slice none 0 0)], .box [.sl s2.2.length (s2.2.flatMap eGReadsRead)], .box [.raw (.slice none 0 0)]], [.box [.raw (.slice none 0 0)], .box [.sl s2.2.length (s2.2.flatMap eGReadsRead)], .box [.sl v5.1.L.length (v5.1.L.flatMap eGReadsRead)]]] (by kernel_rfl) mixed (by kernel_rfl) (by decide) rfl rfl rfl rfl ?_
      refine ev (sees_all (md := [.box [.raw (.slice none 0 0)], .box [.sl s2.2.length (s2.2.flatMap eGReadsRead)], .dead]) ⟨⟨rfl, ⟨rfl, ⟨trivial, trivial⟩⟩⟩, ⟨⟨rfl, ⟨rfl, ⟨trivial, trivial⟩⟩⟩, ⟨⟨rfl, ⟨rfl, ⟨trivial, trivial⟩⟩⟩, trivial⟩⟩⟩) rfl rfl (opv_loadN ti34 rfl (.lp _ _ _ rfl) (Nat.le_of_ble_eq_true rfl)) ?_
      refine emv rfl rfl (fun _ => opv_mv rfl) ?_
      refine emv rfl rfl (fun _ => opv_mv rfl) ?_
      refine ev (sees_all (md := [.box [.raw (.slice none 0 0)], .box [.sl s2.2.length (s2.2.flatMap eGReadsRead)], .dead]) ⟨⟨rfl, ⟨rfl, ⟨trivial, trivial⟩⟩⟩, ⟨⟨rfl, ⟨rfl, ⟨trivial, trivial⟩⟩⟩, ⟨⟨rfl, ⟨rfl, ⟨trivial, trivial⟩⟩⟩, trivial⟩⟩⟩) rfl rfl (opv_ix (f := eGR10Read) si22 (fun _ => rfl) rfl rfl rfl rfl hu3) ?_
      refine ev (sees_all (md := [.box [.raw (.slice none 0 0)], .box [.sl s2.2.length (s2.2.flatMap eGReadsRead)], .dead]) ⟨⟨rfl, ⟨rfl, ⟨trivial, trivial⟩⟩⟩, ⟨⟨rfl, ⟨rfl, ⟨trivial, trivial⟩⟩⟩, ⟨⟨rfl, ⟨rfl, ⟨trivial, trivial⟩⟩⟩, trivial⟩⟩⟩) rfl rfl (opv_fieldAddr_cp fi56_0 rfl) ?_
      refine ev (sees_all (md := [.box [.raw (.slice none 0 0)], .box [.sl s2.2.length (s2.2.flatMap eGReadsRead)], .dead]) ⟨⟨rfl, ⟨rfl, ⟨trivial, trivial⟩⟩⟩, ⟨⟨rfl, ⟨rfl, ⟨trivial, trivial⟩⟩⟩, ⟨⟨rfl, ⟨rfl, ⟨trivial, trivial⟩⟩⟩, trivial⟩⟩⟩) rfl rfl (opv_load1 ti3 rfl (.cp _) rfl) ?_
      refine emv rfl rfl (fun _ => opv_mv rfl) ?_
      refine emv rfl rfl (fun _ => opv_mv rfl) ?_
      refine ev (sees_all (md := [.box [.raw (.slice none 0 0)], .box [.sl s2.2.length (s2.2.flatMap eGReadsRead)], .dead]) ⟨⟨rfl, ⟨rfl, ⟨trivial, trivial⟩⟩⟩, ⟨⟨rfl, ⟨rfl, ⟨trivial, trivial⟩⟩⟩, ⟨⟨rfl, ⟨rfl, ⟨trivial, trivial⟩⟩⟩, trivial⟩⟩⟩) rfl rfl (opv_ix (f := eGR10Read) si22 (fun _ => rfl) rfl rfl rfl rfl hu4) ?_
      refine ev (sees_all (md := [.box [.raw (.slice none 0 0)], .box [.sl s2.2.length (s2.2.flatMap eGReadsRead)], .dead]) ⟨⟨rfl, ⟨rfl, ⟨trivial, trivial⟩⟩⟩, ⟨⟨rfl, ⟨rfl, ⟨trivial, trivial⟩⟩⟩, ⟨⟨rfl, ⟨rfl, ⟨trivial, trivial⟩⟩⟩, trivial⟩⟩⟩) rfl rfl (opv_fieldAddr_cp fi56_1 rfl) ?_
      refine ev (sees_all (md := [.box [.raw (.slice none 0 0)], .box [.sl s2.2.length (s2.2.flatMap eGReadsRead)], .dead]) ⟨⟨rfl, ⟨rfl, ⟨trivial, trivial⟩⟩⟩, ⟨⟨rfl, ⟨rfl, ⟨trivial, trivial⟩⟩⟩, ⟨⟨rfl, ⟨rfl, ⟨trivial, trivial⟩⟩⟩, trivial⟩⟩⟩) rfl rfl (opv_loadNe (ys := [.sl u4.Rng.Lo.length (u4.Rng.Lo.flatMap eU8), .sl u4.Rng.Hi.length (u4.Rng.Hi.flatMap eU8), .b u4.Rng.Open]) ti27 rfl (.cp _) rfl rfl) ?_
      refine ed (sees_all (md := [.box [.raw (.slice none 0 0)], .box [.sl s2.2.length (s2.2.flatMap eGReadsRead)], .dead]) ⟨⟨rfl, ⟨rfl, ⟨trivial, trivial⟩⟩⟩, ⟨⟨rfl, ⟨rfl, ⟨trivial, trivial⟩⟩⟩, ⟨⟨rfl, ⟨rfl, ⟨trivial, trivial⟩⟩⟩, trivial⟩⟩⟩) rfl rfl (opD_call fn12 (opnds_cons rfl (opnds_cons rfl (opnds_cons rfl opnds_nil))) rfl (m12_reads_Add_c hv5)) ?_
      refine emv rfl rfl (fun _ => opv_mvt rfl) ?_
      refine ev (sees_all (md := [.box [.raw (.slice none 0 0)], .box [.sl s2.2.length (s2.2.flatMap eGReadsRead)], .dead]) ⟨⟨rfl, ⟨rfl, ⟨trivial, trivial⟩⟩⟩, ⟨⟨rfl, ⟨rfl, ⟨trivial, trivial⟩⟩⟩, ⟨⟨rfl, ⟨rfl, ⟨trivial, trivial⟩⟩⟩, trivial⟩⟩⟩) rfl rfl (opv_extract rfl rfl) ?_
      refine ev (sees_all (md := [.box [.raw (.slice none 0 0)], .box [.sl s2.2.length (s2.2.flatMap eGReadsRead)], .dead]) ⟨⟨rfl, ⟨rfl, ⟨trivial, trivial⟩⟩⟩, ⟨⟨rfl, ⟨rfl, ⟨trivial, trivial⟩⟩⟩, ⟨⟨rfl, ⟨rfl, ⟨trivial, trivial⟩⟩⟩, trivial⟩⟩⟩) rfl rfl (opv_extract rfl rfl) ?_
      refine ee (x := .s (.one (.lp 2 0))) 0 rfl rfl rfl rfl rfl (fun ζ => ?_) ?_
      · refine salloc_at 2 rfl zi34 rfl ?_
        exact eend
      refine ee0 1 rfl rfl rfl rfl (fun ζ => ?_) ?_
      · refine sstore sz34 rfl rfl rfl rfl (Nat.le_of_ble_eq_true rfl) ?_
        refine smem [.box [.raw (.slice none 0 0)], .box [.sl s2.2.length (s2.2.flatMap eGReadsRead)], .box [.sl v5.1.L.length (v5.1.L.flatMap eGReadsRead)]] rfl ?_
        exact eend
      refine ev (sees_at 2 rfl rfl) rfl rfl (opv_as rfl) ?_
      refine enil ?_
      refine then_normal ?_
      refine cseq ?_
      refine cregion ?_
      refine sv rfl (opv_mv rfl) ?_
      refine sv rfl (opv_ieql rfl rfl) ?_
      refine snil ?_
      refine ccond rfl (fun hc => ?_) (fun hc => ?_)
      · replace h := ite_t hc h
        clear hc
        refine cregion ?_
        refine sv rfl (opv_loadN ti34 rfl (.lp _ _ _ rfl) (Nat.le_of_ble_eq_true rfl)) ?_
        refine sstore sz34 rfl rfl rfl rfl (Nat.le_of_ble_eq_true rfl) ?_
        refine smem [.box [.raw (.slice none 0 0)], .box [.sl v5.1.L.length (v5.1.L.flatMap eGReadsRead)], .box [.sl v5.1.L.length (v5.1.L.flatMap eGReadsRead)]] rfl ?_
        refine snil0 ?_
        refine block_normal ?_
        refine then_normal ?_
        refine cregion ?_
        refine sv rfl (opv_mv rfl) ?_
        refine sv rfl (opv_add rfl rfl) ?_
        refine sv rfl (opv_as rfl) ?_
        refine snil ?_
        obtain rfl := Option.some.inj h
        exact ⟨(n2, ((wI (s2.1 + 1)), v5.1.L)), _, hk2, ⟨rfl, rfl, rfl, rfl, trivial⟩, rfl, Nat.lt_succ_self _⟩
      · replace h := ite_f hc h
        clear hc
        refine cskip ?_
        refine block_normal ?_
        refine then_normal ?_
        refine cregion ?_
        refine sv rfl (opv_mv rfl) ?_
        refine sv rfl (opv_add rfl rfl) ?_
        refine sv rfl (opv_as rfl) ?_
        refine snil ?_
        obtain rfl := Option.some.inj h
        exact ⟨(n2, ((wI (s2.1 + 1)), s2.2)), _, hk2, ⟨rfl, rfl, rfl, rfl, trivial⟩, rfl, Nat.lt_succ_self _⟩
    · replace h := ite_f hc h
      clear hc
      refine cexit ?_
      refine then_exit ?_
      refine then_exit ?_
      refine block_hit ?_
      refine then_normal ?_
      obtain rfl := Option.some.inj h
      obtain rfl : _ = x2 := hk2
      exact ⟨s2.2, _, ho2, ⟨rfl, rfl, trivial⟩, rfl⟩

def m4_l10_ReadsHit_k6 (v1 : Bool) (v3 : GReadsTable) (b6 : Unit) : Option Bool :=
  if v1 then ((m16_reads_Sane v3).bind fun v7 => some v7) else (some false)

def m4_l10_ReadsHit_k11 (v4 : (List Int)) (s8 : Int) (b11 : Bool) : Option (LR (Int) (Unit) (Bool)) :=
  if (!b11) then (some (.ret false)) else (if (decide (0 < s8)) then ((idx v4 (wI (s8 - 1))).bind fun u12 => (idx v4 s8).bind fun u13 => if (decide (u13 ≤ u12)) then (some (.ret false)) else (some (.cont (wI (s8 + 1))))) else (some (.cont (wI (s8 + 1)))))

def m4_l10_ReadsHit_s14 (a1 : List UInt8) (v10 : (List GApiRange)) (s14 : Bool × Int) : Option (LB (Bool × Int) (Bool)) :=
  if (decide (s14.2 < (v10.length : Int))) then (if s14.1 then (some (.cont (true, (wI (s14.2 + 1))))) else ((idx v10 s14.2).bind fun u15 => (m29_r06_Has u15 a1).bind fun v16 => some (.cont (v16, (wI (s14.2 + 1)))))) else (some (.brk s14.1))

def m4_l10_ReadsHit_s8 (a1 : List UInt8) (v3 : GReadsTable) (v4 : (List Int)) (s8 : Int) : Option (LR (Int) (Unit) (Bool)) :=
  if (decide (s8 < (v4.length : Int))) then ((idx v4 s8).bind fun u9 => (m26_reads_Of v3 u9).bind fun v10 => (iterB (m4_l10_ReadsHit_s14 a1 v10) fuel (false, 0)).bind fun e17 => m4_l10_ReadsHit_k11 v4 s8 e17) else (some (.brk ()))

def m4_l10_ReadsHit_k5 (a1 : List UInt8) (v1 : Bool) (v3 : GReadsTable) (v4 : (List Int)) (b5 : Unit) : Option Bool :=
  (iter (m4_l10_ReadsHit_s8 a1 v3 v4) fuel 0).bind fun x => match x with | .inl r => some r | .inr e18 => m4_l10_ReadsHit_k6 v1 v3 e18

def m4_l10_ReadsHit_k24 (a0 : List GR10Read) (v3 : GReadsTable) (s19 : Int) (v23 : GReadsTable × Int) (b24 : Unit) : Option (LR (Int) (Unit) (Bool)) :=
  (idx a0 s19).bind fun u25 => (idx a0 s19).bind fun u26 => (m12_reads_Add v3 u25.Tx (GApiRange.mk u26.Rng.Lo u26.Rng.Hi u26.Rng.Open)).bind fun v27 => if (decide (v23.2 = 0)) then (if (!decide (v27.2 = 0)) then (some (.ret false)) else (if (!decide ((v27.1.L.length : Int) = (v3.L.length : Int))) then (some (.ret false)) else (some (.cont (wI (s19 + 1)))))) else (some (.cont (wI (s19 + 1))))

def m4_l10_ReadsHit_k20 (a0 : List GR10Read) (a1 : List UInt8) (v3 : GReadsTable) (s19 : Int) (b20 : Bool) : Option (LR (Int) (Unit) (Bool)) :=
  (idx a0 s19).bind fun u21 => (idx a0 s19).bind fun u22 => (m12_reads_Add (GReadsTable.mk ([] : List GReadsRead)) u21.Tx (GApiRange.mk u22.Rng.Lo u22.Rng.Hi u22.Rng.Open)).bind fun v23 => if (decide (v23.2 = 0)) then ((idx a0 s19).bind fun u28 => (m29_r06_Has (GApiRange.mk u28.Rng.Lo u28.Rng.Hi u28.Rng.Open) a1).bind fun v29 => if v29 then (if (!b20) then (some (.ret false)) else (m4_l10_ReadsHit_k24 a0 v3 s19 v23 ())) else (m4_l10_ReadsHit_k24 a0 v3 s19 v23 ())) else (m4_l10_ReadsHit_k24 a0 v3 s19 v23 ())

def m4_l10_ReadsHit_s30 (a0 : List GR10Read) (v4 : (List Int)) (s19 : Int) (s30 : Bool × Int) : Option (LB (Bool × Int) (Bool)) :=
  if (decide (s30.2 < (v4.length : Int))) then (if s30.1 then (some (.cont (true, (wI (s30.2 + 1))))) else ((idx v4 s30.2).bind fun u31 => (idx a0 s19).bind fun u32 => some (.cont ((decide (u31 = u32.Tx)), (wI (s30.2 + 1)))))) else (some (.brk s30.1))

def m4_l10_ReadsHit_s19 (a0 : List GR10Read) (a1 : List UInt8) (v3 : GReadsTable) (v4 : (List Int)) (s19 : Int) : Option (LR (Int) (Unit) (Bool)) :=
  if (decide (s19 < (a0.length : Int))) then ((iterB (m4_l10_ReadsHit_s30 a0 v4 s19) fuel (false, 0)).bind fun e33 => m4_l10_ReadsHit_k20 a0 a1 v3 s19 e33) else (some (.brk ()))

def m4_l10_ReadsHit_k2 (a0 : List GR10Read) (a1 : List UInt8) (v1 : Bool) (b2 : Unit) : Option Bool :=
  (m28_l10_grown a0).bind fun v3 => (m19_reads_Hits v3 a1).bind fun v4 => (iter (m4_l10_ReadsHit_s19 a0 a1 v3 v4) fuel 0).bind fun x => match x with | .inl r => some r | .inr e34 => m4_l10_ReadsHit_k5 a1 v1 v3 v4 e34
def m4_l10_ReadsHit (a0 : List GR10Read) (a1 : List UInt8) : Option Bool :=
  (m8_l10_awake).bind fun v1 => (m9_r10_Few (GR10Table.mk a0)).bind fun v35 => if (!v35) then (some v1) else (if (decide (100 < (a0.length : Int))) then (some v1) else (if (decide (50 < (a1.length : Int))) then (some v1) else (m4_l10_ReadsHit_k2 a0 a1 v1 ())))

set_option maxRecDepth 100000 in
theorem m4_l10_ReadsHit_c {a0 : List GR10Read} {a1 : List UInt8} {r : Bool} (h : m4_l10_ReadsHit a0 a1 = some r) : CallsA Try.prog 4 [.one (.sl a0.length (a0.flatMap eGR10Read)), .one (.sl a1.length (a1.flatMap eU8))] (· = .s (.one (.b r))) := by
  unfold m4_l10_ReadsHit at h
  refine callsA_of Try.func4 rfl (nt := 175) rfl (Nat.le_of_ble_eq_true rfl) ?_
  intro w0 S0
  refine cseq ?_
  refine cregion ?_
  refine sv rfl (opv_as rfl) ?_
  refine snil ?_
  refine cseq ?_
  refine cregion ?_
  obtain ⟨v1, hv1, h⟩ := bind_eq h
  refine scall1 rfl fn8 opnds_nil (pubA_id rfl) (m8_l10_awake_c hv1) ?_
  refine sv rfl (opv_as rfl) ?_
  refine snil ?_
  refine cseq ?_
  refine cseq ?_
  refine cjoin3 (Unit) (fun b2 => [(0, .s (.one (.sl a0.length (a0.flatMap eGR10Read)))), (1, .s (.one (.sl a1.length (a1.flatMap eU8)))), (5, .s (.one (.b v1)))]) (fun b2 => []) (fun b2 => m4_l10_ReadsHit_k2 a0 a1 v1 b2 = some r) (fun _ _ => inbL_of rfl) (fun _ _ => blkinb_of rfl) (fun _ _ => Nat.le_of_ble_eq_true rfl) (fun b2 h => ?_) ?_
  · unfold m4_l10_ReadsHit_k2 at h
    refine cseq ?_
    refine cregion ?_
    refine sv rfl (opv_mv rfl) ?_
    obtain ⟨v3, hv3, h⟩ := bind_eq h
    refine scall1 rfl fn28 (opnds_cons rfl opnds_nil) (pubA_id rfl) (m28_l10_grown_c hv3) ?_
    refine salloc rfl zi34 ?_
    refine sstore sz34 rfl rfl rfl rfl (Nat.le_of_ble_eq_true rfl) ?_
    refine smem [.box [.sl v3.L.length (v3.L.flatMap eGReadsRead)]] rfl ?_
    refine snil ?_
    refine cseq ?_
    refine cregion ?_
    refine sv rfl (opv_loadN ti34 rfl (.lp _ _ _ rfl) (Nat.le_of_ble_eq_true rfl)) ?_
    refine sv rfl (opv_mv rfl) ?_
    obtain ⟨v4, hv4, h⟩ := bind_eq h
    refine scall1 rfl fn19 (opnds_cons rfl (opnds_cons rfl opnds_nil)) (pubA_id rfl) (m19_reads_Hits_c hv4) ?_
    refine sv rfl (opv_as rfl) ?_
    refine snil ?_
    refine cseq ?_
    refine cseq ?_
    refine cregion ?_
    refine sv rfl (opv_as rfl) ?_
    refine snil ?_
    refine cjoin (Unit) (fun b5 => [(1, .s (.one (.sl a1.length (a1.flatMap eU8)))), (5, .s (.one (.b v1))), (6, .s (.one (.lp 0 0))), (7, .s (.one (.sl v4.length (v4.flatMap eI))))]) (fun b5 => [.box [.sl v3.L.length (v3.L.flatMap eGReadsRead)]]) (fun b5 => m4_l10_ReadsHit_k5 a1 v1 v3 v4 b5 = some r) (fun _ _ => inbL_of rfl) (fun _ _ => blkinb_of rfl) (fun _ _ => Nat.le_of_ble_eq_true rfl) (fun b5 h => ?_) ?_
    · unfold m4_l10_ReadsHit_k5 at h
      refine cseq ?_
      refine cseq ?_
      refine cregion ?_
      refine sv rfl (opv_as rfl) ?_
      refine snil ?_
      refine cjoin (Unit) (fun b6 => [(5, .s (.one (.b v1))), (6, .s (.one (.lp 0 0)))]) (fun b6 => [.box [.sl v3.L.length (v3.L.flatMap eGReadsRead)]]) (fun b6 => m4_l10_ReadsHit_k6 v1 v3 b6 = some r) (fun _ _ => inbL_of rfl) (fun _ _ => blkinb_of rfl) (fun _ _ => Nat.le_of_ble_eq_true rfl) (fun b6 h => ?_) ?_
      · unfold m4_l10_ReadsHit_k6 at h
        refine cseq ?_
        refine cregion ?_
        refine sv rfl (opv_mv rfl) ?_
        refine sv rfl (opv_mv rfl) ?_
        refine ssplit 171 rfl (fun hc => ?_) (fun hc => ?_)
        · replace h := ite_t hc h
          clear hc
          refine son rfl rfl rfl ?_
          refine sv rfl (opv_loadN ti34 rfl (.lp _ _ _ rfl) (Nat.le_of_ble_eq_true rfl)) ?_
          refine son rfl rfl rfl ?_
          obtain ⟨v7, hv7, h⟩ := bind_eq h
          refine scall1 rfl fn16 (opnds_cons rfl opnds_nil) (pubA_id rfl) (m16_reads_Sane_c hv7) ?_
          refine sv rfl (opv_pick_t rfl rfl) ?_
          refine sv rfl (opv_as rfl) ?_
          refine snil ?_
          refine cret ?_
          obtain rfl := Option.some.inj h
          refine ⟨Or.inr rfl, _, _, _, (resVs_cons (ResV.tmp _ _ rfl) resVs_nil), (pubA_id rfl), ?_⟩
          rfl
        · replace h := ite_f hc h
          clear hc
          refine soff rfl rfl rfl rfl ?_
          refine soff rfl rfl rfl rfl ?_
          refine sv rfl (opv_pick_f rfl rfl) ?_
          refine sv rfl (opv_as rfl) ?_
          refine snil ?_
          refine cret ?_
          obtain rfl := Option.some.inj h
          refine ⟨Or.inr rfl, _, _, _, (resVs_cons (ResV.tmp _ _ rfl) resVs_nil), (pubA_id rfl), ?_⟩
          rfl
      · skip
        refine cblock ?_
        obtain ⟨x8, hx8, ho8⟩ := bind_eq h
        refine awc_loop (G := Nat × (Int)) (fun g => [(1, .s (.one (.sl a1.length (a1.flatMap eU8)))), (5, .s (.one (.b v1))), (6, .s (.one (.lp 0 0))), (7, .s (.one (.sl v4.length (v4.flatMap eI)))), (15, .s (.one (.i .i64 g.2)))]) (fun g => [.box [.sl v3.L.length (v3.L.flatMap eGReadsRead)]]) (fun g => iter (m4_l10_ReadsHit_s8 a1 v3 v4) g.1 g.2 = some x8) (fun g => g.1) (fuel, 0) hx8 ⟨rfl, rfl, rfl, rfl, rfl, trivial⟩ [] rfl (fun _ _ => inbL_of rfl) (fun _ _ => blkinb_of rfl) (fun _ _ => Nat.le_of_ble_eq_true rfl) ?_
        clear hx8 h
        rintro ⟨n8, s8⟩ h
        obtain ⟨n8, y8, rfl, h, hk8⟩ := iter_eq h
        unfold m4_l10_ReadsHit_s8 at h
        refine cseq ?_
        refine cseq ?_
        refine cregion ?_
        refine sv rfl (opv_mv rfl) ?_
        refine sv rfl (opv_mv rfl) ?_
        refine sv rfl (opv_len_sl si28 rfl) ?_
        refine sv rfl (opv_lss rfl rfl) ?_
        refine snil ?_
        refine ccond rfl (fun hc => ?_) (fun hc => ?_)
        · replace h := ite_t hc h
          clear hc
          refine cskip ?_
          refine then_normal ?_
          refine cseq ?_
          refine cblock ?_
          refine cseq ?_
          refine cregion ?_
          refine sv rfl (opv_as rfl) ?_
          refine snil ?_
          refine cseq ?_
          refine cdraw mixed (by kernel_rfl) ?_
          refine dv rfl (opv_loadN ti34 rfl (.lp _ _ _ rfl) (Nat.le_of_ble_eq_true rfl)) ?_
          refine dv rfl (opv_mv rfl) ?_
          refine dv rfl (opv_mv rfl) ?_
          obtain ⟨u9, hu9, h⟩ := bind_eq h
          refine dv rfl (opv_ix (f := eI) si28 (fun _ => rfl) rfl rfl rfl rfl hu9) ?_
          refine dv rfl (opv_load1 ti3 rfl (.cp _) rfl) ?_
          obtain ⟨v10, hv10, h⟩ := bind_eq h
          refine dd rfl (opD_call fn26 (opnds_cons rfl (opnds_cons rfl opnds_nil)) rfl (m26_reads_Of_c hv10)) ?_
          refine dv rfl (opv_as rfl) ?_
          refine dnil ?_
          refine then_normal ?_
          refine cseq ?_
          refine cseq ?_
          refine cregion ?_
          refine sv rfl (opv_as rfl) ?_
          refine snil ?_
          refine cjoin (Bool) (fun b11 => [(1, .s (.one (.sl a1.length (a1.flatMap eU8)))), (5, .s (.one (.b v1))), (6, .s (.one (.lp 0 0))), (7, .s (.one (.sl v4.length (v4.flatMap eI)))), (15, .s (.one (.i .i64 s8))), (16, .s (.one (.b b11)))]) (fun b11 => [.box [.sl v3.L.length (v3.L.flatMap eGReadsRead)]]) (fun b11 => m4_l10_ReadsHit_k11 v4 s8 b11 = some y8) (fun _ _ => inbL_of rfl) (fun _ _ => blkinb_of rfl) (fun _ _ => Nat.le_of_ble_eq_true rfl) (fun b11 h => ?_) ?_
          · unfold m4_l10_ReadsHit_k11 at h
            refine cseq ?_
            refine cdraw mixed (by kernel_rfl) ?_
            refine dv rfl (opv_mv rfl) ?_
            refine dv rfl (opv_not rfl) ?_
            refine dv rfl (opv_mv rfl) ?_
            refine dsplit 154 rfl (fun hc => ?_) (fun hc => ?_)
            · replace h := ite_t hc h
              clear hc
              refine doff rfl rfl rfl rfl ?_
              refine doff rfl rfl rfl rfl ?_
              refine doff rfl rfl rfl rfl ?_
              refine doffu rfl rfl rfl ?_
              refine doffu rfl rfl rfl ?_
              refine doffu rfl rfl rfl ?_
              refine doffu rfl rfl rfl ?_
              refine doffu rfl rfl rfl ?_
              refine doffu rfl rfl rfl ?_
              refine doffu rfl rfl rfl ?_
              refine doffu rfl rfl rfl ?_
              refine doffu rfl rfl rfl ?_
              refine doffu rfl rfl rfl ?_
              refine doff rfl rfl rfl rfl ?_
              refine dv rfl (opv_pick_t rfl rfl) ?_
              refine dnil ?_
              refine then_normal ?_
              refine ccond rfl (fun _ => ?_) (fun hx => Bool.noConfusion hx)
              refine cseq ?_
              refine cregion ?_
              refine sv rfl (opv_as rfl) ?_
              refine snil ?_
              refine cret ?_
              refine block_ret ?_
              refine then_ret ?_
              refine then_ret ?_
              refine block_ret ?_
              refine then_ret ?_
              obtain rfl := Option.some.inj h
              obtain rfl : Sum.inl _ = x8 := hk8
              replace ho8 : some _ = some _ := ho8
              obtain rfl := Option.some.inj ho8
              refine ⟨Or.inr rfl, _, _, _, (resVs_cons (ResV.tmp _ _ rfl) resVs_nil), (pubA_id rfl), ?_⟩
              rfl
            · replace h := ite_f hc h
              clear hc
              refine dvg rfl rfl rfl (opv_mv rfl) ?_
              refine dvg rfl rfl rfl (opv_gtr rfl rfl) ?_
              refine dvg rfl rfl rfl (opv_mv rfl) ?_
              refine dsplit 157 rfl (fun hc => ?_) (fun hc => ?_)
              · replace h := ite_t hc h
                clear hc
                refine dvg rfl rfl rfl (opv_mv rfl) ?_
                refine dvg rfl rfl rfl (opv_mv rfl) ?_
                refine dvg rfl rfl rfl (opv_sub rfl rfl) ?_
                obtain ⟨u12, hu12, h⟩ := bind_eq h
                refine dvg rfl rfl rfl (opv_ix (f := eI) si28 (fun _ => rfl) rfl rfl rfl rfl hu12) ?_
                refine dvg rfl rfl rfl (opv_load1 ti3 rfl (.cp _) rfl) ?_
                refine dvg rfl rfl rfl (opv_mv rfl) ?_
                refine dvg rfl rfl rfl (opv_mv rfl) ?_
                obtain ⟨u13, hu13, h⟩ := bind_eq h
                refine dvg rfl rfl rfl (opv_ix (f := eI) si28 (fun _ => rfl) rfl rfl rfl rfl hu13) ?_
                refine dvg rfl rfl rfl (opv_load1 ti3 rfl (.cp _) rfl) ?_
                refine dvg rfl rfl rfl (opv_geq rfl rfl) ?_
                refine dvg rfl rfl rfl (opv_pick_t rfl rfl) ?_
                refine dv rfl (opv_pick_f rfl rfl) ?_
                refine dnil ?_
                refine then_normal ?_
                refine ccond rfl (fun hc => ?_) (fun hc => ?_)
                · replace h := ite_t hc h
                  clear hc
                  refine cseq ?_
                  refine cregion ?_
                  refine sv rfl (opv_as rfl) ?_
                  refine snil ?_
                  refine cret ?_
                  refine block_ret ?_
                  refine then_ret ?_
                  refine then_ret ?_
                  refine block_ret ?_
                  refine then_ret ?_
                  obtain rfl := Option.some.inj h
                  obtain rfl : Sum.inl _ = x8 := hk8
                  replace ho8 : some _ = some _ := ho8
                  obtain rfl := Option.some.inj ho8
                  refine ⟨Or.inr rfl, _, _, _, (resVs_cons (ResV.tmp _ _ rfl) resVs_nil), (pubA_id rfl), ?_⟩
                  rfl
                · replace h := ite_f hc h
                  clear hc
                  refine cskip ?_
                  refine block_normal ?_
                  refine then_normal ?_
                  refine cregion ?_
                  refine sv rfl (opv_mv rfl) ?_
                  refine sv rfl (opv_add rfl rfl) ?_
                  refine sv rfl (opv_as rfl) ?_
                  refine snil ?_
                  obtain rfl := Option.some.inj h
                  exact ⟨(n8, (wI (s8 + 1))), _, hk8, ⟨rfl, rfl, rfl, rfl, rfl, trivial⟩, rfl, Nat.lt_succ_self _⟩
              · replace h := ite_f hc h
                clear hc
                refine doff rfl rfl rfl rfl ?_
                refine doff rfl rfl rfl rfl ?_
                refine doff rfl rfl rfl rfl ?_
                refine doff rfl rfl rfl rfl ?_
                refine doff rfl rfl rfl rfl ?_
                refine doff rfl rfl rfl rfl ?_
                refine doff rfl rfl rfl rfl ?_
                refine doff rfl rfl rfl rfl ?_
                refine doff rfl rfl rfl rfl ?_
                refine doff rfl rfl rfl rfl ?_
                refine dvg rfl rfl rfl (opv_pick_f rfl rfl) ?_
                refine dv rfl (opv_pick_f rfl rfl) ?_
                refine dnil ?_
                refine then_normal ?_
                refine ccond rfl (fun hx => Bool.noConfusion hx) (fun _ => ?_)
                refine cskip ?_
                refine block_normal ?_
                refine then_normal ?_
                refine cregion ?_
                refine sv rfl (opv_mv rfl) ?_
                refine sv rfl (opv_add rfl rfl) ?_
                refine sv rfl (opv_as rfl) ?_
                refine snil ?_
                obtain rfl := Option.some.inj h
                exact ⟨(n8, (wI (s8 + 1))), _, hk8, ⟨rfl, rfl, rfl, rfl, rfl, trivial⟩, rfl, Nat.lt_succ_self _⟩
          · skip
            refine cblock ?_
            obtain ⟨x14, hx14, ho14⟩ := bind_eq h
            refine awc_loop (G := Nat × (Bool × Int)) (fun g => [(1, .s (.one (.sl a1.length (a1.flatMap eU8)))), (5, .s (.one (.b v1))), (6, .s (.one (.lp 0 0))), (7, .s (.one (.sl v4.length (v4.flatMap eI)))), (15, .s (.one (.i .i64 s8))), (16, .s (.one (.b g.2.1))), (17, .s (.one (.sl v10.length (v10.flatMap eGApiRange)))), (18, .s (.one (.i .i64 g.2.2)))]) (fun g => [.box [.sl v3.L.length (v3.L.flatMap eGReadsRead)]]) (fun g => iterB (m4_l10_ReadsHit_s14 a1 v10) g.1 g.2 = some x14) (fun g => g.1) (fuel, (false, 0)) hx14 ⟨rfl, rfl, rfl, rfl, rfl, rfl, rfl, rfl, trivial⟩ [] rfl (fun _ _ => inbL_of rfl) (fun _ _ => blkinb_of rfl) (fun _ _ => Nat.le_of_ble_eq_true rfl) ?_
            clear hx14 h
            rintro ⟨n14, s14⟩ h
            obtain ⟨n14, y14, rfl, h, hk14⟩ := iterB_eq h
            unfold m4_l10_ReadsHit_s14 at h
            refine cseq ?_
            refine cseq ?_
            refine cregion ?_
            refine sv rfl (opv_mv rfl) ?_
            refine sv rfl (opv_mv rfl) ?_
            refine sv rfl (opv_len_sl si50 rfl) ?_
            refine sv rfl (opv_lss rfl rfl) ?_
            refine snil ?_
            refine ccond rfl (fun hc => ?_) (fun hc => ?_)
            · replace h := ite_t hc h
              clear hc
              refine cskip ?_
              refine then_normal ?_
              refine cseq ?_
              refine cblock ?_
              refine cregion ?_
              refine sv rfl (opv_mv rfl) ?_
              refine sv rfl (opv_mv rfl) ?_
              refine ssplit 144 rfl (fun hc => ?_) (fun hc => ?_)
              · replace h := ite_t hc h
                clear hc
                refine soff rfl rfl rfl rfl ?_
                refine soff rfl rfl rfl rfl ?_
                refine soff rfl rfl rfl rfl ?_
                refine soff rfl rfl rfl rfl ?_
                refine soff rfl rfl rfl rfl ?_
                refine soff rfl rfl rfl rfl ?_
                refine sv rfl (opv_pick_t rfl rfl) ?_
                refine sv rfl (opv_as rfl) ?_
                refine snil0 ?_
                refine block_normal ?_
                refine then_normal ?_
                refine cregion ?_
                refine sv rfl (opv_mv rfl) ?_
                refine sv rfl (opv_add rfl rfl) ?_
                refine sv rfl (opv_as rfl) ?_
                refine snil ?_
                obtain rfl := Option.some.inj h
                exact ⟨(n14, (true, (wI (s14.2 + 1)))), _, hk14, ⟨rfl, rfl, rfl, rfl, rfl, rfl, rfl, rfl, trivial⟩, rfl, Nat.lt_succ_self _⟩
              · replace h := ite_f hc h
                clear hc
                refine son rfl rfl rfl ?_
                refine sv rfl (opv_mv rfl) ?_
                refine son rfl rfl rfl ?_
                refine sv rfl (opv_mv rfl) ?_
                refine son rfl rfl rfl ?_
                obtain ⟨u15, hu15, h⟩ := bind_eq h
                refine sv rfl (opv_ix (f := eGApiRange) si50 (fun _ => rfl) rfl rfl rfl rfl hu15) ?_
                refine son rfl rfl rfl ?_
                refine sv rfl (opv_loadNe (ys := [.sl u15.Lo.length (u15.Lo.flatMap eU8), .sl u15.Hi.length (u15.Hi.flatMap eU8), .b u15.Open]) ti27 rfl (.cp _) rfl rfl) ?_
                refine son rfl rfl rfl ?_
                refine sv rfl (opv_mv rfl) ?_
                refine son rfl rfl rfl ?_
                obtain ⟨v16, hv16, h⟩ := bind_eq h
                refine scall1 rfl fn29 (opnds_cons rfl (opnds_cons rfl opnds_nil)) (pubA_id rfl) (m29_r06_Has_c hv16) ?_
                refine sv rfl (opv_pick_f rfl rfl) ?_
                refine sv rfl (opv_as rfl) ?_
                refine snil0 ?_
                refine block_normal ?_
                refine then_normal ?_
                refine cregion ?_
                refine sv rfl (opv_mv rfl) ?_
                refine sv rfl (opv_add rfl rfl) ?_
                refine sv rfl (opv_as rfl) ?_
                refine snil ?_
                obtain rfl := Option.some.inj h
                exact ⟨(n14, (v16, (wI (s14.2 + 1)))), _, hk14, ⟨rfl, rfl, rfl, rfl, rfl, rfl, rfl, rfl, trivial⟩, rfl, Nat.lt_succ_self _⟩
            · replace h := ite_f hc h
              clear hc
              refine cexit ?_
              refine then_exit ?_
              refine then_exit ?_
              refine block_hit ?_
              refine then_normal ?_
              obtain rfl := Option.some.inj h
              obtain rfl : _ = x14 := hk14
              exact ⟨s14.1, _, ho14, ⟨rfl, rfl, rfl, rfl, rfl, rfl, trivial⟩, rfl⟩
        · replace h := ite_f hc h
          clear hc
          refine cexit ?_
          refine then_exit ?_
          refine then_exit ?_
          refine block_hit ?_
          refine then_normal ?_
          obtain rfl := Option.some.inj h
          obtain rfl : _ = x8 := hk8
          exact ⟨(), _, ho8, ⟨rfl, rfl, trivial⟩, rfl⟩
    · skip
      refine cblock ?_
      obtain ⟨x19, hx19, ho19⟩ := bind_eq h
      refine awc_loop (G := Nat × (Int)) (fun g => [(0, .s (.one (.sl a0.length (a0.flatMap eGR10Read)))), (1, .s (.one (.sl a1.length (a1.flatMap eU8)))), (5, .s (.one (.b v1))), (6, .s (.one (.lp 0 0))), (7, .s (.one (.sl v4.length (v4.flatMap eI)))), (8, .s (.one (.i .i64 g.2)))]) (fun g => [.box [.sl v3.L.length (v3.L.flatMap eGReadsRead)]]) (fun g => iter (m4_l10_ReadsHit_s19 a0 a1 v3 v4) g.1 g.2 = some x19) (fun g => g.1) (fuel, 0) hx19 ⟨rfl, rfl, rfl, rfl, rfl, rfl, trivial⟩ [] rfl (fun _ _ => inbL_of rfl) (fun _ _ => blkinb_of rfl) (fun _ _ => Nat.le_of_ble_eq_true rfl) ?_
      clear hx19 h
      rintro ⟨n19, s19⟩ h
      obtain ⟨n19, y19, rfl, h, hk19⟩ := iter_eq h
      unfold m4_l10_ReadsHit_s19 at h
      refine cseq ?_
      refine cseq ?_
      refine cregion ?_
      refine sv rfl (opv_mv rfl) ?_
      refine sv rfl (opv_mv rfl) ?_
      refine sv rfl (opv_len_sl si22 rfl) ?_
      refine sv rfl (opv_lss rfl rfl) ?_
      refine snil ?_
      refine ccond rfl (fun hc => ?_) (fun hc => ?_)
      · replace h := ite_t hc h
        clear hc
        refine cskip ?_
        refine then_normal ?_
        refine cseq ?_
        refine cblock ?_
        refine cseq ?_
        refine cregion ?_
        refine sv rfl (opv_as rfl) ?_
        refine snil ?_
        refine cseq ?_
        refine cseq ?_
        refine cregion ?_
        refine sv rfl (opv_as rfl) ?_
        refine snil ?_
        refine cjoin (Bool) (fun b20 => [(0, .s (.one (.sl a0.length (a0.flatMap eGR10Read)))), (1, .s (.one (.sl a1.length (a1.flatMap eU8)))), (5, .s (.one (.b v1))), (6, .s (.one (.lp 0 0))), (7, .s (.one (.sl v4.length (v4.flatMap eI)))), (8, .s (.one (.i .i64 s19))), (9, .s (.one (.b b20)))]) (fun b20 => [.box [.sl v3.L.length (v3.L.flatMap eGReadsRead)]]) (fun b20 => m4_l10_ReadsHit_k20 a0 a1 v3 s19 b20 = some y19) (fun _ _ => inbL_of rfl) (fun _ _ => blkinb_of rfl) (fun _ _ => Nat.le_of_ble_eq_true rfl) (fun b20 h => ?_) ?_
        · unfold m4_l10_ReadsHit_k20 at h
          refine cseq ?_
          refine chole ?_
          obtain ⟨u21, hu21, h⟩ := bind_eq h
          obtain ⟨u22, hu22, h⟩ := bind_eq h
          obtain ⟨v23, hv23, h⟩ := bind_eq h
          refine cdraw_e [15, 16] [0, 0, 0, 6, 14, 30, 0, 0, 192, 448, 960, 2047, 4095, 8191, 8191, 0, 49151, 131071] [[.box [.sl v3.L.length (v3.L.flatMap eGReadsRead)], .hole], [.box [.sl v3.L.length (v3.L.flatMap eGReadsRead)], .box [.raw (.slice none 0 0)]], [.box [.sl v3.L.length (v3.L.flatMap eGReadsRead)], .box [.sl v23.1.L.length (v23.1.L.flatMap eGReadsRead)]]] (by kernel_rfl) mixed (by kernel_rfl) (by decide) rfl rfl rfl rfl ?_
          refine ev (sees_all (md := [.box [.sl v3.L.length (v3.L.flatMap eGReadsRead)], .dead]) ⟨⟨rfl, ⟨trivial, trivial⟩⟩, ⟨⟨rfl, ⟨trivial, trivial⟩⟩, ⟨⟨rfl, ⟨trivial, trivial⟩⟩, trivial⟩⟩⟩) rfl rfl (opv_build zi34 pi34 parts_nil (.nil _)) ?_
          refine emv rfl rfl (fun _ => opv_mv rfl) ?_
          refine emv rfl rfl (fun _ => opv_mv rfl) ?_
          refine ev (sees_all (md := [.box [.sl v3.L.length (v3.L.flatMap eGReadsRead)], .dead]) ⟨⟨rfl, ⟨trivial, trivial⟩⟩, ⟨⟨rfl, ⟨trivial, trivial⟩⟩, ⟨⟨rfl, ⟨trivial, trivial⟩⟩, trivial⟩⟩⟩) rfl rfl (opv_ix (f := eGR10Read) si22 (fun _ => rfl) rfl rfl rfl rfl hu21) ?_
          refine ev (sees_all (md := [.box [.sl v3.L.length (v3.L.flatMap eGReadsRead)], .dead]) ⟨⟨rfl, ⟨trivial, trivial⟩⟩, ⟨⟨rfl, ⟨trivial, trivial⟩⟩, ⟨⟨rfl, ⟨trivial, trivial⟩⟩, trivial⟩⟩⟩) rfl rfl (opv_fieldAddr_cp fi56_0 rfl) ?_
          refine ev (sees_all (md := [.box [.sl v3.L.length (v3.L.flatMap eGReadsRead)], .dead]) ⟨⟨rfl, ⟨trivial, trivial⟩⟩, ⟨⟨rfl, ⟨trivial, trivial⟩⟩, ⟨⟨rfl, ⟨trivial, trivial⟩⟩, trivial⟩⟩⟩) rfl rfl (opv_load1 ti3 rfl (.cp _) rfl) ?_
          refine emv rfl rfl (fun _ => opv_mv rfl) ?_
          refine emv rfl rfl (fun _ => opv_mv rfl) ?_
          refine ev (sees_all (md := [.box [.sl v3.L.length (v3.L.flatMap eGReadsRead)], .dead]) ⟨⟨rfl, ⟨trivial, trivial⟩⟩, ⟨⟨rfl, ⟨trivial, trivial⟩⟩, ⟨⟨rfl, ⟨trivial, trivial⟩⟩, trivial⟩⟩⟩) rfl rfl (opv_ix (f := eGR10Read) si22 (fun _ => rfl) rfl rfl rfl rfl hu22) ?_
          refine ev (sees_all (md := [.box [.sl v3.L.length (v3.L.flatMap eGReadsRead)], .dead]) ⟨⟨rfl, ⟨trivial, trivial⟩⟩, ⟨⟨rfl, ⟨trivial, trivial⟩⟩, ⟨⟨rfl, ⟨trivial, trivial⟩⟩, trivial⟩⟩⟩) rfl rfl (opv_fieldAddr_cp fi56_1 rfl) ?_
          refine ev (sees_all (md := [.box [.sl v3.L.length (v3.L.flatMap eGReadsRead)], .dead]) ⟨⟨rfl, ⟨trivial, trivial⟩⟩, ⟨⟨rfl, ⟨trivial, trivial⟩⟩, ⟨⟨rfl, ⟨trivial, trivial⟩⟩, trivial⟩⟩⟩) rfl rfl (opv_loadNe (ys := [.sl u22.Rng.Lo.length (u22.Rng.Lo.flatMap eU8), .sl u22.Rng.Hi.length (u22.Rng.Hi.flatMap eU8), .b u22.Rng.Open]) ti27 rfl (.cp _) rfl rfl) ?_
          refine ed (sees_all (md := [.box [.sl v3.L.length (v3.L.flatMap eGReadsRead)], .dead]) ⟨⟨rfl, ⟨trivial, trivial⟩⟩, ⟨⟨rfl, ⟨trivial, trivial⟩⟩, ⟨⟨rfl, ⟨trivial, trivial⟩⟩, trivial⟩⟩⟩) rfl rfl (opD_callN fn12 (opnds_cons rfl (opnds_cons rfl (opnds_cons rfl opnds_nil))) rfl (m12_reads_Add_c hv23)) ?_
          refine emv rfl rfl (fun _ => opv_mvt rfl) ?_
          refine ev (sees_all (md := [.box [.sl v3.L.length (v3.L.flatMap eGReadsRead)], .dead]) ⟨⟨rfl, ⟨trivial, trivial⟩⟩, ⟨⟨rfl, ⟨trivial, trivial⟩⟩, ⟨⟨rfl, ⟨trivial, trivial⟩⟩, trivial⟩⟩⟩) rfl rfl (opv_extract rfl rfl) ?_
          refine ev (sees_all (md := [.box [.sl v3.L.length (v3.L.flatMap eGReadsRead)], .dead]) ⟨⟨rfl, ⟨trivial, trivial⟩⟩, ⟨⟨rfl, ⟨trivial, trivial⟩⟩, ⟨⟨rfl, ⟨trivial, trivial⟩⟩, trivial⟩⟩⟩) rfl rfl (opv_extract rfl rfl) ?_
          refine ee (x := .s (.one (.lp 1 0))) 0 rfl rfl rfl rfl rfl (fun ζ => ?_) ?_
          · refine salloc_at 1 rfl zi34 rfl ?_
            exact eend
          refine ee0 1 rfl rfl rfl rfl (fun ζ => ?_) ?_
          · refine sstore sz34 rfl rfl rfl rfl (Nat.le_of_ble_eq_true rfl) ?_
            refine smem [.box [.sl v3.L.length (v3.L.flatMap eGReadsRead)], .box [.sl v23.1.L.length (v23.1.L.flatMap eGReadsRead)]] rfl ?_
            exact eend
          refine ev (sees_at 2 rfl rfl) rfl rfl (opv_as rfl) ?_
          refine enil ?_
          refine then_normal ?_
          refine cseq ?_
          refine cseq ?_
          refine cjoin3 (Unit) (fun b24 => [(0, .s (.one (.sl a0.length (a0.flatMap eGR10Read)))), (1, .s (.one (.sl a1.length (a1.flatMap eU8)))), (5, .s (.one (.b v1))), (6, .s (.one (.lp 0 0))), (7, .s (.one (.sl v4.length (v4.flatMap eI)))), (8, .s (.one (.i .i64 s19))), (12, .s (.one (.i .i64 v23.2)))]) (fun b24 => [.box [.sl v3.L.length (v3.L.flatMap eGReadsRead)], .box [.sl v23.1.L.length (v23.1.L.flatMap eGReadsRead)]]) (fun b24 => m4_l10_ReadsHit_k24 a0 v3 s19 v23 b24 = some y19) (fun _ _ => inbL_of rfl) (fun _ _ => blkinb_of rfl) (fun _ _ => Nat.le_of_ble_eq_true rfl) (fun b24 h => ?_) ?_
          · unfold m4_l10_ReadsHit_k24 at h
            refine cseq ?_
            refine chole ?_
            obtain ⟨u25, hu25, h⟩ := bind_eq h
            obtain ⟨u26, hu26, h⟩ := bind_eq h
            obtain ⟨v27, hv27, h⟩ := bind_eq h
            refine cdraw_e [15, 16] [0, 0, 0, 6, 14, 30, 0, 0, 192, 448, 960, 2047, 4095, 8191, 8191, 0, 49151, 131071] [[.box [.sl v3.L.length (v3.L.flatMap eGReadsRead)], .box [.sl v23.1.L.length (v23.1.L.flatMap eGReadsRead)], .hole], [.box [.sl v3.L.length (v3.L.flatMap eGReadsRead)], .box [.sl v23.1.L.length (v23.1.L.flatMap eGReadsRead)], .box [.raw (.slice none 0 0)]], [.box [.sl v3.L.length (v3.L.flatMap eGReadsRead)], .box [.sl v23.1.L.length (v23.1.L.flatMap eGReadsRead)], .box [.sl v27.1.L.length (v27.1.L.flatMap eGReadsRead)]]] (by kernel_rfl) mixed (by kernel_rfl) (by decide) rfl rfl rfl rfl ?_
            refine ev (sees_all (md := [.box [.sl v3.L.length (v3.L.flatMap eGReadsRead)], .box [.sl v23.1.L.length (v23.1.L.flatMap eGReadsRead)], .dead]) ⟨⟨rfl, ⟨rfl, ⟨trivial, trivial⟩⟩⟩, ⟨⟨rfl, ⟨rfl, ⟨trivial, trivial⟩⟩⟩, ⟨⟨rfl, ⟨rfl, ⟨trivial, trivial⟩⟩⟩, trivial⟩⟩⟩) rfl rfl (opv_loadN ti34 rfl (.lp _ _ _ rfl) (Nat.le_of_ble_eq_true rfl)) ?_
            refine emv rfl rfl (fun _ => opv_mv rfl) ?_
            refine emv rfl rfl (fun _ => opv_mv rfl) ?_
            refine ev (sees_all (md := [.box [.sl v3.L.length (v3.L.flatMap eGReadsRead)], .box [.sl v23.1.L.length (v23.1.L.flatMap eGReadsRead)], .dead]) ⟨⟨rfl, ⟨rfl, ⟨trivial, trivial⟩⟩⟩, ⟨⟨rfl, ⟨rfl, ⟨trivial, trivial⟩⟩⟩, ⟨⟨rfl, ⟨rfl, ⟨trivial, trivial⟩⟩⟩, trivial⟩⟩⟩) rfl rfl (opv_ix (f := eGR10Read) si22 (fun _ => rfl) rfl rfl rfl rfl hu25) ?_
            refine ev (sees_all (md := [.box [.sl v3.L.length (v3.L.flatMap eGReadsRead)], .box [.sl v23.1.L.length (v23.1.L.flatMap eGReadsRead)], .dead]) ⟨⟨rfl, ⟨rfl, ⟨trivial, trivial⟩⟩⟩, ⟨⟨rfl, ⟨rfl, ⟨trivial, trivial⟩⟩⟩, ⟨⟨rfl, ⟨rfl, ⟨trivial, trivial⟩⟩⟩, trivial⟩⟩⟩) rfl rfl (opv_fieldAddr_cp fi56_0 rfl) ?_
            refine ev (sees_all (md := [.box [.sl v3.L.length (v3.L.flatMap eGReadsRead)], .box [.sl v23.1.L.length (v23.1.L.flatMap eGReadsRead)], .dead]) ⟨⟨rfl, ⟨rfl, ⟨trivial, trivial⟩⟩⟩, ⟨⟨rfl, ⟨rfl, ⟨trivial, trivial⟩⟩⟩, ⟨⟨rfl, ⟨rfl, ⟨trivial, trivial⟩⟩⟩, trivial⟩⟩⟩) rfl rfl (opv_load1 ti3 rfl (.cp _) rfl) ?_
            refine emv rfl rfl (fun _ => opv_mv rfl) ?_
            refine emv rfl rfl (fun _ => opv_mv rfl) ?_
            refine ev (sees_all (md := [.box [.sl v3.L.length (v3.L.flatMap eGReadsRead)], .box [.sl v23.1.L.length (v23.1.L.flatMap eGReadsRead)], .dead]) ⟨⟨rfl, ⟨rfl, ⟨trivial, trivial⟩⟩⟩, ⟨⟨rfl, ⟨rfl, ⟨trivial, trivial⟩⟩⟩, ⟨⟨rfl, ⟨rfl, ⟨trivial, trivial⟩⟩⟩, trivial⟩⟩⟩) rfl rfl (opv_ix (f := eGR10Read) si22 (fun _ => rfl) rfl rfl rfl rfl hu26) ?_
            refine ev (sees_all (md := [.box [.sl v3.L.length (v3.L.flatMap eGReadsRead)], .box [.sl v23.1.L.length (v23.1.L.flatMap eGReadsRead)], .dead]) ⟨⟨rfl, ⟨rfl, ⟨trivial, trivial⟩⟩⟩, ⟨⟨rfl, ⟨rfl, ⟨trivial, trivial⟩⟩⟩, ⟨⟨rfl, ⟨rfl, ⟨trivial, trivial⟩⟩⟩, trivial⟩⟩⟩) rfl rfl (opv_fieldAddr_cp fi56_1 rfl) ?_
            refine ev (sees_all (md := [.box [.sl v3.L.length (v3.L.flatMap eGReadsRead)], .box [.sl v23.1.L.length (v23.1.L.flatMap eGReadsRead)], .dead]) ⟨⟨rfl, ⟨rfl, ⟨trivial, trivial⟩⟩⟩, ⟨⟨rfl, ⟨rfl, ⟨trivial, trivial⟩⟩⟩, ⟨⟨rfl, ⟨rfl, ⟨trivial, trivial⟩⟩⟩, trivial⟩⟩⟩) rfl rfl (opv_loadNe (ys := [.sl u26.Rng.Lo.length (u26.Rng.Lo.flatMap eU8), .sl u26.Rng.Hi.length (u26.Rng.Hi.flatMap eU8), .b u26.Rng.Open]) ti27 rfl (.cp _) rfl rfl) ?_
            refine ed (sees_all (md := [.box [.sl v3.L.length (v3.L.flatMap eGReadsRead)], .box [.sl v23.1.L.length (v23.1.L.flatMap eGReadsRead)], .dead]) ⟨⟨rfl, ⟨rfl, ⟨trivial, trivial⟩⟩⟩, ⟨⟨rfl, ⟨rfl, ⟨trivial, trivial⟩⟩⟩, ⟨⟨rfl, ⟨rfl, ⟨trivial, trivial⟩⟩⟩, trivial⟩⟩⟩) rfl rfl (opD_call fn12 (opnds_cons rfl (opnds_cons rfl (opnds_cons rfl opnds_nil))) rfl (m12_reads_Add_c hv27)) ?_
            refine emv rfl rfl (fun _ => opv_mvt rfl) ?_
            refine ev (sees_all (md := [.box [.sl v3.L.length (v3.L.flatMap eGReadsRead)], .box [.sl v23.1.L.length (v23.1.L.flatMap eGReadsRead)], .dead]) ⟨⟨rfl, ⟨rfl, ⟨trivial, trivial⟩⟩⟩, ⟨⟨rfl, ⟨rfl, ⟨trivial, trivial⟩⟩⟩, ⟨⟨rfl, ⟨rfl, ⟨trivial, trivial⟩⟩⟩, trivial⟩⟩⟩) rfl rfl (opv_extract rfl rfl) ?_
            refine ev (sees_all (md := [.box [.sl v3.L.length (v3.L.flatMap eGReadsRead)], .box [.sl v23.1.L.length (v23.1.L.flatMap eGReadsRead)], .dead]) ⟨⟨rfl, ⟨rfl, ⟨trivial, trivial⟩⟩⟩, ⟨⟨rfl, ⟨rfl, ⟨trivial, trivial⟩⟩⟩, ⟨⟨rfl, ⟨rfl, ⟨trivial, trivial⟩⟩⟩, trivial⟩⟩⟩) rfl rfl (opv_extract rfl rfl) ?_
            refine ee (x := .s (.one (.lp 2 0))) 0 rfl rfl rfl rfl rfl (fun ζ => ?_) ?_
            · refine salloc_at 2 rfl zi34 rfl ?_
              exact eend
            refine ee0 1 rfl rfl rfl rfl (fun ζ => ?_) ?_
            · refine sstore sz34 rfl rfl rfl rfl (Nat.le_of_ble_eq_true rfl) ?_
              refine smem [.box [.sl v3.L.length (v3.L.flatMap eGReadsRead)], .box [.sl v23.1.L.length (v23.1.L.flatMap eGReadsRead)], .box [.sl v27.1.L.length (v27.1.L.flatMap eGReadsRead)]] rfl ?_
              exact eend
            refine ev (sees_at 2 rfl rfl) rfl rfl (opv_as rfl) ?_
            refine enil ?_
            refine then_normal ?_
            refine cseq ?_
            refine cregion ?_
            refine sv rfl (opv_mv rfl) ?_
            refine sv rfl (opv_ieql rfl rfl) ?_
            refine sv rfl (opv_mv rfl) ?_
            refine ssplit 112 rfl (fun hc => ?_) (fun hc => ?_)
            · replace h := ite_t hc h
              clear hc
              refine son rfl rfl rfl ?_
              refine sv rfl (opv_mv rfl) ?_
              refine son rfl rfl rfl ?_
              refine sv rfl (opv_ineq rfl rfl) ?_
              refine son rfl rfl rfl ?_
              refine sv rfl (opv_mv rfl) ?_
              refine ssplit 115 rfl (fun hc => ?_) (fun hc => ?_)
              · replace h := ite_t hc h
                clear hc
                refine soff rfl rfl rfl rfl ?_
                refine soff rfl rfl rfl rfl ?_
                refine soff rfl rfl rfl rfl ?_
                refine soff rfl rfl rfl rfl ?_
                refine soff rfl rfl rfl rfl ?_
                refine soff rfl rfl rfl rfl ?_
                refine soff rfl rfl rfl rfl ?_
                refine son rfl rfl rfl ?_
                refine sv rfl (opv_pick_t rfl rfl) ?_
                refine sv rfl (opv_pick_t rfl rfl) ?_
                refine snil ?_
                refine ccond rfl (fun _ => ?_) (fun hx => Bool.noConfusion hx)
                refine cseq ?_
                refine cregion ?_
                refine sv rfl (opv_as rfl) ?_
                refine snil ?_
                refine cret ?_
                refine block_ret ?_
                refine then_ret ?_
                refine then_ret ?_
                refine block_ret ?_
                refine then_ret ?_
                obtain rfl := Option.some.inj h
                obtain rfl : Sum.inl _ = x19 := hk19
                replace ho19 : some _ = some _ := ho19
                obtain rfl := Option.some.inj ho19
                refine ⟨Or.inr rfl, _, _, _, (resVs_cons (ResV.tmp _ _ rfl) resVs_nil), (pubA_id rfl), ?_⟩
                rfl
              · replace h := ite_f hc h
                clear hc
                refine son rfl rfl rfl ?_
                refine sv rfl (opv_fieldAddr_lp fi34_0 rfl) ?_
                refine son rfl rfl rfl ?_
                refine sv rfl (opv_load1 ti32 rfl (.lp _ _ _ rfl) rfl) ?_
                refine son rfl rfl rfl ?_
                refine sv rfl (opv_len_sl si32 rfl) ?_
                refine son rfl rfl rfl ?_
                refine sv rfl (opv_fieldAddr_lp fi34_0 rfl) ?_
                refine son rfl rfl rfl ?_
                refine sv rfl (opv_load1 ti32 rfl (.lp _ _ _ rfl) rfl) ?_
                refine son rfl rfl rfl ?_
                refine sv rfl (opv_len_sl si32 rfl) ?_
                refine son rfl rfl rfl ?_
                refine sv rfl (opv_ineq rfl rfl) ?_
                refine son rfl rfl rfl ?_
                refine sv rfl (opv_pick_f rfl rfl) ?_
                refine sv rfl (opv_pick_t rfl rfl) ?_
                refine snil ?_
                refine ccond rfl (fun hc => ?_) (fun hc => ?_)
                · replace h := ite_t hc h
                  clear hc
                  refine cseq ?_
                  refine cregion ?_
                  refine sv rfl (opv_as rfl) ?_
                  refine snil ?_
                  refine cret ?_
                  refine block_ret ?_
                  refine then_ret ?_
                  refine then_ret ?_
                  refine block_ret ?_
                  refine then_ret ?_
                  obtain rfl := Option.some.inj h
                  obtain rfl : Sum.inl _ = x19 := hk19
                  replace ho19 : some _ = some _ := ho19
                  obtain rfl := Option.some.inj ho19
                  refine ⟨Or.inr rfl, _, _, _, (resVs_cons (ResV.tmp _ _ rfl) resVs_nil), (pubA_id rfl), ?_⟩
                  rfl
                · replace h := ite_f hc h
                  clear hc
                  refine cskip ?_
                  refine block_normal ?_
                  refine then_normal ?_
                  refine cregion ?_
                  refine sv rfl (opv_mv rfl) ?_
                  refine sv rfl (opv_add rfl rfl) ?_
                  refine sv rfl (opv_as rfl) ?_
                  refine snil ?_
                  obtain rfl := Option.some.inj h
                  exact ⟨(n19, (wI (s19 + 1))), _, hk19, ⟨rfl, rfl, rfl, rfl, rfl, rfl, trivial⟩, rfl, Nat.lt_succ_self _⟩
            · replace h := ite_f hc h
              clear hc
              refine soff rfl rfl rfl rfl ?_
              refine soff rfl rfl rfl rfl ?_
              refine soff rfl rfl rfl rfl ?_
              refine soffu rfl rfl rfl ?_
              refine soffu rfl rfl rfl ?_
              refine soffu rfl rfl rfl ?_
              refine soffu rfl rfl rfl ?_
              refine soffu rfl rfl rfl ?_
              refine soffu rfl rfl rfl ?_
              refine soffu rfl rfl rfl ?_
              refine soff rfl rfl rfl rfl ?_
              refine sv rfl (opv_pick_f rfl rfl) ?_
              refine snil ?_
              refine ccond rfl (fun hx => Bool.noConfusion hx) (fun _ => ?_)
              refine cskip ?_
              refine block_normal ?_
              refine then_normal ?_
              refine cregion ?_
              refine sv rfl (opv_mv rfl) ?_
              refine sv rfl (opv_add rfl rfl) ?_
              refine sv rfl (opv_as rfl) ?_
              refine snil ?_
              obtain rfl := Option.some.inj h
              exact ⟨(n19, (wI (s19 + 1))), _, hk19, ⟨rfl, rfl, rfl, rfl, rfl, rfl, trivial⟩, rfl, Nat.lt_succ_self _⟩
          · skip
            refine cregion ?_
            refine sv rfl (opv_mv rfl) ?_
            refine sv rfl (opv_ieql rfl rfl) ?_
            refine sv rfl (opv_mv rfl) ?_
            refine ssplit 82 rfl (fun hc => ?_) (fun hc => ?_)
            · replace h := ite_t hc h
              clear hc
              refine son rfl rfl rfl ?_
              refine sv rfl (opv_mv rfl) ?_
              refine son rfl rfl rfl ?_
              refine sv rfl (opv_mv rfl) ?_
              refine son rfl rfl rfl ?_
              obtain ⟨u28, hu28, h⟩ := bind_eq h
              refine sv rfl (opv_ix (f := eGR10Read) si22 (fun _ => rfl) rfl rfl rfl rfl hu28) ?_
              refine son rfl rfl rfl ?_
              refine sv rfl (opv_fieldAddr_cp fi56_1 rfl) ?_
              refine son rfl rfl rfl ?_
              refine sv rfl (opv_loadNe (ys := [.sl u28.Rng.Lo.length (u28.Rng.Lo.flatMap eU8), .sl u28.Rng.Hi.length (u28.Rng.Hi.flatMap eU8), .b u28.Rng.Open]) ti27 rfl (.cp _) rfl rfl) ?_
              refine son rfl rfl rfl ?_
              refine sv rfl (opv_mv rfl) ?_
              refine son rfl rfl rfl ?_
              obtain ⟨v29, hv29, h⟩ := bind_eq h
              refine scall1 rfl fn29 (opnds_cons rfl (opnds_cons rfl opnds_nil)) (pubA_id rfl) (m29_r06_Has_c hv29) ?_
              refine sv rfl (opv_pick_t rfl rfl) ?_
              refine sv rfl (opv_mv rfl) ?_
              refine ssplit 91 rfl (fun hc => ?_) (fun hc => ?_)
              · replace h := ite_t hc h
                clear hc
                refine son rfl rfl rfl ?_
                refine sv rfl (opv_mv rfl) ?_
                refine son rfl rfl rfl ?_
                refine sv rfl (opv_not rfl) ?_
                refine sv rfl (opv_pick_t rfl rfl) ?_
                refine snil ?_
                refine ccond rfl (fun hc => ?_) (fun hc => ?_)
                · replace h := ite_t hc h
                  clear hc
                  refine cseq ?_
                  refine cregion ?_
                  refine sv rfl (opv_as rfl) ?_
                  refine snil ?_
                  refine cret ?_
                  refine then_ret ?_
                  refine block_ret ?_
                  refine then_ret ?_
                  refine then_ret ?_
                  refine block_ret ?_
                  refine then_ret ?_
                  obtain rfl := Option.some.inj h
                  obtain rfl : Sum.inl _ = x19 := hk19
                  replace ho19 : some _ = some _ := ho19
                  obtain rfl := Option.some.inj ho19
                  refine ⟨Or.inr rfl, _, _, _, (resVs_cons (ResV.tmp _ _ rfl) resVs_nil), (pubA_id rfl), ?_⟩
                  rfl
                · replace h := ite_f hc h
                  clear hc
                  refine cskip ?_
                  refine then_normal ?_
                  exact ⟨(), _, h, ⟨rfl, rfl, rfl, rfl, rfl, rfl, rfl, trivial⟩, rfl⟩
              · replace h := ite_f hc h
                clear hc
                refine soff rfl rfl rfl rfl ?_
                refine soff rfl rfl rfl rfl ?_
                refine sv rfl (opv_pick_f rfl rfl) ?_
                refine snil ?_
                refine ccond rfl (fun hx => Bool.noConfusion hx) (fun _ => ?_)
                refine cskip ?_
                refine then_normal ?_
                exact ⟨(), _, h, ⟨rfl, rfl, rfl, rfl, rfl, rfl, rfl, trivial⟩, rfl⟩
            · replace h := ite_f hc h
              clear hc
              refine soff rfl rfl rfl rfl ?_
              refine soff rfl rfl rfl rfl ?_
              refine soff rfl rfl rfl rfl ?_
              refine soff rfl rfl rfl rfl ?_
              refine soff rfl rfl rfl rfl ?_
              refine soff rfl rfl rfl rfl ?_
              refine soff rfl rfl rfl rfl ?_
              refine sv rfl (opv_pick_f rfl rfl) ?_
              refine sv rfl (opv_mv rfl) ?_
              refine soff rfl rfl rfl rfl ?_
              refine soff rfl rfl rfl rfl ?_
              refine sv rfl (opv_pick_f rfl rfl) ?_
              refine snil ?_
              refine ccond rfl (fun hx => Bool.noConfusion hx) (fun _ => ?_)
              refine cskip ?_
              refine then_normal ?_
              exact ⟨(), _, h, ⟨rfl, rfl, rfl, rfl, rfl, rfl, rfl, trivial⟩, rfl⟩
        · skip
          refine cblock ?_
          obtain ⟨x30, hx30, ho30⟩ := bind_eq h
          refine awc_loop (G := Nat × (Bool × Int)) (fun g => [(0, .s (.one (.sl a0.length (a0.flatMap eGR10Read)))), (1, .s (.one (.sl a1.length (a1.flatMap eU8)))), (5, .s (.one (.b v1))), (6, .s (.one (.lp 0 0))), (7, .s (.one (.sl v4.length (v4.flatMap eI)))), (8, .s (.one (.i .i64 s19))), (9, .s (.one (.b g.2.1))), (10, .s (.one (.i .i64 g.2.2)))]) (fun g => [.box [.sl v3.L.length (v3.L.flatMap eGReadsRead)]]) (fun g => iterB (m4_l10_ReadsHit_s30 a0 v4 s19) g.1 g.2 = some x30) (fun g => g.1) (fuel, (false, 0)) hx30 ⟨rfl, rfl, rfl, rfl, rfl, rfl, rfl, rfl, trivial⟩ [] rfl (fun _ _ => inbL_of rfl) (fun _ _ => blkinb_of rfl) (fun _ _ => Nat.le_of_ble_eq_true rfl) ?_
          clear hx30 h
          rintro ⟨n30, s30⟩ h
          obtain ⟨n30, y30, rfl, h, hk30⟩ := iterB_eq h
          unfold m4_l10_ReadsHit_s30 at h
          refine cseq ?_
          refine cseq ?_
          refine cregion ?_
          refine sv rfl (opv_mv rfl) ?_
          refine sv rfl (opv_mv rfl) ?_
          refine sv rfl (opv_len_sl si28 rfl) ?_
          refine sv rfl (opv_lss rfl rfl) ?_
          refine snil ?_
          refine ccond rfl (fun hc => ?_) (fun hc => ?_)
          · replace h := ite_t hc h
            clear hc
            refine cskip ?_
            refine then_normal ?_
            refine cseq ?_
            refine cblock ?_
            refine cdrawL mixed (by kernel_rfl) ?_
            refine dv rfl (opv_mv rfl) ?_
            refine dv rfl (opv_mv rfl) ?_
            refine dsplit 53 rfl (fun hc => ?_) (fun hc => ?_)
            · replace h := ite_t hc h
              clear hc
              refine doff rfl rfl rfl rfl ?_
              refine doff rfl rfl rfl rfl ?_
              refine doff rfl rfl rfl rfl ?_
              refine doff rfl rfl rfl rfl ?_
              refine doff rfl rfl rfl rfl ?_
              refine doff rfl rfl rfl rfl ?_
              refine doff rfl rfl rfl rfl ?_
              refine doff rfl rfl rfl rfl ?_
              refine doff rfl rfl rfl rfl ?_
              refine doff rfl rfl rfl rfl ?_
              refine dv rfl (opv_pick_t rfl rfl) ?_
              refine dv rfl (opv_as rfl) ?_
              refine dnil ?_
              refine block_normal ?_
              refine then_normal ?_
              refine cregion ?_
              refine sv rfl (opv_mv rfl) ?_
              refine sv rfl (opv_add rfl rfl) ?_
              refine sv rfl (opv_as rfl) ?_
              refine snil ?_
              obtain rfl := Option.some.inj h
              exact ⟨(n30, (true, (wI (s30.2 + 1)))), _, hk30, ⟨rfl, rfl, rfl, rfl, rfl, rfl, rfl, rfl, trivial⟩, rfl, Nat.lt_succ_self _⟩
            · replace h := ite_f hc h
              clear hc
              refine dvg rfl rfl rfl (opv_mv rfl) ?_
              refine dvg rfl rfl rfl (opv_mv rfl) ?_
              obtain ⟨u31, hu31, h⟩ := bind_eq h
              refine dvg rfl rfl rfl (opv_ix (f := eI) si28 (fun _ => rfl) rfl rfl rfl rfl hu31) ?_
              refine dvg rfl rfl rfl (opv_load1 ti3 rfl (.cp _) rfl) ?_
              refine dvg rfl rfl rfl (opv_mv rfl) ?_
              refine dvg rfl rfl rfl (opv_mv rfl) ?_
              obtain ⟨u32, hu32, h⟩ := bind_eq h
              refine dvg rfl rfl rfl (opv_ix (f := eGR10Read) si22 (fun _ => rfl) rfl rfl rfl rfl hu32) ?_
              refine dvg rfl rfl rfl (opv_fieldAddr_cp fi56_0 rfl) ?_
              refine dvg rfl rfl rfl (opv_load1 ti3 rfl (.cp _) rfl) ?_
              refine dvg rfl rfl rfl (opv_ieql rfl rfl) ?_
              refine dv rfl (opv_pick_f rfl rfl) ?_
              refine dv rfl (opv_as rfl) ?_
              refine dnil ?_
              refine block_normal ?_
              refine then_normal ?_
              refine cregion ?_
              refine sv rfl (opv_mv rfl) ?_
              refine sv rfl (opv_add rfl rfl) ?_
              refine sv rfl (opv_as rfl) ?_
              refine snil ?_
              obtain rfl := Option.some.inj h
              exact ⟨(n30, ((decide (u31 = u32.Tx)), (wI (s30.2 + 1)))), _, hk30, ⟨rfl, rfl, rfl, rfl, rfl, rfl, rfl, rfl, trivial⟩, rfl, Nat.lt_succ_self _⟩
          · replace h := ite_f hc h
            clear hc
            refine cexit ?_
            refine then_exit ?_
            refine then_exit ?_
            refine block_hit ?_
            refine then_normal ?_
            obtain rfl := Option.some.inj h
            obtain rfl : _ = x30 := hk30
            exact ⟨s30.1, _, ho30, ⟨rfl, rfl, rfl, rfl, rfl, rfl, rfl, trivial⟩, rfl⟩
      · replace h := ite_f hc h
        clear hc
        refine cexit ?_
        refine then_exit ?_
        refine then_exit ?_
        refine block_hit ?_
        refine then_normal ?_
        obtain rfl := Option.some.inj h
        obtain rfl : _ = x19 := hk19
        exact ⟨(), _, ho19, ⟨rfl, rfl, rfl, rfl, trivial⟩, rfl⟩
  · skip
    refine cregion ?_
    refine sv rfl (opv_mv rfl) ?_
    refine sv rfl (opv_build zi24 pi24 (parts_cons rfl parts_nil) (.cons _ _ _ _ _ _ _ rfl rfl (Nat.le_of_ble_eq_true rfl) (.nil _))) ?_
    obtain ⟨v35, hv35, h⟩ := bind_eq h
    refine scall1 rfl fn9 (opnds_cons rfl opnds_nil) (pubA_id rfl) (m9_r10_Few_c hv35) ?_
    refine sv rfl (opv_not rfl) ?_
    refine sv rfl (opv_mv rfl) ?_
    refine ssplit 24 rfl (fun hc => ?_) (fun hc => ?_)
    · replace h := ite_t hc h
      clear hc
      refine soff rfl rfl rfl rfl ?_
      refine soff rfl rfl rfl rfl ?_
      refine soff rfl rfl rfl rfl ?_
      refine sv rfl (opv_pick_t rfl rfl) ?_
      refine sv rfl (opv_mv rfl) ?_
      refine soff rfl rfl rfl rfl ?_
      refine soff rfl rfl rfl rfl ?_
      refine soff rfl rfl rfl rfl ?_
      refine sv rfl (opv_pick_t rfl rfl) ?_
      refine snil ?_
      refine ccond rfl (fun _ => ?_) (fun hx => Bool.noConfusion hx)
      refine cseq ?_
      refine cregion ?_
      refine sv rfl (opv_mv rfl) ?_
      refine sv rfl (opv_as rfl) ?_
      refine snil ?_
      refine cret ?_
      refine then_ret ?_
      obtain rfl := Option.some.inj h
      refine ⟨Or.inr rfl, _, _, _, (resVs_cons (ResV.tmp _ _ rfl) resVs_nil), (pubA_id rfl), ?_⟩
      rfl
    · replace h := ite_f hc h
      clear hc
      refine son rfl rfl rfl ?_
      refine sv rfl (opv_mv rfl) ?_
      refine son rfl rfl rfl ?_
      refine sv rfl (opv_len_sl si22 rfl) ?_
      refine son rfl rfl rfl ?_
      refine sv rfl (opv_gtr rfl rfl) ?_
      refine sv rfl (opv_pick_f rfl rfl) ?_
      refine sv rfl (opv_mv rfl) ?_
      refine ssplit 29 rfl (fun hc => ?_) (fun hc => ?_)
      · replace h := ite_t hc h
        clear hc
        refine soff rfl rfl rfl rfl ?_
        refine soff rfl rfl rfl rfl ?_
        refine soff rfl rfl rfl rfl ?_
        refine sv rfl (opv_pick_t rfl rfl) ?_
        refine snil ?_
        refine ccond rfl (fun _ => ?_) (fun hx => Bool.noConfusion hx)
        refine cseq ?_
        refine cregion ?_
        refine sv rfl (opv_mv rfl) ?_
        refine sv rfl (opv_as rfl) ?_
        refine snil ?_
        refine cret ?_
        refine then_ret ?_
        obtain rfl := Option.some.inj h
        refine ⟨Or.inr rfl, _, _, _, (resVs_cons (ResV.tmp _ _ rfl) resVs_nil), (pubA_id rfl), ?_⟩
        rfl
      · replace h := ite_f hc h
        clear hc
        refine son rfl rfl rfl ?_
        refine sv rfl (opv_mv rfl) ?_
        refine son rfl rfl rfl ?_
        refine sv rfl (opv_len_sl si25 rfl) ?_
        refine son rfl rfl rfl ?_
        refine sv rfl (opv_gtr rfl rfl) ?_
        refine sv rfl (opv_pick_f rfl rfl) ?_
        refine snil ?_
        refine ccond rfl (fun hc => ?_) (fun hc => ?_)
        · replace h := ite_t hc h
          clear hc
          refine cseq ?_
          refine cregion ?_
          refine sv rfl (opv_mv rfl) ?_
          refine sv rfl (opv_as rfl) ?_
          refine snil ?_
          refine cret ?_
          refine then_ret ?_
          obtain rfl := Option.some.inj h
          refine ⟨Or.inr rfl, _, _, _, (resVs_cons (ResV.tmp _ _ rfl) resVs_nil), (pubA_id rfl), ?_⟩
          rfl
        · replace h := ite_f hc h
          clear hc
          refine cskip ?_
          refine then_normal ?_
          exact ⟨(), _, h, ⟨rfl, rfl, rfl, trivial⟩, rfl⟩

def m5_l10_ReadsGo_k11 (v1 : Bool) (v3 : GReadsTable) (v4 : GReadsTable) (v5 : GReadsTable) (v6 : (List Int)) (v7 : (List Int)) (v9 : (List Int)) (b11 : Unit) : Option Bool :=
  if v1 then (if (decide ((wI ((v4.L.length : Int) + (v5.L.length : Int))) = (v3.L.length : Int))) then ((m30_r10_Rise ((([] : List Int) ++ v7) ++ v9)).bind fun v12 => (m18_r10_Ints v12 v6).bind fun v13 => if v13 then (if (decide ((v6.length : Int) = (((([] : List Int) ++ v7) ++ v9).length : Int))) then ((m16_reads_Sane v4).bind fun v14 => if v14 then ((m16_reads_Sane v5).bind fun v15 => some v15) else (some false)) else (some false)) else (some false)) else (some false)) else (some false)

def m5_l10_ReadsGo_s16 (a1 : List Int) (v3 : GReadsTable) (v4 : GReadsTable) (v5 : GReadsTable) (s16 : Int) : Option (LR (Int) (Unit) (Bool)) :=
  if (decide (s16 < (a1.length : Int))) then ((idx a1 s16).bind fun u17 => (m26_reads_Of v4 u17).bind fun v18 => if (!decide ((v18.length : Int) = 0)) then (some (.ret false)) else ((idx a1 s16).bind fun u19 => (m26_reads_Of v5 u19).bind fun v20 => (idx a1 s16).bind fun u21 => (m26_reads_Of v3 u21).bind fun v22 => (m25_r10_Ranges v20 v22).bind fun v23 => if (!v23) then (some (.ret false)) else (some (.cont (wI (s16 + 1)))))) else (some (.brk ()))

def m5_l10_ReadsGo_k2 (a0 : List GR10Read) (a1 : List Int) (a2 : List UInt8) (v1 : Bool) (b2 : Unit) : Option Bool :=
  (m28_l10_grown a0).bind fun v3 => (m21_reads_Drop v3 a1).bind fun v4 => (m23_reads_Keep v3 a1).bind fun v5 => (m19_reads_Hits v3 a2).bind fun v6 => (m19_reads_Hits v4 a2).bind fun v7 => if (([] : List Int).length + v7.length) * 8 ≤ 140737488355328 then ((m19_reads_Hits v5 a2).bind fun v9 => if ((([] : List Int) ++ v7).length + v9.length) * 8 ≤ 140737488355328 then ((iter (m5_l10_ReadsGo_s16 a1 v3 v4 v5) fuel 0).bind fun x => match x with | .inl r => some r | .inr e24 => m5_l10_ReadsGo_k11 v1 v3 v4 v5 v6 v7 v9 e24) else none) else none
def m5_l10_ReadsGo (a0 : List GR10Read) (a1 : List Int) (a2 : List UInt8) : Option Bool :=
  (m8_l10_awake).bind fun v1 => (m9_r10_Few (GR10Table.mk a0)).bind fun v25 => if (!v25) then (some v1) else (if (decide (50 < (a1.length : Int))) then (some v1) else (if (decide (50 < (a2.length : Int))) then (some v1) else (m5_l10_ReadsGo_k2 a0 a1 a2 v1 ())))

set_option maxRecDepth 100000 in
theorem m5_l10_ReadsGo_c {a0 : List GR10Read} {a1 : List Int} {a2 : List UInt8} {r : Bool} (h : m5_l10_ReadsGo a0 a1 a2 = some r) : CallsA Try.prog 5 [.one (.sl a0.length (a0.flatMap eGR10Read)), .one (.sl a1.length (a1.flatMap eI)), .one (.sl a2.length (a2.flatMap eU8))] (· = .s (.one (.b r))) := by
  unfold m5_l10_ReadsGo at h
  refine callsA_of Try.func5 rfl (nt := 115) rfl (Nat.le_of_ble_eq_true rfl) ?_
  intro w0 S0
  refine cseq ?_
  refine cregion ?_
  refine sv rfl (opv_as rfl) ?_
  refine snil ?_
  refine cseq ?_
  refine cregion ?_
  obtain ⟨v1, hv1, h⟩ := bind_eq h
  refine scall1 rfl fn8 opnds_nil (pubA_id rfl) (m8_l10_awake_c hv1) ?_
  refine sv rfl (opv_as rfl) ?_
  refine snil ?_
  refine cseq ?_
  refine cseq ?_
  refine cjoin3 (Unit) (fun b2 => [(0, .s (.one (.sl a0.length (a0.flatMap eGR10Read)))), (1, .s (.one (.sl a1.length (a1.flatMap eI)))), (2, .s (.one (.sl a2.length (a2.flatMap eU8)))), (7, .s (.one (.b v1)))]) (fun b2 => []) (fun b2 => m5_l10_ReadsGo_k2 a0 a1 a2 v1 b2 = some r) (fun _ _ => inbL_of rfl) (fun _ _ => blkinb_of rfl) (fun _ _ => Nat.le_of_ble_eq_true rfl) (fun b2 h => ?_) ?_
  · unfold m5_l10_ReadsGo_k2 at h
    refine cseq ?_
    refine cregion ?_
    refine sv rfl (opv_mv rfl) ?_
    obtain ⟨v3, hv3, h⟩ := bind_eq h
    refine scall1 rfl fn28 (opnds_cons rfl opnds_nil) (pubA_id rfl) (m28_l10_grown_c hv3) ?_
    refine salloc rfl zi34 ?_
    refine sstore sz34 rfl rfl rfl rfl (Nat.le_of_ble_eq_true rfl) ?_
    refine smem [.box [.sl v3.L.length (v3.L.flatMap eGReadsRead)]] rfl ?_
    refine snil ?_
    refine cseq ?_
    refine cregion ?_
    refine sv rfl (opv_loadN ti34 rfl (.lp _ _ _ rfl) (Nat.le_of_ble_eq_true rfl)) ?_
    refine sv rfl (opv_mv rfl) ?_
    obtain ⟨v4, hv4, h⟩ := bind_eq h
    refine scall1 rfl fn21 (opnds_cons rfl (opnds_cons rfl opnds_nil)) (pubA_id rfl) (m21_reads_Drop_c hv4) ?_
    refine salloc rfl zi34 ?_
    refine sstore sz34 rfl rfl rfl rfl (Nat.le_of_ble_eq_true rfl) ?_
    refine smem [.box [.sl v3.L.length (v3.L.flatMap eGReadsRead)], .box [.sl v4.L.length (v4.L.flatMap eGReadsRead)]] rfl ?_
    refine snil ?_
    refine cseq ?_
    refine cregion ?_
    refine sv rfl (opv_loadN ti34 rfl (.lp _ _ _ rfl) (Nat.le_of_ble_eq_true rfl)) ?_
    refine sv rfl (opv_mv rfl) ?_
    obtain ⟨v5, hv5, h⟩ := bind_eq h
    refine scall1 rfl fn23 (opnds_cons rfl (opnds_cons rfl opnds_nil)) (pubA_id rfl) (m23_reads_Keep_c hv5) ?_
    refine salloc rfl zi34 ?_
    refine sstore sz34 rfl rfl rfl rfl (Nat.le_of_ble_eq_true rfl) ?_
    refine smem [.box [.sl v3.L.length (v3.L.flatMap eGReadsRead)], .box [.sl v4.L.length (v4.L.flatMap eGReadsRead)], .box [.sl v5.L.length (v5.L.flatMap eGReadsRead)]] rfl ?_
    refine snil ?_
    refine cseq ?_
    refine cregion ?_
    refine sv rfl (opv_loadN ti34 rfl (.lp _ _ _ rfl) (Nat.le_of_ble_eq_true rfl)) ?_
    refine sv rfl (opv_mv rfl) ?_
    obtain ⟨v6, hv6, h⟩ := bind_eq h
    refine scall1 rfl fn19 (opnds_cons rfl (opnds_cons rfl opnds_nil)) (pubA_id rfl) (m19_reads_Hits_c hv6) ?_
    refine sv rfl (opv_as rfl) ?_
    refine snil ?_
    refine cseq ?_
    refine chole ?_
    obtain ⟨v7, hv7, h⟩ := bind_eq h
    obtain ⟨hb8, h⟩ := chk_eq h
    obtain ⟨v9, hv9, h⟩ := bind_eq h
    obtain ⟨hb10, h⟩ := chk_eq h
    refine cdraw_e [0, 4, 8] [0, 0, 0, 6, 15, 0, 0, 127, 255, 511] [[.box [.sl v3.L.length (v3.L.flatMap eGReadsRead)], .box [.sl v4.L.length (v4.L.flatMap eGReadsRead)], .box [.sl v5.L.length (v5.L.flatMap eGReadsRead)], .hole], [.box [.sl v3.L.length (v3.L.flatMap eGReadsRead)], .box [.sl v4.L.length (v4.L.flatMap eGReadsRead)], .box [.sl v5.L.length (v5.L.flatMap eGReadsRead)], .arr 3 1 0 (([] : List Int).flatMap eI)], [.box [.sl v3.L.length (v3.L.flatMap eGReadsRead)], .box [.sl v4.L.length (v4.L.flatMap eGReadsRead)], .box [.sl v5.L.length (v5.L.flatMap eGReadsRead)], .arr 3 1 0 ((([] : List Int) ++ v7).flatMap eI)], [.box [.sl v3.L.length (v3.L.flatMap eGReadsRead)], .box [.sl v4.L.length (v4.L.flatMap eGReadsRead)], .box [.sl v5.L.length (v5.L.flatMap eGReadsRead)], .arr 3 1 0 (((([] : List Int) ++ v7) ++ v9).flatMap eI)]] (by kernel_rfl) mixed (by kernel_rfl) (by decide) rfl rfl rfl rfl ?_
    refine ee (x := .s (.one (.ls 3 ([] : List Int).length))) 0 rfl rfl rfl rfl rfl (fun ζ => ?_) ?_
    · refine sbuild0_at 3 rfl Try.underlying28 ei3 rfl rfl ?_
      refine smem [.box [.sl v3.L.length (v3.L.flatMap eGReadsRead)], .box [.sl v4.L.length (v4.L.flatMap eGReadsRead)], .box [.sl v5.L.length (v5.L.flatMap eGReadsRead)], .arr 3 1 0 (([] : List Int).flatMap eI)] rfl ?_
      exact eend
    refine evA rfl rfl (all_cons (opv_loadN ti34 rfl (.lp _ _ _ rfl) (Nat.le_of_ble_eq_true rfl)) (all_cons (opv_loadN ti34 rfl (.lp _ _ _ rfl) (Nat.le_of_ble_eq_true rfl)) (all_cons (opv_loadN ti34 rfl (.lp _ _ _ rfl) (Nat.le_of_ble_eq_true rfl)) (all_cons (opv_loadN ti34 rfl (.lp _ _ _ rfl) (Nat.le_of_ble_eq_true rfl)) all_nil)))) ?_
    refine emv rfl rfl (fun _ => opv_mv rfl) ?_
    refine edA rfl rfl (all_cons (opD_call fn19 (opnds_cons rfl (opnds_cons rfl opnds_nil)) rfl (m19_reads_Hits_c hv7)) (all_cons (opD_call fn19 (opnds_cons rfl (opnds_cons rfl opnds_nil)) rfl (m19_reads_Hits_c hv7)) (all_cons (opD_call fn19 (opnds_cons rfl (opnds_cons rfl opnds_nil)) rfl (m19_reads_Hits_c hv7)) (all_cons (opD_call fn19 (opnds_cons rfl (opnds_cons rfl opnds_nil)) rfl (m19_reads_Hits_c hv7)) all_nil)))) ?_
    refine ee (x := .s (.one (.ls 3 (([] : List Int) ++ v7).length))) 1 rfl rfl rfl rfl rfl (fun ζ => ?_) ?_
    · refine sapp (f := eI) (xs := ([] : List Int)) (us := v7) rfl Try.underlying28 ei3 ni28 (fun _ => rfl) rfl rfl (.one _ _ _ _ (.id _ rfl)) rfl rfl rfl (.sl _ _ _ (flat_len (f := eI) (fun _ => rfl) _)) rfl rfl hb8 (by decide) ?_
      exact eend
    refine evA rfl rfl (all_cons (opv_loadN ti34 rfl (.lp _ _ _ rfl) (Nat.le_of_ble_eq_true rfl)) (all_cons (opv_loadN ti34 rfl (.lp _ _ _ rfl) (Nat.le_of_ble_eq_true rfl)) (all_cons (opv_loadN ti34 rfl (.lp _ _ _ rfl) (Nat.le_of_ble_eq_true rfl)) (all_cons (opv_loadN ti34 rfl (.lp _ _ _ rfl) (Nat.le_of_ble_eq_true rfl)) all_nil)))) ?_
    refine emv rfl rfl (fun _ => opv_mv rfl) ?_
    refine ed (sees_at 2 rfl rfl) rfl rfl (opD_call fn19 (opnds_cons rfl (opnds_cons rfl opnds_nil)) rfl (m19_reads_Hits_c hv9)) ?_
    refine ee (x := .s (.one (.ls 3 ((([] : List Int) ++ v7) ++ v9).length))) 2 rfl rfl rfl rfl rfl (fun ζ => ?_) ?_
    · refine sapp (f := eI) (xs := (([] : List Int) ++ v7)) (us := v9) rfl Try.underlying28 ei3 ni28 (fun _ => rfl) rfl rfl (.one _ _ _ _ (.id _ rfl)) rfl rfl rfl (.sl _ _ _ (flat_len (f := eI) (fun _ => rfl) _)) rfl rfl hb10 (by decide) ?_
      exact eend
    refine ev (sees_at 3 rfl rfl) rfl rfl (opv_as rfl) ?_
    refine enil ?_
    refine then_normal ?_
    refine cseq ?_
    refine cseq ?_
    refine cregion ?_
    refine sv rfl (opv_as rfl) ?_
    refine snil ?_
    refine cjoin (Unit) (fun b11 => [(7, .s (.one (.b v1))), (8, .s (.one (.lp 0 0))), (9, .s (.one (.lp 1 0))), (10, .s (.one (.lp 2 0))), (11, .s (.one (.sl v6.length (v6.flatMap eI)))), (12, .s (.one (.ls 3 ((([] : List Int) ++ v7) ++ v9).length)))]) (fun b11 => [.box [.sl v3.L.length (v3.L.flatMap eGReadsRead)], .box [.sl v4.L.length (v4.L.flatMap eGReadsRead)], .box [.sl v5.L.length (v5.L.flatMap eGReadsRead)], .arr 3 1 0 (((([] : List Int) ++ v7) ++ v9).flatMap eI)]) (fun b11 => m5_l10_ReadsGo_k11 v1 v3 v4 v5 v6 v7 v9 b11 = some r) (fun _ _ => inbL_of rfl) (fun _ _ => blkinb_of rfl) (fun _ _ => Nat.le_of_ble_eq_true rfl) (fun b11 h => ?_) ?_
    · unfold m5_l10_ReadsGo_k11 at h
      refine cseq ?_
      refine cregion ?_
      refine sv rfl (opv_mv rfl) ?_
      refine sv rfl (opv_mv rfl) ?_
      refine ssplit 81 rfl (fun hc => ?_) (fun hc => ?_)
      · replace h := ite_t hc h
        clear hc
        refine son rfl rfl rfl ?_
        refine sv rfl (opv_fieldAddr_lp fi34_0 rfl) ?_
        refine son rfl rfl rfl ?_
        refine sv rfl (opv_load1 ti32 rfl (.lp _ _ _ rfl) rfl) ?_
        refine son rfl rfl rfl ?_
        refine sv rfl (opv_len_sl si32 rfl) ?_
        refine son rfl rfl rfl ?_
        refine sv rfl (opv_fieldAddr_lp fi34_0 rfl) ?_
        refine son rfl rfl rfl ?_
        refine sv rfl (opv_load1 ti32 rfl (.lp _ _ _ rfl) rfl) ?_
        refine son rfl rfl rfl ?_
        refine sv rfl (opv_len_sl si32 rfl) ?_
        refine son rfl rfl rfl ?_
        refine sv rfl (opv_add rfl rfl) ?_
        refine son rfl rfl rfl ?_
        refine sv rfl (opv_fieldAddr_lp fi34_0 rfl) ?_
        refine son rfl rfl rfl ?_
        refine sv rfl (opv_load1 ti32 rfl (.lp _ _ _ rfl) rfl) ?_
        refine son rfl rfl rfl ?_
        refine sv rfl (opv_len_sl si32 rfl) ?_
        refine son rfl rfl rfl ?_
        refine sv rfl (opv_ieql rfl rfl) ?_
        refine sv rfl (opv_pick_t rfl rfl) ?_
        refine sv rfl (opv_mv rfl) ?_
        refine ssplit 94 rfl (fun hc => ?_) (fun hc => ?_)
        · replace h := ite_t hc h
          clear hc
          refine son rfl rfl rfl ?_
          refine sv rfl (opv_mv rfl) ?_
          refine son rfl rfl rfl ?_
          refine spub 95 rfl (by (repeat' first | exact PubA.nil _ | apply PubA.cons | apply PubV.one | apply PubV.agg | exact PubL.nil | exact PubL.ls _ _ _ _ _ _ rfl (flat_len (f := eI) (fun _ => rfl) _).symm | exact PubL.id _ rfl | exact PubLs.nil _ | apply PubLs.cons)) ?_
          obtain ⟨v12, hv12, h⟩ := bind_eq h
          refine scall1 rfl fn30 (opnds_cons rfl opnds_nil) (pubA_id rfl) (m30_r10_Rise_c hv12) ?_
          refine son rfl rfl rfl ?_
          refine sv rfl (opv_mv rfl) ?_
          refine son rfl rfl rfl ?_
          obtain ⟨v13, hv13, h⟩ := bind_eq h
          refine scall1 rfl fn18 (opnds_cons rfl (opnds_cons rfl opnds_nil)) (pubA_id rfl) (m18_r10_Ints_c hv13) ?_
          refine sv rfl (opv_pick_t rfl rfl) ?_
          refine sv rfl (opv_mv rfl) ?_
          refine ssplit 100 rfl (fun hc => ?_) (fun hc => ?_)
          · replace h := ite_t hc h
            clear hc
            refine son rfl rfl rfl ?_
            refine sv rfl (opv_mv rfl) ?_
            refine son rfl rfl rfl ?_
            refine sv rfl (opv_len_sl si28 rfl) ?_
            refine son rfl rfl rfl ?_
            refine sv rfl (opv_mv rfl) ?_
            refine son rfl rfl rfl ?_
            refine sv rfl (opv_len_ls si28 rfl rfl (flat_len (f := eI) (fun _ => rfl) _).symm) ?_
            refine son rfl rfl rfl ?_
            refine sv rfl (opv_ieql rfl rfl) ?_
            refine sv rfl (opv_pick_t rfl rfl) ?_
            refine sv rfl (opv_mv rfl) ?_
            refine ssplit 107 rfl (fun hc => ?_) (fun hc => ?_)
            · replace h := ite_t hc h
              clear hc
              refine son rfl rfl rfl ?_
              refine sv rfl (opv_loadN ti34 rfl (.lp _ _ _ rfl) (Nat.le_of_ble_eq_true rfl)) ?_
              refine son rfl rfl rfl ?_
              obtain ⟨v14, hv14, h⟩ := bind_eq h
              refine scall1 rfl fn16 (opnds_cons rfl opnds_nil) (pubA_id rfl) (m16_reads_Sane_c hv14) ?_
              refine sv rfl (opv_pick_t rfl rfl) ?_
              refine sv rfl (opv_mv rfl) ?_
              refine ssplit 111 rfl (fun hc => ?_) (fun hc => ?_)
              · replace h := ite_t hc h
                clear hc
                refine son rfl rfl rfl ?_
                refine sv rfl (opv_loadN ti34 rfl (.lp _ _ _ rfl) (Nat.le_of_ble_eq_true rfl)) ?_
                refine son rfl rfl rfl ?_
                obtain ⟨v15, hv15, h⟩ := bind_eq h
                refine scall1 rfl fn16 (opnds_cons rfl opnds_nil) (pubA_id rfl) (m16_reads_Sane_c hv15) ?_
                refine sv rfl (opv_pick_t rfl rfl) ?_
                refine sv rfl (opv_as rfl) ?_
                refine snil ?_
                refine cret ?_
                obtain rfl := Option.some.inj h
                refine ⟨Or.inr rfl, _, _, _, (resVs_cons (ResV.tmp _ _ rfl) resVs_nil), (pubA_id rfl), ?_⟩
                rfl
              · replace h := ite_f hc h
                clear hc
                refine soff rfl rfl rfl rfl ?_
                refine soff rfl rfl rfl rfl ?_
                refine sv rfl (opv_pick_f rfl rfl) ?_
                refine sv rfl (opv_as rfl) ?_
                refine snil ?_
                refine cret ?_
                obtain rfl := Option.some.inj h
                refine ⟨Or.inr rfl, _, _, _, (resVs_cons (ResV.tmp _ _ rfl) resVs_nil), (pubA_id rfl), ?_⟩
                rfl
            · replace h := ite_f hc h
              clear hc
              refine soff rfl rfl rfl rfl ?_
              refine soff rfl rfl rfl rfl ?_
              refine sv rfl (opv_pick_f rfl rfl) ?_
              refine sv rfl (opv_mv rfl) ?_
              refine soff rfl rfl rfl rfl ?_
              refine soff rfl rfl rfl rfl ?_
              refine sv rfl (opv_pick_f rfl rfl) ?_
              refine sv rfl (opv_as rfl) ?_
              refine snil ?_
              refine cret ?_
              obtain rfl := Option.some.inj h
              refine ⟨Or.inr rfl, _, _, _, (resVs_cons (ResV.tmp _ _ rfl) resVs_nil), (pubA_id rfl), ?_⟩
              rfl
          · replace h := ite_f hc h
            clear hc
            refine soff rfl rfl rfl rfl ?_
            refine soff rfl rfl rfl rfl ?_
            refine soff rfl rfl rfl rfl ?_
            refine soff rfl rfl rfl rfl ?_
            refine soff rfl rfl rfl rfl ?_
            refine sv rfl (opv_pick_f rfl rfl) ?_
            refine sv rfl (opv_mv rfl) ?_
            refine soff rfl rfl rfl rfl ?_
            refine soff rfl rfl rfl rfl ?_
            refine sv rfl (opv_pick_f rfl rfl) ?_
            refine sv rfl (opv_mv rfl) ?_
            refine soff rfl rfl rfl rfl ?_
            refine soff rfl rfl rfl rfl ?_
            refine sv rfl (opv_pick_f rfl rfl) ?_
            refine sv rfl (opv_as rfl) ?_
            refine snil ?_
            refine cret ?_
            obtain rfl := Option.some.inj h
            refine ⟨Or.inr rfl, _, _, _, (resVs_cons (ResV.tmp _ _ rfl) resVs_nil), (pubA_id rfl), ?_⟩
            rfl
        · replace h := ite_f hc h
          clear hc
          refine soff rfl rfl rfl rfl ?_
          refine soff rfl rfl rfl rfl ?_
          refine soff rfl rfl rfl rfl ?_
          refine soff rfl rfl rfl rfl ?_
          refine sv rfl (opv_pick_f rfl rfl) ?_
          refine sv rfl (opv_mv rfl) ?_
          refine soff rfl rfl rfl rfl ?_
          refine soff rfl rfl rfl rfl ?_
          refine soff rfl rfl rfl rfl ?_
          refine soff rfl rfl rfl rfl ?_
          refine soff rfl rfl rfl rfl ?_
          refine sv rfl (opv_pick_f rfl rfl) ?_
          refine sv rfl (opv_mv rfl) ?_
          refine soff rfl rfl rfl rfl ?_
          refine soff rfl rfl rfl rfl ?_
          refine sv rfl (opv_pick_f rfl rfl) ?_
          refine sv rfl (opv_mv rfl) ?_
          refine soff rfl rfl rfl rfl ?_
          refine soff rfl rfl rfl rfl ?_
          refine sv rfl (opv_pick_f rfl rfl) ?_
          refine sv rfl (opv_as rfl) ?_
          refine snil ?_
          refine cret ?_
          obtain rfl := Option.some.inj h
          refine ⟨Or.inr rfl, _, _, _, (resVs_cons (ResV.tmp _ _ rfl) resVs_nil), (pubA_id rfl), ?_⟩
          rfl
      · replace h := ite_f hc h
        clear hc
        refine soff rfl rfl rfl rfl ?_
        refine soff rfl rfl rfl rfl ?_
        refine soff rfl rfl rfl rfl ?_
        refine soff rfl rfl rfl rfl ?_
        refine soff rfl rfl rfl rfl ?_
        refine soff rfl rfl rfl rfl ?_
        refine soff rfl rfl rfl rfl ?_
        refine soff rfl rfl rfl rfl ?_
        refine soff rfl rfl rfl rfl ?_
        refine soff rfl rfl rfl rfl ?_
        refine soff rfl rfl rfl rfl ?_
        refine sv rfl (opv_pick_f rfl rfl) ?_
        refine sv rfl (opv_mv rfl) ?_
        refine soff rfl rfl rfl rfl ?_
        refine soff rfl rfl rfl rfl ?_
        refine soff rfl rfl rfl rfl ?_
        refine soff rfl rfl rfl rfl ?_
        refine sv rfl (opv_pick_f rfl rfl) ?_
        refine sv rfl (opv_mv rfl) ?_
        refine soff rfl rfl rfl rfl ?_
        refine soff rfl rfl rfl rfl ?_
        refine soff rfl rfl rfl rfl ?_
        refine soff rfl rfl rfl rfl ?_
        refine soff rfl rfl rfl rfl ?_
        refine sv rfl (opv_pick_f rfl rfl) ?_
        refine sv rfl (opv_mv rfl) ?_
        refine soff rfl rfl rfl rfl ?_
        refine soff rfl rfl rfl rfl ?_
        refine sv rfl (opv_pick_f rfl rfl) ?_
        refine sv rfl (opv_mv rfl) ?_
        refine soff rfl rfl rfl rfl ?_
        refine soff rfl rfl rfl rfl ?_
        refine sv rfl (opv_pick_f rfl rfl) ?_
        refine sv rfl (opv_as rfl) ?_
        refine snil ?_
        refine cret ?_
        obtain rfl := Option.some.inj h
        refine ⟨Or.inr rfl, _, _, _, (resVs_cons (ResV.tmp _ _ rfl) resVs_nil), (pubA_id rfl), ?_⟩
        rfl
    · skip
      refine cblock ?_
      obtain ⟨x16, hx16, ho16⟩ := bind_eq h
      refine awc_loop (G := Nat × (Int)) (fun g => [(1, .s (.one (.sl a1.length (a1.flatMap eI)))), (7, .s (.one (.b v1))), (8, .s (.one (.lp 0 0))), (9, .s (.one (.lp 1 0))), (10, .s (.one (.lp 2 0))), (11, .s (.one (.sl v6.length (v6.flatMap eI)))), (12, .s (.one (.ls 3 ((([] : List Int) ++ v7) ++ v9).length))), (13, .s (.one (.i .i64 g.2)))]) (fun g => [.box [.sl v3.L.length (v3.L.flatMap eGReadsRead)], .box [.sl v4.L.length (v4.L.flatMap eGReadsRead)], .box [.sl v5.L.length (v5.L.flatMap eGReadsRead)], .arr 3 1 0 (((([] : List Int) ++ v7) ++ v9).flatMap eI)]) (fun g => iter (m5_l10_ReadsGo_s16 a1 v3 v4 v5) g.1 g.2 = some x16) (fun g => g.1) (fuel, 0) hx16 ⟨rfl, rfl, rfl, rfl, rfl, rfl, rfl, rfl, trivial⟩ [] rfl (fun _ _ => inbL_of rfl) (fun _ _ => blkinb_of rfl) (fun _ _ => Nat.le_of_ble_eq_true rfl) ?_
      clear hx16 h
      rintro ⟨n16, s16⟩ h
      obtain ⟨n16, y16, rfl, h, hk16⟩ := iter_eq h
      unfold m5_l10_ReadsGo_s16 at h
      refine cseq ?_
      refine cseq ?_
      refine cregion ?_
      refine sv rfl (opv_mv rfl) ?_
      refine sv rfl (opv_mv rfl) ?_
      refine sv rfl (opv_len_sl si28 rfl) ?_
      refine sv rfl (opv_lss rfl rfl) ?_
      refine snil ?_
      refine ccond rfl (fun hc => ?_) (fun hc => ?_)
      · replace h := ite_t hc h
        clear hc
        refine cskip ?_
        refine then_normal ?_
        refine cseq ?_
        refine cblock ?_
        refine cseq ?_
        refine cdraw mixed (by kernel_rfl) ?_
        refine dv rfl (opv_loadN ti34 rfl (.lp _ _ _ rfl) (Nat.le_of_ble_eq_true rfl)) ?_
        refine dv rfl (opv_mv rfl) ?_
        refine dv rfl (opv_mv rfl) ?_
        obtain ⟨u17, hu17, h⟩ := bind_eq h
        refine dv rfl (opv_ix (f := eI) si28 (fun _ => rfl) rfl rfl rfl rfl hu17) ?_
        refine dv rfl (opv_load1 ti3 rfl (.cp _) rfl) ?_
        obtain ⟨v18, hv18, h⟩ := bind_eq h
        refine dd rfl (opD_call fn26 (opnds_cons rfl (opnds_cons rfl opnds_nil)) rfl (m26_reads_Of_c hv18)) ?_
        refine dv rfl (opv_len_sl si50 rfl) ?_
        refine dv rfl (opv_ineq rfl rfl) ?_
        refine dv rfl (opv_mv rfl) ?_
        refine dsplit 64 rfl (fun hc => ?_) (fun hc => ?_)
        · replace h := ite_t hc h
          clear hc
          refine doff rfl rfl rfl rfl ?_
          refine doff rfl rfl rfl rfl ?_
          refine doff rfl rfl rfl rfl ?_
          refine doff rfl rfl rfl rfl ?_
          refine doff rfl rfl rfl rfl ?_
          refine doff rfl rfl rfl rfl ?_
          refine doff rfl rfl rfl rfl ?_
          refine doff rfl rfl rfl rfl ?_
          refine doff rfl rfl rfl rfl ?_
          refine doff rfl rfl rfl rfl ?_
          refine doff rfl rfl rfl rfl ?_
          refine doff rfl rfl rfl rfl ?_
          refine doff rfl rfl rfl rfl ?_
          refine doff rfl rfl rfl rfl ?_
          refine dv rfl (opv_pick_t rfl rfl) ?_
          refine dnil ?_
          refine then_normal ?_
          refine ccond rfl (fun _ => ?_) (fun hx => Bool.noConfusion hx)
          refine cseq ?_
          refine cregion ?_
          refine sv rfl (opv_as rfl) ?_
          refine snil ?_
          refine cret ?_
          refine block_ret ?_
          refine then_ret ?_
          refine then_ret ?_
          refine block_ret ?_
          refine then_ret ?_
          obtain rfl := Option.some.inj h
          obtain rfl : Sum.inl _ = x16 := hk16
          replace ho16 : some _ = some _ := ho16
          obtain rfl := Option.some.inj ho16
          refine ⟨Or.inr rfl, _, _, _, (resVs_cons (ResV.tmp _ _ rfl) resVs_nil), (pubA_id rfl), ?_⟩
          rfl
        · replace h := ite_f hc h
          clear hc
          refine dvg rfl rfl rfl (opv_loadN ti34 rfl (.lp _ _ _ rfl) (Nat.le_of_ble_eq_true rfl)) ?_
          refine dvg rfl rfl rfl (opv_mv rfl) ?_
          refine dvg rfl rfl rfl (opv_mv rfl) ?_
          obtain ⟨u19, hu19, h⟩ := bind_eq h
          refine dvg rfl rfl rfl (opv_ix (f := eI) si28 (fun _ => rfl) rfl rfl rfl rfl hu19) ?_
          refine dvg rfl rfl rfl (opv_load1 ti3 rfl (.cp _) rfl) ?_
          obtain ⟨v20, hv20, h⟩ := bind_eq h
          refine ddg rfl rfl rfl (opD_call fn26 (opnds_cons rfl (opnds_cons rfl opnds_nil)) rfl (m26_reads_Of_c hv20)) ?_
          refine dvg rfl rfl rfl (opv_loadN ti34 rfl (.lp _ _ _ rfl) (Nat.le_of_ble_eq_true rfl)) ?_
          refine dvg rfl rfl rfl (opv_mv rfl) ?_
          refine dvg rfl rfl rfl (opv_mv rfl) ?_
          obtain ⟨u21, hu21, h⟩ := bind_eq h
          refine dvg rfl rfl rfl (opv_ix (f := eI) si28 (fun _ => rfl) rfl rfl rfl rfl hu21) ?_
          refine dvg rfl rfl rfl (opv_load1 ti3 rfl (.cp _) rfl) ?_
          obtain ⟨v22, hv22, h⟩ := bind_eq h
          refine ddg rfl rfl rfl (opD_call fn26 (opnds_cons rfl (opnds_cons rfl opnds_nil)) rfl (m26_reads_Of_c hv22)) ?_
          obtain ⟨v23, hv23, h⟩ := bind_eq h
          refine ddg rfl rfl rfl (opD_call fn25 (opnds_cons rfl (opnds_cons rfl opnds_nil)) rfl (m25_r10_Ranges_c hv23)) ?_
          refine dvg rfl rfl rfl (opv_not rfl) ?_
          refine dv rfl (opv_pick_f rfl rfl) ?_
          refine dnil ?_
          refine then_normal ?_
          refine ccond rfl (fun hc => ?_) (fun hc => ?_)
          · replace h := ite_t hc h
            clear hc
            refine cseq ?_
            refine cregion ?_
            refine sv rfl (opv_as rfl) ?_
            refine snil ?_
            refine cret ?_
            refine block_ret ?_
            refine then_ret ?_
            refine then_ret ?_
            refine block_ret ?_
            refine then_ret ?_
            obtain rfl := Option.some.inj h
            obtain rfl : Sum.inl _ = x16 := hk16
            replace ho16 : some _ = some _ := ho16
            obtain rfl := Option.some.inj ho16
            refine ⟨Or.inr rfl, _, _, _, (resVs_cons (ResV.tmp _ _ rfl) resVs_nil), (pubA_id rfl), ?_⟩
            rfl
          · replace h := ite_f hc h
            clear hc
            refine cskip ?_
            refine block_normal ?_
            refine then_normal ?_
            refine cregion ?_
            refine sv rfl (opv_mv rfl) ?_
            refine sv rfl (opv_add rfl rfl) ?_
            refine sv rfl (opv_as rfl) ?_
            refine snil ?_
            obtain rfl := Option.some.inj h
            exact ⟨(n16, (wI (s16 + 1))), _, hk16, ⟨rfl, rfl, rfl, rfl, rfl, rfl, rfl, rfl, trivial⟩, rfl, Nat.lt_succ_self _⟩
      · replace h := ite_f hc h
        clear hc
        refine cexit ?_
        refine then_exit ?_
        refine then_exit ?_
        refine block_hit ?_
        refine then_normal ?_
        obtain rfl := Option.some.inj h
        obtain rfl : _ = x16 := hk16
        exact ⟨(), _, ho16, ⟨rfl, rfl, rfl, rfl, rfl, rfl, trivial⟩, rfl⟩
  · skip
    refine cregion ?_
    refine sv rfl (opv_mv rfl) ?_
    refine sv rfl (opv_build zi24 pi24 (parts_cons rfl parts_nil) (.cons _ _ _ _ _ _ _ rfl rfl (Nat.le_of_ble_eq_true rfl) (.nil _))) ?_
    obtain ⟨v25, hv25, h⟩ := bind_eq h
    refine scall1 rfl fn9 (opnds_cons rfl opnds_nil) (pubA_id rfl) (m9_r10_Few_c hv25) ?_
    refine sv rfl (opv_not rfl) ?_
    refine sv rfl (opv_mv rfl) ?_
    refine ssplit 19 rfl (fun hc => ?_) (fun hc => ?_)
    · replace h := ite_t hc h
      clear hc
      refine soff rfl rfl rfl rfl ?_
      refine soff rfl rfl rfl rfl ?_
      refine soff rfl rfl rfl rfl ?_
      refine sv rfl (opv_pick_t rfl rfl) ?_
      refine sv rfl (opv_mv rfl) ?_
      refine soff rfl rfl rfl rfl ?_
      refine soff rfl rfl rfl rfl ?_
      refine soff rfl rfl rfl rfl ?_
      refine sv rfl (opv_pick_t rfl rfl) ?_
      refine snil ?_
      refine ccond rfl (fun _ => ?_) (fun hx => Bool.noConfusion hx)
      refine cseq ?_
      refine cregion ?_
      refine sv rfl (opv_mv rfl) ?_
      refine sv rfl (opv_as rfl) ?_
      refine snil ?_
      refine cret ?_
      refine then_ret ?_
      obtain rfl := Option.some.inj h
      refine ⟨Or.inr rfl, _, _, _, (resVs_cons (ResV.tmp _ _ rfl) resVs_nil), (pubA_id rfl), ?_⟩
      rfl
    · replace h := ite_f hc h
      clear hc
      refine son rfl rfl rfl ?_
      refine sv rfl (opv_mv rfl) ?_
      refine son rfl rfl rfl ?_
      refine sv rfl (opv_len_sl si28 rfl) ?_
      refine son rfl rfl rfl ?_
      refine sv rfl (opv_gtr rfl rfl) ?_
      refine sv rfl (opv_pick_f rfl rfl) ?_
      refine sv rfl (opv_mv rfl) ?_
      refine ssplit 24 rfl (fun hc => ?_) (fun hc => ?_)
      · replace h := ite_t hc h
        clear hc
        refine soff rfl rfl rfl rfl ?_
        refine soff rfl rfl rfl rfl ?_
        refine soff rfl rfl rfl rfl ?_
        refine sv rfl (opv_pick_t rfl rfl) ?_
        refine snil ?_
        refine ccond rfl (fun _ => ?_) (fun hx => Bool.noConfusion hx)
        refine cseq ?_
        refine cregion ?_
        refine sv rfl (opv_mv rfl) ?_
        refine sv rfl (opv_as rfl) ?_
        refine snil ?_
        refine cret ?_
        refine then_ret ?_
        obtain rfl := Option.some.inj h
        refine ⟨Or.inr rfl, _, _, _, (resVs_cons (ResV.tmp _ _ rfl) resVs_nil), (pubA_id rfl), ?_⟩
        rfl
      · replace h := ite_f hc h
        clear hc
        refine son rfl rfl rfl ?_
        refine sv rfl (opv_mv rfl) ?_
        refine son rfl rfl rfl ?_
        refine sv rfl (opv_len_sl si25 rfl) ?_
        refine son rfl rfl rfl ?_
        refine sv rfl (opv_gtr rfl rfl) ?_
        refine sv rfl (opv_pick_f rfl rfl) ?_
        refine snil ?_
        refine ccond rfl (fun hc => ?_) (fun hc => ?_)
        · replace h := ite_t hc h
          clear hc
          refine cseq ?_
          refine cregion ?_
          refine sv rfl (opv_mv rfl) ?_
          refine sv rfl (opv_as rfl) ?_
          refine snil ?_
          refine cret ?_
          refine then_ret ?_
          obtain rfl := Option.some.inj h
          refine ⟨Or.inr rfl, _, _, _, (resVs_cons (ResV.tmp _ _ rfl) resVs_nil), (pubA_id rfl), ?_⟩
          rfl
        · replace h := ite_f hc h
          clear hc
          refine cskip ?_
          refine then_normal ?_
          exact ⟨(), _, h, ⟨rfl, rfl, rfl, rfl, trivial⟩, rfl⟩

def m31_r06_One (a0 : List UInt8) : Option GApiRange :=
  if (([] : List UInt8).length + a0.length) * 1 ≤ 140737488355328 then (if ((([] : List UInt8) ++ a0).length + [(UInt8.ofBitVec (0#8))].length) * 1 ≤ 140737488355328 then (some (GApiRange.mk a0 ((([] : List UInt8) ++ a0) ++ [(UInt8.ofBitVec (0#8))]) false)) else none) else none

set_option maxRecDepth 100000 in
theorem m31_r06_One_c {a0 : List UInt8} {r : GApiRange} (h : m31_r06_One a0 = some r) : CallsA Try.prog 31 [.one (.sl a0.length (a0.flatMap eU8))] (· = .s (.agg r)) := by
  unfold m31_r06_One at h
  refine callsA_of Try.func31 rfl (nt := 13) rfl (Nat.le_of_ble_eq_true rfl) ?_
  intro w0 S0
  refine cseq ?_
  refine cregion ?_
  refine salloc rfl zi27 ?_
  refine snil ?_
  refine cseq ?_
  refine cregion ?_
  refine sbuild0 rfl Try.underlying25 ei5 ?_
  refine sv rfl (opv_mv rfl) ?_
  obtain ⟨hb1, h⟩ := chk_eq h
  refine sapp (f := eU8) (xs := ([] : List UInt8)) (us := a0) rfl Try.underlying25 ei5 ni25 (fun _ => rfl) rfl rfl (.one _ _ _ _ (.id _ rfl)) rfl rfl rfl (.sl _ _ _ (flat_len (f := eU8) (fun _ => rfl) _)) rfl rfl hb1 (by decide) ?_
  refine sv rfl (opv_as rfl) ?_
  refine snil ?_
  refine cseq ?_
  refine cregion ?_
  refine sv rfl (opv_mv rfl) ?_
  refine sbuild1 rfl Try.underlying25 ei5 rfl rfl (List.all_eq_true.1 rfl) (by decide) ?_
  refine smem [.box [.raw (.slice none 0 0), .raw (.slice none 0 0), .b false], .arr 5 1 0 ((([] : List UInt8) ++ a0).flatMap eU8), .arr 5 1 0 ([(UInt8.ofBitVec (0#8))].flatMap eU8)] rfl ?_
  obtain ⟨hb2, h⟩ := chk_eq h
  refine sapp (f := eU8) (xs := (([] : List UInt8) ++ a0)) (us := [(UInt8.ofBitVec (0#8))]) rfl Try.underlying25 ei5 ni25 (fun _ => rfl) rfl rfl (.one _ _ _ _ (.ls _ _ _ _ _ _ rfl (flat_len (f := eU8) (fun _ => rfl) [(UInt8.ofBitVec (0#8))]).symm)) rfl rfl rfl (.sl _ _ _ (flat_len (f := eU8) (fun _ => rfl) _)) rfl rfl hb2 (by decide) ?_
  refine sv rfl (opv_as rfl) ?_
  refine snil ?_
  refine cseq ?_
  refine cregion ?_
  refine sv rfl (opv_mv rfl) ?_
  refine sv rfl (opv_mv rfl) ?_
  refine sv rfl (opv_build zi27 pi27 (parts_cons rfl (parts_cons rfl parts_nil)) (.cons _ _ _ _ _ _ _ rfl rfl (Nat.le_of_ble_eq_true rfl) (.cons _ _ _ _ _ _ _ rfl rfl (Nat.le_of_ble_eq_true rfl) (.nil _)))) ?_
  refine sstore sz27 rfl rfl rfl rfl (Nat.le_of_ble_eq_true rfl) ?_
  refine smem [.box [.sl a0.length (a0.flatMap eU8), .ls 1 ((([] : List UInt8) ++ a0) ++ [(UInt8.ofBitVec (0#8))]).length, .b false], .arr 5 1 0 (((([] : List UInt8) ++ a0) ++ [(UInt8.ofBitVec (0#8))]).flatMap eU8), .arr 5 1 ([(UInt8.ofBitVec (0#8))].flatMap eU8).length ([(UInt8.ofBitVec (0#8))].flatMap eU8)] rfl ?_
  refine snil ?_
  refine cret ?_
  obtain rfl := Option.some.inj h
  refine ⟨Or.inr rfl, _, _, _, (resVs_cons (ResV.agg _ _ _ _ _ ti27 rfl (.lp _ _ _ rfl) (Nat.le_of_ble_eq_true rfl)) resVs_nil), (by (repeat' first | exact PubA.nil _ | apply PubA.cons | apply PubV.one | apply PubV.agg | exact PubL.nil | exact PubL.ls _ _ _ _ _ _ rfl (flat_len (f := eU8) (fun _ => rfl) _).symm | exact PubL.id _ rfl | exact PubLs.nil _ | apply PubLs.cons)), ?_⟩
  rfl

def m6_l10_ReadsFull_k3 (a0 : Int) (a1 : List UInt8) (v1 : Bool) (b3 : (List GReadsRead)) : Option Bool :=
  (m31_r06_One a1).bind fun v4 => (m12_reads_Add (GReadsTable.mk b3) 500 v4).bind fun v5 => (m31_r06_One a1).bind fun v6 => (m12_reads_Add (GReadsTable.mk b3) (wI ((BitVec.ofInt 64 a0 &&& BitVec.ofInt 64 127).toNat : Int)) v6).bind fun v7 => (m21_reads_Drop (GReadsTable.mk b3) [(wI ((BitVec.ofInt 64 a0 &&& BitVec.ofInt 64 127).toNat : Int))]).bind fun v8 => (m31_r06_One a1).bind fun v9 => (m12_reads_Add v8 500 v9).bind fun v10 => if v1 then (if (decide (v5.2 = 8)) then (if (decide (v7.2 = 0)) then (if (decide ((v7.1.L.length : Int) = 128)) then (if (decide (v10.2 = 0)) then (if (decide ((v10.1.L.length : Int) = 128)) then ((m19_reads_Hits (GReadsTable.mk b3) a1).bind fun v11 => if (decide ((v11.length : Int) = 128)) then ((m19_reads_Hits v10.1 a1).bind fun v12 => some (decide ((v12.length : Int) = 128))) else (some false)) else (some false)) else (some false)) else (some false)) else (some false)) else (some false)) else (some false)

def m6_l10_ReadsFull_s13 (a1 : List UInt8) (s13 : Int × (List GReadsRead)) : Option (LR (Int × (List GReadsRead)) ((List GReadsRead)) (Bool)) :=
  if (decide (s13.1 < 128)) then ((m31_r06_One a1).bind fun v14 => (m12_reads_Add (GReadsTable.mk s13.2) s13.1 v14).bind fun v15 => if (!decide (v15.2 = 0)) then (some (.ret false)) else (some (.cont ((wI (s13.1 + 1)), v15.1.L)))) else (some (.brk s13.2))

def m6_l10_ReadsFull_k2 (a0 : Int) (a1 : List UInt8) (v1 : Bool) (b2 : Unit) : Option Bool :=
  (iter (m6_l10_ReadsFull_s13 a1) fuel (0, ([] : List GReadsRead))).bind fun x => match x with | .inl r => some r | .inr e16 => m6_l10_ReadsFull_k3 a0 a1 v1 e16
def m6_l10_ReadsFull (a0 : Int) (a1 : List UInt8) : Option Bool :=
  (m8_l10_awake).bind fun v1 => if (decide ((a1.length : Int) < 1)) then (some v1) else (if (decide (16 < (a1.length : Int))) then (some v1) else (m6_l10_ReadsFull_k2 a0 a1 v1 ()))

set_option maxRecDepth 100000 in
theorem m6_l10_ReadsFull_c {a0 : Int} {a1 : List UInt8} {r : Bool} (h : m6_l10_ReadsFull a0 a1 = some r) : CallsA Try.prog 6 [.one (.i .i64 a0), .one (.sl a1.length (a1.flatMap eU8))] (· = .s (.one (.b r))) := by
  unfold m6_l10_ReadsFull at h
  refine callsA_of Try.func6 rfl (nt := 109) rfl (Nat.le_of_ble_eq_true rfl) ?_
  intro w0 S0
  refine cseq ?_
  refine cregion ?_
  refine sv rfl (opv_as rfl) ?_
  refine snil ?_
  refine cseq ?_
  refine cregion ?_
  obtain ⟨v1, hv1, h⟩ := bind_eq h
  refine scall1 rfl fn8 opnds_nil (pubA_id rfl) (m8_l10_awake_c hv1) ?_
  refine sv rfl (opv_as rfl) ?_
  refine snil ?_
  refine cseq ?_
  refine cseq ?_
  refine cjoin3 (Unit) (fun b2 => [(0, .s (.one (.i .i64 a0))), (1, .s (.one (.sl a1.length (a1.flatMap eU8)))), (5, .s (.one (.b v1)))]) (fun b2 => []) (fun b2 => m6_l10_ReadsFull_k2 a0 a1 v1 b2 = some r) (fun _ _ => inbL_of rfl) (fun _ _ => blkinb_of rfl) (fun _ _ => Nat.le_of_ble_eq_true rfl) (fun b2 h => ?_) ?_
  · unfold m6_l10_ReadsFull_k2 at h
    refine cseq ?_
    refine cregion ?_
    refine sv rfl (opv_build zi34 pi34 parts_nil (.nil _)) ?_
    refine salloc rfl zi34 ?_
    refine sstore sz34 rfl rfl rfl rfl (Nat.le_of_ble_eq_true rfl) ?_
    refine smem [.box [.raw (.slice none 0 0)]] rfl ?_
    refine snil ?_
    refine cseq ?_
    refine cseq ?_
    refine cregion ?_
    refine sv rfl (opv_as rfl) ?_
    refine snil ?_
    refine cjoin ((List GReadsRead)) (fun b3 => [(0, .s (.one (.i .i64 a0))), (1, .s (.one (.sl a1.length (a1.flatMap eU8)))), (5, .s (.one (.b v1))), (6, .s (.one (.lp 0 0)))]) (fun b3 => [.box [.sl b3.length (b3.flatMap eGReadsRead)]]) (fun b3 => m6_l10_ReadsFull_k3 a0 a1 v1 b3 = some r) (fun _ _ => inbL_of rfl) (fun _ _ => blkinb_of rfl) (fun _ _ => Nat.le_of_ble_eq_true rfl) (fun b3 h => ?_) ?_
    · unfold m6_l10_ReadsFull_k3 at h
      refine cseq ?_
      refine cregion ?_
      refine sv rfl (opv_mv rfl) ?_
      refine sv rfl (opv_and rfl rfl) ?_
      refine sv rfl (opv_as rfl) ?_
      refine snil ?_
      refine cseq ?_
      refine chole ?_
      obtain ⟨v4, hv4, h⟩ := bind_eq h
      obtain ⟨v5, hv5, h⟩ := bind_eq h
      refine cdraw_e [7, 8] [0, 0, 2, 7, 15, 31, 31, 0, 191, 511] [[.box [.sl b3.length (b3.flatMap eGReadsRead)], .hole], [.box [.sl b3.length (b3.flatMap eGReadsRead)], .box [.raw (.slice none 0 0)]], [.box [.sl b3.length (b3.flatMap eGReadsRead)], .box [.sl v5.1.L.length (v5.1.L.flatMap eGReadsRead)]]] (by kernel_rfl) mixed (by kernel_rfl) (by decide) rfl rfl rfl rfl ?_
      refine ev (sees_all (md := [.box [.sl b3.length (b3.flatMap eGReadsRead)], .dead]) ⟨⟨rfl, ⟨trivial, trivial⟩⟩, ⟨⟨rfl, ⟨trivial, trivial⟩⟩, ⟨⟨rfl, ⟨trivial, trivial⟩⟩, trivial⟩⟩⟩) rfl rfl (opv_loadN ti34 rfl (.lp _ _ _ rfl) (Nat.le_of_ble_eq_true rfl)) ?_
      refine emv rfl rfl (fun _ => opv_mv rfl) ?_
      refine ed (sees_all (md := [.box [.sl b3.length (b3.flatMap eGReadsRead)], .dead]) ⟨⟨rfl, ⟨trivial, trivial⟩⟩, ⟨⟨rfl, ⟨trivial, trivial⟩⟩, ⟨⟨rfl, ⟨trivial, trivial⟩⟩, trivial⟩⟩⟩) rfl rfl (opD_call fn31 (opnds_cons rfl opnds_nil) rfl (m31_r06_One_c hv4)) ?_
      refine ed (sees_all (md := [.box [.sl b3.length (b3.flatMap eGReadsRead)], .dead]) ⟨⟨rfl, ⟨trivial, trivial⟩⟩, ⟨⟨rfl, ⟨trivial, trivial⟩⟩, ⟨⟨rfl, ⟨trivial, trivial⟩⟩, trivial⟩⟩⟩) rfl rfl (opD_call fn12 (opnds_cons rfl (opnds_cons rfl (opnds_cons rfl opnds_nil))) rfl (m12_reads_Add_c hv5)) ?_
      refine emv rfl rfl (fun _ => opv_mvt rfl) ?_
      refine ev (sees_all (md := [.box [.sl b3.length (b3.flatMap eGReadsRead)], .dead]) ⟨⟨rfl, ⟨trivial, trivial⟩⟩, ⟨⟨rfl, ⟨trivial, trivial⟩⟩, ⟨⟨rfl, ⟨trivial, trivial⟩⟩, trivial⟩⟩⟩) rfl rfl (opv_extract rfl rfl) ?_
      refine ev (sees_all (md := [.box [.sl b3.length (b3.flatMap eGReadsRead)], .dead]) ⟨⟨rfl, ⟨trivial, trivial⟩⟩, ⟨⟨rfl, ⟨trivial, trivial⟩⟩, ⟨⟨rfl, ⟨trivial, trivial⟩⟩, trivial⟩⟩⟩) rfl rfl (opv_extract rfl rfl) ?_
      refine ee (x := .s (.one (.lp 1 0))) 0 rfl rfl rfl rfl rfl (fun ζ => ?_) ?_
      · refine salloc_at 1 rfl zi34 rfl ?_
        exact eend
      refine ee0 1 rfl rfl rfl rfl (fun ζ => ?_) ?_
      · refine sstore sz34 rfl rfl rfl rfl (Nat.le_of_ble_eq_true rfl) ?_
        refine smem [.box [.sl b3.length (b3.flatMap eGReadsRead)], .box [.sl v5.1.L.length (v5.1.L.flatMap eGReadsRead)]] rfl ?_
        exact eend
      refine ev (sees_at 2 rfl rfl) rfl rfl (opv_as rfl) ?_
      refine enil ?_
      refine then_normal ?_
      refine cseq ?_
      refine chole ?_
      obtain ⟨v6, hv6, h⟩ := bind_eq h
      obtain ⟨v7, hv7, h⟩ := bind_eq h
      refine cdraw_e [8, 9] [0, 0, 0, 4, 15, 31, 63, 63, 0, 383, 1023] [[.box [.sl b3.length (b3.flatMap eGReadsRead)], .box [.sl v5.1.L.length (v5.1.L.flatMap eGReadsRead)], .hole], [.box [.sl b3.length (b3.flatMap eGReadsRead)], .box [.sl v5.1.L.length (v5.1.L.flatMap eGReadsRead)], .box [.raw (.slice none 0 0)]], [.box [.sl b3.length (b3.flatMap eGReadsRead)], .box [.sl v5.1.L.length (v5.1.L.flatMap eGReadsRead)], .box [.sl v7.1.L.length (v7.1.L.flatMap eGReadsRead)]]] (by kernel_rfl) mixed (by kernel_rfl) (by decide) rfl rfl rfl rfl ?_
      refine ev (sees_all (md := [.box [.sl b3.length (b3.flatMap eGReadsRead)], .box [.sl v5.1.L.length (v5.1.L.flatMap eGReadsRead)], .dead]) ⟨⟨rfl, ⟨rfl, ⟨trivial, trivial⟩⟩⟩, ⟨⟨rfl, ⟨rfl, ⟨trivial, trivial⟩⟩⟩, ⟨⟨rfl, ⟨rfl, ⟨trivial, trivial⟩⟩⟩, trivial⟩⟩⟩) rfl rfl (opv_loadN ti34 rfl (.lp _ _ _ rfl) (Nat.le_of_ble_eq_true rfl)) ?_
      refine emv rfl rfl (fun _ => opv_mv rfl) ?_
      refine emv rfl rfl (fun _ => opv_mv rfl) ?_
      refine ed (sees_all (md := [.box [.sl b3.length (b3.flatMap eGReadsRead)], .box [.sl v5.1.L.length (v5.1.L.flatMap eGReadsRead)], .dead]) ⟨⟨rfl, ⟨rfl, ⟨trivial, trivial⟩⟩⟩, ⟨⟨rfl, ⟨rfl, ⟨trivial, trivial⟩⟩⟩, ⟨⟨rfl, ⟨rfl, ⟨trivial, trivial⟩⟩⟩, trivial⟩⟩⟩) rfl rfl (opD_call fn31 (opnds_cons rfl opnds_nil) rfl (m31_r06_One_c hv6)) ?_
      refine ed (sees_all (md := [.box [.sl b3.length (b3.flatMap eGReadsRead)], .box [.sl v5.1.L.length (v5.1.L.flatMap eGReadsRead)], .dead]) ⟨⟨rfl, ⟨rfl, ⟨trivial, trivial⟩⟩⟩, ⟨⟨rfl, ⟨rfl, ⟨trivial, trivial⟩⟩⟩, ⟨⟨rfl, ⟨rfl, ⟨trivial, trivial⟩⟩⟩, trivial⟩⟩⟩) rfl rfl (opD_call fn12 (opnds_cons rfl (opnds_cons rfl (opnds_cons rfl opnds_nil))) rfl (m12_reads_Add_c hv7)) ?_
      refine emv rfl rfl (fun _ => opv_mvt rfl) ?_
      refine ev (sees_all (md := [.box [.sl b3.length (b3.flatMap eGReadsRead)], .box [.sl v5.1.L.length (v5.1.L.flatMap eGReadsRead)], .dead]) ⟨⟨rfl, ⟨rfl, ⟨trivial, trivial⟩⟩⟩, ⟨⟨rfl, ⟨rfl, ⟨trivial, trivial⟩⟩⟩, ⟨⟨rfl, ⟨rfl, ⟨trivial, trivial⟩⟩⟩, trivial⟩⟩⟩) rfl rfl (opv_extract rfl rfl) ?_
      refine ev (sees_all (md := [.box [.sl b3.length (b3.flatMap eGReadsRead)], .box [.sl v5.1.L.length (v5.1.L.flatMap eGReadsRead)], .dead]) ⟨⟨rfl, ⟨rfl, ⟨trivial, trivial⟩⟩⟩, ⟨⟨rfl, ⟨rfl, ⟨trivial, trivial⟩⟩⟩, ⟨⟨rfl, ⟨rfl, ⟨trivial, trivial⟩⟩⟩, trivial⟩⟩⟩) rfl rfl (opv_extract rfl rfl) ?_
      refine ee (x := .s (.one (.lp 2 0))) 0 rfl rfl rfl rfl rfl (fun ζ => ?_) ?_
      · refine salloc_at 2 rfl zi34 rfl ?_
        exact eend
      refine ee0 1 rfl rfl rfl rfl (fun ζ => ?_) ?_
      · refine sstore sz34 rfl rfl rfl rfl (Nat.le_of_ble_eq_true rfl) ?_
        refine smem [.box [.sl b3.length (b3.flatMap eGReadsRead)], .box [.sl v5.1.L.length (v5.1.L.flatMap eGReadsRead)], .box [.sl v7.1.L.length (v7.1.L.flatMap eGReadsRead)]] rfl ?_
        exact eend
      refine ev (sees_at 2 rfl rfl) rfl rfl (opv_as rfl) ?_
      refine enil ?_
      refine then_normal ?_
      refine cseq ?_
      refine cregion ?_
      refine sv rfl (opv_loadN ti34 rfl (.lp _ _ _ rfl) (Nat.le_of_ble_eq_true rfl)) ?_
      refine sv rfl (opv_mv rfl) ?_
      refine sbuild1 rfl Try.underlying28 ei3 rfl rfl (List.all_eq_true.1 rfl) (by decide) ?_
      refine smem [.box [.sl b3.length (b3.flatMap eGReadsRead)], .box [.sl v5.1.L.length (v5.1.L.flatMap eGReadsRead)], .box [.sl v7.1.L.length (v7.1.L.flatMap eGReadsRead)], .arr 3 1 0 ([(wI ((BitVec.ofInt 64 a0 &&& BitVec.ofInt 64 127).toNat : Int))].flatMap eI)] rfl ?_
      refine spub 63 rfl (by (repeat' first | exact PubA.nil _ | apply PubA.cons | apply PubV.one | apply PubV.agg | exact PubL.nil | exact PubL.ls _ _ _ _ _ _ rfl (flat_len (f := eI) (fun _ => rfl) ([(wI ((BitVec.ofInt 64 a0 &&& BitVec.ofInt 64 127).toNat : Int))] : List Int)).symm | exact PubL.ls _ _ _ _ _ _ rfl (flat_len (f := eI) (fun _ => rfl) _).symm | exact PubL.id _ rfl | exact PubLs.nil _ | apply PubLs.cons)) ?_
      obtain ⟨v8, hv8, h⟩ := bind_eq h
      refine scall1 rfl fn21 (opnds_cons rfl (opnds_cons rfl opnds_nil)) (pubA_id rfl) (m21_reads_Drop_c hv8) ?_
      refine sv rfl (opv_mv rfl) ?_
      obtain ⟨v9, hv9, h⟩ := bind_eq h
      refine scall1 rfl fn31 (opnds_cons rfl opnds_nil) (pubA_id rfl) (m31_r06_One_c hv9) ?_
      obtain ⟨v10, hv10, h⟩ := bind_eq h
      refine scall1 rfl fn12 (opnds_cons rfl (opnds_cons rfl (opnds_cons rfl opnds_nil))) (pubA_id rfl) (m12_reads_Add_c hv10) ?_
      refine sv rfl (opv_mvt rfl) ?_
      refine sv rfl (opv_extract rfl rfl) ?_
      refine sv rfl (opv_extract rfl rfl) ?_
      refine salloc rfl zi34 ?_
      refine sstore sz34 rfl rfl rfl rfl (Nat.le_of_ble_eq_true rfl) ?_
      refine smem [.box [.sl b3.length (b3.flatMap eGReadsRead)], .box [.sl v5.1.L.length (v5.1.L.flatMap eGReadsRead)], .box [.sl v7.1.L.length (v7.1.L.flatMap eGReadsRead)], .arr 3 1 ([(wI ((BitVec.ofInt 64 a0 &&& BitVec.ofInt 64 127).toNat : Int))].flatMap eI).length ([(wI ((BitVec.ofInt 64 a0 &&& BitVec.ofInt 64 127).toNat : Int))].flatMap eI), .box [.sl v10.1.L.length (v10.1.L.flatMap eGReadsRead)]] rfl ?_
      refine sv rfl (opv_as rfl) ?_
      refine snil ?_
      refine cseq ?_
      refine cregion ?_
      refine sv rfl (opv_mv rfl) ?_
      refine sv rfl (opv_mv rfl) ?_
      refine ssplit 71 rfl (fun hc => ?_) (fun hc => ?_)
      · replace h := ite_t hc h
        clear hc
        refine son rfl rfl rfl ?_
        refine sv rfl (opv_mv rfl) ?_
        refine son rfl rfl rfl ?_
        refine sv rfl (opv_ieql rfl rfl) ?_
        refine sv rfl (opv_pick_t rfl rfl) ?_
        refine sv rfl (opv_mv rfl) ?_
        refine ssplit 75 rfl (fun hc => ?_) (fun hc => ?_)
        · replace h := ite_t hc h
          clear hc
          refine son rfl rfl rfl ?_
          refine sv rfl (opv_mv rfl) ?_
          refine son rfl rfl rfl ?_
          refine sv rfl (opv_ieql rfl rfl) ?_
          refine sv rfl (opv_pick_t rfl rfl) ?_
          refine sv rfl (opv_mv rfl) ?_
          refine ssplit 79 rfl (fun hc => ?_) (fun hc => ?_)
          · replace h := ite_t hc h
            clear hc
            refine son rfl rfl rfl ?_
            refine sv rfl (opv_fieldAddr_lp fi34_0 rfl) ?_
            refine son rfl rfl rfl ?_
            refine sv rfl (opv_load1 ti32 rfl (.lp _ _ _ rfl) rfl) ?_
            refine son rfl rfl rfl ?_
            refine sv rfl (opv_len_sl si32 rfl) ?_
            refine son rfl rfl rfl ?_
            refine sv rfl (opv_ieql rfl rfl) ?_
            refine sv rfl (opv_pick_t rfl rfl) ?_
            refine sv rfl (opv_mv rfl) ?_
            refine ssplit 85 rfl (fun hc => ?_) (fun hc => ?_)
            · replace h := ite_t hc h
              clear hc
              refine son rfl rfl rfl ?_
              refine sv rfl (opv_mv rfl) ?_
              refine son rfl rfl rfl ?_
              refine sv rfl (opv_ieql rfl rfl) ?_
              refine sv rfl (opv_pick_t rfl rfl) ?_
              refine sv rfl (opv_mv rfl) ?_
              refine ssplit 89 rfl (fun hc => ?_) (fun hc => ?_)
              · replace h := ite_t hc h
                clear hc
                refine son rfl rfl rfl ?_
                refine sv rfl (opv_fieldAddr_lp fi34_0 rfl) ?_
                refine son rfl rfl rfl ?_
                refine sv rfl (opv_load1 ti32 rfl (.lp _ _ _ rfl) rfl) ?_
                refine son rfl rfl rfl ?_
                refine sv rfl (opv_len_sl si32 rfl) ?_
                refine son rfl rfl rfl ?_
                refine sv rfl (opv_ieql rfl rfl) ?_
                refine sv rfl (opv_pick_t rfl rfl) ?_
                refine sv rfl (opv_mv rfl) ?_
                refine ssplit 95 rfl (fun hc => ?_) (fun hc => ?_)
                · replace h := ite_t hc h
                  clear hc
                  refine son rfl rfl rfl ?_
                  refine sv rfl (opv_loadN ti34 rfl (.lp _ _ _ rfl) (Nat.le_of_ble_eq_true rfl)) ?_
                  refine son rfl rfl rfl ?_
                  refine sv rfl (opv_mv rfl) ?_
                  refine son rfl rfl rfl ?_
                  obtain ⟨v11, hv11, h⟩ := bind_eq h
                  refine scall1 rfl fn19 (opnds_cons rfl (opnds_cons rfl opnds_nil)) (pubA_id rfl) (m19_reads_Hits_c hv11) ?_
                  refine son rfl rfl rfl ?_
                  refine sv rfl (opv_len_sl si28 rfl) ?_
                  refine son rfl rfl rfl ?_
                  refine sv rfl (opv_ieql rfl rfl) ?_
                  refine sv rfl (opv_pick_t rfl rfl) ?_
                  refine sv rfl (opv_mv rfl) ?_
                  refine ssplit 102 rfl (fun hc => ?_) (fun hc => ?_)
                  · replace h := ite_t hc h
                    clear hc
                    refine son rfl rfl rfl ?_
                    refine sv rfl (opv_loadN ti34 rfl (.lp _ _ _ rfl) (Nat.le_of_ble_eq_true rfl)) ?_
                    refine son rfl rfl rfl ?_
                    refine sv rfl (opv_mv rfl) ?_
                    refine son rfl rfl rfl ?_
                    obtain ⟨v12, hv12, h⟩ := bind_eq h
                    refine scall1 rfl fn19 (opnds_cons rfl (opnds_cons rfl opnds_nil)) (pubA_id rfl) (m19_reads_Hits_c hv12) ?_
                    refine son rfl rfl rfl ?_
                    refine sv rfl (opv_len_sl si28 rfl) ?_
                    refine son rfl rfl rfl ?_
                    refine sv rfl (opv_ieql rfl rfl) ?_
                    refine sv rfl (opv_pick_t rfl rfl) ?_
                    refine sv rfl (opv_as rfl) ?_
                    refine snil ?_
                    refine cret ?_
                    obtain rfl := Option.some.inj h
                    refine ⟨Or.inr rfl, _, _, _, (resVs_cons (ResV.tmp _ _ rfl) resVs_nil), (pubA_id rfl), ?_⟩
                    rfl
                  · replace h := ite_f hc h
                    clear hc
                    refine soff rfl rfl rfl rfl ?_
                    refine soff rfl rfl rfl rfl ?_
                    refine soff rfl rfl rfl rfl ?_
                    refine soff rfl rfl rfl rfl ?_
                    refine soff rfl rfl rfl rfl ?_
                    refine sv rfl (opv_pick_f rfl rfl) ?_
                    refine sv rfl (opv_as rfl) ?_
                    refine snil ?_
                    refine cret ?_
                    obtain rfl := Option.some.inj h
                    refine ⟨Or.inr rfl, _, _, _, (resVs_cons (ResV.tmp _ _ rfl) resVs_nil), (pubA_id rfl), ?_⟩
                    rfl
                · replace h := ite_f hc h
                  clear hc
                  refine soff rfl rfl rfl rfl ?_
                  refine soff rfl rfl rfl rfl ?_
                  refine soff rfl rfl rfl rfl ?_
                  refine soff rfl rfl rfl rfl ?_
                  refine soff rfl rfl rfl rfl ?_
                  refine sv rfl (opv_pick_f rfl rfl) ?_
                  refine sv rfl (opv_mv rfl) ?_
                  refine soff rfl rfl rfl rfl ?_
                  refine soff rfl rfl rfl rfl ?_
                  refine soff rfl rfl rfl rfl ?_
                  refine soff rfl rfl rfl rfl ?_
                  refine soff rfl rfl rfl rfl ?_
                  refine sv rfl (opv_pick_f rfl rfl) ?_
                  refine sv rfl (opv_as rfl) ?_
                  refine snil ?_
                  refine cret ?_
                  obtain rfl := Option.some.inj h
                  refine ⟨Or.inr rfl, _, _, _, (resVs_cons (ResV.tmp _ _ rfl) resVs_nil), (pubA_id rfl), ?_⟩
                  rfl
              · replace h := ite_f hc h
                clear hc
                refine soff rfl rfl rfl rfl ?_
                refine soff rfl rfl rfl rfl ?_
                refine soff rfl rfl rfl rfl ?_
                refine soff rfl rfl rfl rfl ?_
                refine sv rfl (opv_pick_f rfl rfl) ?_
                refine sv rfl (opv_mv rfl) ?_
                refine soff rfl rfl rfl rfl ?_
                refine soff rfl rfl rfl rfl ?_
                refine soff rfl rfl rfl rfl ?_
                refine soff rfl rfl rfl rfl ?_
                refine soff rfl rfl rfl rfl ?_
                refine sv rfl (opv_pick_f rfl rfl) ?_
                refine sv rfl (opv_mv rfl) ?_
                refine soff rfl rfl rfl rfl ?_
                refine soff rfl rfl rfl rfl ?_
                refine soff rfl rfl rfl rfl ?_
                refine soff rfl rfl rfl rfl ?_
                refine soff rfl rfl rfl rfl ?_
                refine sv rfl (opv_pick_f rfl rfl) ?_
                refine sv rfl (opv_as rfl) ?_
                refine snil ?_
                refine cret ?_
                obtain rfl := Option.some.inj h
                refine ⟨Or.inr rfl, _, _, _, (resVs_cons (ResV.tmp _ _ rfl) resVs_nil), (pubA_id rfl), ?_⟩
                rfl
            · replace h := ite_f hc h
              clear hc
              refine soff rfl rfl rfl rfl ?_
              refine soff rfl rfl rfl rfl ?_
              refine sv rfl (opv_pick_f rfl rfl) ?_
              refine sv rfl (opv_mv rfl) ?_
              refine soff rfl rfl rfl rfl ?_
              refine soff rfl rfl rfl rfl ?_
              refine soff rfl rfl rfl rfl ?_
              refine soff rfl rfl rfl rfl ?_
              refine sv rfl (opv_pick_f rfl rfl) ?_
              refine sv rfl (opv_mv rfl) ?_
              refine soff rfl rfl rfl rfl ?_
              refine soff rfl rfl rfl rfl ?_
              refine soff rfl rfl rfl rfl ?_
              refine soff rfl rfl rfl rfl ?_
              refine soff rfl rfl rfl rfl ?_
              refine sv rfl (opv_pick_f rfl rfl) ?_
              refine sv rfl (opv_mv rfl) ?_
              refine soff rfl rfl rfl rfl ?_
              refine soff rfl rfl rfl rfl ?_
              refine soff rfl rfl rfl rfl ?_
              refine soff rfl rfl rfl rfl ?_
              refine soff rfl rfl rfl rfl ?_
              refine sv rfl (opv_pick_f rfl rfl) ?_
              refine sv rfl (opv_as rfl) ?_
              refine snil ?_
              refine cret ?_
              obtain rfl := Option.some.inj h
              refine ⟨Or.inr rfl, _, _, _, (resVs_cons (ResV.tmp _ _ rfl) resVs_nil), (pubA_id rfl), ?_⟩
              rfl
          · replace h := ite_f hc h
            clear hc
            refine soff rfl rfl rfl rfl ?_
            refine soff rfl rfl rfl rfl ?_
            refine soff rfl rfl rfl rfl ?_
            refine soff rfl rfl rfl rfl ?_
            refine sv rfl (opv_pick_f rfl rfl) ?_
            refine sv rfl (opv_mv rfl) ?_
            refine soff rfl rfl rfl rfl ?_
            refine soff rfl rfl rfl rfl ?_
            refine sv rfl (opv_pick_f rfl rfl) ?_
            refine sv rfl (opv_mv rfl) ?_
            refine soff rfl rfl rfl rfl ?_
            refine soff rfl rfl rfl rfl ?_
            refine soff rfl rfl rfl rfl ?_
            refine soff rfl rfl rfl rfl ?_
            refine sv rfl (opv_pick_f rfl rfl) ?_
            refine sv rfl (opv_mv rfl) ?_
            refine soff rfl rfl rfl rfl ?_
            refine soff rfl rfl rfl rfl ?_
            refine soff rfl rfl rfl rfl ?_
            refine soff rfl rfl rfl rfl ?_
            refine soff rfl rfl rfl rfl ?_
            refine sv rfl (opv_pick_f rfl rfl) ?_
            refine sv rfl (opv_mv rfl) ?_
            refine soff rfl rfl rfl rfl ?_
            refine soff rfl rfl rfl rfl ?_
            refine soff rfl rfl rfl rfl ?_
            refine soff rfl rfl rfl rfl ?_
            refine soff rfl rfl rfl rfl ?_
            refine sv rfl (opv_pick_f rfl rfl) ?_
            refine sv rfl (opv_as rfl) ?_
            refine snil ?_
            refine cret ?_
            obtain rfl := Option.some.inj h
            refine ⟨Or.inr rfl, _, _, _, (resVs_cons (ResV.tmp _ _ rfl) resVs_nil), (pubA_id rfl), ?_⟩
            rfl
        · replace h := ite_f hc h
          clear hc
          refine soff rfl rfl rfl rfl ?_
          refine soff rfl rfl rfl rfl ?_
          refine sv rfl (opv_pick_f rfl rfl) ?_
          refine sv rfl (opv_mv rfl) ?_
          refine soff rfl rfl rfl rfl ?_
          refine soff rfl rfl rfl rfl ?_
          refine soff rfl rfl rfl rfl ?_
          refine soff rfl rfl rfl rfl ?_
          refine sv rfl (opv_pick_f rfl rfl) ?_
          refine sv rfl (opv_mv rfl) ?_
          refine soff rfl rfl rfl rfl ?_
          refine soff rfl rfl rfl rfl ?_
          refine sv rfl (opv_pick_f rfl rfl) ?_
          refine sv rfl (opv_mv rfl) ?_
          refine soff rfl rfl rfl rfl ?_
          refine soff rfl rfl rfl rfl ?_
          refine soff rfl rfl rfl rfl ?_
          refine soff rfl rfl rfl rfl ?_
          refine sv rfl (opv_pick_f rfl rfl) ?_
          refine sv rfl (opv_mv rfl) ?_
          refine soff rfl rfl rfl rfl ?_
          refine soff rfl rfl rfl rfl ?_
          refine soff rfl rfl rfl rfl ?_
          refine soff rfl rfl rfl rfl ?_
          refine soff rfl rfl rfl rfl ?_
          refine sv rfl (opv_pick_f rfl rfl) ?_
          refine sv rfl (opv_mv rfl) ?_
          refine soff rfl rfl rfl rfl ?_
          refine soff rfl rfl rfl rfl ?_
          refine soff rfl rfl rfl rfl ?_
          refine soff rfl rfl rfl rfl ?_
          refine soff rfl rfl rfl rfl ?_
          refine sv rfl (opv_pick_f rfl rfl) ?_
          refine sv rfl (opv_as rfl) ?_
          refine snil ?_
          refine cret ?_
          obtain rfl := Option.some.inj h
          refine ⟨Or.inr rfl, _, _, _, (resVs_cons (ResV.tmp _ _ rfl) resVs_nil), (pubA_id rfl), ?_⟩
          rfl
      · replace h := ite_f hc h
        clear hc
        refine soff rfl rfl rfl rfl ?_
        refine soff rfl rfl rfl rfl ?_
        refine sv rfl (opv_pick_f rfl rfl) ?_
        refine sv rfl (opv_mv rfl) ?_
        refine soff rfl rfl rfl rfl ?_
        refine soff rfl rfl rfl rfl ?_
        refine sv rfl (opv_pick_f rfl rfl) ?_
        refine sv rfl (opv_mv rfl) ?_
        refine soff rfl rfl rfl rfl ?_
        refine soff rfl rfl rfl rfl ?_
        refine soff rfl rfl rfl rfl ?_
        refine soff rfl rfl rfl rfl ?_
        refine sv rfl (opv_pick_f rfl rfl) ?_
        refine sv rfl (opv_mv rfl) ?_
        refine soff rfl rfl rfl rfl ?_
        refine soff rfl rfl rfl rfl ?_
        refine sv rfl (opv_pick_f rfl rfl) ?_
        refine sv rfl (opv_mv rfl) ?_
        refine soff rfl rfl rfl rfl ?_
        refine soff rfl rfl rfl rfl ?_
        refine soff rfl rfl rfl rfl ?_
        refine soff rfl rfl rfl rfl ?_
        refine sv rfl (opv_pick_f rfl rfl) ?_
        refine sv rfl (opv_mv rfl) ?_
        refine soff rfl rfl rfl rfl ?_
        refine soff rfl rfl rfl rfl ?_
        refine soff rfl rfl rfl rfl ?_
        refine soff rfl rfl rfl rfl ?_
        refine soff rfl rfl rfl rfl ?_
        refine sv rfl (opv_pick_f rfl rfl) ?_
        refine sv rfl (opv_mv rfl) ?_
        refine soff rfl rfl rfl rfl ?_
        refine soff rfl rfl rfl rfl ?_
        refine soff rfl rfl rfl rfl ?_
        refine soff rfl rfl rfl rfl ?_
        refine soff rfl rfl rfl rfl ?_
        refine sv rfl (opv_pick_f rfl rfl) ?_
        refine sv rfl (opv_as rfl) ?_
        refine snil ?_
        refine cret ?_
        obtain rfl := Option.some.inj h
        refine ⟨Or.inr rfl, _, _, _, (resVs_cons (ResV.tmp _ _ rfl) resVs_nil), (pubA_id rfl), ?_⟩
        rfl
    · skip
      refine cblock ?_
      refine cpubbox 0 0 rfl rfl PubL.nil rfl ?_
      obtain ⟨x13, hx13, ho13⟩ := bind_eq h
      refine awc_loop (G := Nat × (Int × (List GReadsRead))) (fun g => [(0, .s (.one (.i .i64 a0))), (1, .s (.one (.sl a1.length (a1.flatMap eU8)))), (5, .s (.one (.b v1))), (6, .s (.one (.lp 0 0))), (7, .s (.one (.i .i64 g.2.1)))]) (fun g => [.box [.sl g.2.2.length (g.2.2.flatMap eGReadsRead)]]) (fun g => iter (m6_l10_ReadsFull_s13 a1) g.1 g.2 = some x13) (fun g => g.1) (fuel, (0, ([] : List GReadsRead))) hx13 ⟨rfl, rfl, rfl, rfl, rfl, trivial⟩ [] rfl (fun _ _ => inbL_of rfl) (fun _ _ => blkinb_of rfl) (fun _ _ => Nat.le_of_ble_eq_true rfl) ?_
      clear hx13 h
      rintro ⟨n13, s13⟩ h
      obtain ⟨n13, y13, rfl, h, hk13⟩ := iter_eq h
      unfold m6_l10_ReadsFull_s13 at h
      refine cseq ?_
      refine cseq ?_
      refine cregion ?_
      refine sv rfl (opv_mv rfl) ?_
      refine sv rfl (opv_lss rfl rfl) ?_
      refine snil ?_
      refine ccond rfl (fun hc => ?_) (fun hc => ?_)
      · replace h := ite_t hc h
        clear hc
        refine cskip ?_
        refine then_normal ?_
        refine cseq ?_
        refine cblock ?_
        refine cseq ?_
        refine chole ?_
        obtain ⟨v14, hv14, h⟩ := bind_eq h
        obtain ⟨v15, hv15, h⟩ := bind_eq h
        refine cdraw_e [8, 9] [0, 0, 0, 4, 15, 31, 63, 63, 0, 383, 1023] [[.box [.sl s13.2.length (s13.2.flatMap eGReadsRead)], .hole], [.box [.sl s13.2.length (s13.2.flatMap eGReadsRead)], .box [.raw (.slice none 0 0)]], [.box [.sl s13.2.length (s13.2.flatMap eGReadsRead)], .box [.sl v15.1.L.length (v15.1.L.flatMap eGReadsRead)]]] (by kernel_rfl) mixed (by kernel_rfl) (by decide) rfl rfl rfl rfl ?_
        refine ev (sees_all (md := [.box [.sl s13.2.length (s13.2.flatMap eGReadsRead)], .dead]) ⟨⟨rfl, ⟨trivial, trivial⟩⟩, ⟨⟨rfl, ⟨trivial, trivial⟩⟩, ⟨⟨rfl, ⟨trivial, trivial⟩⟩, trivial⟩⟩⟩) rfl rfl (opv_loadN ti34 rfl (.lp _ _ _ rfl) (Nat.le_of_ble_eq_true rfl)) ?_
        refine emv rfl rfl (fun _ => opv_mv rfl) ?_
        refine emv rfl rfl (fun _ => opv_mv rfl) ?_
        refine ed (sees_all (md := [.box [.sl s13.2.length (s13.2.flatMap eGReadsRead)], .dead]) ⟨⟨rfl, ⟨trivial, trivial⟩⟩, ⟨⟨rfl, ⟨trivial, trivial⟩⟩, ⟨⟨rfl, ⟨trivial, trivial⟩⟩, trivial⟩⟩⟩) rfl rfl (opD_call fn31 (opnds_cons rfl opnds_nil) rfl (m31_r06_One_c hv14)) ?_
        refine ed (sees_all (md := [.box [.sl s13.2.length (s13.2.flatMap eGReadsRead)], .dead]) ⟨⟨rfl, ⟨trivial, trivial⟩⟩, ⟨⟨rfl, ⟨trivial, trivial⟩⟩, ⟨⟨rfl, ⟨trivial, trivial⟩⟩, trivial⟩⟩⟩) rfl rfl (opD_call fn12 (opnds_cons rfl (opnds_cons rfl (opnds_cons rfl opnds_nil))) rfl (m12_reads_Add_c hv15)) ?_
        refine emv rfl rfl (fun _ => opv_mvt rfl) ?_
        refine ev (sees_all (md := [.box [.sl s13.2.length (s13.2.flatMap eGReadsRead)], .dead]) ⟨⟨rfl, ⟨trivial, trivial⟩⟩, ⟨⟨rfl, ⟨trivial, trivial⟩⟩, ⟨⟨rfl, ⟨trivial, trivial⟩⟩, trivial⟩⟩⟩) rfl rfl (opv_extract rfl rfl) ?_
        refine ev (sees_all (md := [.box [.sl s13.2.length (s13.2.flatMap eGReadsRead)], .dead]) ⟨⟨rfl, ⟨trivial, trivial⟩⟩, ⟨⟨rfl, ⟨trivial, trivial⟩⟩, ⟨⟨rfl, ⟨trivial, trivial⟩⟩, trivial⟩⟩⟩) rfl rfl (opv_extract rfl rfl) ?_
        refine ee (x := .s (.one (.lp 1 0))) 0 rfl rfl rfl rfl rfl (fun ζ => ?_) ?_
        · refine salloc_at 1 rfl zi34 rfl ?_
          exact eend
        refine ee0 1 rfl rfl rfl rfl (fun ζ => ?_) ?_
        · refine sstore sz34 rfl rfl rfl rfl (Nat.le_of_ble_eq_true rfl) ?_
          refine smem [.box [.sl s13.2.length (s13.2.flatMap eGReadsRead)], .box [.sl v15.1.L.length (v15.1.L.flatMap eGReadsRead)]] rfl ?_
          exact eend
        refine ev (sees_at 2 rfl rfl) rfl rfl (opv_as rfl) ?_
        refine enil ?_
        refine then_normal ?_
        refine cseq ?_
        refine cseq ?_
        refine cregion ?_
        refine sv rfl (opv_mv rfl) ?_
        refine sv rfl (opv_ineq rfl rfl) ?_
        refine snil ?_
        refine ccond rfl (fun hc => ?_) (fun hc => ?_)
        · replace h := ite_t hc h
          clear hc
          refine cseq ?_
          refine cregion ?_
          refine sv rfl (opv_as rfl) ?_
          refine snil ?_
          refine cret ?_
          refine then_ret ?_
          refine block_ret ?_
          refine then_ret ?_
          refine then_ret ?_
          refine block_ret ?_
          refine then_ret ?_
          obtain rfl := Option.some.inj h
          obtain rfl : Sum.inl _ = x13 := hk13
          replace ho13 : some _ = some _ := ho13
          obtain rfl := Option.some.inj ho13
          refine ⟨Or.inr rfl, _, _, _, (resVs_cons (ResV.tmp _ _ rfl) resVs_nil), (pubA_id rfl), ?_⟩
          rfl
        · replace h := ite_f hc h
          clear hc
          refine cskip ?_
          refine then_normal ?_
          refine cregion ?_
          refine sv rfl (opv_loadN ti34 rfl (.lp _ _ _ rfl) (Nat.le_of_ble_eq_true rfl)) ?_
          refine sstore sz34 rfl rfl rfl rfl (Nat.le_of_ble_eq_true rfl) ?_
          refine smem [.box [.sl v15.1.L.length (v15.1.L.flatMap eGReadsRead)], .box [.sl v15.1.L.length (v15.1.L.flatMap eGReadsRead)]] rfl ?_
          refine snil0 ?_
          refine block_normal ?_
          refine then_normal ?_
          refine cregion ?_
          refine sv rfl (opv_mv rfl) ?_
          refine sv rfl (opv_add rfl rfl) ?_
          refine sv rfl (opv_as rfl) ?_
          refine snil ?_
          obtain rfl := Option.some.inj h
          exact ⟨(n13, ((wI (s13.1 + 1)), v15.1.L)), _, hk13, ⟨rfl, rfl, rfl, rfl, rfl, trivial⟩, rfl, Nat.lt_succ_self _⟩
      · replace h := ite_f hc h
        clear hc
        refine cexit ?_
        refine then_exit ?_
        refine then_exit ?_
        refine block_hit ?_
        refine then_normal ?_
        obtain rfl := Option.some.inj h
        obtain rfl : _ = x13 := hk13
        exact ⟨s13.2, _, ho13, ⟨rfl, rfl, rfl, rfl, trivial⟩, rfl⟩
  · skip
    refine cregion ?_
    refine sv rfl (opv_mv rfl) ?_
    refine sv rfl (opv_len_sl si25 rfl) ?_
    refine sv rfl (opv_lss rfl rfl) ?_
    refine sv rfl (opv_mv rfl) ?_
    refine ssplit 21 rfl (fun hc => ?_) (fun hc => ?_)
    · replace h := ite_t hc h
      clear hc
      refine soff rfl rfl rfl rfl ?_
      refine soff rfl rfl rfl rfl ?_
      refine soff rfl rfl rfl rfl ?_
      refine sv rfl (opv_pick_t rfl rfl) ?_
      refine snil ?_
      refine ccond rfl (fun _ => ?_) (fun hx => Bool.noConfusion hx)
      refine cseq ?_
      refine cregion ?_
      refine sv rfl (opv_mv rfl) ?_
      refine sv rfl (opv_as rfl) ?_
      refine snil ?_
      refine cret ?_
      refine then_ret ?_
      obtain rfl := Option.some.inj h
      refine ⟨Or.inr rfl, _, _, _, (resVs_cons (ResV.tmp _ _ rfl) resVs_nil), (pubA_id rfl), ?_⟩
      rfl
    · replace h := ite_f hc h
      clear hc
      refine son rfl rfl rfl ?_
      refine sv rfl (opv_mv rfl) ?_
      refine son rfl rfl rfl ?_
      refine sv rfl (opv_len_sl si25 rfl) ?_
      refine son rfl rfl rfl ?_
      refine sv rfl (opv_gtr rfl rfl) ?_
      refine sv rfl (opv_pick_f rfl rfl) ?_
      refine snil ?_
      refine ccond rfl (fun hc => ?_) (fun hc => ?_)
      · replace h := ite_t hc h
        clear hc
        refine cseq ?_
        refine cregion ?_
        refine sv rfl (opv_mv rfl) ?_
        refine sv rfl (opv_as rfl) ?_
        refine snil ?_
        refine cret ?_
        refine then_ret ?_
        obtain rfl := Option.some.inj h
        refine ⟨Or.inr rfl, _, _, _, (resVs_cons (ResV.tmp _ _ rfl) resVs_nil), (pubA_id rfl), ?_⟩
        rfl
      · replace h := ite_f hc h
        clear hc
        refine cskip ?_
        refine then_normal ?_
        exact ⟨(), _, h, ⟨rfl, rfl, rfl, trivial⟩, rfl⟩

def m7_l10_ReadsOrder_k3 (a0 : List GR10Read) (a1 : List UInt8) (v1 : Bool) (b3 : (List GR10Read)) : Option Bool :=
  (m28_l10_grown a0).bind fun v4 => (m28_l10_grown b3).bind fun v5 => if v1 then ((m19_reads_Hits v4 a1).bind fun v6 => (m19_reads_Hits v5 a1).bind fun v7 => (m18_r10_Ints v6 v7).bind fun v8 => if v8 then (some (decide ((v4.L.length : Int) = (v5.L.length : Int)))) else (some false)) else (some false)

def m7_l10_ReadsOrder_s9 (a0 : List GR10Read) (s9 : Int × (List GR10Read)) : Option (LB (Int × (List GR10Read)) ((List GR10Read))) :=
  if (decide (0 ≤ s9.1)) then ((idx a0 s9.1).bind fun u10 => if (s9.2.length + [(GR10Read.mk u10.Tx (GApiRange.mk u10.Rng.Lo u10.Rng.Hi u10.Rng.Open))].length) * 64 ≤ 140737488355328 then (some (.cont ((wI (s9.1 - 1)), (s9.2 ++ [(GR10Read.mk u10.Tx (GApiRange.mk u10.Rng.Lo u10.Rng.Hi u10.Rng.Open))])))) else none) else (some (.brk s9.2))

def m7_l10_ReadsOrder_k2 (a0 : List GR10Read) (a1 : List UInt8) (v1 : Bool) (b2 : Unit) : Option Bool :=
  (iterB (m7_l10_ReadsOrder_s9 a0) fuel ((wI ((a0.length : Int) - 1)), ([] : List GR10Read))).bind fun e12 => m7_l10_ReadsOrder_k3 a0 a1 v1 e12
def m7_l10_ReadsOrder (a0 : List GR10Read) (a1 : List UInt8) : Option Bool :=
  (m8_l10_awake).bind fun v1 => (m9_r10_Few (GR10Table.mk a0)).bind fun v13 => if (!v13) then (some v1) else (if (decide (100 < (a0.length : Int))) then (some v1) else (if (decide (50 < (a1.length : Int))) then (some v1) else (m7_l10_ReadsOrder_k2 a0 a1 v1 ())))

set_option maxRecDepth 100000 in
theorem m7_l10_ReadsOrder_c {a0 : List GR10Read} {a1 : List UInt8} {r : Bool} (h : m7_l10_ReadsOrder a0 a1 = some r) : CallsA Try.prog 7 [.one (.sl a0.length (a0.flatMap eGR10Read)), .one (.sl a1.length (a1.flatMap eU8))] (· = .s (.one (.b r))) := by
  unfold m7_l10_ReadsOrder at h
  refine callsA_of Try.func7 rfl (nt := 63) rfl (Nat.le_of_ble_eq_true rfl) ?_
  intro w0 S0
  refine cseq ?_
  refine cregion ?_
  refine sv rfl (opv_as rfl) ?_
  refine snil ?_
  refine cseq ?_
  refine cregion ?_
  obtain ⟨v1, hv1, h⟩ := bind_eq h
  refine scall1 rfl fn8 opnds_nil (pubA_id rfl) (m8_l10_awake_c hv1) ?_
  refine sv rfl (opv_as rfl) ?_
  refine snil ?_
  refine cseq ?_
  refine cseq ?_
  refine cjoin3 (Unit) (fun b2 => [(0, .s (.one (.sl a0.length (a0.flatMap eGR10Read)))), (1, .s (.one (.sl a1.length (a1.flatMap eU8)))), (5, .s (.one (.b v1)))]) (fun b2 => []) (fun b2 => m7_l10_ReadsOrder_k2 a0 a1 v1 b2 = some r) (fun _ _ => inbL_of rfl) (fun _ _ => blkinb_of rfl) (fun _ _ => Nat.le_of_ble_eq_true rfl) (fun b2 h => ?_) ?_
  · unfold m7_l10_ReadsOrder_k2 at h
    refine cseq ?_
    refine cregion ?_
    refine sv rfl (opv_as rfl) ?_
    refine snil ?_
    refine cseq ?_
    refine cseq ?_
    refine cregion ?_
    refine sv rfl (opv_mv rfl) ?_
    refine sv rfl (opv_len_sl si22 rfl) ?_
    refine sv rfl (opv_sub rfl rfl) ?_
    refine sv rfl (opv_as rfl) ?_
    refine snil ?_
    refine sadopt_c 56 4 6 (by decide) rfl ?_
    refine cjoin ((List GR10Read)) (fun b3 => [(0, .s (.one (.sl a0.length (a0.flatMap eGR10Read)))), (1, .s (.one (.sl a1.length (a1.flatMap eU8)))), (5, .s (.one (.b v1))), (6, .s (.one (.ls 0 b3.length)))]) (fun b3 => [.arr 56 4 0 (b3.flatMap eGR10Read)]) (fun b3 => m7_l10_ReadsOrder_k3 a0 a1 v1 b3 = some r) (fun _ _ => inbL_of rfl) (fun _ _ => blkinb_of rfl) (fun _ _ => Nat.le_of_ble_eq_true rfl) (fun b3 h => ?_) ?_
    · unfold m7_l10_ReadsOrder_k3 at h
      refine cseq ?_
      refine cregion ?_
      refine sv rfl (opv_mv rfl) ?_
      obtain ⟨v4, hv4, h⟩ := bind_eq h
      refine scall1 rfl fn28 (opnds_cons rfl opnds_nil) (pubA_id rfl) (m28_l10_grown_c hv4) ?_
      refine salloc rfl zi34 ?_
      refine sstore sz34 rfl rfl rfl rfl (Nat.le_of_ble_eq_true rfl) ?_
      refine smem [.arr 56 4 0 (b3.flatMap eGR10Read), .box [.sl v4.L.length (v4.L.flatMap eGReadsRead)]] rfl ?_
      refine snil ?_
      refine cseq ?_
      refine cregion ?_
      refine sv rfl (opv_mv rfl) ?_
      refine spub 42 rfl (by (repeat' first | exact PubA.nil _ | apply PubA.cons | apply PubV.one | apply PubV.agg | exact PubL.nil | exact PubL.ls _ _ _ _ _ _ rfl (flat_len (f := eGR10Read) (fun _ => rfl) _).symm | exact PubL.id _ rfl | exact PubLs.nil _ | apply PubLs.cons)) ?_
      obtain ⟨v5, hv5, h⟩ := bind_eq h
      refine scall1 rfl fn28 (opnds_cons rfl opnds_nil) (pubA_id rfl) (m28_l10_grown_c hv5) ?_
      refine salloc rfl zi34 ?_
      refine sstore sz34 rfl rfl rfl rfl (Nat.le_of_ble_eq_true rfl) ?_
      refine smem [.arr 56 4 (b3.flatMap eGR10Read).length (b3.flatMap eGR10Read), .box [.sl v4.L.length (v4.L.flatMap eGReadsRead)], .box [.sl v5.L.length (v5.L.flatMap eGReadsRead)]] rfl ?_
      refine snil ?_
      refine cseq ?_
      refine cdraw mixed (by kernel_rfl) ?_
      refine dv rfl (opv_mv rfl) ?_
      refine dv rfl (opv_mv rfl) ?_
      refine dsplit 45 rfl (fun hc => ?_) (fun hc => ?_)
      · replace h := ite_t hc h
        clear hc
        refine dvg rfl rfl rfl (opv_loadN ti34 rfl (.lp _ _ _ rfl) (Nat.le_of_ble_eq_true rfl)) ?_
        refine dvg rfl rfl rfl (opv_mv rfl) ?_
        obtain ⟨v6, hv6, h⟩ := bind_eq h
        refine ddg rfl rfl rfl (opD_call fn19 (opnds_cons rfl (opnds_cons rfl opnds_nil)) rfl (m19_reads_Hits_c hv6)) ?_
        refine dvg rfl rfl rfl (opv_loadN ti34 rfl (.lp _ _ _ rfl) (Nat.le_of_ble_eq_true rfl)) ?_
        refine dvg rfl rfl rfl (opv_mv rfl) ?_
        obtain ⟨v7, hv7, h⟩ := bind_eq h
        refine ddg rfl rfl rfl (opD_call fn19 (opnds_cons rfl (opnds_cons rfl opnds_nil)) rfl (m19_reads_Hits_c hv7)) ?_
        obtain ⟨v8, hv8, h⟩ := bind_eq h
        refine ddg rfl rfl rfl (opD_call fn18 (opnds_cons rfl (opnds_cons rfl opnds_nil)) rfl (m18_r10_Ints_c hv8)) ?_
        refine dv rfl (opv_pick_t rfl rfl) ?_
        refine dv rfl (opv_mv rfl) ?_
        refine dsplit 54 rfl (fun hc => ?_) (fun hc => ?_)
        · replace h := ite_t hc h
          clear hc
          refine dvg rfl rfl rfl (opv_fieldAddr_lp fi34_0 rfl) ?_
          refine dvg rfl rfl rfl (opv_load1 ti32 rfl (.lp _ _ _ rfl) rfl) ?_
          refine dvg rfl rfl rfl (opv_len_sl si32 rfl) ?_
          refine dvg rfl rfl rfl (opv_fieldAddr_lp fi34_0 rfl) ?_
          refine dvg rfl rfl rfl (opv_load1 ti32 rfl (.lp _ _ _ rfl) rfl) ?_
          refine dvg rfl rfl rfl (opv_len_sl si32 rfl) ?_
          refine dvg rfl rfl rfl (opv_ieql rfl rfl) ?_
          refine dv rfl (opv_pick_t rfl rfl) ?_
          refine dv rfl (opv_as rfl) ?_
          refine dnil ?_
          refine then_normal ?_
          refine cret ?_
          obtain rfl := Option.some.inj h
          refine ⟨Or.inr rfl, _, _, _, (resVs_cons (ResV.tmp _ _ rfl) resVs_nil), (pubA_id rfl), ?_⟩
          rfl
        · replace h := ite_f hc h
          clear hc
          refine doff rfl rfl rfl rfl ?_
          refine doff rfl rfl rfl rfl ?_
          refine doff rfl rfl rfl rfl ?_
          refine doff rfl rfl rfl rfl ?_
          refine doff rfl rfl rfl rfl ?_
          refine doff rfl rfl rfl rfl ?_
          refine doff rfl rfl rfl rfl ?_
          refine dv rfl (opv_pick_f rfl rfl) ?_
          refine dv rfl (opv_as rfl) ?_
          refine dnil ?_
          refine then_normal ?_
          refine cret ?_
          obtain rfl := Option.some.inj h
          refine ⟨Or.inr rfl, _, _, _, (resVs_cons (ResV.tmp _ _ rfl) resVs_nil), (pubA_id rfl), ?_⟩
          rfl
      · replace h := ite_f hc h
        clear hc
        refine doff rfl rfl rfl rfl ?_
        refine doff rfl rfl rfl rfl ?_
        refine doff rfl rfl rfl rfl ?_
        refine doff rfl rfl rfl rfl ?_
        refine doff rfl rfl rfl rfl ?_
        refine doff rfl rfl rfl rfl ?_
        refine doff rfl rfl rfl rfl ?_
        refine dv rfl (opv_pick_f rfl rfl) ?_
        refine dv rfl (opv_mv rfl) ?_
        refine doff rfl rfl rfl rfl ?_
        refine doff rfl rfl rfl rfl ?_
        refine doff rfl rfl rfl rfl ?_
        refine doff rfl rfl rfl rfl ?_
        refine doff rfl rfl rfl rfl ?_
        refine doff rfl rfl rfl rfl ?_
        refine doff rfl rfl rfl rfl ?_
        refine dv rfl (opv_pick_f rfl rfl) ?_
        refine dv rfl (opv_as rfl) ?_
        refine dnil ?_
        refine then_normal ?_
        refine cret ?_
        obtain rfl := Option.some.inj h
        refine ⟨Or.inr rfl, _, _, _, (resVs_cons (ResV.tmp _ _ rfl) resVs_nil), (pubA_id rfl), ?_⟩
        rfl
    · skip
      refine cblock ?_
      obtain ⟨x9, hx9, ho9⟩ := bind_eq h
      refine awc_loop (G := Nat × (Int × (List GR10Read))) (fun g => [(0, .s (.one (.sl a0.length (a0.flatMap eGR10Read)))), (1, .s (.one (.sl a1.length (a1.flatMap eU8)))), (5, .s (.one (.b v1))), (6, .s (.one (.ls 0 g.2.2.length))), (7, .s (.one (.i .i64 g.2.1)))]) (fun g => [.arr 56 4 0 (g.2.2.flatMap eGR10Read)]) (fun g => iterB (m7_l10_ReadsOrder_s9 a0) g.1 g.2 = some x9) (fun g => g.1) (fuel, ((wI ((a0.length : Int) - 1)), ([] : List GR10Read))) hx9 ⟨rfl, rfl, rfl, rfl, rfl, trivial⟩ [] rfl (fun _ _ => inbL_of rfl) (fun _ _ => blkinb_of rfl) (fun _ _ => Nat.le_of_ble_eq_true rfl) ?_
      clear hx9 h
      rintro ⟨n9, s9⟩ h
      obtain ⟨n9, y9, rfl, h, hk9⟩ := iterB_eq h
      unfold m7_l10_ReadsOrder_s9 at h
      refine cseq ?_
      refine cseq ?_
      refine cregion ?_
      refine sv rfl (opv_mv rfl) ?_
      refine sv rfl (opv_geq rfl rfl) ?_
      refine snil ?_
      refine ccond rfl (fun hc => ?_) (fun hc => ?_)
      · replace h := ite_t hc h
        clear hc
        refine cskip ?_
        refine then_normal ?_
        refine cseq ?_
        refine cblock ?_
        refine cregion ?_
        refine sv rfl (opv_mv rfl) ?_
        refine sv rfl (opv_mv rfl) ?_
        refine sv rfl (opv_mv rfl) ?_
        obtain ⟨u10, hu10, h⟩ := bind_eq h
        refine sv rfl (opv_ix (f := eGR10Read) si22 (fun _ => rfl) rfl rfl rfl rfl hu10) ?_
        refine sv rfl (opv_loadNe (ys := [.i .i64 u10.Tx, .sl u10.Rng.Lo.length (u10.Rng.Lo.flatMap eU8), .sl u10.Rng.Hi.length (u10.Rng.Hi.flatMap eU8), .b u10.Rng.Open]) ti56 rfl (.cp _) rfl rfl) ?_
        refine sbuild1 rfl Try.underlying22 ei56 rfl rfl (List.all_eq_true.1 rfl) (by decide) ?_
        refine smem [.arr 56 4 0 (s9.2.flatMap eGR10Read), .arr 56 4 0 ([(GR10Read.mk u10.Tx (GApiRange.mk u10.Rng.Lo u10.Rng.Hi u10.Rng.Open))].flatMap eGR10Read)] rfl ?_
        obtain ⟨hb11, h⟩ := chk_eq h
        refine sapp (f := eGR10Read) (xs := s9.2) (us := [(GR10Read.mk u10.Tx (GApiRange.mk u10.Rng.Lo u10.Rng.Hi u10.Rng.Open))]) rfl Try.underlying22 ei56 ni22 (fun _ => rfl) rfl rfl (.one _ _ _ _ (.ls _ _ _ _ _ _ rfl (flat_len (f := eGR10Read) (fun _ => rfl) [(GR10Read.mk u10.Tx (GApiRange.mk u10.Rng.Lo u10.Rng.Hi u10.Rng.Open))]).symm)) rfl rfl rfl (.sl _ _ _ (flat_len (f := eGR10Read) (fun _ => rfl) _)) rfl rfl hb11 (by decide) ?_
        refine sv rfl (opv_as rfl) ?_
        refine snil0 ?_
        refine block_normal ?_
        refine then_normal ?_
        refine cregion ?_
        refine sv rfl (opv_mv rfl) ?_
        refine sv rfl (opv_sub rfl rfl) ?_
        refine sv rfl (opv_as rfl) ?_
        refine snil ?_
        obtain rfl := Option.some.inj h
        exact ⟨(n9, ((wI (s9.1 - 1)), (s9.2 ++ [(GR10Read.mk u10.Tx (GApiRange.mk u10.Rng.Lo u10.Rng.Hi u10.Rng.Open))]))), _, hk9, ⟨rfl, rfl, rfl, rfl, rfl, trivial⟩, rfl, Nat.lt_succ_self _⟩
      · replace h := ite_f hc h
        clear hc
        refine cexit ?_
        refine then_exit ?_
        refine then_exit ?_
        refine block_hit ?_
        refine then_normal ?_
        obtain rfl := Option.some.inj h
        obtain rfl : _ = x9 := hk9
        exact ⟨s9.2, _, ho9, ⟨rfl, rfl, rfl, rfl, trivial⟩, rfl⟩
  · skip
    refine cregion ?_
    refine sv rfl (opv_mv rfl) ?_
    refine sv rfl (opv_build zi24 pi24 (parts_cons rfl parts_nil) (.cons _ _ _ _ _ _ _ rfl rfl (Nat.le_of_ble_eq_true rfl) (.nil _))) ?_
    obtain ⟨v13, hv13, h⟩ := bind_eq h
    refine scall1 rfl fn9 (opnds_cons rfl opnds_nil) (pubA_id rfl) (m9_r10_Few_c hv13) ?_
    refine sv rfl (opv_not rfl) ?_
    refine sv rfl (opv_mv rfl) ?_
    refine ssplit 15 rfl (fun hc => ?_) (fun hc => ?_)
    · replace h := ite_t hc h
      clear hc
      refine soff rfl rfl rfl rfl ?_
      refine soff rfl rfl rfl rfl ?_
      refine soff rfl rfl rfl rfl ?_
      refine sv rfl (opv_pick_t rfl rfl) ?_
      refine sv rfl (opv_mv rfl) ?_
      refine soff rfl rfl rfl rfl ?_
      refine soff rfl rfl rfl rfl ?_
      refine soff rfl rfl rfl rfl ?_
      refine sv rfl (opv_pick_t rfl rfl) ?_
      refine snil ?_
      refine ccond rfl (fun _ => ?_) (fun hx => Bool.noConfusion hx)
      refine cseq ?_
      refine cregion ?_
      refine sv rfl (opv_mv rfl) ?_
      refine sv rfl (opv_as rfl) ?_
      refine snil ?_
      refine cret ?_
      refine then_ret ?_
      obtain rfl := Option.some.inj h
      refine ⟨Or.inr rfl, _, _, _, (resVs_cons (ResV.tmp _ _ rfl) resVs_nil), (pubA_id rfl), ?_⟩
      rfl
    · replace h := ite_f hc h
      clear hc
      refine son rfl rfl rfl ?_
      refine sv rfl (opv_mv rfl) ?_
      refine son rfl rfl rfl ?_
      refine sv rfl (opv_len_sl si22 rfl) ?_
      refine son rfl rfl rfl ?_
      refine sv rfl (opv_gtr rfl rfl) ?_
      refine sv rfl (opv_pick_f rfl rfl) ?_
      refine sv rfl (opv_mv rfl) ?_
      refine ssplit 20 rfl (fun hc => ?_) (fun hc => ?_)
      · replace h := ite_t hc h
        clear hc
        refine soff rfl rfl rfl rfl ?_
        refine soff rfl rfl rfl rfl ?_
        refine soff rfl rfl rfl rfl ?_
        refine sv rfl (opv_pick_t rfl rfl) ?_
        refine snil ?_
        refine ccond rfl (fun _ => ?_) (fun hx => Bool.noConfusion hx)
        refine cseq ?_
        refine cregion ?_
        refine sv rfl (opv_mv rfl) ?_
        refine sv rfl (opv_as rfl) ?_
        refine snil ?_
        refine cret ?_
        refine then_ret ?_
        obtain rfl := Option.some.inj h
        refine ⟨Or.inr rfl, _, _, _, (resVs_cons (ResV.tmp _ _ rfl) resVs_nil), (pubA_id rfl), ?_⟩
        rfl
      · replace h := ite_f hc h
        clear hc
        refine son rfl rfl rfl ?_
        refine sv rfl (opv_mv rfl) ?_
        refine son rfl rfl rfl ?_
        refine sv rfl (opv_len_sl si25 rfl) ?_
        refine son rfl rfl rfl ?_
        refine sv rfl (opv_gtr rfl rfl) ?_
        refine sv rfl (opv_pick_f rfl rfl) ?_
        refine snil ?_
        refine ccond rfl (fun hc => ?_) (fun hc => ?_)
        · replace h := ite_t hc h
          clear hc
          refine cseq ?_
          refine cregion ?_
          refine sv rfl (opv_mv rfl) ?_
          refine sv rfl (opv_as rfl) ?_
          refine snil ?_
          refine cret ?_
          refine then_ret ?_
          obtain rfl := Option.some.inj h
          refine ⟨Or.inr rfl, _, _, _, (resVs_cons (ResV.tmp _ _ rfl) resVs_nil), (pubA_id rfl), ?_⟩
          rfl
        · replace h := ite_f hc h
          clear hc
          refine cskip ?_
          refine then_normal ?_
          exact ⟨(), _, h, ⟨rfl, rfl, rfl, trivial⟩, rfl⟩

def m33_reads_index_k1 (b1 : (List (GReadsKnown × Int))) : Option (List (GReadsKnown × Int)) :=
  some b1

def m33_reads_index_s2 (a0 : List GReadsRead) (s2 : Int × (List (GReadsKnown × Int))) : Option (LB (Int × (List (GReadsKnown × Int))) ((List (GReadsKnown × Int)))) :=
  if (decide (s2.1 < (a0.length : Int))) then ((idx a0 s2.1).bind fun u3 => (m34_reads_knownOf (GReadsRead.mk u3.Tx (GApiRange.mk u3.Rng.Lo u3.Rng.Hi u3.Rng.Open))).bind fun v4 => some (.cont ((wI (s2.1 + 1)), (ixPut s2.2 v4 s2.1)))) else (some (.brk s2.2))
def m33_reads_index (a0 : List GReadsRead) : Option (List (GReadsKnown × Int)) :=
  (iterB (m33_reads_index_s2 a0) fuel (0, ([] : List (GReadsKnown × Int)))).bind fun e5 => m33_reads_index_k1 e5

set_option maxRecDepth 100000 in
theorem m33_reads_index_c {a0 : List GReadsRead} {r : (List (GReadsKnown × Int))} (h : m33_reads_index a0 = some r) : CallsB Try.prog 33 [] [.one (.sl a0.length (a0.flatMap eGReadsRead))] (fun y m' => y = .s (.one (.mp 0 0)) ∧ m' = [ixBlk eGReadsKnown r]) := by
  unfold m33_reads_index at h
  refine callsB_of Try.func33 rfl (nt := 20) rfl (Nat.le_of_ble_eq_true rfl) ?_
  intro w0 S0 X0 H0
  refine cseq ?_
  refine cregion ?_
  refine sv rfl (opv_as rfl) ?_
  refine snil ?_
  refine cseq ?_
  refine cregion ?_
  refine smaketab eGReadsKnown rfl ?_
  refine sv rfl (opv_as rfl) ?_
  refine snil ?_
  refine cseq ?_
  refine cseq ?_
  refine cregion ?_
  refine sv rfl (opv_mv rfl) ?_
  refine sv rfl (opv_len_sl si32 rfl) ?_
  refine sv rfl (opv_mv rfl) ?_
  refine snil ?_
  refine cjoin ((List (GReadsKnown × Int))) (fun b1 => [(3, .s (.one (.mp 0 0)))]) (fun b1 => [ixBlk eGReadsKnown b1]) (fun b1 => m33_reads_index_k1 b1 = some r) (fun _ _ => inbL_of rfl) (fun _ _ => blkinb_of rfl) (fun _ _ => Nat.le_of_ble_eq_true rfl) (fun b1 h => ?_) ?_
  · unfold m33_reads_index_k1 at h
    refine cseq ?_
    refine cregion ?_
    refine sv rfl (opv_mv rfl) ?_
    refine sv rfl (opv_as rfl) ?_
    refine snil ?_
    refine cret ?_
    obtain rfl := Option.some.inj h
    exact ⟨Or.inr rfl, _, [0], [.one (.mp 0 0)], [ixBlk eGReadsKnown b1], (resVs_cons (ResV.tmp _ _ rfl) resVs_nil), rfl, rfl, ⟨by decide, rfl⟩, rfl, rfl, ⟨rfl, rfl⟩⟩
  · skip
    refine cblock ?_
    obtain ⟨x2, hx2, ho2⟩ := bind_eq h
    refine awc_loop (G := Nat × (Int × (List (GReadsKnown × Int)))) (fun g => [(3, .s (.one (.mp 0 0))), (7, .s (.one (.sl a0.length (a0.flatMap eGReadsRead)))), (8, .s (.one (.i .i64 (a0.length : Int)))), (9, .s (.one (.i .i64 g.2.1)))]) (fun g => [ixBlk eGReadsKnown g.2.2]) (fun g => iterB (m33_reads_index_s2 a0) g.1 g.2 = some x2) (fun g => g.1) (fuel, (0, ([] : List (GReadsKnown × Int)))) hx2 ⟨rfl, rfl, rfl, rfl, trivial⟩ [] rfl (fun _ _ => inbL_of rfl) (fun _ _ => blkinb_of rfl) (fun _ _ => Nat.le_of_ble_eq_true rfl) ?_
    clear hx2 h
    rintro ⟨n2, s2⟩ h
    obtain ⟨n2, y2, rfl, h, hk2⟩ := iterB_eq h
    unfold m33_reads_index_s2 at h
    refine cseq ?_
    refine cregion ?_
    refine sv rfl (opv_lss rfl rfl) ?_
    refine snil ?_
    refine cseq ?_
    refine ccond rfl (fun hc => ?_) (fun hc => ?_)
    · replace h := ite_t hc h
      clear hc
      refine cskip ?_
      refine then_normal ?_
      refine cseq ?_
      refine cblock ?_
      refine cseq ?_
      refine cregion ?_
      refine sv rfl (opv_mv rfl) ?_
      obtain ⟨u3, hu3, h⟩ := bind_eq h
      refine sv rfl (opv_ix (f := eGReadsRead) si32 (fun _ => rfl) rfl rfl rfl rfl hu3) ?_
      refine sv rfl (opv_loadNe (ys := [.i .i64 u3.Tx, .sl u3.Rng.Lo.length (u3.Rng.Lo.flatMap eU8), .sl u3.Rng.Hi.length (u3.Rng.Hi.flatMap eU8), .b u3.Rng.Open]) ti63 rfl (.cp _) rfl rfl) ?_
      refine salloc rfl zi63 ?_
      refine sv rfl (opv_as rfl) ?_
      refine sstore sz63 rfl rfl rfl rfl (Nat.le_of_ble_eq_true rfl) ?_
      refine smem [ixBlk eGReadsKnown s2.2, .box u3] rfl ?_
      refine snil ?_
      refine cregion ?_
      refine sv rfl (opv_mv rfl) ?_
      refine sv rfl (opv_loadN ti63 rfl (.lp _ _ _ rfl) (Nat.le_of_ble_eq_true rfl)) ?_
      obtain ⟨v4, hv4, h⟩ := bind_eq h
      refine scall1 rfl fn34 (opnds_cons rfl opnds_nil) (pubA_id rfl) (m34_reads_knownOf_c hv4) ?_
      refine sv rfl (opv_mv rfl) ?_
      refine stabput (M := s2.2) (k := v4) (i := s2.1) ke69 Try.underlying66 rfl rfl rfl rfl ?_
      refine smem [ixBlk eGReadsKnown (ixPut s2.2 v4 s2.1), .box u3] rfl ?_
      refine snil0 ?_
      refine block_normal ?_
      refine then_normal ?_
      refine cregion ?_
      refine sv rfl (opv_add rfl rfl) ?_
      refine sv rfl (opv_mv rfl) ?_
      refine snil ?_
      obtain rfl := Option.some.inj h
      exact ⟨(n2, ((wI (s2.1 + 1)), (ixPut s2.2 v4 s2.1))), _, hk2, ⟨rfl, rfl, rfl, rfl, trivial⟩, rfl, Nat.lt_succ_self _⟩
    · replace h := ite_f hc h
      clear hc
      refine cexit ?_
      refine then_exit ?_
      refine then_exit ?_
      refine block_hit ?_
      refine then_normal ?_
      obtain rfl := Option.some.inj h
      obtain rfl : _ = x2 := hk2
      exact ⟨s2.2, _, ho2, ⟨rfl, trivial⟩, rfl⟩

def m74_cmp_isNaN (a0 : Int) : Option Bool :=
  some (!decide (a0 = a0))

set_option maxRecDepth 100000 in
theorem m74_cmp_isNaN_c {a0 : Int} {r : Bool} (h : m74_cmp_isNaN a0 = some r) : CallsA Try.prog 74 [.one (.i .i64 a0)] (· = .s (.one (.b r))) := by
  unfold m74_cmp_isNaN at h
  refine callsA_of Try.func74 rfl (nt := 6) rfl (Nat.le_of_ble_eq_true rfl) ?_
  intro w0 S0
  refine cseq ?_
  refine cregion ?_
  refine sv rfl (opv_as rfl) ?_
  refine snil ?_
  refine cseq ?_
  refine cregion ?_
  refine sv rfl (opv_mv rfl) ?_
  refine sv rfl (opv_mv rfl) ?_
  refine sv rfl (opv_ineq rfl rfl) ?_
  refine sv rfl (opv_as rfl) ?_
  refine snil ?_
  refine cret ?_
  obtain rfl := Option.some.inj h
  refine ⟨Or.inr rfl, _, _, _, (resVs_cons (ResV.tmp _ _ rfl) resVs_nil), (pubA_id rfl), ?_⟩
  rfl

def m62_cmp_Less (a0 : Int) (a1 : Int) : Option Bool :=
  (m74_cmp_isNaN a0).bind fun v1 => if v1 then ((m74_cmp_isNaN a1).bind fun v2 => if (!v2) then (some true) else (some (decide (a0 < a1)))) else (some (decide (a0 < a1)))

set_option maxRecDepth 100000 in
theorem m62_cmp_Less_c {a0 : Int} {a1 : Int} {r : Bool} (h : m62_cmp_Less a0 a1 = some r) : CallsA Try.prog 62 [.one (.i .i64 a0), .one (.i .i64 a1)] (· = .s (.one (.b r))) := by
  unfold m62_cmp_Less at h
  refine callsA_of Try.func62 rfl (nt := 17) rfl (Nat.le_of_ble_eq_true rfl) ?_
  intro w0 S0
  refine cseq ?_
  refine cregion ?_
  refine sv rfl (opv_as rfl) ?_
  refine snil ?_
  refine cseq ?_
  refine cregion ?_
  refine sv rfl (opv_mv rfl) ?_
  obtain ⟨v1, hv1, h⟩ := bind_eq h
  refine scall1 rfl fn74 (opnds_cons rfl opnds_nil) (pubA_id rfl) (m74_cmp_isNaN_c hv1) ?_
  refine sv rfl (opv_mv rfl) ?_
  refine ssplit 7 rfl (fun hc => ?_) (fun hc => ?_)
  · replace h := ite_t hc h
    clear hc
    refine son rfl rfl rfl ?_
    refine sv rfl (opv_mv rfl) ?_
    refine son rfl rfl rfl ?_
    obtain ⟨v2, hv2, h⟩ := bind_eq h
    refine scall1 rfl fn74 (opnds_cons rfl opnds_nil) (pubA_id rfl) (m74_cmp_isNaN_c hv2) ?_
    refine son rfl rfl rfl ?_
    refine sv rfl (opv_not rfl) ?_
    refine sv rfl (opv_pick_t rfl rfl) ?_
    refine sv rfl (opv_mv rfl) ?_
    refine ssplit 12 rfl (fun hc => ?_) (fun hc => ?_)
    · replace h := ite_t hc h
      clear hc
      refine soff rfl rfl rfl rfl ?_
      refine soff rfl rfl rfl rfl ?_
      refine soff rfl rfl rfl rfl ?_
      refine sv rfl (opv_pick_t rfl rfl) ?_
      refine sv rfl (opv_as rfl) ?_
      refine snil ?_
      refine cret ?_
      obtain rfl := Option.some.inj h
      refine ⟨Or.inr rfl, _, _, _, (resVs_cons (ResV.tmp _ _ rfl) resVs_nil), (pubA_id rfl), ?_⟩
      rfl
    · replace h := ite_f hc h
      clear hc
      refine son rfl rfl rfl ?_
      refine sv rfl (opv_mv rfl) ?_
      refine son rfl rfl rfl ?_
      refine sv rfl (opv_mv rfl) ?_
      refine son rfl rfl rfl ?_
      refine sv rfl (opv_lss rfl rfl) ?_
      refine sv rfl (opv_pick_f rfl rfl) ?_
      refine sv rfl (opv_as rfl) ?_
      refine snil ?_
      refine cret ?_
      obtain rfl := Option.some.inj h
      refine ⟨Or.inr rfl, _, _, _, (resVs_cons (ResV.tmp _ _ rfl) resVs_nil), (pubA_id rfl), ?_⟩
      rfl
  · replace h := ite_f hc h
    clear hc
    refine soff rfl rfl rfl rfl ?_
    refine soff rfl rfl rfl rfl ?_
    refine soff rfl rfl rfl rfl ?_
    refine sv rfl (opv_pick_f rfl rfl) ?_
    refine sv rfl (opv_mv rfl) ?_
    refine son rfl rfl rfl ?_
    refine sv rfl (opv_mv rfl) ?_
    refine son rfl rfl rfl ?_
    refine sv rfl (opv_mv rfl) ?_
    refine son rfl rfl rfl ?_
    refine sv rfl (opv_lss rfl rfl) ?_
    refine sv rfl (opv_pick_f rfl rfl) ?_
    refine sv rfl (opv_as rfl) ?_
    refine snil ?_
    refine cret ?_
    obtain rfl := Option.some.inj h
    refine ⟨Or.inr rfl, _, _, _, (resVs_cons (ResV.tmp _ _ rfl) resVs_nil), (pubA_id rfl), ?_⟩
    rfl


end Go.Proofs.Ytkbkpafidgfhdaa.Abs
