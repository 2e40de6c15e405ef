/-
  t
-/
import Derived.Test.YtmkcigfeebippaaT09a
namespace Go.Proofs.Ytmkcigfeebippaa.Abs
open Go.RowKit Go.Proofs
def m22_buffer_Touches (a0 : GBufferBuf) (a1 : GApiRange) : Option Bool :=
  (iter (m22_buffer_Touches_s2 a0 a1) fuel 0).bind fun x => match x with | .inl r => some r | .inr e5 => m22_buffer_Touches_k1 e5

set_option maxRecDepth 100000 in
theorem m22_buffer_Touches_c {a0 : GBufferBuf} {a1 : GApiRange} {r : Bool} (h : m22_buffer_Touches a0 a1 = some r) : CallsA Try.prog 22 [.agg [.sl a0.L.length (a0.L.flatMap eGApiWrite)], .agg [.sl a1.Lo.length (a1.Lo.flatMap eU8), .sl a1.Hi.length (a1.Hi.flatMap eU8), .b a1.Open]] (· = .s (.one (.b r))) := by
  unfold m22_buffer_Touches at h
  refine callsA_of Try.func22 rfl (nt := 19) rfl (Nat.le_of_ble_eq_true rfl) ?_
  intro w0 S0
  refine cseq ?_
  refine cregion ?_
  refine sbox rfl rfl ?_
  refine sbox rfl rfl ?_
  refine sv rfl (opv_as rfl) ?_
  refine snil ?_
  refine cseq ?_
  refine cseq ?_
  refine cregion ?_
  refine sv rfl (opv_fieldAddr_lp fi27_0 rfl) ?_
  refine sv rfl (opv_load1 ti22 rfl (.lp _ _ _ rfl) rfl) ?_
  refine sv rfl (opv_len_sl si22 rfl) ?_
  refine sv rfl (opv_mv rfl) ?_
  refine snil ?_
  refine cjoin (Unit) (fun b1 => []) (fun b1 => [.box [.sl a0.L.length (a0.L.flatMap eGApiWrite)], .box [.sl a1.Lo.length (a1.Lo.flatMap eU8), .sl a1.Hi.length (a1.Hi.flatMap eU8), .b a1.Open]]) (fun b1 => m22_buffer_Touches_k1 b1 = some r) (fun _ _ => inbL_of rfl) (fun _ _ => blkinb_of rfl) (fun _ _ => Nat.le_of_ble_eq_true rfl) (fun b1 h => ?_) ?_
  · unfold m22_buffer_Touches_k1 at h
    refine cseq ?_
    refine cregion ?_
    refine sv rfl (opv_as rfl) ?_
    refine snil ?_
    refine cret ?_
    obtain rfl := Option.some.inj h
    refine ⟨Or.inr rfl, _, _, _, (resVs_cons (ResV.tmp _ _ rfl) resVs_nil), (pubA_id rfl), ?_⟩
    rfl
  · skip
    refine cblock ?_
    obtain ⟨x2, hx2, ho2⟩ := bind_eq h
    refine awc_loop (G := Nat × (Int)) (fun g => [(3, .s (.one (.lp 1 0))), (8, .s (.one (.sl a0.L.length (a0.L.flatMap eGApiWrite)))), (9, .s (.one (.i .i64 (a0.L.length : Int)))), (10, .s (.one (.i .i64 g.2)))]) (fun g => [.box [.sl a0.L.length (a0.L.flatMap eGApiWrite)], .box [.sl a1.Lo.length (a1.Lo.flatMap eU8), .sl a1.Hi.length (a1.Hi.flatMap eU8), .b a1.Open]]) (fun g => iter (m22_buffer_Touches_s2 a0 a1) g.1 g.2 = some x2) (fun g => g.1) (fuel, 0) hx2 ⟨rfl, rfl, rfl, rfl, trivial⟩ [] rfl (fun _ _ => inbL_of rfl) (fun _ _ => blkinb_of rfl) (fun _ _ => Nat.le_of_ble_eq_true rfl) ?_
    clear hx2 h
    rintro ⟨n2, s2⟩ h
    obtain ⟨n2, y2, rfl, h, hk2⟩ := iter_eq h
    unfold m22_buffer_Touches_s2 at h
    refine cseq ?_
    refine cregion ?_
    refine sv rfl (opv_lss rfl rfl) ?_
    refine snil ?_
    refine cseq ?_
    refine ccond rfl (fun hc => ?_) (fun hc => ?_)
    · replace h := ite_t hc h
      clear hc
      refine cskip ?_
      refine then_normal ?_
      refine cseq ?_
      refine cblock ?_
      refine cseq ?_
      refine cregion ?_
      obtain ⟨u3, hu3, h⟩ := bind_eq h
      refine sv rfl (opv_ix (f := eGApiWrite) si22 (fun _ => rfl) rfl rfl rfl rfl hu3) ?_
      refine sv rfl (opv_loadNe (ys := [.sl u3.Key.length (u3.Key.flatMap eU8), .sl u3.Val.length (u3.Val.flatMap eU8), .b u3.Del]) ti29 rfl (.cp _) rfl rfl) ?_
      refine salloc rfl zi29 ?_
      refine sstore sz29 rfl rfl rfl rfl (Nat.le_of_ble_eq_true rfl) ?_
      refine smem [.box [.sl a0.L.length (a0.L.flatMap eGApiWrite)], .box [.sl a1.Lo.length (a1.Lo.flatMap eU8), .sl a1.Hi.length (a1.Hi.flatMap eU8), .b a1.Open], .box [.sl u3.Key.length (u3.Key.flatMap eU8), .sl u3.Val.length (u3.Val.flatMap eU8), .b u3.Del]] rfl ?_
      refine snil ?_
      refine cseq ?_
      refine cregion ?_
      refine sv rfl (opv_loadN ti40 rfl (.lp _ _ _ rfl) (Nat.le_of_ble_eq_true rfl)) ?_
      refine sv rfl (opv_fieldAddr_lp fi29_0 rfl) ?_
      refine sv rfl (opv_load1 ti23 rfl (.lp _ _ _ rfl) rfl) ?_
      obtain ⟨v4, hv4, h⟩ := bind_eq h
      refine scall1 rfl fn32 (opnds_cons rfl (opnds_cons rfl opnds_nil)) (pubA_id rfl) (m32_keys_Has_c hv4) ?_
      refine snil ?_
      refine ccond rfl (fun hc => ?_) (fun hc => ?_)
      · replace h := ite_t hc h
        clear hc
        refine cseq ?_
        refine cregion ?_
        refine sv rfl (opv_as rfl) ?_
        refine snil ?_
        refine cret ?_
        refine block_ret ?_
        refine then_ret ?_
        refine then_ret ?_
        refine block_ret ?_
        refine then_ret ?_
        obtain rfl := Option.some.inj h
        obtain rfl : Sum.inl _ = x2 := hk2
        replace ho2 : some _ = some _ := ho2
        obtain rfl := Option.some.inj ho2
        refine ⟨Or.inr rfl, _, _, _, (resVs_cons (ResV.tmp _ _ rfl) resVs_nil), (pubA_id rfl), ?_⟩
        rfl
      · replace h := ite_f hc h
        clear hc
        refine cskip ?_
        refine block_normal ?_
        refine then_normal ?_
        refine cregion ?_
        refine sv rfl (opv_add rfl rfl) ?_
        refine sv rfl (opv_mv rfl) ?_
        refine snil ?_
        obtain rfl := Option.some.inj h
        exact ⟨(n2, (wI (s2 + 1))), _, hk2, ⟨rfl, rfl, rfl, rfl, trivial⟩, rfl, Nat.lt_succ_self _⟩
    · replace h := ite_f hc h
      clear hc
      refine cexit ?_
      refine then_exit ?_
      refine then_exit ?_
      refine block_hit ?_
      refine then_normal ?_
      obtain rfl := Option.some.inj h
      obtain rfl : _ = x2 := hk2
      exact ⟨(), _, ho2, trivial, rfl⟩

def m4_l09_BufferOver_k6 (a1 : List GApiKV) (a2 : GApiRange) (v1 : Bool) (v3 : GBufferBuf) (v4 : (List GApiKV)) (b6 : Int) : Option Bool :=
  (m18_buffer_Over v3 a1 (GApiRange.mk a2.Lo a2.Hi a2.Open) 2).bind fun v7 => if v1 then (if (decide (b6 = (v4.length : Int))) then ((m16_r09_Rising v4).bind fun v8 => if v8 then ((cut v4 0 (if (v4.length : Int) < 2 then (v4.length : Int) else 2)).bind fun c9 => (m21_r05_KVs v7 c9).bind fun v10 => if v10 then ((m22_buffer_Touches (GBufferBuf.mk v3.L) (GApiRange.mk a2.Lo a2.Hi a2.Open)).bind fun v11 => if v11 then (some true) else ((m18_buffer_Over (GBufferBuf.mk ([] : List GApiWrite)) a1 (GApiRange.mk a2.Lo a2.Hi a2.Open) 1000).bind fun v12 => some (decide ((v12.length : Int) = b6)))) else (some false)) else (some false)) else (some false)) else (some false)

def m4_l09_BufferOver_k15 (v3 : GBufferBuf) (v4 : (List GApiKV)) (s13 : Int × Int) (b15 : Unit) : Option (LR (Int × Int) (Int) (Bool)) :=
  (idx v3.L s13.2).bind fun u16 => (idx v3.L s13.2).bind fun u17 => (m20_l09_has v4 u16.Key u17.Val).bind fun v18 => if (!v18) then (some (.ret false)) else (some (.cont ((wI (s13.1 + 1)), (wI (s13.2 + 1)))))

def m4_l09_BufferOver_k14 (a2 : GApiRange) (v3 : GBufferBuf) (v4 : (List GApiKV)) (s13 : Int × Int) (b14 : Bool) : Option (LR (Int × Int) (Int) (Bool)) :=
  if b14 then (some (.cont (s13.1, (wI (s13.2 + 1))))) else ((idx v3.L s13.2).bind fun u19 => if u19.Del then (some (.cont (s13.1, (wI (s13.2 + 1))))) else ((idx v3.L s13.2).bind fun u20 => (m19_r06_Has (GApiRange.mk a2.Lo a2.Hi a2.Open) u20.Key).bind fun v21 => if (!v21) then (some (.cont (s13.1, (wI (s13.2 + 1))))) else (m4_l09_BufferOver_k15 v3 v4 s13 ())))

def m4_l09_BufferOver_s22 (a1 : List GApiKV) (v3 : GBufferBuf) (s13 : Int × Int) (s22 : Bool × Int) : Option (LB (Bool × Int) (Bool)) :=
  if (decide (s22.2 < (a1.length : Int))) then (if s22.1 then (some (.cont (true, (wI (s22.2 + 1))))) else ((idx a1 s22.2).bind fun u23 => (idx v3.L s13.2).bind fun u24 => some (.cont ((u23.Key == u24.Key), (wI (s22.2 + 1)))))) else (some (.brk s22.1))

def m4_l09_BufferOver_s13 (a1 : List GApiKV) (a2 : GApiRange) (v3 : GBufferBuf) (v4 : (List GApiKV)) (s13 : Int × Int) : Option (LR (Int × Int) (Int) (Bool)) :=
  if (decide (s13.2 < (v3.L.length : Int))) then ((iterB (m4_l09_BufferOver_s22 a1 v3 s13) fuel (false, 0)).bind fun e25 => m4_l09_BufferOver_k14 a2 v3 v4 s13 e25) else (some (.brk s13.1))

def m4_l09_BufferOver_k5 (a1 : List GApiKV) (a2 : GApiRange) (v1 : Bool) (v3 : GBufferBuf) (v4 : (List GApiKV)) (b5 : Int) : Option Bool :=
  (iter (m4_l09_BufferOver_s13 a1 a2 v3 v4) fuel (b5, 0)).bind fun x => match x with | .inl r => some r | .inr e26 => m4_l09_BufferOver_k6 a1 a2 v1 v3 v4 e26

def m4_l09_BufferOver_k32 (a1 : List GApiKV) (v4 : (List GApiKV)) (s27 : Int × Int) (b32 : (List UInt8)) : Option (LR (Int × Int) (Int) (Bool)) :=
  (idx a1 s27.2).bind fun u33 => (m20_l09_has v4 u33.Key b32).bind fun v34 => if (!v34) then (some (.ret false)) else (some (.cont ((wI (s27.1 + 1)), (wI (s27.2 + 1)))))

def m4_l09_BufferOver_k30 (a1 : List GApiKV) (v4 : (List GApiKV)) (s27 : Int × Int) (v29 : GApiWrite × Bool) (b30 : Unit) : Option (LR (Int × Int) (Int) (Bool)) :=
  (idx a1 s27.2).bind fun u31 => if v29.2 then (m4_l09_BufferOver_k32 a1 v4 s27 v29.1.Val) else (m4_l09_BufferOver_k32 a1 v4 s27 u31.Val)

def m4_l09_BufferOver_s27 (a1 : List GApiKV) (a2 : GApiRange) (v3 : GBufferBuf) (v4 : (List GApiKV)) (s27 : Int × Int) : Option (LR (Int × Int) (Int) (Bool)) :=
  if (decide (s27.2 < (a1.length : Int))) then ((idx a1 s27.2).bind fun u28 => (m11_buffer_Get (GBufferBuf.mk v3.L) u28.Key).bind fun v29 => (idx a1 s27.2).bind fun u35 => (m19_r06_Has (GApiRange.mk a2.Lo a2.Hi a2.Open) u35.Key).bind fun v36 => if (!v36) then (some (.cont (s27.1, (wI (s27.2 + 1))))) else (if v29.2 then (if v29.1.Del then (some (.cont (s27.1, (wI (s27.2 + 1))))) else (m4_l09_BufferOver_k30 a1 v4 s27 v29 ())) else (m4_l09_BufferOver_k30 a1 v4 s27 v29 ()))) else (some (.brk s27.1))

def m4_l09_BufferOver_k2 (a0 : List GApiWrite) (a1 : List GApiKV) (a2 : GApiRange) (v1 : Bool) (b2 : Unit) : Option Bool :=
  (m17_l09_grown a0).bind fun v3 => (m18_buffer_Over v3 a1 a2 1000).bind fun v4 => (iter (m4_l09_BufferOver_s27 a1 a2 v3 v4) fuel (0, 0)).bind fun x => match x with | .inl r => some r | .inr e37 => m4_l09_BufferOver_k5 a1 a2 v1 v3 v4 e37
def m4_l09_BufferOver (a0 : List GApiWrite) (a1 : List GApiKV) (a2 : GApiRange) : Option Bool :=
  (m8_l09_awake).bind fun v1 => (m9_r08_FewWrites a0).bind fun v38 => if (!v38) then (some v1) else ((m14_l09_short a1).bind fun v39 => if (!v39) then (some v1) else ((m15_r06_Short (GApiRange.mk a2.Lo a2.Hi a2.Open)).bind fun v40 => if (!v40) then (some v1) else ((m16_r09_Rising a1).bind fun v41 => if (!v41) then (some v1) else (m4_l09_BufferOver_k2 a0 a1 a2 v1 ()))))

set_option maxRecDepth 100000 in
theorem m4_l09_BufferOver_c {a0 : List GApiWrite} {a1 : List GApiKV} {a2 : GApiRange} {r : Bool} (h : m4_l09_BufferOver a0 a1 a2 = some r) : CallsA Try.prog 4 [.one (.sl a0.length (a0.flatMap eGApiWrite)), .one (.sl a1.length (a1.flatMap eGApiKV)), .agg [.sl a2.Lo.length (a2.Lo.flatMap eU8), .sl a2.Hi.length (a2.Hi.flatMap eU8), .b a2.Open]] (· = .s (.one (.b r))) := by
  unfold m4_l09_BufferOver at h
  refine callsA_of Try.func4 rfl (nt := 200) rfl (Nat.le_of_ble_eq_true rfl) ?_
  intro w0 S0
  refine cseq ?_
  refine cregion ?_
  refine sbox rfl rfl ?_
  refine sv rfl (opv_as rfl) ?_
  refine snil ?_
  refine cseq ?_
  refine cregion ?_
  obtain ⟨v1, hv1, h⟩ := bind_eq h
  refine scall1 rfl fn8 opnds_nil (pubA_id rfl) (m8_l09_awake_c hv1) ?_
  refine sv rfl (opv_as rfl) ?_
  refine snil ?_
  refine cseq ?_
  refine cseq ?_
  refine cjoin3 (Unit) (fun b2 => [(0, .s (.one (.sl a0.length (a0.flatMap eGApiWrite)))), (1, .s (.one (.sl a1.length (a1.flatMap eGApiKV)))), (5, .s (.one (.lp 0 0))), (7, .s (.one (.b v1)))]) (fun b2 => [.box [.sl a2.Lo.length (a2.Lo.flatMap eU8), .sl a2.Hi.length (a2.Hi.flatMap eU8), .b a2.Open]]) (fun b2 => m4_l09_BufferOver_k2 a0 a1 a2 v1 b2 = some r) (fun _ _ => inbL_of rfl) (fun _ _ => blkinb_of rfl) (fun _ _ => Nat.le_of_ble_eq_true rfl) (fun b2 h => ?_) ?_
  · unfold m4_l09_BufferOver_k2 at h
    refine cseq ?_
    refine cregion ?_
    refine sv rfl (opv_mv rfl) ?_
    obtain ⟨v3, hv3, h⟩ := bind_eq h
    refine scall1 rfl fn17 (opnds_cons rfl opnds_nil) (pubA_id rfl) (m17_l09_grown_c hv3) ?_
    refine salloc rfl zi27 ?_
    refine sstore sz27 rfl rfl rfl rfl (Nat.le_of_ble_eq_true rfl) ?_
    refine smem [.box [.sl a2.Lo.length (a2.Lo.flatMap eU8), .sl a2.Hi.length (a2.Hi.flatMap eU8), .b a2.Open], .box [.sl v3.L.length (v3.L.flatMap eGApiWrite)]] rfl ?_
    refine snil ?_
    refine cseq ?_
    refine cregion ?_
    refine sv rfl (opv_loadN ti27 rfl (.lp _ _ _ rfl) (Nat.le_of_ble_eq_true rfl)) ?_
    refine sv rfl (opv_mv rfl) ?_
    refine sv rfl (opv_loadN ti40 rfl (.lp _ _ _ rfl) (Nat.le_of_ble_eq_true rfl)) ?_
    obtain ⟨v4, hv4, h⟩ := bind_eq h
    refine scall1 rfl fn18 (opnds_cons rfl (opnds_cons rfl (opnds_cons rfl (opnds_cons rfl opnds_nil)))) (pubA_id rfl) (m18_buffer_Over_c hv4) ?_
    refine sv rfl (opv_as rfl) ?_
    refine snil ?_
    refine cseq ?_
    refine cregion ?_
    refine sv rfl (opv_as rfl) ?_
    refine snil ?_
    refine cseq ?_
    refine cseq ?_
    refine cregion ?_
    refine sv rfl (opv_as rfl) ?_
    refine snil ?_
    refine cjoin (Int) (fun b5 => [(1, .s (.one (.sl a1.length (a1.flatMap eGApiKV)))), (5, .s (.one (.lp 0 0))), (7, .s (.one (.b v1))), (8, .s (.one (.lp 1 0))), (9, .s (.one (.sl v4.length (v4.flatMap eGApiKV)))), (10, .s (.one (.i .i64 b5)))]) (fun b5 => [.box [.sl a2.Lo.length (a2.Lo.flatMap eU8), .sl a2.Hi.length (a2.Hi.flatMap eU8), .b a2.Open], .box [.sl v3.L.length (v3.L.flatMap eGApiWrite)]]) (fun b5 => m4_l09_BufferOver_k5 a1 a2 v1 v3 v4 b5 = some r) (fun _ _ => inbL_of rfl) (fun _ _ => blkinb_of rfl) (fun _ _ => Nat.le_of_ble_eq_true rfl) (fun b5 h => ?_) ?_
    · unfold m4_l09_BufferOver_k5 at h
      refine cseq ?_
      refine cseq ?_
      refine cregion ?_
      refine sv rfl (opv_as rfl) ?_
      refine snil ?_
      refine cjoin (Int) (fun b6 => [(1, .s (.one (.sl a1.length (a1.flatMap eGApiKV)))), (5, .s (.one (.lp 0 0))), (7, .s (.one (.b v1))), (8, .s (.one (.lp 1 0))), (9, .s (.one (.sl v4.length (v4.flatMap eGApiKV)))), (10, .s (.one (.i .i64 b6)))]) (fun b6 => [.box [.sl a2.Lo.length (a2.Lo.flatMap eU8), .sl a2.Hi.length (a2.Hi.flatMap eU8), .b a2.Open], .box [.sl v3.L.length (v3.L.flatMap eGApiWrite)]]) (fun b6 => m4_l09_BufferOver_k6 a1 a2 v1 v3 v4 b6 = some r) (fun _ _ => inbL_of rfl) (fun _ _ => blkinb_of rfl) (fun _ _ => Nat.le_of_ble_eq_true rfl) (fun b6 h => ?_) ?_
      · unfold m4_l09_BufferOver_k6 at h
        refine cseq ?_
        refine cregion ?_
        refine sv rfl (opv_loadN ti27 rfl (.lp _ _ _ rfl) (Nat.le_of_ble_eq_true rfl)) ?_
        refine sv rfl (opv_mv rfl) ?_
        refine sv rfl (opv_loadN ti40 rfl (.lp _ _ _ rfl) (Nat.le_of_ble_eq_true rfl)) ?_
        obtain ⟨v7, hv7, h⟩ := bind_eq h
        refine scall1 rfl fn18 (opnds_cons rfl (opnds_cons rfl (opnds_cons rfl (opnds_cons rfl opnds_nil)))) (pubA_id rfl) (m18_buffer_Over_c hv7) ?_
        refine sv rfl (opv_as rfl) ?_
        refine snil ?_
        refine cseq ?_
        refine cregion ?_
        refine sv rfl (opv_mv rfl) ?_
        refine sv rfl (opv_mv rfl) ?_
        refine ssplit 167 rfl (fun hc => ?_) (fun hc => ?_)
        · replace h := ite_t hc h
          clear hc
          refine son rfl rfl rfl ?_
          refine sv rfl (opv_mv rfl) ?_
          refine son rfl rfl rfl ?_
          refine sv rfl (opv_mv rfl) ?_
          refine son rfl rfl rfl ?_
          refine sv rfl (opv_len_sl si38 rfl) ?_
          refine son rfl rfl rfl ?_
          refine sv rfl (opv_ieql rfl rfl) ?_
          refine sv rfl (opv_pick_t rfl rfl) ?_
          refine sv rfl (opv_mv rfl) ?_
          refine ssplit 173 rfl (fun hc => ?_) (fun hc => ?_)
          · replace h := ite_t hc h
            clear hc
            refine son rfl rfl rfl ?_
            refine sv rfl (opv_mv rfl) ?_
            refine son rfl rfl rfl ?_
            obtain ⟨v8, hv8, h⟩ := bind_eq h
            refine scall1 rfl fn16 (opnds_cons rfl opnds_nil) (pubA_id rfl) (m16_r09_Rising_c hv8) ?_
            refine sv rfl (opv_pick_t rfl rfl) ?_
            refine sv rfl (opv_mv rfl) ?_
            refine ssplit 177 rfl (fun hc => ?_) (fun hc => ?_)
            · replace h := ite_t hc h
              clear hc
              refine son rfl rfl rfl ?_
              refine sv rfl (opv_mv rfl) ?_
              refine son rfl rfl rfl ?_
              refine sv rfl (opv_mv rfl) ?_
              refine son rfl rfl rfl ?_
              refine sv rfl (opv_mv rfl) ?_
              refine son rfl rfl rfl ?_
              refine sv rfl (opv_len_sl si38 rfl) ?_
              refine son rfl rfl rfl ?_
              refine sv rfl (opv_min rfl rfl) ?_
              refine son rfl rfl rfl ?_
              obtain ⟨c9, hc9, h⟩ := bind_eq h
              refine sv rfl (opv_cut (f := eGApiKV) (lo := 0) (hi := (if (v4.length : Int) < 2 then (v4.length : Int) else 2)) si38 (fun _ => rfl) rfl rfl rfl bound_none (bound_some rfl (Int.le_trans (cut_eq hc9).1.1 (cut_eq hc9).1.2.1)) hc9) ?_
              refine son rfl rfl rfl ?_
              obtain ⟨v10, hv10, h⟩ := bind_eq h
              refine scall1 rfl fn21 (opnds_cons rfl (opnds_cons rfl opnds_nil)) (pubA_id rfl) (m21_r05_KVs_c hv10) ?_
              refine sv rfl (opv_pick_t rfl rfl) ?_
              refine sv rfl (opv_mv rfl) ?_
              refine ssplit 186 rfl (fun hc => ?_) (fun hc => ?_)
              · replace h := ite_t hc h
                clear hc
                refine son rfl rfl rfl ?_
                refine sv rfl (opv_loadN ti27 rfl (.lp _ _ _ rfl) (Nat.le_of_ble_eq_true rfl)) ?_
                refine son rfl rfl rfl ?_
                refine sv rfl (opv_loadN ti40 rfl (.lp _ _ _ rfl) (Nat.le_of_ble_eq_true rfl)) ?_
                refine son rfl rfl rfl ?_
                obtain ⟨v11, hv11, h⟩ := bind_eq h
                refine scall1 rfl fn22 (opnds_cons rfl (opnds_cons rfl opnds_nil)) (pubA_id rfl) (m22_buffer_Touches_c hv11) ?_
                refine son rfl rfl rfl ?_
                refine sv rfl (opv_mv rfl) ?_
                refine ssplit 190 rfl (fun hc => ?_) (fun hc => ?_)
                · replace h := ite_t hc h
                  clear hc
                  refine soff rfl rfl rfl rfl ?_
                  refine soff rfl rfl rfl rfl ?_
                  refine soff rfl rfl rfl rfl ?_
                  refine soff rfl rfl rfl rfl ?_
                  refine soff rfl rfl rfl rfl ?_
                  refine soff rfl rfl rfl rfl ?_
                  refine soff rfl rfl rfl rfl ?_
                  refine son rfl rfl rfl ?_
                  refine sv rfl (opv_pick_t rfl rfl) ?_
                  refine sv rfl (opv_pick_t rfl rfl) ?_
                  refine sv rfl (opv_as rfl) ?_
                  refine snil ?_
                  refine cret ?_
                  obtain rfl := Option.some.inj h
                  refine ⟨Or.inr rfl, _, _, _, (resVs_cons (ResV.tmp _ _ rfl) resVs_nil), (pubA_id rfl), ?_⟩
                  rfl
                · replace h := ite_f hc h
                  clear hc
                  refine son rfl rfl rfl ?_
                  refine sv rfl (opv_build zi27 pi27 parts_nil (.nil _)) ?_
                  refine son rfl rfl rfl ?_
                  refine sv rfl (opv_mv rfl) ?_
                  refine son rfl rfl rfl ?_
                  refine sv rfl (opv_loadN ti40 rfl (.lp _ _ _ rfl) (Nat.le_of_ble_eq_true rfl)) ?_
                  refine son rfl rfl rfl ?_
                  obtain ⟨v12, hv12, h⟩ := bind_eq h
                  refine scall1 rfl fn18 (opnds_cons rfl (opnds_cons rfl (opnds_cons rfl (opnds_cons rfl opnds_nil)))) (pubC rfl) (m18_buffer_Over_c hv12) ?_
                  refine son rfl rfl rfl ?_
                  refine sv rfl (opv_len_sl si38 rfl) ?_
                  refine son rfl rfl rfl ?_
                  refine sv rfl (opv_mv rfl) ?_
                  refine son rfl rfl rfl ?_
                  refine sv rfl (opv_ieql rfl rfl) ?_
                  refine son rfl rfl rfl ?_
                  refine sv rfl (opv_pick_f rfl rfl) ?_
                  refine sv rfl (opv_pick_t rfl rfl) ?_
                  refine sv rfl (opv_as rfl) ?_
                  refine snil ?_
                  refine cret ?_
                  obtain rfl := Option.some.inj h
                  refine ⟨Or.inr rfl, _, _, _, (resVs_cons (ResV.tmp _ _ rfl) resVs_nil), (pubA_id rfl), ?_⟩
                  rfl
              · replace h := ite_f hc h
                clear hc
                refine soff rfl rfl rfl rfl ?_
                refine soff rfl rfl rfl rfl ?_
                refine soff rfl rfl rfl rfl ?_
                refine soff rfl rfl rfl rfl ?_
                refine soffu rfl rfl rfl ?_
                refine soffu rfl rfl rfl ?_
                refine soffu rfl rfl rfl ?_
                refine soffu rfl rfl rfl ?_
                refine soffu rfl rfl rfl ?_
                refine soffu rfl rfl rfl ?_
                refine soffu rfl rfl rfl ?_
                refine soff rfl rfl rfl rfl ?_
                refine sv rfl (opv_pick_f rfl rfl) ?_
                refine sv rfl (opv_as rfl) ?_
                refine snil ?_
                refine cret ?_
                obtain rfl := Option.some.inj h
                refine ⟨Or.inr rfl, _, _, _, (resVs_cons (ResV.tmp _ _ rfl) resVs_nil), (pubA_id rfl), ?_⟩
                rfl
            · replace h := ite_f hc h
              clear hc
              refine soff rfl rfl rfl rfl ?_
              refine soff rfl rfl rfl rfl ?_
              refine soff rfl rfl rfl rfl ?_
              refine soff rfl rfl rfl rfl ?_
              refine soff rfl rfl rfl rfl ?_
              refine soff rfl rfl rfl rfl ?_
              refine soff rfl rfl rfl rfl ?_
              refine sv rfl (opv_pick_f rfl rfl) ?_
              refine sv rfl (opv_mv rfl) ?_
              refine soff rfl rfl rfl rfl ?_
              refine soff rfl rfl rfl rfl ?_
              refine soff rfl rfl rfl rfl ?_
              refine soff rfl rfl rfl rfl ?_
              refine soffu rfl rfl rfl ?_
              refine soffu rfl rfl rfl ?_
              refine soffu rfl rfl rfl ?_
              refine soffu rfl rfl rfl ?_
              refine soffu rfl rfl rfl ?_
              refine soffu rfl rfl rfl ?_
              refine soffu rfl rfl rfl ?_
              refine soff rfl rfl rfl rfl ?_
              refine sv rfl (opv_pick_f rfl rfl) ?_
              refine sv rfl (opv_as rfl) ?_
              refine snil ?_
              refine cret ?_
              obtain rfl := Option.some.inj h
              refine ⟨Or.inr rfl, _, _, _, (resVs_cons (ResV.tmp _ _ rfl) resVs_nil), (pubA_id rfl), ?_⟩
              rfl
          · replace h := ite_f hc h
            clear hc
            refine soff rfl rfl rfl rfl ?_
            refine soff rfl rfl rfl rfl ?_
            refine sv rfl (opv_pick_f rfl rfl) ?_
            refine sv rfl (opv_mv rfl) ?_
            refine soff rfl rfl rfl rfl ?_
            refine soff rfl rfl rfl rfl ?_
            refine soff rfl rfl rfl rfl ?_
            refine soff rfl rfl rfl rfl ?_
            refine soff rfl rfl rfl rfl ?_
            refine soff rfl rfl rfl rfl ?_
            refine soff rfl rfl rfl rfl ?_
            refine sv rfl (opv_pick_f rfl rfl) ?_
            refine sv rfl (opv_mv rfl) ?_
            refine soff rfl rfl rfl rfl ?_
            refine soff rfl rfl rfl rfl ?_
            refine soff rfl rfl rfl rfl ?_
            refine soff rfl rfl rfl rfl ?_
            refine soffu rfl rfl rfl ?_
            refine soffu rfl rfl rfl ?_
            refine soffu rfl rfl rfl ?_
            refine soffu rfl rfl rfl ?_
            refine soffu rfl rfl rfl ?_
            refine soffu rfl rfl rfl ?_
            refine soffu rfl rfl rfl ?_
            refine soff rfl rfl rfl rfl ?_
            refine sv rfl (opv_pick_f rfl rfl) ?_
            refine sv rfl (opv_as rfl) ?_
            refine snil ?_
            refine cret ?_
            obtain rfl := Option.some.inj h
            refine ⟨Or.inr rfl, _, _, _, (resVs_cons (ResV.tmp _ _ rfl) resVs_nil), (pubA_id rfl), ?_⟩
            rfl
        · replace h := ite_f hc h
          clear hc
          refine soff rfl rfl rfl rfl ?_
          refine soff rfl rfl rfl rfl ?_
          refine soff rfl rfl rfl rfl ?_
          refine soff rfl rfl rfl rfl ?_
          refine sv rfl (opv_pick_f rfl rfl) ?_
          refine sv rfl (opv_mv rfl) ?_
          refine soff rfl rfl rfl rfl ?_
          refine soff rfl rfl rfl rfl ?_
          refine sv rfl (opv_pick_f rfl rfl) ?_
          refine sv rfl (opv_mv rfl) ?_
          refine soff rfl rfl rfl rfl ?_
          refine soff rfl rfl rfl rfl ?_
          refine soff rfl rfl rfl rfl ?_
          refine soff rfl rfl rfl rfl ?_
          refine soff rfl rfl rfl rfl ?_
          refine soff rfl rfl rfl rfl ?_
          refine soff rfl rfl rfl rfl ?_
          refine sv rfl (opv_pick_f rfl rfl) ?_
          refine sv rfl (opv_mv rfl) ?_
          refine soff rfl rfl rfl rfl ?_
          refine soff rfl rfl rfl rfl ?_
          refine soff rfl rfl rfl rfl ?_
          refine soff rfl rfl rfl rfl ?_
          refine soffu rfl rfl rfl ?_
          refine soffu rfl rfl rfl ?_
          refine soffu rfl rfl rfl ?_
          refine soffu rfl rfl rfl ?_
          refine soffu rfl rfl rfl ?_
          refine soffu rfl rfl rfl ?_
          refine soffu rfl rfl rfl ?_
          refine soff rfl rfl rfl rfl ?_
          refine sv rfl (opv_pick_f rfl rfl) ?_
          refine sv rfl (opv_as rfl) ?_
          refine snil ?_
          refine cret ?_
          obtain rfl := Option.some.inj h
          refine ⟨Or.inr rfl, _, _, _, (resVs_cons (ResV.tmp _ _ rfl) resVs_nil), (pubA_id rfl), ?_⟩
          rfl
      · skip
        refine cblock ?_
        obtain ⟨x13, hx13, ho13⟩ := bind_eq h
        refine awc_loop (G := Nat × (Int × Int)) (fun g => [(1, .s (.one (.sl a1.length (a1.flatMap eGApiKV)))), (5, .s (.one (.lp 0 0))), (7, .s (.one (.b v1))), (8, .s (.one (.lp 1 0))), (9, .s (.one (.sl v4.length (v4.flatMap eGApiKV)))), (10, .s (.one (.i .i64 g.2.1))), (15, .s (.one (.i .i64 g.2.2)))]) (fun g => [.box [.sl a2.Lo.length (a2.Lo.flatMap eU8), .sl a2.Hi.length (a2.Hi.flatMap eU8), .b a2.Open], .box [.sl v3.L.length (v3.L.flatMap eGApiWrite)]]) (fun g => iter (m4_l09_BufferOver_s13 a1 a2 v3 v4) g.1 g.2 = some x13) (fun g => g.1) (fuel, (b5, 0)) hx13 ⟨rfl, rfl, rfl, rfl, rfl, rfl, rfl, trivial⟩ [] rfl (fun _ _ => inbL_of rfl) (fun _ _ => blkinb_of rfl) (fun _ _ => Nat.le_of_ble_eq_true rfl) ?_
        clear hx13 h
        rintro ⟨n13, s13⟩ h
        obtain ⟨n13, y13, rfl, h, hk13⟩ := iter_eq h
        unfold m4_l09_BufferOver_s13 at h
        refine cseq ?_
        refine cseq ?_
        refine cregion ?_
        refine sv rfl (opv_mv rfl) ?_
        refine sv rfl (opv_fieldAddr_lp fi27_0 rfl) ?_
        refine sv rfl (opv_load1 ti22 rfl (.lp _ _ _ rfl) rfl) ?_
        refine sv rfl (opv_len_sl si22 rfl) ?_
        refine sv rfl (opv_lss rfl rfl) ?_
        refine snil ?_
        refine ccond rfl (fun hc => ?_) (fun hc => ?_)
        · replace h := ite_t hc h
          clear hc
          refine cskip ?_
          refine then_normal ?_
          refine cseq ?_
          refine cblock ?_
          refine cseq ?_
          refine cregion ?_
          refine sv rfl (opv_as rfl) ?_
          refine snil ?_
          refine cseq ?_
          refine cseq ?_
          refine cregion ?_
          refine sv rfl (opv_as rfl) ?_
          refine snil ?_
          refine cjoin (Bool) (fun b14 => [(1, .s (.one (.sl a1.length (a1.flatMap eGApiKV)))), (5, .s (.one (.lp 0 0))), (7, .s (.one (.b v1))), (8, .s (.one (.lp 1 0))), (9, .s (.one (.sl v4.length (v4.flatMap eGApiKV)))), (10, .s (.one (.i .i64 s13.1))), (15, .s (.one (.i .i64 s13.2))), (16, .s (.one (.b b14)))]) (fun b14 => [.box [.sl a2.Lo.length (a2.Lo.flatMap eU8), .sl a2.Hi.length (a2.Hi.flatMap eU8), .b a2.Open], .box [.sl v3.L.length (v3.L.flatMap eGApiWrite)]]) (fun b14 => m4_l09_BufferOver_k14 a2 v3 v4 s13 b14 = some y13) (fun _ _ => inbL_of rfl) (fun _ _ => blkinb_of rfl) (fun _ _ => Nat.le_of_ble_eq_true rfl) (fun b14 h => ?_) ?_
          · unfold m4_l09_BufferOver_k14 at h
            refine cseq ?_
            refine cseq ?_
            refine cjoin3 (Unit) (fun b15 => [(1, .s (.one (.sl a1.length (a1.flatMap eGApiKV)))), (5, .s (.one (.lp 0 0))), (7, .s (.one (.b v1))), (8, .s (.one (.lp 1 0))), (9, .s (.one (.sl v4.length (v4.flatMap eGApiKV)))), (10, .s (.one (.i .i64 s13.1))), (15, .s (.one (.i .i64 s13.2)))]) (fun b15 => [.box [.sl a2.Lo.length (a2.Lo.flatMap eU8), .sl a2.Hi.length (a2.Hi.flatMap eU8), .b a2.Open], .box [.sl v3.L.length (v3.L.flatMap eGApiWrite)]]) (fun b15 => m4_l09_BufferOver_k15 v3 v4 s13 b15 = some y13) (fun _ _ => inbL_of rfl) (fun _ _ => blkinb_of rfl) (fun _ _ => Nat.le_of_ble_eq_true rfl) (fun b15 h => ?_) ?_
            · unfold m4_l09_BufferOver_k15 at h
              refine cseq ?_
              refine cseq ?_
              refine cdraw mixed (by kernel_rfl) ?_
              refine dv rfl (opv_mv rfl) ?_
              refine dv rfl (opv_fieldAddr_lp fi27_0 rfl) ?_
              refine dv rfl (opv_load1 ti22 rfl (.lp _ _ _ rfl) rfl) ?_
              refine dv rfl (opv_mv rfl) ?_
              obtain ⟨u16, hu16, h⟩ := bind_eq h
              refine dv rfl (opv_ix (f := eGApiWrite) si22 (fun _ => rfl) rfl rfl rfl rfl hu16) ?_
              refine dv rfl (opv_fieldAddr_cp fi29_0 rfl) ?_
              refine dv rfl (opv_load1 ti23 rfl (.cp _) rfl) ?_
              refine dv rfl (opv_fieldAddr_lp fi27_0 rfl) ?_
              refine dv rfl (opv_load1 ti22 rfl (.lp _ _ _ rfl) rfl) ?_
              refine dv rfl (opv_mv rfl) ?_
              obtain ⟨u17, hu17, h⟩ := bind_eq h
              refine dv rfl (opv_ix (f := eGApiWrite) si22 (fun _ => rfl) rfl rfl rfl rfl hu17) ?_
              refine dv rfl (opv_fieldAddr_cp fi29_1 rfl) ?_
              refine dv rfl (opv_load1 ti23 rfl (.cp _) rfl) ?_
              obtain ⟨v18, hv18, h⟩ := bind_eq h
              refine dd rfl (opD_call fn20 (opnds_cons rfl (opnds_cons rfl (opnds_cons rfl opnds_nil))) rfl (m20_l09_has_c hv18)) ?_
              refine dv rfl (opv_not rfl) ?_
              refine dnil ?_
              refine then_normal ?_
              refine ccond rfl (fun hc => ?_) (fun hc => ?_)
              · replace h := ite_t hc h
                clear hc
                refine cseq ?_
                refine cregion ?_
                refine sv rfl (opv_as rfl) ?_
                refine snil ?_
                refine cret ?_
                refine then_ret ?_
                refine block_ret ?_
                refine then_ret ?_
                refine then_ret ?_
                refine block_ret ?_
                refine then_ret ?_
                obtain rfl := Option.some.inj h
                obtain rfl : Sum.inl _ = x13 := hk13
                replace ho13 : some _ = some _ := ho13
                obtain rfl := Option.some.inj ho13
                refine ⟨Or.inr rfl, _, _, _, (resVs_cons (ResV.tmp _ _ rfl) resVs_nil), (pubA_id rfl), ?_⟩
                rfl
              · replace h := ite_f hc h
                clear hc
                refine cskip ?_
                refine then_normal ?_
                refine cregion ?_
                refine sv rfl (opv_mv rfl) ?_
                refine sv rfl (opv_add rfl rfl) ?_
                refine sv rfl (opv_as rfl) ?_
                refine snil0 ?_
                refine block_normal ?_
                refine then_normal ?_
                refine cregion ?_
                refine sv rfl (opv_mv rfl) ?_
                refine sv rfl (opv_add rfl rfl) ?_
                refine sv rfl (opv_as rfl) ?_
                refine snil ?_
                obtain rfl := Option.some.inj h
                exact ⟨(n13, ((wI (s13.1 + 1)), (wI (s13.2 + 1)))), _, hk13, ⟨rfl, rfl, rfl, rfl, rfl, rfl, rfl, trivial⟩, rfl, Nat.lt_succ_self _⟩
            · skip
              refine cdraw mixed (by kernel_rfl) ?_
              refine dv rfl (opv_mv rfl) ?_
              refine dv rfl (opv_mv rfl) ?_
              refine dsplit 126 rfl (fun hc => ?_) (fun hc => ?_)
              · replace h := ite_t hc h
                clear hc
                refine doff rfl rfl rfl rfl ?_
                refine doff rfl rfl rfl rfl ?_
                refine doff rfl rfl rfl rfl ?_
                refine doff rfl rfl rfl rfl ?_
                refine doff rfl rfl rfl rfl ?_
                refine doff rfl rfl rfl rfl ?_
                refine dv rfl (opv_pick_t rfl rfl) ?_
                refine dv rfl (opv_mv rfl) ?_
                refine doff rfl rfl rfl rfl ?_
                refine doff rfl rfl rfl rfl ?_
                refine doff rfl rfl rfl rfl ?_
                refine doff rfl rfl rfl rfl ?_
                refine doff rfl rfl rfl rfl ?_
                refine doff rfl rfl rfl rfl ?_
                refine doff rfl rfl rfl rfl ?_
                refine doff rfl rfl rfl rfl ?_
                refine doff rfl rfl rfl rfl ?_
                refine dv rfl (opv_pick_t rfl rfl) ?_
                refine dnil ?_
                refine then_normal ?_
                refine ccond rfl (fun _ => ?_) (fun hx => Bool.noConfusion hx)
                refine cexit ?_
                refine then_exit ?_
                refine block_hit ?_
                refine then_normal ?_
                refine cregion ?_
                refine sv rfl (opv_mv rfl) ?_
                refine sv rfl (opv_add rfl rfl) ?_
                refine sv rfl (opv_as rfl) ?_
                refine snil ?_
                obtain rfl := Option.some.inj h
                exact ⟨(n13, (s13.1, (wI (s13.2 + 1)))), _, hk13, ⟨rfl, rfl, rfl, rfl, rfl, rfl, rfl, trivial⟩, rfl, Nat.lt_succ_self _⟩
              · replace h := ite_f hc h
                clear hc
                refine dvg rfl rfl rfl (opv_fieldAddr_lp fi27_0 rfl) ?_
                refine dvg rfl rfl rfl (opv_load1 ti22 rfl (.lp _ _ _ rfl) rfl) ?_
                refine dvg rfl rfl rfl (opv_mv rfl) ?_
                obtain ⟨u19, hu19, h⟩ := bind_eq h
                refine dvg rfl rfl rfl (opv_ix (f := eGApiWrite) si22 (fun _ => rfl) rfl rfl rfl rfl hu19) ?_
                refine dvg rfl rfl rfl (opv_fieldAddr_cp fi29_2 rfl) ?_
                refine dvg rfl rfl rfl (opv_load1 ti4 rfl (.cp _) rfl) ?_
                refine dv rfl (opv_pick_f rfl rfl) ?_
                refine dv rfl (opv_mv rfl) ?_
                refine dsplit 134 rfl (fun hc => ?_) (fun hc => ?_)
                · replace h := ite_t hc h
                  clear hc
                  refine doff rfl rfl rfl rfl ?_
                  refine doff rfl rfl rfl rfl ?_
                  refine doff rfl rfl rfl rfl ?_
                  refine doff rfl rfl rfl rfl ?_
                  refine doff rfl rfl rfl rfl ?_
                  refine doff rfl rfl rfl rfl ?_
                  refine doff rfl rfl rfl rfl ?_
                  refine doff rfl rfl rfl rfl ?_
                  refine doff rfl rfl rfl rfl ?_
                  refine dv rfl (opv_pick_t rfl rfl) ?_
                  refine dnil ?_
                  refine then_normal ?_
                  refine ccond rfl (fun _ => ?_) (fun hx => Bool.noConfusion hx)
                  refine cexit ?_
                  refine then_exit ?_
                  refine block_hit ?_
                  refine then_normal ?_
                  refine cregion ?_
                  refine sv rfl (opv_mv rfl) ?_
                  refine sv rfl (opv_add rfl rfl) ?_
                  refine sv rfl (opv_as rfl) ?_
                  refine snil ?_
                  obtain rfl := Option.some.inj h
                  exact ⟨(n13, (s13.1, (wI (s13.2 + 1)))), _, hk13, ⟨rfl, rfl, rfl, rfl, rfl, rfl, rfl, trivial⟩, rfl, Nat.lt_succ_self _⟩
                · replace h := ite_f hc h
                  clear hc
                  refine dvg rfl rfl rfl (opv_loadN ti40 rfl (.lp _ _ _ rfl) (Nat.le_of_ble_eq_true rfl)) ?_
                  refine dvg rfl rfl rfl (opv_fieldAddr_lp fi27_0 rfl) ?_
                  refine dvg rfl rfl rfl (opv_load1 ti22 rfl (.lp _ _ _ rfl) rfl) ?_
                  refine dvg rfl rfl rfl (opv_mv rfl) ?_
                  obtain ⟨u20, hu20, h⟩ := bind_eq h
                  refine dvg rfl rfl rfl (opv_ix (f := eGApiWrite) si22 (fun _ => rfl) rfl rfl rfl rfl hu20) ?_
                  refine dvg rfl rfl rfl (opv_fieldAddr_cp fi29_0 rfl) ?_
                  refine dvg rfl rfl rfl (opv_load1 ti23 rfl (.cp _) rfl) ?_
                  obtain ⟨v21, hv21, h⟩ := bind_eq h
                  refine ddg rfl rfl rfl (opD_call fn19 (opnds_cons rfl (opnds_cons rfl opnds_nil)) rfl (m19_r06_Has_c hv21)) ?_
                  refine dvg rfl rfl rfl (opv_not rfl) ?_
                  refine dv rfl (opv_pick_f rfl rfl) ?_
                  refine dnil ?_
                  refine then_normal ?_
                  refine ccond rfl (fun hc => ?_) (fun hc => ?_)
                  · replace h := ite_t hc h
                    clear hc
                    refine cexit ?_
                    refine then_exit ?_
                    refine block_hit ?_
                    refine then_normal ?_
                    refine cregion ?_
                    refine sv rfl (opv_mv rfl) ?_
                    refine sv rfl (opv_add rfl rfl) ?_
                    refine sv rfl (opv_as rfl) ?_
                    refine snil ?_
                    obtain rfl := Option.some.inj h
                    exact ⟨(n13, (s13.1, (wI (s13.2 + 1)))), _, hk13, ⟨rfl, rfl, rfl, rfl, rfl, rfl, rfl, trivial⟩, rfl, Nat.lt_succ_self _⟩
                  · replace h := ite_f hc h
                    clear hc
                    refine cskip ?_
                    refine then_normal ?_
                    exact ⟨(), _, h, ⟨rfl, rfl, rfl, rfl, rfl, rfl, rfl, trivial⟩, rfl⟩
          · skip
            refine cblock ?_
            obtain ⟨x22, hx22, ho22⟩ := bind_eq h
            refine awc_loop (G := Nat × (Bool × Int)) (fun g => [(1, .s (.one (.sl a1.length (a1.flatMap eGApiKV)))), (5, .s (.one (.lp 0 0))), (7, .s (.one (.b v1))), (8, .s (.one (.lp 1 0))), (9, .s (.one (.sl v4.length (v4.flatMap eGApiKV)))), (10, .s (.one (.i .i64 s13.1))), (15, .s (.one (.i .i64 s13.2))), (16, .s (.one (.b g.2.1))), (17, .s (.one (.i .i64 g.2.2)))]) (fun g => [.box [.sl a2.Lo.length (a2.Lo.flatMap eU8), .sl a2.Hi.length (a2.Hi.flatMap eU8), .b a2.Open], .box [.sl v3.L.length (v3.L.flatMap eGApiWrite)]]) (fun g => iterB (m4_l09_BufferOver_s22 a1 v3 s13) g.1 g.2 = some x22) (fun g => g.1) (fuel, (false, 0)) hx22 ⟨rfl, rfl, rfl, rfl, rfl, rfl, rfl, rfl, rfl, trivial⟩ [] rfl (fun _ _ => inbL_of rfl) (fun _ _ => blkinb_of rfl) (fun _ _ => Nat.le_of_ble_eq_true rfl) ?_
            clear hx22 h
            rintro ⟨n22, s22⟩ h
            obtain ⟨n22, y22, rfl, h, hk22⟩ := iterB_eq h
            unfold m4_l09_BufferOver_s22 at h
            refine cseq ?_
            refine cseq ?_
            refine cregion ?_
            refine sv rfl (opv_mv rfl) ?_
            refine sv rfl (opv_mv rfl) ?_
            refine sv rfl (opv_len_sl si38 rfl) ?_
            refine sv rfl (opv_lss rfl rfl) ?_
            refine snil ?_
            refine ccond rfl (fun hc => ?_) (fun hc => ?_)
            · replace h := ite_t hc h
              clear hc
              refine cskip ?_
              refine then_normal ?_
              refine cseq ?_
              refine cblock ?_
              refine cdrawL mixed (by kernel_rfl) ?_
              refine dv rfl (opv_mv rfl) ?_
              refine dv rfl (opv_mv rfl) ?_
              refine dsplit 109 rfl (fun hc => ?_) (fun hc => ?_)
              · replace h := ite_t hc h
                clear hc
                refine doff rfl rfl rfl rfl ?_
                refine doff rfl rfl rfl rfl ?_
                refine doff rfl rfl rfl rfl ?_
                refine doff rfl rfl rfl rfl ?_
                refine doff rfl rfl rfl rfl ?_
                refine doff rfl rfl rfl rfl ?_
                refine doff rfl rfl rfl rfl ?_
                refine doff rfl rfl rfl rfl ?_
                refine doff rfl rfl rfl rfl ?_
                refine doff rfl rfl rfl rfl ?_
                refine doff rfl rfl rfl rfl ?_
                refine doff rfl rfl rfl rfl ?_
                refine doff rfl rfl rfl rfl ?_
                refine doff rfl rfl rfl rfl ?_
                refine dv rfl (opv_pick_t rfl rfl) ?_
                refine dv rfl (opv_as rfl) ?_
                refine dnil ?_
                refine block_normal ?_
                refine then_normal ?_
                refine cregion ?_
                refine sv rfl (opv_mv rfl) ?_
                refine sv rfl (opv_add rfl rfl) ?_
                refine sv rfl (opv_as rfl) ?_
                refine snil ?_
                obtain rfl := Option.some.inj h
                exact ⟨(n22, (true, (wI (s22.2 + 1)))), _, hk22, ⟨rfl, rfl, rfl, rfl, rfl, rfl, rfl, rfl, rfl, trivial⟩, rfl, Nat.lt_succ_self _⟩
              · replace h := ite_f hc h
                clear hc
                refine dvg rfl rfl rfl (opv_mv rfl) ?_
                refine dvg rfl rfl rfl (opv_mv rfl) ?_
                obtain ⟨u23, hu23, h⟩ := bind_eq h
                refine dvg rfl rfl rfl (opv_ix (f := eGApiKV) si38 (fun _ => rfl) rfl rfl rfl rfl hu23) ?_
                refine dvg rfl rfl rfl (opv_fieldAddr_cp fi46_0 rfl) ?_
                refine dvg rfl rfl rfl (opv_load1 ti23 rfl (.cp _) rfl) ?_
                refine dvg rfl rfl rfl (opv_bs (l := u23.Key) Try.underlying23 Try.underlying5 Try.underlying9 rfl rfl rfl) ?_
                refine dvg rfl rfl rfl (opv_fieldAddr_lp fi27_0 rfl) ?_
                refine dvg rfl rfl rfl (opv_load1 ti22 rfl (.lp _ _ _ rfl) rfl) ?_
                refine dvg rfl rfl rfl (opv_mv rfl) ?_
                obtain ⟨u24, hu24, h⟩ := bind_eq h
                refine dvg rfl rfl rfl (opv_ix (f := eGApiWrite) si22 (fun _ => rfl) rfl rfl rfl rfl hu24) ?_
                refine dvg rfl rfl rfl (opv_fieldAddr_cp fi29_0 rfl) ?_
                refine dvg rfl rfl rfl (opv_load1 ti23 rfl (.cp _) rfl) ?_
                refine dvg rfl rfl rfl (opv_bs (l := u24.Key) Try.underlying23 Try.underlying5 Try.underlying9 rfl rfl rfl) ?_
                refine dvg rfl rfl rfl (opv_seql' rfl rfl) ?_
                refine dv rfl (opv_pick_f rfl rfl) ?_
                refine dv rfl (opv_as rfl) ?_
                refine dnil ?_
                refine block_normal ?_
                refine then_normal ?_
                refine cregion ?_
                refine sv rfl (opv_mv rfl) ?_
                refine sv rfl (opv_add rfl rfl) ?_
                refine sv rfl (opv_as rfl) ?_
                refine snil ?_
                obtain rfl := Option.some.inj h
                exact ⟨(n22, ((u23.Key == u24.Key), (wI (s22.2 + 1)))), _, hk22, ⟨rfl, rfl, rfl, rfl, rfl, rfl, rfl, rfl, rfl, trivial⟩, rfl, Nat.lt_succ_self _⟩
            · replace h := ite_f hc h
              clear hc
              refine cexit ?_
              refine then_exit ?_
              refine then_exit ?_
              refine block_hit ?_
              refine then_normal ?_
              obtain rfl := Option.some.inj h
              obtain rfl : _ = x22 := hk22
              exact ⟨s22.1, _, ho22, ⟨rfl, rfl, rfl, rfl, rfl, rfl, rfl, rfl, trivial⟩, rfl⟩
        · replace h := ite_f hc h
          clear hc
          refine cexit ?_
          refine then_exit ?_
          refine then_exit ?_
          refine block_hit ?_
          refine then_normal ?_
          obtain rfl := Option.some.inj h
          obtain rfl : _ = x13 := hk13
          exact ⟨s13.1, _, ho13, ⟨rfl, rfl, rfl, rfl, rfl, rfl, trivial⟩, rfl⟩
    · skip
      refine cblock ?_
      obtain ⟨x27, hx27, ho27⟩ := bind_eq h
      refine awc_loop (G := Nat × (Int × Int)) (fun g => [(1, .s (.one (.sl a1.length (a1.flatMap eGApiKV)))), (5, .s (.one (.lp 0 0))), (7, .s (.one (.b v1))), (8, .s (.one (.lp 1 0))), (9, .s (.one (.sl v4.length (v4.flatMap eGApiKV)))), (10, .s (.one (.i .i64 g.2.1))), (11, .s (.one (.i .i64 g.2.2)))]) (fun g => [.box [.sl a2.Lo.length (a2.Lo.flatMap eU8), .sl a2.Hi.length (a2.Hi.flatMap eU8), .b a2.Open], .box [.sl v3.L.length (v3.L.flatMap eGApiWrite)]]) (fun g => iter (m4_l09_BufferOver_s27 a1 a2 v3 v4) g.1 g.2 = some x27) (fun g => g.1) (fuel, (0, 0)) hx27 ⟨rfl, rfl, rfl, rfl, rfl, rfl, rfl, trivial⟩ [] rfl (fun _ _ => inbL_of rfl) (fun _ _ => blkinb_of rfl) (fun _ _ => Nat.le_of_ble_eq_true rfl) ?_
      clear hx27 h
      rintro ⟨n27, s27⟩ h
      obtain ⟨n27, y27, rfl, h, hk27⟩ := iter_eq h
      unfold m4_l09_BufferOver_s27 at h
      refine cseq ?_
      refine cseq ?_
      refine cregion ?_
      refine sv rfl (opv_mv rfl) ?_
      refine sv rfl (opv_mv rfl) ?_
      refine sv rfl (opv_len_sl si38 rfl) ?_
      refine sv rfl (opv_lss rfl rfl) ?_
      refine snil ?_
      refine ccond rfl (fun hc => ?_) (fun hc => ?_)
      · replace h := ite_t hc h
        clear hc
        refine cskip ?_
        refine then_normal ?_
        refine cseq ?_
        refine cblock ?_
        refine cseq ?_
        refine chole ?_
        obtain ⟨u28, hu28, h⟩ := bind_eq h
        obtain ⟨v29, hv29, h⟩ := bind_eq h
        refine cdraw_e [10, 11] [0, 0, 0, 6, 14, 30, 63, 127, 255, 255, 0, 1535, 4095] [[.box [.sl a2.Lo.length (a2.Lo.flatMap eU8), .sl a2.Hi.length (a2.Hi.flatMap eU8), .b a2.Open], .box [.sl v3.L.length (v3.L.flatMap eGApiWrite)], .hole], [.box [.sl a2.Lo.length (a2.Lo.flatMap eU8), .sl a2.Hi.length (a2.Hi.flatMap eU8), .b a2.Open], .box [.sl v3.L.length (v3.L.flatMap eGApiWrite)], .box [.raw (.slice none 0 0), .raw (.slice none 0 0), .b false]], [.box [.sl a2.Lo.length (a2.Lo.flatMap eU8), .sl a2.Hi.length (a2.Hi.flatMap eU8), .b a2.Open], .box [.sl v3.L.length (v3.L.flatMap eGApiWrite)], .box [.sl v29.1.Key.length (v29.1.Key.flatMap eU8), .sl v29.1.Val.length (v29.1.Val.flatMap eU8), .b v29.1.Del]]] (by kernel_rfl) mixed (by kernel_rfl) (by decide) rfl rfl rfl rfl ?_
        refine ev (sees_all (md := [.box [.sl a2.Lo.length (a2.Lo.flatMap eU8), .sl a2.Hi.length (a2.Hi.flatMap eU8), .b a2.Open], .box [.sl v3.L.length (v3.L.flatMap eGApiWrite)], .dead]) ⟨⟨rfl, ⟨rfl, ⟨trivial, trivial⟩⟩⟩, ⟨⟨rfl, ⟨rfl, ⟨trivial, trivial⟩⟩⟩, ⟨⟨rfl, ⟨rfl, ⟨trivial, trivial⟩⟩⟩, trivial⟩⟩⟩) rfl rfl (opv_loadN ti27 rfl (.lp _ _ _ rfl) (Nat.le_of_ble_eq_true rfl)) ?_
        refine emv rfl rfl (fun _ => opv_mv rfl) ?_
        refine emv rfl rfl (fun _ => opv_mv rfl) ?_
        refine ev (sees_all (md := [.box [.sl a2.Lo.length (a2.Lo.flatMap eU8), .sl a2.Hi.length (a2.Hi.flatMap eU8), .b a2.Open], .box [.sl v3.L.length (v3.L.flatMap eGApiWrite)], .dead]) ⟨⟨rfl, ⟨rfl, ⟨trivial, trivial⟩⟩⟩, ⟨⟨rfl, ⟨rfl, ⟨trivial, trivial⟩⟩⟩, ⟨⟨rfl, ⟨rfl, ⟨trivial, trivial⟩⟩⟩, trivial⟩⟩⟩) rfl rfl (opv_ix (f := eGApiKV) si38 (fun _ => rfl) rfl rfl rfl rfl hu28) ?_
        refine ev (sees_all (md := [.box [.sl a2.Lo.length (a2.Lo.flatMap eU8), .sl a2.Hi.length (a2.Hi.flatMap eU8), .b a2.Open], .box [.sl v3.L.length (v3.L.flatMap eGApiWrite)], .dead]) ⟨⟨rfl, ⟨rfl, ⟨trivial, trivial⟩⟩⟩, ⟨⟨rfl, ⟨rfl, ⟨trivial, trivial⟩⟩⟩, ⟨⟨rfl, ⟨rfl, ⟨trivial, trivial⟩⟩⟩, trivial⟩⟩⟩) rfl rfl (opv_fieldAddr_cp fi46_0 rfl) ?_
        refine ev (sees_all (md := [.box [.sl a2.Lo.length (a2.Lo.flatMap eU8), .sl a2.Hi.length (a2.Hi.flatMap eU8), .b a2.Open], .box [.sl v3.L.length (v3.L.flatMap eGApiWrite)], .dead]) ⟨⟨rfl, ⟨rfl, ⟨trivial, trivial⟩⟩⟩, ⟨⟨rfl, ⟨rfl, ⟨trivial, trivial⟩⟩⟩, ⟨⟨rfl, ⟨rfl, ⟨trivial, trivial⟩⟩⟩, trivial⟩⟩⟩) rfl rfl (opv_load1 ti23 rfl (.cp _) rfl) ?_
        refine ed (sees_all (md := [.box [.sl a2.Lo.length (a2.Lo.flatMap eU8), .sl a2.Hi.length (a2.Hi.flatMap eU8), .b a2.Open], .box [.sl v3.L.length (v3.L.flatMap eGApiWrite)], .dead]) ⟨⟨rfl, ⟨rfl, ⟨trivial, trivial⟩⟩⟩, ⟨⟨rfl, ⟨rfl, ⟨trivial, trivial⟩⟩⟩, ⟨⟨rfl, ⟨rfl, ⟨trivial, trivial⟩⟩⟩, trivial⟩⟩⟩) rfl rfl (opD_call fn11 (opnds_cons rfl (opnds_cons rfl opnds_nil)) rfl (m11_buffer_Get_c hv29)) ?_
        refine emv rfl rfl (fun _ => opv_mvt rfl) ?_
        refine ev (sees_all (md := [.box [.sl a2.Lo.length (a2.Lo.flatMap eU8), .sl a2.Hi.length (a2.Hi.flatMap eU8), .b a2.Open], .box [.sl v3.L.length (v3.L.flatMap eGApiWrite)], .dead]) ⟨⟨rfl, ⟨rfl, ⟨trivial, trivial⟩⟩⟩, ⟨⟨rfl, ⟨rfl, ⟨trivial, trivial⟩⟩⟩, ⟨⟨rfl, ⟨rfl, ⟨trivial, trivial⟩⟩⟩, trivial⟩⟩⟩) rfl rfl (opv_extract rfl rfl) ?_
        refine ev (sees_all (md := [.box [.sl a2.Lo.length (a2.Lo.flatMap eU8), .sl a2.Hi.length (a2.Hi.flatMap eU8), .b a2.Open], .box [.sl v3.L.length (v3.L.flatMap eGApiWrite)], .dead]) ⟨⟨rfl, ⟨rfl, ⟨trivial, trivial⟩⟩⟩, ⟨⟨rfl, ⟨rfl, ⟨trivial, trivial⟩⟩⟩, ⟨⟨rfl, ⟨rfl, ⟨trivial, trivial⟩⟩⟩, trivial⟩⟩⟩) rfl rfl (opv_extract rfl rfl) ?_
        refine ee (x := .s (.one (.lp 2 0))) 0 rfl rfl rfl rfl rfl (fun ζ => ?_) ?_
        · refine salloc_at 2 rfl zi29 rfl ?_
          exact eend
        refine ee0 1 rfl rfl rfl rfl (fun ζ => ?_) ?_
        · refine sstore sz29 rfl rfl rfl rfl (Nat.le_of_ble_eq_true rfl) ?_
          refine smem [.box [.sl a2.Lo.length (a2.Lo.flatMap eU8), .sl a2.Hi.length (a2.Hi.flatMap eU8), .b a2.Open], .box [.sl v3.L.length (v3.L.flatMap eGApiWrite)], .box [.sl v29.1.Key.length (v29.1.Key.flatMap eU8), .sl v29.1.Val.length (v29.1.Val.flatMap eU8), .b v29.1.Del]] rfl ?_
          exact eend
        refine ev (sees_at 2 rfl rfl) rfl rfl (opv_as rfl) ?_
        refine enil ?_
        refine then_normal ?_
        refine cseq ?_
        refine cseq ?_
        refine cjoin3 (Unit) (fun b30 => [(1, .s (.one (.sl a1.length (a1.flatMap eGApiKV)))), (5, .s (.one (.lp 0 0))), (7, .s (.one (.b v1))), (8, .s (.one (.lp 1 0))), (9, .s (.one (.sl v4.length (v4.flatMap eGApiKV)))), (10, .s (.one (.i .i64 s27.1))), (11, .s (.one (.i .i64 s27.2))), (12, .s (.one (.lp 2 0))), (13, .s (.one (.b v29.2)))]) (fun b30 => [.box [.sl a2.Lo.length (a2.Lo.flatMap eU8), .sl a2.Hi.length (a2.Hi.flatMap eU8), .b a2.Open], .box [.sl v3.L.length (v3.L.flatMap eGApiWrite)], .box [.sl v29.1.Key.length (v29.1.Key.flatMap eU8), .sl v29.1.Val.length (v29.1.Val.flatMap eU8), .b v29.1.Del]]) (fun b30 => m4_l09_BufferOver_k30 a1 v4 s27 v29 b30 = some y27) (fun _ _ => inbL_of rfl) (fun _ _ => blkinb_of rfl) (fun _ _ => Nat.le_of_ble_eq_true rfl) (fun b30 h => ?_) ?_
        · unfold m4_l09_BufferOver_k30 at h
          refine cseq ?_
          refine cregion ?_
          refine sv rfl (opv_mv rfl) ?_
          refine sv rfl (opv_mv rfl) ?_
          obtain ⟨u31, hu31, h⟩ := bind_eq h
          refine sv rfl (opv_ix (f := eGApiKV) si38 (fun _ => rfl) rfl rfl rfl rfl hu31) ?_
          refine sv rfl (opv_fieldAddr_cp fi46_1 rfl) ?_
          refine sv rfl (opv_load1 ti23 rfl (.cp _) rfl) ?_
          refine sv rfl (opv_as rfl) ?_
          refine snil ?_
          refine cseq ?_
          refine cseq ?_
          refine cregion ?_
          refine sv rfl (opv_mv rfl) ?_
          refine snil ?_
          refine cjoin ((List UInt8)) (fun b32 => [(1, .s (.one (.sl a1.length (a1.flatMap eGApiKV)))), (5, .s (.one (.lp 0 0))), (7, .s (.one (.b v1))), (8, .s (.one (.lp 1 0))), (9, .s (.one (.sl v4.length (v4.flatMap eGApiKV)))), (10, .s (.one (.i .i64 s27.1))), (11, .s (.one (.i .i64 s27.2))), (14, .s (.one (.sl b32.length (b32.flatMap eU8))))]) (fun b32 => [.box [.sl a2.Lo.length (a2.Lo.flatMap eU8), .sl a2.Hi.length (a2.Hi.flatMap eU8), .b a2.Open], .box [.sl v3.L.length (v3.L.flatMap eGApiWrite)], .box [.sl v29.1.Key.length (v29.1.Key.flatMap eU8), .sl v29.1.Val.length (v29.1.Val.flatMap eU8), .b v29.1.Del]]) (fun b32 => m4_l09_BufferOver_k32 a1 v4 s27 b32 = some y27) (fun _ _ => inbL_of rfl) (fun _ _ => blkinb_of rfl) (fun _ _ => Nat.le_of_ble_eq_true rfl) (fun b32 h => ?_) ?_
          · unfold m4_l09_BufferOver_k32 at h
            refine cseq ?_
            refine cseq ?_
            refine cregion ?_
            refine sv rfl (opv_mv rfl) ?_
            refine sv rfl (opv_mv rfl) ?_
            refine sv rfl (opv_mv rfl) ?_
            obtain ⟨u33, hu33, h⟩ := bind_eq h
            refine sv rfl (opv_ix (f := eGApiKV) si38 (fun _ => rfl) rfl rfl rfl rfl hu33) ?_
            refine sv rfl (opv_fieldAddr_cp fi46_0 rfl) ?_
            refine sv rfl (opv_load1 ti23 rfl (.cp _) rfl) ?_
            refine sv rfl (opv_mv rfl) ?_
            obtain ⟨v34, hv34, h⟩ := bind_eq h
            refine scall1 rfl fn20 (opnds_cons rfl (opnds_cons rfl (opnds_cons rfl opnds_nil))) (pubA_id rfl) (m20_l09_has_c hv34) ?_
            refine sv rfl (opv_not rfl) ?_
            refine snil ?_
            refine ccond rfl (fun hc => ?_) (fun hc => ?_)
            · replace h := ite_t hc h
              clear hc
              refine cseq ?_
              refine cregion ?_
              refine sv rfl (opv_as rfl) ?_
              refine snil ?_
              refine cret ?_
              refine then_ret ?_
              refine block_ret ?_
              refine then_ret ?_
              refine then_ret ?_
              refine block_ret ?_
              refine then_ret ?_
              obtain rfl := Option.some.inj h
              obtain rfl : Sum.inl _ = x27 := hk27
              replace ho27 : some _ = some _ := ho27
              obtain rfl := Option.some.inj ho27
              refine ⟨Or.inr rfl, _, _, _, (resVs_cons (ResV.tmp _ _ rfl) resVs_nil), (pubA_id rfl), ?_⟩
              rfl
            · replace h := ite_f hc h
              clear hc
              refine cskip ?_
              refine then_normal ?_
              refine cregion ?_
              refine sv rfl (opv_mv rfl) ?_
              refine sv rfl (opv_add rfl rfl) ?_
              refine sv rfl (opv_as rfl) ?_
              refine snil0 ?_
              refine block_normal ?_
              refine then_normal ?_
              refine cregion ?_
              refine sv rfl (opv_mv rfl) ?_
              refine sv rfl (opv_add rfl rfl) ?_
              refine sv rfl (opv_as rfl) ?_
              refine snil ?_
              obtain rfl := Option.some.inj h
              exact ⟨(n27, ((wI (s27.1 + 1)), (wI (s27.2 + 1)))), _, hk27, ⟨rfl, rfl, rfl, rfl, rfl, rfl, rfl, trivial⟩, rfl, Nat.lt_succ_self _⟩
          · skip
            refine ccond rfl (fun hc => ?_) (fun hc => ?_)
            · replace h := ite_t hc h
              clear hc
              refine cregion ?_
              refine sv rfl (opv_fieldAddr_lp fi29_1 rfl) ?_
              refine sv rfl (opv_load1 ti23 rfl (.lp _ _ _ rfl) rfl) ?_
              refine sv rfl (opv_as rfl) ?_
              refine snil ?_
              exact ⟨v29.1.Val, _, h, ⟨rfl, rfl, rfl, rfl, rfl, rfl, rfl, rfl, trivial⟩, rfl⟩
            · replace h := ite_f hc h
              clear hc
              refine cskip ?_
              refine then_normal ?_
              exact ⟨u31.Val, _, h, ⟨rfl, rfl, rfl, rfl, rfl, rfl, rfl, rfl, trivial⟩, rfl⟩
        · skip
          refine cdraw mixed (by kernel_rfl) ?_
          refine dv rfl (opv_loadN ti40 rfl (.lp _ _ _ rfl) (Nat.le_of_ble_eq_true rfl)) ?_
          refine dv rfl (opv_mv rfl) ?_
          refine dv rfl (opv_mv rfl) ?_
          obtain ⟨u35, hu35, h⟩ := bind_eq h
          refine dv rfl (opv_ix (f := eGApiKV) si38 (fun _ => rfl) rfl rfl rfl rfl hu35) ?_
          refine dv rfl (opv_fieldAddr_cp fi46_0 rfl) ?_
          refine dv rfl (opv_load1 ti23 rfl (.cp _) rfl) ?_
          obtain ⟨v36, hv36, h⟩ := bind_eq h
          refine dd rfl (opD_call fn19 (opnds_cons rfl (opnds_cons rfl opnds_nil)) rfl (m19_r06_Has_c hv36)) ?_
          refine dv rfl (opv_not rfl) ?_
          refine dv rfl (opv_mv rfl) ?_
          refine dsplit 69 rfl (fun hc => ?_) (fun hc => ?_)
          · replace h := ite_t hc h
            clear hc
            refine doff rfl rfl rfl rfl ?_
            refine doff rfl rfl rfl rfl ?_
            refine doffu rfl rfl rfl ?_
            refine doffu rfl rfl rfl ?_
            refine doff rfl rfl rfl rfl ?_
            refine dv rfl (opv_pick_t rfl rfl) ?_
            refine dnil ?_
            refine then_normal ?_
            refine ccond rfl (fun _ => ?_) (fun hx => Bool.noConfusion hx)
            refine cexit ?_
            refine then_exit ?_
            refine block_hit ?_
            refine then_normal ?_
            refine cregion ?_
            refine sv rfl (opv_mv rfl) ?_
            refine sv rfl (opv_add rfl rfl) ?_
            refine sv rfl (opv_as rfl) ?_
            refine snil ?_
            obtain rfl := Option.some.inj h
            exact ⟨(n27, (s27.1, (wI (s27.2 + 1)))), _, hk27, ⟨rfl, rfl, rfl, rfl, rfl, rfl, rfl, trivial⟩, rfl, Nat.lt_succ_self _⟩
          · replace h := ite_f hc h
            clear hc
            refine dvg rfl rfl rfl (opv_mv rfl) ?_
            refine dvg rfl rfl rfl (opv_mv rfl) ?_
            refine dsplit 71 rfl (fun hc => ?_) (fun hc => ?_)
            · replace h := ite_t hc h
              clear hc
              refine dvg rfl rfl rfl (opv_fieldAddr_lp fi29_2 rfl) ?_
              refine dvg rfl rfl rfl (opv_load1 ti4 rfl (.lp _ _ _ rfl) rfl) ?_
              refine dvg rfl rfl rfl (opv_pick_t rfl rfl) ?_
              refine dv rfl (opv_pick_f rfl rfl) ?_
              refine dnil ?_
              refine then_normal ?_
              refine ccond rfl (fun hc => ?_) (fun hc => ?_)
              · replace h := ite_t hc h
                clear hc
                refine cexit ?_
                refine then_exit ?_
                refine block_hit ?_
                refine then_normal ?_
                refine cregion ?_
                refine sv rfl (opv_mv rfl) ?_
                refine sv rfl (opv_add rfl rfl) ?_
                refine sv rfl (opv_as rfl) ?_
                refine snil ?_
                obtain rfl := Option.some.inj h
                exact ⟨(n27, (s27.1, (wI (s27.2 + 1)))), _, hk27, ⟨rfl, rfl, rfl, rfl, rfl, rfl, rfl, trivial⟩, rfl, Nat.lt_succ_self _⟩
              · replace h := ite_f hc h
                clear hc
                refine cskip ?_
                refine then_normal ?_
                exact ⟨(), _, h, ⟨rfl, rfl, rfl, rfl, rfl, rfl, rfl, rfl, rfl, trivial⟩, rfl⟩
            · replace h := ite_f hc h
              clear hc
              refine doff rfl rfl rfl rfl ?_
              refine doff rfl rfl rfl rfl ?_
              refine dvg rfl rfl rfl (opv_pick_f rfl rfl) ?_
              refine dv rfl (opv_pick_f rfl rfl) ?_
              refine dnil ?_
              refine then_normal ?_
              refine ccond rfl (fun hx => Bool.noConfusion hx) (fun _ => ?_)
              refine cskip ?_
              refine then_normal ?_
              exact ⟨(), _, h, ⟨rfl, rfl, rfl, rfl, rfl, rfl, rfl, rfl, rfl, trivial⟩, rfl⟩
      · replace h := ite_f hc h
        clear hc
        refine cexit ?_
        refine then_exit ?_
        refine then_exit ?_
        refine block_hit ?_
        refine then_normal ?_
        obtain rfl := Option.some.inj h
        obtain rfl : _ = x27 := hk27
        exact ⟨s27.1, _, ho27, ⟨rfl, rfl, rfl, rfl, rfl, rfl, trivial⟩, rfl⟩
  · skip
    refine cregion ?_
    refine sv rfl (opv_mv rfl) ?_
    obtain ⟨v38, hv38, h⟩ := bind_eq h
    refine scall1 rfl fn9 (opnds_cons rfl opnds_nil) (pubA_id rfl) (m9_r08_FewWrites_c hv38) ?_
    refine sv rfl (opv_not rfl) ?_
    refine sv rfl (opv_mv rfl) ?_
    refine ssplit 23 rfl (fun hc => ?_) (fun hc => ?_)
    · replace h := ite_t hc h
      clear hc
      refine soff rfl rfl rfl rfl ?_
      refine soff rfl rfl rfl rfl ?_
      refine soff rfl rfl rfl rfl ?_
      refine sv rfl (opv_pick_t rfl rfl) ?_
      refine sv rfl (opv_mv rfl) ?_
      refine soff rfl rfl rfl rfl ?_
      refine soff rfl rfl rfl rfl ?_
      refine soff rfl rfl rfl rfl ?_
      refine sv rfl (opv_pick_t rfl rfl) ?_
      refine sv rfl (opv_mv rfl) ?_
      refine soff rfl rfl rfl rfl ?_
      refine soff rfl rfl rfl rfl ?_
      refine soff rfl rfl rfl rfl ?_
      refine sv rfl (opv_pick_t rfl rfl) ?_
      refine snil ?_
      refine ccond rfl (fun _ => ?_) (fun hx => Bool.noConfusion hx)
      refine cseq ?_
      refine cregion ?_
      refine sv rfl (opv_mv rfl) ?_
      refine sv rfl (opv_as rfl) ?_
      refine snil ?_
      refine cret ?_
      refine then_ret ?_
      obtain rfl := Option.some.inj h
      refine ⟨Or.inr rfl, _, _, _, (resVs_cons (ResV.tmp _ _ rfl) resVs_nil), (pubA_id rfl), ?_⟩
      rfl
    · replace h := ite_f hc h
      clear hc
      refine son rfl rfl rfl ?_
      refine sv rfl (opv_mv rfl) ?_
      refine son rfl rfl rfl ?_
      obtain ⟨v39, hv39, h⟩ := bind_eq h
      refine scall1 rfl fn14 (opnds_cons rfl opnds_nil) (pubA_id rfl) (m14_l09_short_c hv39) ?_
      refine son rfl rfl rfl ?_
      refine sv rfl (opv_not rfl) ?_
      refine sv rfl (opv_pick_f rfl rfl) ?_
      refine sv rfl (opv_mv rfl) ?_
      refine ssplit 28 rfl (fun hc => ?_) (fun hc => ?_)
      · replace h := ite_t hc h
        clear hc
        refine soff rfl rfl rfl rfl ?_
        refine soff rfl rfl rfl rfl ?_
        refine soff rfl rfl rfl rfl ?_
        refine sv rfl (opv_pick_t rfl rfl) ?_
        refine sv rfl (opv_mv rfl) ?_
        refine soff rfl rfl rfl rfl ?_
        refine soff rfl rfl rfl rfl ?_
        refine soff rfl rfl rfl rfl ?_
        refine sv rfl (opv_pick_t rfl rfl) ?_
        refine snil ?_
        refine ccond rfl (fun _ => ?_) (fun hx => Bool.noConfusion hx)
        refine cseq ?_
        refine cregion ?_
        refine sv rfl (opv_mv rfl) ?_
        refine sv rfl (opv_as rfl) ?_
        refine snil ?_
        refine cret ?_
        refine then_ret ?_
        obtain rfl := Option.some.inj h
        refine ⟨Or.inr rfl, _, _, _, (resVs_cons (ResV.tmp _ _ rfl) resVs_nil), (pubA_id rfl), ?_⟩
        rfl
      · replace h := ite_f hc h
        clear hc
        refine son rfl rfl rfl ?_
        refine sv rfl (opv_loadN ti40 rfl (.lp _ _ _ rfl) (Nat.le_of_ble_eq_true rfl)) ?_
        refine son rfl rfl rfl ?_
        obtain ⟨v40, hv40, h⟩ := bind_eq h
        refine scall1 rfl fn15 (opnds_cons rfl opnds_nil) (pubA_id rfl) (m15_r06_Short_c hv40) ?_
        refine son rfl rfl rfl ?_
        refine sv rfl (opv_not rfl) ?_
        refine sv rfl (opv_pick_f rfl rfl) ?_
        refine sv rfl (opv_mv rfl) ?_
        refine ssplit 33 rfl (fun hc => ?_) (fun hc => ?_)
        · replace h := ite_t hc h
          clear hc
          refine soff rfl rfl rfl rfl ?_
          refine soff rfl rfl rfl rfl ?_
          refine soff rfl rfl rfl rfl ?_
          refine sv rfl (opv_pick_t rfl rfl) ?_
          refine snil ?_
          refine ccond rfl (fun _ => ?_) (fun hx => Bool.noConfusion hx)
          refine cseq ?_
          refine cregion ?_
          refine sv rfl (opv_mv rfl) ?_
          refine sv rfl (opv_as rfl) ?_
          refine snil ?_
          refine cret ?_
          refine then_ret ?_
          obtain rfl := Option.some.inj h
          refine ⟨Or.inr rfl, _, _, _, (resVs_cons (ResV.tmp _ _ rfl) resVs_nil), (pubA_id rfl), ?_⟩
          rfl
        · replace h := ite_f hc h
          clear hc
          refine son rfl rfl rfl ?_
          refine sv rfl (opv_mv rfl) ?_
          refine son rfl rfl rfl ?_
          obtain ⟨v41, hv41, h⟩ := bind_eq h
          refine scall1 rfl fn16 (opnds_cons rfl opnds_nil) (pubA_id rfl) (m16_r09_Rising_c hv41) ?_
          refine son rfl rfl rfl ?_
          refine sv rfl (opv_not rfl) ?_
          refine sv rfl (opv_pick_f rfl rfl) ?_
          refine snil ?_
          refine ccond rfl (fun hc => ?_) (fun hc => ?_)
          · replace h := ite_t hc h
            clear hc
            refine cseq ?_
            refine cregion ?_
            refine sv rfl (opv_mv rfl) ?_
            refine sv rfl (opv_as rfl) ?_
            refine snil ?_
            refine cret ?_
            refine then_ret ?_
            obtain rfl := Option.some.inj h
            refine ⟨Or.inr rfl, _, _, _, (resVs_cons (ResV.tmp _ _ rfl) resVs_nil), (pubA_id rfl), ?_⟩
            rfl
          · replace h := ite_f hc h
            clear hc
            refine cskip ?_
            refine then_normal ?_
            exact ⟨(), _, h, ⟨rfl, rfl, rfl, rfl, trivial⟩, rfl⟩

def m5_l09_BufferFull_k2 (a0 : Int) (a1 : List UInt8) (v1 : Bool) (b2 : (List GApiWrite)) : Option Bool :=
  (m10_buffer_Set (GBufferBuf.mk b2) (GApiWrite.mk [(UInt8.ofBitVec (BitVec.ofInt 8 (wI (97 + (wI ((BitVec.ofInt 64 a0 &&& BitVec.ofInt 64 31).toNat : Int))))))] a1 false)).bind fun v3 => if (decide (16 ≤ (wI ((BitVec.ofInt 64 a0 &&& BitVec.ofInt 64 31).toNat : Int)))) then (if v1 then (if (decide (v3.2 = 8)) then (some (decide ((v3.1.L.length : Int) = 0))) else (some false)) else (some false)) else ((m11_buffer_Get v3.1 [(UInt8.ofBitVec (BitVec.ofInt 8 (wI (97 + (wI ((BitVec.ofInt 64 a0 &&& BitVec.ofInt 64 31).toNat : Int))))))]).bind fun v4 => if v1 then (if (decide (v3.2 = 0)) then (if (decide ((v3.1.L.length : Int) = 16)) then (if v4.2 then (if (v4.1.Val == a1) then (some (decide ((b2.length : Int) = 16))) else (some false)) else (some false)) else (some false)) else (some false)) else (some false))

def m5_l09_BufferFull_s5 (s5 : Int × (List GApiWrite)) : Option (LR (Int × (List GApiWrite)) ((List GApiWrite)) (Bool)) :=
  if (decide (s5.1 < 16)) then ((m10_buffer_Set (GBufferBuf.mk s5.2) (GApiWrite.mk [(UInt8.ofBitVec (BitVec.ofInt 8 (wI (97 + s5.1))))] ([] : List UInt8) false)).bind fun v6 => if (!decide (v6.2 = 0)) then (some (.ret false)) else (some (.cont ((wI (s5.1 + 1)), v6.1.L)))) else (some (.brk s5.2))
def m5_l09_BufferFull (a0 : Int) (a1 : List UInt8) : Option Bool :=
  (m8_l09_awake).bind fun v1 => if (decide (32 < (a1.length : Int))) then (some v1) else ((iter m5_l09_BufferFull_s5 fuel (0, ([] : List GApiWrite))).bind fun x => match x with | .inl r => some r | .inr e7 => m5_l09_BufferFull_k2 a0 a1 v1 e7)

set_option maxRecDepth 100000 in
theorem m5_l09_BufferFull_c {a0 : Int} {a1 : List UInt8} {r : Bool} (h : m5_l09_BufferFull a0 a1 = some r) : CallsA Try.prog 5 [.one (.i .i64 a0), .one (.sl a1.length (a1.flatMap eU8))] (· = .s (.one (.b r))) := by
  unfold m5_l09_BufferFull at h
  refine callsA_of Try.func5 rfl (nt := 100) rfl (Nat.le_of_ble_eq_true rfl) ?_
  intro w0 S0
  refine cseq ?_
  refine cregion ?_
  refine sv rfl (opv_as rfl) ?_
  refine snil ?_
  refine cseq ?_
  refine cregion ?_
  obtain ⟨v1, hv1, h⟩ := bind_eq h
  refine scall1 rfl fn8 opnds_nil (pubA_id rfl) (m8_l09_awake_c hv1) ?_
  refine sv rfl (opv_as rfl) ?_
  refine snil ?_
  refine cseq ?_
  refine cseq ?_
  refine cregion ?_
  refine sv rfl (opv_mv rfl) ?_
  refine sv rfl (opv_len_sl si23 rfl) ?_
  refine sv rfl (opv_gtr rfl rfl) ?_
  refine snil ?_
  refine ccond rfl (fun hc => ?_) (fun hc => ?_)
  · replace h := ite_t hc h
    clear hc
    refine cseq ?_
    refine cregion ?_
    refine sv rfl (opv_mv rfl) ?_
    refine sv rfl (opv_as rfl) ?_
    refine snil ?_
    refine cret ?_
    refine then_ret ?_
    obtain rfl := Option.some.inj h
    refine ⟨Or.inr rfl, _, _, _, (resVs_cons (ResV.tmp _ _ rfl) resVs_nil), (pubA_id rfl), ?_⟩
    rfl
  · replace h := ite_f hc h
    clear hc
    refine cskip ?_
    refine then_normal ?_
    refine cseq ?_
    refine cregion ?_
    refine sv rfl (opv_build zi27 pi27 parts_nil (.nil _)) ?_
    refine salloc rfl zi27 ?_
    refine sstore sz27 rfl rfl rfl rfl (Nat.le_of_ble_eq_true rfl) ?_
    refine smem [.box [.raw (.slice none 0 0)]] rfl ?_
    refine snil ?_
    refine cseq ?_
    refine cseq ?_
    refine cregion ?_
    refine sv rfl (opv_as rfl) ?_
    refine snil ?_
    refine cjoin ((List GApiWrite)) (fun b2 => [(0, .s (.one (.i .i64 a0))), (1, .s (.one (.sl a1.length (a1.flatMap eU8)))), (5, .s (.one (.b v1))), (6, .s (.one (.lp 0 0)))]) (fun b2 => [.box [.sl b2.length (b2.flatMap eGApiWrite)]]) (fun b2 => m5_l09_BufferFull_k2 a0 a1 v1 b2 = some r) (fun _ _ => inbL_of rfl) (fun _ _ => blkinb_of rfl) (fun _ _ => Nat.le_of_ble_eq_true rfl) (fun b2 h => ?_) ?_
    · unfold m5_l09_BufferFull_k2 at h
      refine cseq ?_
      refine cregion ?_
      refine sv rfl (opv_mv rfl) ?_
      refine sv rfl (opv_and rfl rfl) ?_
      refine sv rfl (opv_add rfl rfl) ?_
      refine sv rfl (opv_conv_ibv rfl Try.underlying3 Try.underlying5 rfl) ?_
      refine sv rfl (opv_as rfl) ?_
      refine snil ?_
      refine cseq ?_
      refine cregion ?_
      refine sv rfl (opv_loadN ti27 rfl (.lp _ _ _ rfl) (Nat.le_of_ble_eq_true rfl)) ?_
      refine sv rfl (opv_mv rfl) ?_
      refine sbuild1 rfl Try.underlying23 ei5 rfl rfl (List.all_eq_true.1 rfl) (by decide) ?_
      refine smem [.box [.sl b2.length (b2.flatMap eGApiWrite)], .arr 5 1 0 ([(UInt8.ofBitVec (BitVec.ofInt 8 (wI (97 + (wI ((BitVec.ofInt 64 a0 &&& BitVec.ofInt 64 31).toNat : Int))))))].flatMap eU8)] rfl ?_
      refine sv rfl (opv_mv rfl) ?_
      refine sv rfl (opv_build zi29 pi29 (parts_cons rfl (parts_cons rfl parts_nil)) (.cons _ _ _ _ _ _ _ rfl rfl (Nat.le_of_ble_eq_true rfl) (.cons _ _ _ _ _ _ _ rfl rfl (Nat.le_of_ble_eq_true rfl) (.nil _)))) ?_
      refine spub 47 rfl (by (repeat' first | exact PubA.nil _ | apply PubA.cons | apply PubV.one | apply PubV.agg | exact PubL.nil | exact PubL.ls _ _ _ _ _ _ rfl (flat_len (f := eU8) (fun _ => rfl) ([(UInt8.ofBitVec (BitVec.ofInt 8 (wI (97 + (wI ((BitVec.ofInt 64 a0 &&& BitVec.ofInt 64 31).toNat : Int))))))] : List UInt8)).symm | exact PubL.ls _ _ _ _ _ _ rfl (flat_len (f := eU8) (fun _ => rfl) _).symm | exact PubL.id _ rfl | exact PubLs.nil _ | apply PubLs.cons)) ?_
      obtain ⟨v3, hv3, h⟩ := bind_eq h
      refine scall1 rfl fn10 (opnds_cons rfl (opnds_cons rfl opnds_nil)) (pubA_id rfl) (m10_buffer_Set_c hv3) ?_
      refine sv rfl (opv_mvt rfl) ?_
      refine sv rfl (opv_extract rfl rfl) ?_
      refine sv rfl (opv_extract rfl rfl) ?_
      refine salloc rfl zi27 ?_
      refine sstore sz27 rfl rfl rfl rfl (Nat.le_of_ble_eq_true rfl) ?_
      refine smem [.box [.sl b2.length (b2.flatMap eGApiWrite)], .arr 5 1 ([(UInt8.ofBitVec (BitVec.ofInt 8 (wI (97 + (wI ((BitVec.ofInt 64 a0 &&& BitVec.ofInt 64 31).toNat : Int))))))].flatMap eU8).length ([(UInt8.ofBitVec (BitVec.ofInt 8 (wI (97 + (wI ((BitVec.ofInt 64 a0 &&& BitVec.ofInt 64 31).toNat : Int))))))].flatMap eU8), .box [.sl v3.1.L.length (v3.1.L.flatMap eGApiWrite)]] rfl ?_
      refine sv rfl (opv_as rfl) ?_
      refine snil ?_
      refine cseq ?_
      refine cseq ?_
      refine cregion ?_
      refine sv rfl (opv_mv rfl) ?_
      refine sv rfl (opv_and rfl rfl) ?_
      refine sv rfl (opv_geq rfl rfl) ?_
      refine snil ?_
      refine ccond rfl (fun hc => ?_) (fun hc => ?_)
      · replace h := ite_t hc h
        clear hc
        refine cseq ?_
        refine cregion ?_
        refine sv rfl (opv_mv rfl) ?_
        refine sv rfl (opv_mv rfl) ?_
        refine ssplit 55 rfl (fun hc => ?_) (fun hc => ?_)
        · replace h := ite_t hc h
          clear hc
          refine son rfl rfl rfl ?_
          refine sv rfl (opv_mv rfl) ?_
          refine son rfl rfl rfl ?_
          refine sv rfl (opv_ieql rfl rfl) ?_
          refine sv rfl (opv_pick_t rfl rfl) ?_
          refine sv rfl (opv_mv rfl) ?_
          refine ssplit 59 rfl (fun hc => ?_) (fun hc => ?_)
          · replace h := ite_t hc h
            clear hc
            refine son rfl rfl rfl ?_
            refine sv rfl (opv_fieldAddr_lp fi27_0 rfl) ?_
            refine son rfl rfl rfl ?_
            refine sv rfl (opv_load1 ti22 rfl (.lp _ _ _ rfl) rfl) ?_
            refine son rfl rfl rfl ?_
            refine sv rfl (opv_len_sl si22 rfl) ?_
            refine son rfl rfl rfl ?_
            refine sv rfl (opv_ieql rfl rfl) ?_
            refine sv rfl (opv_pick_t rfl rfl) ?_
            refine sv rfl (opv_as rfl) ?_
            refine snil ?_
            refine cret ?_
            refine then_ret ?_
            obtain rfl := Option.some.inj h
            refine ⟨Or.inr rfl, _, _, _, (resVs_cons (ResV.tmp _ _ rfl) resVs_nil), (pubA_id rfl), ?_⟩
            rfl
          · replace h := ite_f hc h
            clear hc
            refine soff rfl rfl rfl rfl ?_
            refine soff rfl rfl rfl rfl ?_
            refine soff rfl rfl rfl rfl ?_
            refine soff rfl rfl rfl rfl ?_
            refine sv rfl (opv_pick_f rfl rfl) ?_
            refine sv rfl (opv_as rfl) ?_
            refine snil ?_
            refine cret ?_
            refine then_ret ?_
            obtain rfl := Option.some.inj h
            refine ⟨Or.inr rfl, _, _, _, (resVs_cons (ResV.tmp _ _ rfl) resVs_nil), (pubA_id rfl), ?_⟩
            rfl
        · replace h := ite_f hc h
          clear hc
          refine soff rfl rfl rfl rfl ?_
          refine soff rfl rfl rfl rfl ?_
          refine sv rfl (opv_pick_f rfl rfl) ?_
          refine sv rfl (opv_mv rfl) ?_
          refine soff rfl rfl rfl rfl ?_
          refine soff rfl rfl rfl rfl ?_
          refine soff rfl rfl rfl rfl ?_
          refine soff rfl rfl rfl rfl ?_
          refine sv rfl (opv_pick_f rfl rfl) ?_
          refine sv rfl (opv_as rfl) ?_
          refine snil ?_
          refine cret ?_
          refine then_ret ?_
          obtain rfl := Option.some.inj h
          refine ⟨Or.inr rfl, _, _, _, (resVs_cons (ResV.tmp _ _ rfl) resVs_nil), (pubA_id rfl), ?_⟩
          rfl
      · replace h := ite_f hc h
        clear hc
        refine cskip ?_
        refine then_normal ?_
        refine cseq ?_
        refine cregion ?_
        refine sv rfl (opv_loadN ti27 rfl (.lp _ _ _ rfl) (Nat.le_of_ble_eq_true rfl)) ?_
        refine sv rfl (opv_mv rfl) ?_
        refine sbuild1 rfl Try.underlying23 ei5 rfl rfl (List.all_eq_true.1 rfl) (by decide) ?_
        refine smem [.box [.sl b2.length (b2.flatMap eGApiWrite)], .arr 5 1 ([(UInt8.ofBitVec (BitVec.ofInt 8 (wI (97 + (wI ((BitVec.ofInt 64 a0 &&& BitVec.ofInt 64 31).toNat : Int))))))].flatMap eU8).length ([(UInt8.ofBitVec (BitVec.ofInt 8 (wI (97 + (wI ((BitVec.ofInt 64 a0 &&& BitVec.ofInt 64 31).toNat : Int))))))].flatMap eU8), .box [.sl v3.1.L.length (v3.1.L.flatMap eGApiWrite)], .arr 5 1 0 ([(UInt8.ofBitVec (BitVec.ofInt 8 (wI (97 + (wI ((BitVec.ofInt 64 a0 &&& BitVec.ofInt 64 31).toNat : Int))))))].flatMap eU8)] rfl ?_
        refine spub 68 rfl (by (repeat' first | exact PubA.nil _ | apply PubA.cons | apply PubV.one | apply PubV.agg | exact PubL.nil | exact PubL.ls _ _ _ _ _ _ rfl (flat_len (f := eU8) (fun _ => rfl) ([(UInt8.ofBitVec (BitVec.ofInt 8 (wI (97 + (wI ((BitVec.ofInt 64 a0 &&& BitVec.ofInt 64 31).toNat : Int))))))] : List UInt8)).symm | exact PubL.ls _ _ _ _ _ _ rfl (flat_len (f := eU8) (fun _ => rfl) _).symm | exact PubL.id _ rfl | exact PubLs.nil _ | apply PubLs.cons)) ?_
        obtain ⟨v4, hv4, h⟩ := bind_eq h
        refine scall1 rfl fn11 (opnds_cons rfl (opnds_cons rfl opnds_nil)) (pubA_id rfl) (m11_buffer_Get_c hv4) ?_
        refine sv rfl (opv_mvt rfl) ?_
        refine sv rfl (opv_extract rfl rfl) ?_
        refine sv rfl (opv_extract rfl rfl) ?_
        refine salloc rfl zi29 ?_
        refine sstore sz29 rfl rfl rfl rfl (Nat.le_of_ble_eq_true rfl) ?_
        refine smem [.box [.sl b2.length (b2.flatMap eGApiWrite)], .arr 5 1 ([(UInt8.ofBitVec (BitVec.ofInt 8 (wI (97 + (wI ((BitVec.ofInt 64 a0 &&& BitVec.ofInt 64 31).toNat : Int))))))].flatMap eU8).length ([(UInt8.ofBitVec (BitVec.ofInt 8 (wI (97 + (wI ((BitVec.ofInt 64 a0 &&& BitVec.ofInt 64 31).toNat : Int))))))].flatMap eU8), .box [.sl v3.1.L.length (v3.1.L.flatMap eGApiWrite)], .arr 5 1 ([(UInt8.ofBitVec (BitVec.ofInt 8 (wI (97 + (wI ((BitVec.ofInt 64 a0 &&& BitVec.ofInt 64 31).toNat : Int))))))].flatMap eU8).length ([(UInt8.ofBitVec (BitVec.ofInt 8 (wI (97 + (wI ((BitVec.ofInt 64 a0 &&& BitVec.ofInt 64 31).toNat : Int))))))].flatMap eU8), .box [.sl v4.1.Key.length (v4.1.Key.flatMap eU8), .sl v4.1.Val.length (v4.1.Val.flatMap eU8), .b v4.1.Del]] rfl ?_
        refine sv rfl (opv_as rfl) ?_
        refine snil ?_
        refine cseq ?_
        refine cregion ?_
        refine sv rfl (opv_mv rfl) ?_
        refine sv rfl (opv_mv rfl) ?_
        refine ssplit 73 rfl (fun hc => ?_) (fun hc => ?_)
        · replace h := ite_t hc h
          clear hc
          refine son rfl rfl rfl ?_
          refine sv rfl (opv_mv rfl) ?_
          refine son rfl rfl rfl ?_
          refine sv rfl (opv_ieql rfl rfl) ?_
          refine sv rfl (opv_pick_t rfl rfl) ?_
          refine sv rfl (opv_mv rfl) ?_
          refine ssplit 77 rfl (fun hc => ?_) (fun hc => ?_)
          · replace h := ite_t hc h
            clear hc
            refine son rfl rfl rfl ?_
            refine sv rfl (opv_fieldAddr_lp fi27_0 rfl) ?_
            refine son rfl rfl rfl ?_
            refine sv rfl (opv_load1 ti22 rfl (.lp _ _ _ rfl) rfl) ?_
            refine son rfl rfl rfl ?_
            refine sv rfl (opv_len_sl si22 rfl) ?_
            refine son rfl rfl rfl ?_
            refine sv rfl (opv_ieql rfl rfl) ?_
            refine sv rfl (opv_pick_t rfl rfl) ?_
            refine sv rfl (opv_mv rfl) ?_
            refine ssplit 83 rfl (fun hc => ?_) (fun hc => ?_)
            · replace h := ite_t hc h
              clear hc
              refine son rfl rfl rfl ?_
              refine sv rfl (opv_mv rfl) ?_
              refine sv rfl (opv_pick_t rfl rfl) ?_
              refine sv rfl (opv_mv rfl) ?_
              refine ssplit 86 rfl (fun hc => ?_) (fun hc => ?_)
              · replace h := ite_t hc h
                clear hc
                refine son rfl rfl rfl ?_
                refine sv rfl (opv_fieldAddr_lp fi29_1 rfl) ?_
                refine son rfl rfl rfl ?_
                refine sv rfl (opv_load1 ti23 rfl (.lp _ _ _ rfl) rfl) ?_
                refine son rfl rfl rfl ?_
                refine sv rfl (opv_bs (l := v4.1.Val) Try.underlying23 Try.underlying5 Try.underlying9 rfl rfl rfl) ?_
                refine son rfl rfl rfl ?_
                refine sv rfl (opv_mv rfl) ?_
                refine son rfl rfl rfl ?_
                refine sv rfl (opv_bs (l := a1) Try.underlying23 Try.underlying5 Try.underlying9 rfl rfl rfl) ?_
                refine son rfl rfl rfl ?_
                refine sv rfl (opv_seql' rfl rfl) ?_
                refine sv rfl (opv_pick_t rfl rfl) ?_
                refine sv rfl (opv_mv rfl) ?_
                refine ssplit 94 rfl (fun hc => ?_) (fun hc => ?_)
                · replace h := ite_t hc h
                  clear hc
                  refine son rfl rfl rfl ?_
                  refine sv rfl (opv_fieldAddr_lp fi27_0 rfl) ?_
                  refine son rfl rfl rfl ?_
                  refine sv rfl (opv_load1 ti22 rfl (.lp _ _ _ rfl) rfl) ?_
                  refine son rfl rfl rfl ?_
                  refine sv rfl (opv_len_sl si22 rfl) ?_
                  refine son rfl rfl rfl ?_
                  refine sv rfl (opv_ieql rfl rfl) ?_
                  refine sv rfl (opv_pick_t rfl rfl) ?_
                  refine sv rfl (opv_as rfl) ?_
                  refine snil ?_
                  refine cret ?_
                  obtain rfl := Option.some.inj h
                  refine ⟨Or.inr rfl, _, _, _, (resVs_cons (ResV.tmp _ _ rfl) resVs_nil), (pubA_id rfl), ?_⟩
                  rfl
                · replace h := ite_f hc h
                  clear hc
                  refine soff rfl rfl rfl rfl ?_
                  refine soff rfl rfl rfl rfl ?_
                  refine soff rfl rfl rfl rfl ?_
                  refine soff rfl rfl rfl rfl ?_
                  refine sv rfl (opv_pick_f rfl rfl) ?_
                  refine sv rfl (opv_as rfl) ?_
                  refine snil ?_
                  refine cret ?_
                  obtain rfl := Option.some.inj h
                  refine ⟨Or.inr rfl, _, _, _, (resVs_cons (ResV.tmp _ _ rfl) resVs_nil), (pubA_id rfl), ?_⟩
                  rfl
              · replace h := ite_f hc h
                clear hc
                refine soff rfl rfl rfl rfl ?_
                refine soff rfl rfl rfl rfl ?_
                refine soff rfl rfl rfl rfl ?_
                refine soff rfl rfl rfl rfl ?_
                refine soff rfl rfl rfl rfl ?_
                refine soff rfl rfl rfl rfl ?_
                refine sv rfl (opv_pick_f rfl rfl) ?_
                refine sv rfl (opv_mv rfl) ?_
                refine soff rfl rfl rfl rfl ?_
                refine soff rfl rfl rfl rfl ?_
                refine soff rfl rfl rfl rfl ?_
                refine soff rfl rfl rfl rfl ?_
                refine sv rfl (opv_pick_f rfl rfl) ?_
                refine sv rfl (opv_as rfl) ?_
                refine snil ?_
                refine cret ?_
                obtain rfl := Option.some.inj h
                refine ⟨Or.inr rfl, _, _, _, (resVs_cons (ResV.tmp _ _ rfl) resVs_nil), (pubA_id rfl), ?_⟩
                rfl
            · replace h := ite_f hc h
              clear hc
              refine soff rfl rfl rfl rfl ?_
              refine sv rfl (opv_pick_f rfl rfl) ?_
              refine sv rfl (opv_mv rfl) ?_
              refine soff rfl rfl rfl rfl ?_
              refine soff rfl rfl rfl rfl ?_
              refine soff rfl rfl rfl rfl ?_
              refine soff rfl rfl rfl rfl ?_
              refine soff rfl rfl rfl rfl ?_
              refine soff rfl rfl rfl rfl ?_
              refine sv rfl (opv_pick_f rfl rfl) ?_
              refine sv rfl (opv_mv rfl) ?_
              refine soff rfl rfl rfl rfl ?_
              refine soff rfl rfl rfl rfl ?_
              refine soff rfl rfl rfl rfl ?_
              refine soff rfl rfl rfl rfl ?_
              refine sv rfl (opv_pick_f rfl rfl) ?_
              refine sv rfl (opv_as rfl) ?_
              refine snil ?_
              refine cret ?_
              obtain rfl := Option.some.inj h
              refine ⟨Or.inr rfl, _, _, _, (resVs_cons (ResV.tmp _ _ rfl) resVs_nil), (pubA_id rfl), ?_⟩
              rfl
          · replace h := ite_f hc h
            clear hc
            refine soff rfl rfl rfl rfl ?_
            refine soff rfl rfl rfl rfl ?_
            refine soff rfl rfl rfl rfl ?_
            refine soff rfl rfl rfl rfl ?_
            refine sv rfl (opv_pick_f rfl rfl) ?_
            refine sv rfl (opv_mv rfl) ?_
            refine soff rfl rfl rfl rfl ?_
            refine sv rfl (opv_pick_f rfl rfl) ?_
            refine sv rfl (opv_mv rfl) ?_
            refine soff rfl rfl rfl rfl ?_
            refine soff rfl rfl rfl rfl ?_
            refine soff rfl rfl rfl rfl ?_
            refine soff rfl rfl rfl rfl ?_
            refine soff rfl rfl rfl rfl ?_
            refine soff rfl rfl rfl rfl ?_
            refine sv rfl (opv_pick_f rfl rfl) ?_
            refine sv rfl (opv_mv rfl) ?_
            refine soff rfl rfl rfl rfl ?_
            refine soff rfl rfl rfl rfl ?_
            refine soff rfl rfl rfl rfl ?_
            refine soff rfl rfl rfl rfl ?_
            refine sv rfl (opv_pick_f rfl rfl) ?_
            refine sv rfl (opv_as rfl) ?_
            refine snil ?_
            refine cret ?_
            obtain rfl := Option.some.inj h
            refine ⟨Or.inr rfl, _, _, _, (resVs_cons (ResV.tmp _ _ rfl) resVs_nil), (pubA_id rfl), ?_⟩
            rfl
        · replace h := ite_f hc h
          clear hc
          refine soff rfl rfl rfl rfl ?_
          refine soff rfl rfl rfl rfl ?_
          refine sv rfl (opv_pick_f rfl rfl) ?_
          refine sv rfl (opv_mv rfl) ?_
          refine soff rfl rfl rfl rfl ?_
          refine soff rfl rfl rfl rfl ?_
          refine soff rfl rfl rfl rfl ?_
          refine soff rfl rfl rfl rfl ?_
          refine sv rfl (opv_pick_f rfl rfl) ?_
          refine sv rfl (opv_mv rfl) ?_
          refine soff rfl rfl rfl rfl ?_
          refine sv rfl (opv_pick_f rfl rfl) ?_
          refine sv rfl (opv_mv rfl) ?_
          refine soff rfl rfl rfl rfl ?_
          refine soff rfl rfl rfl rfl ?_
          refine soff rfl rfl rfl rfl ?_
          refine soff rfl rfl rfl rfl ?_
          refine soff rfl rfl rfl rfl ?_
          refine soff rfl rfl rfl rfl ?_
          refine sv rfl (opv_pick_f rfl rfl) ?_
          refine sv rfl (opv_mv rfl) ?_
          refine soff rfl rfl rfl rfl ?_
          refine soff rfl rfl rfl rfl ?_
          refine soff rfl rfl rfl rfl ?_
          refine soff rfl rfl rfl rfl ?_
          refine sv rfl (opv_pick_f rfl rfl) ?_
          refine sv rfl (opv_as rfl) ?_
          refine snil ?_
          refine cret ?_
          obtain rfl := Option.some.inj h
          refine ⟨Or.inr rfl, _, _, _, (resVs_cons (ResV.tmp _ _ rfl) resVs_nil), (pubA_id rfl), ?_⟩
          rfl
    · skip
      refine cblock ?_
      refine cpubbox 0 0 rfl rfl PubL.nil rfl ?_
      obtain ⟨x5, hx5, ho5⟩ := bind_eq h
      refine awc_loop (G := Nat × (Int × (List GApiWrite))) (fun g => [(0, .s (.one (.i .i64 a0))), (1, .s (.one (.sl a1.length (a1.flatMap eU8)))), (5, .s (.one (.b v1))), (6, .s (.one (.lp 0 0))), (7, .s (.one (.i .i64 g.2.1)))]) (fun g => [.box [.sl g.2.2.length (g.2.2.flatMap eGApiWrite)]]) (fun g => iter m5_l09_BufferFull_s5 g.1 g.2 = some x5) (fun g => g.1) (fuel, (0, ([] : List GApiWrite))) hx5 ⟨rfl, rfl, rfl, rfl, rfl, trivial⟩ [] rfl (fun _ _ => inbL_of rfl) (fun _ _ => blkinb_of rfl) (fun _ _ => Nat.le_of_ble_eq_true rfl) ?_
      clear hx5 h
      rintro ⟨n5, s5⟩ h
      obtain ⟨n5, y5, rfl, h, hk5⟩ := iter_eq h
      unfold m5_l09_BufferFull_s5 at h
      refine cseq ?_
      refine cseq ?_
      refine cregion ?_
      refine sv rfl (opv_mv rfl) ?_
      refine sv rfl (opv_lss rfl rfl) ?_
      refine snil ?_
      refine ccond rfl (fun hc => ?_) (fun hc => ?_)
      · replace h := ite_t hc h
        clear hc
        refine cskip ?_
        refine then_normal ?_
        refine cseq ?_
        refine cblock ?_
        refine cseq ?_
        refine cregion ?_
        refine sv rfl (opv_loadN ti27 rfl (.lp _ _ _ rfl) (Nat.le_of_ble_eq_true rfl)) ?_
        refine sv rfl (opv_mv rfl) ?_
        refine sv rfl (opv_add rfl rfl) ?_
        refine sv rfl (opv_conv_ibv rfl Try.underlying3 Try.underlying5 rfl) ?_
        refine sbuild1 rfl Try.underlying23 ei5 rfl rfl (List.all_eq_true.1 rfl) (by decide) ?_
        refine smem [.box [.sl s5.2.length (s5.2.flatMap eGApiWrite)], .arr 5 1 0 ([(UInt8.ofBitVec (BitVec.ofInt 8 (wI (97 + s5.1))))].flatMap eU8)] rfl ?_
        refine sv rfl (opv_build zi29 pi29 (parts_cons rfl parts_nil) (.cons _ _ _ _ _ _ _ rfl rfl (Nat.le_of_ble_eq_true rfl) (.nil _))) ?_
        refine spub 31 rfl (by (repeat' first | exact PubA.nil _ | apply PubA.cons | apply PubV.one | apply PubV.agg | exact PubL.nil | exact PubL.ls _ _ _ _ _ _ rfl (flat_len (f := eU8) (fun _ => rfl) ([(UInt8.ofBitVec (BitVec.ofInt 8 (wI (97 + s5.1))))] : List UInt8)).symm | exact PubL.ls _ _ _ _ _ _ rfl (flat_len (f := eU8) (fun _ => rfl) _).symm | exact PubL.id _ rfl | exact PubLs.nil _ | apply PubLs.cons)) ?_
        obtain ⟨v6, hv6, h⟩ := bind_eq h
        refine scall1 rfl fn10 (opnds_cons rfl (opnds_cons rfl opnds_nil)) (pubA_id rfl) (m10_buffer_Set_c hv6) ?_
        refine sv rfl (opv_mvt rfl) ?_
        refine sv rfl (opv_extract rfl rfl) ?_
        refine sv rfl (opv_extract rfl rfl) ?_
        refine salloc rfl zi27 ?_
        refine sstore sz27 rfl rfl rfl rfl (Nat.le_of_ble_eq_true rfl) ?_
        refine smem [.box [.sl s5.2.length (s5.2.flatMap eGApiWrite)], .arr 5 1 ([(UInt8.ofBitVec (BitVec.ofInt 8 (wI (97 + s5.1))))].flatMap eU8).length ([(UInt8.ofBitVec (BitVec.ofInt 8 (wI (97 + s5.1))))].flatMap eU8), .box [.sl v6.1.L.length (v6.1.L.flatMap eGApiWrite)]] rfl ?_
        refine sv rfl (opv_as rfl) ?_
        refine snil ?_
        refine cseq ?_
        refine cseq ?_
        refine cregion ?_
        refine sv rfl (opv_mv rfl) ?_
        refine sv rfl (opv_ineq rfl rfl) ?_
        refine snil ?_
        refine ccond rfl (fun hc => ?_) (fun hc => ?_)
        · replace h := ite_t hc h
          clear hc
          refine cseq ?_
          refine cregion ?_
          refine sv rfl (opv_as rfl) ?_
          refine snil ?_
          refine cret ?_
          refine then_ret ?_
          refine block_ret ?_
          refine then_ret ?_
          refine then_ret ?_
          refine block_ret ?_
          refine then_ret ?_
          obtain rfl := Option.some.inj h
          obtain rfl : Sum.inl _ = x5 := hk5
          replace ho5 : some _ = some _ := ho5
          obtain rfl := Option.some.inj ho5
          refine ⟨Or.inr rfl, _, _, _, (resVs_cons (ResV.tmp _ _ rfl) resVs_nil), (pubA_id rfl), ?_⟩
          rfl
        · replace h := ite_f hc h
          clear hc
          refine cskip ?_
          refine then_normal ?_
          refine cregion ?_
          refine sv rfl (opv_loadN ti27 rfl (.lp _ _ _ rfl) (Nat.le_of_ble_eq_true rfl)) ?_
          refine sstore sz27 rfl rfl rfl rfl (Nat.le_of_ble_eq_true rfl) ?_
          refine smem [.box [.sl v6.1.L.length (v6.1.L.flatMap eGApiWrite)], .arr 5 1 ([(UInt8.ofBitVec (BitVec.ofInt 8 (wI (97 + s5.1))))].flatMap eU8).length ([(UInt8.ofBitVec (BitVec.ofInt 8 (wI (97 + s5.1))))].flatMap eU8), .box [.sl v6.1.L.length (v6.1.L.flatMap eGApiWrite)]] rfl ?_
          refine snil0 ?_
          refine block_normal ?_
          refine then_normal ?_
          refine cregion ?_
          refine sv rfl (opv_mv rfl) ?_
          refine sv rfl (opv_add rfl rfl) ?_
          refine sv rfl (opv_as rfl) ?_
          refine snil ?_
          obtain rfl := Option.some.inj h
          exact ⟨(n5, ((wI (s5.1 + 1)), v6.1.L)), _, hk5, ⟨rfl, rfl, rfl, rfl, rfl, trivial⟩, rfl, Nat.lt_succ_self _⟩
      · replace h := ite_f hc h
        clear hc
        refine cexit ?_
        refine then_exit ?_
        refine then_exit ?_
        refine block_hit ?_
        refine then_normal ?_
        obtain rfl := Option.some.inj h
        obtain rfl : _ = x5 := hk5
        exact ⟨s5.2, _, ho5, ⟨rfl, rfl, rfl, rfl, trivial⟩, rfl⟩

def m6_l09_BufferAgain_k10 (v1 : Bool) (v7 : GBufferBuf × Int) (v9 : GBufferBuf × Int) (b10 : Unit) : Option Bool :=
  if v1 then ((m12_r09_Same v7.1.L v9.1.L).bind fun v11 => some v11) else (some false)

def m6_l09_BufferAgain_k6 (a1 : GApiWrite) (a2 : GApiWrite) (v1 : Bool) (v3 : GBufferBuf) (v4 : GBufferBuf × Int) (b6 : Unit) : Option Bool :=
  (m10_buffer_Set v4.1 a2).bind fun v7 => (m10_buffer_Set v3 a2).bind fun v8 => (m10_buffer_Set v8.1 a1).bind fun v9 => if (!decide (v7.2 = 0)) then (some v1) else (if (!decide (v8.2 = 0)) then (some v1) else (if (!decide (v9.2 = 0)) then (some v1) else (if (a1.Key == a2.Key) then (some v1) else (m6_l09_BufferAgain_k10 v1 v7 v9 ()))))

def m6_l09_BufferAgain_k2 (a0 : List GApiWrite) (a1 : GApiWrite) (a2 : GApiWrite) (v1 : Bool) (b2 : Unit) : Option Bool :=
  (m17_l09_grown a0).bind fun v3 => (m10_buffer_Set v3 a1).bind fun v4 => (m10_buffer_Set v4.1 a1).bind fun v5 => if (!decide (v4.2 = 0)) then (if v1 then (some (decide ((v4.1.L.length : Int) = 0))) else (some false)) else (if (!decide (v5.2 = 0)) then (some false) else ((m12_r09_Same v4.1.L v5.1.L).bind fun v12 => if (!v12) then (some false) else (m6_l09_BufferAgain_k6 a1 a2 v1 v3 v4 ())))
def m6_l09_BufferAgain (a0 : List GApiWrite) (a1 : GApiWrite) (a2 : GApiWrite) : Option Bool :=
  (m8_l09_awake).bind fun v1 => (m9_r08_FewWrites a0).bind fun v13 => if (!v13) then (some v1) else ((m9_r08_FewWrites [a1, a2]).bind fun v14 => if (!v14) then (some v1) else (m6_l09_BufferAgain_k2 a0 a1 a2 v1 ()))

set_option maxRecDepth 100000 in
theorem m6_l09_BufferAgain_c {a0 : List GApiWrite} {a1 : GApiWrite} {a2 : GApiWrite} {r : Bool} (h : m6_l09_BufferAgain a0 a1 a2 = some r) : CallsA Try.prog 6 [.one (.sl a0.length (a0.flatMap eGApiWrite)), .agg [.sl a1.Key.length (a1.Key.flatMap eU8), .sl a1.Val.length (a1.Val.flatMap eU8), .b a1.Del], .agg [.sl a2.Key.length (a2.Key.flatMap eU8), .sl a2.Val.length (a2.Val.flatMap eU8), .b a2.Del]] (· = .s (.one (.b r))) := by
  unfold m6_l09_BufferAgain at h
  refine callsA_of Try.func6 rfl (nt := 110) rfl (Nat.le_of_ble_eq_true rfl) ?_
  intro w0 S0
  refine cseq ?_
  refine cregion ?_
  refine sbox rfl rfl ?_
  refine sbox rfl rfl ?_
  refine sv rfl (opv_as rfl) ?_
  refine snil ?_
  refine cseq ?_
  refine cregion ?_
  obtain ⟨v1, hv1, h⟩ := bind_eq h
  refine scall1 rfl fn8 opnds_nil (pubA_id rfl) (m8_l09_awake_c hv1) ?_
  refine sv rfl (opv_as rfl) ?_
  refine snil ?_
  refine cseq ?_
  refine cseq ?_
  refine cjoin3 (Unit) (fun b2 => [(0, .s (.one (.sl a0.length (a0.flatMap eGApiWrite)))), (4, .s (.one (.lp 0 0))), (5, .s (.one (.lp 1 0))), (7, .s (.one (.b v1)))]) (fun b2 => [.box [.sl a1.Key.length (a1.Key.flatMap eU8), .sl a1.Val.length (a1.Val.flatMap eU8), .b a1.Del], .box [.sl a2.Key.length (a2.Key.flatMap eU8), .sl a2.Val.length (a2.Val.flatMap eU8), .b a2.Del]]) (fun b2 => m6_l09_BufferAgain_k2 a0 a1 a2 v1 b2 = some r) (fun _ _ => inbL_of rfl) (fun _ _ => blkinb_of rfl) (fun _ _ => Nat.le_of_ble_eq_true rfl) (fun b2 h => ?_) ?_
  · unfold m6_l09_BufferAgain_k2 at h
    refine cseq ?_
    refine cregion ?_
    refine sv rfl (opv_mv rfl) ?_
    obtain ⟨v3, hv3, h⟩ := bind_eq h
    refine scall1 rfl fn17 (opnds_cons rfl opnds_nil) (pubA_id rfl) (m17_l09_grown_c hv3) ?_
    refine salloc rfl zi27 ?_
    refine sstore sz27 rfl rfl rfl rfl (Nat.le_of_ble_eq_true rfl) ?_
    refine smem [.box [.sl a1.Key.length (a1.Key.flatMap eU8), .sl a1.Val.length (a1.Val.flatMap eU8), .b a1.Del], .box [.sl a2.Key.length (a2.Key.flatMap eU8), .sl a2.Val.length (a2.Val.flatMap eU8), .b a2.Del], .box [.sl v3.L.length (v3.L.flatMap eGApiWrite)]] rfl ?_
    refine snil ?_
    refine cseq ?_
    refine cregion ?_
    refine sv rfl (opv_loadN ti27 rfl (.lp _ _ _ rfl) (Nat.le_of_ble_eq_true rfl)) ?_
    refine sv rfl (opv_loadN ti29 rfl (.lp _ _ _ rfl) (Nat.le_of_ble_eq_true rfl)) ?_
    obtain ⟨v4, hv4, h⟩ := bind_eq h
    refine scall1 rfl fn10 (opnds_cons rfl (opnds_cons rfl opnds_nil)) (pubA_id rfl) (m10_buffer_Set_c hv4) ?_
    refine sv rfl (opv_mvt rfl) ?_
    refine sv rfl (opv_extract rfl rfl) ?_
    refine sv rfl (opv_extract rfl rfl) ?_
    refine salloc rfl zi27 ?_
    refine sstore sz27 rfl rfl rfl rfl (Nat.le_of_ble_eq_true rfl) ?_
    refine smem [.box [.sl a1.Key.length (a1.Key.flatMap eU8), .sl a1.Val.length (a1.Val.flatMap eU8), .b a1.Del], .box [.sl a2.Key.length (a2.Key.flatMap eU8), .sl a2.Val.length (a2.Val.flatMap eU8), .b a2.Del], .box [.sl v3.L.length (v3.L.flatMap eGApiWrite)], .box [.sl v4.1.L.length (v4.1.L.flatMap eGApiWrite)]] rfl ?_
    refine sv rfl (opv_as rfl) ?_
    refine snil ?_
    refine cseq ?_
    refine cregion ?_
    refine sv rfl (opv_loadN ti27 rfl (.lp _ _ _ rfl) (Nat.le_of_ble_eq_true rfl)) ?_
    refine sv rfl (opv_loadN ti29 rfl (.lp _ _ _ rfl) (Nat.le_of_ble_eq_true rfl)) ?_
    obtain ⟨v5, hv5, h⟩ := bind_eq h
    refine scall1 rfl fn10 (opnds_cons rfl (opnds_cons rfl opnds_nil)) (pubA_id rfl) (m10_buffer_Set_c hv5) ?_
    refine sv rfl (opv_mvt rfl) ?_
    refine sv rfl (opv_extract rfl rfl) ?_
    refine sv rfl (opv_extract rfl rfl) ?_
    refine salloc rfl zi27 ?_
    refine sstore sz27 rfl rfl rfl rfl (Nat.le_of_ble_eq_true rfl) ?_
    refine smem [.box [.sl a1.Key.length (a1.Key.flatMap eU8), .sl a1.Val.length (a1.Val.flatMap eU8), .b a1.Del], .box [.sl a2.Key.length (a2.Key.flatMap eU8), .sl a2.Val.length (a2.Val.flatMap eU8), .b a2.Del], .box [.sl v3.L.length (v3.L.flatMap eGApiWrite)], .box [.sl v4.1.L.length (v4.1.L.flatMap eGApiWrite)], .box [.sl v5.1.L.length (v5.1.L.flatMap eGApiWrite)]] rfl ?_
    refine sv rfl (opv_as rfl) ?_
    refine snil ?_
    refine cseq ?_
    refine cseq ?_
    refine cregion ?_
    refine sv rfl (opv_mv rfl) ?_
    refine sv rfl (opv_ineq rfl rfl) ?_
    refine snil ?_
    refine ccond rfl (fun hc => ?_) (fun hc => ?_)
    · replace h := ite_t hc h
      clear hc
      refine cseq ?_
      refine cregion ?_
      refine sv rfl (opv_mv rfl) ?_
      refine sv rfl (opv_mv rfl) ?_
      refine ssplit 48 rfl (fun hc => ?_) (fun hc => ?_)
      · replace h := ite_t hc h
        clear hc
        refine son rfl rfl rfl ?_
        refine sv rfl (opv_fieldAddr_lp fi27_0 rfl) ?_
        refine son rfl rfl rfl ?_
        refine sv rfl (opv_load1 ti22 rfl (.lp _ _ _ rfl) rfl) ?_
        refine son rfl rfl rfl ?_
        refine sv rfl (opv_len_sl si22 rfl) ?_
        refine son rfl rfl rfl ?_
        refine sv rfl (opv_ieql rfl rfl) ?_
        refine sv rfl (opv_pick_t rfl rfl) ?_
        refine sv rfl (opv_as rfl) ?_
        refine snil ?_
        refine cret ?_
        refine then_ret ?_
        obtain rfl := Option.some.inj h
        refine ⟨Or.inr rfl, _, _, _, (resVs_cons (ResV.tmp _ _ rfl) resVs_nil), (pubA_id rfl), ?_⟩
        rfl
      · replace h := ite_f hc h
        clear hc
        refine soff rfl rfl rfl rfl ?_
        refine soff rfl rfl rfl rfl ?_
        refine soff rfl rfl rfl rfl ?_
        refine soff rfl rfl rfl rfl ?_
        refine sv rfl (opv_pick_f rfl rfl) ?_
        refine sv rfl (opv_as rfl) ?_
        refine snil ?_
        refine cret ?_
        refine then_ret ?_
        obtain rfl := Option.some.inj h
        refine ⟨Or.inr rfl, _, _, _, (resVs_cons (ResV.tmp _ _ rfl) resVs_nil), (pubA_id rfl), ?_⟩
        rfl
    · replace h := ite_f hc h
      clear hc
      refine cskip ?_
      refine then_normal ?_
      refine cseq ?_
      refine cseq ?_
      refine cjoin3 (Unit) (fun b6 => [(4, .s (.one (.lp 0 0))), (5, .s (.one (.lp 1 0))), (7, .s (.one (.b v1))), (8, .s (.one (.lp 2 0))), (9, .s (.one (.lp 3 0)))]) (fun b6 => [.box [.sl a1.Key.length (a1.Key.flatMap eU8), .sl a1.Val.length (a1.Val.flatMap eU8), .b a1.Del], .box [.sl a2.Key.length (a2.Key.flatMap eU8), .sl a2.Val.length (a2.Val.flatMap eU8), .b a2.Del], .box [.sl v3.L.length (v3.L.flatMap eGApiWrite)], .box [.sl v4.1.L.length (v4.1.L.flatMap eGApiWrite)], .box [.sl v5.1.L.length (v5.1.L.flatMap eGApiWrite)]]) (fun b6 => m6_l09_BufferAgain_k6 a1 a2 v1 v3 v4 b6 = some r) (fun _ _ => inbL_of rfl) (fun _ _ => blkinb_of rfl) (fun _ _ => Nat.le_of_ble_eq_true rfl) (fun b6 h => ?_) ?_
      · unfold m6_l09_BufferAgain_k6 at h
        refine cseq ?_
        refine cregion ?_
        refine sv rfl (opv_loadN ti27 rfl (.lp _ _ _ rfl) (Nat.le_of_ble_eq_true rfl)) ?_
        refine sv rfl (opv_loadN ti29 rfl (.lp _ _ _ rfl) (Nat.le_of_ble_eq_true rfl)) ?_
        obtain ⟨v7, hv7, h⟩ := bind_eq h
        refine scall1 rfl fn10 (opnds_cons rfl (opnds_cons rfl opnds_nil)) (pubA_id rfl) (m10_buffer_Set_c hv7) ?_
        refine sv rfl (opv_mvt rfl) ?_
        refine sv rfl (opv_extract rfl rfl) ?_
        refine sv rfl (opv_extract rfl rfl) ?_
        refine salloc rfl zi27 ?_
        refine sstore sz27 rfl rfl rfl rfl (Nat.le_of_ble_eq_true rfl) ?_
        refine smem [.box [.sl a1.Key.length (a1.Key.flatMap eU8), .sl a1.Val.length (a1.Val.flatMap eU8), .b a1.Del], .box [.sl a2.Key.length (a2.Key.flatMap eU8), .sl a2.Val.length (a2.Val.flatMap eU8), .b a2.Del], .box [.sl v3.L.length (v3.L.flatMap eGApiWrite)], .box [.sl v4.1.L.length (v4.1.L.flatMap eGApiWrite)], .box [.sl v5.1.L.length (v5.1.L.flatMap eGApiWrite)], .box [.sl v7.1.L.length (v7.1.L.flatMap eGApiWrite)]] rfl ?_
        refine sv rfl (opv_as rfl) ?_
        refine snil ?_
        refine cseq ?_
        refine cregion ?_
        refine sv rfl (opv_loadN ti27 rfl (.lp _ _ _ rfl) (Nat.le_of_ble_eq_true rfl)) ?_
        refine sv rfl (opv_loadN ti29 rfl (.lp _ _ _ rfl) (Nat.le_of_ble_eq_true rfl)) ?_
        obtain ⟨v8, hv8, h⟩ := bind_eq h
        refine scall1 rfl fn10 (opnds_cons rfl (opnds_cons rfl opnds_nil)) (pubA_id rfl) (m10_buffer_Set_c hv8) ?_
        refine sv rfl (opv_mvt rfl) ?_
        refine sv rfl (opv_extract rfl rfl) ?_
        refine sv rfl (opv_extract rfl rfl) ?_
        refine salloc rfl zi27 ?_
        refine sstore sz27 rfl rfl rfl rfl (Nat.le_of_ble_eq_true rfl) ?_
        refine smem [.box [.sl a1.Key.length (a1.Key.flatMap eU8), .sl a1.Val.length (a1.Val.flatMap eU8), .b a1.Del], .box [.sl a2.Key.length (a2.Key.flatMap eU8), .sl a2.Val.length (a2.Val.flatMap eU8), .b a2.Del], .box [.sl v3.L.length (v3.L.flatMap eGApiWrite)], .box [.sl v4.1.L.length (v4.1.L.flatMap eGApiWrite)], .box [.sl v5.1.L.length (v5.1.L.flatMap eGApiWrite)], .box [.sl v7.1.L.length (v7.1.L.flatMap eGApiWrite)], .box [.sl v8.1.L.length (v8.1.L.flatMap eGApiWrite)]] rfl ?_
        refine sv rfl (opv_as rfl) ?_
        refine snil ?_
        refine cseq ?_
        refine cregion ?_
        refine sv rfl (opv_loadN ti27 rfl (.lp _ _ _ rfl) (Nat.le_of_ble_eq_true rfl)) ?_
        refine sv rfl (opv_loadN ti29 rfl (.lp _ _ _ rfl) (Nat.le_of_ble_eq_true rfl)) ?_
        obtain ⟨v9, hv9, h⟩ := bind_eq h
        refine scall1 rfl fn10 (opnds_cons rfl (opnds_cons rfl opnds_nil)) (pubA_id rfl) (m10_buffer_Set_c hv9) ?_
        refine sv rfl (opv_mvt rfl) ?_
        refine sv rfl (opv_extract rfl rfl) ?_
        refine sv rfl (opv_extract rfl rfl) ?_
        refine salloc rfl zi27 ?_
        refine sstore sz27 rfl rfl rfl rfl (Nat.le_of_ble_eq_true rfl) ?_
        refine smem [.box [.sl a1.Key.length (a1.Key.flatMap eU8), .sl a1.Val.length (a1.Val.flatMap eU8), .b a1.Del], .box [.sl a2.Key.length (a2.Key.flatMap eU8), .sl a2.Val.length (a2.Val.flatMap eU8), .b a2.Del], .box [.sl v3.L.length (v3.L.flatMap eGApiWrite)], .box [.sl v4.1.L.length (v4.1.L.flatMap eGApiWrite)], .box [.sl v5.1.L.length (v5.1.L.flatMap eGApiWrite)], .box [.sl v7.1.L.length (v7.1.L.flatMap eGApiWrite)], .box [.sl v8.1.L.length (v8.1.L.flatMap eGApiWrite)], .box [.sl v9.1.L.length (v9.1.L.flatMap eGApiWrite)]] rfl ?_
        refine sv rfl (opv_as rfl) ?_
        refine snil ?_
        refine cseq ?_
        refine cseq ?_
        refine cjoin3 (Unit) (fun b10 => [(7, .s (.one (.b v1))), (13, .s (.one (.lp 5 0))), (17, .s (.one (.lp 7 0)))]) (fun b10 => [.box [.sl a1.Key.length (a1.Key.flatMap eU8), .sl a1.Val.length (a1.Val.flatMap eU8), .b a1.Del], .box [.sl a2.Key.length (a2.Key.flatMap eU8), .sl a2.Val.length (a2.Val.flatMap eU8), .b a2.Del], .box [.sl v3.L.length (v3.L.flatMap eGApiWrite)], .box [.sl v4.1.L.length (v4.1.L.flatMap eGApiWrite)], .box [.sl v5.1.L.length (v5.1.L.flatMap eGApiWrite)], .box [.sl v7.1.L.length (v7.1.L.flatMap eGApiWrite)], .box [.sl v8.1.L.length (v8.1.L.flatMap eGApiWrite)], .box [.sl v9.1.L.length (v9.1.L.flatMap eGApiWrite)]]) (fun b10 => m6_l09_BufferAgain_k10 v1 v7 v9 b10 = some r) (fun _ _ => inbL_of rfl) (fun _ _ => blkinb_of rfl) (fun _ _ => Nat.le_of_ble_eq_true rfl) (fun b10 h => ?_) ?_
        · unfold m6_l09_BufferAgain_k10 at h
          refine cseq ?_
          refine cregion ?_
          refine sv rfl (opv_mv rfl) ?_
          refine sv rfl (opv_mv rfl) ?_
          refine ssplit 103 rfl (fun hc => ?_) (fun hc => ?_)
          · replace h := ite_t hc h
            clear hc
            refine son rfl rfl rfl ?_
            refine sv rfl (opv_fieldAddr_lp fi27_0 rfl) ?_
            refine son rfl rfl rfl ?_
            refine sv rfl (opv_load1 ti22 rfl (.lp _ _ _ rfl) rfl) ?_
            refine son rfl rfl rfl ?_
            refine sv rfl (opv_fieldAddr_lp fi27_0 rfl) ?_
            refine son rfl rfl rfl ?_
            refine sv rfl (opv_load1 ti22 rfl (.lp _ _ _ rfl) rfl) ?_
            refine son rfl rfl rfl ?_
            obtain ⟨v11, hv11, h⟩ := bind_eq h
            refine scall1 rfl fn12 (opnds_cons rfl (opnds_cons rfl opnds_nil)) (pubA_id rfl) (m12_r09_Same_c hv11) ?_
            refine sv rfl (opv_pick_t rfl rfl) ?_
            refine sv rfl (opv_as rfl) ?_
            refine snil ?_
            refine cret ?_
            obtain rfl := Option.some.inj h
            refine ⟨Or.inr rfl, _, _, _, (resVs_cons (ResV.tmp _ _ rfl) resVs_nil), (pubA_id rfl), ?_⟩
            rfl
          · replace h := ite_f hc h
            clear hc
            refine soff rfl rfl rfl rfl ?_
            refine soff rfl rfl rfl rfl ?_
            refine soff rfl rfl rfl rfl ?_
            refine soff rfl rfl rfl rfl ?_
            refine soff rfl rfl rfl rfl ?_
            refine sv rfl (opv_pick_f rfl rfl) ?_
            refine sv rfl (opv_as rfl) ?_
            refine snil ?_
            refine cret ?_
            obtain rfl := Option.some.inj h
            refine ⟨Or.inr rfl, _, _, _, (resVs_cons (ResV.tmp _ _ rfl) resVs_nil), (pubA_id rfl), ?_⟩
            rfl
        · skip
          refine cregion ?_
          refine sv rfl (opv_mv rfl) ?_
          refine sv rfl (opv_ineq rfl rfl) ?_
          refine sv rfl (opv_mv rfl) ?_
          refine ssplit 84 rfl (fun hc => ?_) (fun hc => ?_)
          · replace h := ite_t hc h
            clear hc
            refine soff rfl rfl rfl rfl ?_
            refine soff rfl rfl rfl rfl ?_
            refine sv rfl (opv_pick_t rfl rfl) ?_
            refine sv rfl (opv_mv rfl) ?_
            refine soff rfl rfl rfl rfl ?_
            refine soff rfl rfl rfl rfl ?_
            refine sv rfl (opv_pick_t rfl rfl) ?_
            refine sv rfl (opv_mv rfl) ?_
            refine soff rfl rfl rfl rfl ?_
            refine soff rfl rfl rfl rfl ?_
            refine soff rfl rfl rfl rfl ?_
            refine soff rfl rfl rfl rfl ?_
            refine soff rfl rfl rfl rfl ?_
            refine soff rfl rfl rfl rfl ?_
            refine soff rfl rfl rfl rfl ?_
            refine sv rfl (opv_pick_t rfl rfl) ?_
            refine snil ?_
            refine ccond rfl (fun _ => ?_) (fun hx => Bool.noConfusion hx)
            refine cseq ?_
            refine cregion ?_
            refine sv rfl (opv_mv rfl) ?_
            refine sv rfl (opv_as rfl) ?_
            refine snil ?_
            refine cret ?_
            refine then_ret ?_
            obtain rfl := Option.some.inj h
            refine ⟨Or.inr rfl, _, _, _, (resVs_cons (ResV.tmp _ _ rfl) resVs_nil), (pubA_id rfl), ?_⟩
            rfl
          · replace h := ite_f hc h
            clear hc
            refine son rfl rfl rfl ?_
            refine sv rfl (opv_mv rfl) ?_
            refine son rfl rfl rfl ?_
            refine sv rfl (opv_ineq rfl rfl) ?_
            refine sv rfl (opv_pick_f rfl rfl) ?_
            refine sv rfl (opv_mv rfl) ?_
            refine ssplit 88 rfl (fun hc => ?_) (fun hc => ?_)
            · replace h := ite_t hc h
              clear hc
              refine soff rfl rfl rfl rfl ?_
              refine soff rfl rfl rfl rfl ?_
              refine sv rfl (opv_pick_t rfl rfl) ?_
              refine sv rfl (opv_mv rfl) ?_
              refine soff rfl rfl rfl rfl ?_
              refine soff rfl rfl rfl rfl ?_
              refine soff rfl rfl rfl rfl ?_
              refine soff rfl rfl rfl rfl ?_
              refine soff rfl rfl rfl rfl ?_
              refine soff rfl rfl rfl rfl ?_
              refine soff rfl rfl rfl rfl ?_
              refine sv rfl (opv_pick_t rfl rfl) ?_
              refine snil ?_
              refine ccond rfl (fun _ => ?_) (fun hx => Bool.noConfusion hx)
              refine cseq ?_
              refine cregion ?_
              refine sv rfl (opv_mv rfl) ?_
              refine sv rfl (opv_as rfl) ?_
              refine snil ?_
              refine cret ?_
              refine then_ret ?_
              obtain rfl := Option.some.inj h
              refine ⟨Or.inr rfl, _, _, _, (resVs_cons (ResV.tmp _ _ rfl) resVs_nil), (pubA_id rfl), ?_⟩
              rfl
            · replace h := ite_f hc h
              clear hc
              refine son rfl rfl rfl ?_
              refine sv rfl (opv_mv rfl) ?_
              refine son rfl rfl rfl ?_
              refine sv rfl (opv_ineq rfl rfl) ?_
              refine sv rfl (opv_pick_f rfl rfl) ?_
              refine sv rfl (opv_mv rfl) ?_
              refine ssplit 92 rfl (fun hc => ?_) (fun hc => ?_)
              · replace h := ite_t hc h
                clear hc
                refine soff rfl rfl rfl rfl ?_
                refine soff rfl rfl rfl rfl ?_
                refine soff rfl rfl rfl rfl ?_
                refine soff rfl rfl rfl rfl ?_
                refine soff rfl rfl rfl rfl ?_
                refine soff rfl rfl rfl rfl ?_
                refine soff rfl rfl rfl rfl ?_
                refine sv rfl (opv_pick_t rfl rfl) ?_
                refine snil ?_
                refine ccond rfl (fun _ => ?_) (fun hx => Bool.noConfusion hx)
                refine cseq ?_
                refine cregion ?_
                refine sv rfl (opv_mv rfl) ?_
                refine sv rfl (opv_as rfl) ?_
                refine snil ?_
                refine cret ?_
                refine then_ret ?_
                obtain rfl := Option.some.inj h
                refine ⟨Or.inr rfl, _, _, _, (resVs_cons (ResV.tmp _ _ rfl) resVs_nil), (pubA_id rfl), ?_⟩
                rfl
              · replace h := ite_f hc h
                clear hc
                refine son rfl rfl rfl ?_
                refine sv rfl (opv_fieldAddr_lp fi29_0 rfl) ?_
                refine son rfl rfl rfl ?_
                refine sv rfl (opv_load1 ti23 rfl (.lp _ _ _ rfl) rfl) ?_
                refine son rfl rfl rfl ?_
                refine sv rfl (opv_bs (l := a1.Key) Try.underlying23 Try.underlying5 Try.underlying9 rfl rfl rfl) ?_
                refine son rfl rfl rfl ?_
                refine sv rfl (opv_fieldAddr_lp fi29_0 rfl) ?_
                refine son rfl rfl rfl ?_
                refine sv rfl (opv_load1 ti23 rfl (.lp _ _ _ rfl) rfl) ?_
                refine son rfl rfl rfl ?_
                refine sv rfl (opv_bs (l := a2.Key) Try.underlying23 Try.underlying5 Try.underlying9 rfl rfl rfl) ?_
                refine son rfl rfl rfl ?_
                refine sv rfl (opv_seql' rfl rfl) ?_
                refine sv rfl (opv_pick_f rfl rfl) ?_
                refine snil ?_
                refine ccond rfl (fun hc => ?_) (fun hc => ?_)
                · replace h := ite_t hc h
                  clear hc
                  refine cseq ?_
                  refine cregion ?_
                  refine sv rfl (opv_mv rfl) ?_
                  refine sv rfl (opv_as rfl) ?_
                  refine snil ?_
                  refine cret ?_
                  refine then_ret ?_
                  obtain rfl := Option.some.inj h
                  refine ⟨Or.inr rfl, _, _, _, (resVs_cons (ResV.tmp _ _ rfl) resVs_nil), (pubA_id rfl), ?_⟩
                  rfl
                · replace h := ite_f hc h
                  clear hc
                  refine cskip ?_
                  refine then_normal ?_
                  exact ⟨(), _, h, ⟨rfl, rfl, rfl, trivial⟩, rfl⟩
      · skip
        refine cregion ?_
        refine sv rfl (opv_mv rfl) ?_
        refine sv rfl (opv_ineq rfl rfl) ?_
        refine sv rfl (opv_mv rfl) ?_
        refine ssplit 56 rfl (fun hc => ?_) (fun hc => ?_)
        · replace h := ite_t hc h
          clear hc
          refine soff rfl rfl rfl rfl ?_
          refine soff rfl rfl rfl rfl ?_
          refine soff rfl rfl rfl rfl ?_
          refine soff rfl rfl rfl rfl ?_
          refine soff rfl rfl rfl rfl ?_
          refine soff rfl rfl rfl rfl ?_
          refine sv rfl (opv_pick_t rfl rfl) ?_
          refine snil ?_
          refine ccond rfl (fun _ => ?_) (fun hx => Bool.noConfusion hx)
          refine cseq ?_
          refine cregion ?_
          refine sv rfl (opv_as rfl) ?_
          refine snil ?_
          refine cret ?_
          refine then_ret ?_
          obtain rfl := Option.some.inj h
          refine ⟨Or.inr rfl, _, _, _, (resVs_cons (ResV.tmp _ _ rfl) resVs_nil), (pubA_id rfl), ?_⟩
          rfl
        · replace h := ite_f hc h
          clear hc
          refine son rfl rfl rfl ?_
          refine sv rfl (opv_fieldAddr_lp fi27_0 rfl) ?_
          refine son rfl rfl rfl ?_
          refine sv rfl (opv_load1 ti22 rfl (.lp _ _ _ rfl) rfl) ?_
          refine son rfl rfl rfl ?_
          refine sv rfl (opv_fieldAddr_lp fi27_0 rfl) ?_
          refine son rfl rfl rfl ?_
          refine sv rfl (opv_load1 ti22 rfl (.lp _ _ _ rfl) rfl) ?_
          refine son rfl rfl rfl ?_
          obtain ⟨v12, hv12, h⟩ := bind_eq h
          refine scall1 rfl fn12 (opnds_cons rfl (opnds_cons rfl opnds_nil)) (pubA_id rfl) (m12_r09_Same_c hv12) ?_
          refine son rfl rfl rfl ?_
          refine sv rfl (opv_not rfl) ?_
          refine sv rfl (opv_pick_f rfl rfl) ?_
          refine snil ?_
          refine ccond rfl (fun hc => ?_) (fun hc => ?_)
          · replace h := ite_t hc h
            clear hc
            refine cseq ?_
            refine cregion ?_
            refine sv rfl (opv_as rfl) ?_
            refine snil ?_
            refine cret ?_
            refine then_ret ?_
            obtain rfl := Option.some.inj h
            refine ⟨Or.inr rfl, _, _, _, (resVs_cons (ResV.tmp _ _ rfl) resVs_nil), (pubA_id rfl), ?_⟩
            rfl
          · replace h := ite_f hc h
            clear hc
            refine cskip ?_
            refine then_normal ?_
            exact ⟨(), _, h, ⟨rfl, rfl, rfl, rfl, rfl, trivial⟩, rfl⟩
  · skip
    refine cregion ?_
    refine sv rfl (opv_mv rfl) ?_
    obtain ⟨v13, hv13, h⟩ := bind_eq h
    refine scall1 rfl fn9 (opnds_cons rfl opnds_nil) (pubA_id rfl) (m9_r08_FewWrites_c hv13) ?_
    refine sv rfl (opv_not rfl) ?_
    refine sv rfl (opv_mv rfl) ?_
    refine ssplit 23 rfl (fun hc => ?_) (fun hc => ?_)
    · replace h := ite_t hc h
      clear hc
      refine soff rfl rfl rfl rfl ?_
      refine soff rfl rfl rfl rfl ?_
      refine soff rfl rfl rfl rfl ?_
      refine soff rfl rfl rfl rfl ?_
      refine soff rfl rfl rfl rfl ?_
      refine sv rfl (opv_pick_t rfl rfl) ?_
      refine snil ?_
      refine ccond rfl (fun _ => ?_) (fun hx => Bool.noConfusion hx)
      refine cseq ?_
      refine cregion ?_
      refine sv rfl (opv_mv rfl) ?_
      refine sv rfl (opv_as rfl) ?_
      refine snil ?_
      refine cret ?_
      refine then_ret ?_
      obtain rfl := Option.some.inj h
      refine ⟨Or.inr rfl, _, _, _, (resVs_cons (ResV.tmp _ _ rfl) resVs_nil), (pubA_id rfl), ?_⟩
      rfl
    · replace h := ite_f hc h
      clear hc
      refine son rfl rfl rfl ?_
      refine sv rfl (opv_loadN ti29 rfl (.lp _ _ _ rfl) (Nat.le_of_ble_eq_true rfl)) ?_
      refine son rfl rfl rfl ?_
      refine sv rfl (opv_loadN ti29 rfl (.lp _ _ _ rfl) (Nat.le_of_ble_eq_true rfl)) ?_
      refine son rfl rfl rfl ?_
      refine sbuildN (out := ([a1, a2] : List GApiWrite).flatMap eGApiWrite) rfl Try.underlying22 ei29 (parts_cons rfl (parts_cons rfl parts_nil)) (.cons _ _ _ _ _ _ _ rfl rfl (Nat.le_of_ble_eq_true rfl) (.cons _ _ _ _ _ _ _ rfl rfl (Nat.le_of_ble_eq_true rfl) (.nil _))) rfl (by decide) ?_
      refine son rfl rfl rfl ?_
      refine spub 26 rfl (by (repeat' first | exact PubA.nil _ | apply PubA.cons | apply PubV.one | apply PubV.agg | exact PubL.nil | exact PubL.ls _ _ _ _ _ _ rfl (flat_len (f := eGApiWrite) (fun _ => rfl) ([a1, a2] : List GApiWrite)).symm | exact PubL.ls _ _ _ _ _ _ rfl (flat_len (f := eGApiWrite) (fun _ => rfl) _).symm | exact PubL.id _ rfl | exact PubLs.nil _ | apply PubLs.cons)) ?_
      obtain ⟨v14, hv14, h⟩ := bind_eq h
      refine scall1 rfl fn9 (opnds_cons rfl opnds_nil) (pubA_id rfl) (m9_r08_FewWrites_c hv14) ?_
      refine son rfl rfl rfl ?_
      refine sv rfl (opv_not rfl) ?_
      refine sv rfl (opv_pick_f rfl rfl) ?_
      refine snil ?_
      refine ccond rfl (fun hc => ?_) (fun hc => ?_)
      · replace h := ite_t hc h
        clear hc
        refine cseq ?_
        refine cregion ?_
        refine sv rfl (opv_mv rfl) ?_
        refine sv rfl (opv_as rfl) ?_
        refine snil ?_
        refine cret ?_
        refine then_ret ?_
        obtain rfl := Option.some.inj h
        refine ⟨Or.inr rfl, _, _, _, (resVs_cons (ResV.tmp _ _ rfl) resVs_nil), (pubA_id rfl), ?_⟩
        rfl
      · replace h := ite_f hc h
        clear hc
        refine cskip ?_
        refine then_normal ?_
        exact ⟨(), _, h, ⟨rfl, rfl, rfl, rfl, trivial⟩, rfl⟩

def m7_l09_BufferRange_k6 (v1 : Bool) (v3 : GBufferBuf) (v4 : (List GApiKV)) (v5 : (List GApiKV)) (b6 : (List GApiKV)) : Option Bool :=
  if v1 then ((m21_r05_KVs v5 b6).bind fun v7 => if v7 then ((m18_buffer_Over v3 v4 (GApiRange.mk ([] : List UInt8) ([] : List UInt8) true) 1000).bind fun v8 => (m21_r05_KVs v8 v4).bind fun v9 => some v9) else (some false)) else (some false)

def m7_l09_BufferRange_s10 (a2 : GApiRange) (v4 : (List GApiKV)) (s10 : Int × (List GApiKV)) : Option (LB (Int × (List GApiKV)) ((List GApiKV))) :=
  if (decide (s10.1 < (v4.length : Int))) then ((idx v4 s10.1).bind fun u11 => (m19_r06_Has a2 u11.Key).bind fun v12 => if v12 then ((idx v4 s10.1).bind fun u13 => if (s10.2.length + [u13].length) * 48 ≤ 140737488355328 then (some (.cont ((wI (s10.1 + 1)), (s10.2 ++ [u13])))) else none) else (some (.cont ((wI (s10.1 + 1)), s10.2)))) else (some (.brk s10.2))

def m7_l09_BufferRange_k2 (a0 : List GApiWrite) (a1 : List GApiKV) (a2 : GApiRange) (v1 : Bool) (b2 : Unit) : Option Bool :=
  (m17_l09_grown a0).bind fun v3 => (m18_buffer_Over v3 a1 (GApiRange.mk ([] : List UInt8) ([] : List UInt8) true) 1000).bind fun v4 => (m18_buffer_Over v3 a1 a2 1000).bind fun v5 => (iterB (m7_l09_BufferRange_s10 a2 v4) fuel (0, ([] : List GApiKV))).bind fun e15 => m7_l09_BufferRange_k6 v1 v3 v4 v5 e15
def m7_l09_BufferRange (a0 : List GApiWrite) (a1 : List GApiKV) (a2 : GApiRange) : Option Bool :=
  (m8_l09_awake).bind fun v1 => (m9_r08_FewWrites a0).bind fun v16 => if (!v16) then (some v1) else ((m14_l09_short a1).bind fun v17 => if (!v17) then (some v1) else ((m15_r06_Short a2).bind fun v18 => if (!v18) then (some v1) else ((m16_r09_Rising a1).bind fun v19 => if (!v19) then (some v1) else (m7_l09_BufferRange_k2 a0 a1 a2 v1 ()))))

set_option maxRecDepth 100000 in
theorem m7_l09_BufferRange_c {a0 : List GApiWrite} {a1 : List GApiKV} {a2 : GApiRange} {r : Bool} (h : m7_l09_BufferRange a0 a1 a2 = some r) : CallsA Try.prog 7 [.one (.sl a0.length (a0.flatMap eGApiWrite)), .one (.sl a1.length (a1.flatMap eGApiKV)), .agg [.sl a2.Lo.length (a2.Lo.flatMap eU8), .sl a2.Hi.length (a2.Hi.flatMap eU8), .b a2.Open]] (· = .s (.one (.b r))) := by
  unfold m7_l09_BufferRange at h
  refine callsA_of Try.func7 rfl (nt := 77) rfl (Nat.le_of_ble_eq_true rfl) ?_
  intro w0 S0
  refine cseq ?_
  refine cregion ?_
  refine sbox rfl rfl ?_
  refine sv rfl (opv_as rfl) ?_
  refine snil ?_
  refine cseq ?_
  refine cregion ?_
  obtain ⟨v1, hv1, h⟩ := bind_eq h
  refine scall1 rfl fn8 opnds_nil (pubA_id rfl) (m8_l09_awake_c hv1) ?_
  refine sv rfl (opv_as rfl) ?_
  refine snil ?_
  refine cseq ?_
  refine cseq ?_
  refine cjoin3 (Unit) (fun b2 => [(0, .s (.one (.sl a0.length (a0.flatMap eGApiWrite)))), (1, .s (.one (.sl a1.length (a1.flatMap eGApiKV)))), (5, .s (.one (.lp 0 0))), (7, .s (.one (.b v1)))]) (fun b2 => [.box [.sl a2.Lo.length (a2.Lo.flatMap eU8), .sl a2.Hi.length (a2.Hi.flatMap eU8), .b a2.Open]]) (fun b2 => m7_l09_BufferRange_k2 a0 a1 a2 v1 b2 = some r) (fun _ _ => inbL_of rfl) (fun _ _ => blkinb_of rfl) (fun _ _ => Nat.le_of_ble_eq_true rfl) (fun b2 h => ?_) ?_
  · unfold m7_l09_BufferRange_k2 at h
    refine cseq ?_
    refine cregion ?_
    refine sv rfl (opv_mv rfl) ?_
    obtain ⟨v3, hv3, h⟩ := bind_eq h
    refine scall1 rfl fn17 (opnds_cons rfl opnds_nil) (pubA_id rfl) (m17_l09_grown_c hv3) ?_
    refine salloc rfl zi27 ?_
    refine sstore sz27 rfl rfl rfl rfl (Nat.le_of_ble_eq_true rfl) ?_
    refine smem [.box [.sl a2.Lo.length (a2.Lo.flatMap eU8), .sl a2.Hi.length (a2.Hi.flatMap eU8), .b a2.Open], .box [.sl v3.L.length (v3.L.flatMap eGApiWrite)]] rfl ?_
    refine snil ?_
    refine cseq ?_
    refine cregion ?_
    refine sv rfl (opv_loadN ti27 rfl (.lp _ _ _ rfl) (Nat.le_of_ble_eq_true rfl)) ?_
    refine sv rfl (opv_mv rfl) ?_
    refine sv rfl (opv_build zi40 pi40 (parts_cons rfl parts_nil) (.cons _ _ _ _ _ _ _ rfl rfl (Nat.le_of_ble_eq_true rfl) (.nil _))) ?_
    obtain ⟨v4, hv4, h⟩ := bind_eq h
    refine scall1 rfl fn18 (opnds_cons rfl (opnds_cons rfl (opnds_cons rfl (opnds_cons rfl opnds_nil)))) (pubC rfl) (m18_buffer_Over_c hv4) ?_
    refine sv rfl (opv_as rfl) ?_
    refine snil ?_
    refine cseq ?_
    refine cregion ?_
    refine sv rfl (opv_loadN ti27 rfl (.lp _ _ _ rfl) (Nat.le_of_ble_eq_true rfl)) ?_
    refine sv rfl (opv_mv rfl) ?_
    refine sv rfl (opv_loadN ti40 rfl (.lp _ _ _ rfl) (Nat.le_of_ble_eq_true rfl)) ?_
    obtain ⟨v5, hv5, h⟩ := bind_eq h
    refine scall1 rfl fn18 (opnds_cons rfl (opnds_cons rfl (opnds_cons rfl (opnds_cons rfl opnds_nil)))) (pubA_id rfl) (m18_buffer_Over_c hv5) ?_
    refine sv rfl (opv_as rfl) ?_
    refine snil ?_
    refine cseq ?_
    refine cregion ?_
    refine sv rfl (opv_as rfl) ?_
    refine snil ?_
    refine cseq ?_
    refine cseq ?_
    refine cregion ?_
    refine sv rfl (opv_as rfl) ?_
    refine snil ?_
    refine sadopt_c 46 2 11 (by decide) rfl ?_
    refine cjoin ((List GApiKV)) (fun b6 => [(7, .s (.one (.b v1))), (8, .s (.one (.lp 1 0))), (9, .s (.one (.sl v4.length (v4.flatMap eGApiKV)))), (10, .s (.one (.sl v5.length (v5.flatMap eGApiKV)))), (11, .s (.one (.ls 2 b6.length)))]) (fun b6 => [.box [.sl a2.Lo.length (a2.Lo.flatMap eU8), .sl a2.Hi.length (a2.Hi.flatMap eU8), .b a2.Open], .box [.sl v3.L.length (v3.L.flatMap eGApiWrite)], .arr 46 2 0 (b6.flatMap eGApiKV)]) (fun b6 => m7_l09_BufferRange_k6 v1 v3 v4 v5 b6 = some r) (fun _ _ => inbL_of rfl) (fun _ _ => blkinb_of rfl) (fun _ _ => Nat.le_of_ble_eq_true rfl) (fun b6 h => ?_) ?_
    · unfold m7_l09_BufferRange_k6 at h
      refine cseq ?_
      refine cregion ?_
      refine sv rfl (opv_mv rfl) ?_
      refine sv rfl (opv_mv rfl) ?_
      refine ssplit 64 rfl (fun hc => ?_) (fun hc => ?_)
      · replace h := ite_t hc h
        clear hc
        refine son rfl rfl rfl ?_
        refine sv rfl (opv_mv rfl) ?_
        refine son rfl rfl rfl ?_
        refine sv rfl (opv_mv rfl) ?_
        refine son rfl rfl rfl ?_
        refine spub 66 rfl (by (repeat' first | exact PubA.nil _ | apply PubA.cons | apply PubV.one | apply PubV.agg | exact PubL.nil | exact PubL.ls _ _ _ _ _ _ rfl (flat_len (f := eGApiKV) (fun _ => rfl) _).symm | exact PubL.id _ rfl | exact PubLs.nil _ | apply PubLs.cons)) ?_
        obtain ⟨v7, hv7, h⟩ := bind_eq h
        refine scall1 rfl fn21 (opnds_cons rfl (opnds_cons rfl opnds_nil)) (pubA_id rfl) (m21_r05_KVs_c hv7) ?_
        refine sv rfl (opv_pick_t rfl rfl) ?_
        refine sv rfl (opv_mv rfl) ?_
        refine ssplit 69 rfl (fun hc => ?_) (fun hc => ?_)
        · replace h := ite_t hc h
          clear hc
          refine son rfl rfl rfl ?_
          refine sv rfl (opv_loadN ti27 rfl (.lp _ _ _ rfl) (Nat.le_of_ble_eq_true rfl)) ?_
          refine son rfl rfl rfl ?_
          refine sv rfl (opv_mv rfl) ?_
          refine son rfl rfl rfl ?_
          refine sv rfl (opv_build zi40 pi40 (parts_cons rfl parts_nil) (.cons _ _ _ _ _ _ _ rfl rfl (Nat.le_of_ble_eq_true rfl) (.nil _))) ?_
          refine son rfl rfl rfl ?_
          obtain ⟨v8, hv8, h⟩ := bind_eq h
          refine scall1 rfl fn18 (opnds_cons rfl (opnds_cons rfl (opnds_cons rfl (opnds_cons rfl opnds_nil)))) (pubC rfl) (m18_buffer_Over_c hv8) ?_
          refine son rfl rfl rfl ?_
          refine sv rfl (opv_mv rfl) ?_
          refine son rfl rfl rfl ?_
          obtain ⟨v9, hv9, h⟩ := bind_eq h
          refine scall1 rfl fn21 (opnds_cons rfl (opnds_cons rfl opnds_nil)) (pubA_id rfl) (m21_r05_KVs_c hv9) ?_
          refine sv rfl (opv_pick_t rfl rfl) ?_
          refine sv rfl (opv_as rfl) ?_
          refine snil ?_
          refine cret ?_
          obtain rfl := Option.some.inj h
          refine ⟨Or.inr rfl, _, _, _, (resVs_cons (ResV.tmp _ _ rfl) resVs_nil), (pubA_id rfl), ?_⟩
          rfl
        · replace h := ite_f hc h
          clear hc
          refine soff rfl rfl rfl rfl ?_
          refine soff rfl rfl rfl rfl ?_
          refine soff rfl rfl rfl rfl ?_
          refine soff rfl rfl rfl rfl ?_
          refine soff rfl rfl rfl rfl ?_
          refine soff rfl rfl rfl rfl ?_
          refine sv rfl (opv_pick_f rfl rfl) ?_
          refine sv rfl (opv_as rfl) ?_
          refine snil ?_
          refine cret ?_
          obtain rfl := Option.some.inj h
          refine ⟨Or.inr rfl, _, _, _, (resVs_cons (ResV.tmp _ _ rfl) resVs_nil), (pubA_id rfl), ?_⟩
          rfl
      · replace h := ite_f hc h
        clear hc
        refine soff rfl rfl rfl rfl ?_
        refine soff rfl rfl rfl rfl ?_
        refine soff rfl rfl rfl rfl ?_
        refine sv rfl (opv_pick_f rfl rfl) ?_
        refine sv rfl (opv_mv rfl) ?_
        refine soff rfl rfl rfl rfl ?_
        refine soff rfl rfl rfl rfl ?_
        refine soff rfl rfl rfl rfl ?_
        refine soff rfl rfl rfl rfl ?_
        refine soff rfl rfl rfl rfl ?_
        refine soff rfl rfl rfl rfl ?_
        refine sv rfl (opv_pick_f rfl rfl) ?_
        refine sv rfl (opv_as rfl) ?_
        refine snil ?_
        refine cret ?_
        obtain rfl := Option.some.inj h
        refine ⟨Or.inr rfl, _, _, _, (resVs_cons (ResV.tmp _ _ rfl) resVs_nil), (pubA_id rfl), ?_⟩
        rfl
    · skip
      refine cblock ?_
      obtain ⟨x10, hx10, ho10⟩ := bind_eq h
      refine awc_loop (G := Nat × (Int × (List GApiKV))) (fun g => [(5, .s (.one (.lp 0 0))), (7, .s (.one (.b v1))), (8, .s (.one (.lp 1 0))), (9, .s (.one (.sl v4.length (v4.flatMap eGApiKV)))), (10, .s (.one (.sl v5.length (v5.flatMap eGApiKV)))), (11, .s (.one (.ls 2 g.2.2.length))), (12, .s (.one (.i .i64 g.2.1)))]) (fun g => [.box [.sl a2.Lo.length (a2.Lo.flatMap eU8), .sl a2.Hi.length (a2.Hi.flatMap eU8), .b a2.Open], .box [.sl v3.L.length (v3.L.flatMap eGApiWrite)], .arr 46 2 0 (g.2.2.flatMap eGApiKV)]) (fun g => iterB (m7_l09_BufferRange_s10 a2 v4) g.1 g.2 = some x10) (fun g => g.1) (fuel, (0, ([] : List GApiKV))) hx10 ⟨rfl, rfl, rfl, rfl, rfl, rfl, rfl, trivial⟩ [] rfl (fun _ _ => inbL_of rfl) (fun _ _ => blkinb_of rfl) (fun _ _ => Nat.le_of_ble_eq_true rfl) ?_
      clear hx10 h
      rintro ⟨n10, s10⟩ h
      obtain ⟨n10, y10, rfl, h, hk10⟩ := iterB_eq h
      unfold m7_l09_BufferRange_s10 at h
      refine cseq ?_
      refine cseq ?_
      refine cregion ?_
      refine sv rfl (opv_mv rfl) ?_
      refine sv rfl (opv_mv rfl) ?_
      refine sv rfl (opv_len_sl si38 rfl) ?_
      refine sv rfl (opv_lss rfl rfl) ?_
      refine snil ?_
      refine ccond rfl (fun hc => ?_) (fun hc => ?_)
      · replace h := ite_t hc h
        clear hc
        refine cskip ?_
        refine then_normal ?_
        refine cseq ?_
        refine cblock ?_
        refine cseq ?_
        refine cdraw mixed (by kernel_rfl) ?_
        refine dv rfl (opv_loadN ti40 rfl (.lp _ _ _ rfl) (Nat.le_of_ble_eq_true rfl)) ?_
        refine dv rfl (opv_mv rfl) ?_
        refine dv rfl (opv_mv rfl) ?_
        obtain ⟨u11, hu11, h⟩ := bind_eq h
        refine dv rfl (opv_ix (f := eGApiKV) si38 (fun _ => rfl) rfl rfl rfl rfl hu11) ?_
        refine dv rfl (opv_fieldAddr_cp fi46_0 rfl) ?_
        refine dv rfl (opv_load1 ti23 rfl (.cp _) rfl) ?_
        obtain ⟨v12, hv12, h⟩ := bind_eq h
        refine dd rfl (opD_call fn19 (opnds_cons rfl (opnds_cons rfl opnds_nil)) rfl (m19_r06_Has_c hv12)) ?_
        refine dnil ?_
        refine then_normal ?_
        refine ccond rfl (fun hc => ?_) (fun hc => ?_)
        · replace h := ite_t hc h
          clear hc
          refine cregion ?_
          refine sv rfl (opv_mv rfl) ?_
          refine sv rfl (opv_mv rfl) ?_
          refine sv rfl (opv_mv rfl) ?_
          obtain ⟨u13, hu13, h⟩ := bind_eq h
          refine sv rfl (opv_ix (f := eGApiKV) si38 (fun _ => rfl) rfl rfl rfl rfl hu13) ?_
          refine sv rfl (opv_loadNe (ys := [.sl u13.Key.length (u13.Key.flatMap eU8), .sl u13.Val.length (u13.Val.flatMap eU8)]) ti46 rfl (.cp _) rfl rfl) ?_
          refine sbuild1 rfl Try.underlying38 ei46 rfl rfl (List.all_eq_true.1 rfl) (by decide) ?_
          refine smem [.box [.sl a2.Lo.length (a2.Lo.flatMap eU8), .sl a2.Hi.length (a2.Hi.flatMap eU8), .b a2.Open], .box [.sl v3.L.length (v3.L.flatMap eGApiWrite)], .arr 46 2 0 (s10.2.flatMap eGApiKV), .arr 46 2 0 ([u13].flatMap eGApiKV)] rfl ?_
          obtain ⟨hb14, h⟩ := chk_eq h
          refine sapp (f := eGApiKV) (xs := s10.2) (us := [u13]) rfl Try.underlying38 ei46 ni38 (fun _ => rfl) rfl rfl (.one _ _ _ _ (.ls _ _ _ _ _ _ rfl (flat_len (f := eGApiKV) (fun _ => rfl) [u13]).symm)) rfl rfl rfl (.sl _ _ _ (flat_len (f := eGApiKV) (fun _ => rfl) _)) rfl rfl hb14 (by decide) ?_
          refine sv rfl (opv_as rfl) ?_
          refine snil0 ?_
          refine block_normal ?_
          refine then_normal ?_
          refine cregion ?_
          refine sv rfl (opv_mv rfl) ?_
          refine sv rfl (opv_add rfl rfl) ?_
          refine sv rfl (opv_as rfl) ?_
          refine snil ?_
          obtain rfl := Option.some.inj h
          exact ⟨(n10, ((wI (s10.1 + 1)), (s10.2 ++ [u13]))), _, hk10, ⟨rfl, rfl, rfl, rfl, rfl, rfl, rfl, trivial⟩, rfl, Nat.lt_succ_self _⟩
        · replace h := ite_f hc h
          clear hc
          refine cskip ?_
          refine block_normal ?_
          refine then_normal ?_
          refine cregion ?_
          refine sv rfl (opv_mv rfl) ?_
          refine sv rfl (opv_add rfl rfl) ?_
          refine sv rfl (opv_as rfl) ?_
          refine snil ?_
          obtain rfl := Option.some.inj h
          exact ⟨(n10, ((wI (s10.1 + 1)), s10.2)), _, hk10, ⟨rfl, rfl, rfl, rfl, rfl, rfl, rfl, trivial⟩, rfl, Nat.lt_succ_self _⟩
      · replace h := ite_f hc h
        clear hc
        refine cexit ?_
        refine then_exit ?_
        refine then_exit ?_
        refine block_hit ?_
        refine then_normal ?_
        obtain rfl := Option.some.inj h
        obtain rfl : _ = x10 := hk10
        exact ⟨s10.2, _, ho10, ⟨rfl, rfl, rfl, rfl, rfl, trivial⟩, rfl⟩
  · skip
    refine cregion ?_
    refine sv rfl (opv_mv rfl) ?_
    obtain ⟨v16, hv16, h⟩ := bind_eq h
    refine scall1 rfl fn9 (opnds_cons rfl opnds_nil) (pubA_id rfl) (m9_r08_FewWrites_c hv16) ?_
    refine sv rfl (opv_not rfl) ?_
    refine sv rfl (opv_mv rfl) ?_
    refine ssplit 17 rfl (fun hc => ?_) (fun hc => ?_)
    · replace h := ite_t hc h
      clear hc
      refine soff rfl rfl rfl rfl ?_
      refine soff rfl rfl rfl rfl ?_
      refine soff rfl rfl rfl rfl ?_
      refine sv rfl (opv_pick_t rfl rfl) ?_
      refine sv rfl (opv_mv rfl) ?_
      refine soff rfl rfl rfl rfl ?_
      refine soff rfl rfl rfl rfl ?_
      refine soff rfl rfl rfl rfl ?_
      refine sv rfl (opv_pick_t rfl rfl) ?_
      refine sv rfl (opv_mv rfl) ?_
      refine soff rfl rfl rfl rfl ?_
      refine soff rfl rfl rfl rfl ?_
      refine soff rfl rfl rfl rfl ?_
      refine sv rfl (opv_pick_t rfl rfl) ?_
      refine snil ?_
      refine ccond rfl (fun _ => ?_) (fun hx => Bool.noConfusion hx)
      refine cseq ?_
      refine cregion ?_
      refine sv rfl (opv_mv rfl) ?_
      refine sv rfl (opv_as rfl) ?_
      refine snil ?_
      refine cret ?_
      refine then_ret ?_
      obtain rfl := Option.some.inj h
      refine ⟨Or.inr rfl, _, _, _, (resVs_cons (ResV.tmp _ _ rfl) resVs_nil), (pubA_id rfl), ?_⟩
      rfl
    · replace h := ite_f hc h
      clear hc
      refine son rfl rfl rfl ?_
      refine sv rfl (opv_mv rfl) ?_
      refine son rfl rfl rfl ?_
      obtain ⟨v17, hv17, h⟩ := bind_eq h
      refine scall1 rfl fn14 (opnds_cons rfl opnds_nil) (pubA_id rfl) (m14_l09_short_c hv17) ?_
      refine son rfl rfl rfl ?_
      refine sv rfl (opv_not rfl) ?_
      refine sv rfl (opv_pick_f rfl rfl) ?_
      refine sv rfl (opv_mv rfl) ?_
      refine ssplit 22 rfl (fun hc => ?_) (fun hc => ?_)
      · replace h := ite_t hc h
        clear hc
        refine soff rfl rfl rfl rfl ?_
        refine soff rfl rfl rfl rfl ?_
        refine soff rfl rfl rfl rfl ?_
        refine sv rfl (opv_pick_t rfl rfl) ?_
        refine sv rfl (opv_mv rfl) ?_
        refine soff rfl rfl rfl rfl ?_
        refine soff rfl rfl rfl rfl ?_
        refine soff rfl rfl rfl rfl ?_
        refine sv rfl (opv_pick_t rfl rfl) ?_
        refine snil ?_
        refine ccond rfl (fun _ => ?_) (fun hx => Bool.noConfusion hx)
        refine cseq ?_
        refine cregion ?_
        refine sv rfl (opv_mv rfl) ?_
        refine sv rfl (opv_as rfl) ?_
        refine snil ?_
        refine cret ?_
        refine then_ret ?_
        obtain rfl := Option.some.inj h
        refine ⟨Or.inr rfl, _, _, _, (resVs_cons (ResV.tmp _ _ rfl) resVs_nil), (pubA_id rfl), ?_⟩
        rfl
      · replace h := ite_f hc h
        clear hc
        refine son rfl rfl rfl ?_
        refine sv rfl (opv_loadN ti40 rfl (.lp _ _ _ rfl) (Nat.le_of_ble_eq_true rfl)) ?_
        refine son rfl rfl rfl ?_
        obtain ⟨v18, hv18, h⟩ := bind_eq h
        refine scall1 rfl fn15 (opnds_cons rfl opnds_nil) (pubA_id rfl) (m15_r06_Short_c hv18) ?_
        refine son rfl rfl rfl ?_
        refine sv rfl (opv_not rfl) ?_
        refine sv rfl (opv_pick_f rfl rfl) ?_
        refine sv rfl (opv_mv rfl) ?_
        refine ssplit 27 rfl (fun hc => ?_) (fun hc => ?_)
        · replace h := ite_t hc h
          clear hc
          refine soff rfl rfl rfl rfl ?_
          refine soff rfl rfl rfl rfl ?_
          refine soff rfl rfl rfl rfl ?_
          refine sv rfl (opv_pick_t rfl rfl) ?_
          refine snil ?_
          refine ccond rfl (fun _ => ?_) (fun hx => Bool.noConfusion hx)
          refine cseq ?_
          refine cregion ?_
          refine sv rfl (opv_mv rfl) ?_
          refine sv rfl (opv_as rfl) ?_
          refine snil ?_
          refine cret ?_
          refine then_ret ?_
          obtain rfl := Option.some.inj h
          refine ⟨Or.inr rfl, _, _, _, (resVs_cons (ResV.tmp _ _ rfl) resVs_nil), (pubA_id rfl), ?_⟩
          rfl
        · replace h := ite_f hc h
          clear hc
          refine son rfl rfl rfl ?_
          refine sv rfl (opv_mv rfl) ?_
          refine son rfl rfl rfl ?_
          obtain ⟨v19, hv19, h⟩ := bind_eq h
          refine scall1 rfl fn16 (opnds_cons rfl opnds_nil) (pubA_id rfl) (m16_r09_Rising_c hv19) ?_
          refine son rfl rfl rfl ?_
          refine sv rfl (opv_not rfl) ?_
          refine sv rfl (opv_pick_f rfl rfl) ?_
          refine snil ?_
          refine ccond rfl (fun hc => ?_) (fun hc => ?_)
          · replace h := ite_t hc h
            clear hc
            refine cseq ?_
            refine cregion ?_
            refine sv rfl (opv_mv rfl) ?_
            refine sv rfl (opv_as rfl) ?_
            refine snil ?_
            refine cret ?_
            refine then_ret ?_
            obtain rfl := Option.some.inj h
            refine ⟨Or.inr rfl, _, _, _, (resVs_cons (ResV.tmp _ _ rfl) resVs_nil), (pubA_id rfl), ?_⟩
            rfl
          · replace h := ite_f hc h
            clear hc
            refine cskip ?_
            refine then_normal ?_
            exact ⟨(), _, h, ⟨rfl, rfl, rfl, rfl, trivial⟩, rfl⟩

def m34_buffer_byKey (a0 : GApiKV) (a1 : GApiKV) : Option Int :=
  (m40_keys_Cmp a0.Key a1.Key).bind fun v1 => some v1

set_option maxRecDepth 100000 in
theorem m34_buffer_byKey_c {a0 : GApiKV} {a1 : GApiKV} {r : Int} (h : m34_buffer_byKey a0 a1 = some r) : CallsA Try.prog 34 [.agg [.sl a0.Key.length (a0.Key.flatMap eU8), .sl a0.Val.length (a0.Val.flatMap eU8)], .agg [.sl a1.Key.length (a1.Key.flatMap eU8), .sl a1.Val.length (a1.Val.flatMap eU8)]] (· = .s (.one (.i .i64 r))) := by
  unfold m34_buffer_byKey at h
  refine callsA_of Try.func34 rfl (nt := 10) rfl (Nat.le_of_ble_eq_true rfl) ?_
  intro w0 S0
  refine cseq ?_
  refine cregion ?_
  refine sbox rfl rfl ?_
  refine sbox rfl rfl ?_
  refine sv rfl (opv_as rfl) ?_
  refine snil ?_
  refine cseq ?_
  refine cregion ?_
  refine sv rfl (opv_fieldAddr_lp fi46_0 rfl) ?_
  refine sv rfl (opv_load1 ti23 rfl (.lp _ _ _ rfl) rfl) ?_
  refine sv rfl (opv_fieldAddr_lp fi46_0 rfl) ?_
  refine sv rfl (opv_load1 ti23 rfl (.lp _ _ _ rfl) rfl) ?_
  obtain ⟨v1, hv1, h⟩ := bind_eq h
  refine scall1 rfl fn40 (opnds_cons rfl (opnds_cons rfl opnds_nil)) (pubA_id rfl) (m40_keys_Cmp_c hv1) ?_
  refine sv rfl (opv_as rfl) ?_
  refine snil ?_
  refine cret ?_
  obtain rfl := Option.some.inj h
  refine ⟨Or.inr rfl, _, _, _, (resVs_cons (ResV.tmp _ _ rfl) resVs_nil), (pubA_id rfl), ?_⟩
  rfl

def m37_keys_key_reached (a0 : List UInt8) (a1 : List UInt8) : Option Bool :=
  (m40_keys_Cmp a1 a0).bind fun v1 => some (decide (0 ≤ v1))

set_option maxRecDepth 100000 in
theorem m37_keys_key_reached_c {a0 : List UInt8} {a1 : List UInt8} {r : Bool} (h : m37_keys_key_reached a0 a1 = some r) : CallsA Try.prog 37 [.one (.sl a0.length (a0.flatMap eU8)), .one (.sl a1.length (a1.flatMap eU8))] (· = .s (.one (.b r))) := by
  unfold m37_keys_key_reached at h
  refine callsA_of Try.func37 rfl (nt := 9) rfl (Nat.le_of_ble_eq_true rfl) ?_
  intro w0 S0
  refine cseq ?_
  refine cregion ?_
  refine sv rfl (opv_as rfl) ?_
  refine snil ?_
  refine cseq ?_
  refine cregion ?_
  refine sv rfl (opv_mv rfl) ?_
  refine sv rfl (opv_mv rfl) ?_
  obtain ⟨v1, hv1, h⟩ := bind_eq h
  refine scall1 rfl fn40 (opnds_cons rfl (opnds_cons rfl opnds_nil)) (pubA_id rfl) (m40_keys_Cmp_c hv1) ?_
  refine sv rfl (opv_geq rfl rfl) ?_
  refine sv rfl (opv_as rfl) ?_
  refine snil ?_
  refine cret ?_
  obtain rfl := Option.some.inj h
  refine ⟨Or.inr rfl, _, _, _, (resVs_cons (ResV.tmp _ _ rfl) resVs_nil), (pubA_id rfl), ?_⟩
  rfl


end Go.Proofs.Ytmkcigfeebippaa.Abs
