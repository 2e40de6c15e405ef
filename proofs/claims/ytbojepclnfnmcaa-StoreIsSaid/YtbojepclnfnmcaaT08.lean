/-
  t
-/
import Derived.Test.YtbojepclnfnmcaaT08b
namespace Go.Proofs.Ytbojepclnfnmcaa.Abs
open Go.RowKit Go.Proofs
def m49_r07_Same (a0 : List GR07Ver) (a1 : List GR07Ver) : Option Bool :=
  if (!decide ((a0.length : Int) = (a1.length : Int))) then (some false) else ((iter (m49_r07_Same_s2 a0 a1) fuel 0).bind fun x => match x with | .inl r => some r | .inr e6 => m49_r07_Same_k1 e6)

set_option maxRecDepth 100000 in
theorem m49_r07_Same_c {a0 : List GR07Ver} {a1 : List GR07Ver} {r : Bool} (h : m49_r07_Same a0 a1 = some r) : CallsA Try.prog 49 [.one (.sl a0.length (a0.flatMap eGR07Ver)), .one (.sl a1.length (a1.flatMap eGR07Ver))] (· = .s (.one (.b r))) := by
  unfold m49_r07_Same at h
  refine callsA_of Try.func49 rfl (nt := 27) rfl (Nat.le_of_ble_eq_true rfl) ?_
  intro w0 S0
  refine cseq ?_
  refine cregion ?_
  refine sv rfl (opv_as rfl) ?_
  refine snil ?_
  refine cseq ?_
  refine cseq ?_
  refine cregion ?_
  refine sv rfl (opv_mv rfl) ?_
  refine sv rfl (opv_len_sl si77 rfl) ?_
  refine sv rfl (opv_mv rfl) ?_
  refine sv rfl (opv_len_sl si77 rfl) ?_
  refine sv rfl (opv_ineq rfl rfl) ?_
  refine snil ?_
  refine ccond rfl (fun hc => ?_) (fun hc => ?_)
  · replace h := ite_t hc h
    clear hc
    refine cseq ?_
    refine cregion ?_
    refine sv rfl (opv_as rfl) ?_
    refine snil ?_
    refine cret ?_
    refine then_ret ?_
    obtain rfl := Option.some.inj h
    refine ⟨Or.inr rfl, _, _, _, (resVs_cons (ResV.tmp _ _ rfl) resVs_nil), (pubA_id rfl), ?_⟩
    rfl
  · replace h := ite_f hc h
    clear hc
    refine cskip ?_
    refine then_normal ?_
    refine cseq ?_
    refine cseq ?_
    refine cregion ?_
    refine sv rfl (opv_as rfl) ?_
    refine snil ?_
    refine cjoin (Unit) (fun b1 => []) (fun b1 => []) (fun b1 => m49_r07_Same_k1 b1 = some r) (fun _ _ => inbL_of rfl) (fun _ _ => blkinb_of rfl) (fun _ _ => Nat.le_of_ble_eq_true rfl) (fun b1 h => ?_) ?_
    · unfold m49_r07_Same_k1 at h
      refine cseq ?_
      refine cregion ?_
      refine sv rfl (opv_as rfl) ?_
      refine snil ?_
      refine cret ?_
      obtain rfl := Option.some.inj h
      refine ⟨Or.inr rfl, _, _, _, (resVs_cons (ResV.tmp _ _ rfl) resVs_nil), (pubA_id rfl), ?_⟩
      rfl
    · skip
      refine cblock ?_
      obtain ⟨x2, hx2, ho2⟩ := bind_eq h
      refine awc_loop (G := Nat × (Int)) (fun g => [(0, .s (.one (.sl a0.length (a0.flatMap eGR07Ver)))), (1, .s (.one (.sl a1.length (a1.flatMap eGR07Ver)))), (5, .s (.one (.i .i64 g.2)))]) (fun g => []) (fun g => iter (m49_r07_Same_s2 a0 a1) g.1 g.2 = some x2) (fun g => g.1) (fuel, 0) hx2 ⟨rfl, rfl, rfl, trivial⟩ [] rfl (fun _ _ => inbL_of rfl) (fun _ _ => blkinb_of rfl) (fun _ _ => Nat.le_of_ble_eq_true rfl) ?_
      clear hx2 h
      rintro ⟨n2, s2⟩ h
      obtain ⟨n2, y2, rfl, h, hk2⟩ := iter_eq h
      unfold m49_r07_Same_s2 at h
      refine cseq ?_
      refine cseq ?_
      refine cregion ?_
      refine sv rfl (opv_mv rfl) ?_
      refine sv rfl (opv_mv rfl) ?_
      refine sv rfl (opv_len_sl si77 rfl) ?_
      refine sv rfl (opv_lss rfl rfl) ?_
      refine snil ?_
      refine ccond rfl (fun hc => ?_) (fun hc => ?_)
      · replace h := ite_t hc h
        clear hc
        refine cskip ?_
        refine then_normal ?_
        refine cseq ?_
        refine cblock ?_
        refine cseq ?_
        refine cdraw mixed (by kernel_rfl) ?_
        refine dv rfl (opv_mv rfl) ?_
        refine dv rfl (opv_mv rfl) ?_
        obtain ⟨u3, hu3, h⟩ := bind_eq h
        refine dv rfl (opv_ix (f := eGR07Ver) si77 (fun _ => rfl) rfl rfl rfl rfl hu3) ?_
        refine dv rfl (opv_loadNe (ys := [.i .i64 u3.Ts, .sl u3.Val.length (u3.Val.flatMap eU8), .b u3.Del]) ti84 rfl (.cp _) rfl rfl) ?_
        refine dv rfl (opv_mv rfl) ?_
        refine dv rfl (opv_mv rfl) ?_
        obtain ⟨u4, hu4, h⟩ := bind_eq h
        refine dv rfl (opv_ix (f := eGR07Ver) si77 (fun _ => rfl) rfl rfl rfl rfl hu4) ?_
        refine dv rfl (opv_loadNe (ys := [.i .i64 u4.Ts, .sl u4.Val.length (u4.Val.flatMap eU8), .b u4.Del]) ti84 rfl (.cp _) rfl rfl) ?_
        obtain ⟨v5, hv5, h⟩ := bind_eq h
        refine dd rfl (opD_call fn70 (opnds_cons rfl (opnds_cons rfl opnds_nil)) rfl (m70_r07_One_c hv5)) ?_
        refine dv rfl (opv_not rfl) ?_
        refine dnil ?_
        refine then_normal ?_
        refine ccond rfl (fun hc => ?_) (fun hc => ?_)
        · replace h := ite_t hc h
          clear hc
          refine cseq ?_
          refine cregion ?_
          refine sv rfl (opv_as rfl) ?_
          refine snil ?_
          refine cret ?_
          refine block_ret ?_
          refine then_ret ?_
          refine then_ret ?_
          refine block_ret ?_
          refine then_ret ?_
          obtain rfl := Option.some.inj h
          obtain rfl : Sum.inl _ = x2 := hk2
          replace ho2 : some _ = some _ := ho2
          obtain rfl := Option.some.inj ho2
          refine ⟨Or.inr rfl, _, _, _, (resVs_cons (ResV.tmp _ _ rfl) resVs_nil), (pubA_id rfl), ?_⟩
          rfl
        · replace h := ite_f hc h
          clear hc
          refine cskip ?_
          refine block_normal ?_
          refine then_normal ?_
          refine cregion ?_
          refine sv rfl (opv_mv rfl) ?_
          refine sv rfl (opv_add rfl rfl) ?_
          refine sv rfl (opv_as rfl) ?_
          refine snil ?_
          obtain rfl := Option.some.inj h
          exact ⟨(n2, (wI (s2 + 1))), _, hk2, ⟨rfl, rfl, rfl, trivial⟩, rfl, Nat.lt_succ_self _⟩
      · replace h := ite_f hc h
        clear hc
        refine cexit ?_
        refine then_exit ?_
        refine then_exit ?_
        refine block_hit ?_
        refine then_normal ?_
        obtain rfl := Option.some.inj h
        obtain rfl : _ = x2 := hk2
        exact ⟨(), _, ho2, trivial, rfl⟩

def m18_r08_Same_k3 (b3 : Unit) : Option Bool :=
  some true

def m18_r08_Same_s4 (a0 : GR08Store) (a1 : GR08Store) (s4 : Int) : Option (LR (Int) (Unit) (Bool)) :=
  if (decide (s4 < (a0.Chains.length : Int))) then ((idx a0.Chains s4).bind fun u5 => (idx a1.Chains s4).bind fun u6 => (m49_r07_Same u5.L u6.L).bind fun v7 => if (!v7) then (some (.ret false)) else (some (.cont (wI (s4 + 1))))) else (some (.brk ()))

def m18_r08_Same_k2 (a0 : GR08Store) (a1 : GR08Store) (b2 : Unit) : Option Bool :=
  (iter (m18_r08_Same_s4 a0 a1) fuel 0).bind fun x => match x with | .inl r => some r | .inr e8 => m18_r08_Same_k3 e8

def m18_r08_Same_s9 (a0 : GR08Store) (a1 : GR08Store) (s9 : Int) : Option (LR (Int) (Unit) (Bool)) :=
  if (decide (s9 < (a0.Keys.length : Int))) then ((idx a0.Keys s9).bind fun u10 => (idx a1.Keys s9).bind fun u11 => if (!(u10 == u11)) then (some (.ret false)) else (some (.cont (wI (s9 + 1))))) else (some (.brk ()))

def m18_r08_Same_k1 (a0 : GR08Store) (a1 : GR08Store) (b1 : Unit) : Option Bool :=
  (iter (m18_r08_Same_s9 a0 a1) fuel 0).bind fun x => match x with | .inl r => some r | .inr e12 => m18_r08_Same_k2 a0 a1 e12
def m18_r08_Same (a0 : GR08Store) (a1 : GR08Store) : Option Bool :=
  if (!decide ((a0.Keys.length : Int) = (a1.Keys.length : Int))) then (some false) else (if (!decide ((a0.Chains.length : Int) = (a1.Chains.length : Int))) then (some false) else (if (!decide (a0.Ts = a1.Ts)) then (some false) else (m18_r08_Same_k1 a0 a1 ())))

set_option maxRecDepth 100000 in
theorem m18_r08_Same_c {a0 : GR08Store} {a1 : GR08Store} {r : Bool} (h : m18_r08_Same a0 a1 = some r) : CallsA Try.prog 18 [.agg a0, .agg a1] (· = .s (.one (.b r))) := by
  unfold m18_r08_Same at h
  refine callsA_of Try.func18 rfl (nt := 71) rfl (Nat.le_of_ble_eq_true rfl) ?_
  intro w0 S0
  refine cseq ?_
  refine cregion ?_
  refine sbox rfl rfl ?_
  refine sbox rfl rfl ?_
  refine sv rfl (opv_as rfl) ?_
  refine snil ?_
  refine cseq ?_
  refine cseq ?_
  refine cjoin3 (Unit) (fun b1 => [(2, .s (.one (.lp 0 0))), (3, .s (.one (.lp 1 0)))]) (fun b1 => [.box a0, .box a1]) (fun b1 => m18_r08_Same_k1 a0 a1 b1 = some r) (fun _ _ => inbL_of rfl) (fun _ _ => blkinb_of rfl) (fun _ _ => Nat.le_of_ble_eq_true rfl) (fun b1 h => ?_) ?_
  · unfold m18_r08_Same_k1 at h
    refine cseq ?_
    refine cseq ?_
    refine cregion ?_
    refine sv rfl (opv_as rfl) ?_
    refine snil ?_
    refine cjoin (Unit) (fun b2 => [(2, .s (.one (.lp 0 0))), (3, .s (.one (.lp 1 0)))]) (fun b2 => [.box a0, .box a1]) (fun b2 => m18_r08_Same_k2 a0 a1 b2 = some r) (fun _ _ => inbL_of rfl) (fun _ _ => blkinb_of rfl) (fun _ _ => Nat.le_of_ble_eq_true rfl) (fun b2 h => ?_) ?_
    · unfold m18_r08_Same_k2 at h
      refine cseq ?_
      refine cseq ?_
      refine cregion ?_
      refine sv rfl (opv_as rfl) ?_
      refine snil ?_
      refine cjoin (Unit) (fun b3 => []) (fun b3 => [.box a0, .box a1]) (fun b3 => m18_r08_Same_k3 b3 = some r) (fun _ _ => inbL_of rfl) (fun _ _ => blkinb_of rfl) (fun _ _ => Nat.le_of_ble_eq_true rfl) (fun b3 h => ?_) ?_
      · unfold m18_r08_Same_k3 at h
        refine cseq ?_
        refine cregion ?_
        refine sv rfl (opv_as rfl) ?_
        refine snil ?_
        refine cret ?_
        obtain rfl := Option.some.inj h
        refine ⟨Or.inr rfl, _, _, _, (resVs_cons (ResV.tmp _ _ rfl) resVs_nil), (pubA_id rfl), ?_⟩
        rfl
      · skip
        refine cblock ?_
        obtain ⟨x4, hx4, ho4⟩ := bind_eq h
        refine awc_loop (G := Nat × (Int)) (fun g => [(2, .s (.one (.lp 0 0))), (3, .s (.one (.lp 1 0))), (6, .s (.one (.i .i64 g.2)))]) (fun g => [.box a0, .box a1]) (fun g => iter (m18_r08_Same_s4 a0 a1) g.1 g.2 = some x4) (fun g => g.1) (fuel, 0) hx4 ⟨rfl, rfl, rfl, trivial⟩ [] rfl (fun _ _ => inbL_of rfl) (fun _ _ => blkinb_of rfl) (fun _ _ => Nat.le_of_ble_eq_true rfl) ?_
        clear hx4 h
        rintro ⟨n4, s4⟩ h
        obtain ⟨n4, y4, rfl, h, hk4⟩ := iter_eq h
        unfold m18_r08_Same_s4 at h
        refine cseq ?_
        refine cseq ?_
        refine cregion ?_
        refine sv rfl (opv_mv rfl) ?_
        refine sv rfl (opv_fieldAddr_lp fi25_1 rfl) ?_
        refine sv rfl (opv_load1 ti23 rfl (.lp _ _ _ rfl) rfl) ?_
        refine sv rfl (opv_len_sl si23 rfl) ?_
        refine sv rfl (opv_lss rfl rfl) ?_
        refine snil ?_
        refine ccond rfl (fun hc => ?_) (fun hc => ?_)
        · replace h := ite_t hc h
          clear hc
          refine cskip ?_
          refine then_normal ?_
          refine cseq ?_
          refine cblock ?_
          refine cseq ?_
          refine cdraw mixed (by kernel_rfl) ?_
          refine dv rfl (opv_fieldAddr_lp fi25_1 rfl) ?_
          refine dv rfl (opv_load1 ti23 rfl (.lp _ _ _ rfl) rfl) ?_
          refine dv rfl (opv_mv rfl) ?_
          obtain ⟨u5, hu5, h⟩ := bind_eq h
          refine dv rfl (opv_ix (f := eGR07Chain) si23 (fun _ => rfl) rfl rfl rfl rfl hu5) ?_
          refine dv rfl (opv_fieldAddr_cp fi79_0 rfl) ?_
          refine dv rfl (opv_load1 ti77 rfl (.cp _) rfl) ?_
          refine dv rfl (opv_fieldAddr_lp fi25_1 rfl) ?_
          refine dv rfl (opv_load1 ti23 rfl (.lp _ _ _ rfl) rfl) ?_
          refine dv rfl (opv_mv rfl) ?_
          obtain ⟨u6, hu6, h⟩ := bind_eq h
          refine dv rfl (opv_ix (f := eGR07Chain) si23 (fun _ => rfl) rfl rfl rfl rfl hu6) ?_
          refine dv rfl (opv_fieldAddr_cp fi79_0 rfl) ?_
          refine dv rfl (opv_load1 ti77 rfl (.cp _) rfl) ?_
          obtain ⟨v7, hv7, h⟩ := bind_eq h
          refine dd rfl (opD_call fn49 (opnds_cons rfl (opnds_cons rfl opnds_nil)) rfl (m49_r07_Same_c hv7)) ?_
          refine dv rfl (opv_not rfl) ?_
          refine dnil ?_
          refine then_normal ?_
          refine ccond rfl (fun hc => ?_) (fun hc => ?_)
          · replace h := ite_t hc h
            clear hc
            refine cseq ?_
            refine cregion ?_
            refine sv rfl (opv_as rfl) ?_
            refine snil ?_
            refine cret ?_
            refine block_ret ?_
            refine then_ret ?_
            refine then_ret ?_
            refine block_ret ?_
            refine then_ret ?_
            obtain rfl := Option.some.inj h
            obtain rfl : Sum.inl _ = x4 := hk4
            replace ho4 : some _ = some _ := ho4
            obtain rfl := Option.some.inj ho4
            refine ⟨Or.inr rfl, _, _, _, (resVs_cons (ResV.tmp _ _ rfl) resVs_nil), (pubA_id rfl), ?_⟩
            rfl
          · replace h := ite_f hc h
            clear hc
            refine cskip ?_
            refine block_normal ?_
            refine then_normal ?_
            refine cregion ?_
            refine sv rfl (opv_mv rfl) ?_
            refine sv rfl (opv_add rfl rfl) ?_
            refine sv rfl (opv_as rfl) ?_
            refine snil ?_
            obtain rfl := Option.some.inj h
            exact ⟨(n4, (wI (s4 + 1))), _, hk4, ⟨rfl, rfl, rfl, trivial⟩, rfl, Nat.lt_succ_self _⟩
        · replace h := ite_f hc h
          clear hc
          refine cexit ?_
          refine then_exit ?_
          refine then_exit ?_
          refine block_hit ?_
          refine then_normal ?_
          obtain rfl := Option.some.inj h
          obtain rfl : _ = x4 := hk4
          exact ⟨(), _, ho4, trivial, rfl⟩
    · skip
      refine cblock ?_
      obtain ⟨x9, hx9, ho9⟩ := bind_eq h
      refine awc_loop (G := Nat × (Int)) (fun g => [(2, .s (.one (.lp 0 0))), (3, .s (.one (.lp 1 0))), (5, .s (.one (.i .i64 g.2)))]) (fun g => [.box a0, .box a1]) (fun g => iter (m18_r08_Same_s9 a0 a1) g.1 g.2 = some x9) (fun g => g.1) (fuel, 0) hx9 ⟨rfl, rfl, rfl, trivial⟩ [] rfl (fun _ _ => inbL_of rfl) (fun _ _ => blkinb_of rfl) (fun _ _ => Nat.le_of_ble_eq_true rfl) ?_
      clear hx9 h
      rintro ⟨n9, s9⟩ h
      obtain ⟨n9, y9, rfl, h, hk9⟩ := iter_eq h
      unfold m18_r08_Same_s9 at h
      refine cseq ?_
      refine cseq ?_
      refine cregion ?_
      refine sv rfl (opv_mv rfl) ?_
      refine sv rfl (opv_fieldAddr_lp fi25_0 rfl) ?_
      refine sv rfl (opv_load1 ti22 rfl (.lp _ _ _ rfl) rfl) ?_
      refine sv rfl (opv_len_sl si22 rfl) ?_
      refine sv rfl (opv_lss rfl rfl) ?_
      refine snil ?_
      refine ccond rfl (fun hc => ?_) (fun hc => ?_)
      · replace h := ite_t hc h
        clear hc
        refine cskip ?_
        refine then_normal ?_
        refine cseq ?_
        refine cblock ?_
        refine cseq ?_
        refine cdraw mixed (by kernel_rfl) ?_
        refine dv rfl (opv_fieldAddr_lp fi25_0 rfl) ?_
        refine dv rfl (opv_load1 ti22 rfl (.lp _ _ _ rfl) rfl) ?_
        refine dv rfl (opv_mv rfl) ?_
        obtain ⟨u10, hu10, h⟩ := bind_eq h
        refine dv rfl (opv_ix (f := (eL eU8)) si22 (fun _ => rfl) rfl rfl rfl rfl hu10) ?_
        refine dv rfl (opv_load1 ti26 rfl (.cp _) rfl) ?_
        refine dv rfl (opv_bs (l := u10) Try.underlying26 Try.underlying5 Try.underlying9 rfl rfl rfl) ?_
        refine dv rfl (opv_fieldAddr_lp fi25_0 rfl) ?_
        refine dv rfl (opv_load1 ti22 rfl (.lp _ _ _ rfl) rfl) ?_
        refine dv rfl (opv_mv rfl) ?_
        obtain ⟨u11, hu11, h⟩ := bind_eq h
        refine dv rfl (opv_ix (f := (eL eU8)) si22 (fun _ => rfl) rfl rfl rfl rfl hu11) ?_
        refine dv rfl (opv_load1 ti26 rfl (.cp _) rfl) ?_
        refine dv rfl (opv_bs (l := u11) Try.underlying26 Try.underlying5 Try.underlying9 rfl rfl rfl) ?_
        refine dv rfl (opv_sneq' rfl rfl) ?_
        refine dnil ?_
        refine then_normal ?_
        refine ccond rfl (fun hc => ?_) (fun hc => ?_)
        · replace h := ite_t hc h
          clear hc
          refine cseq ?_
          refine cregion ?_
          refine sv rfl (opv_as rfl) ?_
          refine snil ?_
          refine cret ?_
          refine block_ret ?_
          refine then_ret ?_
          refine then_ret ?_
          refine block_ret ?_
          refine then_ret ?_
          obtain rfl := Option.some.inj h
          obtain rfl : Sum.inl _ = x9 := hk9
          replace ho9 : some _ = some _ := ho9
          obtain rfl := Option.some.inj ho9
          refine ⟨Or.inr rfl, _, _, _, (resVs_cons (ResV.tmp _ _ rfl) resVs_nil), (pubA_id rfl), ?_⟩
          rfl
        · replace h := ite_f hc h
          clear hc
          refine cskip ?_
          refine block_normal ?_
          refine then_normal ?_
          refine cregion ?_
          refine sv rfl (opv_mv rfl) ?_
          refine sv rfl (opv_add rfl rfl) ?_
          refine sv rfl (opv_as rfl) ?_
          refine snil ?_
          obtain rfl := Option.some.inj h
          exact ⟨(n9, (wI (s9 + 1))), _, hk9, ⟨rfl, rfl, rfl, trivial⟩, rfl, Nat.lt_succ_self _⟩
      · replace h := ite_f hc h
        clear hc
        refine cexit ?_
        refine then_exit ?_
        refine then_exit ?_
        refine block_hit ?_
        refine then_normal ?_
        obtain rfl := Option.some.inj h
        obtain rfl : _ = x9 := hk9
        exact ⟨(), _, ho9, ⟨rfl, rfl, trivial⟩, rfl⟩
  · skip
    refine cregion ?_
    refine sv rfl (opv_fieldAddr_lp fi25_0 rfl) ?_
    refine sv rfl (opv_load1 ti22 rfl (.lp _ _ _ rfl) rfl) ?_
    refine sv rfl (opv_len_sl si22 rfl) ?_
    refine sv rfl (opv_fieldAddr_lp fi25_0 rfl) ?_
    refine sv rfl (opv_load1 ti22 rfl (.lp _ _ _ rfl) rfl) ?_
    refine sv rfl (opv_len_sl si22 rfl) ?_
    refine sv rfl (opv_ineq rfl rfl) ?_
    refine sv rfl (opv_mv rfl) ?_
    refine ssplit 14 rfl (fun hc => ?_) (fun hc => ?_)
    · replace h := ite_t hc h
      clear hc
      refine soff rfl rfl rfl rfl ?_
      refine soff rfl rfl rfl rfl ?_
      refine soff rfl rfl rfl rfl ?_
      refine soff rfl rfl rfl rfl ?_
      refine soff rfl rfl rfl rfl ?_
      refine soff rfl rfl rfl rfl ?_
      refine soff rfl rfl rfl rfl ?_
      refine sv rfl (opv_pick_t rfl rfl) ?_
      refine sv rfl (opv_mv rfl) ?_
      refine soff rfl rfl rfl rfl ?_
      refine soff rfl rfl rfl rfl ?_
      refine soff rfl rfl rfl rfl ?_
      refine soff rfl rfl rfl rfl ?_
      refine soff rfl rfl rfl rfl ?_
      refine sv rfl (opv_pick_t rfl rfl) ?_
      refine snil ?_
      refine ccond rfl (fun _ => ?_) (fun hx => Bool.noConfusion hx)
      refine cseq ?_
      refine cregion ?_
      refine sv rfl (opv_as rfl) ?_
      refine snil ?_
      refine cret ?_
      refine then_ret ?_
      obtain rfl := Option.some.inj h
      refine ⟨Or.inr rfl, _, _, _, (resVs_cons (ResV.tmp _ _ rfl) resVs_nil), (pubA_id rfl), ?_⟩
      rfl
    · replace h := ite_f hc h
      clear hc
      refine son rfl rfl rfl ?_
      refine sv rfl (opv_fieldAddr_lp fi25_1 rfl) ?_
      refine son rfl rfl rfl ?_
      refine sv rfl (opv_load1 ti23 rfl (.lp _ _ _ rfl) rfl) ?_
      refine son rfl rfl rfl ?_
      refine sv rfl (opv_len_sl si23 rfl) ?_
      refine son rfl rfl rfl ?_
      refine sv rfl (opv_fieldAddr_lp fi25_1 rfl) ?_
      refine son rfl rfl rfl ?_
      refine sv rfl (opv_load1 ti23 rfl (.lp _ _ _ rfl) rfl) ?_
      refine son rfl rfl rfl ?_
      refine sv rfl (opv_len_sl si23 rfl) ?_
      refine son rfl rfl rfl ?_
      refine sv rfl (opv_ineq rfl rfl) ?_
      refine sv rfl (opv_pick_f rfl rfl) ?_
      refine sv rfl (opv_mv rfl) ?_
      refine ssplit 23 rfl (fun hc => ?_) (fun hc => ?_)
      · replace h := ite_t hc h
        clear hc
        refine soff rfl rfl rfl rfl ?_
        refine soff rfl rfl rfl rfl ?_
        refine soff rfl rfl rfl rfl ?_
        refine soff rfl rfl rfl rfl ?_
        refine soff rfl rfl rfl rfl ?_
        refine sv rfl (opv_pick_t rfl rfl) ?_
        refine snil ?_
        refine ccond rfl (fun _ => ?_) (fun hx => Bool.noConfusion hx)
        refine cseq ?_
        refine cregion ?_
        refine sv rfl (opv_as rfl) ?_
        refine snil ?_
        refine cret ?_
        refine then_ret ?_
        obtain rfl := Option.some.inj h
        refine ⟨Or.inr rfl, _, _, _, (resVs_cons (ResV.tmp _ _ rfl) resVs_nil), (pubA_id rfl), ?_⟩
        rfl
      · replace h := ite_f hc h
        clear hc
        refine son rfl rfl rfl ?_
        refine sv rfl (opv_fieldAddr_lp fi25_2 rfl) ?_
        refine son rfl rfl rfl ?_
        refine sv rfl (opv_load1 ti3 rfl (.lp _ _ _ rfl) rfl) ?_
        refine son rfl rfl rfl ?_
        refine sv rfl (opv_fieldAddr_lp fi25_2 rfl) ?_
        refine son rfl rfl rfl ?_
        refine sv rfl (opv_load1 ti3 rfl (.lp _ _ _ rfl) rfl) ?_
        refine son rfl rfl rfl ?_
        refine sv rfl (opv_ineq rfl rfl) ?_
        refine sv rfl (opv_pick_f rfl rfl) ?_
        refine snil ?_
        refine ccond rfl (fun hc => ?_) (fun hc => ?_)
        · replace h := ite_t hc h
          clear hc
          refine cseq ?_
          refine cregion ?_
          refine sv rfl (opv_as rfl) ?_
          refine snil ?_
          refine cret ?_
          refine then_ret ?_
          obtain rfl := Option.some.inj h
          refine ⟨Or.inr rfl, _, _, _, (resVs_cons (ResV.tmp _ _ rfl) resVs_nil), (pubA_id rfl), ?_⟩
          rfl
        · replace h := ite_f hc h
          clear hc
          refine cskip ?_
          refine then_normal ?_
          exact ⟨(), _, h, ⟨rfl, rfl, trivial⟩, rfl⟩

def m36_r06_Has (a0 : GApiRange) (a1 : List UInt8) : Option Bool :=
  (m60_r06_Cmp a1 a0.Lo).bind fun v1 => if (decide (0 ≤ v1)) then (if a0.Open then (some true) else ((m60_r06_Cmp a1 a0.Hi).bind fun v2 => some (decide (v2 < 0)))) else (some false)

set_option maxRecDepth 100000 in
theorem m36_r06_Has_c {a0 : GApiRange} {a1 : List UInt8} {r : Bool} (h : m36_r06_Has a0 a1 = some r) : CallsA Try.prog 36 [.agg a0, .one (.sl a1.length (a1.flatMap eU8))] (· = .s (.one (.b r))) := by
  unfold m36_r06_Has at h
  refine callsA_of Try.func36 rfl (nt := 21) rfl (Nat.le_of_ble_eq_true rfl) ?_
  intro w0 S0
  refine cseq ?_
  refine cregion ?_
  refine sbox rfl rfl ?_
  refine sv rfl (opv_as rfl) ?_
  refine snil ?_
  refine cseq ?_
  refine cregion ?_
  refine sv rfl (opv_mv rfl) ?_
  refine sv rfl (opv_fieldAddr_lp fi28_0 rfl) ?_
  refine sv rfl (opv_load1 ti26 rfl (.lp _ _ _ rfl) rfl) ?_
  obtain ⟨v1, hv1, h⟩ := bind_eq h
  refine scall1 rfl fn60 (opnds_cons rfl (opnds_cons rfl opnds_nil)) (pubA_id rfl) (m60_r06_Cmp_c hv1) ?_
  refine sv rfl (opv_geq rfl rfl) ?_
  refine sv rfl (opv_mv rfl) ?_
  refine ssplit 10 rfl (fun hc => ?_) (fun hc => ?_)
  · replace h := ite_t hc h
    clear hc
    refine son rfl rfl rfl ?_
    refine sv rfl (opv_fieldAddr_lp fi28_2 rfl) ?_
    refine son rfl rfl rfl ?_
    refine sv rfl (opv_load1 ti4 rfl (.lp _ _ _ rfl) rfl) ?_
    refine son rfl rfl rfl ?_
    refine sv rfl (opv_mv rfl) ?_
    refine ssplit 13 rfl (fun hc => ?_) (fun hc => ?_)
    · replace h := ite_t hc h
      clear hc
      refine soff rfl rfl rfl rfl ?_
      refine soff rfl rfl rfl rfl ?_
      refine soff rfl rfl rfl rfl ?_
      refine soff rfl rfl rfl rfl ?_
      refine soff rfl rfl rfl rfl ?_
      refine son rfl rfl rfl ?_
      refine sv rfl (opv_pick_t rfl rfl) ?_
      refine sv rfl (opv_pick_t rfl rfl) ?_
      refine sv rfl (opv_as rfl) ?_
      refine snil ?_
      refine cret ?_
      obtain rfl := Option.some.inj h
      refine ⟨Or.inr rfl, _, _, _, (resVs_cons (ResV.tmp _ _ rfl) resVs_nil), (pubA_id rfl), ?_⟩
      rfl
    · replace h := ite_f hc h
      clear hc
      refine son rfl rfl rfl ?_
      refine sv rfl (opv_mv rfl) ?_
      refine son rfl rfl rfl ?_
      refine sv rfl (opv_fieldAddr_lp fi28_1 rfl) ?_
      refine son rfl rfl rfl ?_
      refine sv rfl (opv_load1 ti26 rfl (.lp _ _ _ rfl) rfl) ?_
      refine son rfl rfl rfl ?_
      obtain ⟨v2, hv2, h⟩ := bind_eq h
      refine scall1 rfl fn60 (opnds_cons rfl (opnds_cons rfl opnds_nil)) (pubA_id rfl) (m60_r06_Cmp_c hv2) ?_
      refine son rfl rfl rfl ?_
      refine sv rfl (opv_lss rfl rfl) ?_
      refine son rfl rfl rfl ?_
      refine sv rfl (opv_pick_f rfl rfl) ?_
      refine sv rfl (opv_pick_t rfl rfl) ?_
      refine sv rfl (opv_as rfl) ?_
      refine snil ?_
      refine cret ?_
      obtain rfl := Option.some.inj h
      refine ⟨Or.inr rfl, _, _, _, (resVs_cons (ResV.tmp _ _ rfl) resVs_nil), (pubA_id rfl), ?_⟩
      rfl
  · replace h := ite_f hc h
    clear hc
    refine soff rfl rfl rfl rfl ?_
    refine soff rfl rfl rfl rfl ?_
    refine soff rfl rfl rfl rfl ?_
    refine soffu rfl rfl rfl ?_
    refine soffu rfl rfl rfl ?_
    refine soffu rfl rfl rfl ?_
    refine soffu rfl rfl rfl ?_
    refine soffu rfl rfl rfl ?_
    refine soff rfl rfl rfl rfl ?_
    refine sv rfl (opv_pick_f rfl rfl) ?_
    refine sv rfl (opv_as rfl) ?_
    refine snil ?_
    refine cret ?_
    obtain rfl := Option.some.inj h
    refine ⟨Or.inr rfl, _, _, _, (resVs_cons (ResV.tmp _ _ rfl) resVs_nil), (pubA_id rfl), ?_⟩
    rfl

def m22_r08_Scan_k1 (b1 : (List GApiKV)) : Option (List GApiKV) :=
  some b1

def m22_r08_Scan_k3 (a0 : GR08Store) (a1 : GApiRange) (a2 : Int) (a3 : Int) (s2 : Int × (List GApiKV)) (b3 : Unit) : Option (LB (Int × (List GApiKV)) ((List GApiKV))) :=
  (idx a0.Chains s2.1).bind fun u4 => (m40_r07_Value u4 a2).bind fun v5 => if v5.2 then ((idx a0.Keys s2.1).bind fun u6 => (m36_r06_Has (GApiRange.mk a1.Lo a1.Hi a1.Open) u6).bind fun v7 => if v7 then (if (decide ((s2.2.length : Int) < a3)) then ((idx a0.Keys s2.1).bind fun u8 => if (s2.2.length + [(GApiKV.mk u8 v5.1)].length) * 48 ≤ 140737488355328 then (some (.cont ((wI (s2.1 + 1)), (s2.2 ++ [(GApiKV.mk u8 v5.1)])))) else none) else (some (.cont ((wI (s2.1 + 1)), s2.2)))) else (some (.cont ((wI (s2.1 + 1)), s2.2)))) else (some (.cont ((wI (s2.1 + 1)), s2.2)))

def m22_r08_Scan_s2 (a0 : GR08Store) (a1 : GApiRange) (a2 : Int) (a3 : Int) (s2 : Int × (List GApiKV)) : Option (LB (Int × (List GApiKV)) ((List GApiKV))) :=
  if (decide (s2.1 < (a0.Keys.length : Int))) then ((m24_r08_Sane (GR08Store.mk a0.Keys a0.Chains a0.Ts)).bind fun v10 => if v10 then (m22_r08_Scan_k3 a0 a1 a2 a3 s2 ()) else (some (.brk s2.2))) else (some (.brk s2.2))
def m22_r08_Scan (a0 : GR08Store) (a1 : GApiRange) (a2 : Int) (a3 : Int) : Option (List GApiKV) :=
  (iterB (m22_r08_Scan_s2 a0 a1 a2 a3) fuel (0, ([] : List GApiKV))).bind fun e11 => m22_r08_Scan_k1 e11

set_option maxRecDepth 100000 in
theorem m22_r08_Scan_c {a0 : GR08Store} {a1 : GApiRange} {a2 : Int} {a3 : Int} {r : (List GApiKV)} (h : m22_r08_Scan a0 a1 a2 a3 = some r) : CallsA Try.prog 22 [.agg a0, .agg a1, .one (.i .i64 a2), .one (.i .i64 a3)] (· = .s (.one (.sl r.length (r.flatMap eGApiKV)))) := by
  unfold m22_r08_Scan at h
  refine callsA_of Try.func22 rfl (nt := 61) rfl (Nat.le_of_ble_eq_true rfl) ?_
  intro w0 S0
  refine cseq ?_
  refine cregion ?_
  refine sbox rfl rfl ?_
  refine sbox rfl rfl ?_
  refine sv rfl (opv_as rfl) ?_
  refine snil ?_
  refine cseq ?_
  refine cregion ?_
  refine sv rfl (opv_as rfl) ?_
  refine snil ?_
  refine cseq ?_
  refine cseq ?_
  refine cregion ?_
  refine sv rfl (opv_as rfl) ?_
  refine snil ?_
  refine sadopt_c 71 2 9 (by decide) rfl ?_
  refine cjoin ((List GApiKV)) (fun b1 => [(9, .s (.one (.ls 2 b1.length)))]) (fun b1 => [.box a0, .box a1, .arr 71 2 0 (b1.flatMap eGApiKV)]) (fun b1 => m22_r08_Scan_k1 b1 = some r) (fun _ _ => inbL_of rfl) (fun _ _ => blkinb_of rfl) (fun _ _ => Nat.le_of_ble_eq_true rfl) (fun b1 h => ?_) ?_
  · unfold m22_r08_Scan_k1 at h
    refine cseq ?_
    refine cregion ?_
    refine sv rfl (opv_mv rfl) ?_
    refine sv rfl (opv_as rfl) ?_
    refine snil ?_
    refine cret ?_
    obtain rfl := Option.some.inj h
    refine ⟨Or.inr rfl, _, _, _, (resVs_cons (ResV.tmp _ _ rfl) resVs_nil), (by (repeat' first | exact PubA.nil _ | apply PubA.cons | apply PubV.one | apply PubV.agg | exact PubL.nil | exact PubL.ls _ _ _ _ _ _ rfl (flat_len (f := eGApiKV) (fun _ => rfl) _).symm | exact PubL.id _ rfl | exact PubLs.nil _ | apply PubLs.cons)), ?_⟩
    rfl
  · skip
    refine cblock ?_
    obtain ⟨x2, hx2, ho2⟩ := bind_eq h
    refine awc_loop (G := Nat × (Int × (List GApiKV))) (fun g => [(2, .s (.one (.i .i64 a2))), (3, .s (.one (.i .i64 a3))), (4, .s (.one (.lp 0 0))), (5, .s (.one (.lp 1 0))), (9, .s (.one (.ls 2 g.2.2.length))), (10, .s (.one (.i .i64 g.2.1)))]) (fun g => [.box a0, .box a1, .arr 71 2 0 (g.2.2.flatMap eGApiKV)]) (fun g => iterB (m22_r08_Scan_s2 a0 a1 a2 a3) g.1 g.2 = some x2) (fun g => g.1) (fuel, (0, ([] : List GApiKV))) hx2 ⟨rfl, rfl, rfl, rfl, rfl, rfl, trivial⟩ [] rfl (fun _ _ => inbL_of rfl) (fun _ _ => blkinb_of rfl) (fun _ _ => Nat.le_of_ble_eq_true rfl) ?_
    clear hx2 h
    rintro ⟨n2, s2⟩ h
    obtain ⟨n2, y2, rfl, h, hk2⟩ := iterB_eq h
    unfold m22_r08_Scan_s2 at h
    refine cseq ?_
    refine cseq ?_
    refine cjoin3 (Unit) (fun b3 => [(2, .s (.one (.i .i64 a2))), (3, .s (.one (.i .i64 a3))), (4, .s (.one (.lp 0 0))), (5, .s (.one (.lp 1 0))), (9, .s (.one (.ls 2 s2.2.length))), (10, .s (.one (.i .i64 s2.1)))]) (fun b3 => [.box a0, .box a1, .arr 71 2 0 (s2.2.flatMap eGApiKV)]) (fun b3 => m22_r08_Scan_k3 a0 a1 a2 a3 s2 b3 = some y2) (fun _ _ => inbL_of rfl) (fun _ _ => blkinb_of rfl) (fun _ _ => Nat.le_of_ble_eq_true rfl) (fun b3 h => ?_) ?_
    · unfold m22_r08_Scan_k3 at h
      refine cseq ?_
      refine cblock ?_
      refine cseq ?_
      refine cregion ?_
      refine sv rfl (opv_fieldAddr_lp fi25_1 rfl) ?_
      refine sv rfl (opv_load1 ti23 rfl (.lp _ _ _ rfl) rfl) ?_
      refine sv rfl (opv_mv rfl) ?_
      obtain ⟨u4, hu4, h⟩ := bind_eq h
      refine sv rfl (opv_ix (f := eGR07Chain) si23 (fun _ => rfl) rfl rfl rfl rfl hu4) ?_
      refine sv rfl (opv_loadNe (ys := [.sl u4.L.length (u4.L.flatMap eGR07Ver)]) ti79 rfl (.cp _) rfl rfl) ?_
      refine sv rfl (opv_mv rfl) ?_
      obtain ⟨v5, hv5, h⟩ := bind_eq h
      refine scall1 rfl fn40 (opnds_cons rfl (opnds_cons rfl opnds_nil)) (pubA_id rfl) (m40_r07_Value_c hv5) ?_
      refine sv rfl (opv_mvt rfl) ?_
      refine sv rfl (opv_extract rfl rfl) ?_
      refine sv rfl (opv_extract rfl rfl) ?_
      refine sv rfl (opv_as rfl) ?_
      refine sv rfl (opv_as rfl) ?_
      refine snil ?_
      refine cseq ?_
      refine cdraw mixed (by kernel_rfl) ?_
      refine dv rfl (opv_mv rfl) ?_
      refine dv rfl (opv_mv rfl) ?_
      refine dsplit 35 rfl (fun hc => ?_) (fun hc => ?_)
      · replace h := ite_t hc h
        clear hc
        refine dvg rfl rfl rfl (opv_loadN ti28 rfl (.lp _ _ _ rfl) (Nat.le_of_ble_eq_true rfl)) ?_
        refine dvg rfl rfl rfl (opv_fieldAddr_lp fi25_0 rfl) ?_
        refine dvg rfl rfl rfl (opv_load1 ti22 rfl (.lp _ _ _ rfl) rfl) ?_
        refine dvg rfl rfl rfl (opv_mv rfl) ?_
        obtain ⟨u6, hu6, h⟩ := bind_eq h
        refine dvg rfl rfl rfl (opv_ix (f := (eL eU8)) si22 (fun _ => rfl) rfl rfl rfl rfl hu6) ?_
        refine dvg rfl rfl rfl (opv_load1 ti26 rfl (.cp _) rfl) ?_
        obtain ⟨v7, hv7, h⟩ := bind_eq h
        refine ddg rfl rfl rfl (opD_call fn36 (opnds_cons rfl (opnds_cons rfl opnds_nil)) rfl (m36_r06_Has_c hv7)) ?_
        refine dv rfl (opv_pick_t rfl rfl) ?_
        refine dv rfl (opv_mv rfl) ?_
        refine dsplit 44 rfl (fun hc => ?_) (fun hc => ?_)
        · replace h := ite_t hc h
          clear hc
          refine dvg rfl rfl rfl (opv_mv rfl) ?_
          refine dvg rfl rfl rfl (opv_len_ls si49 rfl rfl (flat_len (f := eGApiKV) (fun _ => rfl) _).symm) ?_
          refine dvg rfl rfl rfl (opv_mv rfl) ?_
          refine dvg rfl rfl rfl (opv_lss rfl rfl) ?_
          refine dv rfl (opv_pick_t rfl rfl) ?_
          refine dnil ?_
          refine then_normal ?_
          refine ccond rfl (fun hc => ?_) (fun hc => ?_)
          · replace h := ite_t hc h
            clear hc
            refine cregion ?_
            refine sv rfl (opv_mv rfl) ?_
            refine sv rfl (opv_fieldAddr_lp fi25_0 rfl) ?_
            refine sv rfl (opv_load1 ti22 rfl (.lp _ _ _ rfl) rfl) ?_
            refine sv rfl (opv_mv rfl) ?_
            obtain ⟨u8, hu8, h⟩ := bind_eq h
            refine sv rfl (opv_ix (f := (eL eU8)) si22 (fun _ => rfl) rfl rfl rfl rfl hu8) ?_
            refine sv rfl (opv_load1 ti26 rfl (.cp _) rfl) ?_
            refine sv rfl (opv_mv rfl) ?_
            refine sv rfl (opv_build zi71 pi71 (parts_cons rfl (parts_cons rfl parts_nil)) (.cons _ _ _ _ _ _ _ rfl rfl (Nat.le_of_ble_eq_true rfl) (.cons _ _ _ _ _ _ _ rfl rfl (Nat.le_of_ble_eq_true rfl) (.nil _)))) ?_
            refine sbuild1 rfl Try.underlying49 ei71 rfl rfl (List.all_eq_true.1 rfl) (by decide) ?_
            refine smem [.box a0, .box a1, .arr 71 2 0 (s2.2.flatMap eGApiKV), .arr 71 2 0 ([(GApiKV.mk u8 v5.1)].flatMap eGApiKV)] rfl ?_
            obtain ⟨hb9, h⟩ := chk_eq h
            refine sapp (f := eGApiKV) (xs := s2.2) (us := [(GApiKV.mk u8 v5.1)]) rfl Try.underlying49 ei71 ni49 (fun _ => rfl) rfl rfl (.one _ _ _ _ (.ls _ _ _ _ _ _ rfl (flat_len (f := eGApiKV) (fun _ => rfl) [(GApiKV.mk u8 v5.1)]).symm)) rfl rfl rfl (.sl _ _ _ (flat_len (f := eGApiKV) (fun _ => rfl) _)) rfl rfl hb9 (by decide) ?_
            refine sv rfl (opv_as rfl) ?_
            refine snil0 ?_
            refine block_normal ?_
            refine then_normal ?_
            refine cregion ?_
            refine sv rfl (opv_mv rfl) ?_
            refine sv rfl (opv_add rfl rfl) ?_
            refine sv rfl (opv_as rfl) ?_
            refine snil ?_
            obtain rfl := Option.some.inj h
            exact ⟨(n2, ((wI (s2.1 + 1)), (s2.2 ++ [(GApiKV.mk u8 v5.1)]))), _, hk2, ⟨rfl, rfl, rfl, rfl, rfl, rfl, trivial⟩, rfl, Nat.lt_succ_self _⟩
          · replace h := ite_f hc h
            clear hc
            refine cskip ?_
            refine block_normal ?_
            refine then_normal ?_
            refine cregion ?_
            refine sv rfl (opv_mv rfl) ?_
            refine sv rfl (opv_add rfl rfl) ?_
            refine sv rfl (opv_as rfl) ?_
            refine snil ?_
            obtain rfl := Option.some.inj h
            exact ⟨(n2, ((wI (s2.1 + 1)), s2.2)), _, hk2, ⟨rfl, rfl, rfl, rfl, rfl, rfl, trivial⟩, rfl, Nat.lt_succ_self _⟩
        · replace h := ite_f hc h
          clear hc
          refine doff rfl rfl rfl rfl ?_
          refine doff rfl rfl rfl rfl ?_
          refine doff rfl rfl rfl rfl ?_
          refine doff rfl rfl rfl rfl ?_
          refine dv rfl (opv_pick_f rfl rfl) ?_
          refine dnil ?_
          refine then_normal ?_
          refine ccond rfl (fun hx => Bool.noConfusion hx) (fun _ => ?_)
          refine cskip ?_
          refine block_normal ?_
          refine then_normal ?_
          refine cregion ?_
          refine sv rfl (opv_mv rfl) ?_
          refine sv rfl (opv_add rfl rfl) ?_
          refine sv rfl (opv_as rfl) ?_
          refine snil ?_
          obtain rfl := Option.some.inj h
          exact ⟨(n2, ((wI (s2.1 + 1)), s2.2)), _, hk2, ⟨rfl, rfl, rfl, rfl, rfl, rfl, trivial⟩, rfl, Nat.lt_succ_self _⟩
      · replace h := ite_f hc h
        clear hc
        refine doff rfl rfl rfl rfl ?_
        refine doff rfl rfl rfl rfl ?_
        refine doff rfl rfl rfl rfl ?_
        refine doff rfl rfl rfl rfl ?_
        refine doff rfl rfl rfl rfl ?_
        refine doff rfl rfl rfl rfl ?_
        refine doff rfl rfl rfl rfl ?_
        refine dv rfl (opv_pick_f rfl rfl) ?_
        refine dv rfl (opv_mv rfl) ?_
        refine doff rfl rfl rfl rfl ?_
        refine doff rfl rfl rfl rfl ?_
        refine doff rfl rfl rfl rfl ?_
        refine doff rfl rfl rfl rfl ?_
        refine dv rfl (opv_pick_f rfl rfl) ?_
        refine dnil ?_
        refine then_normal ?_
        refine ccond rfl (fun hx => Bool.noConfusion hx) (fun _ => ?_)
        refine cskip ?_
        refine block_normal ?_
        refine then_normal ?_
        refine cregion ?_
        refine sv rfl (opv_mv rfl) ?_
        refine sv rfl (opv_add rfl rfl) ?_
        refine sv rfl (opv_as rfl) ?_
        refine snil ?_
        obtain rfl := Option.some.inj h
        exact ⟨(n2, ((wI (s2.1 + 1)), s2.2)), _, hk2, ⟨rfl, rfl, rfl, rfl, rfl, rfl, trivial⟩, rfl, Nat.lt_succ_self _⟩
    · skip
      refine cregion ?_
      refine sv rfl (opv_mv rfl) ?_
      refine sv rfl (opv_fieldAddr_lp fi25_0 rfl) ?_
      refine sv rfl (opv_load1 ti22 rfl (.lp _ _ _ rfl) rfl) ?_
      refine sv rfl (opv_len_sl si22 rfl) ?_
      refine sv rfl (opv_lss rfl rfl) ?_
      refine sv rfl (opv_mv rfl) ?_
      refine ssplit 18 rfl (fun hc => ?_) (fun hc => ?_)
      · replace h := ite_t hc h
        clear hc
        refine son rfl rfl rfl ?_
        refine sv rfl (opv_loadN ti25 rfl (.lp _ _ _ rfl) (Nat.le_of_ble_eq_true rfl)) ?_
        refine son rfl rfl rfl ?_
        obtain ⟨v10, hv10, h⟩ := bind_eq h
        refine scall1 rfl fn24 (opnds_cons rfl opnds_nil) (pubA_id rfl) (m24_r08_Sane_c hv10) ?_
        refine sv rfl (opv_pick_t rfl rfl) ?_
        refine snil ?_
        refine ccond rfl (fun hc => ?_) (fun hc => ?_)
        · replace h := ite_t hc h
          clear hc
          refine cskip ?_
          refine then_normal ?_
          exact ⟨(), _, h, ⟨rfl, rfl, rfl, rfl, rfl, rfl, trivial⟩, rfl⟩
        · replace h := ite_f hc h
          clear hc
          refine cexit ?_
          refine then_exit ?_
          refine then_exit ?_
          refine block_hit ?_
          refine then_normal ?_
          obtain rfl := Option.some.inj h
          obtain rfl : _ = x2 := hk2
          exact ⟨s2.2, _, ho2, ⟨rfl, trivial⟩, rfl⟩
      · replace h := ite_f hc h
        clear hc
        refine soff rfl rfl rfl rfl ?_
        refine soff rfl rfl rfl rfl ?_
        refine sv rfl (opv_pick_f rfl rfl) ?_
        refine snil ?_
        refine ccond rfl (fun hx => Bool.noConfusion hx) (fun _ => ?_)
        refine cexit ?_
        refine then_exit ?_
        refine then_exit ?_
        refine block_hit ?_
        refine then_normal ?_
        obtain rfl := Option.some.inj h
        obtain rfl : _ = x2 := hk2
        exact ⟨s2.2, _, ho2, ⟨rfl, trivial⟩, rfl⟩

def m20_r05_KVs_k1 (b1 : Unit) : Option Bool :=
  some true

def m20_r05_KVs_s2 (a0 : List GApiKV) (a1 : List GApiKV) (s2 : Int) : Option (LR (Int) (Unit) (Bool)) :=
  if (decide (s2 < (a0.length : Int))) then ((idx a0 s2).bind fun u3 => (idx a1 s2).bind fun u4 => if (!(u3.Key == u4.Key)) then (some (.ret false)) else ((idx a0 s2).bind fun u5 => (idx a1 s2).bind fun u6 => if (!(u5.Val == u6.Val)) then (some (.ret false)) else (some (.cont (wI (s2 + 1)))))) else (some (.brk ()))
def m20_r05_KVs (a0 : List GApiKV) (a1 : List GApiKV) : Option Bool :=
  if (!decide ((a0.length : Int) = (a1.length : Int))) then (some false) else ((iter (m20_r05_KVs_s2 a0 a1) fuel 0).bind fun x => match x with | .inl r => some r | .inr e7 => m20_r05_KVs_k1 e7)

set_option maxRecDepth 100000 in
theorem m20_r05_KVs_c {a0 : List GApiKV} {a1 : List GApiKV} {r : Bool} (h : m20_r05_KVs a0 a1 = some r) : CallsA Try.prog 20 [.one (.sl a0.length (a0.flatMap eGApiKV)), .one (.sl a1.length (a1.flatMap eGApiKV))] (· = .s (.one (.b r))) := by
  unfold m20_r05_KVs at h
  refine callsA_of Try.func20 rfl (nt := 45) rfl (Nat.le_of_ble_eq_true rfl) ?_
  intro w0 S0
  refine cseq ?_
  refine cregion ?_
  refine sv rfl (opv_as rfl) ?_
  refine snil ?_
  refine cseq ?_
  refine cseq ?_
  refine cregion ?_
  refine sv rfl (opv_mv rfl) ?_
  refine sv rfl (opv_len_sl si49 rfl) ?_
  refine sv rfl (opv_mv rfl) ?_
  refine sv rfl (opv_len_sl si49 rfl) ?_
  refine sv rfl (opv_ineq rfl rfl) ?_
  refine snil ?_
  refine ccond rfl (fun hc => ?_) (fun hc => ?_)
  · replace h := ite_t hc h
    clear hc
    refine cseq ?_
    refine cregion ?_
    refine sv rfl (opv_as rfl) ?_
    refine snil ?_
    refine cret ?_
    refine then_ret ?_
    obtain rfl := Option.some.inj h
    refine ⟨Or.inr rfl, _, _, _, (resVs_cons (ResV.tmp _ _ rfl) resVs_nil), (pubA_id rfl), ?_⟩
    rfl
  · replace h := ite_f hc h
    clear hc
    refine cskip ?_
    refine then_normal ?_
    refine cseq ?_
    refine cseq ?_
    refine cregion ?_
    refine sv rfl (opv_as rfl) ?_
    refine snil ?_
    refine cjoin (Unit) (fun b1 => []) (fun b1 => []) (fun b1 => m20_r05_KVs_k1 b1 = some r) (fun _ _ => inbL_of rfl) (fun _ _ => blkinb_of rfl) (fun _ _ => Nat.le_of_ble_eq_true rfl) (fun b1 h => ?_) ?_
    · unfold m20_r05_KVs_k1 at h
      refine cseq ?_
      refine cregion ?_
      refine sv rfl (opv_as rfl) ?_
      refine snil ?_
      refine cret ?_
      obtain rfl := Option.some.inj h
      refine ⟨Or.inr rfl, _, _, _, (resVs_cons (ResV.tmp _ _ rfl) resVs_nil), (pubA_id rfl), ?_⟩
      rfl
    · skip
      refine cblock ?_
      obtain ⟨x2, hx2, ho2⟩ := bind_eq h
      refine awc_loop (G := Nat × (Int)) (fun g => [(0, .s (.one (.sl a0.length (a0.flatMap eGApiKV)))), (1, .s (.one (.sl a1.length (a1.flatMap eGApiKV)))), (5, .s (.one (.i .i64 g.2)))]) (fun g => []) (fun g => iter (m20_r05_KVs_s2 a0 a1) g.1 g.2 = some x2) (fun g => g.1) (fuel, 0) hx2 ⟨rfl, rfl, rfl, trivial⟩ [] rfl (fun _ _ => inbL_of rfl) (fun _ _ => blkinb_of rfl) (fun _ _ => Nat.le_of_ble_eq_true rfl) ?_
      clear hx2 h
      rintro ⟨n2, s2⟩ h
      obtain ⟨n2, y2, rfl, h, hk2⟩ := iter_eq h
      unfold m20_r05_KVs_s2 at h
      refine cseq ?_
      refine cseq ?_
      refine cregion ?_
      refine sv rfl (opv_mv rfl) ?_
      refine sv rfl (opv_mv rfl) ?_
      refine sv rfl (opv_len_sl si49 rfl) ?_
      refine sv rfl (opv_lss rfl rfl) ?_
      refine snil ?_
      refine ccond rfl (fun hc => ?_) (fun hc => ?_)
      · replace h := ite_t hc h
        clear hc
        refine cskip ?_
        refine then_normal ?_
        refine cseq ?_
        refine cblock ?_
        refine cseq ?_
        refine cdraw mixed (by kernel_rfl) ?_
        refine dv rfl (opv_mv rfl) ?_
        refine dv rfl (opv_mv rfl) ?_
        obtain ⟨u3, hu3, h⟩ := bind_eq h
        refine dv rfl (opv_ix (f := eGApiKV) si49 (fun _ => rfl) rfl rfl rfl rfl hu3) ?_
        refine dv rfl (opv_fieldAddr_cp fi71_0 rfl) ?_
        refine dv rfl (opv_load1 ti26 rfl (.cp _) rfl) ?_
        refine dv rfl (opv_bs (l := u3.Key) Try.underlying26 Try.underlying5 Try.underlying9 rfl rfl rfl) ?_
        refine dv rfl (opv_mv rfl) ?_
        refine dv rfl (opv_mv rfl) ?_
        obtain ⟨u4, hu4, h⟩ := bind_eq h
        refine dv rfl (opv_ix (f := eGApiKV) si49 (fun _ => rfl) rfl rfl rfl rfl hu4) ?_
        refine dv rfl (opv_fieldAddr_cp fi71_0 rfl) ?_
        refine dv rfl (opv_load1 ti26 rfl (.cp _) rfl) ?_
        refine dv rfl (opv_bs (l := u4.Key) Try.underlying26 Try.underlying5 Try.underlying9 rfl rfl rfl) ?_
        refine dv rfl (opv_sneq' rfl rfl) ?_
        refine dv rfl (opv_mv rfl) ?_
        refine dsplit 30 rfl (fun hc => ?_) (fun hc => ?_)
        · replace h := ite_t hc h
          clear hc
          refine doff rfl rfl rfl rfl ?_
          refine doff rfl rfl rfl rfl ?_
          refine doff rfl rfl rfl rfl ?_
          refine doff rfl rfl rfl rfl ?_
          refine doff rfl rfl rfl rfl ?_
          refine doff rfl rfl rfl rfl ?_
          refine doff rfl rfl rfl rfl ?_
          refine doff rfl rfl rfl rfl ?_
          refine doff rfl rfl rfl rfl ?_
          refine doff rfl rfl rfl rfl ?_
          refine doff rfl rfl rfl rfl ?_
          refine doff rfl rfl rfl rfl ?_
          refine doff rfl rfl rfl rfl ?_
          refine dv rfl (opv_pick_t rfl rfl) ?_
          refine dnil ?_
          refine then_normal ?_
          refine ccond rfl (fun _ => ?_) (fun hx => Bool.noConfusion hx)
          refine cseq ?_
          refine cregion ?_
          refine sv rfl (opv_as rfl) ?_
          refine snil ?_
          refine cret ?_
          refine block_ret ?_
          refine then_ret ?_
          refine then_ret ?_
          refine block_ret ?_
          refine then_ret ?_
          obtain rfl := Option.some.inj h
          obtain rfl : Sum.inl _ = x2 := hk2
          replace ho2 : some _ = some _ := ho2
          obtain rfl := Option.some.inj ho2
          refine ⟨Or.inr rfl, _, _, _, (resVs_cons (ResV.tmp _ _ rfl) resVs_nil), (pubA_id rfl), ?_⟩
          rfl
        · replace h := ite_f hc h
          clear hc
          refine dvg rfl rfl rfl (opv_mv rfl) ?_
          refine dvg rfl rfl rfl (opv_mv rfl) ?_
          obtain ⟨u5, hu5, h⟩ := bind_eq h
          refine dvg rfl rfl rfl (opv_ix (f := eGApiKV) si49 (fun _ => rfl) rfl rfl rfl rfl hu5) ?_
          refine dvg rfl rfl rfl (opv_fieldAddr_cp fi71_1 rfl) ?_
          refine dvg rfl rfl rfl (opv_load1 ti26 rfl (.cp _) rfl) ?_
          refine dvg rfl rfl rfl (opv_bs (l := u5.Val) Try.underlying26 Try.underlying5 Try.underlying9 rfl rfl rfl) ?_
          refine dvg rfl rfl rfl (opv_mv rfl) ?_
          refine dvg rfl rfl rfl (opv_mv rfl) ?_
          obtain ⟨u6, hu6, h⟩ := bind_eq h
          refine dvg rfl rfl rfl (opv_ix (f := eGApiKV) si49 (fun _ => rfl) rfl rfl rfl rfl hu6) ?_
          refine dvg rfl rfl rfl (opv_fieldAddr_cp fi71_1 rfl) ?_
          refine dvg rfl rfl rfl (opv_load1 ti26 rfl (.cp _) rfl) ?_
          refine dvg rfl rfl rfl (opv_bs (l := u6.Val) Try.underlying26 Try.underlying5 Try.underlying9 rfl rfl rfl) ?_
          refine dvg rfl rfl rfl (opv_sneq' rfl rfl) ?_
          refine dv rfl (opv_pick_f rfl rfl) ?_
          refine dnil ?_
          refine then_normal ?_
          refine ccond rfl (fun hc => ?_) (fun hc => ?_)
          · replace h := ite_t hc h
            clear hc
            refine cseq ?_
            refine cregion ?_
            refine sv rfl (opv_as rfl) ?_
            refine snil ?_
            refine cret ?_
            refine block_ret ?_
            refine then_ret ?_
            refine then_ret ?_
            refine block_ret ?_
            refine then_ret ?_
            obtain rfl := Option.some.inj h
            obtain rfl : Sum.inl _ = x2 := hk2
            replace ho2 : some _ = some _ := ho2
            obtain rfl := Option.some.inj ho2
            refine ⟨Or.inr rfl, _, _, _, (resVs_cons (ResV.tmp _ _ rfl) resVs_nil), (pubA_id rfl), ?_⟩
            rfl
          · replace h := ite_f hc h
            clear hc
            refine cskip ?_
            refine block_normal ?_
            refine then_normal ?_
            refine cregion ?_
            refine sv rfl (opv_mv rfl) ?_
            refine sv rfl (opv_add rfl rfl) ?_
            refine sv rfl (opv_as rfl) ?_
            refine snil ?_
            obtain rfl := Option.some.inj h
            exact ⟨(n2, (wI (s2 + 1))), _, hk2, ⟨rfl, rfl, rfl, trivial⟩, rfl, Nat.lt_succ_self _⟩
      · replace h := ite_f hc h
        clear hc
        refine cexit ?_
        refine then_exit ?_
        refine then_exit ?_
        refine block_hit ?_
        refine then_normal ?_
        obtain rfl := Option.some.inj h
        obtain rfl : _ = x2 := hk2
        exact ⟨(), _, ho2, trivial, rfl⟩

def m77_slices_Cloneo (a0 : List GChainVer) : Option (List GChainVer) :=
  if (([] : List GChainVer).length + a0.length) * 40 ≤ 140737488355328 then (some (([] : List GChainVer) ++ a0)) else none

set_option maxRecDepth 100000 in
theorem m77_slices_Cloneo_c {a0 : List GChainVer} {r : (List GChainVer)} (h : m77_slices_Cloneo a0 = some r) : CallsB Try.prog 77 [] [.one (.sl a0.length (a0.flatMap eGChainVer))] (fun y m' => y = .s (.one (.ls 0 r.length)) ∧ m' = [.arr 85 3 0 (r.flatMap eGChainVer)]) := by
  unfold m77_slices_Cloneo at h
  refine callsB_of Try.func77 rfl (nt := 8) rfl (Nat.le_of_ble_eq_true rfl) ?_
  intro w0 S0 X0 H0
  refine cseq ?_
  refine cregion ?_
  refine sv rfl (opv_as rfl) ?_
  refine snil ?_
  refine cseq ?_
  refine cseq ?_
  refine cregion ?_
  refine sv rfl (opv_mv rfl) ?_
  refine snilq rfl Try.underlying80 rfl (fun nq hnq => ?_)
  cases nq
  · skip
    refine snil ?_
    refine ccond rfl (fun hx => Bool.noConfusion hx) (fun _ => ?_)
    refine cskip ?_
    refine then_normal ?_
    refine cseq ?_
    refine cregion ?_
    refine sbuild0 rfl Try.underlying80 ei85 ?_
    refine sv rfl (opv_mv rfl) ?_
    obtain ⟨hb1, h⟩ := chk_eq h
    refine sapp (f := eGChainVer) (xs := ([] : List GChainVer)) (us := a0) rfl Try.underlying80 ei85 ni80 (fun _ => rfl) rfl rfl (.one _ _ _ _ (.id _ rfl)) rfl rfl rfl (.sl _ _ _ (flat_len (f := eGChainVer) (fun _ => rfl) _)) rfl rfl hb1 (by decide) ?_
    refine sv rfl (opv_as rfl) ?_
    refine snil ?_
    refine cret ?_
    obtain rfl := Option.some.inj h
    exact ⟨Or.inr rfl, _, [0], [.one (.ls 0 (([] : List GChainVer) ++ a0).length)], [.arr 85 3 0 ((([] : List GChainVer) ++ a0).flatMap eGChainVer)], (resVs_cons (ResV.tmp _ _ rfl) resVs_nil), rfl, rfl, ⟨by decide, rfl⟩, rfl, rfl, ⟨rfl, rfl⟩⟩
  · obtain rfl := List.eq_nil_of_length_eq_zero (hnq rfl)
    replace h : (some ([] : List GChainVer)) = some r := by first | exact h | (rw [if_pos (by decide)] at h; exact h)
    refine snil ?_
    refine ccond rfl (fun _ => ?_) (fun hx => Bool.noConfusion hx)
    refine cseq ?_
    refine cregion ?_
    refine sv rfl (opv_as rfl) ?_
    refine snil ?_
    refine sadopt_c 85 3 2 (by decide) rfl ?_
    refine cret ?_
    refine then_ret ?_
    obtain rfl := Option.some.inj h
    exact ⟨Or.inr rfl, _, [0], [.one (.ls 0 ([] : List GChainVer).length)], [.arr 85 3 0 (([] : List GChainVer).flatMap eGChainVer)], (resVs_cons (ResV.tmp _ _ rfl) resVs_nil), rfl, rfl, ⟨by decide, rfl⟩, rfl, rfl, ⟨rfl, rfl⟩⟩

def m58_chain_Vacuum_k4 (a0 : GChainChain) (b4 : Int) : Option GChainChain :=
  (cut a0.L b4 (a0.L.length : Int)).bind fun c5 => (m77_slices_Cloneo c5).bind fun v6 => some (GChainChain.mk v6)

def m58_chain_Vacuum_k2 (a0 : GChainChain) (v1 : Int) (b2 : Unit) : Option GChainChain :=
  (idx a0.L v1).bind fun u3 => if u3.Del then (m58_chain_Vacuum_k4 a0 (wI (v1 + 1))) else (m58_chain_Vacuum_k4 a0 v1)
def m58_chain_Vacuum (a0 : GChainChain) (a1 : Int) : Option GChainChain :=
  (m76_chain_seen a0 a1).bind fun v1 => if (decide (v1 < 0)) then (some (GChainChain.mk a0.L)) else ((m52_chain_Sane (GChainChain.mk a0.L)).bind fun v7 => if (!v7) then (some (GChainChain.mk a0.L)) else (m58_chain_Vacuum_k2 a0 v1 ()))

set_option maxRecDepth 100000 in
theorem m58_chain_Vacuum_c {a0 : GChainChain} {a1 : Int} {r : GChainChain} (h : m58_chain_Vacuum a0 a1 = some r) : CallsA Try.prog 58 [.agg [.sl a0.L.length (a0.L.flatMap eGChainVer)], .one (.i .i64 a1)] (· = .s (.agg [.sl r.L.length (r.L.flatMap eGChainVer)])) := by
  unfold m58_chain_Vacuum at h
  refine callsA_of Try.func58 rfl (nt := 31) rfl (Nat.le_of_ble_eq_true rfl) ?_
  intro w0 S0
  refine cseq ?_
  refine cregion ?_
  refine sbox rfl rfl ?_
  refine salloc rfl zi82 ?_
  refine snil ?_
  refine cseq ?_
  refine cregion ?_
  refine sv rfl (opv_loadN ti82 rfl (.lp _ _ _ rfl) (Nat.le_of_ble_eq_true rfl)) ?_
  refine sv rfl (opv_mv rfl) ?_
  obtain ⟨v1, hv1, h⟩ := bind_eq h
  refine scall1 rfl fn76 (opnds_cons rfl (opnds_cons rfl opnds_nil)) (pubA_id rfl) (m76_chain_seen_c hv1) ?_
  refine sv rfl (opv_as rfl) ?_
  refine snil ?_
  refine cseq ?_
  refine cseq ?_
  refine cjoin3 (Unit) (fun b2 => [(2, .s (.one (.lp 0 0))), (4, .s (.one (.lp 1 0))), (5, .s (.one (.i .i64 v1)))]) (fun b2 => [.box [.sl a0.L.length (a0.L.flatMap eGChainVer)], .box [.raw (.slice none 0 0)]]) (fun b2 => m58_chain_Vacuum_k2 a0 v1 b2 = some r) (fun _ _ => inbL_of rfl) (fun _ _ => blkinb_of rfl) (fun _ _ => Nat.le_of_ble_eq_true rfl) (fun b2 h => ?_) ?_
  · unfold m58_chain_Vacuum_k2 at h
    refine cseq ?_
    refine cseq ?_
    refine cregion ?_
    refine sv rfl (opv_fieldAddr_lp fi82_0 rfl) ?_
    refine sv rfl (opv_load1 ti80 rfl (.lp _ _ _ rfl) rfl) ?_
    refine sv rfl (opv_mv rfl) ?_
    obtain ⟨u3, hu3, h⟩ := bind_eq h
    refine sv rfl (opv_ix (f := eGChainVer) si80 (fun _ => rfl) rfl rfl rfl rfl hu3) ?_
    refine sv rfl (opv_fieldAddr_cp fi85_2 rfl) ?_
    refine sv rfl (opv_load1 ti4 rfl (.cp _) rfl) ?_
    refine snil ?_
    refine cjoin (Int) (fun b4 => [(2, .s (.one (.lp 0 0))), (4, .s (.one (.lp 1 0))), (5, .s (.one (.i .i64 b4)))]) (fun b4 => [.box [.sl a0.L.length (a0.L.flatMap eGChainVer)], .box [.raw (.slice none 0 0)]]) (fun b4 => m58_chain_Vacuum_k4 a0 b4 = some r) (fun _ _ => inbL_of rfl) (fun _ _ => blkinb_of rfl) (fun _ _ => Nat.le_of_ble_eq_true rfl) (fun b4 h => ?_) ?_
    · unfold m58_chain_Vacuum_k4 at h
      refine cseq ?_
      refine cregion ?_
      refine sv rfl (opv_fieldAddr_lp fi82_0 rfl) ?_
      refine sv rfl (opv_load1 ti80 rfl (.lp _ _ _ rfl) rfl) ?_
      refine sv rfl (opv_mv rfl) ?_
      obtain ⟨c5, hc5, h⟩ := bind_eq h
      refine sv rfl (opv_cut (f := eGChainVer) (lo := b4) (hi := (a0.L.length : Int)) si80 (fun _ => rfl) rfl rfl rfl (bound_some rfl (cut_eq hc5).1.1) (by exact rfl) hc5) ?_
      obtain ⟨v6, hv6, h⟩ := bind_eq h
      refine scallB (x' := .s (.one (.ls 2 v6.length))) (M' := [.box [.sl a0.L.length (a0.L.flatMap eGChainVer)], .box [.raw (.slice none 0 0)], .arr 85 3 0 (v6.flatMap eGChainVer)]) [] rfl fn77 (.func _) (opnds_cons rfl opnds_nil) (m77_slices_Cloneo_c hv6) rfl rfl (by decide) rfl rfl rfl ?_
      refine sv rfl (opv_build zi82 pi82 (parts_cons rfl parts_nil) (.cons _ _ _ _ _ _ _ rfl rfl (Nat.le_of_ble_eq_true rfl) (.nil _))) ?_
      refine sstore sz82 rfl rfl rfl rfl (Nat.le_of_ble_eq_true rfl) ?_
      refine smem [.box [.sl a0.L.length (a0.L.flatMap eGChainVer)], .box [.ls 2 v6.length], .arr 85 3 0 (v6.flatMap eGChainVer)] rfl ?_
      refine snil ?_
      refine cret ?_
      obtain rfl := Option.some.inj h
      refine ⟨Or.inr rfl, _, _, _, (resVs_cons (ResV.agg _ _ _ _ _ ti82 rfl (.lp _ _ _ rfl) (Nat.le_of_ble_eq_true rfl)) resVs_nil), (by (repeat' first | exact PubA.nil _ | apply PubA.cons | apply PubV.one | apply PubV.agg | exact PubL.nil | exact PubL.ls _ _ _ _ _ _ rfl (flat_len (f := eGChainVer) (fun _ => rfl) _).symm | exact PubL.id _ rfl | exact PubLs.nil _ | apply PubLs.cons)), ?_⟩
      rfl
    · skip
      refine ccond rfl (fun hc => ?_) (fun hc => ?_)
      · replace h := ite_t hc h
        clear hc
        refine cregion ?_
        refine sv rfl (opv_mv rfl) ?_
        refine sv rfl (opv_add rfl rfl) ?_
        refine sv rfl (opv_as rfl) ?_
        refine snil ?_
        exact ⟨(wI (v1 + 1)), _, h, ⟨rfl, rfl, rfl, trivial⟩, rfl⟩
      · replace h := ite_f hc h
        clear hc
        refine cskip ?_
        refine then_normal ?_
        exact ⟨v1, _, h, ⟨rfl, rfl, rfl, trivial⟩, rfl⟩
  · skip
    refine cregion ?_
    refine sv rfl (opv_mv rfl) ?_
    refine sv rfl (opv_lss rfl rfl) ?_
    refine sv rfl (opv_mv rfl) ?_
    refine ssplit 11 rfl (fun hc => ?_) (fun hc => ?_)
    · replace h := ite_t hc h
      clear hc
      refine soff rfl rfl rfl rfl ?_
      refine soff rfl rfl rfl rfl ?_
      refine soff rfl rfl rfl rfl ?_
      refine sv rfl (opv_pick_t rfl rfl) ?_
      refine snil ?_
      refine ccond rfl (fun _ => ?_) (fun hx => Bool.noConfusion hx)
      refine cseq ?_
      refine cregion ?_
      refine sv rfl (opv_loadN ti82 rfl (.lp _ _ _ rfl) (Nat.le_of_ble_eq_true rfl)) ?_
      refine sstore sz82 rfl rfl rfl rfl (Nat.le_of_ble_eq_true rfl) ?_
      refine smem [.box [.sl a0.L.length (a0.L.flatMap eGChainVer)], .box [.sl a0.L.length (a0.L.flatMap eGChainVer)]] rfl ?_
      refine snil ?_
      refine cret ?_
      refine then_ret ?_
      obtain rfl := Option.some.inj h
      refine ⟨Or.inr rfl, _, _, _, (resVs_cons (ResV.agg _ _ _ _ _ ti82 rfl (.lp _ _ _ rfl) (Nat.le_of_ble_eq_true rfl)) resVs_nil), (pubA_id rfl), ?_⟩
      rfl
    · replace h := ite_f hc h
      clear hc
      refine son rfl rfl rfl ?_
      refine sv rfl (opv_loadN ti82 rfl (.lp _ _ _ rfl) (Nat.le_of_ble_eq_true rfl)) ?_
      refine son rfl rfl rfl ?_
      obtain ⟨v7, hv7, h⟩ := bind_eq h
      refine scall1 rfl fn52 (opnds_cons rfl opnds_nil) (pubA_id rfl) (m52_chain_Sane_c hv7) ?_
      refine son rfl rfl rfl ?_
      refine sv rfl (opv_not rfl) ?_
      refine sv rfl (opv_pick_f rfl rfl) ?_
      refine snil ?_
      refine ccond rfl (fun hc => ?_) (fun hc => ?_)
      · replace h := ite_t hc h
        clear hc
        refine cseq ?_
        refine cregion ?_
        refine sv rfl (opv_loadN ti82 rfl (.lp _ _ _ rfl) (Nat.le_of_ble_eq_true rfl)) ?_
        refine sstore sz82 rfl rfl rfl rfl (Nat.le_of_ble_eq_true rfl) ?_
        refine smem [.box [.sl a0.L.length (a0.L.flatMap eGChainVer)], .box [.sl a0.L.length (a0.L.flatMap eGChainVer)]] rfl ?_
        refine snil ?_
        refine cret ?_
        refine then_ret ?_
        obtain rfl := Option.some.inj h
        refine ⟨Or.inr rfl, _, _, _, (resVs_cons (ResV.agg _ _ _ _ _ ti82 rfl (.lp _ _ _ rfl) (Nat.le_of_ble_eq_true rfl)) resVs_nil), (pubA_id rfl), ?_⟩
        rfl
      · replace h := ite_f hc h
        clear hc
        refine cskip ?_
        refine then_normal ?_
        exact ⟨(), _, h, ⟨rfl, rfl, rfl, trivial⟩, rfl⟩

def m25_store_Vacuum_k2 (a0 : GStoreStore) (b2 : (List (List UInt8)) × (List GChainChain)) : Option GStoreStore :=
  some (GStoreStore.mk b2.1 b2.2 a0.Ts)

def m25_store_Vacuum_s3 (a0 : GStoreStore) (a1 : Int) (s3 : Int × (List (List UInt8)) × (List GChainChain)) : Option (LB (Int × (List (List UInt8)) × (List GChainChain)) ((List (List UInt8)) × (List GChainChain))) :=
  if (decide (s3.1 < (a0.Chains.length : Int))) then ((idx a0.Chains s3.1).bind fun u4 => (m58_chain_Vacuum u4 (if a0.Ts < a1 then a0.Ts else a1)).bind fun v5 => if (decide (0 < (v5.L.length : Int))) then ((idx a0.Keys s3.1).bind fun u6 => if (s3.2.1.length + ([u6] : List (List UInt8)).length) * 24 ≤ 140737488355328 then (if (s3.2.2.length + [v5].length) * 24 ≤ 140737488355328 then (some (.cont ((wI (s3.1 + 1)), (s3.2.1 ++ ([u6] : List (List UInt8))), (s3.2.2 ++ [v5])))) else none) else none) else (some (.cont ((wI (s3.1 + 1)), s3.2.1, s3.2.2)))) else (some (.brk (s3.2.1, s3.2.2)))
def m25_store_Vacuum (a0 : GStoreStore) (a1 : Int) : Option GStoreStore :=
  (m23_store_Sane a0).bind fun v1 => if (!v1) then (some a0) else ((iterB (m25_store_Vacuum_s3 a0 a1) fuel (0, ([] : List (List UInt8)), ([] : List GChainChain))).bind fun e9 => m25_store_Vacuum_k2 a0 e9)

set_option maxRecDepth 100000 in
theorem m25_store_Vacuum_c {a0 : GStoreStore} {a1 : Int} {r : GStoreStore} (h : m25_store_Vacuum a0 a1 = some r) : CallsA Try.prog 25 [.agg a0, .one (.i .i64 a1)] (· = .s (.agg r)) := by
  unfold m25_store_Vacuum at h
  refine callsA_of Try.func25 rfl (nt := 52) rfl (Nat.le_of_ble_eq_true rfl) ?_
  intro w0 S0
  refine cseq ?_
  refine cregion ?_
  refine sbox rfl rfl ?_
  refine salloc rfl zi36 ?_
  refine snil ?_
  refine cseq ?_
  refine cseq ?_
  refine cregion ?_
  refine sv rfl (opv_loadN ti36 rfl (.lp _ _ _ rfl) (Nat.le_of_ble_eq_true rfl)) ?_
  obtain ⟨v1, hv1, h⟩ := bind_eq h
  refine scall1 rfl fn23 (opnds_cons rfl opnds_nil) (pubA_id rfl) (m23_store_Sane_c hv1) ?_
  refine sv rfl (opv_not rfl) ?_
  refine snil ?_
  refine ccond rfl (fun hc => ?_) (fun hc => ?_)
  · replace h := ite_t hc h
    clear hc
    refine cseq ?_
    refine cregion ?_
    refine sv rfl (opv_loadN ti36 rfl (.lp _ _ _ rfl) (Nat.le_of_ble_eq_true rfl)) ?_
    refine sstore sz36 rfl rfl rfl rfl (Nat.le_of_ble_eq_true rfl) ?_
    refine smem [.box a0, .box a0] rfl ?_
    refine snil ?_
    refine cret ?_
    refine then_ret ?_
    obtain rfl := Option.some.inj h
    refine ⟨Or.inr rfl, _, _, _, (resVs_cons (ResV.agg _ _ _ _ _ ti36 rfl (.lp _ _ _ rfl) (Nat.le_of_ble_eq_true rfl)) resVs_nil), (pubA_id rfl), ?_⟩
    rfl
  · replace h := ite_f hc h
    clear hc
    refine cskip ?_
    refine then_normal ?_
    refine cseq ?_
    refine cregion ?_
    refine sv rfl (opv_fieldAddr_lp fi36_2 rfl) ?_
    refine sv rfl (opv_load1 ti3 rfl (.lp _ _ _ rfl) rfl) ?_
    refine sv rfl (opv_build zi36 pi36 (parts_cons rfl parts_nil) (.cons _ _ _ _ _ _ _ rfl rfl (Nat.le_of_ble_eq_true rfl) (.nil _))) ?_
    refine salloc rfl zi36 ?_
    refine sstore sz36 rfl rfl rfl rfl (Nat.le_of_ble_eq_true rfl) ?_
    refine smem [.box a0, .box [.raw (.slice none 0 0), .raw (.slice none 0 0), .i .i64 0], .box [.raw (.slice none 0 0), .raw (.slice none 0 0), .i .i64 a0.Ts]] rfl ?_
    refine snil ?_
    refine cseq ?_
    refine cseq ?_
    refine cregion ?_
    refine sv rfl (opv_fieldAddr_lp fi36_1 rfl) ?_
    refine sv rfl (opv_load1 ti34 rfl (.lp _ _ _ rfl) rfl) ?_
    refine sv rfl (opv_len_sl si34 rfl) ?_
    refine sv rfl (opv_mv rfl) ?_
    refine snil ?_
    refine sadopt_box_c 26 1 2 0 (by decide) rfl rfl ?_
    refine sadopt_box_c 82 1 2 1 (by decide) rfl rfl ?_
    refine cjoin ((List (List UInt8)) × (List GChainChain)) (fun b2 => [(4, .s (.one (.lp 1 0))), (5, .s (.one (.lp 2 0)))]) (fun b2 => [.box a0, .box [.raw (.slice none 0 0), .raw (.slice none 0 0), .i .i64 0], .box [.ls 3 b2.1.length, .ls 4 b2.2.length, .i .i64 a0.Ts], .arr 26 1 0 (b2.1.flatMap (eL eU8)), .arr 82 1 0 (b2.2.flatMap eGChainChain)]) (fun b2 => m25_store_Vacuum_k2 a0 b2 = some r) (fun _ _ => inbL_of rfl) (fun _ _ => blkinb_of rfl) (fun _ _ => Nat.le_of_ble_eq_true rfl) (fun b2 h => ?_) ?_
    · unfold m25_store_Vacuum_k2 at h
      refine cseq ?_
      refine cregion ?_
      refine sv rfl (opv_loadN ti36 rfl (.lp _ _ _ rfl) (Nat.le_of_ble_eq_true rfl)) ?_
      refine sstore sz36 rfl rfl rfl rfl (Nat.le_of_ble_eq_true rfl) ?_
      refine smem [.box a0, .box [.ls 3 b2.1.length, .ls 4 b2.2.length, .i .i64 a0.Ts], .box [.ls 3 b2.1.length, .ls 4 b2.2.length, .i .i64 a0.Ts], .arr 26 1 0 (b2.1.flatMap (eL eU8)), .arr 82 1 0 (b2.2.flatMap eGChainChain)] rfl ?_
      refine snil ?_
      refine cret ?_
      obtain rfl := Option.some.inj h
      refine ⟨Or.inr rfl, _, _, _, (resVs_cons (ResV.agg _ _ _ _ _ ti36 rfl (.lp _ _ _ rfl) (Nat.le_of_ble_eq_true rfl)) resVs_nil), (by (repeat' first | exact PubA.nil _ | apply PubA.cons | apply PubV.one | apply PubV.agg | exact PubL.nil | exact PubL.ls _ _ _ _ _ _ rfl (flat_len (f := (eL eU8)) (fun _ => rfl) _).symm | exact PubL.ls _ _ _ _ _ _ rfl (flat_len (f := eGChainChain) (fun _ => rfl) _).symm | exact PubL.id _ rfl | exact PubLs.nil _ | apply PubLs.cons)), ?_⟩
      rfl
    · skip
      refine cblock ?_
      obtain ⟨x3, hx3, ho3⟩ := bind_eq h
      refine awc_loop (G := Nat × (Int × (List (List UInt8)) × (List GChainChain))) (fun g => [(1, .s (.one (.i .i64 a1))), (2, .s (.one (.lp 0 0))), (4, .s (.one (.lp 1 0))), (5, .s (.one (.lp 2 0))), (17, .s (.one (.sl a0.Chains.length (a0.Chains.flatMap eGChainChain)))), (18, .s (.one (.i .i64 (a0.Chains.length : Int)))), (19, .s (.one (.i .i64 g.2.1)))]) (fun g => [.box a0, .box [.raw (.slice none 0 0), .raw (.slice none 0 0), .i .i64 0], .box [.ls 3 g.2.2.1.length, .ls 4 g.2.2.2.length, .i .i64 a0.Ts], .arr 26 1 0 (g.2.2.1.flatMap (eL eU8)), .arr 82 1 0 (g.2.2.2.flatMap eGChainChain)]) (fun g => iterB (m25_store_Vacuum_s3 a0 a1) g.1 g.2 = some x3) (fun g => g.1) (fuel, (0, ([] : List (List UInt8)), ([] : List GChainChain))) hx3 ⟨rfl, rfl, rfl, rfl, rfl, rfl, rfl, trivial⟩ [] rfl (fun _ _ => inbL_of rfl) (fun _ _ => blkinb_of rfl) (fun _ _ => Nat.le_of_ble_eq_true rfl) ?_
      clear hx3 h
      rintro ⟨n3, s3⟩ h
      obtain ⟨n3, y3, rfl, h, hk3⟩ := iterB_eq h
      unfold m25_store_Vacuum_s3 at h
      refine cseq ?_
      refine cregion ?_
      refine sv rfl (opv_lss rfl rfl) ?_
      refine snil ?_
      refine cseq ?_
      refine ccond rfl (fun hc => ?_) (fun hc => ?_)
      · replace h := ite_t hc h
        clear hc
        refine cskip ?_
        refine then_normal ?_
        refine cseq ?_
        refine cblock ?_
        refine cseq ?_
        refine cregion ?_
        refine sv rfl (opv_mv rfl) ?_
        obtain ⟨u4, hu4, h⟩ := bind_eq h
        refine sv rfl (opv_ix (f := eGChainChain) si34 (fun _ => rfl) rfl rfl rfl rfl hu4) ?_
        refine sv rfl (opv_loadNe (ys := [.sl u4.L.length (u4.L.flatMap eGChainVer)]) ti82 rfl (.cp _) rfl rfl) ?_
        refine salloc rfl zi82 ?_
        refine sv rfl (opv_as rfl) ?_
        refine sstore sz82 rfl rfl rfl rfl (Nat.le_of_ble_eq_true rfl) ?_
        refine smem [.box a0, .box [.raw (.slice none 0 0), .raw (.slice none 0 0), .i .i64 0], .box [.ls 3 s3.2.1.length, .ls 4 s3.2.2.length, .i .i64 a0.Ts], .arr 26 1 0 (s3.2.1.flatMap (eL eU8)), .arr 82 1 0 (s3.2.2.flatMap eGChainChain), .box [.sl u4.L.length (u4.L.flatMap eGChainVer)]] rfl ?_
        refine snil ?_
        refine cseq ?_
        refine cregion ?_
        refine sv rfl (opv_loadN ti82 rfl (.lp _ _ _ rfl) (Nat.le_of_ble_eq_true rfl)) ?_
        refine sv rfl (opv_mv rfl) ?_
        refine sv rfl (opv_fieldAddr_lp fi36_2 rfl) ?_
        refine sv rfl (opv_load1 ti3 rfl (.lp _ _ _ rfl) rfl) ?_
        refine sv rfl (opv_min rfl rfl) ?_
        obtain ⟨v5, hv5, h⟩ := bind_eq h
        refine scall1 rfl fn58 (opnds_cons rfl (opnds_cons rfl opnds_nil)) (pubA_id rfl) (m58_chain_Vacuum_c hv5) ?_
        refine salloc rfl zi82 ?_
        refine sstore sz82 rfl rfl rfl rfl (Nat.le_of_ble_eq_true rfl) ?_
        refine smem [.box a0, .box [.raw (.slice none 0 0), .raw (.slice none 0 0), .i .i64 0], .box [.ls 3 s3.2.1.length, .ls 4 s3.2.2.length, .i .i64 a0.Ts], .arr 26 1 0 (s3.2.1.flatMap (eL eU8)), .arr 82 1 0 (s3.2.2.flatMap eGChainChain), .box [.sl u4.L.length (u4.L.flatMap eGChainVer)], .box [.sl v5.L.length (v5.L.flatMap eGChainVer)]] rfl ?_
        refine snil ?_
        refine cseq ?_
        refine cregion ?_
        refine sv rfl (opv_fieldAddr_lp fi82_0 rfl) ?_
        refine sv rfl (opv_load1 ti80 rfl (.lp _ _ _ rfl) rfl) ?_
        refine sv rfl (opv_len_sl si80 rfl) ?_
        refine sv rfl (opv_gtr rfl rfl) ?_
        refine snil ?_
        refine ccond rfl (fun hc => ?_) (fun hc => ?_)
        · replace h := ite_t hc h
          clear hc
          refine cseq ?_
          obtain ⟨u6, hu6, h⟩ := bind_eq h
          obtain ⟨hb7, h⟩ := chk_eq h
          refine cdraw_e [8, 10] [0, 1, 0, 4, 0, 28, 60, 124, 255, 511, 1023] [[.box a0, .box [.raw (.slice none 0 0), .raw (.slice none 0 0), .i .i64 0], .box [.ls 3 s3.2.1.length, .ls 4 s3.2.2.length, .i .i64 a0.Ts], .arr 26 1 0 (s3.2.1.flatMap (eL eU8)), .arr 82 1 0 (s3.2.2.flatMap eGChainChain), .box [.sl u4.L.length (u4.L.flatMap eGChainVer)], .box [.sl v5.L.length (v5.L.flatMap eGChainVer)]], [.box a0, .box [.raw (.slice none 0 0), .raw (.slice none 0 0), .i .i64 0], .box [.ls 3 s3.2.1.length, .ls 4 s3.2.2.length, .i .i64 a0.Ts], .arr 26 1 0 ((s3.2.1 ++ ([u6] : List (List UInt8))).flatMap (eL eU8)), .arr 82 1 0 (s3.2.2.flatMap eGChainChain), .box [.sl u4.L.length (u4.L.flatMap eGChainVer)], .box [.sl v5.L.length (v5.L.flatMap eGChainVer)]], [.box a0, .box [.raw (.slice none 0 0), .raw (.slice none 0 0), .i .i64 0], .box [.ls 3 (s3.2.1 ++ ([u6] : List (List UInt8))).length, .ls 4 s3.2.2.length, .i .i64 a0.Ts], .arr 26 1 0 ((s3.2.1 ++ ([u6] : List (List UInt8))).flatMap (eL eU8)), .arr 82 1 0 (s3.2.2.flatMap eGChainChain), .box [.sl u4.L.length (u4.L.flatMap eGChainVer)], .box [.sl v5.L.length (v5.L.flatMap eGChainVer)]]] (by kernel_rfl) mixed (by kernel_rfl) (by decide) rfl rfl rfl rfl ?_
          refine ev (sees_at 0 rfl rfl) rfl rfl (opv_fieldAddr_lp fi36_0 rfl) ?_
          refine ev (sees_at 0 rfl rfl) rfl rfl (opv_load1 ti22 rfl (.lp _ _ _ rfl) rfl) ?_
          refine ev (sees_at 0 rfl rfl) rfl rfl (opv_fieldAddr_lp fi36_0 rfl) ?_
          refine ev (sees_at 0 rfl rfl) rfl rfl (opv_load1 ti22 rfl (.lp _ _ _ rfl) rfl) ?_
          refine ev (sees_at 0 rfl rfl) rfl rfl (opv_mv rfl) ?_
          refine ev (sees_at 0 rfl rfl) rfl rfl (opv_ix (f := (eL eU8)) si22 (fun _ => rfl) rfl rfl rfl rfl hu6) ?_
          refine ev (sees_at 0 rfl rfl) rfl rfl (opv_load1 ti26 rfl (.cp _) rfl) ?_
          refine ed (sees_at 0 rfl rfl) rfl rfl (opD_bld (out := ([u6] : List (List UInt8)).flatMap (eL eU8)) Try.underlying22 ei26 (parts_cons rfl parts_nil) (.cons _ _ _ _ _ _ _ rfl rfl (Nat.le_of_ble_eq_true rfl) (.nil _)) rfl (by decide)) ?_
          refine ee (x := .s (.one (.ls 3 (s3.2.1 ++ ([u6] : List (List UInt8))).length))) 0 rfl rfl rfl rfl rfl (fun ζ => ?_) ?_
          · refine sapp (f := (eL eU8)) (xs := s3.2.1) (us := ([u6] : List (List UInt8))) rfl Try.underlying22 ei26 ni22 (fun _ => rfl) rfl rfl (.one _ _ _ _ (.id _ rfl)) rfl rfl rfl (.sl _ _ _ (flat_len (f := (eL eU8)) (fun _ => rfl) _)) rfl rfl hb7 (by decide) ?_
            exact eend
          refine ev (sees_at 1 rfl rfl) rfl rfl (opv_fieldAddr_lp fi36_0 rfl) ?_
          refine ee0 1 rfl rfl rfl rfl (fun ζ => ?_) ?_
          · refine sstore sz22 rfl rfl rfl rfl (Nat.le_of_ble_eq_true rfl) ?_
            refine smem [.box a0, .box [.raw (.slice none 0 0), .raw (.slice none 0 0), .i .i64 0], .box [.ls 3 (s3.2.1 ++ ([u6] : List (List UInt8))).length, .ls 4 s3.2.2.length, .i .i64 a0.Ts], .arr 26 1 0 ((s3.2.1 ++ ([u6] : List (List UInt8))).flatMap (eL eU8)), .arr 82 1 0 (s3.2.2.flatMap eGChainChain), .box [.sl u4.L.length (u4.L.flatMap eGChainVer)], .box [.sl v5.L.length (v5.L.flatMap eGChainVer)]] rfl ?_
            exact eend
          refine enil ?_
          refine then_normal ?_
          refine cregion ?_
          refine sv rfl (opv_fieldAddr_lp fi36_1 rfl) ?_
          refine sv rfl (opv_load1 ti34 rfl (.lp _ _ _ rfl) rfl) ?_
          refine sv rfl (opv_loadN ti82 rfl (.lp _ _ _ rfl) (Nat.le_of_ble_eq_true rfl)) ?_
          refine sbuild1 rfl Try.underlying34 ei82 rfl rfl (List.all_eq_true.1 rfl) (by decide) ?_
          refine smem [.box a0, .box [.raw (.slice none 0 0), .raw (.slice none 0 0), .i .i64 0], .box [.ls 3 (s3.2.1 ++ ([u6] : List (List UInt8))).length, .ls 4 s3.2.2.length, .i .i64 a0.Ts], .arr 26 1 0 ((s3.2.1 ++ ([u6] : List (List UInt8))).flatMap (eL eU8)), .arr 82 1 0 (s3.2.2.flatMap eGChainChain), .box [.sl u4.L.length (u4.L.flatMap eGChainVer)], .box [.sl v5.L.length (v5.L.flatMap eGChainVer)], .arr 82 1 0 ([v5].flatMap eGChainChain)] rfl ?_
          obtain ⟨hb8, h⟩ := chk_eq h
          refine sapp (f := eGChainChain) (xs := s3.2.2) (us := [v5]) rfl Try.underlying34 ei82 ni34 (fun _ => rfl) rfl rfl (.one _ _ _ _ (.ls _ _ _ _ _ _ rfl (flat_len (f := eGChainChain) (fun _ => rfl) [v5]).symm)) rfl rfl rfl (.sl _ _ _ (flat_len (f := eGChainChain) (fun _ => rfl) _)) rfl rfl hb8 (by decide) ?_
          refine sv rfl (opv_fieldAddr_lp fi36_1 rfl) ?_
          refine sstore sz34 rfl rfl rfl rfl (Nat.le_of_ble_eq_true rfl) ?_
          refine smem [.box a0, .box [.raw (.slice none 0 0), .raw (.slice none 0 0), .i .i64 0], .box [.ls 3 (s3.2.1 ++ ([u6] : List (List UInt8))).length, .ls 4 (s3.2.2 ++ [v5]).length, .i .i64 a0.Ts], .arr 26 1 0 ((s3.2.1 ++ ([u6] : List (List UInt8))).flatMap (eL eU8)), .arr 82 1 0 ((s3.2.2 ++ [v5]).flatMap eGChainChain), .box [.sl u4.L.length (u4.L.flatMap eGChainVer)], .box [.sl v5.L.length (v5.L.flatMap eGChainVer)], .arr 82 1 ([v5].flatMap eGChainChain).length ([v5].flatMap eGChainChain)] rfl ?_
          refine snil0 ?_
          refine block_normal ?_
          refine then_normal ?_
          refine cregion ?_
          refine sv rfl (opv_add rfl rfl) ?_
          refine sv rfl (opv_mv rfl) ?_
          refine snil ?_
          obtain rfl := Option.some.inj h
          exact ⟨(n3, ((wI (s3.1 + 1)), (s3.2.1 ++ ([u6] : List (List UInt8))), (s3.2.2 ++ [v5]))), _, hk3, ⟨rfl, rfl, rfl, rfl, rfl, rfl, rfl, trivial⟩, rfl, Nat.lt_succ_self _⟩
        · replace h := ite_f hc h
          clear hc
          refine cskip ?_
          refine block_normal ?_
          refine then_normal ?_
          refine cregion ?_
          refine sv rfl (opv_add rfl rfl) ?_
          refine sv rfl (opv_mv rfl) ?_
          refine snil ?_
          obtain rfl := Option.some.inj h
          exact ⟨(n3, ((wI (s3.1 + 1)), s3.2.1, s3.2.2)), _, hk3, ⟨rfl, rfl, rfl, rfl, rfl, rfl, rfl, trivial⟩, rfl, Nat.lt_succ_self _⟩
      · replace h := ite_f hc h
        clear hc
        refine cexit ?_
        refine then_exit ?_
        refine then_exit ?_
        refine block_hit ?_
        refine then_normal ?_
        obtain rfl := Option.some.inj h
        obtain rfl : _ = x3 := hk3
        exact ⟨(s3.2.1, s3.2.2), _, ho3, ⟨rfl, rfl, trivial⟩, rfl⟩

def m59_r07_Vacuum_k4 (a0 : GR07Chain) (b4 : Int) : Option GR07Chain :=
  (cut a0.L b4 (a0.L.length : Int)).bind fun c5 => some (GR07Chain.mk c5)

def m59_r07_Vacuum_k2 (a0 : GR07Chain) (v1 : Int) (b2 : Unit) : Option GR07Chain :=
  (idx a0.L v1).bind fun u3 => if u3.Del then (m59_r07_Vacuum_k4 a0 (wI (v1 + 1))) else (m59_r07_Vacuum_k4 a0 v1)
def m59_r07_Vacuum (a0 : GR07Chain) (a1 : Int) : Option GR07Chain :=
  (m78_r07_place a0 a1).bind fun v1 => (m56_r07_Sane a0).bind fun v6 => if (!v6) then (some a0) else (if (decide (v1 < 0)) then (some a0) else (m59_r07_Vacuum_k2 a0 v1 ()))

set_option maxRecDepth 100000 in
theorem m59_r07_Vacuum_c {a0 : GR07Chain} {a1 : Int} {r : GR07Chain} (h : m59_r07_Vacuum a0 a1 = some r) : CallsA Try.prog 59 [.agg [.sl a0.L.length (a0.L.flatMap eGR07Ver)], .one (.i .i64 a1)] (· = .s (.agg [.sl r.L.length (r.L.flatMap eGR07Ver)])) := by
  unfold m59_r07_Vacuum at h
  refine callsA_of Try.func59 rfl (nt := 30) rfl (Nat.le_of_ble_eq_true rfl) ?_
  intro w0 S0
  refine cseq ?_
  refine cregion ?_
  refine sbox rfl rfl ?_
  refine salloc rfl zi79 ?_
  refine snil ?_
  refine cseq ?_
  refine cregion ?_
  refine sv rfl (opv_loadN ti79 rfl (.lp _ _ _ rfl) (Nat.le_of_ble_eq_true rfl)) ?_
  refine sv rfl (opv_mv rfl) ?_
  obtain ⟨v1, hv1, h⟩ := bind_eq h
  refine scall1 rfl fn78 (opnds_cons rfl (opnds_cons rfl opnds_nil)) (pubA_id rfl) (m78_r07_place_c hv1) ?_
  refine sv rfl (opv_as rfl) ?_
  refine snil ?_
  refine cseq ?_
  refine cseq ?_
  refine cjoin3 (Unit) (fun b2 => [(2, .s (.one (.lp 0 0))), (4, .s (.one (.lp 1 0))), (5, .s (.one (.i .i64 v1)))]) (fun b2 => [.box [.sl a0.L.length (a0.L.flatMap eGR07Ver)], .box [.raw (.slice none 0 0)]]) (fun b2 => m59_r07_Vacuum_k2 a0 v1 b2 = some r) (fun _ _ => inbL_of rfl) (fun _ _ => blkinb_of rfl) (fun _ _ => Nat.le_of_ble_eq_true rfl) (fun b2 h => ?_) ?_
  · unfold m59_r07_Vacuum_k2 at h
    refine cseq ?_
    refine cseq ?_
    refine cregion ?_
    refine sv rfl (opv_fieldAddr_lp fi79_0 rfl) ?_
    refine sv rfl (opv_load1 ti77 rfl (.lp _ _ _ rfl) rfl) ?_
    refine sv rfl (opv_mv rfl) ?_
    obtain ⟨u3, hu3, h⟩ := bind_eq h
    refine sv rfl (opv_ix (f := eGR07Ver) si77 (fun _ => rfl) rfl rfl rfl rfl hu3) ?_
    refine sv rfl (opv_fieldAddr_cp fi84_2 rfl) ?_
    refine sv rfl (opv_load1 ti4 rfl (.cp _) rfl) ?_
    refine snil ?_
    refine cjoin (Int) (fun b4 => [(2, .s (.one (.lp 0 0))), (4, .s (.one (.lp 1 0))), (5, .s (.one (.i .i64 b4)))]) (fun b4 => [.box [.sl a0.L.length (a0.L.flatMap eGR07Ver)], .box [.raw (.slice none 0 0)]]) (fun b4 => m59_r07_Vacuum_k4 a0 b4 = some r) (fun _ _ => inbL_of rfl) (fun _ _ => blkinb_of rfl) (fun _ _ => Nat.le_of_ble_eq_true rfl) (fun b4 h => ?_) ?_
    · unfold m59_r07_Vacuum_k4 at h
      refine cseq ?_
      refine cregion ?_
      refine sv rfl (opv_fieldAddr_lp fi79_0 rfl) ?_
      refine sv rfl (opv_load1 ti77 rfl (.lp _ _ _ rfl) rfl) ?_
      refine sv rfl (opv_mv rfl) ?_
      obtain ⟨c5, hc5, h⟩ := bind_eq h
      refine sv rfl (opv_cut (f := eGR07Ver) (lo := b4) (hi := (a0.L.length : Int)) si77 (fun _ => rfl) rfl rfl rfl (bound_some rfl (cut_eq hc5).1.1) (by exact rfl) hc5) ?_
      refine sv rfl (opv_build zi79 pi79 (parts_cons rfl parts_nil) (.cons _ _ _ _ _ _ _ rfl rfl (Nat.le_of_ble_eq_true rfl) (.nil _))) ?_
      refine sstore sz79 rfl rfl rfl rfl (Nat.le_of_ble_eq_true rfl) ?_
      refine smem [.box [.sl a0.L.length (a0.L.flatMap eGR07Ver)], .box [.sl c5.length (c5.flatMap eGR07Ver)]] rfl ?_
      refine snil ?_
      refine cret ?_
      obtain rfl := Option.some.inj h
      refine ⟨Or.inr rfl, _, _, _, (resVs_cons (ResV.agg _ _ _ _ _ ti79 rfl (.lp _ _ _ rfl) (Nat.le_of_ble_eq_true rfl)) resVs_nil), (pubA_id rfl), ?_⟩
      rfl
    · skip
      refine ccond rfl (fun hc => ?_) (fun hc => ?_)
      · replace h := ite_t hc h
        clear hc
        refine cregion ?_
        refine sv rfl (opv_mv rfl) ?_
        refine sv rfl (opv_add rfl rfl) ?_
        refine sv rfl (opv_as rfl) ?_
        refine snil ?_
        exact ⟨(wI (v1 + 1)), _, h, ⟨rfl, rfl, rfl, trivial⟩, rfl⟩
      · replace h := ite_f hc h
        clear hc
        refine cskip ?_
        refine then_normal ?_
        exact ⟨v1, _, h, ⟨rfl, rfl, rfl, trivial⟩, rfl⟩
  · skip
    refine cregion ?_
    refine sv rfl (opv_loadN ti79 rfl (.lp _ _ _ rfl) (Nat.le_of_ble_eq_true rfl)) ?_
    obtain ⟨v6, hv6, h⟩ := bind_eq h
    refine scall1 rfl fn56 (opnds_cons rfl opnds_nil) (pubA_id rfl) (m56_r07_Sane_c hv6) ?_
    refine sv rfl (opv_not rfl) ?_
    refine sv rfl (opv_mv rfl) ?_
    refine ssplit 12 rfl (fun hc => ?_) (fun hc => ?_)
    · replace h := ite_t hc h
      clear hc
      refine soff rfl rfl rfl rfl ?_
      refine soff rfl rfl rfl rfl ?_
      refine sv rfl (opv_pick_t rfl rfl) ?_
      refine snil ?_
      refine ccond rfl (fun _ => ?_) (fun hx => Bool.noConfusion hx)
      refine cseq ?_
      refine cregion ?_
      refine sv rfl (opv_loadN ti79 rfl (.lp _ _ _ rfl) (Nat.le_of_ble_eq_true rfl)) ?_
      refine sstore sz79 rfl rfl rfl rfl (Nat.le_of_ble_eq_true rfl) ?_
      refine smem [.box [.sl a0.L.length (a0.L.flatMap eGR07Ver)], .box [.sl a0.L.length (a0.L.flatMap eGR07Ver)]] rfl ?_
      refine snil ?_
      refine cret ?_
      refine then_ret ?_
      obtain rfl := Option.some.inj h
      refine ⟨Or.inr rfl, _, _, _, (resVs_cons (ResV.agg _ _ _ _ _ ti79 rfl (.lp _ _ _ rfl) (Nat.le_of_ble_eq_true rfl)) resVs_nil), (pubA_id rfl), ?_⟩
      rfl
    · replace h := ite_f hc h
      clear hc
      refine son rfl rfl rfl ?_
      refine sv rfl (opv_mv rfl) ?_
      refine son rfl rfl rfl ?_
      refine sv rfl (opv_lss rfl rfl) ?_
      refine sv rfl (opv_pick_f rfl rfl) ?_
      refine snil ?_
      refine ccond rfl (fun hc => ?_) (fun hc => ?_)
      · replace h := ite_t hc h
        clear hc
        refine cseq ?_
        refine cregion ?_
        refine sv rfl (opv_loadN ti79 rfl (.lp _ _ _ rfl) (Nat.le_of_ble_eq_true rfl)) ?_
        refine sstore sz79 rfl rfl rfl rfl (Nat.le_of_ble_eq_true rfl) ?_
        refine smem [.box [.sl a0.L.length (a0.L.flatMap eGR07Ver)], .box [.sl a0.L.length (a0.L.flatMap eGR07Ver)]] rfl ?_
        refine snil ?_
        refine cret ?_
        refine then_ret ?_
        obtain rfl := Option.some.inj h
        refine ⟨Or.inr rfl, _, _, _, (resVs_cons (ResV.agg _ _ _ _ _ ti79 rfl (.lp _ _ _ rfl) (Nat.le_of_ble_eq_true rfl)) resVs_nil), (pubA_id rfl), ?_⟩
        rfl
      · replace h := ite_f hc h
        clear hc
        refine cskip ?_
        refine then_normal ?_
        exact ⟨(), _, h, ⟨rfl, rfl, rfl, trivial⟩, rfl⟩

def m26_r08_Vacuum_k2 (a0 : GR08Store) (b2 : (List (List UInt8)) × (List GR07Chain)) : Option GR08Store :=
  some (GR08Store.mk b2.1 b2.2 a0.Ts)

def m26_r08_Vacuum_s3 (a0 : GR08Store) (a1 : Int) (s3 : Int × (List (List UInt8)) × (List GR07Chain)) : Option (LB (Int × (List (List UInt8)) × (List GR07Chain)) ((List (List UInt8)) × (List GR07Chain))) :=
  if (decide (s3.1 < (a0.Keys.length : Int))) then ((idx a0.Chains s3.1).bind fun u4 => (m59_r07_Vacuum u4 (if a0.Ts < a1 then a0.Ts else a1)).bind fun v5 => if (decide (0 < (v5.L.length : Int))) then ((idx a0.Keys s3.1).bind fun u6 => if (s3.2.1.length + ([u6] : List (List UInt8)).length) * 24 ≤ 140737488355328 then (if (s3.2.2.length + [v5].length) * 24 ≤ 140737488355328 then (some (.cont ((wI (s3.1 + 1)), (s3.2.1 ++ ([u6] : List (List UInt8))), (s3.2.2 ++ [v5])))) else none) else none) else (some (.cont ((wI (s3.1 + 1)), s3.2.1, s3.2.2)))) else (some (.brk (s3.2.1, s3.2.2)))
def m26_r08_Vacuum (a0 : GR08Store) (a1 : Int) : Option GR08Store :=
  (m24_r08_Sane a0).bind fun v1 => if (!v1) then (some a0) else ((iterB (m26_r08_Vacuum_s3 a0 a1) fuel (0, ([] : List (List UInt8)), ([] : List GR07Chain))).bind fun e9 => m26_r08_Vacuum_k2 a0 e9)

set_option maxRecDepth 100000 in
theorem m26_r08_Vacuum_c {a0 : GR08Store} {a1 : Int} {r : GR08Store} (h : m26_r08_Vacuum a0 a1 = some r) : CallsA Try.prog 26 [.agg a0, .one (.i .i64 a1)] (· = .s (.agg r)) := by
  unfold m26_r08_Vacuum at h
  refine callsA_of Try.func26 rfl (nt := 53) rfl (Nat.le_of_ble_eq_true rfl) ?_
  intro w0 S0
  refine cseq ?_
  refine cregion ?_
  refine sbox rfl rfl ?_
  refine salloc rfl zi25 ?_
  refine snil ?_
  refine cseq ?_
  refine cseq ?_
  refine cregion ?_
  refine sv rfl (opv_loadN ti25 rfl (.lp _ _ _ rfl) (Nat.le_of_ble_eq_true rfl)) ?_
  obtain ⟨v1, hv1, h⟩ := bind_eq h
  refine scall1 rfl fn24 (opnds_cons rfl opnds_nil) (pubA_id rfl) (m24_r08_Sane_c hv1) ?_
  refine sv rfl (opv_not rfl) ?_
  refine snil ?_
  refine ccond rfl (fun hc => ?_) (fun hc => ?_)
  · replace h := ite_t hc h
    clear hc
    refine cseq ?_
    refine cregion ?_
    refine sv rfl (opv_loadN ti25 rfl (.lp _ _ _ rfl) (Nat.le_of_ble_eq_true rfl)) ?_
    refine sstore sz25 rfl rfl rfl rfl (Nat.le_of_ble_eq_true rfl) ?_
    refine smem [.box a0, .box a0] rfl ?_
    refine snil ?_
    refine cret ?_
    refine then_ret ?_
    obtain rfl := Option.some.inj h
    refine ⟨Or.inr rfl, _, _, _, (resVs_cons (ResV.agg _ _ _ _ _ ti25 rfl (.lp _ _ _ rfl) (Nat.le_of_ble_eq_true rfl)) resVs_nil), (pubA_id rfl), ?_⟩
    rfl
  · replace h := ite_f hc h
    clear hc
    refine cskip ?_
    refine then_normal ?_
    refine cseq ?_
    refine cregion ?_
    refine sv rfl (opv_fieldAddr_lp fi25_2 rfl) ?_
    refine sv rfl (opv_load1 ti3 rfl (.lp _ _ _ rfl) rfl) ?_
    refine sv rfl (opv_build zi25 pi25 (parts_cons rfl parts_nil) (.cons _ _ _ _ _ _ _ rfl rfl (Nat.le_of_ble_eq_true rfl) (.nil _))) ?_
    refine salloc rfl zi25 ?_
    refine sstore sz25 rfl rfl rfl rfl (Nat.le_of_ble_eq_true rfl) ?_
    refine smem [.box a0, .box [.raw (.slice none 0 0), .raw (.slice none 0 0), .i .i64 0], .box [.raw (.slice none 0 0), .raw (.slice none 0 0), .i .i64 a0.Ts]] rfl ?_
    refine snil ?_
    refine cseq ?_
    refine cseq ?_
    refine cregion ?_
    refine sv rfl (opv_as rfl) ?_
    refine snil ?_
    refine sadopt_box_c 26 1 2 0 (by decide) rfl rfl ?_
    refine sadopt_box_c 79 1 2 1 (by decide) rfl rfl ?_
    refine cjoin ((List (List UInt8)) × (List GR07Chain)) (fun b2 => [(4, .s (.one (.lp 1 0))), (5, .s (.one (.lp 2 0)))]) (fun b2 => [.box a0, .box [.raw (.slice none 0 0), .raw (.slice none 0 0), .i .i64 0], .box [.ls 3 b2.1.length, .ls 4 b2.2.length, .i .i64 a0.Ts], .arr 26 1 0 (b2.1.flatMap (eL eU8)), .arr 79 1 0 (b2.2.flatMap eGR07Chain)]) (fun b2 => m26_r08_Vacuum_k2 a0 b2 = some r) (fun _ _ => inbL_of rfl) (fun _ _ => blkinb_of rfl) (fun _ _ => Nat.le_of_ble_eq_true rfl) (fun b2 h => ?_) ?_
    · unfold m26_r08_Vacuum_k2 at h
      refine cseq ?_
      refine cregion ?_
      refine sv rfl (opv_loadN ti25 rfl (.lp _ _ _ rfl) (Nat.le_of_ble_eq_true rfl)) ?_
      refine sstore sz25 rfl rfl rfl rfl (Nat.le_of_ble_eq_true rfl) ?_
      refine smem [.box a0, .box [.ls 3 b2.1.length, .ls 4 b2.2.length, .i .i64 a0.Ts], .box [.ls 3 b2.1.length, .ls 4 b2.2.length, .i .i64 a0.Ts], .arr 26 1 0 (b2.1.flatMap (eL eU8)), .arr 79 1 0 (b2.2.flatMap eGR07Chain)] rfl ?_
      refine snil ?_
      refine cret ?_
      obtain rfl := Option.some.inj h
      refine ⟨Or.inr rfl, _, _, _, (resVs_cons (ResV.agg _ _ _ _ _ ti25 rfl (.lp _ _ _ rfl) (Nat.le_of_ble_eq_true rfl)) resVs_nil), (by (repeat' first | exact PubA.nil _ | apply PubA.cons | apply PubV.one | apply PubV.agg | exact PubL.nil | exact PubL.ls _ _ _ _ _ _ rfl (flat_len (f := (eL eU8)) (fun _ => rfl) _).symm | exact PubL.ls _ _ _ _ _ _ rfl (flat_len (f := eGR07Chain) (fun _ => rfl) _).symm | exact PubL.id _ rfl | exact PubLs.nil _ | apply PubLs.cons)), ?_⟩
      rfl
    · skip
      refine cblock ?_
      obtain ⟨x3, hx3, ho3⟩ := bind_eq h
      refine awc_loop (G := Nat × (Int × (List (List UInt8)) × (List GR07Chain))) (fun g => [(1, .s (.one (.i .i64 a1))), (2, .s (.one (.lp 0 0))), (4, .s (.one (.lp 1 0))), (5, .s (.one (.lp 2 0))), (6, .s (.one (.i .i64 g.2.1)))]) (fun g => [.box a0, .box [.raw (.slice none 0 0), .raw (.slice none 0 0), .i .i64 0], .box [.ls 3 g.2.2.1.length, .ls 4 g.2.2.2.length, .i .i64 a0.Ts], .arr 26 1 0 (g.2.2.1.flatMap (eL eU8)), .arr 79 1 0 (g.2.2.2.flatMap eGR07Chain)]) (fun g => iterB (m26_r08_Vacuum_s3 a0 a1) g.1 g.2 = some x3) (fun g => g.1) (fuel, (0, ([] : List (List UInt8)), ([] : List GR07Chain))) hx3 ⟨rfl, rfl, rfl, rfl, rfl, trivial⟩ [] rfl (fun _ _ => inbL_of rfl) (fun _ _ => blkinb_of rfl) (fun _ _ => Nat.le_of_ble_eq_true rfl) ?_
      clear hx3 h
      rintro ⟨n3, s3⟩ h
      obtain ⟨n3, y3, rfl, h, hk3⟩ := iterB_eq h
      unfold m26_r08_Vacuum_s3 at h
      refine cseq ?_
      refine cseq ?_
      refine cregion ?_
      refine sv rfl (opv_mv rfl) ?_
      refine sv rfl (opv_fieldAddr_lp fi25_0 rfl) ?_
      refine sv rfl (opv_load1 ti22 rfl (.lp _ _ _ rfl) rfl) ?_
      refine sv rfl (opv_len_sl si22 rfl) ?_
      refine sv rfl (opv_lss rfl rfl) ?_
      refine snil ?_
      refine ccond rfl (fun hc => ?_) (fun hc => ?_)
      · replace h := ite_t hc h
        clear hc
        refine cskip ?_
        refine then_normal ?_
        refine cseq ?_
        refine cblock ?_
        refine cseq ?_
        refine chole ?_
        obtain ⟨u4, hu4, h⟩ := bind_eq h
        obtain ⟨v5, hv5, h⟩ := bind_eq h
        refine cdraw_e [10, 11] [0, 1, 0, 7, 15, 0, 0, 64, 224, 511, 0, 2047] [[.box a0, .box [.raw (.slice none 0 0), .raw (.slice none 0 0), .i .i64 0], .box [.ls 3 s3.2.1.length, .ls 4 s3.2.2.length, .i .i64 a0.Ts], .arr 26 1 0 (s3.2.1.flatMap (eL eU8)), .arr 79 1 0 (s3.2.2.flatMap eGR07Chain), .hole], [.box a0, .box [.raw (.slice none 0 0), .raw (.slice none 0 0), .i .i64 0], .box [.ls 3 s3.2.1.length, .ls 4 s3.2.2.length, .i .i64 a0.Ts], .arr 26 1 0 (s3.2.1.flatMap (eL eU8)), .arr 79 1 0 (s3.2.2.flatMap eGR07Chain), .box [.raw (.slice none 0 0)]], [.box a0, .box [.raw (.slice none 0 0), .raw (.slice none 0 0), .i .i64 0], .box [.ls 3 s3.2.1.length, .ls 4 s3.2.2.length, .i .i64 a0.Ts], .arr 26 1 0 (s3.2.1.flatMap (eL eU8)), .arr 79 1 0 (s3.2.2.flatMap eGR07Chain), .box [.sl v5.L.length (v5.L.flatMap eGR07Ver)]]] (by kernel_rfl) mixed (by kernel_rfl) (by decide) rfl rfl rfl rfl ?_
        refine ev (sees_all (md := [.box a0, .box [.raw (.slice none 0 0), .raw (.slice none 0 0), .i .i64 0], .box [.ls 3 s3.2.1.length, .ls 4 s3.2.2.length, .i .i64 a0.Ts], .arr 26 1 0 (s3.2.1.flatMap (eL eU8)), .arr 79 1 0 (s3.2.2.flatMap eGR07Chain), .dead]) ⟨⟨rfl, ⟨rfl, ⟨rfl, ⟨rfl, ⟨rfl, ⟨trivial, trivial⟩⟩⟩⟩⟩⟩, ⟨⟨rfl, ⟨rfl, ⟨rfl, ⟨rfl, ⟨rfl, ⟨trivial, trivial⟩⟩⟩⟩⟩⟩, ⟨⟨rfl, ⟨rfl, ⟨rfl, ⟨rfl, ⟨rfl, ⟨trivial, trivial⟩⟩⟩⟩⟩⟩, trivial⟩⟩⟩) rfl rfl (opv_fieldAddr_lp fi25_1 rfl) ?_
        refine ev (sees_all (md := [.box a0, .box [.raw (.slice none 0 0), .raw (.slice none 0 0), .i .i64 0], .box [.ls 3 s3.2.1.length, .ls 4 s3.2.2.length, .i .i64 a0.Ts], .arr 26 1 0 (s3.2.1.flatMap (eL eU8)), .arr 79 1 0 (s3.2.2.flatMap eGR07Chain), .dead]) ⟨⟨rfl, ⟨rfl, ⟨rfl, ⟨rfl, ⟨rfl, ⟨trivial, trivial⟩⟩⟩⟩⟩⟩, ⟨⟨rfl, ⟨rfl, ⟨rfl, ⟨rfl, ⟨rfl, ⟨trivial, trivial⟩⟩⟩⟩⟩⟩, ⟨⟨rfl, ⟨rfl, ⟨rfl, ⟨rfl, ⟨rfl, ⟨trivial, trivial⟩⟩⟩⟩⟩⟩, trivial⟩⟩⟩) rfl rfl (opv_load1 ti23 rfl (.lp _ _ _ rfl) rfl) ?_
        refine emv rfl rfl (fun _ => opv_mv rfl) ?_
        refine ev (sees_all (md := [.box a0, .box [.raw (.slice none 0 0), .raw (.slice none 0 0), .i .i64 0], .box [.ls 3 s3.2.1.length, .ls 4 s3.2.2.length, .i .i64 a0.Ts], .arr 26 1 0 (s3.2.1.flatMap (eL eU8)), .arr 79 1 0 (s3.2.2.flatMap eGR07Chain), .dead]) ⟨⟨rfl, ⟨rfl, ⟨rfl, ⟨rfl, ⟨rfl, ⟨trivial, trivial⟩⟩⟩⟩⟩⟩, ⟨⟨rfl, ⟨rfl, ⟨rfl, ⟨rfl, ⟨rfl, ⟨trivial, trivial⟩⟩⟩⟩⟩⟩, ⟨⟨rfl, ⟨rfl, ⟨rfl, ⟨rfl, ⟨rfl, ⟨trivial, trivial⟩⟩⟩⟩⟩⟩, trivial⟩⟩⟩) rfl rfl (opv_ix (f := eGR07Chain) si23 (fun _ => rfl) rfl rfl rfl rfl hu4) ?_
        refine ev (sees_all (md := [.box a0, .box [.raw (.slice none 0 0), .raw (.slice none 0 0), .i .i64 0], .box [.ls 3 s3.2.1.length, .ls 4 s3.2.2.length, .i .i64 a0.Ts], .arr 26 1 0 (s3.2.1.flatMap (eL eU8)), .arr 79 1 0 (s3.2.2.flatMap eGR07Chain), .dead]) ⟨⟨rfl, ⟨rfl, ⟨rfl, ⟨rfl, ⟨rfl, ⟨trivial, trivial⟩⟩⟩⟩⟩⟩, ⟨⟨rfl, ⟨rfl, ⟨rfl, ⟨rfl, ⟨rfl, ⟨trivial, trivial⟩⟩⟩⟩⟩⟩, ⟨⟨rfl, ⟨rfl, ⟨rfl, ⟨rfl, ⟨rfl, ⟨trivial, trivial⟩⟩⟩⟩⟩⟩, trivial⟩⟩⟩) rfl rfl (opv_loadNe (ys := [.sl u4.L.length (u4.L.flatMap eGR07Ver)]) ti79 rfl (.cp _) rfl rfl) ?_
        refine emv rfl rfl (fun _ => opv_mv rfl) ?_
        refine ev (sees_all (md := [.box a0, .box [.raw (.slice none 0 0), .raw (.slice none 0 0), .i .i64 0], .box [.ls 3 s3.2.1.length, .ls 4 s3.2.2.length, .i .i64 a0.Ts], .arr 26 1 0 (s3.2.1.flatMap (eL eU8)), .arr 79 1 0 (s3.2.2.flatMap eGR07Chain), .dead]) ⟨⟨rfl, ⟨rfl, ⟨rfl, ⟨rfl, ⟨rfl, ⟨trivial, trivial⟩⟩⟩⟩⟩⟩, ⟨⟨rfl, ⟨rfl, ⟨rfl, ⟨rfl, ⟨rfl, ⟨trivial, trivial⟩⟩⟩⟩⟩⟩, ⟨⟨rfl, ⟨rfl, ⟨rfl, ⟨rfl, ⟨rfl, ⟨trivial, trivial⟩⟩⟩⟩⟩⟩, trivial⟩⟩⟩) rfl rfl (opv_fieldAddr_lp fi25_2 rfl) ?_
        refine ev (sees_all (md := [.box a0, .box [.raw (.slice none 0 0), .raw (.slice none 0 0), .i .i64 0], .box [.ls 3 s3.2.1.length, .ls 4 s3.2.2.length, .i .i64 a0.Ts], .arr 26 1 0 (s3.2.1.flatMap (eL eU8)), .arr 79 1 0 (s3.2.2.flatMap eGR07Chain), .dead]) ⟨⟨rfl, ⟨rfl, ⟨rfl, ⟨rfl, ⟨rfl, ⟨trivial, trivial⟩⟩⟩⟩⟩⟩, ⟨⟨rfl, ⟨rfl, ⟨rfl, ⟨rfl, ⟨rfl, ⟨trivial, trivial⟩⟩⟩⟩⟩⟩, ⟨⟨rfl, ⟨rfl, ⟨rfl, ⟨rfl, ⟨rfl, ⟨trivial, trivial⟩⟩⟩⟩⟩⟩, trivial⟩⟩⟩) rfl rfl (opv_load1 ti3 rfl (.lp _ _ _ rfl) rfl) ?_
        refine ev (sees_all (md := [.box a0, .box [.raw (.slice none 0 0), .raw (.slice none 0 0), .i .i64 0], .box [.ls 3 s3.2.1.length, .ls 4 s3.2.2.length, .i .i64 a0.Ts], .arr 26 1 0 (s3.2.1.flatMap (eL eU8)), .arr 79 1 0 (s3.2.2.flatMap eGR07Chain), .dead]) ⟨⟨rfl, ⟨rfl, ⟨rfl, ⟨rfl, ⟨rfl, ⟨trivial, trivial⟩⟩⟩⟩⟩⟩, ⟨⟨rfl, ⟨rfl, ⟨rfl, ⟨rfl, ⟨rfl, ⟨trivial, trivial⟩⟩⟩⟩⟩⟩, ⟨⟨rfl, ⟨rfl, ⟨rfl, ⟨rfl, ⟨rfl, ⟨trivial, trivial⟩⟩⟩⟩⟩⟩, trivial⟩⟩⟩) rfl rfl (opv_min rfl rfl) ?_
        refine ed (sees_all (md := [.box a0, .box [.raw (.slice none 0 0), .raw (.slice none 0 0), .i .i64 0], .box [.ls 3 s3.2.1.length, .ls 4 s3.2.2.length, .i .i64 a0.Ts], .arr 26 1 0 (s3.2.1.flatMap (eL eU8)), .arr 79 1 0 (s3.2.2.flatMap eGR07Chain), .dead]) ⟨⟨rfl, ⟨rfl, ⟨rfl, ⟨rfl, ⟨rfl, ⟨trivial, trivial⟩⟩⟩⟩⟩⟩, ⟨⟨rfl, ⟨rfl, ⟨rfl, ⟨rfl, ⟨rfl, ⟨trivial, trivial⟩⟩⟩⟩⟩⟩, ⟨⟨rfl, ⟨rfl, ⟨rfl, ⟨rfl, ⟨rfl, ⟨trivial, trivial⟩⟩⟩⟩⟩⟩, trivial⟩⟩⟩) rfl rfl (opD_call fn59 (opnds_cons rfl (opnds_cons rfl opnds_nil)) rfl (m59_r07_Vacuum_c hv5)) ?_
        refine ee (x := .s (.one (.lp 5 0))) 0 rfl rfl rfl rfl rfl (fun ζ => ?_) ?_
        · refine salloc_at 5 rfl zi79 rfl ?_
          exact eend
        refine ee0 1 rfl rfl rfl rfl (fun ζ => ?_) ?_
        · refine sstore sz79 rfl rfl rfl rfl (Nat.le_of_ble_eq_true rfl) ?_
          refine smem [.box a0, .box [.raw (.slice none 0 0), .raw (.slice none 0 0), .i .i64 0], .box [.ls 3 s3.2.1.length, .ls 4 s3.2.2.length, .i .i64 a0.Ts], .arr 26 1 0 (s3.2.1.flatMap (eL eU8)), .arr 79 1 0 (s3.2.2.flatMap eGR07Chain), .box [.sl v5.L.length (v5.L.flatMap eGR07Ver)]] rfl ?_
          exact eend
        refine enil ?_
        refine then_normal ?_
        refine cseq ?_
        refine cregion ?_
        refine sv rfl (opv_fieldAddr_lp fi79_0 rfl) ?_
        refine sv rfl (opv_load1 ti77 rfl (.lp _ _ _ rfl) rfl) ?_
        refine sv rfl (opv_len_sl si77 rfl) ?_
        refine sv rfl (opv_gtr rfl rfl) ?_
        refine snil ?_
        refine ccond rfl (fun hc => ?_) (fun hc => ?_)
        · replace h := ite_t hc h
          clear hc
          refine cseq ?_
          obtain ⟨u6, hu6, h⟩ := bind_eq h
          obtain ⟨hb7, h⟩ := chk_eq h
          refine cdraw_e [8, 10] [0, 1, 0, 4, 0, 28, 60, 124, 255, 511, 1023] [[.box a0, .box [.raw (.slice none 0 0), .raw (.slice none 0 0), .i .i64 0], .box [.ls 3 s3.2.1.length, .ls 4 s3.2.2.length, .i .i64 a0.Ts], .arr 26 1 0 (s3.2.1.flatMap (eL eU8)), .arr 79 1 0 (s3.2.2.flatMap eGR07Chain), .box [.sl v5.L.length (v5.L.flatMap eGR07Ver)]], [.box a0, .box [.raw (.slice none 0 0), .raw (.slice none 0 0), .i .i64 0], .box [.ls 3 s3.2.1.length, .ls 4 s3.2.2.length, .i .i64 a0.Ts], .arr 26 1 0 ((s3.2.1 ++ ([u6] : List (List UInt8))).flatMap (eL eU8)), .arr 79 1 0 (s3.2.2.flatMap eGR07Chain), .box [.sl v5.L.length (v5.L.flatMap eGR07Ver)]], [.box a0, .box [.raw (.slice none 0 0), .raw (.slice none 0 0), .i .i64 0], .box [.ls 3 (s3.2.1 ++ ([u6] : List (List UInt8))).length, .ls 4 s3.2.2.length, .i .i64 a0.Ts], .arr 26 1 0 ((s3.2.1 ++ ([u6] : List (List UInt8))).flatMap (eL eU8)), .arr 79 1 0 (s3.2.2.flatMap eGR07Chain), .box [.sl v5.L.length (v5.L.flatMap eGR07Ver)]]] (by kernel_rfl) mixed (by kernel_rfl) (by decide) rfl rfl rfl rfl ?_
          refine ev (sees_at 0 rfl rfl) rfl rfl (opv_fieldAddr_lp fi25_0 rfl) ?_
          refine ev (sees_at 0 rfl rfl) rfl rfl (opv_load1 ti22 rfl (.lp _ _ _ rfl) rfl) ?_
          refine ev (sees_at 0 rfl rfl) rfl rfl (opv_fieldAddr_lp fi25_0 rfl) ?_
          refine ev (sees_at 0 rfl rfl) rfl rfl (opv_load1 ti22 rfl (.lp _ _ _ rfl) rfl) ?_
          refine ev (sees_at 0 rfl rfl) rfl rfl (opv_mv rfl) ?_
          refine ev (sees_at 0 rfl rfl) rfl rfl (opv_ix (f := (eL eU8)) si22 (fun _ => rfl) rfl rfl rfl rfl hu6) ?_
          refine ev (sees_at 0 rfl rfl) rfl rfl (opv_load1 ti26 rfl (.cp _) rfl) ?_
          refine ed (sees_at 0 rfl rfl) rfl rfl (opD_bld (out := ([u6] : List (List UInt8)).flatMap (eL eU8)) Try.underlying22 ei26 (parts_cons rfl parts_nil) (.cons _ _ _ _ _ _ _ rfl rfl (Nat.le_of_ble_eq_true rfl) (.nil _)) rfl (by decide)) ?_
          refine ee (x := .s (.one (.ls 3 (s3.2.1 ++ ([u6] : List (List UInt8))).length))) 0 rfl rfl rfl rfl rfl (fun ζ => ?_) ?_
          · refine sapp (f := (eL eU8)) (xs := s3.2.1) (us := ([u6] : List (List UInt8))) rfl Try.underlying22 ei26 ni22 (fun _ => rfl) rfl rfl (.one _ _ _ _ (.id _ rfl)) rfl rfl rfl (.sl _ _ _ (flat_len (f := (eL eU8)) (fun _ => rfl) _)) rfl rfl hb7 (by decide) ?_
            exact eend
          refine ev (sees_at 1 rfl rfl) rfl rfl (opv_fieldAddr_lp fi25_0 rfl) ?_
          refine ee0 1 rfl rfl rfl rfl (fun ζ => ?_) ?_
          · refine sstore sz22 rfl rfl rfl rfl (Nat.le_of_ble_eq_true rfl) ?_
            refine smem [.box a0, .box [.raw (.slice none 0 0), .raw (.slice none 0 0), .i .i64 0], .box [.ls 3 (s3.2.1 ++ ([u6] : List (List UInt8))).length, .ls 4 s3.2.2.length, .i .i64 a0.Ts], .arr 26 1 0 ((s3.2.1 ++ ([u6] : List (List UInt8))).flatMap (eL eU8)), .arr 79 1 0 (s3.2.2.flatMap eGR07Chain), .box [.sl v5.L.length (v5.L.flatMap eGR07Ver)]] rfl ?_
            exact eend
          refine enil ?_
          refine then_normal ?_
          refine cregion ?_
          refine sv rfl (opv_fieldAddr_lp fi25_1 rfl) ?_
          refine sv rfl (opv_load1 ti23 rfl (.lp _ _ _ rfl) rfl) ?_
          refine sv rfl (opv_loadN ti79 rfl (.lp _ _ _ rfl) (Nat.le_of_ble_eq_true rfl)) ?_
          refine sbuild1 rfl Try.underlying23 ei79 rfl rfl (List.all_eq_true.1 rfl) (by decide) ?_
          refine smem [.box a0, .box [.raw (.slice none 0 0), .raw (.slice none 0 0), .i .i64 0], .box [.ls 3 (s3.2.1 ++ ([u6] : List (List UInt8))).length, .ls 4 s3.2.2.length, .i .i64 a0.Ts], .arr 26 1 0 ((s3.2.1 ++ ([u6] : List (List UInt8))).flatMap (eL eU8)), .arr 79 1 0 (s3.2.2.flatMap eGR07Chain), .box [.sl v5.L.length (v5.L.flatMap eGR07Ver)], .arr 79 1 0 ([v5].flatMap eGR07Chain)] rfl ?_
          obtain ⟨hb8, h⟩ := chk_eq h
          refine sapp (f := eGR07Chain) (xs := s3.2.2) (us := [v5]) rfl Try.underlying23 ei79 ni23 (fun _ => rfl) rfl rfl (.one _ _ _ _ (.ls _ _ _ _ _ _ rfl (flat_len (f := eGR07Chain) (fun _ => rfl) [v5]).symm)) rfl rfl rfl (.sl _ _ _ (flat_len (f := eGR07Chain) (fun _ => rfl) _)) rfl rfl hb8 (by decide) ?_
          refine sv rfl (opv_fieldAddr_lp fi25_1 rfl) ?_
          refine sstore sz23 rfl rfl rfl rfl (Nat.le_of_ble_eq_true rfl) ?_
          refine smem [.box a0, .box [.raw (.slice none 0 0), .raw (.slice none 0 0), .i .i64 0], .box [.ls 3 (s3.2.1 ++ ([u6] : List (List UInt8))).length, .ls 4 (s3.2.2 ++ [v5]).length, .i .i64 a0.Ts], .arr 26 1 0 ((s3.2.1 ++ ([u6] : List (List UInt8))).flatMap (eL eU8)), .arr 79 1 0 ((s3.2.2 ++ [v5]).flatMap eGR07Chain), .box [.sl v5.L.length (v5.L.flatMap eGR07Ver)], .arr 79 1 ([v5].flatMap eGR07Chain).length ([v5].flatMap eGR07Chain)] rfl ?_
          refine snil0 ?_
          refine block_normal ?_
          refine then_normal ?_
          refine cregion ?_
          refine sv rfl (opv_mv rfl) ?_
          refine sv rfl (opv_add rfl rfl) ?_
          refine sv rfl (opv_as rfl) ?_
          refine snil ?_
          obtain rfl := Option.some.inj h
          exact ⟨(n3, ((wI (s3.1 + 1)), (s3.2.1 ++ ([u6] : List (List UInt8))), (s3.2.2 ++ [v5]))), _, hk3, ⟨rfl, rfl, rfl, rfl, rfl, trivial⟩, rfl, Nat.lt_succ_self _⟩
        · replace h := ite_f hc h
          clear hc
          refine cskip ?_
          refine block_normal ?_
          refine then_normal ?_
          refine cregion ?_
          refine sv rfl (opv_mv rfl) ?_
          refine sv rfl (opv_add rfl rfl) ?_
          refine sv rfl (opv_as rfl) ?_
          refine snil ?_
          obtain rfl := Option.some.inj h
          exact ⟨(n3, ((wI (s3.1 + 1)), s3.2.1, s3.2.2)), _, hk3, ⟨rfl, rfl, rfl, rfl, rfl, trivial⟩, rfl, Nat.lt_succ_self _⟩
      · replace h := ite_f hc h
        clear hc
        refine cexit ?_
        refine then_exit ?_
        refine then_exit ?_
        refine block_hit ?_
        refine then_normal ?_
        obtain rfl := Option.some.inj h
        obtain rfl : _ = x3 := hk3
        exact ⟨(s3.2.1, s3.2.2), _, ho3, ⟨rfl, rfl, trivial⟩, rfl⟩

def m27_store_Wrote (a0 : GStoreStore) (a1 : List UInt8) (a2 : Int) : Option Bool :=
  (m38_keys_Find a0.Keys a1).bind fun v1 => if v1.2 then ((m23_store_Sane a0).bind fun v2 => if v2 then ((idx a0.Chains v1.1).bind fun u3 => (m53_chain_Last u3).bind fun v4 => some (decide (a2 < v4))) else (some false)) else (some false)

set_option maxRecDepth 100000 in
theorem m27_store_Wrote_c {a0 : GStoreStore} {a1 : List UInt8} {a2 : Int} {r : Bool} (h : m27_store_Wrote a0 a1 a2 = some r) : CallsA Try.prog 27 [.agg a0, .one (.sl a1.length (a1.flatMap eU8)), .one (.i .i64 a2)] (· = .s (.one (.b r))) := by
  unfold m27_store_Wrote at h
  refine callsA_of Try.func27 rfl (nt := 31) rfl (Nat.le_of_ble_eq_true rfl) ?_
  intro w0 S0
  refine cseq ?_
  refine cregion ?_
  refine sbox rfl rfl ?_
  refine sv rfl (opv_as rfl) ?_
  refine snil ?_
  refine cseq ?_
  refine cregion ?_
  refine sv rfl (opv_fieldAddr_lp fi36_0 rfl) ?_
  refine sv rfl (opv_load1 ti22 rfl (.lp _ _ _ rfl) rfl) ?_
  refine sv rfl (opv_mv rfl) ?_
  obtain ⟨v1, hv1, h⟩ := bind_eq h
  refine scall1 rfl fn38 (opnds_cons rfl (opnds_cons rfl opnds_nil)) (pubA_id rfl) (m38_keys_Find_c hv1) ?_
  refine sv rfl (opv_mvt rfl) ?_
  refine sv rfl (opv_extract rfl rfl) ?_
  refine sv rfl (opv_extract rfl rfl) ?_
  refine sv rfl (opv_as rfl) ?_
  refine sv rfl (opv_as rfl) ?_
  refine snil ?_
  refine cseq ?_
  refine cregion ?_
  refine sv rfl (opv_mv rfl) ?_
  refine sv rfl (opv_mv rfl) ?_
  refine ssplit 17 rfl (fun hc => ?_) (fun hc => ?_)
  · replace h := ite_t hc h
    clear hc
    refine son rfl rfl rfl ?_
    refine sv rfl (opv_loadN ti36 rfl (.lp _ _ _ rfl) (Nat.le_of_ble_eq_true rfl)) ?_
    refine son rfl rfl rfl ?_
    obtain ⟨v2, hv2, h⟩ := bind_eq h
    refine scall1 rfl fn23 (opnds_cons rfl opnds_nil) (pubA_id rfl) (m23_store_Sane_c hv2) ?_
    refine sv rfl (opv_pick_t rfl rfl) ?_
    refine sv rfl (opv_mv rfl) ?_
    refine ssplit 21 rfl (fun hc => ?_) (fun hc => ?_)
    · replace h := ite_t hc h
      clear hc
      refine son rfl rfl rfl ?_
      refine sv rfl (opv_fieldAddr_lp fi36_1 rfl) ?_
      refine son rfl rfl rfl ?_
      refine sv rfl (opv_load1 ti34 rfl (.lp _ _ _ rfl) rfl) ?_
      refine son rfl rfl rfl ?_
      refine sv rfl (opv_mv rfl) ?_
      refine son rfl rfl rfl ?_
      obtain ⟨u3, hu3, h⟩ := bind_eq h
      refine sv rfl (opv_ix (f := eGChainChain) si34 (fun _ => rfl) rfl rfl rfl rfl hu3) ?_
      refine son rfl rfl rfl ?_
      refine sv rfl (opv_loadNe (ys := [.sl u3.L.length (u3.L.flatMap eGChainVer)]) ti82 rfl (.cp _) rfl rfl) ?_
      refine son rfl rfl rfl ?_
      obtain ⟨v4, hv4, h⟩ := bind_eq h
      refine scall1 rfl fn53 (opnds_cons rfl opnds_nil) (pubA_id rfl) (m53_chain_Last_c hv4) ?_
      refine son rfl rfl rfl ?_
      refine sv rfl (opv_mv rfl) ?_
      refine son rfl rfl rfl ?_
      refine sv rfl (opv_gtr rfl rfl) ?_
      refine sv rfl (opv_pick_t rfl rfl) ?_
      refine sv rfl (opv_as rfl) ?_
      refine snil ?_
      refine cret ?_
      obtain rfl := Option.some.inj h
      refine ⟨Or.inr rfl, _, _, _, (resVs_cons (ResV.tmp _ _ rfl) resVs_nil), (pubA_id rfl), ?_⟩
      rfl
    · replace h := ite_f hc h
      clear hc
      refine soff rfl rfl rfl rfl ?_
      refine soff rfl rfl rfl rfl ?_
      refine soff rfl rfl rfl rfl ?_
      refine soff rfl rfl rfl rfl ?_
      refine soff rfl rfl rfl rfl ?_
      refine soff rfl rfl rfl rfl ?_
      refine soff rfl rfl rfl rfl ?_
      refine soff rfl rfl rfl rfl ?_
      refine sv rfl (opv_pick_f rfl rfl) ?_
      refine sv rfl (opv_as rfl) ?_
      refine snil ?_
      refine cret ?_
      obtain rfl := Option.some.inj h
      refine ⟨Or.inr rfl, _, _, _, (resVs_cons (ResV.tmp _ _ rfl) resVs_nil), (pubA_id rfl), ?_⟩
      rfl
  · replace h := ite_f hc h
    clear hc
    refine soff rfl rfl rfl rfl ?_
    refine soff rfl rfl rfl rfl ?_
    refine sv rfl (opv_pick_f rfl rfl) ?_
    refine sv rfl (opv_mv rfl) ?_
    refine soff rfl rfl rfl rfl ?_
    refine soff rfl rfl rfl rfl ?_
    refine soff rfl rfl rfl rfl ?_
    refine soff rfl rfl rfl rfl ?_
    refine soff rfl rfl rfl rfl ?_
    refine soff rfl rfl rfl rfl ?_
    refine soff rfl rfl rfl rfl ?_
    refine soff rfl rfl rfl rfl ?_
    refine sv rfl (opv_pick_f rfl rfl) ?_
    refine sv rfl (opv_as rfl) ?_
    refine snil ?_
    refine cret ?_
    obtain rfl := Option.some.inj h
    refine ⟨Or.inr rfl, _, _, _, (resVs_cons (ResV.tmp _ _ rfl) resVs_nil), (pubA_id rfl), ?_⟩
    rfl

def m28_r08_Wrote (a0 : GR08Store) (a1 : List UInt8) (a2 : Int) : Option Bool :=
  (m41_r08_Chain a0 a1).bind fun v1 => if (decide (0 < (v1.L.length : Int))) then ((m57_r07_Last v1).bind fun v2 => some (decide (a2 < v2))) else (some false)

set_option maxRecDepth 100000 in
theorem m28_r08_Wrote_c {a0 : GR08Store} {a1 : List UInt8} {a2 : Int} {r : Bool} (h : m28_r08_Wrote a0 a1 a2 = some r) : CallsA Try.prog 28 [.agg a0, .one (.sl a1.length (a1.flatMap eU8)), .one (.i .i64 a2)] (· = .s (.one (.b r))) := by
  unfold m28_r08_Wrote at h
  refine callsA_of Try.func28 rfl (nt := 21) rfl (Nat.le_of_ble_eq_true rfl) ?_
  intro w0 S0
  refine cseq ?_
  refine cregion ?_
  refine sbox rfl rfl ?_
  refine sv rfl (opv_as rfl) ?_
  refine snil ?_
  refine cseq ?_
  refine cregion ?_
  refine sv rfl (opv_loadN ti25 rfl (.lp _ _ _ rfl) (Nat.le_of_ble_eq_true rfl)) ?_
  refine sv rfl (opv_mv rfl) ?_
  obtain ⟨v1, hv1, h⟩ := bind_eq h
  refine scall1 rfl fn41 (opnds_cons rfl (opnds_cons rfl opnds_nil)) (pubA_id rfl) (m41_r08_Chain_c hv1) ?_
  refine salloc rfl zi79 ?_
  refine sstore sz79 rfl rfl rfl rfl (Nat.le_of_ble_eq_true rfl) ?_
  refine smem [.box a0, .box [.sl v1.L.length (v1.L.flatMap eGR07Ver)]] rfl ?_
  refine snil ?_
  refine cseq ?_
  refine cregion ?_
  refine sv rfl (opv_fieldAddr_lp fi79_0 rfl) ?_
  refine sv rfl (opv_load1 ti77 rfl (.lp _ _ _ rfl) rfl) ?_
  refine sv rfl (opv_len_sl si77 rfl) ?_
  refine sv rfl (opv_gtr rfl rfl) ?_
  refine sv rfl (opv_mv rfl) ?_
  refine ssplit 15 rfl (fun hc => ?_) (fun hc => ?_)
  · replace h := ite_t hc h
    clear hc
    refine son rfl rfl rfl ?_
    refine sv rfl (opv_loadN ti79 rfl (.lp _ _ _ rfl) (Nat.le_of_ble_eq_true rfl)) ?_
    refine son rfl rfl rfl ?_
    obtain ⟨v2, hv2, h⟩ := bind_eq h
    refine scall1 rfl fn57 (opnds_cons rfl opnds_nil) (pubA_id rfl) (m57_r07_Last_c hv2) ?_
    refine son rfl rfl rfl ?_
    refine sv rfl (opv_mv rfl) ?_
    refine son rfl rfl rfl ?_
    refine sv rfl (opv_gtr rfl rfl) ?_
    refine sv rfl (opv_pick_t rfl rfl) ?_
    refine sv rfl (opv_as rfl) ?_
    refine snil ?_
    refine cret ?_
    obtain rfl := Option.some.inj h
    refine ⟨Or.inr rfl, _, _, _, (resVs_cons (ResV.tmp _ _ rfl) resVs_nil), (pubA_id rfl), ?_⟩
    rfl
  · replace h := ite_f hc h
    clear hc
    refine soff rfl rfl rfl rfl ?_
    refine soff rfl rfl rfl rfl ?_
    refine soff rfl rfl rfl rfl ?_
    refine soff rfl rfl rfl rfl ?_
    refine sv rfl (opv_pick_f rfl rfl) ?_
    refine sv rfl (opv_as rfl) ?_
    refine snil ?_
    refine cret ?_
    obtain rfl := Option.some.inj h
    refine ⟨Or.inr rfl, _, _, _, (resVs_cons (ResV.tmp _ _ rfl) resVs_nil), (pubA_id rfl), ?_⟩
    rfl

def m30_store_Changed_k2 (b2 : (List (List UInt8))) : Option (List (List UInt8)) :=
  some b2

def m30_store_Changed_s3 (a0 : GStoreStore) (a1 : GApiRange) (a2 : Int) (s3 : Int × (List (List UInt8))) : Option (LB (Int × (List (List UInt8))) ((List (List UInt8)))) :=
  if (decide (s3.1 < (a0.Keys.length : Int))) then ((idx a0.Keys s3.1).bind fun u4 => (m50_keys_Has a1 u4).bind fun v5 => if v5 then ((idx a0.Chains s3.1).bind fun u6 => (m53_chain_Last u6).bind fun v7 => if (decide (a2 < v7)) then (if (s3.2.length + [u4].length) * 24 ≤ 140737488355328 then (some (.cont ((wI (s3.1 + 1)), (s3.2 ++ [u4])))) else none) else (some (.cont ((wI (s3.1 + 1)), s3.2)))) else (some (.cont ((wI (s3.1 + 1)), s3.2)))) else (some (.brk s3.2))
def m30_store_Changed (a0 : GStoreStore) (a1 : GApiRange) (a2 : Int) : Option (List (List UInt8)) :=
  (m23_store_Sane a0).bind fun v1 => if (!v1) then (some ([] : List (List UInt8))) else ((iterB (m30_store_Changed_s3 a0 a1 a2) fuel (0, ([] : List (List UInt8)))).bind fun e9 => m30_store_Changed_k2 e9)

set_option maxRecDepth 100000 in
theorem m30_store_Changed_c {a0 : GStoreStore} {a1 : GApiRange} {a2 : Int} {r : (List (List UInt8))} (h : m30_store_Changed a0 a1 a2 = some r) : CallsA Try.prog 30 [.agg a0, .agg a1, .one (.i .i64 a2)] (· = .s (.one (.sl r.length (r.flatMap (eL eU8))))) := by
  unfold m30_store_Changed at h
  refine callsA_of Try.func30 rfl (nt := 40) rfl (Nat.le_of_ble_eq_true rfl) ?_
  intro w0 S0
  refine cseq ?_
  refine cregion ?_
  refine sbox rfl rfl ?_
  refine sbox rfl rfl ?_
  refine sv rfl (opv_as rfl) ?_
  refine snil ?_
  refine cseq ?_
  refine cseq ?_
  refine cregion ?_
  refine sv rfl (opv_loadN ti36 rfl (.lp _ _ _ rfl) (Nat.le_of_ble_eq_true rfl)) ?_
  obtain ⟨v1, hv1, h⟩ := bind_eq h
  refine scall1 rfl fn23 (opnds_cons rfl opnds_nil) (pubA_id rfl) (m23_store_Sane_c hv1) ?_
  refine sv rfl (opv_not rfl) ?_
  refine snil ?_
  refine ccond rfl (fun hc => ?_) (fun hc => ?_)
  · replace h := ite_t hc h
    clear hc
    refine cseq ?_
    refine cregion ?_
    refine sv rfl (opv_as rfl) ?_
    refine snil ?_
    refine cret ?_
    refine then_ret ?_
    obtain rfl := Option.some.inj h
    refine ⟨Or.inr rfl, _, _, _, (resVs_cons (ResV.tmp _ _ rfl) resVs_nil), (pubC rfl), ?_⟩
    rfl
  · replace h := ite_f hc h
    clear hc
    refine cskip ?_
    refine then_normal ?_
    refine cseq ?_
    refine cregion ?_
    refine sv rfl (opv_as rfl) ?_
    refine snil ?_
    refine cseq ?_
    refine cseq ?_
    refine cregion ?_
    refine sv rfl (opv_fieldAddr_lp fi36_0 rfl) ?_
    refine sv rfl (opv_load1 ti22 rfl (.lp _ _ _ rfl) rfl) ?_
    refine sv rfl (opv_len_sl si22 rfl) ?_
    refine sv rfl (opv_mv rfl) ?_
    refine snil ?_
    refine sadopt_c 26 1 7 (by decide) rfl ?_
    refine cjoin ((List (List UInt8))) (fun b2 => [(7, .s (.one (.ls 2 b2.length)))]) (fun b2 => [.box a0, .box a1, .arr 26 1 0 (b2.flatMap (eL eU8))]) (fun b2 => m30_store_Changed_k2 b2 = some r) (fun _ _ => inbL_of rfl) (fun _ _ => blkinb_of rfl) (fun _ _ => Nat.le_of_ble_eq_true rfl) (fun b2 h => ?_) ?_
    · unfold m30_store_Changed_k2 at h
      refine cseq ?_
      refine cregion ?_
      refine sv rfl (opv_mv rfl) ?_
      refine sv rfl (opv_as rfl) ?_
      refine snil ?_
      refine cret ?_
      obtain rfl := Option.some.inj h
      refine ⟨Or.inr rfl, _, _, _, (resVs_cons (ResV.tmp _ _ rfl) resVs_nil), (by (repeat' first | exact PubA.nil _ | apply PubA.cons | apply PubV.one | apply PubV.agg | exact PubL.nil | exact PubL.ls _ _ _ _ _ _ rfl (flat_len (f := (eL eU8)) (fun _ => rfl) _).symm | exact PubL.id _ rfl | exact PubLs.nil _ | apply PubLs.cons)), ?_⟩
      rfl
    · skip
      refine cblock ?_
      obtain ⟨x3, hx3, ho3⟩ := bind_eq h
      refine awc_loop (G := Nat × (Int × (List (List UInt8)))) (fun g => [(2, .s (.one (.i .i64 a2))), (3, .s (.one (.lp 0 0))), (4, .s (.one (.lp 1 0))), (7, .s (.one (.ls 2 g.2.2.length))), (14, .s (.one (.sl a0.Keys.length (a0.Keys.flatMap (eL eU8))))), (15, .s (.one (.i .i64 (a0.Keys.length : Int)))), (16, .s (.one (.i .i64 g.2.1)))]) (fun g => [.box a0, .box a1, .arr 26 1 0 (g.2.2.flatMap (eL eU8))]) (fun g => iterB (m30_store_Changed_s3 a0 a1 a2) g.1 g.2 = some x3) (fun g => g.1) (fuel, (0, ([] : List (List UInt8)))) hx3 ⟨rfl, rfl, rfl, rfl, rfl, rfl, rfl, trivial⟩ [] rfl (fun _ _ => inbL_of rfl) (fun _ _ => blkinb_of rfl) (fun _ _ => Nat.le_of_ble_eq_true rfl) ?_
      clear hx3 h
      rintro ⟨n3, s3⟩ h
      obtain ⟨n3, y3, rfl, h, hk3⟩ := iterB_eq h
      unfold m30_store_Changed_s3 at h
      refine cseq ?_
      refine cregion ?_
      refine sv rfl (opv_lss rfl rfl) ?_
      refine snil ?_
      refine cseq ?_
      refine ccond rfl (fun hc => ?_) (fun hc => ?_)
      · replace h := ite_t hc h
        clear hc
        refine cskip ?_
        refine then_normal ?_
        refine cseq ?_
        refine cblock ?_
        refine cseq ?_
        refine cregion ?_
        refine sv rfl (opv_mv rfl) ?_
        obtain ⟨u4, hu4, h⟩ := bind_eq h
        refine sv rfl (opv_ix (f := (eL eU8)) si22 (fun _ => rfl) rfl rfl rfl rfl hu4) ?_
        refine sv rfl (opv_load1 ti26 rfl (.cp _) rfl) ?_
        refine sv rfl (opv_as rfl) ?_
        refine sv rfl (opv_as rfl) ?_
        refine snil ?_
        refine cseq ?_
        refine cregion ?_
        refine sv rfl (opv_loadN ti28 rfl (.lp _ _ _ rfl) (Nat.le_of_ble_eq_true rfl)) ?_
        refine sv rfl (opv_mv rfl) ?_
        obtain ⟨v5, hv5, h⟩ := bind_eq h
        refine scall1 rfl fn50 (opnds_cons rfl (opnds_cons rfl opnds_nil)) (pubA_id rfl) (m50_keys_Has_c hv5) ?_
        refine sv rfl (opv_mv rfl) ?_
        refine ssplit 24 rfl (fun hc => ?_) (fun hc => ?_)
        · replace h := ite_t hc h
          clear hc
          refine son rfl rfl rfl ?_
          refine sv rfl (opv_fieldAddr_lp fi36_1 rfl) ?_
          refine son rfl rfl rfl ?_
          refine sv rfl (opv_load1 ti34 rfl (.lp _ _ _ rfl) rfl) ?_
          refine son rfl rfl rfl ?_
          refine sv rfl (opv_mv rfl) ?_
          refine son rfl rfl rfl ?_
          obtain ⟨u6, hu6, h⟩ := bind_eq h
          refine sv rfl (opv_ix (f := eGChainChain) si34 (fun _ => rfl) rfl rfl rfl rfl hu6) ?_
          refine son rfl rfl rfl ?_
          refine sv rfl (opv_loadNe (ys := [.sl u6.L.length (u6.L.flatMap eGChainVer)]) ti82 rfl (.cp _) rfl rfl) ?_
          refine son rfl rfl rfl ?_
          obtain ⟨v7, hv7, h⟩ := bind_eq h
          refine scall1 rfl fn53 (opnds_cons rfl opnds_nil) (pubA_id rfl) (m53_chain_Last_c hv7) ?_
          refine son rfl rfl rfl ?_
          refine sv rfl (opv_mv rfl) ?_
          refine son rfl rfl rfl ?_
          refine sv rfl (opv_gtr rfl rfl) ?_
          refine sv rfl (opv_pick_t rfl rfl) ?_
          refine snil ?_
          refine ccond rfl (fun hc => ?_) (fun hc => ?_)
          · replace h := ite_t hc h
            clear hc
            refine cregion ?_
            refine sv rfl (opv_mv rfl) ?_
            refine sv rfl (opv_mv rfl) ?_
            refine sbuild1 rfl Try.underlying22 ei26 rfl rfl (List.all_eq_true.1 rfl) (by decide) ?_
            refine smem [.box a0, .box a1, .arr 26 1 0 (s3.2.flatMap (eL eU8)), .arr 26 1 0 ([u4].flatMap (eL eU8))] rfl ?_
            obtain ⟨hb8, h⟩ := chk_eq h
            refine sapp (f := (eL eU8)) (xs := s3.2) (us := [u4]) rfl Try.underlying22 ei26 ni22 (fun _ => rfl) rfl rfl (.one _ _ _ _ (.ls _ _ _ _ _ _ rfl (flat_len (f := (eL eU8)) (fun _ => rfl) [u4]).symm)) rfl rfl rfl (.sl _ _ _ (flat_len (f := (eL eU8)) (fun _ => rfl) _)) rfl rfl hb8 (by decide) ?_
            refine sv rfl (opv_as rfl) ?_
            refine snil0 ?_
            refine block_normal ?_
            refine then_normal ?_
            refine cregion ?_
            refine sv rfl (opv_add rfl rfl) ?_
            refine sv rfl (opv_mv rfl) ?_
            refine snil ?_
            obtain rfl := Option.some.inj h
            exact ⟨(n3, ((wI (s3.1 + 1)), (s3.2 ++ [u4]))), _, hk3, ⟨rfl, rfl, rfl, rfl, rfl, rfl, rfl, trivial⟩, rfl, Nat.lt_succ_self _⟩
          · replace h := ite_f hc h
            clear hc
            refine cskip ?_
            refine block_normal ?_
            refine then_normal ?_
            refine cregion ?_
            refine sv rfl (opv_add rfl rfl) ?_
            refine sv rfl (opv_mv rfl) ?_
            refine snil ?_
            obtain rfl := Option.some.inj h
            exact ⟨(n3, ((wI (s3.1 + 1)), s3.2)), _, hk3, ⟨rfl, rfl, rfl, rfl, rfl, rfl, rfl, trivial⟩, rfl, Nat.lt_succ_self _⟩
        · replace h := ite_f hc h
          clear hc
          refine soff rfl rfl rfl rfl ?_
          refine soff rfl rfl rfl rfl ?_
          refine soff rfl rfl rfl rfl ?_
          refine soff rfl rfl rfl rfl ?_
          refine soff rfl rfl rfl rfl ?_
          refine soff rfl rfl rfl rfl ?_
          refine soff rfl rfl rfl rfl ?_
          refine soff rfl rfl rfl rfl ?_
          refine sv rfl (opv_pick_f rfl rfl) ?_
          refine snil ?_
          refine ccond rfl (fun hx => Bool.noConfusion hx) (fun _ => ?_)
          refine cskip ?_
          refine block_normal ?_
          refine then_normal ?_
          refine cregion ?_
          refine sv rfl (opv_add rfl rfl) ?_
          refine sv rfl (opv_mv rfl) ?_
          refine snil ?_
          obtain rfl := Option.some.inj h
          exact ⟨(n3, ((wI (s3.1 + 1)), s3.2)), _, hk3, ⟨rfl, rfl, rfl, rfl, rfl, rfl, rfl, trivial⟩, rfl, Nat.lt_succ_self _⟩
      · replace h := ite_f hc h
        clear hc
        refine cexit ?_
        refine then_exit ?_
        refine then_exit ?_
        refine block_hit ?_
        refine then_normal ?_
        obtain rfl := Option.some.inj h
        obtain rfl : _ = x3 := hk3
        exact ⟨s3.2, _, ho3, ⟨rfl, trivial⟩, rfl⟩

def m31_r08_Changed_k1 (b1 : (List (List UInt8))) : Option (List (List UInt8)) :=
  some b1

def m31_r08_Changed_k3 (a0 : GR08Store) (a1 : GApiRange) (a2 : Int) (s2 : Int × (List (List UInt8))) (b3 : Unit) : Option (LB (Int × (List (List UInt8))) ((List (List UInt8)))) :=
  (idx a0.Keys s2.1).bind fun u4 => (m36_r06_Has a1 u4).bind fun v5 => if v5 then ((idx a0.Chains s2.1).bind fun u6 => (m57_r07_Last u6).bind fun v7 => if (decide (a2 < v7)) then ((idx a0.Keys s2.1).bind fun u8 => if (s2.2.length + [u8].length) * 24 ≤ 140737488355328 then (some (.cont ((wI (s2.1 + 1)), (s2.2 ++ [u8])))) else none) else (some (.cont ((wI (s2.1 + 1)), s2.2)))) else (some (.cont ((wI (s2.1 + 1)), s2.2)))

def m31_r08_Changed_s2 (a0 : GR08Store) (a1 : GApiRange) (a2 : Int) (s2 : Int × (List (List UInt8))) : Option (LB (Int × (List (List UInt8))) ((List (List UInt8)))) :=
  if (decide (s2.1 < (a0.Keys.length : Int))) then ((m24_r08_Sane a0).bind fun v10 => if v10 then (m31_r08_Changed_k3 a0 a1 a2 s2 ()) else (some (.brk s2.2))) else (some (.brk s2.2))
def m31_r08_Changed (a0 : GR08Store) (a1 : GApiRange) (a2 : Int) : Option (List (List UInt8)) :=
  (iterB (m31_r08_Changed_s2 a0 a1 a2) fuel (0, ([] : List (List UInt8)))).bind fun e11 => m31_r08_Changed_k1 e11

set_option maxRecDepth 100000 in
theorem m31_r08_Changed_c {a0 : GR08Store} {a1 : GApiRange} {a2 : Int} {r : (List (List UInt8))} (h : m31_r08_Changed a0 a1 a2 = some r) : CallsA Try.prog 31 [.agg a0, .agg a1, .one (.i .i64 a2)] (· = .s (.one (.sl r.length (r.flatMap (eL eU8))))) := by
  unfold m31_r08_Changed at h
  refine callsA_of Try.func31 rfl (nt := 46) rfl (Nat.le_of_ble_eq_true rfl) ?_
  intro w0 S0
  refine cseq ?_
  refine cregion ?_
  refine sbox rfl rfl ?_
  refine sbox rfl rfl ?_
  refine sv rfl (opv_as rfl) ?_
  refine snil ?_
  refine cseq ?_
  refine cregion ?_
  refine sv rfl (opv_as rfl) ?_
  refine snil ?_
  refine cseq ?_
  refine cseq ?_
  refine cregion ?_
  refine sv rfl (opv_as rfl) ?_
  refine snil ?_
  refine sadopt_c 26 1 7 (by decide) rfl ?_
  refine cjoin ((List (List UInt8))) (fun b1 => [(7, .s (.one (.ls 2 b1.length)))]) (fun b1 => [.box a0, .box a1, .arr 26 1 0 (b1.flatMap (eL eU8))]) (fun b1 => m31_r08_Changed_k1 b1 = some r) (fun _ _ => inbL_of rfl) (fun _ _ => blkinb_of rfl) (fun _ _ => Nat.le_of_ble_eq_true rfl) (fun b1 h => ?_) ?_
  · unfold m31_r08_Changed_k1 at h
    refine cseq ?_
    refine cregion ?_
    refine sv rfl (opv_mv rfl) ?_
    refine sv rfl (opv_as rfl) ?_
    refine snil ?_
    refine cret ?_
    obtain rfl := Option.some.inj h
    refine ⟨Or.inr rfl, _, _, _, (resVs_cons (ResV.tmp _ _ rfl) resVs_nil), (by (repeat' first | exact PubA.nil _ | apply PubA.cons | apply PubV.one | apply PubV.agg | exact PubL.nil | exact PubL.ls _ _ _ _ _ _ rfl (flat_len (f := (eL eU8)) (fun _ => rfl) _).symm | exact PubL.id _ rfl | exact PubLs.nil _ | apply PubLs.cons)), ?_⟩
    rfl
  · skip
    refine cblock ?_
    obtain ⟨x2, hx2, ho2⟩ := bind_eq h
    refine awc_loop (G := Nat × (Int × (List (List UInt8)))) (fun g => [(2, .s (.one (.i .i64 a2))), (3, .s (.one (.lp 0 0))), (4, .s (.one (.lp 1 0))), (7, .s (.one (.ls 2 g.2.2.length))), (8, .s (.one (.i .i64 g.2.1)))]) (fun g => [.box a0, .box a1, .arr 26 1 0 (g.2.2.flatMap (eL eU8))]) (fun g => iterB (m31_r08_Changed_s2 a0 a1 a2) g.1 g.2 = some x2) (fun g => g.1) (fuel, (0, ([] : List (List UInt8)))) hx2 ⟨rfl, rfl, rfl, rfl, rfl, trivial⟩ [] rfl (fun _ _ => inbL_of rfl) (fun _ _ => blkinb_of rfl) (fun _ _ => Nat.le_of_ble_eq_true rfl) ?_
    clear hx2 h
    rintro ⟨n2, s2⟩ h
    obtain ⟨n2, y2, rfl, h, hk2⟩ := iterB_eq h
    unfold m31_r08_Changed_s2 at h
    refine cseq ?_
    refine cseq ?_
    refine cjoin3 (Unit) (fun b3 => [(2, .s (.one (.i .i64 a2))), (3, .s (.one (.lp 0 0))), (4, .s (.one (.lp 1 0))), (7, .s (.one (.ls 2 s2.2.length))), (8, .s (.one (.i .i64 s2.1)))]) (fun b3 => [.box a0, .box a1, .arr 26 1 0 (s2.2.flatMap (eL eU8))]) (fun b3 => m31_r08_Changed_k3 a0 a1 a2 s2 b3 = some y2) (fun _ _ => inbL_of rfl) (fun _ _ => blkinb_of rfl) (fun _ _ => Nat.le_of_ble_eq_true rfl) (fun b3 h => ?_) ?_
    · unfold m31_r08_Changed_k3 at h
      refine cseq ?_
      refine cblock ?_
      refine cseq ?_
      refine cdraw mixed (by kernel_rfl) ?_
      refine dv rfl (opv_loadN ti28 rfl (.lp _ _ _ rfl) (Nat.le_of_ble_eq_true rfl)) ?_
      refine dv rfl (opv_fieldAddr_lp fi25_0 rfl) ?_
      refine dv rfl (opv_load1 ti22 rfl (.lp _ _ _ rfl) rfl) ?_
      refine dv rfl (opv_mv rfl) ?_
      obtain ⟨u4, hu4, h⟩ := bind_eq h
      refine dv rfl (opv_ix (f := (eL eU8)) si22 (fun _ => rfl) rfl rfl rfl rfl hu4) ?_
      refine dv rfl (opv_load1 ti26 rfl (.cp _) rfl) ?_
      obtain ⟨v5, hv5, h⟩ := bind_eq h
      refine dd rfl (opD_call fn36 (opnds_cons rfl (opnds_cons rfl opnds_nil)) rfl (m36_r06_Has_c hv5)) ?_
      refine dv rfl (opv_mv rfl) ?_
      refine dsplit 27 rfl (fun hc => ?_) (fun hc => ?_)
      · replace h := ite_t hc h
        clear hc
        refine dvg rfl rfl rfl (opv_fieldAddr_lp fi25_1 rfl) ?_
        refine dvg rfl rfl rfl (opv_load1 ti23 rfl (.lp _ _ _ rfl) rfl) ?_
        refine dvg rfl rfl rfl (opv_mv rfl) ?_
        obtain ⟨u6, hu6, h⟩ := bind_eq h
        refine dvg rfl rfl rfl (opv_ix (f := eGR07Chain) si23 (fun _ => rfl) rfl rfl rfl rfl hu6) ?_
        refine dvg rfl rfl rfl (opv_loadNe (ys := [.sl u6.L.length (u6.L.flatMap eGR07Ver)]) ti79 rfl (.cp _) rfl rfl) ?_
        obtain ⟨v7, hv7, h⟩ := bind_eq h
        refine ddg rfl rfl rfl (opD_call fn57 (opnds_cons rfl opnds_nil) rfl (m57_r07_Last_c hv7)) ?_
        refine dvg rfl rfl rfl (opv_mv rfl) ?_
        refine dvg rfl rfl rfl (opv_gtr rfl rfl) ?_
        refine dv rfl (opv_pick_t rfl rfl) ?_
        refine dnil ?_
        refine then_normal ?_
        refine ccond rfl (fun hc => ?_) (fun hc => ?_)
        · replace h := ite_t hc h
          clear hc
          refine cregion ?_
          refine sv rfl (opv_mv rfl) ?_
          refine sv rfl (opv_fieldAddr_lp fi25_0 rfl) ?_
          refine sv rfl (opv_load1 ti22 rfl (.lp _ _ _ rfl) rfl) ?_
          refine sv rfl (opv_mv rfl) ?_
          obtain ⟨u8, hu8, h⟩ := bind_eq h
          refine sv rfl (opv_ix (f := (eL eU8)) si22 (fun _ => rfl) rfl rfl rfl rfl hu8) ?_
          refine sv rfl (opv_load1 ti26 rfl (.cp _) rfl) ?_
          refine sbuild1 rfl Try.underlying22 ei26 rfl rfl (List.all_eq_true.1 rfl) (by decide) ?_
          refine smem [.box a0, .box a1, .arr 26 1 0 (s2.2.flatMap (eL eU8)), .arr 26 1 0 ([u8].flatMap (eL eU8))] rfl ?_
          obtain ⟨hb9, h⟩ := chk_eq h
          refine sapp (f := (eL eU8)) (xs := s2.2) (us := [u8]) rfl Try.underlying22 ei26 ni22 (fun _ => rfl) rfl rfl (.one _ _ _ _ (.ls _ _ _ _ _ _ rfl (flat_len (f := (eL eU8)) (fun _ => rfl) [u8]).symm)) rfl rfl rfl (.sl _ _ _ (flat_len (f := (eL eU8)) (fun _ => rfl) _)) rfl rfl hb9 (by decide) ?_
          refine sv rfl (opv_as rfl) ?_
          refine snil0 ?_
          refine block_normal ?_
          refine then_normal ?_
          refine cregion ?_
          refine sv rfl (opv_mv rfl) ?_
          refine sv rfl (opv_add rfl rfl) ?_
          refine sv rfl (opv_as rfl) ?_
          refine snil ?_
          obtain rfl := Option.some.inj h
          exact ⟨(n2, ((wI (s2.1 + 1)), (s2.2 ++ [u8]))), _, hk2, ⟨rfl, rfl, rfl, rfl, rfl, trivial⟩, rfl, Nat.lt_succ_self _⟩
        · replace h := ite_f hc h
          clear hc
          refine cskip ?_
          refine block_normal ?_
          refine then_normal ?_
          refine cregion ?_
          refine sv rfl (opv_mv rfl) ?_
          refine sv rfl (opv_add rfl rfl) ?_
          refine sv rfl (opv_as rfl) ?_
          refine snil ?_
          obtain rfl := Option.some.inj h
          exact ⟨(n2, ((wI (s2.1 + 1)), s2.2)), _, hk2, ⟨rfl, rfl, rfl, rfl, rfl, trivial⟩, rfl, Nat.lt_succ_self _⟩
      · replace h := ite_f hc h
        clear hc
        refine doff rfl rfl rfl rfl ?_
        refine doff rfl rfl rfl rfl ?_
        refine doff rfl rfl rfl rfl ?_
        refine doff rfl rfl rfl rfl ?_
        refine doff rfl rfl rfl rfl ?_
        refine doff rfl rfl rfl rfl ?_
        refine doff rfl rfl rfl rfl ?_
        refine doff rfl rfl rfl rfl ?_
        refine dv rfl (opv_pick_f rfl rfl) ?_
        refine dnil ?_
        refine then_normal ?_
        refine ccond rfl (fun hx => Bool.noConfusion hx) (fun _ => ?_)
        refine cskip ?_
        refine block_normal ?_
        refine then_normal ?_
        refine cregion ?_
        refine sv rfl (opv_mv rfl) ?_
        refine sv rfl (opv_add rfl rfl) ?_
        refine sv rfl (opv_as rfl) ?_
        refine snil ?_
        obtain rfl := Option.some.inj h
        exact ⟨(n2, ((wI (s2.1 + 1)), s2.2)), _, hk2, ⟨rfl, rfl, rfl, rfl, rfl, trivial⟩, rfl, Nat.lt_succ_self _⟩
    · skip
      refine cregion ?_
      refine sv rfl (opv_mv rfl) ?_
      refine sv rfl (opv_fieldAddr_lp fi25_0 rfl) ?_
      refine sv rfl (opv_load1 ti22 rfl (.lp _ _ _ rfl) rfl) ?_
      refine sv rfl (opv_len_sl si22 rfl) ?_
      refine sv rfl (opv_lss rfl rfl) ?_
      refine sv rfl (opv_mv rfl) ?_
      refine ssplit 14 rfl (fun hc => ?_) (fun hc => ?_)
      · replace h := ite_t hc h
        clear hc
        refine son rfl rfl rfl ?_
        refine sv rfl (opv_loadN ti25 rfl (.lp _ _ _ rfl) (Nat.le_of_ble_eq_true rfl)) ?_
        refine son rfl rfl rfl ?_
        obtain ⟨v10, hv10, h⟩ := bind_eq h
        refine scall1 rfl fn24 (opnds_cons rfl opnds_nil) (pubA_id rfl) (m24_r08_Sane_c hv10) ?_
        refine sv rfl (opv_pick_t rfl rfl) ?_
        refine snil ?_
        refine ccond rfl (fun hc => ?_) (fun hc => ?_)
        · replace h := ite_t hc h
          clear hc
          refine cskip ?_
          refine then_normal ?_
          exact ⟨(), _, h, ⟨rfl, rfl, rfl, rfl, rfl, trivial⟩, rfl⟩
        · replace h := ite_f hc h
          clear hc
          refine cexit ?_
          refine then_exit ?_
          refine then_exit ?_
          refine block_hit ?_
          refine then_normal ?_
          obtain rfl := Option.some.inj h
          obtain rfl : _ = x2 := hk2
          exact ⟨s2.2, _, ho2, ⟨rfl, trivial⟩, rfl⟩
      · replace h := ite_f hc h
        clear hc
        refine soff rfl rfl rfl rfl ?_
        refine soff rfl rfl rfl rfl ?_
        refine sv rfl (opv_pick_f rfl rfl) ?_
        refine snil ?_
        refine ccond rfl (fun hx => Bool.noConfusion hx) (fun _ => ?_)
        refine cexit ?_
        refine then_exit ?_
        refine then_exit ?_
        refine block_hit ?_
        refine then_normal ?_
        obtain rfl := Option.some.inj h
        obtain rfl : _ = x2 := hk2
        exact ⟨s2.2, _, ho2, ⟨rfl, trivial⟩, rfl⟩

def m29_r03_Lists_k1 (b1 : Unit) : Option Bool :=
  some true

def m29_r03_Lists_s2 (a0 : List (List UInt8)) (a1 : List (List UInt8)) (s2 : Int) : Option (LR (Int) (Unit) (Bool)) :=
  if (decide (s2 < (a0.length : Int))) then ((idx a0 s2).bind fun u3 => (idx a1 s2).bind fun u4 => if (!(u3 == u4)) then (some (.ret false)) else (some (.cont (wI (s2 + 1))))) else (some (.brk ()))
def m29_r03_Lists (a0 : List (List UInt8)) (a1 : List (List UInt8)) : Option Bool :=
  if (!decide ((a0.length : Int) = (a1.length : Int))) then (some false) else ((iter (m29_r03_Lists_s2 a0 a1) fuel 0).bind fun x => match x with | .inl r => some r | .inr e5 => m29_r03_Lists_k1 e5)

set_option maxRecDepth 100000 in
theorem m29_r03_Lists_c {a0 : List (List UInt8)} {a1 : List (List UInt8)} {r : Bool} (h : m29_r03_Lists a0 a1 = some r) : CallsA Try.prog 29 [.one (.sl a0.length (a0.flatMap (eL eU8))), .one (.sl a1.length (a1.flatMap (eL eU8)))] (· = .s (.one (.b r))) := by
  unfold m29_r03_Lists at h
  refine callsA_of Try.func29 rfl (nt := 28) rfl (Nat.le_of_ble_eq_true rfl) ?_
  intro w0 S0
  refine cseq ?_
  refine cregion ?_
  refine sv rfl (opv_as rfl) ?_
  refine snil ?_
  refine cseq ?_
  refine cseq ?_
  refine cregion ?_
  refine sv rfl (opv_mv rfl) ?_
  refine sv rfl (opv_len_sl si22 rfl) ?_
  refine sv rfl (opv_mv rfl) ?_
  refine sv rfl (opv_len_sl si22 rfl) ?_
  refine sv rfl (opv_ineq rfl rfl) ?_
  refine snil ?_
  refine ccond rfl (fun hc => ?_) (fun hc => ?_)
  · replace h := ite_t hc h
    clear hc
    refine cseq ?_
    refine cregion ?_
    refine sv rfl (opv_as rfl) ?_
    refine snil ?_
    refine cret ?_
    refine then_ret ?_
    obtain rfl := Option.some.inj h
    refine ⟨Or.inr rfl, _, _, _, (resVs_cons (ResV.tmp _ _ rfl) resVs_nil), (pubA_id rfl), ?_⟩
    rfl
  · replace h := ite_f hc h
    clear hc
    refine cskip ?_
    refine then_normal ?_
    refine cseq ?_
    refine cseq ?_
    refine cregion ?_
    refine sv rfl (opv_as rfl) ?_
    refine snil ?_
    refine cjoin (Unit) (fun b1 => []) (fun b1 => []) (fun b1 => m29_r03_Lists_k1 b1 = some r) (fun _ _ => inbL_of rfl) (fun _ _ => blkinb_of rfl) (fun _ _ => Nat.le_of_ble_eq_true rfl) (fun b1 h => ?_) ?_
    · unfold m29_r03_Lists_k1 at h
      refine cseq ?_
      refine cregion ?_
      refine sv rfl (opv_as rfl) ?_
      refine snil ?_
      refine cret ?_
      obtain rfl := Option.some.inj h
      refine ⟨Or.inr rfl, _, _, _, (resVs_cons (ResV.tmp _ _ rfl) resVs_nil), (pubA_id rfl), ?_⟩
      rfl
    · skip
      refine cblock ?_
      obtain ⟨x2, hx2, ho2⟩ := bind_eq h
      refine awc_loop (G := Nat × (Int)) (fun g => [(0, .s (.one (.sl a0.length (a0.flatMap (eL eU8))))), (1, .s (.one (.sl a1.length (a1.flatMap (eL eU8))))), (5, .s (.one (.i .i64 g.2)))]) (fun g => []) (fun g => iter (m29_r03_Lists_s2 a0 a1) g.1 g.2 = some x2) (fun g => g.1) (fuel, 0) hx2 ⟨rfl, rfl, rfl, trivial⟩ [] rfl (fun _ _ => inbL_of rfl) (fun _ _ => blkinb_of rfl) (fun _ _ => Nat.le_of_ble_eq_true rfl) ?_
      clear hx2 h
      rintro ⟨n2, s2⟩ h
      obtain ⟨n2, y2, rfl, h, hk2⟩ := iter_eq h
      unfold m29_r03_Lists_s2 at h
      refine cseq ?_
      refine cseq ?_
      refine cregion ?_
      refine sv rfl (opv_mv rfl) ?_
      refine sv rfl (opv_mv rfl) ?_
      refine sv rfl (opv_len_sl si22 rfl) ?_
      refine sv rfl (opv_lss rfl rfl) ?_
      refine snil ?_
      refine ccond rfl (fun hc => ?_) (fun hc => ?_)
      · replace h := ite_t hc h
        clear hc
        refine cskip ?_
        refine then_normal ?_
        refine cseq ?_
        refine cblock ?_
        refine cseq ?_
        refine cdraw mixed (by kernel_rfl) ?_
        refine dv rfl (opv_mv rfl) ?_
        refine dv rfl (opv_mv rfl) ?_
        obtain ⟨u3, hu3, h⟩ := bind_eq h
        refine dv rfl (opv_ix (f := (eL eU8)) si22 (fun _ => rfl) rfl rfl rfl rfl hu3) ?_
        refine dv rfl (opv_load1 ti26 rfl (.cp _) rfl) ?_
        refine dv rfl (opv_bs (l := u3) Try.underlying26 Try.underlying5 Try.underlying9 rfl rfl rfl) ?_
        refine dv rfl (opv_mv rfl) ?_
        refine dv rfl (opv_mv rfl) ?_
        obtain ⟨u4, hu4, h⟩ := bind_eq h
        refine dv rfl (opv_ix (f := (eL eU8)) si22 (fun _ => rfl) rfl rfl rfl rfl hu4) ?_
        refine dv rfl (opv_load1 ti26 rfl (.cp _) rfl) ?_
        refine dv rfl (opv_bs (l := u4) Try.underlying26 Try.underlying5 Try.underlying9 rfl rfl rfl) ?_
        refine dv rfl (opv_sneq' rfl rfl) ?_
        refine dnil ?_
        refine then_normal ?_
        refine ccond rfl (fun hc => ?_) (fun hc => ?_)
        · replace h := ite_t hc h
          clear hc
          refine cseq ?_
          refine cregion ?_
          refine sv rfl (opv_as rfl) ?_
          refine snil ?_
          refine cret ?_
          refine block_ret ?_
          refine then_ret ?_
          refine then_ret ?_
          refine block_ret ?_
          refine then_ret ?_
          obtain rfl := Option.some.inj h
          obtain rfl : Sum.inl _ = x2 := hk2
          replace ho2 : some _ = some _ := ho2
          obtain rfl := Option.some.inj ho2
          refine ⟨Or.inr rfl, _, _, _, (resVs_cons (ResV.tmp _ _ rfl) resVs_nil), (pubA_id rfl), ?_⟩
          rfl
        · replace h := ite_f hc h
          clear hc
          refine cskip ?_
          refine block_normal ?_
          refine then_normal ?_
          refine cregion ?_
          refine sv rfl (opv_mv rfl) ?_
          refine sv rfl (opv_add rfl rfl) ?_
          refine sv rfl (opv_as rfl) ?_
          refine snil ?_
          obtain rfl := Option.some.inj h
          exact ⟨(n2, (wI (s2 + 1))), _, hk2, ⟨rfl, rfl, rfl, trivial⟩, rfl, Nat.lt_succ_self _⟩
      · replace h := ite_f hc h
        clear hc
        refine cexit ?_
        refine then_exit ?_
        refine then_exit ?_
        refine block_hit ?_
        refine then_normal ?_
        obtain rfl := Option.some.inj h
        obtain rfl : _ = x2 := hk2
        exact ⟨(), _, ho2, trivial, rfl⟩

def m33_r08_Latest (a0 : GR08Store) : Option (List GApiKV) :=
  (m22_r08_Scan a0 (GApiRange.mk ([] : List UInt8) ([] : List UInt8) true) a0.Ts 1000).bind fun v1 => some v1

set_option maxRecDepth 100000 in
theorem m33_r08_Latest_c {a0 : GR08Store} {r : (List GApiKV)} (h : m33_r08_Latest a0 = some r) : CallsA Try.prog 33 [.agg a0] (· = .s (.one (.sl r.length (r.flatMap eGApiKV)))) := by
  unfold m33_r08_Latest at h
  refine callsA_of Try.func33 rfl (nt := 8) rfl (Nat.le_of_ble_eq_true rfl) ?_
  intro w0 S0
  refine cseq ?_
  refine cregion ?_
  refine sbox rfl rfl ?_
  refine sv rfl (opv_as rfl) ?_
  refine snil ?_
  refine cseq ?_
  refine cregion ?_
  refine sv rfl (opv_loadN ti25 rfl (.lp _ _ _ rfl) (Nat.le_of_ble_eq_true rfl)) ?_
  refine sv rfl (opv_build zi28 pi28 (parts_cons rfl parts_nil) (.cons _ _ _ _ _ _ _ rfl rfl (Nat.le_of_ble_eq_true rfl) (.nil _))) ?_
  refine sv rfl (opv_fieldAddr_lp fi25_2 rfl) ?_
  refine sv rfl (opv_load1 ti3 rfl (.lp _ _ _ rfl) rfl) ?_
  obtain ⟨v1, hv1, h⟩ := bind_eq h
  refine scall1 rfl fn22 (opnds_cons rfl (opnds_cons rfl (opnds_cons rfl (opnds_cons rfl opnds_nil)))) (pubC rfl) (m22_r08_Scan_c hv1) ?_
  refine sv rfl (opv_as rfl) ?_
  refine snil ?_
  refine cret ?_
  obtain rfl := Option.some.inj h
  refine ⟨Or.inr rfl, _, _, _, (resVs_cons (ResV.tmp _ _ rfl) resVs_nil), (pubA_id rfl), ?_⟩
  rfl

def m3_l08_StoreIs_k8 (a0 : GR08Store) (a1 : List UInt8) (a2 : GApiRange) (a3 : Int) (v1 : Bool) (v3 : GStoreStore) (b8 : Unit) : Option Bool :=
  if v1 then ((m23_store_Sane (GStoreStore.mk v3.Keys v3.Chains v3.Ts)).bind fun v9 => (m24_r08_Sane (GR08Store.mk a0.Keys a0.Chains a0.Ts)).bind fun v10 => if (v9 == v10) then ((m25_store_Vacuum (GStoreStore.mk v3.Keys v3.Chains v3.Ts) a3).bind fun v11 => (m19_l08_theirs v11).bind fun v12 => (m26_r08_Vacuum (GR08Store.mk a0.Keys a0.Chains a0.Ts) a3).bind fun v13 => (m18_r08_Same v12 v13).bind fun v14 => if v14 then ((m27_store_Wrote (GStoreStore.mk v3.Keys v3.Chains v3.Ts) a1 a3).bind fun v15 => (m28_r08_Wrote a0 a1 a3).bind fun v16 => if (v15 == v16) then ((m30_store_Changed (GStoreStore.mk v3.Keys v3.Chains v3.Ts) (GApiRange.mk a2.Lo a2.Hi a2.Open) a3).bind fun v17 => (m31_r08_Changed a0 (GApiRange.mk a2.Lo a2.Hi a2.Open) a3).bind fun v18 => (m29_r03_Lists v17 v18).bind fun v19 => if v19 then ((m32_store_Latest (GStoreStore.mk v3.Keys v3.Chains v3.Ts)).bind fun v20 => (m33_r08_Latest a0).bind fun v21 => (m20_r05_KVs v20 v21).bind fun v22 => if v22 then ((m19_l08_theirs (GStoreStore.mk v3.Keys v3.Chains v3.Ts)).bind fun v23 => (m18_r08_Same v23 a0).bind fun v24 => some v24) else (some false)) else (some false)) else (some false)) else (some false)) else (some false)) else (some false)

def m3_l08_StoreIs_k2 (a0 : GR08Store) (a1 : List UInt8) (a2 : GApiRange) (a3 : Int) (a4 : Int) (a5 : List GApiWrite) (v1 : Bool) (b2 : Unit) : Option Bool :=
  (m13_l08_ours a0).bind fun v3 => (m14_store_Get v3 a1 a3).bind fun v4 => (m15_r08_Get (GR08Store.mk a0.Keys a0.Chains a0.Ts) a1 a3).bind fun v5 => (m16_store_Install (GStoreStore.mk v3.Keys v3.Chains v3.Ts) a3 a5).bind fun v6 => (m17_r08_Install (GR08Store.mk a0.Keys a0.Chains a0.Ts) a3 a5).bind fun v7 => if (!(v4.1 == v5.1)) then (some false) else (if (!(v4.2 == v5.2)) then (some false) else ((m19_l08_theirs v6.1).bind fun v25 => (m18_r08_Same v25 v7.1).bind fun v26 => if (!v26) then (some false) else (if (!decide (v6.2 = v7.2)) then (some false) else ((m21_store_Scan (GStoreStore.mk v3.Keys v3.Chains v3.Ts) (GApiRange.mk a2.Lo a2.Hi a2.Open) a3 a4).bind fun v27 => (m22_r08_Scan a0 (GApiRange.mk a2.Lo a2.Hi a2.Open) a3 a4).bind fun v28 => (m20_r05_KVs v27 v28).bind fun v29 => if (!v29) then (some false) else (m3_l08_StoreIs_k8 a0 a1 a2 a3 v1 v3 ())))))
def m3_l08_StoreIs (a0 : GR08Store) (a1 : List UInt8) (a2 : GApiRange) (a3 : Int) (a4 : Int) (a5 : List GApiWrite) : Option Bool :=
  (m9_l08_awake).bind fun v1 => (m10_r08_Few a0).bind fun v30 => if (!v30) then (some v1) else (if (decide (50 < (a1.length : Int))) then (some v1) else ((m11_r06_Short (GApiRange.mk a2.Lo a2.Hi a2.Open)).bind fun v31 => if (!v31) then (some v1) else ((m12_r08_FewWrites a5).bind fun v32 => if (!v32) then (some v1) else (m3_l08_StoreIs_k2 a0 a1 a2 a3 a4 a5 v1 ()))))

set_option maxRecDepth 100000 in
theorem m3_l08_StoreIs_c {a0 : GR08Store} {a1 : List UInt8} {a2 : GApiRange} {a3 : Int} {a4 : Int} {a5 : List GApiWrite} {r : Bool} (h : m3_l08_StoreIs a0 a1 a2 a3 a4 a5 = some r) : CallsA Try.prog 3 [.agg a0, .one (.sl a1.length (a1.flatMap eU8)), .agg a2, .one (.i .i64 a3), .one (.i .i64 a4), .one (.sl a5.length (a5.flatMap eGApiWrite))] (· = .s (.one (.b r))) := by
  unfold m3_l08_StoreIs at h
  refine callsA_of Try.func3 rfl (nt := 162) rfl (Nat.le_of_ble_eq_true rfl) ?_
  intro w0 S0
  refine cseq ?_
  refine cregion ?_
  refine sbox rfl rfl ?_
  refine sbox rfl rfl ?_
  refine sv rfl (opv_as rfl) ?_
  refine snil ?_
  refine cseq ?_
  refine cregion ?_
  obtain ⟨v1, hv1, h⟩ := bind_eq h
  refine scall1 rfl fn9 opnds_nil (pubA_id rfl) (m9_l08_awake_c hv1) ?_
  refine sv rfl (opv_as rfl) ?_
  refine snil ?_
  refine cseq ?_
  refine cseq ?_
  refine cjoin3 (Unit) (fun b2 => [(1, .s (.one (.sl a1.length (a1.flatMap eU8)))), (3, .s (.one (.i .i64 a3))), (4, .s (.one (.i .i64 a4))), (5, .s (.one (.sl a5.length (a5.flatMap eGApiWrite)))), (6, .s (.one (.lp 0 0))), (8, .s (.one (.lp 1 0))), (13, .s (.one (.b v1)))]) (fun b2 => [.box a0, .box a2]) (fun b2 => m3_l08_StoreIs_k2 a0 a1 a2 a3 a4 a5 v1 b2 = some r) (fun _ _ => inbL_of rfl) (fun _ _ => blkinb_of rfl) (fun _ _ => Nat.le_of_ble_eq_true rfl) (fun b2 h => ?_) ?_
  · unfold m3_l08_StoreIs_k2 at h
    refine cseq ?_
    refine cregion ?_
    refine sv rfl (opv_loadN ti25 rfl (.lp _ _ _ rfl) (Nat.le_of_ble_eq_true rfl)) ?_
    obtain ⟨v3, hv3, h⟩ := bind_eq h
    refine scall1 rfl fn13 (opnds_cons rfl opnds_nil) (pubA_id rfl) (m13_l08_ours_c hv3) ?_
    refine salloc rfl zi36 ?_
    refine sstore sz36 rfl rfl rfl rfl (Nat.le_of_ble_eq_true rfl) ?_
    refine smem [.box a0, .box a2, .box v3] rfl ?_
    refine snil ?_
    refine cseq ?_
    refine cregion ?_
    refine sv rfl (opv_loadN ti36 rfl (.lp _ _ _ rfl) (Nat.le_of_ble_eq_true rfl)) ?_
    refine sv rfl (opv_mv rfl) ?_
    refine sv rfl (opv_mv rfl) ?_
    obtain ⟨v4, hv4, h⟩ := bind_eq h
    refine scall1 rfl fn14 (opnds_cons rfl (opnds_cons rfl (opnds_cons rfl opnds_nil))) (pubA_id rfl) (m14_store_Get_c hv4) ?_
    refine sv rfl (opv_mvt rfl) ?_
    refine sv rfl (opv_extract rfl rfl) ?_
    refine sv rfl (opv_extract rfl rfl) ?_
    refine sv rfl (opv_as rfl) ?_
    refine sv rfl (opv_as rfl) ?_
    refine snil ?_
    refine cseq ?_
    refine cregion ?_
    refine sv rfl (opv_loadN ti25 rfl (.lp _ _ _ rfl) (Nat.le_of_ble_eq_true rfl)) ?_
    refine sv rfl (opv_mv rfl) ?_
    refine sv rfl (opv_mv rfl) ?_
    obtain ⟨v5, hv5, h⟩ := bind_eq h
    refine scall1 rfl fn15 (opnds_cons rfl (opnds_cons rfl (opnds_cons rfl opnds_nil))) (pubA_id rfl) (m15_r08_Get_c hv5) ?_
    refine sv rfl (opv_mvt rfl) ?_
    refine sv rfl (opv_extract rfl rfl) ?_
    refine sv rfl (opv_extract rfl rfl) ?_
    refine sv rfl (opv_as rfl) ?_
    refine sv rfl (opv_as rfl) ?_
    refine snil ?_
    refine cseq ?_
    refine cregion ?_
    refine sv rfl (opv_loadN ti36 rfl (.lp _ _ _ rfl) (Nat.le_of_ble_eq_true rfl)) ?_
    refine sv rfl (opv_mv rfl) ?_
    refine sv rfl (opv_mv rfl) ?_
    obtain ⟨v6, hv6, h⟩ := bind_eq h
    refine scall1 rfl fn16 (opnds_cons rfl (opnds_cons rfl (opnds_cons rfl opnds_nil))) (pubA_id rfl) (m16_store_Install_c hv6) ?_
    refine sv rfl (opv_mvt rfl) ?_
    refine sv rfl (opv_extract rfl rfl) ?_
    refine sv rfl (opv_extract rfl rfl) ?_
    refine salloc rfl zi36 ?_
    refine sstore sz36 rfl rfl rfl rfl (Nat.le_of_ble_eq_true rfl) ?_
    refine smem [.box a0, .box a2, .box v3, .box v6.1] rfl ?_
    refine sv rfl (opv_as rfl) ?_
    refine snil ?_
    refine cseq ?_
    refine cregion ?_
    refine sv rfl (opv_loadN ti25 rfl (.lp _ _ _ rfl) (Nat.le_of_ble_eq_true rfl)) ?_
    refine sv rfl (opv_mv rfl) ?_
    refine sv rfl (opv_mv rfl) ?_
    obtain ⟨v7, hv7, h⟩ := bind_eq h
    refine scall1 rfl fn17 (opnds_cons rfl (opnds_cons rfl (opnds_cons rfl opnds_nil))) (pubA_id rfl) (m17_r08_Install_c hv7) ?_
    refine sv rfl (opv_mvt rfl) ?_
    refine sv rfl (opv_extract rfl rfl) ?_
    refine sv rfl (opv_extract rfl rfl) ?_
    refine salloc rfl zi25 ?_
    refine sstore sz25 rfl rfl rfl rfl (Nat.le_of_ble_eq_true rfl) ?_
    refine smem [.box a0, .box a2, .box v3, .box v6.1, .box v7.1] rfl ?_
    refine sv rfl (opv_as rfl) ?_
    refine snil ?_
    refine cseq ?_
    refine cseq ?_
    refine cjoin3 (Unit) (fun b8 => [(1, .s (.one (.sl a1.length (a1.flatMap eU8)))), (3, .s (.one (.i .i64 a3))), (6, .s (.one (.lp 0 0))), (8, .s (.one (.lp 1 0))), (13, .s (.one (.b v1))), (14, .s (.one (.lp 2 0)))]) (fun b8 => [.box a0, .box a2, .box v3, .box v6.1, .box v7.1]) (fun b8 => m3_l08_StoreIs_k8 a0 a1 a2 a3 v1 v3 b8 = some r) (fun _ _ => inbL_of rfl) (fun _ _ => blkinb_of rfl) (fun _ _ => Nat.le_of_ble_eq_true rfl) (fun b8 h => ?_) ?_
    · unfold m3_l08_StoreIs_k8 at h
      refine cseq ?_
      refine cdraw mixed (by kernel_rfl) ?_
      refine dv rfl (opv_mv rfl) ?_
      refine dv rfl (opv_mv rfl) ?_
      refine dsplit 110 rfl (fun hc => ?_) (fun hc => ?_)
      · replace h := ite_t hc h
        clear hc
        refine dvg rfl rfl rfl (opv_loadN ti36 rfl (.lp _ _ _ rfl) (Nat.le_of_ble_eq_true rfl)) ?_
        obtain ⟨v9, hv9, h⟩ := bind_eq h
        refine ddg rfl rfl rfl (opD_call fn23 (opnds_cons rfl opnds_nil) rfl (m23_store_Sane_c hv9)) ?_
        refine dvg rfl rfl rfl (opv_loadN ti25 rfl (.lp _ _ _ rfl) (Nat.le_of_ble_eq_true rfl)) ?_
        obtain ⟨v10, hv10, h⟩ := bind_eq h
        refine ddg rfl rfl rfl (opD_call fn24 (opnds_cons rfl opnds_nil) rfl (m24_r08_Sane_c hv10)) ?_
        refine dvg rfl rfl rfl (opv_beql Try.underlying4 rfl rfl) ?_
        refine dv rfl (opv_pick_t rfl rfl) ?_
        refine dv rfl (opv_mv rfl) ?_
        refine dsplit 117 rfl (fun hc => ?_) (fun hc => ?_)
        · replace h := ite_t hc h
          clear hc
          refine dvg rfl rfl rfl (opv_loadN ti36 rfl (.lp _ _ _ rfl) (Nat.le_of_ble_eq_true rfl)) ?_
          refine dvg rfl rfl rfl (opv_mv rfl) ?_
          obtain ⟨v11, hv11, h⟩ := bind_eq h
          refine ddg rfl rfl rfl (opD_call fn25 (opnds_cons rfl (opnds_cons rfl opnds_nil)) rfl (m25_store_Vacuum_c hv11)) ?_
          obtain ⟨v12, hv12, h⟩ := bind_eq h
          refine ddg rfl rfl rfl (opD_call fn19 (opnds_cons rfl opnds_nil) rfl (m19_l08_theirs_c hv12)) ?_
          refine dvg rfl rfl rfl (opv_loadN ti25 rfl (.lp _ _ _ rfl) (Nat.le_of_ble_eq_true rfl)) ?_
          refine dvg rfl rfl rfl (opv_mv rfl) ?_
          obtain ⟨v13, hv13, h⟩ := bind_eq h
          refine ddg rfl rfl rfl (opD_call fn26 (opnds_cons rfl (opnds_cons rfl opnds_nil)) rfl (m26_r08_Vacuum_c hv13)) ?_
          obtain ⟨v14, hv14, h⟩ := bind_eq h
          refine ddg rfl rfl rfl (opD_call fn18 (opnds_cons rfl (opnds_cons rfl opnds_nil)) rfl (m18_r08_Same_c hv14)) ?_
          refine dv rfl (opv_pick_t rfl rfl) ?_
          refine dv rfl (opv_mv rfl) ?_
          refine dsplit 127 rfl (fun hc => ?_) (fun hc => ?_)
          · replace h := ite_t hc h
            clear hc
            refine dvg rfl rfl rfl (opv_loadN ti36 rfl (.lp _ _ _ rfl) (Nat.le_of_ble_eq_true rfl)) ?_
            refine dvg rfl rfl rfl (opv_mv rfl) ?_
            refine dvg rfl rfl rfl (opv_mv rfl) ?_
            obtain ⟨v15, hv15, h⟩ := bind_eq h
            refine ddg rfl rfl rfl (opD_call fn27 (opnds_cons rfl (opnds_cons rfl (opnds_cons rfl opnds_nil))) rfl (m27_store_Wrote_c hv15)) ?_
            refine dvg rfl rfl rfl (opv_loadN ti25 rfl (.lp _ _ _ rfl) (Nat.le_of_ble_eq_true rfl)) ?_
            refine dvg rfl rfl rfl (opv_mv rfl) ?_
            refine dvg rfl rfl rfl (opv_mv rfl) ?_
            obtain ⟨v16, hv16, h⟩ := bind_eq h
            refine ddg rfl rfl rfl (opD_call fn28 (opnds_cons rfl (opnds_cons rfl (opnds_cons rfl opnds_nil))) rfl (m28_r08_Wrote_c hv16)) ?_
            refine dvg rfl rfl rfl (opv_beql Try.underlying4 rfl rfl) ?_
            refine dv rfl (opv_pick_t rfl rfl) ?_
            refine dv rfl (opv_mv rfl) ?_
            refine dsplit 138 rfl (fun hc => ?_) (fun hc => ?_)
            · replace h := ite_t hc h
              clear hc
              refine dvg rfl rfl rfl (opv_loadN ti36 rfl (.lp _ _ _ rfl) (Nat.le_of_ble_eq_true rfl)) ?_
              refine dvg rfl rfl rfl (opv_loadN ti28 rfl (.lp _ _ _ rfl) (Nat.le_of_ble_eq_true rfl)) ?_
              refine dvg rfl rfl rfl (opv_mv rfl) ?_
              obtain ⟨v17, hv17, h⟩ := bind_eq h
              refine ddg rfl rfl rfl (opD_call fn30 (opnds_cons rfl (opnds_cons rfl (opnds_cons rfl opnds_nil))) rfl (m30_store_Changed_c hv17)) ?_
              refine dvg rfl rfl rfl (opv_loadN ti25 rfl (.lp _ _ _ rfl) (Nat.le_of_ble_eq_true rfl)) ?_
              refine dvg rfl rfl rfl (opv_loadN ti28 rfl (.lp _ _ _ rfl) (Nat.le_of_ble_eq_true rfl)) ?_
              refine dvg rfl rfl rfl (opv_mv rfl) ?_
              obtain ⟨v18, hv18, h⟩ := bind_eq h
              refine ddg rfl rfl rfl (opD_call fn31 (opnds_cons rfl (opnds_cons rfl (opnds_cons rfl opnds_nil))) rfl (m31_r08_Changed_c hv18)) ?_
              obtain ⟨v19, hv19, h⟩ := bind_eq h
              refine ddg rfl rfl rfl (opD_call fn29 (opnds_cons rfl (opnds_cons rfl opnds_nil)) rfl (m29_r03_Lists_c hv19)) ?_
              refine dv rfl (opv_pick_t rfl rfl) ?_
              refine dv rfl (opv_mv rfl) ?_
              refine dsplit 149 rfl (fun hc => ?_) (fun hc => ?_)
              · replace h := ite_t hc h
                clear hc
                refine dvg rfl rfl rfl (opv_loadN ti36 rfl (.lp _ _ _ rfl) (Nat.le_of_ble_eq_true rfl)) ?_
                obtain ⟨v20, hv20, h⟩ := bind_eq h
                refine ddg rfl rfl rfl (opD_call fn32 (opnds_cons rfl opnds_nil) rfl (m32_store_Latest_c hv20)) ?_
                refine dvg rfl rfl rfl (opv_loadN ti25 rfl (.lp _ _ _ rfl) (Nat.le_of_ble_eq_true rfl)) ?_
                obtain ⟨v21, hv21, h⟩ := bind_eq h
                refine ddg rfl rfl rfl (opD_call fn33 (opnds_cons rfl opnds_nil) rfl (m33_r08_Latest_c hv21)) ?_
                obtain ⟨v22, hv22, h⟩ := bind_eq h
                refine ddg rfl rfl rfl (opD_call fn20 (opnds_cons rfl (opnds_cons rfl opnds_nil)) rfl (m20_r05_KVs_c hv22)) ?_
                refine dv rfl (opv_pick_t rfl rfl) ?_
                refine dv rfl (opv_mv rfl) ?_
                refine dsplit 156 rfl (fun hc => ?_) (fun hc => ?_)
                · replace h := ite_t hc h
                  clear hc
                  refine dvg rfl rfl rfl (opv_loadN ti36 rfl (.lp _ _ _ rfl) (Nat.le_of_ble_eq_true rfl)) ?_
                  obtain ⟨v23, hv23, h⟩ := bind_eq h
                  refine ddg rfl rfl rfl (opD_call fn19 (opnds_cons rfl opnds_nil) rfl (m19_l08_theirs_c hv23)) ?_
                  refine dvg rfl rfl rfl (opv_loadN ti25 rfl (.lp _ _ _ rfl) (Nat.le_of_ble_eq_true rfl)) ?_
                  obtain ⟨v24, hv24, h⟩ := bind_eq h
                  refine ddg rfl rfl rfl (opD_call fn18 (opnds_cons rfl (opnds_cons rfl opnds_nil)) rfl (m18_r08_Same_c hv24)) ?_
                  refine dv rfl (opv_pick_t rfl rfl) ?_
                  refine dv rfl (opv_as rfl) ?_
                  refine dnil ?_
                  refine then_normal ?_
                  refine cret ?_
                  obtain rfl := Option.some.inj h
                  refine ⟨Or.inr rfl, _, _, _, (resVs_cons (ResV.tmp _ _ rfl) resVs_nil), (pubA_id rfl), ?_⟩
                  rfl
                · replace h := ite_f hc h
                  clear hc
                  refine doff rfl rfl rfl rfl ?_
                  refine doff rfl rfl rfl rfl ?_
                  refine doff rfl rfl rfl rfl ?_
                  refine doff rfl rfl rfl rfl ?_
                  refine dv rfl (opv_pick_f rfl rfl) ?_
                  refine dv rfl (opv_as rfl) ?_
                  refine dnil ?_
                  refine then_normal ?_
                  refine cret ?_
                  obtain rfl := Option.some.inj h
                  refine ⟨Or.inr rfl, _, _, _, (resVs_cons (ResV.tmp _ _ rfl) resVs_nil), (pubA_id rfl), ?_⟩
                  rfl
              · replace h := ite_f hc h
                clear hc
                refine doff rfl rfl rfl rfl ?_
                refine doff rfl rfl rfl rfl ?_
                refine doff rfl rfl rfl rfl ?_
                refine doff rfl rfl rfl rfl ?_
                refine doff rfl rfl rfl rfl ?_
                refine dv rfl (opv_pick_f rfl rfl) ?_
                refine dv rfl (opv_mv rfl) ?_
                refine doff rfl rfl rfl rfl ?_
                refine doff rfl rfl rfl rfl ?_
                refine doff rfl rfl rfl rfl ?_
                refine doff rfl rfl rfl rfl ?_
                refine dv rfl (opv_pick_f rfl rfl) ?_
                refine dv rfl (opv_as rfl) ?_
                refine dnil ?_
                refine then_normal ?_
                refine cret ?_
                obtain rfl := Option.some.inj h
                refine ⟨Or.inr rfl, _, _, _, (resVs_cons (ResV.tmp _ _ rfl) resVs_nil), (pubA_id rfl), ?_⟩
                rfl
            · replace h := ite_f hc h
              clear hc
              refine doff rfl rfl rfl rfl ?_
              refine doff rfl rfl rfl rfl ?_
              refine doff rfl rfl rfl rfl ?_
              refine doff rfl rfl rfl rfl ?_
              refine doff rfl rfl rfl rfl ?_
              refine doff rfl rfl rfl rfl ?_
              refine doff rfl rfl rfl rfl ?_
              refine doff rfl rfl rfl rfl ?_
              refine doff rfl rfl rfl rfl ?_
              refine dv rfl (opv_pick_f rfl rfl) ?_
              refine dv rfl (opv_mv rfl) ?_
              refine doff rfl rfl rfl rfl ?_
              refine doff rfl rfl rfl rfl ?_
              refine doff rfl rfl rfl rfl ?_
              refine doff rfl rfl rfl rfl ?_
              refine doff rfl rfl rfl rfl ?_
              refine dv rfl (opv_pick_f rfl rfl) ?_
              refine dv rfl (opv_mv rfl) ?_
              refine doff rfl rfl rfl rfl ?_
              refine doff rfl rfl rfl rfl ?_
              refine doff rfl rfl rfl rfl ?_
              refine doff rfl rfl rfl rfl ?_
              refine dv rfl (opv_pick_f rfl rfl) ?_
              refine dv rfl (opv_as rfl) ?_
              refine dnil ?_
              refine then_normal ?_
              refine cret ?_
              obtain rfl := Option.some.inj h
              refine ⟨Or.inr rfl, _, _, _, (resVs_cons (ResV.tmp _ _ rfl) resVs_nil), (pubA_id rfl), ?_⟩
              rfl
          · replace h := ite_f hc h
            clear hc
            refine doff rfl rfl rfl rfl ?_
            refine doff rfl rfl rfl rfl ?_
            refine doff rfl rfl rfl rfl ?_
            refine doff rfl rfl rfl rfl ?_
            refine doff rfl rfl rfl rfl ?_
            refine doff rfl rfl rfl rfl ?_
            refine doff rfl rfl rfl rfl ?_
            refine doff rfl rfl rfl rfl ?_
            refine doff rfl rfl rfl rfl ?_
            refine dv rfl (opv_pick_f rfl rfl) ?_
            refine dv rfl (opv_mv rfl) ?_
            refine doff rfl rfl rfl rfl ?_
            refine doff rfl rfl rfl rfl ?_
            refine doff rfl rfl rfl rfl ?_
            refine doff rfl rfl rfl rfl ?_
            refine doff rfl rfl rfl rfl ?_
            refine doff rfl rfl rfl rfl ?_
            refine doff rfl rfl rfl rfl ?_
            refine doff rfl rfl rfl rfl ?_
            refine doff rfl rfl rfl rfl ?_
            refine dv rfl (opv_pick_f rfl rfl) ?_
            refine dv rfl (opv_mv rfl) ?_
            refine doff rfl rfl rfl rfl ?_
            refine doff rfl rfl rfl rfl ?_
            refine doff rfl rfl rfl rfl ?_
            refine doff rfl rfl rfl rfl ?_
            refine doff rfl rfl rfl rfl ?_
            refine dv rfl (opv_pick_f rfl rfl) ?_
            refine dv rfl (opv_mv rfl) ?_
            refine doff rfl rfl rfl rfl ?_
            refine doff rfl rfl rfl rfl ?_
            refine doff rfl rfl rfl rfl ?_
            refine doff rfl rfl rfl rfl ?_
            refine dv rfl (opv_pick_f rfl rfl) ?_
            refine dv rfl (opv_as rfl) ?_
            refine dnil ?_
            refine then_normal ?_
            refine cret ?_
            obtain rfl := Option.some.inj h
            refine ⟨Or.inr rfl, _, _, _, (resVs_cons (ResV.tmp _ _ rfl) resVs_nil), (pubA_id rfl), ?_⟩
            rfl
        · replace h := ite_f hc h
          clear hc
          refine doff rfl rfl rfl rfl ?_
          refine doff rfl rfl rfl rfl ?_
          refine doff rfl rfl rfl rfl ?_
          refine doff rfl rfl rfl rfl ?_
          refine doff rfl rfl rfl rfl ?_
          refine doff rfl rfl rfl rfl ?_
          refine doff rfl rfl rfl rfl ?_
          refine doff rfl rfl rfl rfl ?_
          refine dv rfl (opv_pick_f rfl rfl) ?_
          refine dv rfl (opv_mv rfl) ?_
          refine doff rfl rfl rfl rfl ?_
          refine doff rfl rfl rfl rfl ?_
          refine doff rfl rfl rfl rfl ?_
          refine doff rfl rfl rfl rfl ?_
          refine doff rfl rfl rfl rfl ?_
          refine doff rfl rfl rfl rfl ?_
          refine doff rfl rfl rfl rfl ?_
          refine doff rfl rfl rfl rfl ?_
          refine doff rfl rfl rfl rfl ?_
          refine dv rfl (opv_pick_f rfl rfl) ?_
          refine dv rfl (opv_mv rfl) ?_
          refine doff rfl rfl rfl rfl ?_
          refine doff rfl rfl rfl rfl ?_
          refine doff rfl rfl rfl rfl ?_
          refine doff rfl rfl rfl rfl ?_
          refine doff rfl rfl rfl rfl ?_
          refine doff rfl rfl rfl rfl ?_
          refine doff rfl rfl rfl rfl ?_
          refine doff rfl rfl rfl rfl ?_
          refine doff rfl rfl rfl rfl ?_
          refine dv rfl (opv_pick_f rfl rfl) ?_
          refine dv rfl (opv_mv rfl) ?_
          refine doff rfl rfl rfl rfl ?_
          refine doff rfl rfl rfl rfl ?_
          refine doff rfl rfl rfl rfl ?_
          refine doff rfl rfl rfl rfl ?_
          refine doff rfl rfl rfl rfl ?_
          refine dv rfl (opv_pick_f rfl rfl) ?_
          refine dv rfl (opv_mv rfl) ?_
          refine doff rfl rfl rfl rfl ?_
          refine doff rfl rfl rfl rfl ?_
          refine doff rfl rfl rfl rfl ?_
          refine doff rfl rfl rfl rfl ?_
          refine dv rfl (opv_pick_f rfl rfl) ?_
          refine dv rfl (opv_as rfl) ?_
          refine dnil ?_
          refine then_normal ?_
          refine cret ?_
          obtain rfl := Option.some.inj h
          refine ⟨Or.inr rfl, _, _, _, (resVs_cons (ResV.tmp _ _ rfl) resVs_nil), (pubA_id rfl), ?_⟩
          rfl
      · replace h := ite_f hc h
        clear hc
        refine doff rfl rfl rfl rfl ?_
        refine doff rfl rfl rfl rfl ?_
        refine doff rfl rfl rfl rfl ?_
        refine doff rfl rfl rfl rfl ?_
        refine doff rfl rfl rfl rfl ?_
        refine dv rfl (opv_pick_f rfl rfl) ?_
        refine dv rfl (opv_mv rfl) ?_
        refine doff rfl rfl rfl rfl ?_
        refine doff rfl rfl rfl rfl ?_
        refine doff rfl rfl rfl rfl ?_
        refine doff rfl rfl rfl rfl ?_
        refine doff rfl rfl rfl rfl ?_
        refine doff rfl rfl rfl rfl ?_
        refine doff rfl rfl rfl rfl ?_
        refine doff rfl rfl rfl rfl ?_
        refine dv rfl (opv_pick_f rfl rfl) ?_
        refine dv rfl (opv_mv rfl) ?_
        refine doff rfl rfl rfl rfl ?_
        refine doff rfl rfl rfl rfl ?_
        refine doff rfl rfl rfl rfl ?_
        refine doff rfl rfl rfl rfl ?_
        refine doff rfl rfl rfl rfl ?_
        refine doff rfl rfl rfl rfl ?_
        refine doff rfl rfl rfl rfl ?_
        refine doff rfl rfl rfl rfl ?_
        refine doff rfl rfl rfl rfl ?_
        refine dv rfl (opv_pick_f rfl rfl) ?_
        refine dv rfl (opv_mv rfl) ?_
        refine doff rfl rfl rfl rfl ?_
        refine doff rfl rfl rfl rfl ?_
        refine doff rfl rfl rfl rfl ?_
        refine doff rfl rfl rfl rfl ?_
        refine doff rfl rfl rfl rfl ?_
        refine doff rfl rfl rfl rfl ?_
        refine doff rfl rfl rfl rfl ?_
        refine doff rfl rfl rfl rfl ?_
        refine doff rfl rfl rfl rfl ?_
        refine dv rfl (opv_pick_f rfl rfl) ?_
        refine dv rfl (opv_mv rfl) ?_
        refine doff rfl rfl rfl rfl ?_
        refine doff rfl rfl rfl rfl ?_
        refine doff rfl rfl rfl rfl ?_
        refine doff rfl rfl rfl rfl ?_
        refine doff rfl rfl rfl rfl ?_
        refine dv rfl (opv_pick_f rfl rfl) ?_
        refine dv rfl (opv_mv rfl) ?_
        refine doff rfl rfl rfl rfl ?_
        refine doff rfl rfl rfl rfl ?_
        refine doff rfl rfl rfl rfl ?_
        refine doff rfl rfl rfl rfl ?_
        refine dv rfl (opv_pick_f rfl rfl) ?_
        refine dv rfl (opv_as rfl) ?_
        refine dnil ?_
        refine then_normal ?_
        refine cret ?_
        obtain rfl := Option.some.inj h
        refine ⟨Or.inr rfl, _, _, _, (resVs_cons (ResV.tmp _ _ rfl) resVs_nil), (pubA_id rfl), ?_⟩
        rfl
    · skip
      refine cdraw mixed (by kernel_rfl) ?_
      refine dv rfl (opv_mv rfl) ?_
      refine dv rfl (opv_bs (l := v4.1) Try.underlying26 Try.underlying5 Try.underlying9 rfl rfl rfl) ?_
      refine dv rfl (opv_mv rfl) ?_
      refine dv rfl (opv_bs (l := v5.1) Try.underlying26 Try.underlying5 Try.underlying9 rfl rfl rfl) ?_
      refine dv rfl (opv_sneq' rfl rfl) ?_
      refine dv rfl (opv_mv rfl) ?_
      refine dsplit 78 rfl (fun hc => ?_) (fun hc => ?_)
      · replace h := ite_t hc h
        clear hc
        refine doff rfl rfl rfl rfl ?_
        refine doff rfl rfl rfl rfl ?_
        refine doff rfl rfl rfl rfl ?_
        refine dv rfl (opv_pick_t rfl rfl) ?_
        refine dv rfl (opv_mv rfl) ?_
        refine doff rfl rfl rfl rfl ?_
        refine doff rfl rfl rfl rfl ?_
        refine doff rfl rfl rfl rfl ?_
        refine doff rfl rfl rfl rfl ?_
        refine doff rfl rfl rfl rfl ?_
        refine dv rfl (opv_pick_t rfl rfl) ?_
        refine dv rfl (opv_mv rfl) ?_
        refine doff rfl rfl rfl rfl ?_
        refine doff rfl rfl rfl rfl ?_
        refine doff rfl rfl rfl rfl ?_
        refine dv rfl (opv_pick_t rfl rfl) ?_
        refine dv rfl (opv_mv rfl) ?_
        refine doff rfl rfl rfl rfl ?_
        refine doff rfl rfl rfl rfl ?_
        refine doff rfl rfl rfl rfl ?_
        refine doff rfl rfl rfl rfl ?_
        refine doff rfl rfl rfl rfl ?_
        refine doff rfl rfl rfl rfl ?_
        refine doff rfl rfl rfl rfl ?_
        refine doff rfl rfl rfl rfl ?_
        refine doff rfl rfl rfl rfl ?_
        refine doff rfl rfl rfl rfl ?_
        refine doff rfl rfl rfl rfl ?_
        refine doff rfl rfl rfl rfl ?_
        refine dv rfl (opv_pick_t rfl rfl) ?_
        refine dnil ?_
        refine then_normal ?_
        refine ccond rfl (fun _ => ?_) (fun hx => Bool.noConfusion hx)
        refine cseq ?_
        refine cregion ?_
        refine sv rfl (opv_as rfl) ?_
        refine snil ?_
        refine cret ?_
        refine then_ret ?_
        obtain rfl := Option.some.inj h
        refine ⟨Or.inr rfl, _, _, _, (resVs_cons (ResV.tmp _ _ rfl) resVs_nil), (pubA_id rfl), ?_⟩
        rfl
      · replace h := ite_f hc h
        clear hc
        refine dvg rfl rfl rfl (opv_mv rfl) ?_
        refine dvg rfl rfl rfl (opv_mv rfl) ?_
        refine dvg rfl rfl rfl (opv_bneq Try.underlying4 rfl rfl) ?_
        refine dv rfl (opv_pick_f rfl rfl) ?_
        refine dv rfl (opv_mv rfl) ?_
        refine dsplit 83 rfl (fun hc => ?_) (fun hc => ?_)
        · replace h := ite_t hc h
          clear hc
          refine doff rfl rfl rfl rfl ?_
          refine doff rfl rfl rfl rfl ?_
          refine doff rfl rfl rfl rfl ?_
          refine doff rfl rfl rfl rfl ?_
          refine doff rfl rfl rfl rfl ?_
          refine dv rfl (opv_pick_t rfl rfl) ?_
          refine dv rfl (opv_mv rfl) ?_
          refine doff rfl rfl rfl rfl ?_
          refine doff rfl rfl rfl rfl ?_
          refine doff rfl rfl rfl rfl ?_
          refine dv rfl (opv_pick_t rfl rfl) ?_
          refine dv rfl (opv_mv rfl) ?_
          refine doff rfl rfl rfl rfl ?_
          refine doff rfl rfl rfl rfl ?_
          refine doff rfl rfl rfl rfl ?_
          refine doff rfl rfl rfl rfl ?_
          refine doff rfl rfl rfl rfl ?_
          refine doff rfl rfl rfl rfl ?_
          refine doff rfl rfl rfl rfl ?_
          refine doff rfl rfl rfl rfl ?_
          refine doff rfl rfl rfl rfl ?_
          refine doff rfl rfl rfl rfl ?_
          refine doff rfl rfl rfl rfl ?_
          refine doff rfl rfl rfl rfl ?_
          refine dv rfl (opv_pick_t rfl rfl) ?_
          refine dnil ?_
          refine then_normal ?_
          refine ccond rfl (fun _ => ?_) (fun hx => Bool.noConfusion hx)
          refine cseq ?_
          refine cregion ?_
          refine sv rfl (opv_as rfl) ?_
          refine snil ?_
          refine cret ?_
          refine then_ret ?_
          obtain rfl := Option.some.inj h
          refine ⟨Or.inr rfl, _, _, _, (resVs_cons (ResV.tmp _ _ rfl) resVs_nil), (pubA_id rfl), ?_⟩
          rfl
        · replace h := ite_f hc h
          clear hc
          refine dvg rfl rfl rfl (opv_loadN ti36 rfl (.lp _ _ _ rfl) (Nat.le_of_ble_eq_true rfl)) ?_
          obtain ⟨v25, hv25, h⟩ := bind_eq h
          refine ddg rfl rfl rfl (opD_call fn19 (opnds_cons rfl opnds_nil) rfl (m19_l08_theirs_c hv25)) ?_
          refine dvg rfl rfl rfl (opv_loadN ti25 rfl (.lp _ _ _ rfl) (Nat.le_of_ble_eq_true rfl)) ?_
          obtain ⟨v26, hv26, h⟩ := bind_eq h
          refine ddg rfl rfl rfl (opD_call fn18 (opnds_cons rfl (opnds_cons rfl opnds_nil)) rfl (m18_r08_Same_c hv26)) ?_
          refine dvg rfl rfl rfl (opv_not rfl) ?_
          refine dv rfl (opv_pick_f rfl rfl) ?_
          refine dv rfl (opv_mv rfl) ?_
          refine dsplit 90 rfl (fun hc => ?_) (fun hc => ?_)
          · replace h := ite_t hc h
            clear hc
            refine doff rfl rfl rfl rfl ?_
            refine doff rfl rfl rfl rfl ?_
            refine doff rfl rfl rfl rfl ?_
            refine dv rfl (opv_pick_t rfl rfl) ?_
            refine dv rfl (opv_mv rfl) ?_
            refine doff rfl rfl rfl rfl ?_
            refine doff rfl rfl rfl rfl ?_
            refine doff rfl rfl rfl rfl ?_
            refine doff rfl rfl rfl rfl ?_
            refine doff rfl rfl rfl rfl ?_
            refine doff rfl rfl rfl rfl ?_
            refine doff rfl rfl rfl rfl ?_
            refine doff rfl rfl rfl rfl ?_
            refine doff rfl rfl rfl rfl ?_
            refine doff rfl rfl rfl rfl ?_
            refine doff rfl rfl rfl rfl ?_
            refine doff rfl rfl rfl rfl ?_
            refine dv rfl (opv_pick_t rfl rfl) ?_
            refine dnil ?_
            refine then_normal ?_
            refine ccond rfl (fun _ => ?_) (fun hx => Bool.noConfusion hx)
            refine cseq ?_
            refine cregion ?_
            refine sv rfl (opv_as rfl) ?_
            refine snil ?_
            refine cret ?_
            refine then_ret ?_
            obtain rfl := Option.some.inj h
            refine ⟨Or.inr rfl, _, _, _, (resVs_cons (ResV.tmp _ _ rfl) resVs_nil), (pubA_id rfl), ?_⟩
            rfl
          · replace h := ite_f hc h
            clear hc
            refine dvg rfl rfl rfl (opv_mv rfl) ?_
            refine dvg rfl rfl rfl (opv_mv rfl) ?_
            refine dvg rfl rfl rfl (opv_ineq rfl rfl) ?_
            refine dv rfl (opv_pick_f rfl rfl) ?_
            refine dv rfl (opv_mv rfl) ?_
            refine dsplit 95 rfl (fun hc => ?_) (fun hc => ?_)
            · replace h := ite_t hc h
              clear hc
              refine doff rfl rfl rfl rfl ?_
              refine doff rfl rfl rfl rfl ?_
              refine doff rfl rfl rfl rfl ?_
              refine doff rfl rfl rfl rfl ?_
              refine doff rfl rfl rfl rfl ?_
              refine doff rfl rfl rfl rfl ?_
              refine doff rfl rfl rfl rfl ?_
              refine doff rfl rfl rfl rfl ?_
              refine doff rfl rfl rfl rfl ?_
              refine doff rfl rfl rfl rfl ?_
              refine doff rfl rfl rfl rfl ?_
              refine doff rfl rfl rfl rfl ?_
              refine dv rfl (opv_pick_t rfl rfl) ?_
              refine dnil ?_
              refine then_normal ?_
              refine ccond rfl (fun _ => ?_) (fun hx => Bool.noConfusion hx)
              refine cseq ?_
              refine cregion ?_
              refine sv rfl (opv_as rfl) ?_
              refine snil ?_
              refine cret ?_
              refine then_ret ?_
              obtain rfl := Option.some.inj h
              refine ⟨Or.inr rfl, _, _, _, (resVs_cons (ResV.tmp _ _ rfl) resVs_nil), (pubA_id rfl), ?_⟩
              rfl
            · replace h := ite_f hc h
              clear hc
              refine dvg rfl rfl rfl (opv_loadN ti36 rfl (.lp _ _ _ rfl) (Nat.le_of_ble_eq_true rfl)) ?_
              refine dvg rfl rfl rfl (opv_loadN ti28 rfl (.lp _ _ _ rfl) (Nat.le_of_ble_eq_true rfl)) ?_
              refine dvg rfl rfl rfl (opv_mv rfl) ?_
              refine dvg rfl rfl rfl (opv_mv rfl) ?_
              obtain ⟨v27, hv27, h⟩ := bind_eq h
              refine ddg rfl rfl rfl (opD_call fn21 (opnds_cons rfl (opnds_cons rfl (opnds_cons rfl (opnds_cons rfl opnds_nil)))) rfl (m21_store_Scan_c hv27)) ?_
              refine dvg rfl rfl rfl (opv_loadN ti25 rfl (.lp _ _ _ rfl) (Nat.le_of_ble_eq_true rfl)) ?_
              refine dvg rfl rfl rfl (opv_loadN ti28 rfl (.lp _ _ _ rfl) (Nat.le_of_ble_eq_true rfl)) ?_
              refine dvg rfl rfl rfl (opv_mv rfl) ?_
              refine dvg rfl rfl rfl (opv_mv rfl) ?_
              obtain ⟨v28, hv28, h⟩ := bind_eq h
              refine ddg rfl rfl rfl (opD_call fn22 (opnds_cons rfl (opnds_cons rfl (opnds_cons rfl (opnds_cons rfl opnds_nil)))) rfl (m22_r08_Scan_c hv28)) ?_
              obtain ⟨v29, hv29, h⟩ := bind_eq h
              refine ddg rfl rfl rfl (opD_call fn20 (opnds_cons rfl (opnds_cons rfl opnds_nil)) rfl (m20_r05_KVs_c hv29)) ?_
              refine dvg rfl rfl rfl (opv_not rfl) ?_
              refine dv rfl (opv_pick_f rfl rfl) ?_
              refine dnil ?_
              refine then_normal ?_
              refine ccond rfl (fun hc => ?_) (fun hc => ?_)
              · replace h := ite_t hc h
                clear hc
                refine cseq ?_
                refine cregion ?_
                refine sv rfl (opv_as rfl) ?_
                refine snil ?_
                refine cret ?_
                refine then_ret ?_
                obtain rfl := Option.some.inj h
                refine ⟨Or.inr rfl, _, _, _, (resVs_cons (ResV.tmp _ _ rfl) resVs_nil), (pubA_id rfl), ?_⟩
                rfl
              · replace h := ite_f hc h
                clear hc
                refine cskip ?_
                refine then_normal ?_
                exact ⟨(), _, h, ⟨rfl, rfl, rfl, rfl, rfl, rfl, trivial⟩, rfl⟩
  · skip
    refine cregion ?_
    refine sv rfl (opv_loadN ti25 rfl (.lp _ _ _ rfl) (Nat.le_of_ble_eq_true rfl)) ?_
    obtain ⟨v30, hv30, h⟩ := bind_eq h
    refine scall1 rfl fn10 (opnds_cons rfl opnds_nil) (pubA_id rfl) (m10_r08_Few_c hv30) ?_
    refine sv rfl (opv_not rfl) ?_
    refine sv rfl (opv_mv rfl) ?_
    refine ssplit 27 rfl (fun hc => ?_) (fun hc => ?_)
    · replace h := ite_t hc h
      clear hc
      refine soff rfl rfl rfl rfl ?_
      refine soff rfl rfl rfl rfl ?_
      refine soff rfl rfl rfl rfl ?_
      refine sv rfl (opv_pick_t rfl rfl) ?_
      refine sv rfl (opv_mv rfl) ?_
      refine soff rfl rfl rfl rfl ?_
      refine soff rfl rfl rfl rfl ?_
      refine soff rfl rfl rfl rfl ?_
      refine sv rfl (opv_pick_t rfl rfl) ?_
      refine sv rfl (opv_mv rfl) ?_
      refine soff rfl rfl rfl rfl ?_
      refine soff rfl rfl rfl rfl ?_
      refine soff rfl rfl rfl rfl ?_
      refine sv rfl (opv_pick_t rfl rfl) ?_
      refine snil ?_
      refine ccond rfl (fun _ => ?_) (fun hx => Bool.noConfusion hx)
      refine cseq ?_
      refine cregion ?_
      refine sv rfl (opv_mv rfl) ?_
      refine sv rfl (opv_as rfl) ?_
      refine snil ?_
      refine cret ?_
      refine then_ret ?_
      obtain rfl := Option.some.inj h
      refine ⟨Or.inr rfl, _, _, _, (resVs_cons (ResV.tmp _ _ rfl) resVs_nil), (pubA_id rfl), ?_⟩
      rfl
    · replace h := ite_f hc h
      clear hc
      refine son rfl rfl rfl ?_
      refine sv rfl (opv_mv rfl) ?_
      refine son rfl rfl rfl ?_
      refine sv rfl (opv_len_sl si26 rfl) ?_
      refine son rfl rfl rfl ?_
      refine sv rfl (opv_gtr rfl rfl) ?_
      refine sv rfl (opv_pick_f rfl rfl) ?_
      refine sv rfl (opv_mv rfl) ?_
      refine ssplit 32 rfl (fun hc => ?_) (fun hc => ?_)
      · replace h := ite_t hc h
        clear hc
        refine soff rfl rfl rfl rfl ?_
        refine soff rfl rfl rfl rfl ?_
        refine soff rfl rfl rfl rfl ?_
        refine sv rfl (opv_pick_t rfl rfl) ?_
        refine sv rfl (opv_mv rfl) ?_
        refine soff rfl rfl rfl rfl ?_
        refine soff rfl rfl rfl rfl ?_
        refine soff rfl rfl rfl rfl ?_
        refine sv rfl (opv_pick_t rfl rfl) ?_
        refine snil ?_
        refine ccond rfl (fun _ => ?_) (fun hx => Bool.noConfusion hx)
        refine cseq ?_
        refine cregion ?_
        refine sv rfl (opv_mv rfl) ?_
        refine sv rfl (opv_as rfl) ?_
        refine snil ?_
        refine cret ?_
        refine then_ret ?_
        obtain rfl := Option.some.inj h
        refine ⟨Or.inr rfl, _, _, _, (resVs_cons (ResV.tmp _ _ rfl) resVs_nil), (pubA_id rfl), ?_⟩
        rfl
      · replace h := ite_f hc h
        clear hc
        refine son rfl rfl rfl ?_
        refine sv rfl (opv_loadN ti28 rfl (.lp _ _ _ rfl) (Nat.le_of_ble_eq_true rfl)) ?_
        refine son rfl rfl rfl ?_
        obtain ⟨v31, hv31, h⟩ := bind_eq h
        refine scall1 rfl fn11 (opnds_cons rfl opnds_nil) (pubA_id rfl) (m11_r06_Short_c hv31) ?_
        refine son rfl rfl rfl ?_
        refine sv rfl (opv_not rfl) ?_
        refine sv rfl (opv_pick_f rfl rfl) ?_
        refine sv rfl (opv_mv rfl) ?_
        refine ssplit 37 rfl (fun hc => ?_) (fun hc => ?_)
        · replace h := ite_t hc h
          clear hc
          refine soff rfl rfl rfl rfl ?_
          refine soff rfl rfl rfl rfl ?_
          refine soff rfl rfl rfl rfl ?_
          refine sv rfl (opv_pick_t rfl rfl) ?_
          refine snil ?_
          refine ccond rfl (fun _ => ?_) (fun hx => Bool.noConfusion hx)
          refine cseq ?_
          refine cregion ?_
          refine sv rfl (opv_mv rfl) ?_
          refine sv rfl (opv_as rfl) ?_
          refine snil ?_
          refine cret ?_
          refine then_ret ?_
          obtain rfl := Option.some.inj h
          refine ⟨Or.inr rfl, _, _, _, (resVs_cons (ResV.tmp _ _ rfl) resVs_nil), (pubA_id rfl), ?_⟩
          rfl
        · replace h := ite_f hc h
          clear hc
          refine son rfl rfl rfl ?_
          refine sv rfl (opv_mv rfl) ?_
          refine son rfl rfl rfl ?_
          obtain ⟨v32, hv32, h⟩ := bind_eq h
          refine scall1 rfl fn12 (opnds_cons rfl opnds_nil) (pubA_id rfl) (m12_r08_FewWrites_c hv32) ?_
          refine son rfl rfl rfl ?_
          refine sv rfl (opv_not rfl) ?_
          refine sv rfl (opv_pick_f rfl rfl) ?_
          refine snil ?_
          refine ccond rfl (fun hc => ?_) (fun hc => ?_)
          · replace h := ite_t hc h
            clear hc
            refine cseq ?_
            refine cregion ?_
            refine sv rfl (opv_mv rfl) ?_
            refine sv rfl (opv_as rfl) ?_
            refine snil ?_
            refine cret ?_
            refine then_ret ?_
            obtain rfl := Option.some.inj h
            refine ⟨Or.inr rfl, _, _, _, (resVs_cons (ResV.tmp _ _ rfl) resVs_nil), (pubA_id rfl), ?_⟩
            rfl
          · replace h := ite_f hc h
            clear hc
            refine cskip ?_
            refine then_normal ?_
            exact ⟨(), _, h, ⟨rfl, rfl, rfl, rfl, rfl, rfl, rfl, trivial⟩, rfl⟩


end Go.Proofs.Ytbojepclnfnmcaa.Abs
