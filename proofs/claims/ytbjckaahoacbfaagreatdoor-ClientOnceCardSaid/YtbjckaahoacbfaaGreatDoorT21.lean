/-
 t
-/
import Derived.Test.YtbjckaahoacbfaaGreatDoorT21c
set_option linter.unusedVariables false
set_option linter.unusedSimpArgs false
namespace Go.Proofs.YtbjckaahoacbfaaGreatDoor.Abs
open Go.RowKit Go.Proofs
def K6 (a0 : List I9) : Option Bool :=
 (Ou).bind fun v1 => (Nh a0).bind fun v2 => if (!v2) then (some v1) else ((Ng).bind fun v3 => (Kz v3).bind fun v4 => if (!decide (v4.2 = 0)) then (some false) else ((Qg (Ek a0) Di (0, 0, v4.1)).bind fun x => match x with | .inl r => some r | .inr e18 => Lp v1 e18))
set_option maxRecDepth 100000 in
theorem S9 {a0 : List I9} {r : Bool} (h : K6 a0 = some r) : Bp Tryz.prog 3 [.one (.sl a0.length (a0.flatMap Jg))] (· = .s (.one (.b r))) := by
 unfold K6 at h
 refine A1 Tryz.func3 rfl (nt := 133) rfl (Nbl rfl) ?_
 intro w0 S0
 refine Aq (Ab (sv rfl (Ak rfl) (As (Aq (Ab ?_)))))
 obtain ⟨v1, hv1, h⟩ := An h
 refine A2 rfl fn7 Al (Aj rfl) (Xb hv1) (sv rfl (Ak rfl) (As (Aq (Aq (Ab (sv rfl (Ag rfl) ?_))))))
 obtain ⟨v2, hv2, h⟩ := An h
 refine A2 rfl fn8 (Ac rfl Al) (Aj rfl) (Xd hv2) (sv rfl (B9 rfl) (As (ccI h rfl (fun h => ?_) (fun h => ?_))))
 ·refine Aq (Ab (sv rfl (Ag rfl) (sv rfl (Ak rfl) (As (Bj (Ar ?_))))))
  obtain rfl := Option.some.inj h
  refine ⟨Or.inr rfl, _, _, _, (Ad (Bd.tmp _ _ rfl) Af), (Aj rfl), ?_⟩
  rfl
 ·refine Bl (Ai (Aq (Ab ?_)))
  obtain ⟨v3, hv3, h⟩ := An h
  refine A2 rfl Atm Al (Aj rfl) (Se hv3) ?_
  obtain ⟨v4, hv4, h⟩ := An h
  refine A2 rfl fn9 (Ac rfl Al) (Aj rfl) (Ql hv4) (sv rfl (Gj rfl) (sv rfl (Bc rfl rfl) (sv rfl (Bc rfl rfl) (Bz rfl Nn (Ax Ey rfl rfl rfl rfl (Nbl rfl) (Bs [.box (EL.el v4.1)] rfl (sv rfl (Ak rfl) (As (Aq (Aq (Ab (sv rfl (Ag rfl) (sv rfl (Cd rfl rfl) (As (ccI h rfl (fun h => ?_) (fun h => ?_))))))))))))))))
  ·refine Aq (Ab (sv rfl (Ak rfl) (As (Bj (Ar ?_)))))
   obtain rfl := Option.some.inj h
   refine ⟨Or.inr rfl, _, _, _, (Ad (Bd.tmp _ _ rfl) Af), (Aj rfl), ?_⟩
   rfl
  ·refine Bl (Ai (Aq (Ab (sv rfl (Ak rfl) (As (Aq (Aq (Ab (sv rfl (Ak rfl) (As (G5 (Ah) (fun b5 => [(3, .s (.one (.b v1)))]) (fun b5 => [.box (EL.el b5)]) (fun b5 => Lp v1 b5 = some r) (fun _ _ => Be rfl) (fun _ _ => A0 rfl) (fun _ _ => Nat.le_of_ble_eq_true rfl) (fun b5 h => ?_) ?_)))))))))))
   ·unfold Lp at h
    refine Aq (Ab (sv rfl (Ag rfl) (sv rfl (Ak rfl) (As (Bj ?_)))))
    obtain rfl := Option.some.inj h
    refine ⟨Or.inr rfl, _, _, _, (Ad (Bd.tmp _ _ rfl) Af), (Aj rfl), ?_⟩
    rfl
   ·skip
    refine B7 ?_
    obtain ⟨x6, hx6, ho6⟩ := An h
    refine Da (G := Nat × (Int × Int × Ah)) (fun g => [(0, .s (.one (.sl a0.length (a0.flatMap Jg)))), (3, .s (.one (.b v1))), (4, .s (.one (.lp 0 0))), (6, .s (.one (Ii6 g.2.1))), (7, .s (.one (Ii6 g.2.2.1)))]) (fun g => [.box (EL.el g.2.2.2)]) (fun g => Qg (Ek a0) g.1 g.2 = some x6) (fun g => g.1) (Di, (0, 0, v4.1)) hx6 ⟨rfl, rfl, rfl, rfl, rfl, trivial⟩ [] rfl (fun _ _ => Be rfl) (fun _ _ => A0 rfl) (fun _ _ => Nat.le_of_ble_eq_true rfl) ?_
    clear hx6 h
    rintro ⟨n6, s6⟩ h
    obtain ⟨n6, y6, rfl, h, hk6⟩ := Oc h
    unfold Ek at h
    refine Aq (Aq (Ab (sv rfl (Ag rfl) (sv rfl (Ag rfl) (sv rfl (Az Alo rfl) (sv rfl (Cp rfl rfl) (As (ccI h rfl (fun h => ?_) (fun h => ?_)))))))))
    ·refine Bl (Ai (Aq (B7 (Aq (Ab (sv rfl (Ag rfl) (sv rfl (Ag rfl) ?_)))))))
     obtain ⟨u7, hu7, h⟩ := An h
     refine sv rfl (Fe (f := Jg) Alo (fun _ => rfl) rfl rfl rfl rfl hu7) ?_
     refine sv rfl (Dd (ys := [Ii6 u7.What, Ii6 u7.N, Ii6 u7.Task.Token, .b u7.Task.Prog.RO, .sl u7.Task.Prog.Ops.length (u7.Task.Prog.Ops.flatMap O5), Ii6 u7.Reply.Kind, Ii6 u7.Reply.Seq, Ii6 u7.Reply.Code, Ii6 u7.Reply.N, .b u7.Reply.Found, .sl u7.Reply.Val.length (u7.Reply.Val.flatMap eU8), .sl u7.Reply.List.length (u7.Reply.List.flatMap Dw), .sl u7.Bytes.length (u7.Bytes.flatMap eU8)]) Aum rfl (.cp _) rfl rfl) (Bz rfl Aut (Ax Awb rfl rfl rfl rfl (Nbl rfl) (Bs [.box (EL.el s6.2.2), .box (EL.el u7)] rfl (As (Aq (Ab (sv rfl (Ag rfl) (sv rfl (Aa Acr rfl) (sv rfl (Aa Ak5 rfl) (Ax sz3 rfl rfl rfl rfl (Nbl rfl) (Bs [.box (EL.el s6.2.2), .box (EL.el {u7 with Task.Token := s6.2.1})] rfl (As (Aq (Ab (sv rfl (Aa Lw rfl) (sv rfl (Ae Xy rfl (.lp _ _ _ rfl) rfl) (sv rfl (Az T6 rfl) (sv rfl (Ak rfl) (As (Aq (Ab (sv rfl (Aa Ol rfl) (sv rfl (Ae Aet rfl (.lp _ _ _ rfl) rfl) (sv rfl (Az Zf rfl) (sv rfl (Ak rfl) (As (Aq (Ab (sv rfl (Ao B5 rfl (.lp _ _ _ rfl) (Nbl rfl)) (sv rfl (Ao Aum rfl (.lp _ _ _ rfl) (Nbl rfl)) ?_))))))))))))))))))))))))))))))
     obtain ⟨v8, hv8, h⟩ := An h
     refine A2 rfl Awf (Ac rfl (Ac rfl Al)) (Aj rfl) (W7 hv8) (Bz rfl Nn (Ax Ey rfl rfl rfl rfl (Nbl rfl) (Bs [.box (EL.el s6.2.2), .box (EL.el {u7 with Task.Token := s6.2.1}), .box (EL.el v8)] rfl (As (Aq (Aq (Ki (Int) (fun b9 => [(0, .s (.one (.sl a0.length (a0.flatMap Jg)))), (3, .s (.one (.b v1))), (4, .s (.one (.lp 0 0))), (6, .s (.one (Ii6 b9))), (7, .s (.one (Ii6 s6.2.1))), (11, .s (.one (.lp 2 0)))]) (fun b9 => [.box (EL.el s6.2.2), .box (EL.el {u7 with Task.Token := s6.2.1}), .box (EL.el v8)]) (fun b9 => Dp s6 v8 b9 = some y6) (fun _ _ => Be rfl) (fun _ _ => A0 rfl) (fun _ _ => Nat.le_of_ble_eq_true rfl) (fun b9 h => ?_) ?_)))))))
     ·unfold Dp at h
      refine Aq (Ab (sv rfl (Ao B5 rfl (.lp _ _ _ rfl) (Nbl rfl)) (Ax Ey rfl rfl rfl rfl (Nbl rfl) (Bs [.box (EL.el v8), .box (EL.el {u7 with Task.Token := s6.2.1}), .box (EL.el v8)] rfl (As (Aq (Ab (sv rfl (Aa Lw rfl) (sv rfl (Ae Xy rfl (.lp _ _ _ rfl) rfl) (sv rfl (Az T6 rfl) (sv rfl (Ak rfl) (As (Aq (Aq (Ab (sv rfl (Aa G4 rfl) (sv rfl (Ae ti3 rfl (.lp _ _ _ rfl) rfl) (sv rfl (Bq rfl rfl) (As (G5 (Int) (fun b10 => [(0, .s (.one (.sl a0.length (a0.flatMap Jg)))), (3, .s (.one (.b v1))), (4, .s (.one (.lp 0 0))), (6, .s (.one (Ii6 b9))), (7, .s (.one (Ii6 s6.2.1))), (12, .s (.one (Ii6 b10)))]) (fun b10 => [.box (EL.el v8), .box (EL.el {u7 with Task.Token := s6.2.1}), .box (EL.el v8)]) (fun b10 => Fc s6 v8 b9 b10 = some y6) (fun _ _ => Be rfl) (fun _ _ => A0 rfl) (fun _ _ => Nat.le_of_ble_eq_true rfl) (fun b10 h => ?_) ?_))))))))))))))))))))
      ·unfold Fc at h
       refine Aq (Aq (Ki (Unit) (fun b11 => [(0, .s (.one (.sl a0.length (a0.flatMap Jg)))), (3, .s (.one (.b v1))), (4, .s (.one (.lp 0 0))), (6, .s (.one (Ii6 b9))), (7, .s (.one (Ii6 s6.2.1)))]) (fun b11 => [.box (EL.el v8), .box (EL.el {u7 with Task.Token := s6.2.1}), .box (EL.el v8)]) (fun b11 => Ik s6 v8 b9 b11 = some y6) (fun _ _ => Be rfl) (fun _ _ => A0 rfl) (fun _ _ => Nat.le_of_ble_eq_true rfl) (fun b11 h => ?_) ?_))
       ·unfold Ik at h
        refine Aq (Ab (sv rfl (Ak rfl) (As (Aqd (Unit) (fun b12 => [(0, .s (.one (.sl a0.length (a0.flatMap Jg)))), (3, .s (.one (.b v1))), (4, .s (.one (.lp 0 0))), (6, .s (.one (Ii6 b9))), (7, .s (.one (Ii6 s6.2.1)))]) (fun b12 => [.box (EL.el v8), .box (EL.el {u7 with Task.Token := s6.2.1}), .box (EL.el v8)]) (fun b12 => Kn s6 v8 b9 b12 = some y6) (fun _ _ => Be rfl) (fun _ _ => A0 rfl) (fun _ _ => Nat.le_of_ble_eq_true rfl) (fun b12 h => ?_) ?_))))
        ·unfold Kn at h
         refine Ab (sv rfl (Ag rfl) (sv rfl (B0 rfl rfl) (sv rfl (Ak rfl) (As ?_))))
         obtain rfl := Option.some.inj h
         exact ⟨(n6, (b9, (wI (s6.2.1 + 1)), v8)), _, hk6, ⟨rfl, rfl, rfl, rfl, rfl, trivial⟩, rfl, Nat.lt_succ_self _⟩
        ·skip
         refine B7 ?_
         obtain ⟨x13, hx13, ho13⟩ := An h
         refine Da (G := Nat × (Int)) (fun g => [(0, .s (.one (.sl a0.length (a0.flatMap Jg)))), (3, .s (.one (.b v1))), (4, .s (.one (.lp 0 0))), (6, .s (.one (Ii6 b9))), (7, .s (.one (Ii6 s6.2.1))), (13, .s (.one (Ii6 g.2)))]) (fun g => [.box (EL.el v8), .box (EL.el {u7 with Task.Token := s6.2.1}), .box (EL.el v8)]) (fun g => Qg (D8 v8) g.1 g.2 = some x13) (fun g => g.1) (Di, 0) hx13 ⟨rfl, rfl, rfl, rfl, rfl, rfl, trivial⟩ [] rfl (fun _ _ => Be rfl) (fun _ _ => A0 rfl) (fun _ _ => Nat.le_of_ble_eq_true rfl) ?_
         clear hx13 h
         rintro ⟨n13, s13⟩ h
         obtain ⟨n13, y13, rfl, h, hk13⟩ := Oc h
         unfold D8 at h
         refine Aq (Aq (Ab (sv rfl (Ag rfl) (sv rfl (Aa Ol rfl) (sv rfl (Ae Aet rfl (.lp _ _ _ rfl) rfl) (sv rfl (Az Zf rfl) (sv rfl (Cp rfl rfl) (As (ccI h rfl (fun h => ?_) (fun h => ?_))))))))))
         ·refine Bl (Ai (Aq (B7 (Aq (Ab (sv rfl (Aa Ol rfl) (sv rfl (Ae Aet rfl (.lp _ _ _ rfl) rfl) (sv rfl (Ag rfl) ?_))))))))
          obtain ⟨u14, hu14, h⟩ := An h
          refine sv rfl (Fe (f := A6) Zf (fun _ => rfl) rfl rfl rfl rfl hu14) ?_
          refine sv rfl (Dd (ys := [Ii6 u14.Token, Ii6 u14.Code, Ii6 u14.Attempt, Ii6 u14.Ts, Ii6 u14.Regs.R0, Ii6 u14.Regs.R1, Ii6 u14.Regs.R2, Ii6 u14.Regs.R3, Ii6 u14.Regs.R4, Ii6 u14.Regs.R5, Ii6 u14.Regs.R6, Ii6 u14.Regs.R7]) Ary rfl (.cp _) rfl rfl) (Bz rfl Aoc (Ax Atn rfl rfl rfl rfl (Nbl rfl) (Bs [.box (EL.el v8), .box (EL.el {u7 with Task.Token := s6.2.1}), .box (EL.el v8), .box (EL.el u14)] rfl (As (Aq (Ab (sv rfl (Aa Ol rfl) (sv rfl (Ae Aet rfl (.lp _ _ _ rfl) rfl) (sv rfl (Aa Af0 rfl) (sv rfl (Ae ti3 rfl (.lp _ _ _ rfl) rfl) ?_))))))))))
          obtain ⟨v15, hv15, h⟩ := An h
          refine A2 rfl Av1 (Ac rfl (Ac rfl Al)) (Aj rfl) (Wj hv15) (sv rfl (Cd rfl rfl) (sv rfl (Ag rfl) (Bo 107 rfl (fun hc => ?_) (fun hc => ?_))))
          ·replace h := B2 hc h
           clear hc
           refine Av rfl rfl rfl rfl (Av rfl rfl rfl rfl (Av rfl rfl rfl rfl (sv rfl (Au rfl rfl) (sv rfl (Ag rfl) (Av rfl rfl rfl rfl (Av rfl rfl rfl rfl (Av rfl rfl rfl rfl (sv rfl (Au rfl rfl) (sv rfl (Ag rfl) (Av rfl rfl rfl rfl (Av rfl rfl rfl rfl (Av rfl rfl rfl rfl (Av rfl rfl rfl rfl (Fz rfl rfl rfl (Fz rfl rfl rfl (Fz rfl rfl rfl (Av rfl rfl rfl rfl (Av rfl rfl rfl rfl (Fz rfl rfl rfl (Fz rfl rfl rfl (Fz rfl rfl rfl (Av rfl rfl rfl rfl (sv rfl (Au rfl rfl) (As (G0 rfl (fun _ => ?_) (fun hx => Bool.noConfusion hx))))))))))))))))))))))))))
           refine Aq (Ab (sv rfl (Ak rfl) (As (Bj (A9 (Ar (Ar (A9 (A9 (Ar (Ar (A9 (Ar ?_)))))))))))))
           obtain rfl := Option.some.inj h
           obtain rfl : Sum.inl _ = x13 := hk13
           replace ho13 : some _ = some _ := ho13
           obtain rfl := Option.some.inj ho13
           obtain rfl : Sum.inl _ = x6 := hk6
           replace ho6 : some _ = some _ := ho6
           obtain rfl := Option.some.inj ho6
           refine ⟨Or.inr rfl, _, _, _, (Ad (Bd.tmp _ _ rfl) Af), (Aj rfl), ?_⟩
           rfl
          ·replace h := B1 hc h
           clear hc
           refine son rfl rfl rfl (sv rfl (Aa Ac3 rfl) (son rfl rfl rfl (sv rfl (Ae ti3 rfl (.lp _ _ _ rfl) rfl) (son rfl rfl rfl (sv rfl (Cp rfl rfl) (sv rfl (Am rfl rfl) (sv rfl (Ag rfl) (Bo 112 rfl (fun hc => ?_) (fun hc => ?_)))))))))
           ·replace h := B2 hc h
            clear hc
            refine Av rfl rfl rfl rfl (Av rfl rfl rfl rfl (Av rfl rfl rfl rfl (sv rfl (Au rfl rfl) (sv rfl (Ag rfl) (Av rfl rfl rfl rfl (Av rfl rfl rfl rfl (Av rfl rfl rfl rfl (Av rfl rfl rfl rfl (Fz rfl rfl rfl (Fz rfl rfl rfl (Fz rfl rfl rfl (Av rfl rfl rfl rfl (Av rfl rfl rfl rfl (Fz rfl rfl rfl (Fz rfl rfl rfl (Fz rfl rfl rfl (Av rfl rfl rfl rfl (sv rfl (Au rfl rfl) (As (G0 rfl (fun _ => ?_) (fun hx => Bool.noConfusion hx)))))))))))))))))))))
            refine Aq (Ab (sv rfl (Ak rfl) (As (Bj (A9 (Ar (Ar (A9 (A9 (Ar (Ar (A9 (Ar ?_)))))))))))))
            obtain rfl := Option.some.inj h
            obtain rfl : Sum.inl _ = x13 := hk13
            replace ho13 : some _ = some _ := ho13
            obtain rfl := Option.some.inj ho13
            obtain rfl : Sum.inl _ = x6 := hk6
            replace ho6 : some _ = some _ := ho6
            obtain rfl := Option.some.inj ho6
            refine ⟨Or.inr rfl, _, _, _, (Ad (Bd.tmp _ _ rfl) Af), (Aj rfl), ?_⟩
            rfl
           ·replace h := B1 hc h
            clear hc
            refine son rfl rfl rfl (sv rfl (Aa Ac3 rfl) (son rfl rfl rfl (sv rfl (Ae ti3 rfl (.lp _ _ _ rfl) rfl) (son rfl rfl rfl (sv rfl (C6 rfl rfl) (sv rfl (Am rfl rfl) (sv rfl (Ag rfl) (Bo 117 rfl (fun hc => ?_) (fun hc => ?_)))))))))
            ·replace h := B2 hc h
             clear hc
             refine Av rfl rfl rfl rfl (Av rfl rfl rfl rfl (Av rfl rfl rfl rfl (Av rfl rfl rfl rfl (Fz rfl rfl rfl (Fz rfl rfl rfl (Fz rfl rfl rfl (Av rfl rfl rfl rfl (Av rfl rfl rfl rfl (Fz rfl rfl rfl (Fz rfl rfl rfl (Fz rfl rfl rfl (Av rfl rfl rfl rfl (sv rfl (Au rfl rfl) (As (G0 rfl (fun _ => ?_) (fun hx => Bool.noConfusion hx))))))))))))))))
             refine Aq (Ab (sv rfl (Ak rfl) (As (Bj (A9 (Ar (Ar (A9 (A9 (Ar (Ar (A9 (Ar ?_)))))))))))))
             obtain rfl := Option.some.inj h
             obtain rfl : Sum.inl _ = x13 := hk13
             replace ho13 : some _ = some _ := ho13
             obtain rfl := Option.some.inj ho13
             obtain rfl : Sum.inl _ = x6 := hk6
             replace ho6 : some _ = some _ := ho6
             obtain rfl := Option.some.inj ho6
             refine ⟨Or.inr rfl, _, _, _, (Ad (Bd.tmp _ _ rfl) Af), (Aj rfl), ?_⟩
             rfl
            ·replace h := B1 hc h
             clear hc
             refine son rfl rfl rfl (sv rfl (Aa Ac3 rfl) (son rfl rfl rfl (sv rfl (Ae ti3 rfl (.lp _ _ _ rfl) rfl) (son rfl rfl rfl (sv rfl (Bq rfl rfl) (son rfl rfl rfl (sv rfl (Ag rfl) (Bo 121 rfl (fun hc => ?_) (fun hc => ?_)))))))))
             ·replace h := B2 hc h
              clear hc
              refine son rfl rfl rfl (sv rfl (Aa Akv rfl) (son rfl rfl rfl (sv rfl (Ae ti3 rfl (.lp _ _ _ rfl) rfl) (son rfl rfl rfl (sv rfl (Bq rfl rfl) (son rfl rfl rfl (sv rfl (Au rfl rfl) (son rfl rfl rfl (sv rfl (Ag rfl) (Bo 126 rfl (fun hc => ?_) (fun hc => ?_)))))))))))
              ·replace h := B2 hc h
               clear hc
               refine son rfl rfl rfl (sv rfl (Aa G4 rfl) (son rfl rfl rfl (sv rfl (Ae ti3 rfl (.lp _ _ _ rfl) rfl) (son rfl rfl rfl (sv rfl (Cd rfl rfl) (son rfl rfl rfl (sv rfl (Au rfl rfl) (sv rfl (Am rfl rfl) (As (ccI h rfl (fun h => ?_) (fun h => ?_)))))))))))
               ·refine Aq (Ab (sv rfl (Ak rfl) (As (Bj (A9 (Ar (Ar (A9 (A9 (Ar (Ar (A9 (Ar ?_)))))))))))))
                obtain rfl := Option.some.inj h
                obtain rfl : Sum.inl _ = x13 := hk13
                replace ho13 : some _ = some _ := ho13
                obtain rfl := Option.some.inj ho13
                obtain rfl : Sum.inl _ = x6 := hk6
                replace ho6 : some _ = some _ := ho6
                obtain rfl := Option.some.inj ho6
                refine ⟨Or.inr rfl, _, _, _, (Ad (Bd.tmp _ _ rfl) Af), (Aj rfl), ?_⟩
                rfl
               ·refine Bl (A4 (Ai (Ab (sv rfl (Ag rfl) (sv rfl (B0 rfl rfl) (sv rfl (Ak rfl) (As ?_)))))))
                obtain rfl := Option.some.inj h
                exact ⟨(n13, (wI (s13 + 1))), _, hk13, ⟨rfl, rfl, rfl, rfl, rfl, rfl, trivial⟩, rfl, Nat.lt_succ_self _⟩
              ·replace h := B1 hc h
               clear hc
               refine Av rfl rfl rfl rfl (Av rfl rfl rfl rfl (Av rfl rfl rfl rfl (son rfl rfl rfl (sv rfl (Am rfl rfl) (sv rfl (Am rfl rfl) (As (G0 rfl (fun hx => Bool.noConfusion hx) (fun _ => ?_))))))))
               refine Bl (A4 (Ai (Ab (sv rfl (Ag rfl) (sv rfl (B0 rfl rfl) (sv rfl (Ak rfl) (As ?_)))))))
               obtain rfl := Option.some.inj h
               exact ⟨(n13, (wI (s13 + 1))), _, hk13, ⟨rfl, rfl, rfl, rfl, rfl, rfl, trivial⟩, rfl, Nat.lt_succ_self _⟩
             ·replace h := B1 hc h
              clear hc
              refine Av rfl rfl rfl rfl (Av rfl rfl rfl rfl (Av rfl rfl rfl rfl (son rfl rfl rfl (sv rfl (Am rfl rfl) (son rfl rfl rfl (sv rfl (Ag rfl) (Av rfl rfl rfl rfl (Av rfl rfl rfl rfl (Av rfl rfl rfl rfl (son rfl rfl rfl (sv rfl (Am rfl rfl) (sv rfl (Am rfl rfl) (As (G0 rfl (fun hx => Bool.noConfusion hx) (fun _ => ?_)))))))))))))))
              refine Bl (A4 (Ai (Ab (sv rfl (Ag rfl) (sv rfl (B0 rfl rfl) (sv rfl (Ak rfl) (As ?_)))))))
              obtain rfl := Option.some.inj h
              exact ⟨(n13, (wI (s13 + 1))), _, hk13, ⟨rfl, rfl, rfl, rfl, rfl, rfl, trivial⟩, rfl, Nat.lt_succ_self _⟩
         ·refine Lj (Bi (Bi (Ck (A4 (Ai ?_)))))
          obtain rfl := Option.some.inj h
          obtain rfl : _ = x13 := hk13
          exact ⟨(), _, ho13, ⟨rfl, rfl, rfl, rfl, rfl, trivial⟩, rfl⟩
       ·skip
        refine Ab (sv rfl (Aa Ol rfl) (sv rfl (Ae Aet rfl (.lp _ _ _ rfl) rfl) (sv rfl (Az Zf rfl) (sv rfl (Ag rfl) (sv rfl (B0 rfl rfl) (sv rfl (Ag rfl) (sv rfl (Cd rfl rfl) (sv rfl (Ag rfl) (Bo 84 rfl (fun hc => ?_) (fun hc => ?_))))))))))
        ·replace h := B2 hc h
         clear hc
         refine Av rfl rfl rfl rfl (Av rfl rfl rfl rfl (Av rfl rfl rfl rfl (sv rfl (Au rfl rfl) (As (G0 rfl (fun _ => ?_) (fun hx => Bool.noConfusion hx))))))
         refine Aq (Ab (sv rfl (Ak rfl) (As (Bj (Ar (A9 (Ar (Ar (A9 (Ar ?_))))))))))
         obtain rfl := Option.some.inj h
         obtain rfl : Sum.inl _ = x6 := hk6
         replace ho6 : some _ = some _ := ho6
         obtain rfl := Option.some.inj ho6
         refine ⟨Or.inr rfl, _, _, _, (Ad (Bd.tmp _ _ rfl) Af), (Aj rfl), ?_⟩
         rfl
        ·replace h := B1 hc h
         clear hc
         refine son rfl rfl rfl (sv rfl (Ao B5 rfl (.lp _ _ _ rfl) (Nbl rfl)) (son rfl rfl rfl ?_))
         obtain ⟨v17, hv17, h⟩ := An h
         refine A2 rfl Ali (Ac rfl Al) (Aj rfl) (Gm hv17) (son rfl rfl rfl (sv rfl (B9 rfl) (sv rfl (Am rfl rfl) (As (ccI h rfl (fun h => ?_) (fun h => ?_))))))
         ·refine Aq (Ab (sv rfl (Ak rfl) (As (Bj (Ar (A9 (Ar (Ar (A9 (Ar ?_))))))))))
          obtain rfl := Option.some.inj h
          obtain rfl : Sum.inl _ = x6 := hk6
          replace ho6 : some _ = some _ := ho6
          obtain rfl := Option.some.inj ho6
          refine ⟨Or.inr rfl, _, _, _, (Ad (Bd.tmp _ _ rfl) Af), (Aj rfl), ?_⟩
          rfl
         ·refine Bl (Ai ?_)
          exact ⟨(), _, h, ⟨rfl, rfl, rfl, rfl, rfl, trivial⟩, rfl⟩
      ·skip
       refine ccI h rfl (fun h => ?_) (fun h => ?_)
       ·refine Ab (sv rfl (Ag rfl) (sv rfl (Mq rfl rfl) (sv rfl (Ak rfl) (As ?_))))
        exact ⟨(wI ((v8.Tasks.length : Int) - 1)), _, h, ⟨rfl, rfl, rfl, rfl, rfl, rfl, trivial⟩, rfl⟩
       ·refine Bl (Ai ?_)
        exact ⟨(v8.Tasks.length : Int), _, h, ⟨rfl, rfl, rfl, rfl, rfl, rfl, trivial⟩, rfl⟩
     ·skip
      refine Ab (sv rfl (Aa V7 rfl) (sv rfl (Ae ti3 rfl (.lp _ _ _ rfl) rfl) (sv rfl (Fv rfl rfl) (sv rfl (Ag rfl) (Bo 52 rfl (fun hc => ?_) (fun hc => ?_))))))
      ·replace h := B2 hc h
       clear hc
       refine son rfl rfl rfl (sv rfl (Aa Lw rfl) (son rfl rfl rfl (sv rfl (Ae Xy rfl (.lp _ _ _ rfl) rfl) (son rfl rfl rfl (sv rfl (Az T6 rfl) (son rfl rfl rfl (sv rfl (Ag rfl) (son rfl rfl rfl (sv rfl (C6 rfl rfl) (son rfl rfl rfl (sv rfl (Ag rfl) (Bo 58 rfl (fun hc => ?_) (fun hc => ?_)))))))))))))
       ·replace h := B2 hc h
        clear hc
        refine Av rfl rfl rfl rfl (Av rfl rfl rfl rfl (Av rfl rfl rfl rfl (Av rfl rfl rfl rfl (Av rfl rfl rfl rfl (son rfl rfl rfl (sv rfl (Au rfl rfl) (sv rfl (Au rfl rfl) (As (G0 rfl (fun _ => ?_) (fun hx => Bool.noConfusion hx))))))))))
        refine Ab (sv rfl (Ag rfl) (sv rfl (B0 rfl rfl) (sv rfl (Ak rfl) (As ?_))))
        exact ⟨(wI (s6.1 + 1)), _, h, ⟨rfl, rfl, rfl, rfl, rfl, rfl, trivial⟩, rfl⟩
       ·replace h := B1 hc h
        clear hc
        refine son rfl rfl rfl (sv rfl (Aa Ol rfl) (son rfl rfl rfl (sv rfl (Ae Aet rfl (.lp _ _ _ rfl) rfl) (son rfl rfl rfl (sv rfl (Az Zf rfl) (son rfl rfl rfl (sv rfl (Ag rfl) (son rfl rfl rfl (sv rfl (C6 rfl rfl) (son rfl rfl rfl (sv rfl (Am rfl rfl) (sv rfl (Au rfl rfl) (As (ccI h rfl (fun h => ?_) (fun h => ?_)))))))))))))))
        ·refine Ab (sv rfl (Ag rfl) (sv rfl (B0 rfl rfl) (sv rfl (Ak rfl) (As ?_))))
         exact ⟨(wI (s6.1 + 1)), _, h, ⟨rfl, rfl, rfl, rfl, rfl, rfl, trivial⟩, rfl⟩
        ·refine Bl (Ai ?_)
         exact ⟨s6.1, _, h, ⟨rfl, rfl, rfl, rfl, rfl, rfl, trivial⟩, rfl⟩
      ·replace h := B1 hc h
       clear hc
       refine Av rfl rfl rfl rfl (Av rfl rfl rfl rfl (Av rfl rfl rfl rfl (Av rfl rfl rfl rfl (Av rfl rfl rfl rfl (Av rfl rfl rfl rfl (Fz rfl rfl rfl (Fz rfl rfl rfl (Fz rfl rfl rfl (Fz rfl rfl rfl (Fz rfl rfl rfl (Av rfl rfl rfl rfl (sv rfl (Am rfl rfl) (As (G0 rfl (fun hx => Bool.noConfusion hx) (fun _ => ?_)))))))))))))))
       refine Bl (Ai ?_)
       exact ⟨s6.1, _, h, ⟨rfl, rfl, rfl, rfl, rfl, rfl, trivial⟩, rfl⟩
    ·refine Lj (Bi (Bi (Ck (Ai ?_))))
     obtain rfl := Option.some.inj h
     obtain rfl : _ = x6 := hk6
     exact ⟨s6.2.2, _, ho6, ⟨rfl, trivial⟩, rfl⟩
end Go.Proofs.YtbjckaahoacbfaaGreatDoor.Abs
