/-
 t
-/
import Derived.Test.YtbjckaahoacbfaaGreatDoorT21a
set_option linter.unusedVariables false
set_option linter.unusedSimpArgs false
namespace Go.Proofs.YtbjckaahoacbfaaGreatDoor.Abs
open Go.RowKit Go.Proofs
def Hx (a0 : List (List A8)) : Option (List A8) :=
 (E4 (Ew a0) Di (0, 0)).bind fun e10 => H6 a0 e10
set_option maxRecDepth 100000 in
theorem Qs {a0 : List (List A8)} {r : (List A8)} (h : Hx a0 = some r) : G2 Tryz.prog 109 [] [.one (.sl a0.length (a0.flatMap (eL A6)))] (fun y m' => y = .s (.one (.ls 0 r.length)) ∧ m' = [.arr 61 12 0 (r.flatMap A6)]) := by
 unfold Hx at h
 refine Cv Tryz.func109 rfl (nt := 36) rfl (Nbl rfl) ?_
 intro w0 S0 X0 H0
 refine Aq (Ab (sv rfl (Ak rfl) (As (Aq (Ab (sv rfl (Ak rfl) (As (Aq (Aq (Ab (sv rfl (Ag rfl) (sv rfl (Az Ajv rfl) (sv rfl (Ag rfl) (As (G5 (Int) (fun b1 => [(0, .s (.one (.sl a0.length (a0.flatMap (eL A6))))), (3, .s (.one (Ii6 b1)))]) (fun b1 => []) (fun b1 => H6 a0 b1 = some r) (fun _ _ => Be rfl) (fun _ _ => A0 rfl) (fun _ _ => Nat.le_of_ble_eq_true rfl) (fun b1 h => ?_) ?_)))))))))))))))
 ·unfold H6 at h
  refine Aq (Ab (sv rfl (Ag rfl) ?_))
  obtain ⟨v2, hv2, h⟩ := An h
  refine C2 (x' := .s (.one (.ls 0 v2.length))) (M' := [.arr 61 12 0 (v2.flatMap A6)]) [] rfl Asj (.func _) (Ac rfl (Ac rfl Al)) (Sr hv2) rfl rfl (by decide) rfl rfl rfl ?_
  refine sv rfl (Ak rfl) (As (Aq (Aq (Ab (sv rfl (Ag rfl) (sv rfl (Az Ajv rfl) (sv rfl (Ag rfl) (As (G5 ((List A8)) (fun b3 => [(6, .s (.one (.ls 0 b3.length)))]) (fun b3 => [.arr 61 12 0 (b3.flatMap A6)]) (fun b3 => Kc b3 = some r) (fun _ _ => Be rfl) (fun _ _ => A0 rfl) (fun _ _ => Nat.le_of_ble_eq_true rfl) (fun b3 h => ?_) ?_)))))))))
  ·unfold Kc at h
   refine Aq (Ab (sv rfl (Ag rfl) (sv rfl (Ak rfl) (As (Bj ?_)))))
   obtain rfl := Option.some.inj h
   exact ⟨Or.inr rfl, _, [0], [.one (.ls 0 b3.length)], [.arr 61 12 0 (b3.flatMap A6)], (Ad (Bd.tmp _ _ rfl) Af), rfl, rfl, ⟨by decide, rfl⟩, rfl, rfl, ⟨rfl, rfl⟩⟩
  ·skip
   refine B7 ?_
   obtain ⟨x4, hx4, ho4⟩ := An h
   refine Da (G := Nat × (Int × (List A8))) (fun g => [(6, .s (.one (.ls 0 g.2.2.length))), (25, .s (.one (.sl a0.length (a0.flatMap (eL A6))))), (26, .s (.one (Ii6 (a0.length : Int)))), (27, .s (.one (Ii6 g.2.1)))]) (fun g => [.arr 61 12 0 (g.2.2.flatMap A6)]) (fun g => E4 (Es a0) g.1 g.2 = some x4) (fun g => g.1) (Di, (0, v2)) hx4 ⟨rfl, rfl, rfl, rfl, trivial⟩ [] rfl (fun _ _ => Be rfl) (fun _ _ => A0 rfl) (fun _ _ => Nat.le_of_ble_eq_true rfl) ?_
   clear hx4 h
   rintro ⟨n4, s4⟩ h
   obtain ⟨n4, y4, rfl, h, hk4⟩ := Gs h
   unfold Es at h
   refine Aq (Ab (sv rfl (Cp rfl rfl) (As (Aq (ccI h rfl (fun h => ?_) (fun h => ?_))))))
   ·refine Bl (Ai (Aq (B7 (Aq (Ab ?_)))))
    obtain ⟨u5, hu5, h⟩ := An h
    refine sv rfl (Fe (f := (eL A6)) Ajv (fun _ => rfl) rfl rfl rfl rfl hu5) ?_
    refine sv rfl (Ae Aet rfl (.cp _) rfl) (sv rfl (Ak rfl) (As (Ab (sv rfl (Ag rfl) (sv rfl (Ag rfl) ?_)))))
    obtain ⟨hb6, h⟩ := D9 h
    refine Ahz (f := A6) (xs := s4.2) (us := u5) rfl Tryz.underlying41 Atb Awd (fun _ => rfl) rfl rfl (.one _ _ _ _ (.id _ rfl)) rfl rfl rfl (.sl _ _ _ (Bg (f := A6) (fun _ => rfl) _)) rfl rfl hb6 (by decide) ?_
    refine sv rfl (Ak rfl) (Lz (A4 (Ai (Ab (sv rfl (B0 rfl rfl) (sv rfl (Ag rfl) (As ?_)))))))
    obtain rfl := Option.some.inj h
    exact ⟨(n4, ((wI (s4.1 + 1)), (s4.2 ++ u5))), _, hk4, ⟨rfl, rfl, rfl, rfl, trivial⟩, rfl, Nat.lt_succ_self _⟩
   ·refine Lj (Bi (Bi (Ck (Ai ?_))))
    obtain rfl := Option.some.inj h
    obtain rfl : _ = x4 := hk4
    exact ⟨s4.2, _, ho4, ⟨rfl, trivial⟩, rfl⟩
 ·skip
  refine B7 ?_
  obtain ⟨x8, hx8, ho8⟩ := An h
  refine Da (G := Nat × (Int × Int)) (fun g => [(0, .s (.one (.sl a0.length (a0.flatMap (eL A6))))), (3, .s (.one (Ii6 g.2.1))), (9, .s (.one (.sl a0.length (a0.flatMap (eL A6))))), (10, .s (.one (Ii6 (a0.length : Int)))), (11, .s (.one (Ii6 g.2.2)))]) (fun g => []) (fun g => E4 (Ew a0) g.1 g.2 = some x8) (fun g => g.1) (Di, (0, 0)) hx8 ⟨rfl, rfl, rfl, rfl, rfl, trivial⟩ [] rfl (fun _ _ => Be rfl) (fun _ _ => A0 rfl) (fun _ _ => Nat.le_of_ble_eq_true rfl) ?_
  clear hx8 h
  rintro ⟨n8, s8⟩ h
  obtain ⟨n8, y8, rfl, h, hk8⟩ := Gs h
  unfold Ew at h
  refine Aq (Ab (sv rfl (Cp rfl rfl) (As (Aq (ccI h rfl (fun h => ?_) (fun h => ?_))))))
  ·refine Bl (Ai (Aq (B7 (Aq (Ab ?_)))))
   obtain ⟨u9, hu9, h⟩ := An h
   refine sv rfl (Fe (f := (eL A6)) Ajv (fun _ => rfl) rfl rfl rfl rfl hu9) ?_
   refine sv rfl (Ae Aet rfl (.cp _) rfl) (sv rfl (Ak rfl) (As (Aq (Ab (sv rfl (Ag rfl) (sv rfl (Ag rfl) (sv rfl (Az Zf rfl) (sv rfl (B0 rfl rfl) (sv rfl (Ak rfl) (As (Aq (Ab (sv rfl (Ag rfl) (sv rfl (Cp rfl rfl) (As (ccI h rfl (fun h => ?_) (fun h => ?_)))))))))))))))))
   ·cases h
   ·refine Bl (A4 (Ai (Ab (sv rfl (B0 rfl rfl) (sv rfl (Ag rfl) (As ?_))))))
    obtain rfl := Option.some.inj h
    exact ⟨(n8, ((wI (s8.1 + (u9.length : Int))), (wI (s8.2 + 1)))), _, hk8, ⟨rfl, rfl, rfl, rfl, rfl, trivial⟩, rfl, Nat.lt_succ_self _⟩
  ·refine Lj (Bi (Bi (Ck (Ai ?_))))
   obtain rfl := Option.some.inj h
   obtain rfl : _ = x8 := hk8
   exact ⟨s8.1, _, ho8, ⟨rfl, rfl, trivial⟩, rfl⟩
def C4 (a0 : Ah) (a1 : A8) : Option Ah :=
 (Hx [a0.Done, [a1]]).bind fun v1 => some (Ah.mk (Cr.mk a0.Cfg.Who (Dn.mk a0.Cfg.Plan.Wait a0.Cfg.Plan.Most a0.Cfg.Plan.Tries) a0.Cfg.Attempts a0.Cfg.Budget) a0.Tasks a0.Phase a0.Epoch a0.Seq a0.Attempt a0.Sent a0.Left a0.Resets a0.Risk (A7.mk a0.St.PC (E3.mk a0.St.Regs.R0 a0.St.Regs.R1 a0.St.Regs.R2 a0.St.Regs.R3 a0.St.Regs.R4 a0.St.Regs.R5 a0.St.Regs.R6 a0.St.Regs.R7) a0.St.Stopped) (Ca.mk a0.Req.Kind a0.Req.Seq a0.Req.Token a0.Req.Attempt a0.Req.RO a0.Req.Key a0.Req.Val (B8.mk a0.Req.Rng.Lo a0.Req.Rng.Hi a0.Req.Rng.Open)) (Bm.mk a0.In.Buf a0.In.Dead) a0.Out v1 a0.Tried)
set_option maxRecDepth 100000 in
theorem H8 {a0 : Ah} {a1 : A8} {r : Ah} (h : C4 a0 a1 = some r) : Bp Tryz.prog 86 [.agg (EL.el a0), .agg (EL.el a1)] (· = .s (.agg (EL.el r))) := by
 unfold C4 at h
 refine A1 Tryz.func86 rfl (nt := 13) rfl (Nbl rfl) ?_
 intro w0 S0
 refine Aq (Ab (Jd rfl rfl (Jd rfl rfl (Bz rfl Nn (As (Aq (Ab (sv rfl (Aa Ol rfl) (sv rfl (Ae Aet rfl (.lp _ _ _ rfl) rfl) (sv rfl (Ao Ary rfl (.lp _ _ _ rfl) (Nbl rfl)) ?_))))))))))
 refine Qw rfl Tryz.underlying41 Atb rfl rfl (List.all_eq_true.1 rfl) (by decide) ?_
 refine Bs [.box (EL.el a0), .box (EL.el a1), .box Zba, .arr 61 12 0 ([a1].flatMap A6)] rfl ?_
 refine Aai 8 rfl (by (repeat' first | exact J5.nil _ | apply J5.cons | apply Jz.one | apply Jz.agg | exact E6.nil | exact E6.ls _ _ _ _ _ _ rfl (Bg (f := A6) (fun _ => rfl) ([a1] : List A8)).symm | exact E6.ls _ _ _ _ _ _ rfl (Bg (f := A6) (fun _ => rfl) _).symm | exact E6.id _ rfl | exact D1.nil _ | apply D1.cons)) ?_
 refine S8 (out := ([a0.Done, [a1]] : List (List A8)).flatMap (eL A6)) rfl Tryz.underlying204 Avm (Ap rfl (Ap rfl Ba)) (.cons _ _ _ _ _ _ _ rfl rfl (Nbl rfl) (.cons _ _ _ _ _ _ _ rfl rfl (Nbl rfl) (.nil _))) rfl (by decide) ?_
 refine Aai 9 rfl (by (repeat' first | exact J5.nil _ | apply J5.cons | apply Jz.one | apply Jz.agg | exact E6.nil | exact E6.ls _ _ _ _ _ _ rfl (Bg (f := (eL A6)) (fun _ => rfl) ([a0.Done, [a1]] : List (List A8))).symm | exact E6.ls _ _ _ _ _ _ rfl (Bg (f := (eL A6)) (fun _ => rfl) _).symm | exact E6.ls _ _ _ _ _ _ rfl (Bg (f := A6) (fun _ => rfl) _).symm | exact E6.id _ rfl | exact D1.nil _ | apply D1.cons)) ?_
 obtain ⟨v1, hv1, h⟩ := An h
 refine C2 (x' := .s (.one (.ls 5 v1.length))) (M' := [.box (EL.el a0), .box (EL.el a1), .box Zba, .arr 61 12 ([a1].flatMap A6).length ([a1].flatMap A6), .arr 41 1 ([a0.Done, [a1]].flatMap (eL A6)).length ([a0.Done, [a1]].flatMap (eL A6)), .arr 61 12 0 (v1.flatMap A6)]) [] rfl Arp (.func _) (Ac rfl Al) (Qs hv1) rfl rfl (by decide) rfl rfl rfl ?_
 refine sv rfl (Aa Ol rfl) (Ax Avo rfl rfl rfl rfl (Nbl rfl) (Bs [.box ((EL.el a0).set 38 (.ls 5 v1.length)), .box (EL.el a1), .box Zba, .arr 61 12 ([a1].flatMap A6).length ([a1].flatMap A6), .arr 41 1 ([a0.Done, [a1]].flatMap (eL A6)).length ([a0.Done, [a1]].flatMap (eL A6)), .arr 61 12 0 (v1.flatMap A6)] rfl (As (Aq (Ab (sv rfl (Ao B5 rfl (.lp _ _ _ rfl) (Nbl rfl)) (Ax Ey rfl rfl rfl rfl (Nbl rfl) (Bs [.box ((EL.el a0).set 38 (.ls 5 v1.length)), .box (EL.el a1), .box ((EL.el a0).set 38 (.ls 5 v1.length)), .arr 61 12 ([a1].flatMap A6).length ([a1].flatMap A6), .arr 41 1 ([a0.Done, [a1]].flatMap (eL A6)).length ([a0.Done, [a1]].flatMap (eL A6)), .arr 61 12 0 (v1.flatMap A6)] rfl (As (Bj ?_))))))))))
 obtain rfl := Option.some.inj h
 refine ⟨Or.inr rfl, _, _, _, (Ad (Bd.agg _ _ _ _ _ B5 rfl (.lp _ _ _ rfl) (Nbl rfl)) Af), (by (repeat' first | exact J5.nil _ | apply J5.cons | apply Jz.one | apply Jz.agg | exact E6.nil | exact E6.ls _ _ _ _ _ _ rfl (Bg (f := (eL A6)) (fun _ => rfl) _).symm | exact E6.ls _ _ _ _ _ _ rfl (Bg (f := A6) (fun _ => rfl) _).symm | exact E6.id _ rfl | exact D1.nil _ | apply D1.cons)), ?_⟩
 rfl
def Gf (a0 : Ah) : Option Int :=
 if a0.Risk then (some 4) else (if (decide (0 < a0.Attempt)) then (if a0.St.Stopped then (some 2) else (some 3)) else (some 3))
set_option maxRecDepth 100000 in
theorem Pm {a0 : Ah} {r : Int} (h : Gf a0 = some r) : Bp Tryz.prog 87 [.agg (EL.el a0)] (· = .s (.one (Ii6 r))) := by
 unfold Gf at h
 refine A1 Tryz.func87 rfl (nt := 15) rfl (Nbl rfl) ?_
 intro w0 S0
 refine Aq (Ab (Jd rfl rfl (sv rfl (Ak rfl) (As (Aq (B7 (Aq (Ab (sv rfl (Aa Xo rfl) (sv rfl (Ae ti4 rfl (.lp _ _ _ rfl) rfl) (sv rfl (Ak rfl) (As (ccI h rfl (fun h => ?_) (fun h => ?_))))))))))))))
 ·refine Aq (Ab (sv rfl (Ak rfl) (As (Bj (A9 (Ar ?_))))))
  obtain rfl := Option.some.inj h
  refine ⟨Or.inr rfl, _, _, _, (Ad (Bd.tmp _ _ rfl) Af), (Aj rfl), ?_⟩
  rfl
 ·refine Aq (Ab (sv rfl (Aa Oe rfl) (sv rfl (Ae ti3 rfl (.lp _ _ _ rfl) rfl) (sv rfl (C6 rfl rfl) (sv rfl (Ag rfl) (Bo 10 rfl (fun hc => ?_) (fun hc => ?_)))))))
  ·replace h := B2 hc h
   clear hc
   refine son rfl rfl rfl (sv rfl (Aa Py rfl) (son rfl rfl rfl (sv rfl (Aa Wq rfl) (son rfl rfl rfl (sv rfl (Ae ti4 rfl (.lp _ _ _ rfl) rfl) (sv rfl (Au rfl rfl) (sv rfl (Ak rfl) (As (ccI h rfl (fun h => ?_) (fun h => ?_))))))))))
   ·refine Aq (Ab (sv rfl (Ak rfl) (As (Bj (A9 (Ar ?_))))))
    obtain rfl := Option.some.inj h
    refine ⟨Or.inr rfl, _, _, _, (Ad (Bd.tmp _ _ rfl) Af), (Aj rfl), ?_⟩
    rfl
   ·refine Bl (A4 (Ai (Aq (Ab (sv rfl (Ak rfl) (As (Bj ?_)))))))
    obtain rfl := Option.some.inj h
    refine ⟨Or.inr rfl, _, _, _, (Ad (Bd.tmp _ _ rfl) Af), (Aj rfl), ?_⟩
    rfl
  ·replace h := B1 hc h
   clear hc
   refine Av rfl rfl rfl rfl (Av rfl rfl rfl rfl (Av rfl rfl rfl rfl (sv rfl (Am rfl rfl) (sv rfl (Ak rfl) (As (G0 rfl (fun hx => Bool.noConfusion hx) (fun _ => ?_)))))))
   refine Bl (A4 (Ai (Aq (Ab (sv rfl (Ak rfl) (As (Bj ?_)))))))
   obtain rfl := Option.some.inj h
   refine ⟨Or.inr rfl, _, _, _, (Ad (Bd.tmp _ _ rfl) Af), (Aj rfl), ?_⟩
   rfl
def I1 (b1 : Ah) : Option Ah :=
 some ({b1 with Tasks := ([] : List Aw), Phase := 11, Left := 0})
def Bv (a0 : Ah) (s2 : Int × Ah) : Option (LB (Int × Ah) (Ah)) :=
 if (decide (s2.1 < (a0.Tasks.length : Int))) then ((idx a0.Tasks s2.1).bind fun u3 => if (decide (0 < s2.1)) then ((C4 s2.2 (A8.mk u3.Token 3 0 0 (E3.mk 0 0 0 0 0 0 0 0))).bind fun v4 => some (.cont ((wI (s2.1 + 1)), v4))) else (if (!decide (s2.2.Phase = 9)) then ((Gf s2.2).bind fun v5 => (C4 s2.2 (A8.mk u3.Token v5 s2.2.Attempt 0 (E3.mk 0 0 0 0 0 0 0 0))).bind fun v6 => some (.cont ((wI (s2.1 + 1)), v6))) else (some (.cont ((wI (s2.1 + 1)), s2.2))))) else (some (.brk s2.2))
def Ce (a0 : Ah) : Option Ah :=
 (E4 (Bv a0) Di (0, a0)).bind fun e7 => I1 e7
set_option maxRecDepth 100000 in
theorem Dg {a0 : Ah} {r : Ah} (h : Ce a0 = some r) : Bp Tryz.prog 68 [.agg (EL.el a0)] (· = .s (.agg (EL.el r))) := by
 unfold Ce at h
 refine A1 Tryz.func68 rfl (nt := 39) rfl (Nbl rfl) ?_
 intro w0 S0
 refine Aq (Ab (Jd rfl rfl (Bz rfl Nn (As (Aq (Aq (Ab (sv rfl (Aa Lw rfl) (sv rfl (Ae Xy rfl (.lp _ _ _ rfl) rfl) (sv rfl (Az T6 rfl) (sv rfl (Ag rfl) (As (G5 (Ah) (fun b1 => [(1, .s (.one (.lp 0 0))), (2, .s (.one (.lp 1 0)))]) (fun b1 => [.box (EL.el b1), .box Zba]) (fun b1 => I1 b1 = some r) (fun _ _ => Be rfl) (fun _ _ => A0 rfl) (fun _ _ => Nat.le_of_ble_eq_true rfl) (fun b1 h => ?_) ?_)))))))))))))
 ·unfold I1 at h
  refine Aq (Ab (sv rfl (Aa Lw rfl) (Ax Ata rfl rfl rfl rfl (Nbl rfl) (Bs [.box ((EL.el b1).set 6 (Znl)), .box Zba] rfl (As (Aq (Ab (sv rfl (Aa G4 rfl) (Ax sz3 rfl rfl rfl rfl (Nbl rfl) (Bs [.box ((EL.el {b1 with Phase := 11}).set 6 (Znl)), .box Zba] rfl (As (Aq (Ab (sv rfl (Aa Ra rfl) (Ax sz3 rfl rfl rfl rfl (Nbl rfl) (Bs [.box ((EL.el {b1 with Phase := 11, Left := 0}).set 6 (Znl)), .box Zba] rfl (As (Aq (Ab (sv rfl (Ao B5 rfl (.lp _ _ _ rfl) (Nbl rfl)) (Ax Ey rfl rfl rfl rfl (Nbl rfl) (Bs [.box ((EL.el {b1 with Phase := 11, Left := 0}).set 6 (Znl)), .box ((EL.el {b1 with Phase := 11, Left := 0}).set 6 (Znl))] rfl (As (Bj ?_))))))))))))))))))))))))
  obtain rfl := Option.some.inj h
  refine ⟨Or.inr rfl, _, _, _, (Ad (Bd.agg _ _ _ _ _ B5 rfl (.lp _ _ _ rfl) (Nbl rfl)) Af), (Np rfl), ?_⟩
  rfl
 ·skip
  refine B7 ?_
  obtain ⟨x2, hx2, ho2⟩ := An h
  refine Da (G := Nat × (Int × Ah)) (fun g => [(1, .s (.one (.lp 0 0))), (2, .s (.one (.lp 1 0))), (6, .s (.one (.sl a0.Tasks.length (a0.Tasks.flatMap Ay)))), (7, .s (.one (Ii6 (a0.Tasks.length : Int)))), (8, .s (.one (Ii6 g.2.1)))]) (fun g => [.box (EL.el g.2.2), .box Zba]) (fun g => E4 (Bv a0) g.1 g.2 = some x2) (fun g => g.1) (Di, (0, a0)) hx2 ⟨rfl, rfl, rfl, rfl, rfl, trivial⟩ [] rfl (fun _ _ => Be rfl) (fun _ _ => A0 rfl) (fun _ _ => Nat.le_of_ble_eq_true rfl) ?_
  clear hx2 h
  rintro ⟨n2, s2⟩ h
  obtain ⟨n2, y2, rfl, h, hk2⟩ := Gs h
  unfold Bv at h
  refine Aq (Ab (sv rfl (Cp rfl rfl) (As (Aq (ccI h rfl (fun h => ?_) (fun h => ?_))))))
  ·refine Bl (Ai (Aq (B7 (Aq (Ab (sv rfl (Ag rfl) ?_))))))
   obtain ⟨u3, hu3, h⟩ := An h
   refine sv rfl (Fe (f := Ay) T6 (fun _ => rfl) rfl rfl rfl rfl hu3) ?_
   refine sv rfl (Dd (ys := [Ii6 u3.Token, .b u3.Prog.RO, .sl u3.Prog.Ops.length (u3.Prog.Ops.flatMap Cf)]) Ama rfl (.cp _) rfl rfl) (Bz rfl Anv (sv rfl (Ak rfl) (Ax Aqq rfl rfl rfl rfl (Nbl rfl) (Bs [.box (EL.el s2.2), .box Zba, .box (EL.el u3)] rfl (As (B7 (Aq (Ab (sv rfl (Ag rfl) (sv rfl (C6 rfl rfl) (sv rfl (Ak rfl) (As (ccI h rfl (fun h => ?_) (fun h => ?_))))))))))))))
   ·refine Ab (sv rfl (Ao B5 rfl (.lp _ _ _ rfl) (Nbl rfl)) (sv rfl (Aa Sj rfl) (sv rfl (Ae ti3 rfl (.lp _ _ _ rfl) rfl) (sv rfl (Bk Aoc Arn (Ap rfl (Ap rfl Ba)) (.cons _ _ _ _ _ _ _ rfl rfl (Nbl rfl) (.cons _ _ _ _ _ _ _ rfl rfl (Nbl rfl) (.nil _)))) ?_))))
    obtain ⟨v4, hv4, h⟩ := An h
    refine A2 rfl Arc (Ac rfl (Ac rfl Al)) (Aj rfl) (H8 hv4) (Ax Ey rfl rfl rfl rfl (Nbl rfl) (Bs [.box (EL.el v4), .box Zba, .box (EL.el u3)] rfl (Lz (A4 (A4 (Ai (Ab (sv rfl (B0 rfl rfl) (sv rfl (Ag rfl) (As ?_))))))))))
    obtain rfl := Option.some.inj h
    exact ⟨(n2, ((wI (s2.1 + 1)), v4)), _, hk2, ⟨rfl, rfl, rfl, rfl, rfl, trivial⟩, rfl, Nat.lt_succ_self _⟩
   ·refine Aq (Ab (sv rfl (Aa G4 rfl) (sv rfl (Ae ti3 rfl (.lp _ _ _ rfl) rfl) (sv rfl (Cd rfl rfl) (sv rfl (Ak rfl) (As (ccI h rfl (fun h => ?_) (fun h => ?_))))))))
    ·obtain ⟨v5, hv5, h⟩ := An h
     obtain ⟨v6, hv6, h⟩ := An h
     refine Kb [9] [0, 0, 2, 0, 8, 0, 32, 126, 255, 511] [[.box (EL.el s2.2), .box Zba, .box (EL.el u3)], [.box (EL.el v6), .box Zba, .box (EL.el u3)]] (by kernel_rfl) Ma (by kernel_rfl) (by decide) rfl rfl rfl rfl ?_
     refine ev (Bh 0 rfl rfl) rfl rfl (Ao B5 rfl (.lp _ _ _ rfl) (Nbl rfl)) (ev (Bh 0 rfl rfl) rfl rfl (Aa Sj rfl) (ev (Bh 0 rfl rfl) rfl rfl (Ae ti3 rfl (.lp _ _ _ rfl) rfl) (ev (Bh 0 rfl rfl) rfl rfl (Ao B5 rfl (.lp _ _ _ rfl) (Nbl rfl)) (ed (Bh 0 rfl rfl) rfl rfl (D2 Av3 (Ac rfl Al) rfl (Pm hv5)) (ev (Bh 0 rfl rfl) rfl rfl (Aa Oe rfl) (ev (Bh 0 rfl rfl) rfl rfl (Ae ti3 rfl (.lp _ _ _ rfl) rfl) (ev (Bh 0 rfl rfl) rfl rfl (Bk Aoc Arn (Ap rfl (Ap rfl (Ap rfl Ba))) (.cons _ _ _ _ _ _ _ rfl rfl (Nbl rfl) (.cons _ _ _ _ _ _ _ rfl rfl (Nbl rfl) (.cons _ _ _ _ _ _ _ rfl rfl (Nbl rfl) (.nil _))))) (ed (Bh 0 rfl rfl) rfl rfl (D2 Arc (Ac rfl (Ac rfl Al)) rfl (H8 hv6)) (ee0 0 rfl rfl rfl rfl (fun ζ => ?_) ?_)))))))))
     ·refine Ax Ey rfl rfl rfl rfl (Nbl rfl) (Bs [.box (EL.el v6), .box Zba, .box (EL.el u3)] rfl ?_)
      exact Sd
     refine Y1 (A4 (A4 (Ai (Ab (sv rfl (B0 rfl rfl) (sv rfl (Ag rfl) (As ?_)))))))
     obtain rfl := Option.some.inj h
     exact ⟨(n2, ((wI (s2.1 + 1)), v6)), _, hk2, ⟨rfl, rfl, rfl, rfl, rfl, trivial⟩, rfl, Nat.lt_succ_self _⟩
    ·refine Bl (A4 (A4 (Ai (Ab (sv rfl (B0 rfl rfl) (sv rfl (Ag rfl) (As ?_)))))))
     obtain rfl := Option.some.inj h
     exact ⟨(n2, ((wI (s2.1 + 1)), s2.2)), _, hk2, ⟨rfl, rfl, rfl, rfl, rfl, trivial⟩, rfl, Nat.lt_succ_self _⟩
  ·refine Lj (Bi (Bi (Ck (Ai ?_))))
   obtain rfl := Option.some.inj h
   obtain rfl : _ = x2 := hk2
   exact ⟨s2.2, _, ho2, ⟨rfl, rfl, trivial⟩, rfl⟩
def Et (a0 : Ah) : Option Bool :=
 some (decide (60000 < (a0.Out.length : Int)))
set_option maxRecDepth 100000 in
theorem Mh {a0 : Ah} {r : Bool} (h : Et a0 = some r) : Bp Tryz.prog 67 [.agg (EL.el a0)] (· = .s (.one (.b r))) := by
 unfold Et at h
 refine A1 Tryz.func67 rfl (nt := 7) rfl (Nbl rfl) ?_
 intro w0 S0
 refine Aq (Ab (Jd rfl rfl (sv rfl (Ak rfl) (As (Aq (Ab (sv rfl (Aa Qi rfl) (sv rfl (Ae L4 rfl (.lp _ _ _ rfl) rfl) (sv rfl (Az Lh rfl) (sv rfl (C6 rfl rfl) (sv rfl (Ak rfl) (As (Bj ?_)))))))))))))
 obtain rfl := Option.some.inj h
 refine ⟨Or.inr rfl, _, _, _, (Ad (Bd.tmp _ _ rfl) Af), (Aj rfl), ?_⟩
 rfl
theorem Tx {a0 : Dn} : Bp Tryz.prog 88 [.agg (EL.el a0)] (· = .s (.one (.fn 110 [] [.cp [Ii6 a0.Wait, Ii6 a0.Most, Ii6 a0.Tries]]))) := by
 refine A1 Tryz.func88 rfl (nt := 4) rfl (Nbl rfl) ?_
 intro w0 S0
 refine Aq (Ab (Al6 rfl rfl rfl (sv rfl (Ak rfl) (As (Aq (Ab (sv rfl (Us Rh (Ss rfl rfl Rh)) (sv rfl (Ak rfl) (As (Bj (⟨Or.inr rfl, _, _, _, (Ad (Bd.tmp _ _ rfl) Af), (Aj rfl), ?_⟩)))))))))))
 rfl
def P1 (most : Int) : Nat → Int → Int → List (Int × Int)
 | 0, _, _ => []
 | n + 1, i, d => (i, d) :: P1 most n (wI (i + 1)) (if most < (wI (2 * d)) then most else (wI (2 * d)))
def Aia (p : Dn) : Option (List (Int × Int)) :=
 (J8 p).bind fun b => some (if b = true then P1 p.Most p.Tries.toNat 0 p.Wait else [])
theorem Tp (most : Int) : ∀ n i d, (P1 most n i d).length = n
 | 0, _, _ => rfl
 | n + 1, i, d => by simp [P1, Tp most n]
theorem Aja {p : Dn} (h : J8 p = some true) : 1 ≤ p.Wait ∧ p.Wait ≤ 1048576 ∧ p.Wait ≤ p.Most ∧ p.Most ≤ 1073741824 ∧ 0 ≤ p.Tries ∧ p.Tries ≤ 100 := by
 unfold J8 at h
 repeat' split at h
 all_goals simp_all
set_option maxRecDepth 100000 in
theorem Alr {p : Dn} {L : List (Int × Int)} (h : Aia p = some L) : Ai5 Tryz.prog 110 [.cp [Ii6 p.Wait, Ii6 p.Most, Ii6 p.Tries]] (L.map fun x => (.one (Ii6 x.1), .one (Ii6 x.2))) := by
 unfold Aia at h
 obtain ⟨b, hb, h⟩ := An h
 obtain rfl := Option.some.inj h
 refine Ah8 Tryz.func110 rfl rfl (nt := 26) rfl (Nbl rfl) ?_
 intro l J Jx hJ hJx hs
 refine Ahy (Ahy ?_)
 refine V3 (hJ 0) (by rfl) (fun w0 S0 => ?_)
 refine sv rfl (Dd (ys := [Ii6 p.Wait, Ii6 p.Most, Ii6 p.Tries]) Aj4 rfl (.cp _) rfl rfl) (A2 rfl Atw (Ac rfl Al) (Aj rfl) (P3 hb) (sv rfl (B9 rfl) (Lz ⟨rfl, rfl, Tq (Vj ?_)⟩)))
 refine Ajx rfl (fun hc => ?_) (fun hc => ?_)
 ·have hb' : b = false := by simpa using hc
  subst hb'
  exact Atl (And.intro (Or.inr rfl) (Or.inl rfl))
 have hb' : b = true := by simpa using hc
 subst hb'
 obtain ⟨h1, h2, h3, h4, h5, h6⟩ := Aja hb
 refine Am5 (Vj ?_)
 refine Ahy ?_
 refine V3 (hJ 0) (by rfl) (fun w0 S0 => ?_)
 refine sv rfl (B3 Adb rfl) (sv rfl (Ae ti3 rfl (.cp _) rfl) (sv rfl (Ak rfl) (Lz ⟨rfl, rfl, Tq (Vj ?_)⟩)))
 refine Ahy ?_
 refine V3 (hJ 0) (by rfl) (fun w0 S0 => ?_)
 refine sv rfl (B3 Aap rfl) (sv rfl (Ae ti3 rfl (.cp _) rfl) (sv rfl (Ag rfl) (Lz ⟨rfl, rfl, Tq (Vj ?_)⟩)))
 refine Akt ?_
 let cap : Lf := .cp [Ii6 p.Wait, Ii6 p.Most, Ii6 p.Tries]
 refine Art (G := Nat × Int × Int) (fun g => [(0, .s (.one (.raw (.func (.yield l) #[] #[])))), (1, .s (.one (.cp [Ii6 p.Wait, Ii6 p.Most, Ii6 p.Tries]))), (3, .s (.one (Ii6 g.2.2))), (11, .s (.one (Ii6 p.Tries))), (12, .s (.one (Ii6 g.2.1)))])
  (fun g => J g.1) (fun g => 0 ≤ g.2.1 ∧ g.2.1 ≤ p.Tries ∧ (P1 p.Most p.Tries.toNat 0 p.Wait).drop g.1 = P1 p.Most (p.Tries - g.2.1).toNat g.2.1 g.2.2 ∧ g.1 + (p.Tries - g.2.1).toNat = p.Tries.toNat)
  (fun g => (p.Tries - g.2.1).toNat) (0, 0, p.Wait) ⟨Int.le_refl _, h5, by simp, by simp⟩ ⟨rfl, rfl, rfl, rfl, rfl, trivial⟩ rfl (fun _ _ => Be rfl) ?_
 rintro ⟨k, i, d⟩ ⟨g1, g2, g3, g4⟩
 simp only at g1 g2 g3 g4
 refine Ahy ?_
 refine V3 (hJ k) (by rfl) (fun w0 S0 => ?_)
 refine sv rfl (Cp rfl rfl) (Lz ⟨rfl, rfl, Tq (Vj ?_)⟩)
 refine Ahy (Ajx rfl (fun hc => ?_) (fun hc => ?_))
 rotate_left
 ·have hc' : ¬ i < p.Tries := by simpa using hc
  refine Ars (And.intro (Or.inl rfl) (Or.inl ?_))
  show J k = J _
  rw [List.length_map, if_pos rfl, Tp]
  congr 1
  omega
 have hlt : i < p.Tries := by simpa using hc
 refine Am5 (Vj ?_)
 have hn : (p.Tries - i).toNat = (p.Tries - (i + 1)).toNat + 1 := by omega
 rw [hn] at g3
 have hget : (P1 p.Most p.Tries.toNat 0 p.Wait)[k]? = some (i, d) := by
  have := congrArg (fun l => l[0]?) g3
  simpa [P1] using this
 have hwi : wI (i + 1) = i + 1 := by
  show IntKind.i64.wrap (i + 1) = i + 1
  exact Ajc (by omega) (by omega)
 have hdrop : (P1 p.Most p.Tries.toNat 0 p.Wait).drop (k + 1) = P1 p.Most (p.Tries - (i + 1)).toNat (i + 1) (if p.Most < (wI (2 * d)) then p.Most else (wI (2 * d))) := by
  have := congrArg (fun l => l.drop 1) g3
  simpa [P1, hwi, Nat.add_comm] using this
 refine Ahy (Akt (Ahy ?_))
 refine V3 (hJ k) (by rfl) (fun w0 S0 => ?_)
 refine sv rfl (Ag rfl) (sv rfl (Ak rfl) (Lz ⟨rfl, rfl, Tq (Vj ?_)⟩))
 refine Ahy (Ahy (Ahq ?_))
 refine Ai9 (l1 := [_, _, _]) (hJ k) (by rfl) (fun w0 S0 => ?_)
 refine sv rfl (Ag rfl) (sv rfl (Ag rfl) (sv rfl (Ag rfl) (Lz ⟨rfl, rfl, ?_⟩)))
 refine Air rfl rfl (fun _ _ _ _ _ => rfl) hs rfl rfl rfl rfl (x := .one (Ii6 i)) (y := .one (Ii6 d)) (by rw [List.getElem?_map, if_pos rfl, hget]; rfl) ?_ ?_
 rotate_left
 ·
  refine Ai9 (l1 := [_]) (l2 := []) hJx (by rfl) (fun w0 S0 => ?_)
  refine sv rfl (B9 rfl) (Lz ⟨rfl, rfl, Tq (Vj ?_)⟩)
  refine Ajx rfl (fun _ => ?_) (fun hx => Bool.noConfusion hx)
  exact Atl (And.intro (Or.inr rfl) (Or.inr rfl))
 refine Ai9 (l1 := [_]) (l2 := []) (hJ (k + 1)) (by rfl) (fun w0 S0 => ?_)
 refine sv rfl (B9 rfl) (Lz ⟨rfl, rfl, Tq (Vj ?_)⟩)
 refine Ajx rfl (fun hx => Bool.noConfusion hx) (fun _ => ?_)
 refine Am5 (Vj ?_)
 refine V3 (hJ (k + 1)) (by rfl) (fun w0 S0 => ?_)
 refine sv rfl (Ag rfl) (sv rfl (X8 rfl rfl) (sv rfl (B3 Ahp rfl) (sv rfl (Ae ti3 rfl (.cp _) rfl) (sv rfl (Sw rfl rfl) (sv rfl (Ak rfl) (Lz ⟨rfl, rfl, Tq (Avw (Vj ?_))⟩))))))
 refine V3 (hJ (k + 1)) (by rfl) (fun w0 S0 => ?_)
 refine sv rfl (B0 rfl rfl) (sv rfl (Ag rfl) (Lz ⟨rfl, rfl, Tq (Vj ?_)⟩))
 refine ⟨(k + 1, wI (i + 1), (if p.Most < (wI (2 * d)) then p.Most else (wI (2 * d)))), ⟨?_, ?_, ?_, ?_⟩, ⟨rfl, rfl, rfl, rfl, rfl, trivial⟩, rfl, ?_⟩
 ·show 0 ≤ wI (i + 1)
  rw [hwi]; omega
 ·show wI (i + 1) ≤ p.Tries
  rw [hwi]; omega
 ·show List.drop (k + 1) _ = P1 p.Most (p.Tries - wI (i + 1)).toNat (wI (i + 1)) _
  rw [hwi]
  exact hdrop
 ·show k + 1 + (p.Tries - wI (i + 1)).toNat = _
  rw [hwi]; omega
 ·show (p.Tries - wI (i + 1)).toNat < (p.Tries - i).toNat
  rw [hwi]; omega
def Ij (a1 : Int) (s1 : Int × Bool) (x1 : Int × Int) : Option ((Int × Bool) ⊕ (Nat × (Int × Bool))) :=
 if (decide (x1.1 = a1)) then (some (.inr (0, (x1.2, true)))) else (some (.inl (s1.1, s1.2)))
def Mj (s2 : Int × Bool) : Option (Int × Bool) :=
 some (0, false)
def Mm (s3 : Int × Bool) : Option (Int × Bool) :=
 some (s3.1, s3.2)
def Gw (a0 : Dn) (a1 : Int) : Option (Int × Bool) :=
 (Aia a0).bind fun L1 => (Tj (Ij a1) L1 (0, false)).bind fun e => Ake Mj Mm (fun _ _ => none) e
set_option maxRecDepth 100000 in
theorem K9 {a0 : Dn} {a1 : Int} {r : Int × Bool} (h : Gw a0 a1 = some r) : Bp Tryz.prog 69 [.agg (EL.el a0), .one (Ii6 a1)] (· = .tup [.one (Ii6 r.1), .one (.b r.2)]) := by
 unfold Gw at h
 refine Ad8 Tryz.func69 rfl (nt := 16) rfl (Nbl rfl) ?_
 intro w0 S0
 refine Als (Tb rfl (fun w0 S0 X0 m0 H0 => ?_))
 refine Al6 rfl rfl rfl (Al6 rfl rfl rfl (Bz rfl zi3 (Bz rfl zi4 (As (Als (Als (Tb rfl (fun w0 S0 X0 m0 H0 => ?_))))))))
 refine sv rfl (Dd (ys := [Ii6 a0.Wait, Ii6 a0.Most, Ii6 a0.Tries]) Aj4 rfl (.cp _) rfl rfl) (A2 rfl Au2 (Ac rfl Al) (Aj rfl) Tx (As (Aku ?_)))
 obtain ⟨L1, hL1, h⟩ := An h
 obtain ⟨e1, he1, h⟩ := An h
 refine Ale (Ij a1) L1 (fun x1 => .one (Ii6 x1.1)) (fun x1 => .one (Ii6 x1.2)) (fun s1 => [.box [Ii6 s1.1], .box [.b s1.2]]) (0, false) he1 rfl Asy rfl (Alr hL1) rfl rfl rfl (fun _ => rfl) (fun _ => A0 rfl) ?_ ?_ ?_ ?_
 ·clear h
  intro x1 s1 y1 l h w0 S0 X0 H0
  unfold Ij at h
  refine Als (Tb rfl (fun w0 S0 X0 m0 H0 => ?_))
  refine sv rfl (Ak rfl) (As (Tb rfl (fun w0 S0 X0 m0 H0 => ?_)))
  refine sv rfl (Ak rfl) (As (fun w0 S0 X0 H0 => ?_))
  refine Aku (Als (Tb rfl (fun w0 S0 X0 m0 H0 => ?_)))
  refine sv rfl (Ag rfl) (sv rfl (Ae ti3 rfl (.cp _) rfl) (sv rfl (Bq rfl rfl) (As (Asd rfl (fun hc => ?_) (fun hc => ?_)))))
  ·replace h := B2 hc h
   clear hc
   refine Als (Tb rfl (fun w0 S0 X0 m0 H0 => ?_))
   refine sv rfl (Ag rfl) (Ax sz3 rfl rfl rfl rfl (Nbl rfl) (Bs [.box [Ii6 x1.2], .box [.b s1.2]] rfl (Ax sz4 rfl rfl rfl rfl (Nbl rfl) (Bs [.box [Ii6 x1.2], .box [.b true]] rfl (As (Aty (A9 ?_)))))))
   obtain rfl := Option.some.inj h
   exact ⟨(x1.2, true), _, rfl, rfl⟩
  ·replace h := B1 hc h
   clear hc
   refine Ar5 (A4 ?_)
   obtain rfl := Option.some.inj h
   exact ⟨(s1.1, s1.2), _, rfl, rfl⟩
 ·intro s2 hs
  obtain rfl := hs
  replace h : Mj s2 = some r := h
  unfold Mj at h
  refine A4 (Ai (Als (Tb rfl (fun w0 S0 X0 m0 H0 => ?_))))
  refine Ax sz3 rfl rfl rfl rfl (Nbl rfl) (Bs [.box [Ii6 0], .box [.b s2.2]] rfl (Ax sz4 rfl rfl rfl rfl (Nbl rfl) (Bs [.box [Ii6 0], .box [.b false]] rfl (As (Aty ?_)))))
  obtain rfl := Option.some.inj h
  refine ⟨Or.inr rfl, _, _, _, (Ad (Bd.one _ _ _ _ _ ti3 rfl (.lp _ _ _ rfl) rfl) (Ad (Bd.one _ _ _ _ _ ti4 rfl (.lp _ _ _ rfl) rfl) Af)), (Aj rfl), ?_⟩
  rfl
 ·intro s3 hs
  obtain rfl := hs
  replace h : Mm s3 = some r := h
  unfold Mm at h
  refine A9 (Ar ?_)
  obtain rfl := Option.some.inj h
  refine ⟨Or.inr rfl, _, _, _, (Ad (Bd.one _ _ _ _ _ ti3 rfl (.lp _ _ _ rfl) rfl) (Ad (Bd.one _ _ _ _ _ ti4 rfl (.lp _ _ _ rfl) rfl) Af)), (Aj rfl), ?_⟩
  rfl
 ·intro id s hs
  obtain rfl := hs
  replace h : none = some r := h
  cases h
def Hs (a0 : List UInt8) (a1 : Bool) : Option (List UInt8) :=
 if a1 then ((Ei a0 (1#64) 1).bind fun v1 => some v1) else ((Ei a0 (0#64) 1).bind fun v2 => some v2)
set_option maxRecDepth 100000 in
theorem M6 {a0 : List UInt8} {a1 : Bool} {r : (List UInt8)} (h : Hs a0 a1 = some r) : Bp Tryz.prog 42 [.one (.sl a0.length (a0.flatMap eU8)), .one (.b a1)] (· = .s (.one (.sl r.length (r.flatMap eU8)))) := by
 unfold Hs at h
 refine A1 Tryz.func42 rfl (nt := 10) rfl (Nbl rfl) ?_
 intro w0 S0
 refine Aq (Ab (sv rfl (Ak rfl) (As (Aq (Aq (Ab (sv rfl (Ag rfl) (As (ccI h rfl (fun h => ?_) (fun h => ?_))))))))))
 ·refine Aq (Ab (sv rfl (Ag rfl) ?_))
  obtain ⟨v1, hv1, h⟩ := An h
  refine A2 rfl Aaz (Ac rfl (Ac rfl (Ac rfl Al))) (Aj rfl) (El hv1) (sv rfl (Ak rfl) (As (Bj (Ar ?_))))
  obtain rfl := Option.some.inj h
  refine ⟨Or.inr rfl, _, _, _, (Ad (Bd.tmp _ _ rfl) Af), (Aj rfl), ?_⟩
  rfl
 ·refine Bl (Ai (Aq (Ab (sv rfl (Ag rfl) ?_))))
  obtain ⟨v2, hv2, h⟩ := An h
  refine A2 rfl Aaz (Ac rfl (Ac rfl (Ac rfl Al))) (Aj rfl) (El hv2) (sv rfl (Ak rfl) (As (Bj ?_)))
  obtain rfl := Option.some.inj h
  refine ⟨Or.inr rfl, _, _, _, (Ad (Bd.tmp _ _ rfl) Af), (Aj rfl), ?_⟩
  rfl
def F1 (a0 : List UInt8) (a1 : List UInt8) : Option (List UInt8) :=
 (cut a1 0 (if 65535 < (a1.length : Int) then 65535 else (a1.length : Int))).bind fun c1 => (Ei a0 (BitVec.ofInt 64 (c1.length : Int)) 2).bind fun v2 => (Eo [v2, c1]).bind fun v3 => some v3
set_option maxRecDepth 100000 in
theorem Ip {a0 : List UInt8} {a1 : List UInt8} {r : (List UInt8)} (h : F1 a0 a1 = some r) : Bp Tryz.prog 41 [.one (.sl a0.length (a0.flatMap eU8)), .one (.sl a1.length (a1.flatMap eU8))] (· = .s (.one (.sl r.length (r.flatMap eU8)))) := by
 unfold F1 at h
 refine A1 Tryz.func41 rfl (nt := 18) rfl (Nbl rfl) ?_
 intro w0 S0
 refine Aq (Ab (sv rfl (Ak rfl) (As (Aq (Ab (sv rfl (Ag rfl) (sv rfl (Ag rfl) (sv rfl (Az Lh rfl) (sv rfl (Sw rfl rfl) ?_)))))))))
 obtain ⟨c1, hc1, h⟩ := An h
 refine sv rfl (Sl (f := eU8) (lo := 0) (hi := (if 65535 < (a1.length : Int) then 65535 else (a1.length : Int))) Lh (fun _ => rfl) rfl rfl rfl Rm (Hn rfl (Int.le_trans (Ks hc1).1.1 (Ks hc1).1.2.1)) hc1) ?_
 refine sv rfl (Ak rfl) (As (Aq (Ab (sv rfl (Ag rfl) (sv rfl (Ag rfl) (sv rfl (Az Lh rfl) (sv rfl (C3 rfl Tryz.underlying3 Tryz.underlying112 rfl) ?_)))))))
 obtain ⟨v2, hv2, h⟩ := An h
 refine A2 rfl Aaz (Ac rfl (Ac rfl (Ac rfl Al))) (Aj rfl) (El hv2) (sv rfl (Ag rfl) ?_)
 refine S8 (out := ([v2, c1] : List (List UInt8)).flatMap (eL eU8)) rfl Tryz.underlying124 Anw (Ap rfl (Ap rfl Ba)) (.cons _ _ _ _ _ _ _ rfl rfl (Nbl rfl) (.cons _ _ _ _ _ _ _ rfl rfl (Nbl rfl) (.nil _))) rfl (by decide) ?_
 refine Aai 16 rfl (by (repeat' first | exact J5.nil _ | apply J5.cons | apply Jz.one | apply Jz.agg | exact E6.nil | exact E6.ls _ _ _ _ _ _ rfl (Bg (f := (eL eU8)) (fun _ => rfl) ([v2, c1] : List (List UInt8))).symm | exact E6.ls _ _ _ _ _ _ rfl (Bg (f := (eL eU8)) (fun _ => rfl) _).symm | exact E6.id _ rfl | exact D1.nil _ | apply D1.cons)) ?_
 obtain ⟨v3, hv3, h⟩ := An h
 refine C2 (x' := .s (.one (.ls 1 v3.length))) (M' := [.arr 33 1 ([v2, c1].flatMap (eL eU8)).length ([v2, c1].flatMap (eL eU8)), .arr 5 1 0 (v3.flatMap eU8)]) [] rfl Aqn (.func _) (Ac rfl Al) (Iv hv3) rfl rfl (by decide) rfl rfl rfl ?_
 refine sv rfl (Ak rfl) (As (Bj ?_))
 obtain rfl := Option.some.inj h
 refine ⟨Or.inr rfl, _, _, _, (Ad (Bd.tmp _ _ rfl) Af), (by (repeat' first | exact J5.nil _ | apply J5.cons | apply Jz.one | apply Jz.agg | exact E6.nil | exact E6.ls _ _ _ _ _ _ rfl (Bg (f := (eL eU8)) (fun _ => rfl) _).symm | exact E6.ls _ _ _ _ _ _ rfl (Bg (f := eU8) (fun _ => rfl) _).symm | exact E6.id _ rfl | exact D1.nil _ | apply D1.cons)), ?_⟩
 rfl
def Ih (b10 : (List UInt8)) : Option ((List UInt8) × Int) :=
 some (b10, 0)
def Hm (a0 : Ca) (v2 : Gz) (b9 : (List UInt8)) : Option ((List UInt8) × Int) :=
 if v2.rng_ then ((F1 b9 a0.Rng.Lo).bind fun v11 => (Hs v11 a0.Rng.Open).bind fun v12 => (F1 v12 a0.Rng.Hi).bind fun v13 => Ih v13) else (Ih b9)
def Hl (a0 : Ca) (v2 : Gz) (b8 : (List UInt8)) : Option ((List UInt8) × Int) :=
 if v2.val_ then ((F1 b8 a0.Val).bind fun v14 => Hm a0 v2 v14) else (Hm a0 v2 b8)
def Ho (a0 : Ca) (v2 : Gz) (b7 : (List UInt8)) : Option ((List UInt8) × Int) :=
 if v2.key_ then ((F1 b7 a0.Key).bind fun v15 => Hl a0 v2 v15) else (Hl a0 v2 b7)
def Hp (a0 : Ca) (v2 : Gz) (b6 : (List UInt8)) : Option ((List UInt8) × Int) :=
 if v2.ro_ then ((Hs b6 a0.RO).bind fun v16 => Ho a0 v2 v16) else (Ho a0 v2 b6)
def Fd (a0 : Ca) (v2 : Gz) (b5 : (List UInt8)) : Option ((List UInt8) × Int) :=
 if v2.attempt_ then ((Ei b5 (BitVec.ofInt 64 a0.Attempt) 2).bind fun v17 => Hp a0 v2 v17) else (Hp a0 v2 b5)
def L2 (a0 : Ca) : Option ((List UInt8) × Int) :=
 (Jb a0).bind fun v1 => if (!v1) then (some (([] : List UInt8), 1)) else ((I4 a0.Kind).bind fun v2 => (Ei ([] : List UInt8) (BitVec.ofInt 64 a0.Kind) 1).bind fun v3 => (Ei v3 (BitVec.ofInt 64 a0.Seq) 4).bind fun v4 => if v2.token_ then ((Ei v4 (BitVec.ofInt 64 a0.Token) 8).bind fun v18 => Fd a0 v2 v18) else (Fd a0 v2 v4))
set_option maxRecDepth 100000 in
theorem Ve {a0 : Ca} {r : (List UInt8) × Int} (h : L2 a0 = some r) : Bp Tryz.prog 89 [.agg (EL.el a0)] (· = .tup [.one (.sl r.1.length (r.1.flatMap eU8)), .one (Ii6 r.2)]) := by
 unfold L2 at h
 refine A1 Tryz.func89 rfl (nt := 68) rfl (Nbl rfl) ?_
 intro w0 S0
 refine Aq (Ab (Jd rfl rfl (sv rfl (Ak rfl) (sv rfl (Ak rfl) (As (Aq (Aq (Ab (sv rfl (Ao Ad4 rfl (.lp _ _ _ rfl) (Nbl rfl)) ?_)))))))))
 obtain ⟨v1, hv1, h⟩ := An h
 refine A2 rfl Aul (Ac rfl Al) (Aj rfl) (Pa hv1) (sv rfl (B9 rfl) (As (ccI h rfl (fun h => ?_) (fun h => ?_))))
 ·refine Aq (Ab (sv rfl (Ak rfl) (sv rfl (Ak rfl) (As (Bj (Ar ?_))))))
  obtain rfl := Option.some.inj h
  refine ⟨Or.inr rfl, _, _, _, (Ad (Bd.tmp _ _ rfl) (Ad (Bd.tmp _ _ rfl) Af)), (Np rfl), ?_⟩
  rfl
 ·refine Bl (Ai (Aq (Ab (sv rfl (Aa Pz rfl) (sv rfl (Ae ti3 rfl (.lp _ _ _ rfl) rfl) ?_)))))
  obtain ⟨v2, hv2, h⟩ := An h
  refine A2 rfl Aun (Ac rfl Al) (Aj rfl) (O8 hv2) (Bz rfl Aic (Ax Aik rfl rfl rfl rfl (Nbl rfl) (Bs [.box (EL.el a0), .box (EL.el v2)] rfl (As (Aq ?_)))))
  refine Ae6 Ma (by kernel_rfl) ?_
  refine dv rfl (Aa Pz rfl) (dv rfl (Ae ti3 rfl (.lp _ _ _ rfl) rfl) (dv rfl (C3 rfl Tryz.underlying3 Tryz.underlying112 rfl) ?_))
  obtain ⟨v3, hv3, h⟩ := An h
  refine dd rfl (Tr Aaz (Ac rfl (Ac rfl (Ac rfl Al))) rfl (El hv3)) (dv rfl (Aa Qp rfl) (dv rfl (Ae ti3 rfl (.lp _ _ _ rfl) rfl) (dv rfl (C3 rfl Tryz.underlying3 Tryz.underlying112 rfl) ?_)))
  obtain ⟨v4, hv4, h⟩ := An h
  refine dd rfl (D2 Aaz (Ac rfl (Ac rfl (Ac rfl Al))) rfl (El hv4)) (dv rfl (Ak rfl) (Afb (Ai (Aq (Aq (Ab (sv rfl (Aa Agb rfl) (sv rfl (Ae ti4 rfl (.lp _ _ _ rfl) rfl) (As (G5 ((List UInt8)) (fun b5 => [(1, .s (.one (.lp 0 0))), (4, .s (.one (.lp 1 0))), (5, .s (.one (.sl b5.length (b5.flatMap eU8))))]) (fun b5 => [.box (EL.el a0), .box (EL.el v2)]) (fun b5 => Fd a0 v2 b5 = some r) (fun _ _ => Be rfl) (fun _ _ => A0 rfl) (fun _ _ => Nat.le_of_ble_eq_true rfl) (fun b5 h => ?_) ?_))))))))))
  ·unfold Fd at h
   refine Aq (Aq (Ab (sv rfl (Aa Ahf rfl) (sv rfl (Ae ti4 rfl (.lp _ _ _ rfl) rfl) (As (G5 ((List UInt8)) (fun b6 => [(1, .s (.one (.lp 0 0))), (4, .s (.one (.lp 1 0))), (5, .s (.one (.sl b6.length (b6.flatMap eU8))))]) (fun b6 => [.box (EL.el a0), .box (EL.el v2)]) (fun b6 => Hp a0 v2 b6 = some r) (fun _ _ => Be rfl) (fun _ _ => A0 rfl) (fun _ _ => Nat.le_of_ble_eq_true rfl) (fun b6 h => ?_) ?_))))))
   ·unfold Hp at h
    refine Aq (Aq (Ab (sv rfl (Aa Ahh rfl) (sv rfl (Ae ti4 rfl (.lp _ _ _ rfl) rfl) (As (G5 ((List UInt8)) (fun b7 => [(1, .s (.one (.lp 0 0))), (4, .s (.one (.lp 1 0))), (5, .s (.one (.sl b7.length (b7.flatMap eU8))))]) (fun b7 => [.box (EL.el a0), .box (EL.el v2)]) (fun b7 => Ho a0 v2 b7 = some r) (fun _ _ => Be rfl) (fun _ _ => A0 rfl) (fun _ _ => Nat.le_of_ble_eq_true rfl) (fun b7 h => ?_) ?_))))))
    ·unfold Ho at h
     refine Aq (Aq (Ab (sv rfl (Aa Acj rfl) (sv rfl (Ae ti4 rfl (.lp _ _ _ rfl) rfl) (As (G5 ((List UInt8)) (fun b8 => [(1, .s (.one (.lp 0 0))), (4, .s (.one (.lp 1 0))), (5, .s (.one (.sl b8.length (b8.flatMap eU8))))]) (fun b8 => [.box (EL.el a0), .box (EL.el v2)]) (fun b8 => Hl a0 v2 b8 = some r) (fun _ _ => Be rfl) (fun _ _ => A0 rfl) (fun _ _ => Nat.le_of_ble_eq_true rfl) (fun b8 h => ?_) ?_))))))
     ·unfold Hl at h
      refine Aq (Aq (Ab (sv rfl (Aa Abv rfl) (sv rfl (Ae ti4 rfl (.lp _ _ _ rfl) rfl) (As (G5 ((List UInt8)) (fun b9 => [(1, .s (.one (.lp 0 0))), (4, .s (.one (.lp 1 0))), (5, .s (.one (.sl b9.length (b9.flatMap eU8))))]) (fun b9 => [.box (EL.el a0), .box (EL.el v2)]) (fun b9 => Hm a0 v2 b9 = some r) (fun _ _ => Be rfl) (fun _ _ => A0 rfl) (fun _ _ => Nat.le_of_ble_eq_true rfl) (fun b9 h => ?_) ?_))))))
      ·unfold Hm at h
       refine Aq (Aq (Ab (sv rfl (Aa Ach rfl) (sv rfl (Ae ti4 rfl (.lp _ _ _ rfl) rfl) (As (G5 ((List UInt8)) (fun b10 => [(5, .s (.one (.sl b10.length (b10.flatMap eU8))))]) (fun b10 => [.box (EL.el a0), .box (EL.el v2)]) (fun b10 => Ih b10 = some r) (fun _ _ => Be rfl) (fun _ _ => A0 rfl) (fun _ _ => Nat.le_of_ble_eq_true rfl) (fun b10 h => ?_) ?_))))))
       ·unfold Ih at h
        refine Aq (Ab (sv rfl (Ag rfl) (sv rfl (Ak rfl) (sv rfl (Ak rfl) (As (Bj ?_))))))
        obtain rfl := Option.some.inj h
        refine ⟨Or.inr rfl, _, _, _, (Ad (Bd.tmp _ _ rfl) (Ad (Bd.tmp _ _ rfl) Af)), (Aj rfl), ?_⟩
        rfl
       ·skip
        refine ccI h rfl (fun h => ?_) (fun h => ?_)
        ·refine Adl Ma (by kernel_rfl) ?_
         refine dv rfl (Ag rfl) (dv rfl (Aa Aad rfl) (dv rfl (Aa T2 rfl) (dv rfl (Ae L4 rfl (.lp _ _ _ rfl) rfl) ?_)))
         obtain ⟨v11, hv11, h⟩ := An h
         refine dd rfl (D2 Alu (Ac rfl (Ac rfl Al)) rfl (Ip hv11)) (dv rfl (Aa Aad rfl) (dv rfl (Aa Xw rfl) (dv rfl (Ae ti4 rfl (.lp _ _ _ rfl) rfl) ?_)))
         obtain ⟨v12, hv12, h⟩ := An h
         refine dd rfl (D2 Atg (Ac rfl (Ac rfl Al)) rfl (M6 hv12)) (dv rfl (Aa Aad rfl) (dv rfl (Aa Qv rfl) (dv rfl (Ae L4 rfl (.lp _ _ _ rfl) rfl) ?_)))
         obtain ⟨v13, hv13, h⟩ := An h
         refine dd rfl (D2 Alu (Ac rfl (Ac rfl Al)) rfl (Ip hv13)) (dv rfl (Ak rfl) (Afb (Ai ?_)))
         exact ⟨v13, _, h, ⟨rfl, trivial⟩, rfl⟩
        ·refine Bl (Ai ?_)
         exact ⟨b9, _, h, ⟨rfl, trivial⟩, rfl⟩
      ·skip
       refine ccI h rfl (fun h => ?_) (fun h => ?_)
       ·refine Ab (sv rfl (Ag rfl) (sv rfl (Aa Ahb rfl) (sv rfl (Ae L4 rfl (.lp _ _ _ rfl) rfl) ?_)))
        obtain ⟨v14, hv14, h⟩ := An h
        refine A2 rfl Alu (Ac rfl (Ac rfl Al)) (Aj rfl) (Ip hv14) (sv rfl (Ak rfl) (As ?_))
        exact ⟨v14, _, h, ⟨rfl, rfl, rfl, trivial⟩, rfl⟩
       ·refine Bl (Ai ?_)
        exact ⟨b8, _, h, ⟨rfl, rfl, rfl, trivial⟩, rfl⟩
     ·skip
      refine ccI h rfl (fun h => ?_) (fun h => ?_)
      ·refine Ab (sv rfl (Ag rfl) (sv rfl (Aa Afu rfl) (sv rfl (Ae L4 rfl (.lp _ _ _ rfl) rfl) ?_)))
       obtain ⟨v15, hv15, h⟩ := An h
       refine A2 rfl Alu (Ac rfl (Ac rfl Al)) (Aj rfl) (Ip hv15) (sv rfl (Ak rfl) (As ?_))
       exact ⟨v15, _, h, ⟨rfl, rfl, rfl, trivial⟩, rfl⟩
      ·refine Bl (Ai ?_)
       exact ⟨b7, _, h, ⟨rfl, rfl, rfl, trivial⟩, rfl⟩
    ·skip
     refine ccI h rfl (fun h => ?_) (fun h => ?_)
     ·refine Ab (sv rfl (Ag rfl) (sv rfl (Aa Aj5 rfl) (sv rfl (Ae ti4 rfl (.lp _ _ _ rfl) rfl) ?_)))
      obtain ⟨v16, hv16, h⟩ := An h
      refine A2 rfl Atg (Ac rfl (Ac rfl Al)) (Aj rfl) (M6 hv16) (sv rfl (Ak rfl) (As ?_))
      exact ⟨v16, _, h, ⟨rfl, rfl, rfl, trivial⟩, rfl⟩
     ·refine Bl (Ai ?_)
      exact ⟨b6, _, h, ⟨rfl, rfl, rfl, trivial⟩, rfl⟩
   ·skip
    refine ccI h rfl (fun h => ?_) (fun h => ?_)
    ·refine Ab (sv rfl (Ag rfl) (sv rfl (Aa Aki rfl) (sv rfl (Ae ti3 rfl (.lp _ _ _ rfl) rfl) (sv rfl (C3 rfl Tryz.underlying3 Tryz.underlying112 rfl) ?_))))
     obtain ⟨v17, hv17, h⟩ := An h
     refine A2 rfl Aaz (Ac rfl (Ac rfl (Ac rfl Al))) (Aj rfl) (El hv17) (sv rfl (Ak rfl) (As ?_))
     exact ⟨v17, _, h, ⟨rfl, rfl, rfl, trivial⟩, rfl⟩
    ·refine Bl (Ai ?_)
     exact ⟨b5, _, h, ⟨rfl, rfl, rfl, trivial⟩, rfl⟩
  ·skip
   refine ccI h rfl (fun h => ?_) (fun h => ?_)
   ·refine Ab (sv rfl (Ag rfl) (sv rfl (Aa Aj8 rfl) (sv rfl (Ae ti3 rfl (.lp _ _ _ rfl) rfl) (sv rfl (C3 rfl Tryz.underlying3 Tryz.underlying112 rfl) ?_))))
    obtain ⟨v18, hv18, h⟩ := An h
    refine A2 rfl Aaz (Ac rfl (Ac rfl (Ac rfl Al))) (Aj rfl) (El hv18) (sv rfl (Ak rfl) (As ?_))
    exact ⟨v18, _, h, ⟨rfl, rfl, rfl, trivial⟩, rfl⟩
   ·refine Bl (Ai ?_)
    exact ⟨v4, _, h, ⟨rfl, rfl, rfl, trivial⟩, rfl⟩
def Nd (a0 : List UInt8) : Option Gh :=
 (I8 a0).bind fun v1 => some (Gh.mk (Lc.mk (a0.length : Int) v1) a0)
set_option maxRecDepth 100000 in
theorem U8 {a0 : List UInt8} {r : Gh} (h : Nd a0 = some r) : Bp Tryz.prog 43 [.one (.sl a0.length (a0.flatMap eU8))] (· = .s (.agg (EL.el r))) := by
 unfold Nd at h
 refine A1 Tryz.func43 rfl (nt := 10) rfl (Nbl rfl) ?_
 intro w0 S0
 refine Aq (Ab (Bz rfl Ww (As (Aq (Ab (sv rfl (Ag rfl) (sv rfl (Az Lh rfl) (sv rfl (Ag rfl) ?_))))))))
 obtain ⟨v1, hv1, h⟩ := An h
 refine A2 rfl Auh (Ac rfl Al) (Aj rfl) (Pl hv1) (sv rfl (Bk Ase Ar2 (Ap rfl (Ap rfl Ba)) (.cons _ _ _ _ _ _ _ rfl rfl (Nbl rfl) (.cons _ _ _ _ _ _ _ rfl rfl (Nbl rfl) (.nil _)))) (sv rfl (Ag rfl) (sv rfl (Bk Ww Adt (Ap rfl (Ap rfl Ba)) (.cons _ _ _ _ _ _ _ rfl rfl (Nbl rfl) (.cons _ _ _ _ _ _ _ rfl rfl (Nbl rfl) (.nil _)))) (Ax Yw rfl rfl rfl rfl (Nbl rfl) (Bs [.box [Ii6 (a0.length : Int), .i .u32 (v1.toNat : Int), .sl a0.length (a0.flatMap eU8)]] rfl (As (Bj ?_)))))))
 obtain rfl := Option.some.inj h
 refine ⟨Or.inr rfl, _, _, _, (Ad (Bd.agg _ _ _ _ _ Abe rfl (.lp _ _ _ rfl) (Nbl rfl)) Af), (Aj rfl), ?_⟩
 rfl
def K0 (a0 : List UInt8) (a1 : List UInt8) : Option ((List UInt8) × Int) :=
 if (decide (512 < (a1.length : Int))) then (some (([] : List UInt8), 5)) else ((Nd a1).bind fun v1 => (Ei ([] : List UInt8) (BitVec.ofInt 64 v1.head_.size_) 2).bind fun v2 => (Ei v2 (v1.head_.sum_.setWidth 64) 4).bind fun v3 => (Eo [a0, v3, v1.payload_]).bind fun v4 => some (v4, 0))
set_option maxRecDepth 100000 in
theorem Q7 {a0 : List UInt8} {a1 : List UInt8} {r : (List UInt8) × Int} (h : K0 a0 a1 = some r) : Bp Tryz.prog 17 [.one (.sl a0.length (a0.flatMap eU8)), .one (.sl a1.length (a1.flatMap eU8))] (· = .tup [.one (.sl r.1.length (r.1.flatMap eU8)), .one (Ii6 r.2)]) := by
 unfold K0 at h
 refine A1 Tryz.func17 rfl (nt := 30) rfl (Nbl rfl) ?_
 intro w0 S0
 refine Aq (Ab (sv rfl (Ak rfl) (sv rfl (Ak rfl) (As (Aq (Aq (Ab (sv rfl (Ag rfl) (sv rfl (Az Lh rfl) (sv rfl (C6 rfl rfl) (As (ccI h rfl (fun h => ?_) (fun h => ?_)))))))))))))
 ·refine Aq (Ab (sv rfl (Ak rfl) (sv rfl (Ak rfl) (As (Bj (Ar ?_))))))
  obtain rfl := Option.some.inj h
  refine ⟨Or.inr rfl, _, _, _, (Ad (Bd.tmp _ _ rfl) (Ad (Bd.tmp _ _ rfl) Af)), (Np rfl), ?_⟩
  rfl
 ·refine Bl (Ai (Aq (Ab (sv rfl (Ag rfl) ?_))))
  obtain ⟨v1, hv1, h⟩ := An h
  refine A2 rfl Avl (Ac rfl Al) (Aj rfl) (U8 hv1) (Bz rfl Ww (Ax Yw rfl rfl rfl rfl (Nbl rfl) (Bs [.box (EL.el v1)] rfl (As (Aq (Ab (sv rfl (Aa Pw rfl) (sv rfl (Aa Uc rfl) (sv rfl (Ae ti3 rfl (.lp _ _ _ rfl) rfl) (sv rfl (C3 rfl Tryz.underlying3 Tryz.underlying112 rfl) ?_))))))))))
  obtain ⟨v2, hv2, h⟩ := An h
  refine A2 rfl Aaz (Ac rfl (Ac rfl (Ac rfl Al))) (Np rfl) (El hv2) (sv rfl (Ak rfl) (As (Aq (Ab (sv rfl (Ag rfl) (sv rfl (Aa Pw rfl) (sv rfl (Aa Abb rfl) (sv rfl (Ae Anc rfl (.lp _ _ _ rfl) rfl) (sv rfl (N5 (k := .u32) (a := v1.head_.sum_) rfl Tryz.underlying117 Tryz.underlying112 rfl rfl) ?_)))))))))
  obtain ⟨v3, hv3, h⟩ := An h
  refine A2 rfl Aaz (Ac rfl (Ac rfl (Ac rfl Al))) (Aj rfl) (El hv3) (sv rfl (Ak rfl) (As (Aq (Ab (sv rfl (Ag rfl) (sv rfl (Ag rfl) (sv rfl (Aa Yx rfl) (sv rfl (Ae L4 rfl (.lp _ _ _ rfl) rfl) ?_))))))))
  refine S8 (out := ([a0, v3, v1.payload_] : List (List UInt8)).flatMap (eL eU8)) rfl Tryz.underlying124 Anw (Ap rfl (Ap rfl (Ap rfl Ba))) (.cons _ _ _ _ _ _ _ rfl rfl (Nbl rfl) (.cons _ _ _ _ _ _ _ rfl rfl (Nbl rfl) (.cons _ _ _ _ _ _ _ rfl rfl (Nbl rfl) (.nil _)))) rfl (by decide) ?_
  refine Aai 28 rfl (by (repeat' first | exact J5.nil _ | apply J5.cons | apply Jz.one | apply Jz.agg | exact E6.nil | exact E6.ls _ _ _ _ _ _ rfl (Bg (f := (eL eU8)) (fun _ => rfl) ([a0, v3, v1.payload_] : List (List UInt8))).symm | exact E6.ls _ _ _ _ _ _ rfl (Bg (f := (eL eU8)) (fun _ => rfl) _).symm | exact E6.id _ rfl | exact D1.nil _ | apply D1.cons)) ?_
  obtain ⟨v4, hv4, h⟩ := An h
  refine C2 (x' := .s (.one (.ls 2 v4.length))) (M' := [.box (EL.el v1), .arr 33 1 ([a0, v3, v1.payload_].flatMap (eL eU8)).length ([a0, v3, v1.payload_].flatMap (eL eU8)), .arr 5 1 0 (v4.flatMap eU8)]) [] rfl Aqn (.func _) (Ac rfl Al) (Iv hv4) rfl rfl (by decide) rfl rfl rfl ?_
  refine sv rfl (Ak rfl) (sv rfl (Ak rfl) (As (Bj ?_)))
  obtain rfl := Option.some.inj h
  refine ⟨Or.inr rfl, _, _, _, (Ad (Bd.tmp _ _ rfl) (Ad (Bd.tmp _ _ rfl) Af)), (by (repeat' first | exact J5.nil _ | apply J5.cons | apply Jz.one | apply Jz.agg | exact E6.nil | exact E6.ls _ _ _ _ _ _ rfl (Bg (f := (eL eU8)) (fun _ => rfl) _).symm | exact E6.ls _ _ _ _ _ _ rfl (Bg (f := eU8) (fun _ => rfl) _).symm | exact E6.id _ rfl | exact D1.nil _ | apply D1.cons)), ?_⟩
  rfl
def Fh (a0 : Ah) : Option Ah :=
 (L2 a0.Req).bind fun v1 => if (!decide (v1.2 = 0)) then ((Ce a0).bind fun v2 => some v2) else ((K0 a0.Out v1.1).bind fun v3 => if (!decide (v3.2 = 0)) then ((Ce a0).bind fun v4 => some v4) else (some ({a0 with Out := v3.1})))
set_option maxRecDepth 100000 in
theorem Mx {a0 : Ah} {r : Ah} (h : Fh a0 = some r) : Bp Tryz.prog 70 [.agg (EL.el a0)] (· = .s (.agg (EL.el r))) := by
 unfold Fh at h
 refine A1 Tryz.func70 rfl (nt := 30) rfl (Nbl rfl) ?_
 intro w0 S0
 refine Aq (Ab (Jd rfl rfl (Bz rfl Nn (As (Aq (Ab (sv rfl (Aa Jq rfl) (sv rfl (Ao Ad4 rfl (.lp _ _ _ rfl) (Nbl rfl)) ?_))))))))
 obtain ⟨v1, hv1, h⟩ := An h
 refine A2 rfl Avk (Ac rfl Al) (Aj rfl) (Ve hv1) (sv rfl (Gj rfl) (sv rfl (Bc rfl rfl) (sv rfl (Bc rfl rfl) (sv rfl (Ak rfl) (sv rfl (Ak rfl) (As (Aq (Aq (Ab (sv rfl (Ag rfl) (sv rfl (Cd rfl rfl) (As (ccI h rfl (fun h => ?_) (fun h => ?_))))))))))))))
 ·refine Aq (Ab (sv rfl (Ao B5 rfl (.lp _ _ _ rfl) (Nbl rfl)) ?_))
  obtain ⟨v2, hv2, h⟩ := An h
  refine A2 rfl Al5 (Ac rfl Al) (Aj rfl) (Dg hv2) (Ax Ey rfl rfl rfl rfl (Nbl rfl) (Bs [.box (EL.el a0), .box (EL.el v2)] rfl (As (Bj (Ar ?_)))))
  obtain rfl := Option.some.inj h
  refine ⟨Or.inr rfl, _, _, _, (Ad (Bd.agg _ _ _ _ _ B5 rfl (.lp _ _ _ rfl) (Nbl rfl)) Af), (Aj rfl), ?_⟩
  rfl
 ·refine Bl (Ai (Aq (Ab (sv rfl (Aa Qi rfl) (sv rfl (Ae L4 rfl (.lp _ _ _ rfl) rfl) (sv rfl (Ag rfl) ?_))))))
  obtain ⟨v3, hv3, h⟩ := An h
  refine A2 rfl At7 (Ac rfl (Ac rfl Al)) (Aj rfl) (Q7 hv3) (sv rfl (Gj rfl) (sv rfl (Bc rfl rfl) (sv rfl (Bc rfl rfl) (sv rfl (Ak rfl) (sv rfl (Ak rfl) (As (Aq (Aq (Ab (sv rfl (Ag rfl) (sv rfl (Cd rfl rfl) (As (ccI h rfl (fun h => ?_) (fun h => ?_))))))))))))))
  ·refine Aq (Ab (sv rfl (Ao B5 rfl (.lp _ _ _ rfl) (Nbl rfl)) ?_))
   obtain ⟨v4, hv4, h⟩ := An h
   refine A2 rfl Al5 (Ac rfl Al) (Aj rfl) (Dg hv4) (Ax Ey rfl rfl rfl rfl (Nbl rfl) (Bs [.box (EL.el a0), .box (EL.el v4)] rfl (As (Bj (Ar ?_)))))
   obtain rfl := Option.some.inj h
   refine ⟨Or.inr rfl, _, _, _, (Ad (Bd.agg _ _ _ _ _ B5 rfl (.lp _ _ _ rfl) (Nbl rfl)) Af), (Aj rfl), ?_⟩
   rfl
  ·refine Bl (Ai (Aq (Ab (sv rfl (Ag rfl) (sv rfl (Aa Qi rfl) (Ax Aot rfl rfl rfl rfl (Nbl rfl) (Bs [.box (EL.el {a0 with Out := v3.1}), .box Zba] rfl (As (Aq (Ab (sv rfl (Ao B5 rfl (.lp _ _ _ rfl) (Nbl rfl)) (Ax Ey rfl rfl rfl rfl (Nbl rfl) (Bs [.box (EL.el {a0 with Out := v3.1}), .box (EL.el {a0 with Out := v3.1})] rfl (As (Bj ?_)))))))))))))))
   obtain rfl := Option.some.inj h
   refine ⟨Or.inr rfl, _, _, _, (Ad (Bd.agg _ _ _ _ _ B5 rfl (.lp _ _ _ rfl) (Nbl rfl)) Af), (Aj rfl), ?_⟩
   rfl
def Gv (a0 : Ah) (a1 : Ca) (b1 : Unit) : Option Ah :=
 (Gw a0.Cfg.Plan 0).bind fun v2 => (Fh ({a0 with Seq := (wI (a0.Seq + 1)), Sent := 0, Left := v2.1, Req := {a1 with Seq := a0.Seq}})).bind fun v3 => some v3
def Cb (a0 : Ah) (a1 : Ca) : Option Ah :=
 if (decide (4294967295 < a0.Seq)) then ((Ce a0).bind fun v4 => some v4) else ((Et a0).bind fun v5 => if v5 then ((Ce a0).bind fun v6 => some v6) else (Gv a0 a1 ()))
set_option maxRecDepth 100000 in
theorem C7 {a0 : Ah} {a1 : Ca} {r : Ah} (h : Cb a0 a1 = some r) : Bp Tryz.prog 35 [.agg (EL.el a0), .agg (EL.el a1)] (· = .s (.agg (EL.el r))) := by
 unfold Cb at h
 refine A1 Tryz.func35 rfl (nt := 34) rfl (Nbl rfl) ?_
 intro w0 S0
 refine Aq (Ab (Jd rfl rfl (Jd rfl rfl (Bz rfl Nn (As (Aq (Aq (Ki (Unit) (fun b1 => [(2, .s (.one (.lp 0 0))), (3, .s (.one (.lp 1 0))), (4, .s (.one (.lp 2 0)))]) (fun b1 => [.box (EL.el a0), .box (EL.el a1), .box Zba]) (fun b1 => Gv a0 a1 b1 = some r) (fun _ _ => Be rfl) (fun _ _ => A0 rfl) (fun _ _ => Nat.le_of_ble_eq_true rfl) (fun b1 h => ?_) ?_))))))))
 ·unfold Gv at h
  refine Aq (Ab (sv rfl (Aa Xs rfl) (sv rfl (Ae ti3 rfl (.lp _ _ _ rfl) rfl) (sv rfl (Aa Qp rfl) (Ax sz3 rfl rfl rfl rfl (Nbl rfl) (Bs [.box (EL.el a0), .box (EL.el {a1 with Seq := a0.Seq}), .box Zba] rfl (As (Aq (Ab (sv rfl (Aa Xs rfl) (sv rfl (Ae ti3 rfl (.lp _ _ _ rfl) rfl) (sv rfl (B0 rfl rfl) (sv rfl (Aa Xs rfl) (Ax sz3 rfl rfl rfl rfl (Nbl rfl) (Bs [.box (EL.el {a0 with Seq := wI (a0.Seq + 1)}), .box (EL.el {a1 with Seq := a0.Seq}), .box Zba] rfl (As (Aq (Ab (sv rfl (Ao Ad4 rfl (.lp _ _ _ rfl) (Nbl rfl)) (sv rfl (Aa Jq rfl) (Ax Ah0 rfl rfl rfl rfl (Nbl rfl) (Bs [.box (EL.el {a0 with Seq := wI (a0.Seq + 1), Req.Kind := a1.Kind, Req.Seq := a0.Seq, Req.Token := a1.Token, Req.Attempt := a1.Attempt, Req.RO := a1.RO, Req.Key := a1.Key, Req.Val := a1.Val, Req.Rng := a1.Rng}), .box (EL.el {a1 with Seq := a0.Seq}), .box Zba] rfl (As (Aq (Ab (sv rfl (Aa Aan rfl) (Ax sz3 rfl rfl rfl rfl (Nbl rfl) (Bs [.box (EL.el {a0 with Seq := wI (a0.Seq + 1), Sent := 0, Req.Kind := a1.Kind, Req.Seq := a0.Seq, Req.Token := a1.Token, Req.Attempt := a1.Attempt, Req.RO := a1.RO, Req.Key := a1.Key, Req.Val := a1.Val, Req.Rng := a1.Rng}), .box (EL.el {a1 with Seq := a0.Seq}), .box Zba] rfl (As (Aq (Ab (sv rfl (Aa Qt rfl) (sv rfl (Aa Wt rfl) (sv rfl (Ao Aj4 rfl (.lp _ _ _ rfl) (Nbl rfl)) ?_))))))))))))))))))))))))))))))))))
  obtain ⟨v2, hv2, h⟩ := An h
  refine A2 rfl Aql (Ac rfl (Ac rfl Al)) (Aj rfl) (K9 hv2) (sv rfl (Gj rfl) (sv rfl (Bc rfl rfl) (sv rfl (Bc rfl rfl) (sv rfl (Aa Ra rfl) (Ax sz3 rfl rfl rfl rfl (Nbl rfl) (Bs [.box (EL.el {a0 with Seq := wI (a0.Seq + 1), Sent := 0, Left := v2.1, Req.Kind := a1.Kind, Req.Seq := a0.Seq, Req.Token := a1.Token, Req.Attempt := a1.Attempt, Req.RO := a1.RO, Req.Key := a1.Key, Req.Val := a1.Val, Req.Rng := a1.Rng}), .box (EL.el {a1 with Seq := a0.Seq}), .box Zba] rfl (As (Aq (Ab (sv rfl (Ao B5 rfl (.lp _ _ _ rfl) (Nbl rfl)) ?_))))))))))
  obtain ⟨v3, hv3, h⟩ := An h
  refine A2 rfl At4 (Ac rfl Al) (Aj rfl) (Mx hv3) (Ax Ey rfl rfl rfl rfl (Nbl rfl) (Bs [.box (EL.el {a0 with Seq := wI (a0.Seq + 1), Sent := 0, Left := v2.1, Req.Kind := a1.Kind, Req.Seq := a0.Seq, Req.Token := a1.Token, Req.Attempt := a1.Attempt, Req.RO := a1.RO, Req.Key := a1.Key, Req.Val := a1.Val, Req.Rng := a1.Rng}), .box (EL.el {a1 with Seq := a0.Seq}), .box (EL.el v3)] rfl (As (Bj ?_))))
  obtain rfl := Option.some.inj h
  refine ⟨Or.inr rfl, _, _, _, (Ad (Bd.agg _ _ _ _ _ B5 rfl (.lp _ _ _ rfl) (Nbl rfl)) Af), (Aj rfl), ?_⟩
  rfl
 ·skip
  refine Ab (sv rfl (Aa Xs rfl) (sv rfl (Ae ti3 rfl (.lp _ _ _ rfl) rfl) (sv rfl (C6 rfl rfl) (sv rfl (Ag rfl) (Bo 8 rfl (fun hc => ?_) (fun hc => ?_))))))
  ·replace h := B2 hc h
   clear hc
   refine Av rfl rfl rfl rfl (Av rfl rfl rfl rfl (sv rfl (Au rfl rfl) (As (G0 rfl (fun _ => ?_) (fun hx => Bool.noConfusion hx)))))
   refine Aq (Ab (sv rfl (Ao B5 rfl (.lp _ _ _ rfl) (Nbl rfl)) ?_))
   obtain ⟨v4, hv4, h⟩ := An h
   refine A2 rfl Al5 (Ac rfl Al) (Aj rfl) (Dg hv4) (Ax Ey rfl rfl rfl rfl (Nbl rfl) (Bs [.box (EL.el a0), .box (EL.el a1), .box (EL.el v4)] rfl (As (Bj (Ar ?_)))))
   obtain rfl := Option.some.inj h
   refine ⟨Or.inr rfl, _, _, _, (Ad (Bd.agg _ _ _ _ _ B5 rfl (.lp _ _ _ rfl) (Nbl rfl)) Af), (Aj rfl), ?_⟩
   rfl
  ·replace h := B1 hc h
   clear hc
   refine son rfl rfl rfl (sv rfl (Ao B5 rfl (.lp _ _ _ rfl) (Nbl rfl)) (son rfl rfl rfl ?_))
   obtain ⟨v5, hv5, h⟩ := An h
   refine A2 rfl Auk (Ac rfl Al) (Aj rfl) (Mh hv5) (sv rfl (Am rfl rfl) (As (ccI h rfl (fun h => ?_) (fun h => ?_))))
   ·refine Aq (Ab (sv rfl (Ao B5 rfl (.lp _ _ _ rfl) (Nbl rfl)) ?_))
    obtain ⟨v6, hv6, h⟩ := An h
    refine A2 rfl Al5 (Ac rfl Al) (Aj rfl) (Dg hv6) (Ax Ey rfl rfl rfl rfl (Nbl rfl) (Bs [.box (EL.el a0), .box (EL.el a1), .box (EL.el v6)] rfl (As (Bj (Ar ?_)))))
    obtain rfl := Option.some.inj h
    refine ⟨Or.inr rfl, _, _, _, (Ad (Bd.agg _ _ _ _ _ B5 rfl (.lp _ _ _ rfl) (Nbl rfl)) Af), (Aj rfl), ?_⟩
    rfl
   ·refine Bl (Ai ?_)
    exact ⟨(), _, h, ⟨rfl, rfl, rfl, trivial⟩, rfl⟩
def En (a0 : Ah) : Option (Ah × Int) :=
 (D6 a0).bind fun v1 => if (!v1) then (some (C0, 1)) else (if (!decide (a0.Phase = 1)) then (some (C0, 7)) else ((Cb ({a0 with Phase := 2, Seq := 0}) (Ca.mk 1 0 a0.Cfg.Who a0.Epoch false ([] : List UInt8) ([] : List UInt8) Bt)).bind fun v2 => some (v2, 0)))
set_option maxRecDepth 100000 in
theorem My {a0 : Ah} {r : Ah × Int} (h : En a0 = some r) : Bp Tryz.prog 14 [.agg (EL.el a0)] (· = .tup [.agg (EL.el r.1), .one (Ii6 r.2)]) := by
 unfold En at h
 refine A1 Tryz.func14 rfl (nt := 22) rfl (Nbl rfl) ?_
 intro w0 S0
 refine Aq (Ab (Jd rfl rfl (Bz rfl Nn (sv rfl (Ak rfl) (As (Aq (Aq (Ab (sv rfl (Ao B5 rfl (.lp _ _ _ rfl) (Nbl rfl)) ?_)))))))))
 obtain ⟨v1, hv1, h⟩ := An h
 refine A2 rfl Ali (Ac rfl Al) (Aj rfl) (Gm hv1) (sv rfl (B9 rfl) (As (ccI h rfl (fun h => ?_) (fun h => ?_))))
 ·refine Aq (Ab (sv rfl (Bk Nn Ac4 Ba (.nil _)) (Ax Ey rfl rfl rfl rfl (Nbl rfl) (Bs [.box (EL.el a0), .box Zba] rfl (sv rfl (Ak rfl) (As (Bj (Ar ?_))))))))
  obtain rfl := Option.some.inj h
  refine ⟨Or.inr rfl, _, _, _, (Ad (Bd.agg _ _ _ _ _ B5 rfl (.lp _ _ _ rfl) (Nbl rfl)) (Ad (Bd.tmp _ _ rfl) Af)), (Np rfl), ?_⟩
  rfl
 ·refine Bl (Ai (Aq (Aq (Ab (sv rfl (Aa G4 rfl) (sv rfl (Ae ti3 rfl (.lp _ _ _ rfl) rfl) (sv rfl (Cd rfl rfl) (As (ccI h rfl (fun h => ?_) (fun h => ?_))))))))))
  ·refine Aq (Ab (sv rfl (Bk Nn Ac4 Ba (.nil _)) (Ax Ey rfl rfl rfl rfl (Nbl rfl) (Bs [.box (EL.el a0), .box Zba] rfl (sv rfl (Ak rfl) (As (Bj (Ar ?_))))))))
   obtain rfl := Option.some.inj h
   refine ⟨Or.inr rfl, _, _, _, (Ad (Bd.agg _ _ _ _ _ B5 rfl (.lp _ _ _ rfl) (Nbl rfl)) (Ad (Bd.tmp _ _ rfl) Af)), (Np rfl), ?_⟩
   rfl
  ·refine Bl (Ai (Aq (Ab (sv rfl (Aa Xs rfl) (Ax sz3 rfl rfl rfl rfl (Nbl rfl) (Bs [.box (EL.el {a0 with Seq := 0}), .box Zba] rfl (As (Aq (Ab (sv rfl (Aa G4 rfl) (Ax sz3 rfl rfl rfl rfl (Nbl rfl) (Bs [.box (EL.el {a0 with Phase := 2, Seq := 0}), .box Zba] rfl (As (Aq (Ab (sv rfl (Ao B5 rfl (.lp _ _ _ rfl) (Nbl rfl)) (sv rfl (Aa Qt rfl) (sv rfl (Aa Agn rfl) (sv rfl (Ae ti3 rfl (.lp _ _ _ rfl) rfl) (sv rfl (Aa Zz rfl) (sv rfl (Ae ti3 rfl (.lp _ _ _ rfl) rfl) (sv rfl (Bk Aax Aed (Ap rfl (Ap rfl (Ap rfl Ba))) (.cons _ _ _ _ _ _ _ rfl rfl (Nbl rfl) (.cons _ _ _ _ _ _ _ rfl rfl (Nbl rfl) (.cons _ _ _ _ _ _ _ rfl rfl (Nbl rfl) (.nil _))))) ?_))))))))))))))))))))))
   obtain ⟨v2, hv2, h⟩ := An h
   refine A2 rfl Amx (Ac rfl (Ac rfl Al)) (Np rfl) (C7 hv2) (Ax Ey rfl rfl rfl rfl (Nbl rfl) (Bs [.box (EL.el {a0 with Phase := 2, Seq := 0}), .box (EL.el v2)] rfl (sv rfl (Ak rfl) (As (Bj ?_)))))
   obtain rfl := Option.some.inj h
   refine ⟨Or.inr rfl, _, _, _, (Ad (Bd.agg _ _ _ _ _ B5 rfl (.lp _ _ _ rfl) (Nbl rfl)) (Ad (Bd.tmp _ _ rfl) Af)), (Aj rfl), ?_⟩
   rfl
def Jm (a0 : Int) (b1 : Unit) : Option (List Aw) :=
 if (decide (0 < (wI (a0 - (wI (0 - 0)))))) then (if 0 < (wI (a0 - (wI (0 - 0)))) ∧ (wI (a0 - (wI (0 - 0)))) * ((40 : Nat) : Int) ≤ 281474976710656 then (if (0 : Int) ≤ 0 ∧ 0 ≤ ((List.replicate (wI (a0 - (wI (0 - 0)))).toNat Nl).length : Int) then (some ((List.replicate (wI (a0 - (wI (0 - 0)))).toNat Nl).take (0 : Int).toNat)) else none) else none) else (some ([] : List Aw))
def Jw (a0 : Int) : Option (List Aw) :=
 if (decide (a0 < 0)) then none else (Jm a0 ())
set_option maxRecDepth 100000 in
theorem Te {a0 : Int} {r : (List Aw)} (h : Jw a0 = some r) : G2 Tryz.prog 83 [] [.one (Znl), .one (Ii6 a0)] (fun y m' => y = .s (.one (.ls 0 r.length)) ∧ m' = [.arr 94 3 0 (r.flatMap Ay)]) := by
 unfold Jw at h
 refine Cv Tryz.func83 rfl (nt := 27) rfl (Nbl rfl) ?_
 intro w0 S0 X0 H0
 refine Aq (Ab (sv rfl (Ak rfl) (As (Aq (Aq (Ab (sv rfl (Ag rfl) (sv rfl (Cp rfl rfl) (As (G5 (Unit) (fun b1 => [(0, .s (.one (Znl))), (1, .s (.one (Ii6 a0)))]) (fun b1 => []) (fun b1 => Jm a0 b1 = some r) (fun _ _ => Be rfl) (fun _ _ => A0 rfl) (fun _ _ => Nat.le_of_ble_eq_true rfl) (fun b1 h => ?_) ?_))))))))))
 ·unfold Jm at h
  refine Aq (Aq (Ab (sv rfl (Ag rfl) (sv rfl (Ag rfl) (sv rfl (Kt T6 rfl) (sv rfl (Ag rfl) (sv rfl (Kl T6 rfl) (sv rfl (Mq rfl rfl) (sv rfl (Mq rfl rfl) (sv rfl (Ak rfl) (As (Aq (Ab (sv rfl (Ag rfl) (sv rfl (C6 rfl rfl) (As (ccI h rfl (fun h => ?_) (fun h => ?_))))))))))))))))))
  ·refine Ab (sv rfl (Ag rfl) (sv rfl (Ag rfl) (sv rfl (Kt T6 rfl) (sv rfl (N0 T6 rfl rfl) (sv rfl (Ag rfl) ?_)))))
   obtain ⟨hm2, h⟩ := D9 h
   refine Ao1 (f := Ay) (z := Nl) rfl Tryz.underlying29 Aon Tryz.underlying3 (fun _ => rfl) rfl rfl rfl hm2 (by decide) ?_
   refine sv rfl (Ag rfl) (sv rfl (Kl T6 rfl) ?_)
   obtain ⟨hs3, h⟩ := D9 h
   refine Adk (f := Ay) rfl T6 (fun _ => rfl) rfl rfl rfl rfl rfl hs3 ?_
   refine sv rfl (Ak rfl) (As (Aq (Ab (sv rfl (Ag rfl) (sv rfl (Ak rfl) (As (Bj ?_)))))))
   obtain rfl := Option.some.inj h
   exact ⟨Or.inr rfl, _, [1], [.one (.ls 0 ((List.replicate (wI (a0 - (wI (0 - 0)))).toNat Nl).take (0 : Int).toNat).length)], [.arr 94 3 0 (((List.replicate (wI (a0 - (wI (0 - 0)))).toNat Nl).take (0 : Int).toNat).flatMap Ay)], (Ad (Bd.tmp _ _ rfl) Af), rfl, rfl, ⟨by decide, rfl⟩, rfl, rfl, ⟨rfl, rfl⟩⟩
  ·refine Bl (Ai (Aq (Ab (sv rfl (Ag rfl) (sv rfl (Ak rfl) (As ?_))))))
   refine O2 94 3 4 (by decide) rfl ?_
   refine Bj ?_
   obtain rfl := Option.some.inj h
   exact ⟨Or.inr rfl, _, [0], [.one (.ls 0 ([] : List Aw).length)], [.arr 94 3 0 (([] : List Aw).flatMap Ay)], (Ad (Bd.tmp _ _ rfl) Af), rfl, rfl, ⟨by decide, rfl⟩, rfl, rfl, ⟨rfl, rfl⟩⟩
 ·skip
  refine ccI h rfl (fun h => ?_) (fun h => ?_)
  ·cases h
  ·refine Bl (Ai ?_)
   exact ⟨(), _, h, ⟨rfl, rfl, trivial⟩, rfl⟩
def Kp (b3 : (List Aw)) : Option (List Aw) :=
 some b3
def Fi (a0 : List (List Aw)) (s4 : Int × (List Aw)) : Option (LB (Int × (List Aw)) ((List Aw))) :=
 if (decide (s4.1 < (a0.length : Int))) then ((idx a0 s4.1).bind fun u5 => if (s4.2.length + u5.length) * 40 ≤ 140737488355328 then (some (.cont ((wI (s4.1 + 1)), (s4.2 ++ u5)))) else none) else (some (.brk s4.2))
def Ii (a0 : List (List Aw)) (b1 : Int) : Option (List Aw) :=
 (Jw b1).bind fun v2 => (E4 (Fi a0) Di (0, v2)).bind fun e7 => Kp e7
def Fb (a0 : List (List Aw)) (s8 : Int × Int) : Option (LB (Int × Int) (Int)) :=
 if (decide (s8.2 < (a0.length : Int))) then ((idx a0 s8.2).bind fun u9 => if (decide ((wI (s8.1 + (u9.length : Int))) < 0)) then none else (some (.cont ((wI (s8.1 + (u9.length : Int))), (wI (s8.2 + 1)))))) else (some (.brk s8.1))
def Il (a0 : List (List Aw)) : Option (List Aw) :=
 (E4 (Fb a0) Di (0, 0)).bind fun e10 => Ii a0 e10
set_option maxRecDepth 100000 in
theorem Ry {a0 : List (List Aw)} {r : (List Aw)} (h : Il a0 = some r) : G2 Tryz.prog 55 [] [.one (.sl a0.length (a0.flatMap (eL Ay)))] (fun y m' => y = .s (.one (.ls 0 r.length)) ∧ m' = [.arr 94 3 0 (r.flatMap Ay)]) := by
 unfold Il at h
 refine Cv Tryz.func55 rfl (nt := 36) rfl (Nbl rfl) ?_
 intro w0 S0 X0 H0
 refine Aq (Ab (sv rfl (Ak rfl) (As (Aq (Ab (sv rfl (Ak rfl) (As (Aq (Aq (Ab (sv rfl (Ag rfl) (sv rfl (Az Ai0 rfl) (sv rfl (Ag rfl) (As (G5 (Int) (fun b1 => [(0, .s (.one (.sl a0.length (a0.flatMap (eL Ay))))), (3, .s (.one (Ii6 b1)))]) (fun b1 => []) (fun b1 => Ii a0 b1 = some r) (fun _ _ => Be rfl) (fun _ _ => A0 rfl) (fun _ _ => Nat.le_of_ble_eq_true rfl) (fun b1 h => ?_) ?_)))))))))))))))
 ·unfold Ii at h
  refine Aq (Ab (sv rfl (Ag rfl) ?_))
  obtain ⟨v2, hv2, h⟩ := An h
  refine C2 (x' := .s (.one (.ls 0 v2.length))) (M' := [.arr 94 3 0 (v2.flatMap Ay)]) [] rfl Avx (.func _) (Ac rfl (Ac rfl Al)) (Te hv2) rfl rfl (by decide) rfl rfl rfl ?_
  refine sv rfl (Ak rfl) (As (Aq (Aq (Ab (sv rfl (Ag rfl) (sv rfl (Az Ai0 rfl) (sv rfl (Ag rfl) (As (G5 ((List Aw)) (fun b3 => [(6, .s (.one (.ls 0 b3.length)))]) (fun b3 => [.arr 94 3 0 (b3.flatMap Ay)]) (fun b3 => Kp b3 = some r) (fun _ _ => Be rfl) (fun _ _ => A0 rfl) (fun _ _ => Nat.le_of_ble_eq_true rfl) (fun b3 h => ?_) ?_)))))))))
  ·unfold Kp at h
   refine Aq (Ab (sv rfl (Ag rfl) (sv rfl (Ak rfl) (As (Bj ?_)))))
   obtain rfl := Option.some.inj h
   exact ⟨Or.inr rfl, _, [0], [.one (.ls 0 b3.length)], [.arr 94 3 0 (b3.flatMap Ay)], (Ad (Bd.tmp _ _ rfl) Af), rfl, rfl, ⟨by decide, rfl⟩, rfl, rfl, ⟨rfl, rfl⟩⟩
  ·skip
   refine B7 ?_
   obtain ⟨x4, hx4, ho4⟩ := An h
   refine Da (G := Nat × (Int × (List Aw))) (fun g => [(6, .s (.one (.ls 0 g.2.2.length))), (25, .s (.one (.sl a0.length (a0.flatMap (eL Ay))))), (26, .s (.one (Ii6 (a0.length : Int)))), (27, .s (.one (Ii6 g.2.1)))]) (fun g => [.arr 94 3 0 (g.2.2.flatMap Ay)]) (fun g => E4 (Fi a0) g.1 g.2 = some x4) (fun g => g.1) (Di, (0, v2)) hx4 ⟨rfl, rfl, rfl, rfl, trivial⟩ [] rfl (fun _ _ => Be rfl) (fun _ _ => A0 rfl) (fun _ _ => Nat.le_of_ble_eq_true rfl) ?_
   clear hx4 h
   rintro ⟨n4, s4⟩ h
   obtain ⟨n4, y4, rfl, h, hk4⟩ := Gs h
   unfold Fi at h
   refine Aq (Ab (sv rfl (Cp rfl rfl) (As (Aq (ccI h rfl (fun h => ?_) (fun h => ?_))))))
   ·refine Bl (Ai (Aq (B7 (Aq (Ab ?_)))))
    obtain ⟨u5, hu5, h⟩ := An h
    refine sv rfl (Fe (f := (eL Ay)) Ai0 (fun _ => rfl) rfl rfl rfl rfl hu5) ?_
    refine sv rfl (Ae Xy rfl (.cp _) rfl) (sv rfl (Ak rfl) (As (Ab (sv rfl (Ag rfl) (sv rfl (Ag rfl) ?_)))))
    obtain ⟨hb6, h⟩ := D9 h
    refine Ahz (f := Ay) (xs := s4.2) (us := u5) rfl Tryz.underlying29 Aon Atk (fun _ => rfl) rfl rfl (.one _ _ _ _ (.id _ rfl)) rfl rfl rfl (.sl _ _ _ (Bg (f := Ay) (fun _ => rfl) _)) rfl rfl hb6 (by decide) ?_
    refine sv rfl (Ak rfl) (Lz (A4 (Ai (Ab (sv rfl (B0 rfl rfl) (sv rfl (Ag rfl) (As ?_)))))))
    obtain rfl := Option.some.inj h
    exact ⟨(n4, ((wI (s4.1 + 1)), (s4.2 ++ u5))), _, hk4, ⟨rfl, rfl, rfl, rfl, trivial⟩, rfl, Nat.lt_succ_self _⟩
   ·refine Lj (Bi (Bi (Ck (Ai ?_))))
    obtain rfl := Option.some.inj h
    obtain rfl : _ = x4 := hk4
    exact ⟨s4.2, _, ho4, ⟨rfl, trivial⟩, rfl⟩
 ·skip
  refine B7 ?_
  obtain ⟨x8, hx8, ho8⟩ := An h
  refine Da (G := Nat × (Int × Int)) (fun g => [(0, .s (.one (.sl a0.length (a0.flatMap (eL Ay))))), (3, .s (.one (Ii6 g.2.1))), (9, .s (.one (.sl a0.length (a0.flatMap (eL Ay))))), (10, .s (.one (Ii6 (a0.length : Int)))), (11, .s (.one (Ii6 g.2.2)))]) (fun g => []) (fun g => E4 (Fb a0) g.1 g.2 = some x8) (fun g => g.1) (Di, (0, 0)) hx8 ⟨rfl, rfl, rfl, rfl, rfl, trivial⟩ [] rfl (fun _ _ => Be rfl) (fun _ _ => A0 rfl) (fun _ _ => Nat.le_of_ble_eq_true rfl) ?_
  clear hx8 h
  rintro ⟨n8, s8⟩ h
  obtain ⟨n8, y8, rfl, h, hk8⟩ := Gs h
  unfold Fb at h
  refine Aq (Ab (sv rfl (Cp rfl rfl) (As (Aq (ccI h rfl (fun h => ?_) (fun h => ?_))))))
  ·refine Bl (Ai (Aq (B7 (Aq (Ab ?_)))))
   obtain ⟨u9, hu9, h⟩ := An h
   refine sv rfl (Fe (f := (eL Ay)) Ai0 (fun _ => rfl) rfl rfl rfl rfl hu9) ?_
   refine sv rfl (Ae Xy rfl (.cp _) rfl) (sv rfl (Ak rfl) (As (Aq (Ab (sv rfl (Ag rfl) (sv rfl (Ag rfl) (sv rfl (Az T6 rfl) (sv rfl (B0 rfl rfl) (sv rfl (Ak rfl) (As (Aq (Ab (sv rfl (Ag rfl) (sv rfl (Cp rfl rfl) (As (ccI h rfl (fun h => ?_) (fun h => ?_)))))))))))))))))
   ·cases h
   ·refine Bl (A4 (Ai (Ab (sv rfl (B0 rfl rfl) (sv rfl (Ag rfl) (As ?_))))))
    obtain rfl := Option.some.inj h
    exact ⟨(n8, ((wI (s8.1 + (u9.length : Int))), (wI (s8.2 + 1)))), _, hk8, ⟨rfl, rfl, rfl, rfl, rfl, trivial⟩, rfl, Nat.lt_succ_self _⟩
  ·refine Lj (Bi (Bi (Ck (Ai ?_))))
   obtain rfl := Option.some.inj h
   obtain rfl : _ = x8 := hk8
   exact ⟨s8.1, _, ho8, ⟨rfl, rfl, trivial⟩, rfl⟩
def D5 (a0 : Ah) : Option Ah :=
 (idx a0.Tasks 0).bind fun u1 => (Cb ({a0 with Phase := 7}) (Ca.mk 9 0 u1.Token a0.Attempt false ([] : List UInt8) ([] : List UInt8) Bt)).bind fun v2 => some v2
set_option maxRecDepth 100000 in
theorem Jn {a0 : Ah} {r : Ah} (h : D5 a0 = some r) : Bp Tryz.prog 72 [.agg (EL.el a0)] (· = .s (.agg (EL.el r))) := by
 unfold D5 at h
 refine A1 Tryz.func72 rfl (nt := 14) rfl (Nbl rfl) ?_
 intro w0 S0
 refine Aq (Ab (Jd rfl rfl (Bz rfl Nn (As (Aq (Ab (sv rfl (Aa G4 rfl) (Ax sz3 rfl rfl rfl rfl (Nbl rfl) (Bs [.box (EL.el {a0 with Phase := 7}), .box Zba] rfl (As (Aq ?_)))))))))))
 obtain ⟨u1, hu1, h⟩ := An h
 obtain ⟨v2, hv2, h⟩ := An h
 refine Kb [10] [0, 0, 2, 6, 14, 30, 0, 64, 254, 511, 1023] [[.box (EL.el {a0 with Phase := 7}), .box Zba], [.box (EL.el {a0 with Phase := 7}), .box (EL.el v2)]] (by kernel_rfl) Ma (by kernel_rfl) (by decide) rfl rfl rfl rfl ?_
 refine ev (Bh 0 rfl rfl) rfl rfl (Ao B5 rfl (.lp _ _ _ rfl) (Nbl rfl)) (ev (Bh 0 rfl rfl) rfl rfl (Aa Lw rfl) (ev (Bh 0 rfl rfl) rfl rfl (Ae Xy rfl (.lp _ _ _ rfl) rfl) (ev (Bh 0 rfl rfl) rfl rfl (Fe (f := Ay) T6 (fun _ => rfl) rfl rfl rfl rfl hu1) ?_)))
 refine ev (Bh 0 rfl rfl) rfl rfl (B3 Sj rfl) (ev (Bh 0 rfl rfl) rfl rfl (Ae ti3 rfl (.cp _) rfl) (ev (Bh 0 rfl rfl) rfl rfl (Aa Oe rfl) (ev (Bh 0 rfl rfl) rfl rfl (Ae ti3 rfl (.lp _ _ _ rfl) rfl) (ev (Bh 0 rfl rfl) rfl rfl (Bk Aax Aed (Ap rfl (Ap rfl (Ap rfl Ba))) (.cons _ _ _ _ _ _ _ rfl rfl (Nbl rfl) (.cons _ _ _ _ _ _ _ rfl rfl (Nbl rfl) (.cons _ _ _ _ _ _ _ rfl rfl (Nbl rfl) (.nil _))))) (ed (Bh 0 rfl rfl) rfl rfl (Tr Amx (Ac rfl (Ac rfl Al)) rfl (C7 hv2)) (ee0 0 rfl rfl rfl rfl (fun ζ => ?_) ?_))))))
 ·refine Ax Ey rfl rfl rfl rfl (Nbl rfl) (Bs [.box (EL.el {a0 with Phase := 7}), .box (EL.el v2)] rfl ?_)
  exact Sd
 refine Y1 (Ai (Bj ?_))
 obtain rfl := Option.some.inj h
 refine ⟨Or.inr rfl, _, _, _, (Ad (Bd.agg _ _ _ _ _ B5 rfl (.lp _ _ _ rfl) (Nbl rfl)) Af), (Aj rfl), ?_⟩
 rfl
def Ee (a0 : Ah) : Option Ah :=
 (idx a0.Tasks 0).bind fun u1 => (Cb ({a0 with Phase := 3, Risk := false, St := Hw}) (Ca.mk 2 0 u1.Token a0.Attempt u1.Prog.RO ([] : List UInt8) ([] : List UInt8) Bt)).bind fun v2 => some v2
set_option maxRecDepth 100000 in
theorem L3 {a0 : Ah} {r : Ah} (h : Ee a0 = some r) : Bp Tryz.prog 71 [.agg (EL.el a0)] (· = .s (.agg (EL.el r))) := by
 unfold Ee at h
 refine A1 Tryz.func71 rfl (nt := 22) rfl (Nbl rfl) ?_
 intro w0 S0
 refine Aq (Ab (Jd rfl rfl (Bz rfl Nn (As (Aq (Ab (sv rfl (Bk Agz Apd Ba (.nil _)) (sv rfl (Aa Py rfl) (Ax Xa rfl rfl rfl rfl (Nbl rfl) (Bs [.box (EL.el {a0 with St.PC := 0, St.Regs.R0 := 0, St.Regs.R1 := 0, St.Regs.R2 := 0, St.Regs.R3 := 0, St.Regs.R4 := 0, St.Regs.R5 := 0, St.Regs.R6 := 0, St.Regs.R7 := 0, St.Stopped := false}), .box Zba] rfl (As (Aq (Ab (sv rfl (Aa Xo rfl) (Ax sz4 rfl rfl rfl rfl (Nbl rfl) (Bs [.box (EL.el {a0 with Risk := false, St.PC := 0, St.Regs.R0 := 0, St.Regs.R1 := 0, St.Regs.R2 := 0, St.Regs.R3 := 0, St.Regs.R4 := 0, St.Regs.R5 := 0, St.Regs.R6 := 0, St.Regs.R7 := 0, St.Stopped := false}), .box Zba] rfl (As (Aq (Ab (sv rfl (Aa G4 rfl) (Ax sz3 rfl rfl rfl rfl (Nbl rfl) (Bs [.box (EL.el {a0 with Phase := 3, Risk := false, St.PC := 0, St.Regs.R0 := 0, St.Regs.R1 := 0, St.Regs.R2 := 0, St.Regs.R3 := 0, St.Regs.R4 := 0, St.Regs.R5 := 0, St.Regs.R6 := 0, St.Regs.R7 := 0, St.Stopped := false}), .box Zba] rfl (As (Aq (Ab (sv rfl (Aa Lw rfl) (sv rfl (Ae Xy rfl (.lp _ _ _ rfl) rfl) ?_)))))))))))))))))))))))))))
 obtain ⟨u1, hu1, h⟩ := An h
 refine sv rfl (Fe (f := Ay) T6 (fun _ => rfl) rfl rfl rfl rfl hu1) ?_
 refine sv rfl (Dd (ys := [Ii6 u1.Token, .b u1.Prog.RO, .sl u1.Prog.Ops.length (u1.Prog.Ops.flatMap Cf)]) Ama rfl (.cp _) rfl rfl) (Bz rfl Anv (Ax Aqq rfl rfl rfl rfl (Nbl rfl) (Bs [.box (EL.el {a0 with Phase := 3, Risk := false, St.PC := 0, St.Regs.R0 := 0, St.Regs.R1 := 0, St.Regs.R2 := 0, St.Regs.R3 := 0, St.Regs.R4 := 0, St.Regs.R5 := 0, St.Regs.R6 := 0, St.Regs.R7 := 0, St.Stopped := false}), .box Zba, .box (EL.el u1)] rfl (As (Aq (Ab (sv rfl (Ao B5 rfl (.lp _ _ _ rfl) (Nbl rfl)) (sv rfl (Aa Sj rfl) (sv rfl (Ae ti3 rfl (.lp _ _ _ rfl) rfl) (sv rfl (Aa Oe rfl) (sv rfl (Ae ti3 rfl (.lp _ _ _ rfl) rfl) (sv rfl (Aa Acl rfl) (sv rfl (Aa Akw rfl) (sv rfl (Ae ti4 rfl (.lp _ _ _ rfl) rfl) (sv rfl (Bk Aax Aed (Ap rfl (Ap rfl (Ap rfl (Ap rfl Ba)))) (.cons _ _ _ _ _ _ _ rfl rfl (Nbl rfl) (.cons _ _ _ _ _ _ _ rfl rfl (Nbl rfl) (.cons _ _ _ _ _ _ _ rfl rfl (Nbl rfl) (.cons _ _ _ _ _ _ _ rfl rfl (Nbl rfl) (.nil _)))))) ?_)))))))))))))))
 obtain ⟨v2, hv2, h⟩ := An h
 refine A2 rfl Amx (Ac rfl (Ac rfl Al)) (Np rfl) (C7 hv2) (Ax Ey rfl rfl rfl rfl (Nbl rfl) (Bs [.box (EL.el {a0 with Phase := 3, Risk := false, St.PC := 0, St.Regs.R0 := 0, St.Regs.R1 := 0, St.Regs.R2 := 0, St.Regs.R3 := 0, St.Regs.R4 := 0, St.Regs.R5 := 0, St.Regs.R6 := 0, St.Regs.R7 := 0, St.Stopped := false}), .box (EL.el v2), .box (EL.el u1)] rfl (As (Bj ?_))))
 obtain rfl := Option.some.inj h
 refine ⟨Or.inr rfl, _, _, _, (Ad (Bd.agg _ _ _ _ _ B5 rfl (.lp _ _ _ rfl) (Nbl rfl)) Af), (Aj rfl), ?_⟩
 rfl
def Dv (a0 : Ah) : Option Ah :=
 if (decide ((a0.Tasks.length : Int) = 0)) then (some ({a0 with Phase := 0, Left := 0})) else (if (decide (0 < a0.Attempt)) then ((D5 a0).bind fun v1 => some v1) else ((Ee ({a0 with Attempt := 1})).bind fun v2 => some v2))
set_option maxRecDepth 100000 in
theorem I7 {a0 : Ah} {r : Ah} (h : Dv a0 = some r) : Bp Tryz.prog 56 [.agg (EL.el a0)] (· = .s (.agg (EL.el r))) := by
 unfold Dv at h
 refine A1 Tryz.func56 rfl (nt := 18) rfl (Nbl rfl) ?_
 intro w0 S0
 refine Aq (Ab (Jd rfl rfl (Bz rfl Nn (As (Aq (Aq (Ab (sv rfl (Aa Lw rfl) (sv rfl (Ae Xy rfl (.lp _ _ _ rfl) rfl) (sv rfl (Az T6 rfl) (sv rfl (Bq rfl rfl) (As (ccI h rfl (fun h => ?_) (fun h => ?_))))))))))))))
 ·refine Aq (Ab (sv rfl (Aa G4 rfl) (Ax sz3 rfl rfl rfl rfl (Nbl rfl) (Bs [.box (EL.el {a0 with Phase := 0}), .box Zba] rfl (As (Aq (Ab (sv rfl (Aa Ra rfl) (Ax sz3 rfl rfl rfl rfl (Nbl rfl) (Bs [.box (EL.el {a0 with Phase := 0, Left := 0}), .box Zba] rfl (As (Aq (Ab (sv rfl (Ao B5 rfl (.lp _ _ _ rfl) (Nbl rfl)) (Ax Ey rfl rfl rfl rfl (Nbl rfl) (Bs [.box (EL.el {a0 with Phase := 0, Left := 0}), .box (EL.el {a0 with Phase := 0, Left := 0})] rfl (As (Bj (Ar ?_)))))))))))))))))))
  obtain rfl := Option.some.inj h
  refine ⟨Or.inr rfl, _, _, _, (Ad (Bd.agg _ _ _ _ _ B5 rfl (.lp _ _ _ rfl) (Nbl rfl)) Af), (Aj rfl), ?_⟩
  rfl
 ·refine Bl (Ai (Aq (Aq (Ab (sv rfl (Aa Oe rfl) (sv rfl (Ae ti3 rfl (.lp _ _ _ rfl) rfl) (sv rfl (C6 rfl rfl) (As (ccI h rfl (fun h => ?_) (fun h => ?_))))))))))
  ·refine Aq (Ab (sv rfl (Ao B5 rfl (.lp _ _ _ rfl) (Nbl rfl)) ?_))
   obtain ⟨v1, hv1, h⟩ := An h
   refine A2 rfl Asm (Ac rfl Al) (Aj rfl) (Jn hv1) (Ax Ey rfl rfl rfl rfl (Nbl rfl) (Bs [.box (EL.el a0), .box (EL.el v1)] rfl (As (Bj (Ar ?_)))))
   obtain rfl := Option.some.inj h
   refine ⟨Or.inr rfl, _, _, _, (Ad (Bd.agg _ _ _ _ _ B5 rfl (.lp _ _ _ rfl) (Nbl rfl)) Af), (Aj rfl), ?_⟩
   rfl
  ·refine Bl (Ai (Aq (Ab (sv rfl (Aa Oe rfl) (Ax sz3 rfl rfl rfl rfl (Nbl rfl) (Bs [.box (EL.el {a0 with Attempt := 1}), .box Zba] rfl (As (Aq (Ab (sv rfl (Ao B5 rfl (.lp _ _ _ rfl) (Nbl rfl)) ?_))))))))))
   obtain ⟨v2, hv2, h⟩ := An h
   refine A2 rfl Auo (Ac rfl Al) (Aj rfl) (L3 hv2) (Ax Ey rfl rfl rfl rfl (Nbl rfl) (Bs [.box (EL.el {a0 with Attempt := 1}), .box (EL.el v2)] rfl (As (Bj ?_))))
   obtain rfl := Option.some.inj h
   refine ⟨Or.inr rfl, _, _, _, (Ad (Bd.agg _ _ _ _ _ B5 rfl (.lp _ _ _ rfl) (Nbl rfl)) Af), (Aj rfl), ?_⟩
   rfl
def Ir (b5 : Ah × (List Aw)) : Option (Ah × Int) :=
 some (b5.1, 0)
def Dk (a0 : Ah) (a1 : Aw) : Option (Ah × Int) :=
 (D6 a0).bind fun v1 => if (!v1) then (some (C0, 1)) else ((Dh a1).bind fun v2 => if (!v2) then (some (C0, 1)) else (if (decide (a0.Phase = 11)) then (some (C0, 13)) else ((Ff a0.Tasks a1.Token).bind fun v3 => if (decide (0 ≤ v3)) then (some (C0, 7)) else (if (decide (8 ≤ (a0.Tasks.length : Int))) then (some (C0, 8)) else ((Il [a0.Tasks, [a1]]).bind fun v4 => if (decide (a0.Phase = 0)) then ((Dv (Ah.mk (Cr.mk a0.Cfg.Who (Dn.mk a0.Cfg.Plan.Wait a0.Cfg.Plan.Most a0.Cfg.Plan.Tries) a0.Cfg.Attempts a0.Cfg.Budget) v4 a0.Phase a0.Epoch a0.Seq a0.Attempt a0.Sent a0.Left a0.Resets a0.Risk (A7.mk a0.St.PC (E3.mk a0.St.Regs.R0 a0.St.Regs.R1 a0.St.Regs.R2 a0.St.Regs.R3 a0.St.Regs.R4 a0.St.Regs.R5 a0.St.Regs.R6 a0.St.Regs.R7) a0.St.Stopped) (Ca.mk a0.Req.Kind a0.Req.Seq a0.Req.Token a0.Req.Attempt a0.Req.RO a0.Req.Key a0.Req.Val (B8.mk a0.Req.Rng.Lo a0.Req.Rng.Hi a0.Req.Rng.Open)) (Bm.mk a0.In.Buf a0.In.Dead) a0.Out a0.Done a0.Tried)).bind fun v6 => Ir (v6, v4)) else (Ir ((Ah.mk (Cr.mk a0.Cfg.Who (Dn.mk a0.Cfg.Plan.Wait a0.Cfg.Plan.Most a0.Cfg.Plan.Tries) a0.Cfg.Attempts a0.Cfg.Budget) v4 a0.Phase a0.Epoch a0.Seq a0.Attempt a0.Sent a0.Left a0.Resets a0.Risk (A7.mk a0.St.PC (E3.mk a0.St.Regs.R0 a0.St.Regs.R1 a0.St.Regs.R2 a0.St.Regs.R3 a0.St.Regs.R4 a0.St.Regs.R5 a0.St.Regs.R6 a0.St.Regs.R7) a0.St.Stopped) (Ca.mk a0.Req.Kind a0.Req.Seq a0.Req.Token a0.Req.Attempt a0.Req.RO a0.Req.Key a0.Req.Val (B8.mk a0.Req.Rng.Lo a0.Req.Rng.Hi a0.Req.Rng.Open)) (Bm.mk a0.In.Buf a0.In.Dead) a0.Out a0.Done a0.Tried), v4)))))))
set_option maxRecDepth 100000 in
theorem Om {a0 : Ah} {a1 : Aw} {r : Ah × Int} (h : Dk a0 a1 = some r) : Bp Tryz.prog 21 [.agg (EL.el a0), .agg (EL.el a1)] (· = .tup [.agg (EL.el r.1), .one (Ii6 r.2)]) := by
 unfold Dk at h
 refine A1 Tryz.func21 rfl (nt := 48) rfl (Nbl rfl) ?_
 intro w0 S0
 refine Aq (Ab (Jd rfl rfl (Jd rfl rfl (Bz rfl Nn (sv rfl (Ak rfl) (As (Aq (B7 (Aq (Ab (sv rfl (Ao B5 rfl (.lp _ _ _ rfl) (Nbl rfl)) ?_)))))))))))
 obtain ⟨v1, hv1, h⟩ := An h
 refine A2 rfl Ali (Ac rfl Al) (Aj rfl) (Gm hv1) (sv rfl (B9 rfl) (sv rfl (Ag rfl) (Bo 10 rfl (fun hc => ?_) (fun hc => ?_))))
 ·replace h := B2 hc h
  clear hc
  refine Av rfl rfl rfl rfl (Av rfl rfl rfl rfl (Av rfl rfl rfl rfl (sv rfl (Au rfl rfl) (sv rfl (Ak rfl) (As (G0 rfl (fun _ => ?_) (fun hx => Bool.noConfusion hx)))))))
  refine Aq (Ab (sv rfl (Bk Nn Ac4 Ba (.nil _)) (Ax Ey rfl rfl rfl rfl (Nbl rfl) (Bs [.box (EL.el a0), .box (EL.el a1), .box Zba] rfl (sv rfl (Ak rfl) (As (Bj (A9 (Ar ?_)))))))))
  obtain rfl := Option.some.inj h
  refine ⟨Or.inr rfl, _, _, _, (Ad (Bd.agg _ _ _ _ _ B5 rfl (.lp _ _ _ rfl) (Nbl rfl)) (Ad (Bd.tmp _ _ rfl) Af)), (Np rfl), ?_⟩
  rfl
 ·replace h := B1 hc h
  clear hc
  refine son rfl rfl rfl (sv rfl (Ao Ama rfl (.lp _ _ _ rfl) (Nbl rfl)) (son rfl rfl rfl ?_))
  obtain ⟨v2, hv2, h⟩ := An h
  refine A2 rfl Atp (Ac rfl Al) (Aj rfl) (Nf hv2) (son rfl rfl rfl (sv rfl (B9 rfl) (sv rfl (Am rfl rfl) (sv rfl (Ak rfl) (As (ccI h rfl (fun h => ?_) (fun h => ?_)))))))
  ·refine Aq (Ab (sv rfl (Bk Nn Ac4 Ba (.nil _)) (Ax Ey rfl rfl rfl rfl (Nbl rfl) (Bs [.box (EL.el a0), .box (EL.el a1), .box Zba] rfl (sv rfl (Ak rfl) (As (Bj (A9 (Ar ?_)))))))))
   obtain rfl := Option.some.inj h
   refine ⟨Or.inr rfl, _, _, _, (Ad (Bd.agg _ _ _ _ _ B5 rfl (.lp _ _ _ rfl) (Nbl rfl)) (Ad (Bd.tmp _ _ rfl) Af)), (Np rfl), ?_⟩
   rfl
  ·refine Aq (Ab (sv rfl (Aa G4 rfl) (sv rfl (Ae ti3 rfl (.lp _ _ _ rfl) rfl) (sv rfl (Bq rfl rfl) (sv rfl (Ak rfl) (As (ccI h rfl (fun h => ?_) (fun h => ?_))))))))
   ·refine Aq (Ab (sv rfl (Bk Nn Ac4 Ba (.nil _)) (Ax Ey rfl rfl rfl rfl (Nbl rfl) (Bs [.box (EL.el a0), .box (EL.el a1), .box Zba] rfl (sv rfl (Ak rfl) (As (Bj (A9 (Ar ?_)))))))))
    obtain rfl := Option.some.inj h
    refine ⟨Or.inr rfl, _, _, _, (Ad (Bd.agg _ _ _ _ _ B5 rfl (.lp _ _ _ rfl) (Nbl rfl)) (Ad (Bd.tmp _ _ rfl) Af)), (Np rfl), ?_⟩
    rfl
   ·refine Aq (Ab (sv rfl (Aa Lw rfl) (sv rfl (Ae Xy rfl (.lp _ _ _ rfl) rfl) (sv rfl (Aa Sj rfl) (sv rfl (Ae ti3 rfl (.lp _ _ _ rfl) rfl) ?_)))))
    obtain ⟨v3, hv3, h⟩ := An h
    refine A2 rfl At0 (Ac rfl (Ac rfl Al)) (Aj rfl) (Ok hv3) (sv rfl (L8 rfl rfl) (sv rfl (Ak rfl) (As (ccI h rfl (fun h => ?_) (fun h => ?_)))))
    ·refine Aq (Ab (sv rfl (Bk Nn Ac4 Ba (.nil _)) (Ax Ey rfl rfl rfl rfl (Nbl rfl) (Bs [.box (EL.el a0), .box (EL.el a1), .box Zba] rfl (sv rfl (Ak rfl) (As (Bj (A9 (Ar ?_)))))))))
     obtain rfl := Option.some.inj h
     refine ⟨Or.inr rfl, _, _, _, (Ad (Bd.agg _ _ _ _ _ B5 rfl (.lp _ _ _ rfl) (Nbl rfl)) (Ad (Bd.tmp _ _ rfl) Af)), (Np rfl), ?_⟩
     rfl
    ·refine Aq (Ab (sv rfl (Aa Lw rfl) (sv rfl (Ae Xy rfl (.lp _ _ _ rfl) rfl) (sv rfl (Az T6 rfl) (sv rfl (L8 rfl rfl) (sv rfl (Ak rfl) (As (ccI h rfl (fun h => ?_) (fun h => ?_)))))))))
     ·refine Aq (Ab (sv rfl (Bk Nn Ac4 Ba (.nil _)) (Ax Ey rfl rfl rfl rfl (Nbl rfl) (Bs [.box (EL.el a0), .box (EL.el a1), .box Zba] rfl (sv rfl (Ak rfl) (As (Bj (A9 (Ar ?_)))))))))
      obtain rfl := Option.some.inj h
      refine ⟨Or.inr rfl, _, _, _, (Ad (Bd.agg _ _ _ _ _ B5 rfl (.lp _ _ _ rfl) (Nbl rfl)) (Ad (Bd.tmp _ _ rfl) Af)), (Np rfl), ?_⟩
      rfl
     ·refine Bl (A4 (Ai (Aq (Ab (sv rfl (Aa Lw rfl) (sv rfl (Ae Xy rfl (.lp _ _ _ rfl) rfl) (sv rfl (Ao Ama rfl (.lp _ _ _ rfl) (Nbl rfl)) ?_)))))))
      refine Qw rfl Tryz.underlying29 Aon rfl rfl (List.all_eq_true.1 rfl) (by decide) ?_
      refine Bs [.box (EL.el a0), .box (EL.el a1), .box Zba, .arr 94 3 0 ([a1].flatMap Ay)] rfl ?_
      refine Aai 38 rfl (by (repeat' first | exact J5.nil _ | apply J5.cons | apply Jz.one | apply Jz.agg | exact E6.nil | exact E6.ls _ _ _ _ _ _ rfl (Bg (f := Ay) (fun _ => rfl) ([a1] : List Aw)).symm | exact E6.ls _ _ _ _ _ _ rfl (Bg (f := Ay) (fun _ => rfl) _).symm | exact E6.id _ rfl | exact D1.nil _ | apply D1.cons)) ?_
      refine S8 (out := ([a0.Tasks, [a1]] : List (List Aw)).flatMap (eL Ay)) rfl Tryz.underlying163 Avv (Ap rfl (Ap rfl Ba)) (.cons _ _ _ _ _ _ _ rfl rfl (Nbl rfl) (.cons _ _ _ _ _ _ _ rfl rfl (Nbl rfl) (.nil _))) rfl (by decide) ?_
      refine Aai 39 rfl (by (repeat' first | exact J5.nil _ | apply J5.cons | apply Jz.one | apply Jz.agg | exact E6.nil | exact E6.ls _ _ _ _ _ _ rfl (Bg (f := (eL Ay)) (fun _ => rfl) ([a0.Tasks, [a1]] : List (List Aw))).symm | exact E6.ls _ _ _ _ _ _ rfl (Bg (f := (eL Ay)) (fun _ => rfl) _).symm | exact E6.ls _ _ _ _ _ _ rfl (Bg (f := Ay) (fun _ => rfl) _).symm | exact E6.id _ rfl | exact D1.nil _ | apply D1.cons)) ?_
      obtain ⟨v4, hv4, h⟩ := An h
      refine C2 (x' := .s (.one (.ls 5 v4.length))) (M' := [.box (EL.el a0), .box (EL.el a1), .box Zba, .arr 94 3 ([a1].flatMap Ay).length ([a1].flatMap Ay), .arr 29 1 ([a0.Tasks, [a1]].flatMap (eL Ay)).length ([a0.Tasks, [a1]].flatMap (eL Ay)), .arr 94 3 0 (v4.flatMap Ay)]) [] rfl Ava (.func _) (Ac rfl Al) (Ry hv4) rfl rfl (by decide) rfl rfl rfl ?_
      refine sv rfl (Aa Lw rfl) (Ax Ata rfl rfl rfl rfl (Nbl rfl) (Bs [.box ((EL.el a0).set 6 (.ls 5 v4.length)), .box (EL.el a1), .box Zba, .arr 94 3 ([a1].flatMap Ay).length ([a1].flatMap Ay), .arr 29 1 ([a0.Tasks, [a1]].flatMap (eL Ay)).length ([a0.Tasks, [a1]].flatMap (eL Ay)), .arr 94 3 0 (v4.flatMap Ay)] rfl (As (Aq (Aq (Ab (sv rfl (Aa G4 rfl) (sv rfl (Ae ti3 rfl (.lp _ _ _ rfl) rfl) (sv rfl (Bq rfl rfl) (As (G5 (Ah × (List Aw)) (fun b5 => [(2, .s (.one (.lp 0 0))), (4, .s (.one (.lp 2 0)))]) (fun b5 => [.box (EL.el b5.1), .box (EL.el a1), .box Zba, .arr 94 3 ([a1].flatMap Ay).length ([a1].flatMap Ay), .arr 29 1 ([a0.Tasks, [a1]].flatMap (eL Ay)).length ([a0.Tasks, [a1]].flatMap (eL Ay)), .arr 94 3 (b5.2.flatMap Ay).length (b5.2.flatMap Ay)]) (fun b5 => Ir b5 = some r) (fun _ _ => Be rfl) (fun _ _ => A0 rfl) (fun _ _ => Nat.le_of_ble_eq_true rfl) (fun b5 h => ?_) ?_)))))))))))
      ·unfold Ir at h
       refine Aq (Ab (sv rfl (Ao B5 rfl (.lp _ _ _ rfl) (Nbl rfl)) (Ax Ey rfl rfl rfl rfl (Nbl rfl) (Bs [.box (EL.el b5.1), .box (EL.el a1), .box (EL.el b5.1), .arr 94 3 ([a1].flatMap Ay).length ([a1].flatMap Ay), .arr 29 1 ([a0.Tasks, [a1]].flatMap (eL Ay)).length ([a0.Tasks, [a1]].flatMap (eL Ay)), .arr 94 3 (b5.2.flatMap Ay).length (b5.2.flatMap Ay)] rfl (sv rfl (Ak rfl) (As (Bj ?_)))))))
       obtain rfl := Option.some.inj h
       refine ⟨Or.inr rfl, _, _, _, (Ad (Bd.agg _ _ _ _ _ B5 rfl (.lp _ _ _ rfl) (Nbl rfl)) (Ad (Bd.tmp _ _ rfl) Af)), (Aj rfl), ?_⟩
       rfl
      ·skip
       refine ccI h rfl (fun h => ?_) (fun h => ?_)
       ·refine Ab (sv rfl (Ao B5 rfl (.lp _ _ _ rfl) (Nbl rfl)) ?_)
        refine Aai 45 rfl (by (repeat' first | exact J5.nil _ | apply J5.cons | apply Jz.one | apply Jz.agg | exact E6.nil | exact E6.ls _ _ _ _ _ _ rfl (Bg (f := (eL Ay)) (fun _ => rfl) _).symm | exact E6.ls _ _ _ _ _ _ rfl (Bg (f := Ay) (fun _ => rfl) _).symm | exact E6.id _ rfl | exact D1.nil _ | apply D1.cons)) ?_
        obtain ⟨v6, hv6, h⟩ := An h
        refine A2 rfl Asz (Ac rfl Al) (Aj rfl) (I7 hv6) (Ax Ey rfl rfl rfl rfl (Nbl rfl) (Bs [.box (EL.el v6), .box (EL.el a1), .box Zba, .arr 94 3 ([a1].flatMap Ay).length ([a1].flatMap Ay), .arr 29 1 ([a0.Tasks, [a1]].flatMap (eL Ay)).length ([a0.Tasks, [a1]].flatMap (eL Ay)), .arr 94 3 (v4.flatMap Ay).length (v4.flatMap Ay)] rfl (As ?_)))
        exact ⟨(v6, v4), _, h, ⟨rfl, rfl, trivial⟩, rfl⟩
       ·refine Abt 0 6 rfl rfl (E6.ls _ _ _ _ _ _ rfl (Bg (f := Ay) (fun _ => rfl) (v4 : List Aw)).symm) rfl ?_
        refine Bl (Ai ?_)
        exact ⟨((Ah.mk (Cr.mk a0.Cfg.Who (Dn.mk a0.Cfg.Plan.Wait a0.Cfg.Plan.Most a0.Cfg.Plan.Tries) a0.Cfg.Attempts a0.Cfg.Budget) v4 a0.Phase a0.Epoch a0.Seq a0.Attempt a0.Sent a0.Left a0.Resets a0.Risk (A7.mk a0.St.PC (E3.mk a0.St.Regs.R0 a0.St.Regs.R1 a0.St.Regs.R2 a0.St.Regs.R3 a0.St.Regs.R4 a0.St.Regs.R5 a0.St.Regs.R6 a0.St.Regs.R7) a0.St.Stopped) (Ca.mk a0.Req.Kind a0.Req.Seq a0.Req.Token a0.Req.Attempt a0.Req.RO a0.Req.Key a0.Req.Val (B8.mk a0.Req.Rng.Lo a0.Req.Rng.Hi a0.Req.Rng.Open)) (Bm.mk a0.In.Buf a0.In.Dead) a0.Out a0.Done a0.Tried), v4), _, h, ⟨rfl, rfl, trivial⟩, rfl⟩
def He (a0 : Bf) (b1 : Unit) : Option Bool :=
 if (decide (a0.Kind = 0)) then ((Eb a0.Seq 4294967295).bind fun v2 => if v2 then ((Eb a0.Code 255).bind fun v3 => if v3 then ((Eb a0.N 1099511627776).bind fun v4 => if v4 then ((Cu a0.Found a0.Val 0 32).bind fun v5 => if v5 then (some (decide ((a0.List.length : Int) ≤ 8))) else (some false)) else (some false)) else (some false)) else (some false)) else ((Hk a0.Kind).bind fun v6 => if v6 then ((Eb a0.Seq 4294967295).bind fun v7 => if v7 then ((Eb a0.Code 255).bind fun v8 => if v8 then ((Eb a0.N 1099511627776).bind fun v9 => if v9 then ((Cu a0.Found a0.Val 0 32).bind fun v10 => if v10 then (some (decide ((a0.List.length : Int) ≤ 8))) else (some false)) else (some false)) else (some false)) else (some false)) else (some false))
def G3 (a0 : Bf) (s11 : Int) : Option (LR (Int) (Unit) (Bool)) :=
 if (decide (s11 < (a0.List.length : Int))) then ((idx a0.List s11).bind fun u12 => (Cu true u12.Key 1 16).bind fun v13 => if (!v13) then (some (.ret false)) else (if (decide (32 < (u12.Val.length : Int))) then (some (.ret false)) else (some (.cont (wI (s11 + 1)))))) else (some (.brk ()))
def Fk (a0 : Bf) : Option Bool :=
 (Qg (G3 a0) Di 0).bind fun x => match x with | .inl r => some r | .inr e14 => He a0 e14
set_option maxRecDepth 100000 in
theorem N6 {a0 : Bf} {r : Bool} (h : Fk a0 = some r) : Bp Tryz.prog 39 [.agg (EL.el a0)] (· = .s (.one (.b r))) := by
 unfold Fk at h
 refine A1 Tryz.func39 rfl (nt := 59) rfl (Nbl rfl) ?_
 intro w0 S0
 refine Aq (Ab (Jd rfl rfl (sv rfl (Ak rfl) (As (Aq (Aq (Ab (sv rfl (Aa Ut rfl) (sv rfl (Ae Aes rfl (.lp _ _ _ rfl) rfl) (sv rfl (Az Adj rfl) (sv rfl (Ag rfl) (As (G5 (Unit) (fun b1 => [(1, .s (.one (.lp 0 0)))]) (fun b1 => [.box (EL.el a0)]) (fun b1 => He a0 b1 = some r) (fun _ _ => Be rfl) (fun _ _ => A0 rfl) (fun _ _ => Nat.le_of_ble_eq_true rfl) (fun b1 h => ?_) ?_)))))))))))))
 ·unfold He at h
  refine Aq (Ab (sv rfl (Aa P5 rfl) (sv rfl (Ae ti3 rfl (.lp _ _ _ rfl) rfl) (sv rfl (Bq rfl rfl) (sv rfl (Ag rfl) (Bo 26 rfl (fun hc => ?_) (fun hc => ?_)))))))
  ·replace h := B2 hc h
   clear hc
   refine Av rfl rfl rfl rfl (Av rfl rfl rfl rfl (Av rfl rfl rfl rfl (sv rfl (Au rfl rfl) (sv rfl (Ag rfl) (son rfl rfl rfl (sv rfl (Aa Sg rfl) (son rfl rfl rfl (sv rfl (Ae ti3 rfl (.lp _ _ _ rfl) rfl) (son rfl rfl rfl ?_)))))))))
   obtain ⟨v2, hv2, h⟩ := An h
   refine A2 rfl Akq (Ac rfl (Ac rfl Al)) (Aj rfl) (F3 hv2) (sv rfl (Au rfl rfl) (sv rfl (Ag rfl) (Bo 36 rfl (fun hc => ?_) (fun hc => ?_))))
   ·replace h := B2 hc h
    clear hc
    refine son rfl rfl rfl (sv rfl (Aa Rd rfl) (son rfl rfl rfl (sv rfl (Ae Aa1 rfl (.lp _ _ _ rfl) rfl) (son rfl rfl rfl ?_))))
    obtain ⟨v3, hv3, h⟩ := An h
    refine A2 rfl Akq (Ac rfl (Ac rfl Al)) (Aj rfl) (F3 hv3) (sv rfl (Au rfl rfl) (sv rfl (Ag rfl) (Bo 41 rfl (fun hc => ?_) (fun hc => ?_))))
    ·replace h := B2 hc h
     clear hc
     refine son rfl rfl rfl (sv rfl (Aa Qh rfl) (son rfl rfl rfl (sv rfl (Ae ti3 rfl (.lp _ _ _ rfl) rfl) (son rfl rfl rfl ?_))))
     obtain ⟨v4, hv4, h⟩ := An h
     refine A2 rfl Akq (Ac rfl (Ac rfl Al)) (Aj rfl) (F3 hv4) (sv rfl (Au rfl rfl) (sv rfl (Ag rfl) (Bo 46 rfl (fun hc => ?_) (fun hc => ?_))))
     ·replace h := B2 hc h
      clear hc
      refine son rfl rfl rfl (sv rfl (Aa Aam rfl) (son rfl rfl rfl (sv rfl (Ae ti4 rfl (.lp _ _ _ rfl) rfl) (son rfl rfl rfl (sv rfl (Aa Zi rfl) (son rfl rfl rfl (sv rfl (Ae L4 rfl (.lp _ _ _ rfl) rfl) (son rfl rfl rfl ?_))))))))
      obtain ⟨v5, hv5, h⟩ := An h
      refine A2 rfl Ak4 (Ac rfl (Ac rfl (Ac rfl (Ac rfl Al)))) (Aj rfl) (Ea hv5) (sv rfl (Au rfl rfl) (sv rfl (Ag rfl) (Bo 53 rfl (fun hc => ?_) (fun hc => ?_))))
      ·replace h := B2 hc h
       clear hc
       refine son rfl rfl rfl (sv rfl (Aa Ut rfl) (son rfl rfl rfl (sv rfl (Ae Aes rfl (.lp _ _ _ rfl) rfl) (son rfl rfl rfl (sv rfl (Az Adj rfl) (son rfl rfl rfl (sv rfl (Fv rfl rfl) (sv rfl (Au rfl rfl) (sv rfl (Ak rfl) (As (Bj ?_)))))))))))
       obtain rfl := Option.some.inj h
       refine ⟨Or.inr rfl, _, _, _, (Ad (Bd.tmp _ _ rfl) Af), (Aj rfl), ?_⟩
       rfl
      ·replace h := B1 hc h
       clear hc
       refine Av rfl rfl rfl rfl (Av rfl rfl rfl rfl (Av rfl rfl rfl rfl (Av rfl rfl rfl rfl (sv rfl (Am rfl rfl) (sv rfl (Ak rfl) (As (Bj ?_)))))))
       obtain rfl := Option.some.inj h
       refine ⟨Or.inr rfl, _, _, _, (Ad (Bd.tmp _ _ rfl) Af), (Aj rfl), ?_⟩
       rfl
     ·replace h := B1 hc h
      clear hc
      refine Av rfl rfl rfl rfl (Av rfl rfl rfl rfl (Av rfl rfl rfl rfl (Av rfl rfl rfl rfl (Av rfl rfl rfl rfl (sv rfl (Am rfl rfl) (sv rfl (Ag rfl) (Av rfl rfl rfl rfl (Av rfl rfl rfl rfl (Av rfl rfl rfl rfl (Av rfl rfl rfl rfl (sv rfl (Am rfl rfl) (sv rfl (Ak rfl) (As (Bj ?_))))))))))))))
      obtain rfl := Option.some.inj h
      refine ⟨Or.inr rfl, _, _, _, (Ad (Bd.tmp _ _ rfl) Af), (Aj rfl), ?_⟩
      rfl
    ·replace h := B1 hc h
     clear hc
     refine Av rfl rfl rfl rfl (Av rfl rfl rfl rfl (Av rfl rfl rfl rfl (sv rfl (Am rfl rfl) (sv rfl (Ag rfl) (Av rfl rfl rfl rfl (Av rfl rfl rfl rfl (Av rfl rfl rfl rfl (Av rfl rfl rfl rfl (Av rfl rfl rfl rfl (sv rfl (Am rfl rfl) (sv rfl (Ag rfl) (Av rfl rfl rfl rfl (Av rfl rfl rfl rfl (Av rfl rfl rfl rfl (Av rfl rfl rfl rfl (sv rfl (Am rfl rfl) (sv rfl (Ak rfl) (As (Bj ?_)))))))))))))))))))
     obtain rfl := Option.some.inj h
     refine ⟨Or.inr rfl, _, _, _, (Ad (Bd.tmp _ _ rfl) Af), (Aj rfl), ?_⟩
     rfl
   ·replace h := B1 hc h
    clear hc
    refine Av rfl rfl rfl rfl (Av rfl rfl rfl rfl (Av rfl rfl rfl rfl (sv rfl (Am rfl rfl) (sv rfl (Ag rfl) (Av rfl rfl rfl rfl (Av rfl rfl rfl rfl (Av rfl rfl rfl rfl (sv rfl (Am rfl rfl) (sv rfl (Ag rfl) (Av rfl rfl rfl rfl (Av rfl rfl rfl rfl (Av rfl rfl rfl rfl (Av rfl rfl rfl rfl (Av rfl rfl rfl rfl (sv rfl (Am rfl rfl) (sv rfl (Ag rfl) (Av rfl rfl rfl rfl (Av rfl rfl rfl rfl (Av rfl rfl rfl rfl (Av rfl rfl rfl rfl (sv rfl (Am rfl rfl) (sv rfl (Ak rfl) (As (Bj ?_))))))))))))))))))))))))
    obtain rfl := Option.some.inj h
    refine ⟨Or.inr rfl, _, _, _, (Ad (Bd.tmp _ _ rfl) Af), (Aj rfl), ?_⟩
    rfl
  ·replace h := B1 hc h
   clear hc
   refine son rfl rfl rfl (sv rfl (Aa P5 rfl) (son rfl rfl rfl (sv rfl (Ae ti3 rfl (.lp _ _ _ rfl) rfl) (son rfl rfl rfl ?_))))
   obtain ⟨v6, hv6, h⟩ := An h
   refine A2 rfl Aqr (Ac rfl Al) (Aj rfl) (L7 hv6) (sv rfl (Am rfl rfl) (sv rfl (Ag rfl) (Bo 31 rfl (fun hc => ?_) (fun hc => ?_))))
   ·replace h := B2 hc h
    clear hc
    refine son rfl rfl rfl (sv rfl (Aa Sg rfl) (son rfl rfl rfl (sv rfl (Ae ti3 rfl (.lp _ _ _ rfl) rfl) (son rfl rfl rfl ?_))))
    obtain ⟨v7, hv7, h⟩ := An h
    refine A2 rfl Akq (Ac rfl (Ac rfl Al)) (Aj rfl) (F3 hv7) (sv rfl (Au rfl rfl) (sv rfl (Ag rfl) (Bo 36 rfl (fun hc => ?_) (fun hc => ?_))))
    ·replace h := B2 hc h
     clear hc
     refine son rfl rfl rfl (sv rfl (Aa Rd rfl) (son rfl rfl rfl (sv rfl (Ae Aa1 rfl (.lp _ _ _ rfl) rfl) (son rfl rfl rfl ?_))))
     obtain ⟨v8, hv8, h⟩ := An h
     refine A2 rfl Akq (Ac rfl (Ac rfl Al)) (Aj rfl) (F3 hv8) (sv rfl (Au rfl rfl) (sv rfl (Ag rfl) (Bo 41 rfl (fun hc => ?_) (fun hc => ?_))))
     ·replace h := B2 hc h
      clear hc
      refine son rfl rfl rfl (sv rfl (Aa Qh rfl) (son rfl rfl rfl (sv rfl (Ae ti3 rfl (.lp _ _ _ rfl) rfl) (son rfl rfl rfl ?_))))
      obtain ⟨v9, hv9, h⟩ := An h
      refine A2 rfl Akq (Ac rfl (Ac rfl Al)) (Aj rfl) (F3 hv9) (sv rfl (Au rfl rfl) (sv rfl (Ag rfl) (Bo 46 rfl (fun hc => ?_) (fun hc => ?_))))
      ·replace h := B2 hc h
       clear hc
       refine son rfl rfl rfl (sv rfl (Aa Aam rfl) (son rfl rfl rfl (sv rfl (Ae ti4 rfl (.lp _ _ _ rfl) rfl) (son rfl rfl rfl (sv rfl (Aa Zi rfl) (son rfl rfl rfl (sv rfl (Ae L4 rfl (.lp _ _ _ rfl) rfl) (son rfl rfl rfl ?_))))))))
       obtain ⟨v10, hv10, h⟩ := An h
       refine A2 rfl Ak4 (Ac rfl (Ac rfl (Ac rfl (Ac rfl Al)))) (Aj rfl) (Ea hv10) (sv rfl (Au rfl rfl) (sv rfl (Ag rfl) (Bo 53 rfl (fun hc => ?_) (fun hc => ?_))))
       ·replace h := B2 hc h
        clear hc
        refine son rfl rfl rfl (sv rfl (Aa Ut rfl) (son rfl rfl rfl (sv rfl (Ae Aes rfl (.lp _ _ _ rfl) rfl) (son rfl rfl rfl (sv rfl (Az Adj rfl) (son rfl rfl rfl (sv rfl (Fv rfl rfl) (sv rfl (Au rfl rfl) (sv rfl (Ak rfl) (As (Bj ?_)))))))))))
        obtain rfl := Option.some.inj h
        refine ⟨Or.inr rfl, _, _, _, (Ad (Bd.tmp _ _ rfl) Af), (Aj rfl), ?_⟩
        rfl
       ·replace h := B1 hc h
        clear hc
        refine Av rfl rfl rfl rfl (Av rfl rfl rfl rfl (Av rfl rfl rfl rfl (Av rfl rfl rfl rfl (sv rfl (Am rfl rfl) (sv rfl (Ak rfl) (As (Bj ?_)))))))
        obtain rfl := Option.some.inj h
        refine ⟨Or.inr rfl, _, _, _, (Ad (Bd.tmp _ _ rfl) Af), (Aj rfl), ?_⟩
        rfl
      ·replace h := B1 hc h
       clear hc
       refine Av rfl rfl rfl rfl (Av rfl rfl rfl rfl (Av rfl rfl rfl rfl (Av rfl rfl rfl rfl (Av rfl rfl rfl rfl (sv rfl (Am rfl rfl) (sv rfl (Ag rfl) (Av rfl rfl rfl rfl (Av rfl rfl rfl rfl (Av rfl rfl rfl rfl (Av rfl rfl rfl rfl (sv rfl (Am rfl rfl) (sv rfl (Ak rfl) (As (Bj ?_))))))))))))))
       obtain rfl := Option.some.inj h
       refine ⟨Or.inr rfl, _, _, _, (Ad (Bd.tmp _ _ rfl) Af), (Aj rfl), ?_⟩
       rfl
     ·replace h := B1 hc h
      clear hc
      refine Av rfl rfl rfl rfl (Av rfl rfl rfl rfl (Av rfl rfl rfl rfl (sv rfl (Am rfl rfl) (sv rfl (Ag rfl) (Av rfl rfl rfl rfl (Av rfl rfl rfl rfl (Av rfl rfl rfl rfl (Av rfl rfl rfl rfl (Av rfl rfl rfl rfl (sv rfl (Am rfl rfl) (sv rfl (Ag rfl) (Av rfl rfl rfl rfl (Av rfl rfl rfl rfl (Av rfl rfl rfl rfl (Av rfl rfl rfl rfl (sv rfl (Am rfl rfl) (sv rfl (Ak rfl) (As (Bj ?_)))))))))))))))))))
      obtain rfl := Option.some.inj h
      refine ⟨Or.inr rfl, _, _, _, (Ad (Bd.tmp _ _ rfl) Af), (Aj rfl), ?_⟩
      rfl
    ·replace h := B1 hc h
     clear hc
     refine Av rfl rfl rfl rfl (Av rfl rfl rfl rfl (Av rfl rfl rfl rfl (sv rfl (Am rfl rfl) (sv rfl (Ag rfl) (Av rfl rfl rfl rfl (Av rfl rfl rfl rfl (Av rfl rfl rfl rfl (sv rfl (Am rfl rfl) (sv rfl (Ag rfl) (Av rfl rfl rfl rfl (Av rfl rfl rfl rfl (Av rfl rfl rfl rfl (Av rfl rfl rfl rfl (Av rfl rfl rfl rfl (sv rfl (Am rfl rfl) (sv rfl (Ag rfl) (Av rfl rfl rfl rfl (Av rfl rfl rfl rfl (Av rfl rfl rfl rfl (Av rfl rfl rfl rfl (sv rfl (Am rfl rfl) (sv rfl (Ak rfl) (As (Bj ?_))))))))))))))))))))))))
     obtain rfl := Option.some.inj h
     refine ⟨Or.inr rfl, _, _, _, (Ad (Bd.tmp _ _ rfl) Af), (Aj rfl), ?_⟩
     rfl
   ·replace h := B1 hc h
    clear hc
    refine Av rfl rfl rfl rfl (Av rfl rfl rfl rfl (Av rfl rfl rfl rfl (sv rfl (Am rfl rfl) (sv rfl (Ag rfl) (Av rfl rfl rfl rfl (Av rfl rfl rfl rfl (Av rfl rfl rfl rfl (sv rfl (Am rfl rfl) (sv rfl (Ag rfl) (Av rfl rfl rfl rfl (Av rfl rfl rfl rfl (Av rfl rfl rfl rfl (sv rfl (Am rfl rfl) (sv rfl (Ag rfl) (Av rfl rfl rfl rfl (Av rfl rfl rfl rfl (Av rfl rfl rfl rfl (Av rfl rfl rfl rfl (Av rfl rfl rfl rfl (sv rfl (Am rfl rfl) (sv rfl (Ag rfl) (Av rfl rfl rfl rfl (Av rfl rfl rfl rfl (Av rfl rfl rfl rfl (Av rfl rfl rfl rfl (sv rfl (Am rfl rfl) (sv rfl (Ak rfl) (As (Bj ?_)))))))))))))))))))))))))))))
    obtain rfl := Option.some.inj h
    refine ⟨Or.inr rfl, _, _, _, (Ad (Bd.tmp _ _ rfl) Af), (Aj rfl), ?_⟩
    rfl
 ·skip
  refine B7 ?_
  obtain ⟨x11, hx11, ho11⟩ := An h
  refine Da (G := Nat × (Int)) (fun g => [(1, .s (.one (.lp 0 0))), (6, .s (.one (.sl a0.List.length (a0.List.flatMap Dw)))), (7, .s (.one (Ii6 (a0.List.length : Int)))), (8, .s (.one (Ii6 g.2)))]) (fun g => [.box (EL.el a0)]) (fun g => Qg (G3 a0) g.1 g.2 = some x11) (fun g => g.1) (Di, 0) hx11 ⟨rfl, rfl, rfl, rfl, trivial⟩ [] rfl (fun _ _ => Be rfl) (fun _ _ => A0 rfl) (fun _ _ => Nat.le_of_ble_eq_true rfl) ?_
  clear hx11 h
  rintro ⟨n11, s11⟩ h
  obtain ⟨n11, y11, rfl, h, hk11⟩ := Oc h
  unfold G3 at h
  refine Aq (Ab (sv rfl (Cp rfl rfl) (As (Aq (ccI h rfl (fun h => ?_) (fun h => ?_))))))
  ·refine Bl (Ai (Aq (B7 (Aq (Ab ?_)))))
   obtain ⟨u12, hu12, h⟩ := An h
   refine sv rfl (Fe (f := Dw) Adj (fun _ => rfl) rfl rfl rfl rfl hu12) ?_
   refine sv rfl (Dd (ys := [.sl u12.Key.length (u12.Key.flatMap eU8), .sl u12.Val.length (u12.Val.flatMap eU8)]) Alj rfl (.cp _) rfl rfl) (Bz rfl Aiu (Ax Am1 rfl rfl rfl rfl (Nbl rfl) (Bs [.box (EL.el a0), .box (EL.el u12)] rfl (As (Aq (Ab (sv rfl (Aa Aby rfl) (sv rfl (Ae L4 rfl (.lp _ _ _ rfl) rfl) ?_))))))))
   obtain ⟨v13, hv13, h⟩ := An h
   refine A2 rfl Ak4 (Ac rfl (Ac rfl (Ac rfl (Ac rfl Al)))) (Aj rfl) (Ea hv13) (sv rfl (B9 rfl) (sv rfl (Ag rfl) (Bo 16 rfl (fun hc => ?_) (fun hc => ?_))))
   ·replace h := B2 hc h
    clear hc
    refine Av rfl rfl rfl rfl (Av rfl rfl rfl rfl (Av rfl rfl rfl rfl (Av rfl rfl rfl rfl (sv rfl (Au rfl rfl) (As (G0 rfl (fun _ => ?_) (fun hx => Bool.noConfusion hx)))))))
    refine Aq (Ab (sv rfl (Ak rfl) (As (Bj (A9 (Ar (Ar (A9 (Ar ?_)))))))))
    obtain rfl := Option.some.inj h
    obtain rfl : Sum.inl _ = x11 := hk11
    replace ho11 : some _ = some _ := ho11
    obtain rfl := Option.some.inj ho11
    refine ⟨Or.inr rfl, _, _, _, (Ad (Bd.tmp _ _ rfl) Af), (Aj rfl), ?_⟩
    rfl
   ·replace h := B1 hc h
    clear hc
    refine son rfl rfl rfl (sv rfl (Aa Yn rfl) (son rfl rfl rfl (sv rfl (Ae L4 rfl (.lp _ _ _ rfl) rfl) (son rfl rfl rfl (sv rfl (Az Lh rfl) (son rfl rfl rfl (sv rfl (C6 rfl rfl) (sv rfl (Am rfl rfl) (As (ccI h rfl (fun h => ?_) (fun h => ?_)))))))))))
    ·refine Aq (Ab (sv rfl (Ak rfl) (As (Bj (A9 (Ar (Ar (A9 (Ar ?_)))))))))
     obtain rfl := Option.some.inj h
     obtain rfl : Sum.inl _ = x11 := hk11
     replace ho11 : some _ = some _ := ho11
     obtain rfl := Option.some.inj ho11
     refine ⟨Or.inr rfl, _, _, _, (Ad (Bd.tmp _ _ rfl) Af), (Aj rfl), ?_⟩
     rfl
    ·refine Bl (A4 (Ai (Ab (sv rfl (B0 rfl rfl) (sv rfl (Ag rfl) (As ?_))))))
     obtain rfl := Option.some.inj h
     exact ⟨(n11, (wI (s11 + 1))), _, hk11, ⟨rfl, rfl, rfl, rfl, trivial⟩, rfl, Nat.lt_succ_self _⟩
  ·refine Lj (Bi (Bi (Ck (Ai ?_))))
   obtain rfl := Option.some.inj h
   obtain rfl : _ = x11 := hk11
   exact ⟨(), _, ho11, ⟨rfl, trivial⟩, rfl⟩
def Jk (b9 : (List UInt8)) : Option ((List UInt8) × Int) :=
 some (b9, 0)
def Fx (a0 : Bf) (s10 : (List UInt8) × Int) : Option (LB ((List UInt8) × Int) ((List UInt8))) :=
 if (decide (s10.2 < (a0.List.length : Int))) then ((idx a0.List s10.2).bind fun u11 => (F1 s10.1 u11.Key).bind fun v12 => (F1 v12 u11.Val).bind fun v13 => some (.cont (v13, (wI (s10.2 + 1))))) else (some (.brk s10.1))
def J1 (a0 : Bf) : Option ((List UInt8) × Int) :=
 (Fk a0).bind fun v1 => if (!v1) then (some (([] : List UInt8), 1)) else ((Ei ([] : List UInt8) (BitVec.ofInt 64 a0.Kind) 1).bind fun v2 => (Ei v2 (BitVec.ofInt 64 a0.Seq) 4).bind fun v3 => (Ei v3 (BitVec.ofInt 64 a0.Code) 1).bind fun v4 => (Ei v4 (BitVec.ofInt 64 a0.N) 8).bind fun v5 => (Hs v5 a0.Found).bind fun v6 => (F1 v6 a0.Val).bind fun v7 => (Ei v7 (BitVec.ofInt 64 (a0.List.length : Int)) 1).bind fun v8 => (E4 (Fx a0) Di (v8, 0)).bind fun e14 => Jk e14)
set_option maxRecDepth 100000 in
theorem Ty {a0 : Bf} {r : (List UInt8) × Int} (h : J1 a0 = some r) : Bp Tryz.prog 16 [.agg (EL.el a0)] (· = .tup [.one (.sl r.1.length (r.1.flatMap eU8)), .one (Ii6 r.2)]) := by
 unfold J1 at h
 refine A1 Tryz.func16 rfl (nt := 56) rfl (Nbl rfl) ?_
 intro w0 S0
 refine Aq (Ab (Jd rfl rfl (sv rfl (Ak rfl) (sv rfl (Ak rfl) (As (Aq (Aq (Ab (sv rfl (Ao Aa7 rfl (.lp _ _ _ rfl) (Nbl rfl)) ?_)))))))))
 obtain ⟨v1, hv1, h⟩ := An h
 refine A2 rfl Aup (Ac rfl Al) (Aj rfl) (N6 hv1) (sv rfl (B9 rfl) (As (ccI h rfl (fun h => ?_) (fun h => ?_))))
 ·refine Aq (Ab (sv rfl (Ak rfl) (sv rfl (Ak rfl) (As (Bj (Ar ?_))))))
  obtain rfl := Option.some.inj h
  refine ⟨Or.inr rfl, _, _, _, (Ad (Bd.tmp _ _ rfl) (Ad (Bd.tmp _ _ rfl) Af)), (Np rfl), ?_⟩
  rfl
 ·refine Bl (Ai (Aq ?_))
  refine Ae6 Ma (by kernel_rfl) ?_
  refine dv rfl (Aa P5 rfl) (dv rfl (Ae ti3 rfl (.lp _ _ _ rfl) rfl) (dv rfl (C3 rfl Tryz.underlying3 Tryz.underlying112 rfl) ?_))
  obtain ⟨v2, hv2, h⟩ := An h
  refine dd rfl (Tr Aaz (Ac rfl (Ac rfl (Ac rfl Al))) rfl (El hv2)) (dv rfl (Aa Sg rfl) (dv rfl (Ae ti3 rfl (.lp _ _ _ rfl) rfl) (dv rfl (C3 rfl Tryz.underlying3 Tryz.underlying112 rfl) ?_)))
  obtain ⟨v3, hv3, h⟩ := An h
  refine dd rfl (D2 Aaz (Ac rfl (Ac rfl (Ac rfl Al))) rfl (El hv3)) (dv rfl (Ak rfl) (Afb (Ai (Aq ?_))))
  refine Adl Ma (by kernel_rfl) ?_
  refine dv rfl (Ag rfl) (dv rfl (Aa Rd rfl) (dv rfl (Ae Aa1 rfl (.lp _ _ _ rfl) rfl) (dv rfl (C3 rfl Tryz.underlying38 Tryz.underlying112 rfl) ?_)))
  obtain ⟨v4, hv4, h⟩ := An h
  refine dd rfl (D2 Aaz (Ac rfl (Ac rfl (Ac rfl Al))) rfl (El hv4)) (dv rfl (Aa Qh rfl) (dv rfl (Ae ti3 rfl (.lp _ _ _ rfl) rfl) (dv rfl (C3 rfl Tryz.underlying3 Tryz.underlying112 rfl) ?_)))
  obtain ⟨v5, hv5, h⟩ := An h
  refine dd rfl (D2 Aaz (Ac rfl (Ac rfl (Ac rfl Al))) rfl (El hv5)) (dv rfl (Ak rfl) (Afb (Ai (Aq ?_))))
  refine Adl Ma (by kernel_rfl) ?_
  refine dv rfl (Ag rfl) (dv rfl (Aa Aam rfl) (dv rfl (Ae ti4 rfl (.lp _ _ _ rfl) rfl) ?_))
  obtain ⟨v6, hv6, h⟩ := An h
  refine dd rfl (D2 Atg (Ac rfl (Ac rfl Al)) rfl (M6 hv6)) (dv rfl (Aa Zi rfl) (dv rfl (Ae L4 rfl (.lp _ _ _ rfl) rfl) ?_))
  obtain ⟨v7, hv7, h⟩ := An h
  refine dd rfl (D2 Alu (Ac rfl (Ac rfl Al)) rfl (Ip hv7)) (dv rfl (Ak rfl) (Afb (Ai (Aq (Ab (sv rfl (Ag rfl) (sv rfl (Aa Ut rfl) (sv rfl (Ae Aes rfl (.lp _ _ _ rfl) rfl) (sv rfl (Az Adj rfl) (sv rfl (C3 rfl Tryz.underlying3 Tryz.underlying112 rfl) ?_))))))))))
  obtain ⟨v8, hv8, h⟩ := An h
  refine A2 rfl Aaz (Ac rfl (Ac rfl (Ac rfl Al))) (Aj rfl) (El hv8) (sv rfl (Ak rfl) (As (Aq (Aq (Ab (sv rfl (Aa Ut rfl) (sv rfl (Ae Aes rfl (.lp _ _ _ rfl) rfl) (sv rfl (Az Adj rfl) (sv rfl (Ag rfl) (As (G5 ((List UInt8)) (fun b9 => [(4, .s (.one (.sl b9.length (b9.flatMap eU8))))]) (fun b9 => [.box (EL.el a0)]) (fun b9 => Jk b9 = some r) (fun _ _ => Be rfl) (fun _ _ => A0 rfl) (fun _ _ => Nat.le_of_ble_eq_true rfl) (fun b9 h => ?_) ?_)))))))))))
  ·unfold Jk at h
   refine Aq (Ab (sv rfl (Ag rfl) (sv rfl (Ak rfl) (sv rfl (Ak rfl) (As (Bj ?_))))))
   obtain rfl := Option.some.inj h
   refine ⟨Or.inr rfl, _, _, _, (Ad (Bd.tmp _ _ rfl) (Ad (Bd.tmp _ _ rfl) Af)), (Aj rfl), ?_⟩
   rfl
  ·skip
   refine B7 ?_
   obtain ⟨x10, hx10, ho10⟩ := An h
   refine Da (G := Nat × ((List UInt8) × Int)) (fun g => [(4, .s (.one (.sl g.2.1.length (g.2.1.flatMap eU8)))), (41, .s (.one (.sl a0.List.length (a0.List.flatMap Dw)))), (42, .s (.one (Ii6 (a0.List.length : Int)))), (43, .s (.one (Ii6 g.2.2)))]) (fun g => [.box (EL.el a0)]) (fun g => E4 (Fx a0) g.1 g.2 = some x10) (fun g => g.1) (Di, (v8, 0)) hx10 ⟨rfl, rfl, rfl, rfl, trivial⟩ [] rfl (fun _ _ => Be rfl) (fun _ _ => A0 rfl) (fun _ _ => Nat.le_of_ble_eq_true rfl) ?_
   clear hx10 h
   rintro ⟨n10, s10⟩ h
   obtain ⟨n10, y10, rfl, h, hk10⟩ := Gs h
   unfold Fx at h
   refine Aq (Ab (sv rfl (Cp rfl rfl) (As (Aq (ccI h rfl (fun h => ?_) (fun h => ?_))))))
   ·refine Bl (Ai (Aq (B7 (Aq (Ab ?_)))))
    obtain ⟨u11, hu11, h⟩ := An h
    refine sv rfl (Fe (f := Dw) Adj (fun _ => rfl) rfl rfl rfl rfl hu11) ?_
    refine sv rfl (Dd (ys := [.sl u11.Key.length (u11.Key.flatMap eU8), .sl u11.Val.length (u11.Val.flatMap eU8)]) Alj rfl (.cp _) rfl rfl) (Bz rfl Aiu (Ax Am1 rfl rfl rfl rfl (Nbl rfl) (Bs [.box (EL.el a0), .box (EL.el u11)] rfl (As ?_))))
    refine Adl Ma (by kernel_rfl) ?_
    refine dv rfl (Ag rfl) (dv rfl (Aa Aby rfl) (dv rfl (Ae L4 rfl (.lp _ _ _ rfl) rfl) ?_))
    obtain ⟨v12, hv12, h⟩ := An h
    refine dd rfl (D2 Alu (Ac rfl (Ac rfl Al)) rfl (Ip hv12)) (dv rfl (Aa Yn rfl) (dv rfl (Ae L4 rfl (.lp _ _ _ rfl) rfl) ?_))
    obtain ⟨v13, hv13, h⟩ := An h
    refine dd rfl (D2 Alu (Ac rfl (Ac rfl Al)) rfl (Ip hv13)) (dv rfl (Ak rfl) (Afb (A4 (Ai (Ab (sv rfl (B0 rfl rfl) (sv rfl (Ag rfl) (As ?_))))))))
    obtain rfl := Option.some.inj h
    exact ⟨(n10, (v13, (wI (s10.2 + 1)))), _, hk10, ⟨rfl, rfl, rfl, rfl, trivial⟩, rfl, Nat.lt_succ_self _⟩
   ·refine Lj (Bi (Bi (Ck (Ai ?_))))
    obtain rfl := Option.some.inj h
    obtain rfl : _ = x10 := hk10
    exact ⟨s10.1, _, ho10, ⟨rfl, trivial⟩, rfl⟩
def F2 (a0 : Ah) (a1 : Hu) : Option (List UInt8) :=
 (J1 (Bf.mk a0.Req.Kind a0.Req.Seq a1.Code a1.N a1.Found a1.Val a1.List)).bind fun v1 => (K0 ([] : List UInt8) v1.1).bind fun v2 => some v2.1
set_option maxRecDepth 100000 in
theorem Ov {a0 : Ah} {a1 : Hu} {r : (List UInt8)} (h : F2 a0 a1 = some r) : Bp Tryz.prog 22 [.agg (EL.el a0), .agg (EL.el a1)] (· = .s (.one (.sl r.length (r.flatMap eU8)))) := by
 unfold F2 at h
 refine A1 Tryz.func22 rfl (nt := 38) rfl (Nbl rfl) ?_
 intro w0 S0
 refine Aq (Ab (Jd rfl rfl (Jd rfl rfl (sv rfl (Ak rfl) (As (Aq (Ab (sv rfl (Aa Jq rfl) (sv rfl (Aa Pz rfl) (sv rfl (Ae ti3 rfl (.lp _ _ _ rfl) rfl) (sv rfl (Aa Jq rfl) (sv rfl (Aa Qp rfl) (sv rfl (Ae ti3 rfl (.lp _ _ _ rfl) rfl) (sv rfl (Aa Ap7 rfl) (sv rfl (Ae Aa1 rfl (.lp _ _ _ rfl) rfl) (sv rfl (Aa Aou rfl) (sv rfl (Ae ti3 rfl (.lp _ _ _ rfl) rfl) (sv rfl (Aa App rfl) (sv rfl (Ae ti4 rfl (.lp _ _ _ rfl) rfl) (sv rfl (Aa Ak2 rfl) (sv rfl (Ae L4 rfl (.lp _ _ _ rfl) rfl) (sv rfl (Aa Aaq rfl) (sv rfl (Ae Aes rfl (.lp _ _ _ rfl) rfl) (sv rfl (Bk Akr Aqv (Ap rfl (Ap rfl (Ap rfl (Ap rfl (Ap rfl (Ap rfl (Ap rfl Ba))))))) (Ef [Ii6 a0.Req.Kind, Ii6 0, Ii6 0, Ii6 0, .b false, Znl, Znl] rfl rfl (Nbl rfl) rfl (Ef [Ii6 a0.Req.Kind, Ii6 a0.Req.Seq, Ii6 0, Ii6 0, .b false, Znl, Znl] rfl rfl (Nbl rfl) rfl (Ef [Ii6 a0.Req.Kind, Ii6 a0.Req.Seq, Ii6 a1.Code, Ii6 0, .b false, Znl, Znl] rfl rfl (Nbl rfl) rfl (Ef [Ii6 a0.Req.Kind, Ii6 a0.Req.Seq, Ii6 a1.Code, Ii6 a1.N, .b false, Znl, Znl] rfl rfl (Nbl rfl) rfl (Ef [Ii6 a0.Req.Kind, Ii6 a0.Req.Seq, Ii6 a1.Code, Ii6 a1.N, .b a1.Found, Znl, Znl] rfl rfl (Nbl rfl) rfl (Ef [Ii6 a0.Req.Kind, Ii6 a0.Req.Seq, Ii6 a1.Code, Ii6 a1.N, .b a1.Found, .sl a1.Val.length (a1.Val.flatMap eU8), Znl] rfl rfl (Nbl rfl) rfl (Ef [Ii6 a0.Req.Kind, Ii6 a0.Req.Seq, Ii6 a1.Code, Ii6 a1.N, .b a1.Found, .sl a1.Val.length (a1.Val.flatMap eU8), .sl a1.List.length (a1.List.flatMap Dw)] rfl rfl (Nbl rfl) rfl (.nil _))))))))) (Bz rfl Akr (Ax Anp rfl rfl rfl rfl (Nbl rfl) (Bs [.box (EL.el a0), .box (EL.el a1), .box (EL.el {a1 with Kind := a0.Req.Kind, Seq := a0.Req.Seq})] rfl (As (Aq (Ab (sv rfl (Ao Aa7 rfl (.lp _ _ _ rfl) (Nbl rfl)) ?_)))))))))))))))))))))))))))))))
 obtain ⟨v1, hv1, h⟩ := An h
 refine A2 rfl Auu (Ac rfl Al) (Aj rfl) (Ty hv1) (sv rfl (Gj rfl) (sv rfl (Bc rfl rfl) (sv rfl (Bc rfl rfl) (sv rfl (Ak rfl) (sv rfl (Ak rfl) (As (Aq (Ab (sv rfl (Ag rfl) ?_)))))))))
 obtain ⟨v2, hv2, h⟩ := An h
 refine A2 rfl At7 (Ac rfl (Ac rfl Al)) (Np rfl) (Q7 hv2) (sv rfl (Gj rfl) (sv rfl (Bc rfl rfl) (sv rfl (Bc rfl rfl) (sv rfl (Ak rfl) (sv rfl (Ak rfl) (As (Aq (Ab (sv rfl (Ag rfl) (sv rfl (Ak rfl) (As (Bj ?_))))))))))))
 obtain rfl := Option.some.inj h
 refine ⟨Or.inr rfl, _, _, _, (Ad (Bd.tmp _ _ rfl) Af), (Aj rfl), ?_⟩
 rfl
def Fu (a0 : Int) : Option Bool :=
 if (decide (a0 = 1)) then (some true) else (some (decide (a0 = 11)))
set_option maxRecDepth 100000 in
theorem I2 {a0 : Int} {r : Bool} (h : Fu a0 = some r) : Bp Tryz.prog 37 [.one (Ii6 a0)] (· = .s (.one (.b r))) := by
 unfold Fu at h
 refine A1 Tryz.func37 rfl (nt := 9) rfl (Nbl rfl) ?_
 intro w0 S0
 refine Aq (Ab (sv rfl (Ak rfl) (As (Aq (Ab (sv rfl (Ag rfl) (sv rfl (Bq rfl rfl) (sv rfl (Ag rfl) (Bo 5 rfl (fun hc => ?_) (fun hc => ?_))))))))))
 ·replace h := B2 hc h
  clear hc
  refine Av rfl rfl rfl rfl (Av rfl rfl rfl rfl (sv rfl (Au rfl rfl) (sv rfl (Ak rfl) (As (Bj ?_)))))
  obtain rfl := Option.some.inj h
  refine ⟨Or.inr rfl, _, _, _, (Ad (Bd.tmp _ _ rfl) Af), (Aj rfl), ?_⟩
  rfl
 ·replace h := B1 hc h
  clear hc
  refine son rfl rfl rfl (sv rfl (Ag rfl) (son rfl rfl rfl (sv rfl (Bq rfl rfl) (sv rfl (Am rfl rfl) (sv rfl (Ak rfl) (As (Bj ?_)))))))
  obtain rfl := Option.some.inj h
  refine ⟨Or.inr rfl, _, _, _, (Ad (Bd.tmp _ _ rfl) Af), (Aj rfl), ?_⟩
  rfl
def Nt (b1 : Int × (List (List UInt8))) : Option ((List (List UInt8)) × Int × Int) :=
 some (b1.2, b1.1, 0)
def J0 (a0 : List UInt8) (s2 : Int × (List (List UInt8))) : Option (LR (Int × (List (List UInt8))) (Int × (List (List UInt8))) ((List (List UInt8)) × Int × Int)) :=
 if (decide (s2.1 < (a0.length : Int))) then ((J7 a0 s2.1).bind fun v3 => if (!decide (v3.2.2 = 0)) then (some (.ret (s2.2, s2.1, v3.2.2))) else (if (s2.2.length + [v3.1].length) * 24 ≤ 140737488355328 then (some (.cont (v3.2.1, (s2.2 ++ [v3.1])))) else none)) else (some (.brk (s2.1, s2.2)))
def Mp (a0 : List UInt8) : Option ((List (List UInt8)) × Int × Int) :=
 (Qg (J0 a0) Di (0, ([] : List (List UInt8)))).bind fun x => match x with | .inl r => some r | .inr e5 => Nt e5
set_option maxRecDepth 100000 in
theorem Wk {a0 : List UInt8} {r : (List (List UInt8)) × Int × Int} (h : Mp a0 = some r) : Bp Tryz.prog 76 [.one (.sl a0.length (a0.flatMap eU8))] (· = .tup [.one (.sl r.1.length (r.1.flatMap (eL eU8))), .one (Ii6 r.2.1), .one (Ii6 r.2.2)]) := by
 unfold Mp at h
 refine A1 Tryz.func76 rfl (nt := 33) rfl (Nbl rfl) ?_
 intro w0 S0
 refine Aq (Ab (sv rfl (Ak rfl) (sv rfl (Ak rfl) (sv rfl (Ak rfl) (As (Aq (Ab (sv rfl (Ak rfl) (As (Aq (Ab (sv rfl (Ak rfl) (As (Aq ?_))))))))))))))
 refine O2 33 1 5 (by decide) rfl ?_
 refine G5 (Int × (List (List UInt8))) (fun b1 => [(5, .s (.one (.ls 0 b1.2.length))), (6, .s (.one (Ii6 b1.1)))]) (fun b1 => [.arr 33 1 0 (b1.2.flatMap (eL eU8))]) (fun b1 => Nt b1 = some r) (fun _ _ => Be rfl) (fun _ _ => A0 rfl) (fun _ _ => Nat.le_of_ble_eq_true rfl) (fun b1 h => ?_) ?_
 ·unfold Nt at h
  refine Aq (Ab (sv rfl (Ag rfl) (sv rfl (Ag rfl) (sv rfl (Ak rfl) (sv rfl (Ak rfl) (sv rfl (Ak rfl) (As (Bj ?_))))))))
  obtain rfl := Option.some.inj h
  refine ⟨Or.inr rfl, _, _, _, (Ad (Bd.tmp _ _ rfl) (Ad (Bd.tmp _ _ rfl) (Ad (Bd.tmp _ _ rfl) Af))), (by (repeat' first | exact J5.nil _ | apply J5.cons | apply Jz.one | apply Jz.agg | exact E6.nil | exact E6.ls _ _ _ _ _ _ rfl (Bg (f := (eL eU8)) (fun _ => rfl) _).symm | exact E6.id _ rfl | exact D1.nil _ | apply D1.cons)), ?_⟩
  rfl
 ·skip
  refine B7 ?_
  obtain ⟨x2, hx2, ho2⟩ := An h
  refine Da (G := Nat × (Int × (List (List UInt8)))) (fun g => [(0, .s (.one (.sl a0.length (a0.flatMap eU8)))), (5, .s (.one (.ls 0 g.2.2.length))), (6, .s (.one (Ii6 g.2.1)))]) (fun g => [.arr 33 1 0 (g.2.2.flatMap (eL eU8))]) (fun g => Qg (J0 a0) g.1 g.2 = some x2) (fun g => g.1) (Di, (0, ([] : List (List UInt8)))) hx2 ⟨rfl, rfl, rfl, trivial⟩ [] rfl (fun _ _ => Be rfl) (fun _ _ => A0 rfl) (fun _ _ => Nat.le_of_ble_eq_true rfl) ?_
  clear hx2 h
  rintro ⟨n2, s2⟩ h
  obtain ⟨n2, y2, rfl, h, hk2⟩ := Oc h
  unfold J0 at h
  refine Aq (Aq (Ab (sv rfl (Ag rfl) (sv rfl (Ag rfl) (sv rfl (Az Lh rfl) (sv rfl (Cp rfl rfl) (As (ccI h rfl (fun h => ?_) (fun h => ?_)))))))))
  ·refine Bl (Ai (B7 (Aq (Ab (sv rfl (Ag rfl) (sv rfl (Ag rfl) ?_))))))
   obtain ⟨v3, hv3, h⟩ := An h
   refine A2 rfl Auf (Ac rfl (Ac rfl Al)) (Aj rfl) (P0 hv3) (sv rfl (Gj rfl) (sv rfl (Bc rfl rfl) (sv rfl (Bc rfl rfl) (sv rfl (Bc rfl rfl) (sv rfl (Ak rfl) (sv rfl (Ak rfl) (sv rfl (Ak rfl) (As (Aq (Aq (Ab (sv rfl (Ag rfl) (sv rfl (Cd rfl rfl) (As (ccI h rfl (fun h => ?_) (fun h => ?_))))))))))))))))
   ·refine Aq (Ab (sv rfl (Ag rfl) (sv rfl (Ag rfl) (sv rfl (Ag rfl) (sv rfl (Ak rfl) (sv rfl (Ak rfl) (sv rfl (Ak rfl) (As (Bj (Ar (A9 (Ar (A9 (Ar ?_))))))))))))))
    obtain rfl := Option.some.inj h
    obtain rfl : Sum.inl _ = x2 := hk2
    replace ho2 : some _ = some _ := ho2
    obtain rfl := Option.some.inj ho2
    refine ⟨Or.inr rfl, _, _, _, (Ad (Bd.tmp _ _ rfl) (Ad (Bd.tmp _ _ rfl) (Ad (Bd.tmp _ _ rfl) Af))), (by (repeat' first | exact J5.nil _ | apply J5.cons | apply Jz.one | apply Jz.agg | exact E6.nil | exact E6.ls _ _ _ _ _ _ rfl (Bg (f := (eL eU8)) (fun _ => rfl) _).symm | exact E6.id _ rfl | exact D1.nil _ | apply D1.cons)), ?_⟩
    rfl
   ·refine Bl (Ai (Aq (Ab (sv rfl (Ag rfl) (sv rfl (Ag rfl) ?_)))))
    refine Qw rfl Tryz.underlying124 Anw rfl rfl (List.all_eq_true.1 rfl) (by decide) ?_
    refine Bs [.arr 33 1 0 (s2.2.flatMap (eL eU8)), .arr 33 1 0 ([v3.1].flatMap (eL eU8))] rfl ?_
    obtain ⟨hb4, h⟩ := D9 h
    refine Ahz (f := (eL eU8)) (xs := s2.2) (us := [v3.1]) rfl Tryz.underlying124 Anw Asp (fun _ => rfl) rfl rfl (.one _ _ _ _ (.ls _ _ _ _ _ _ rfl (Bg (f := (eL eU8)) (fun _ => rfl) [v3.1]).symm)) rfl rfl rfl (.sl _ _ _ (Bg (f := (eL eU8)) (fun _ => rfl) _)) rfl rfl hb4 (by decide) ?_
    refine sv rfl (Ak rfl) (As (Ab (sv rfl (Ag rfl) (sv rfl (Ak rfl) (Lz (A4 (Ai ?_)))))))
    obtain rfl := Option.some.inj h
    exact ⟨(n2, (v3.2.1, (s2.2 ++ [v3.1]))), _, hk2, ⟨rfl, rfl, rfl, trivial⟩, rfl, Nat.lt_succ_self _⟩
  ·refine Lj (Bi (Bi (Ck (Ai ?_))))
   obtain rfl := Option.some.inj h
   obtain rfl : _ = x2 := hk2
   exact ⟨(s2.1, s2.2), _, ho2, ⟨rfl, rfl, trivial⟩, rfl⟩
def Ko (a0 : List UInt8) (a1 : Int) : Option (List UInt8) :=
 (cut a0 a1 (a0.length : Int)).bind fun c1 => if (a0.length : Int) ≤ (a0.length : Int) ∧ (a0.length : Int) ≤ (a0.length : Int) then (if (0 : Int) ≤ (c1.length : Int) ∧ (c1.length : Int) ≤ (c1.length : Int) ∧ ((1 : Nat) : Int) * (c1.length : Int) ≤ 281474976710656 then ((cut (c1.take (List.replicate (c1.length : Int).toNat (0 : UInt8)).length ++ (List.replicate (c1.length : Int).toNat (0 : UInt8)).drop c1.length) 0 ((Nat.min c1.length (List.replicate (c1.length : Int).toNat (0 : UInt8)).length : Nat) : Int)).bind fun c4 => if ((Nat.min c1.length (List.replicate (c1.length : Int).toNat (0 : UInt8)).length : Nat) : Int) ≤ ((Nat.min c1.length (List.replicate (c1.length : Int).toNat (0 : UInt8)).length : Nat) : Int) ∧ ((Nat.min c1.length (List.replicate (c1.length : Int).toNat (0 : UInt8)).length : Nat) : Int) ≤ ((c1.take (List.replicate (c1.length : Int).toNat (0 : UInt8)).length ++ (List.replicate (c1.length : Int).toNat (0 : UInt8)).drop c1.length).length : Int) then (some c4) else none) else none) else none
set_option maxRecDepth 100000 in
theorem Up {a0 : List UInt8} {a1 : Int} {r : (List UInt8)} (h : Ko a0 a1 = some r) : Bp Tryz.prog 77 [.one (.sl a0.length (a0.flatMap eU8)), .one (Ii6 a1)] (· = .s (.one (.sl r.length (r.flatMap eU8)))) := by
 unfold Ko at h
 refine A1 Tryz.func77 rfl (nt := 25) rfl (Nbl rfl) ?_
 intro w0 S0
 refine Aq (Ab (sv rfl (Ak rfl) (As (Aq (Ab (sv rfl (Ag rfl) (sv rfl (Ag rfl) (sv rfl (Ag rfl) (sv rfl (Az Lh rfl) (sv rfl (Ag rfl) (sv rfl (Az Lh rfl) ?_)))))))))))
 obtain ⟨c1, hc1, h⟩ := An h
 obtain ⟨hs2, h⟩ := D9 h
 refine sv rfl (Ac0 (f := eU8) (lo := a1) (hi := (a0.length : Int)) (mx := (a0.length : Int)) Lh (fun _ => rfl) rfl rfl rfl (Hn rfl (Ks hc1).1.1) (Hn rfl (Int.le_trans (Ks hc1).1.1 (Ks hc1).1.2.1)) (Hn rfl (Int.le_trans (Int.le_trans (Ks hc1).1.1 (Ks hc1).1.2.1) hs2.1)) hc1 hs2) ?_
 refine sv rfl (Ak rfl) (As (Aq (Ab (sv rfl (Ag rfl) (sv rfl (Az Lh rfl) ?_)))))
 obtain ⟨hm3, h⟩ := D9 h
 refine smk (f := eU8) (z := (0 : UInt8)) rfl Tryz.underlying33 ei5 (fun _ => rfl) rfl rfl rfl hm3 (by decide) ?_
 refine sv rfl (Ak rfl) (As (Aq (Ab (sv rfl (Ag rfl) (sv rfl (Ag rfl) ?_)))))
 refine Ari (f := eU8) (xs := (List.replicate (c1.length : Int).toNat (0 : UInt8))) (us := c1) rfl Tryz.underlying33 (by kernel_rfl) (fun _ => rfl) rfl rfl rfl rfl rfl rfl rfl ?_
 refine Va 17 (y := .s (.one (.ls 0 (List.replicate (c1.length : Int).toNat (0 : UInt8)).length))) (.s (.one (.ls 0 (c1.take (List.replicate (c1.length : Int).toNat (0 : UInt8)).length ++ (List.replicate (c1.length : Int).toNat (0 : UInt8)).drop c1.length).length))) rfl (congrArg (fun n => AV.s (.one (.ls 0 n))) (Ye _ _)) ?_
 refine Va 6 (y := .s (.one (.ls 0 (List.replicate (c1.length : Int).toNat (0 : UInt8)).length))) (.s (.one (.ls 0 (c1.take (List.replicate (c1.length : Int).toNat (0 : UInt8)).length ++ (List.replicate (c1.length : Int).toNat (0 : UInt8)).drop c1.length).length))) rfl (congrArg (fun n => AV.s (.one (.ls 0 n))) (Ye _ _)) ?_
 refine Va 18 (y := .s (.one (.ls 0 (List.replicate (c1.length : Int).toNat (0 : UInt8)).length))) (.s (.one (.ls 0 (c1.take (List.replicate (c1.length : Int).toNat (0 : UInt8)).length ++ (List.replicate (c1.length : Int).toNat (0 : UInt8)).drop c1.length).length))) rfl (congrArg (fun n => AV.s (.one (.ls 0 n))) (Ye _ _)) ?_
 refine sv rfl (Ak rfl) (As (Aq (Ab (sv rfl (Ag rfl) (sv rfl (Ag rfl) (sv rfl (Ag rfl) ?_))))))
 refine Aai 21 rfl (by (repeat' first | exact J5.nil _ | apply J5.cons | apply Jz.one | apply Jz.agg | exact E6.nil | exact E6.ls _ _ _ _ _ _ rfl (Bg (f := eU8) (fun _ => rfl) _).symm | exact E6.id _ rfl | exact D1.nil _ | apply D1.cons)) ?_
 obtain ⟨c4, hc4, h⟩ := An h
 obtain ⟨hs5, h⟩ := D9 h
 refine sv rfl (Ac0 (f := eU8) (lo := 0) (hi := ((Nat.min c1.length (List.replicate (c1.length : Int).toNat (0 : UInt8)).length : Nat) : Int)) (mx := ((Nat.min c1.length (List.replicate (c1.length : Int).toNat (0 : UInt8)).length : Nat) : Int)) Lh (fun _ => rfl) rfl rfl rfl Rm (Hn rfl (Int.le_trans (Ks hc4).1.1 (Ks hc4).1.2.1)) (Hn rfl (Int.le_trans (Int.le_trans (Ks hc4).1.1 (Ks hc4).1.2.1) hs5.1)) hc4 hs5) ?_
 refine sv rfl (Ak rfl) (As (Bj ?_))
 obtain rfl := Option.some.inj h
 refine ⟨Or.inr rfl, _, _, _, (Ad (Bd.tmp _ _ rfl) Af), (Aj rfl), ?_⟩
 rfl
def D7 (a0 : Bm) (a1 : List UInt8) : Option (Bm × (List (List UInt8)) × Int) :=
 (G1 a0).bind fun v1 => if (!v1) then (some ((Bm.mk ([] : List UInt8) 0), ([] : List (List UInt8)), 1)) else (if (!decide (a0.Dead = 0)) then (some (a0, ([] : List (List UInt8)), 13)) else ((Eo [a0.Buf, a1]).bind fun v2 => (Mp v2).bind fun v3 => (Hr v3.2.2).bind fun v4 => if v4 then (some ((Bm.mk ([] : List UInt8) v3.2.2), v3.1, v3.2.2)) else ((Ko v2 v3.2.1).bind fun v5 => some ((Bm.mk v5 0), v3.1, 0))))
set_option maxRecDepth 100000 in
theorem Um {a0 : Bm} {a1 : List UInt8} {r : Bm × (List (List UInt8)) × Int} (h : D7 a0 a1 = some r) : Bp Tryz.prog 45 [.agg (EL.el a0), .one (.sl a1.length (a1.flatMap eU8))] (· = .tup [.agg (EL.el r.1), .one (.sl r.2.1.length (r.2.1.flatMap (eL eU8))), .one (Ii6 r.2.2)]) := by
 unfold D7 at h
 refine A1 Tryz.func45 rfl (nt := 41) rfl (Nbl rfl) ?_
 intro w0 S0
 refine Aq (Ab (Jd rfl rfl (Bz rfl Anx (sv rfl (Ak rfl) (sv rfl (Ak rfl) (As (Aq (Aq (Ab (sv rfl (Ao Ah2 rfl (.lp _ _ _ rfl) (Nbl rfl)) ?_))))))))))
 obtain ⟨v1, hv1, h⟩ := An h
 refine A2 rfl Ar8 (Ac rfl Al) (Aj rfl) (M4 hv1) (sv rfl (B9 rfl) (As (ccI h rfl (fun h => ?_) (fun h => ?_))))
 ·refine Aq (Ab (sv rfl (Bk Anx Aqt Ba (.nil _)) (Ax Ank rfl rfl rfl rfl (Nbl rfl) (Bs [.box (EL.el a0), .box [Znl, Ii6 0]] rfl (sv rfl (Ak rfl) (sv rfl (Ak rfl) (As (Bj (Ar ?_)))))))))
  obtain rfl := Option.some.inj h
  refine ⟨Or.inr rfl, _, _, _, (Ad (Bd.agg _ _ _ _ _ Ah2 rfl (.lp _ _ _ rfl) (Nbl rfl)) (Ad (Bd.tmp _ _ rfl) (Ad (Bd.tmp _ _ rfl) Af))), (Np rfl), ?_⟩
  rfl
 ·refine Bl (Ai (Aq (Aq (Ab (sv rfl (Aa Aff rfl) (sv rfl (Ae Aa1 rfl (.lp _ _ _ rfl) rfl) (sv rfl (Cd rfl rfl) (As (ccI h rfl (fun h => ?_) (fun h => ?_))))))))))
  ·refine Aq (Ab (sv rfl (Ao Ah2 rfl (.lp _ _ _ rfl) (Nbl rfl)) (Ax Ank rfl rfl rfl rfl (Nbl rfl) (Bs [.box (EL.el a0), .box (EL.el a0)] rfl (sv rfl (Ak rfl) (sv rfl (Ak rfl) (As (Bj (Ar ?_)))))))))
   obtain rfl := Option.some.inj h
   refine ⟨Or.inr rfl, _, _, _, (Ad (Bd.agg _ _ _ _ _ Ah2 rfl (.lp _ _ _ rfl) (Nbl rfl)) (Ad (Bd.tmp _ _ rfl) (Ad (Bd.tmp _ _ rfl) Af))), (Np rfl), ?_⟩
   rfl
  ·refine Bl (Ai (Aq (Ab (sv rfl (Aa Adi rfl) (sv rfl (Ae L4 rfl (.lp _ _ _ rfl) rfl) (sv rfl (Ag rfl) ?_))))))
   refine S8 (out := ([a0.Buf, a1] : List (List UInt8)).flatMap (eL eU8)) rfl Tryz.underlying124 Anw (Ap rfl (Ap rfl Ba)) (.cons _ _ _ _ _ _ _ rfl rfl (Nbl rfl) (.cons _ _ _ _ _ _ _ rfl rfl (Nbl rfl) (.nil _))) rfl (by decide) ?_
   refine Aai 22 rfl (by (repeat' first | exact J5.nil _ | apply J5.cons | apply Jz.one | apply Jz.agg | exact E6.nil | exact E6.ls _ _ _ _ _ _ rfl (Bg (f := (eL eU8)) (fun _ => rfl) ([a0.Buf, a1] : List (List UInt8))).symm | exact E6.ls _ _ _ _ _ _ rfl (Bg (f := (eL eU8)) (fun _ => rfl) _).symm | exact E6.id _ rfl | exact D1.nil _ | apply D1.cons)) ?_
   obtain ⟨v2, hv2, h⟩ := An h
   refine C2 (x' := .s (.one (.ls 3 v2.length))) (M' := [.box (EL.el a0), .box [Znl, Ii6 0], .arr 33 1 ([a0.Buf, a1].flatMap (eL eU8)).length ([a0.Buf, a1].flatMap (eL eU8)), .arr 5 1 0 (v2.flatMap eU8)]) [] rfl Aqn (.func _) (Ac rfl Al) (Iv hv2) rfl rfl (by decide) rfl rfl rfl ?_
   refine sv rfl (Ak rfl) (As (Aq (Ab (sv rfl (Ag rfl) ?_))))
   refine Aai 25 rfl (by (repeat' first | exact J5.nil _ | apply J5.cons | apply Jz.one | apply Jz.agg | exact E6.nil | exact E6.ls _ _ _ _ _ _ rfl (Bg (f := (eL eU8)) (fun _ => rfl) _).symm | exact E6.ls _ _ _ _ _ _ rfl (Bg (f := eU8) (fun _ => rfl) _).symm | exact E6.id _ rfl | exact D1.nil _ | apply D1.cons)) ?_
   obtain ⟨v3, hv3, h⟩ := An h
   refine A2 rfl Au4 (Ac rfl Al) (Aj rfl) (Wk hv3) (sv rfl (Gj rfl) (sv rfl (Bc rfl rfl) (sv rfl (Bc rfl rfl) (sv rfl (Bc rfl rfl) (sv rfl (Ak rfl) (sv rfl (Ak rfl) (sv rfl (Ak rfl) (As (Aq (Aq (Ab (sv rfl (Ag rfl) ?_))))))))))))
   obtain ⟨v4, hv4, h⟩ := An h
   refine A2 rfl Auc (Ac rfl Al) (Aj rfl) (Of hv4) (As (ccI h rfl (fun h => ?_) (fun h => ?_)))
   ·refine Aq (Ab (sv rfl (Ag rfl) (sv rfl (Bk Anx Aqt (Ap rfl Ba) (.cons _ _ _ _ _ _ _ rfl rfl (Nbl rfl) (.nil _))) (sv rfl (Ag rfl) (sv rfl (Ag rfl) (Ax Ank rfl rfl rfl rfl (Nbl rfl) (Bs [.box (EL.el a0), .box [Znl, Ii6 v3.2.2], .arr 33 1 ([a0.Buf, a1].flatMap (eL eU8)).length ([a0.Buf, a1].flatMap (eL eU8)), .arr 5 1 (v2.flatMap eU8).length (v2.flatMap eU8)] rfl (sv rfl (Ak rfl) (sv rfl (Ak rfl) (As (Bj (Ar ?_))))))))))))
    obtain rfl := Option.some.inj h
    refine ⟨Or.inr rfl, _, _, _, (Ad (Bd.agg _ _ _ _ _ Ah2 rfl (.lp _ _ _ rfl) (Nbl rfl)) (Ad (Bd.tmp _ _ rfl) (Ad (Bd.tmp _ _ rfl) Af))), (Np rfl), ?_⟩
    rfl
   ·refine Bl (Ai (Aq (Ab (sv rfl (Ag rfl) (sv rfl (Ag rfl) ?_)))))
    refine Aai 36 rfl (by (repeat' first | exact J5.nil _ | apply J5.cons | apply Jz.one | apply Jz.agg | exact E6.nil | exact E6.ls _ _ _ _ _ _ rfl (Bg (f := (eL eU8)) (fun _ => rfl) _).symm | exact E6.ls _ _ _ _ _ _ rfl (Bg (f := eU8) (fun _ => rfl) _).symm | exact E6.id _ rfl | exact D1.nil _ | apply D1.cons)) ?_
    obtain ⟨v5, hv5, h⟩ := An h
    refine A2 rfl Au3 (Ac rfl (Ac rfl Al)) (Aj rfl) (Up hv5) (sv rfl (Bk Anx Aqt (Ap rfl Ba) (.cons _ _ _ _ _ _ _ rfl rfl (Nbl rfl) (.nil _))) (sv rfl (Ag rfl) (Ax Ank rfl rfl rfl rfl (Nbl rfl) (Bs [.box (EL.el a0), .box [.sl v5.length (v5.flatMap eU8), Ii6 0], .arr 33 1 ([a0.Buf, a1].flatMap (eL eU8)).length ([a0.Buf, a1].flatMap (eL eU8)), .arr 5 1 (v2.flatMap eU8).length (v2.flatMap eU8)] rfl (sv rfl (Ak rfl) (sv rfl (Ak rfl) (As (Bj ?_))))))))
    obtain rfl := Option.some.inj h
    refine ⟨Or.inr rfl, _, _, _, (Ad (Bd.agg _ _ _ _ _ Ah2 rfl (.lp _ _ _ rfl) (Nbl rfl)) (Ad (Bd.tmp _ _ rfl) (Ad (Bd.tmp _ _ rfl) Af))), (Aj rfl), ?_⟩
    rfl
def Fs (v1 : (BitVec 64) × Int × Int) (b2 : Int) : Option (Bool × Int × Int) :=
 some ((decide ((v1.1.toNat : Int) = (1 : Int))), b2, v1.2.2)
def Fy (a0 : Int) (a1 : Int) (a2 : List UInt8) : Option (Bool × Int × Int) :=
 (A3 1 a0 a1 a2).bind fun v1 => if (decide ((1 : Int) < (v1.1.toNat : Int))) then ((Bw 3 v1.2.1 v1.2.2 a2).bind fun v3 => Fs v1 v3) else (Fs v1 v1.2.1)
set_option maxRecDepth 100000 in
theorem Qe {a0 : Int} {a1 : Int} {a2 : List UInt8} {r : Bool × Int × Int} (h : Fy a0 a1 a2 = some r) : G2 Tryz.prog 95 [.box [.fn 112 [] [.lp 1 0, .lp 2 0], Ii6 a0], .box [Ii6 a1], .box [.sl a2.length (a2.flatMap eU8)]] [.one (.lp 0 0)] (fun y m' => y = .s (.one (.b r.1)) ∧ m' = [.box [.fn 112 [] [.lp 1 0, .lp 2 0], Ii6 r.2.1], .box [Ii6 r.2.2], .box [.sl a2.length (a2.flatMap eU8)]]) := by
 unfold Fy at h
 refine Cv Tryz.func95 rfl (nt := 12) rfl (Nbl rfl) ?_
 intro w0 S0 X0 H0
 refine Aq (Ab (sv rfl (Ak rfl) (As (Aq (Ab (sv rfl (Ag rfl) ?_))))))
 obtain ⟨v1, hv1, h⟩ := An h
 refine C2 (x' := .s (.one (.i .u64 (v1.1.toNat : Int)))) (M' := [.box [.fn 112 [] [.lp 1 0, .lp 2 0], Ii6 v1.2.1], .box [Ii6 v1.2.2], .box [.sl a2.length (a2.flatMap eU8)]]) [0, 1, 2] rfl Ah5 (.func _) (Ac rfl (Ac rfl Al)) (Cz hv1) rfl rfl (by decide) rfl rfl rfl ?_
 refine sv rfl (Ak rfl) (As (Aq (Aq (Ab (sv rfl (Ag rfl) (sv rfl (C6 rfl rfl) (As (G5 (Int) (fun b2 => [(3, .s (.one (.i .u64 (v1.1.toNat : Int))))]) (fun b2 => [.box [.fn 112 [] [.lp 1 0, .lp 2 0], Ii6 b2], .box [Ii6 v1.2.2], .box [.sl a2.length (a2.flatMap eU8)]]) (fun b2 => Fs v1 b2 = some r) (fun _ _ => Be rfl) (fun _ _ => A0 rfl) (fun _ _ => Nat.le_of_ble_eq_true rfl) (fun b2 h => ?_) ?_))))))))
 ·unfold Fs at h
  refine Aq (Ab (sv rfl (Ag rfl) (sv rfl (Bq rfl rfl) (sv rfl (Ak rfl) (As (Bj ?_))))))
  obtain rfl := Option.some.inj h
  exact ⟨Or.inr rfl, _, [0, 1, 2], [.one (.b (decide ((v1.1.toNat : Int) = (1 : Int))))], [.box [.fn 112 [] [.lp 1 0, .lp 2 0], Ii6 b2], .box [Ii6 v1.2.2], .box [.sl a2.length (a2.flatMap eU8)]], (Ad (Bd.tmp _ _ rfl) Af), rfl, rfl, ⟨by decide, rfl⟩, rfl, rfl, ⟨rfl, rfl⟩⟩
 ·skip
  refine ccI h rfl (fun h => ?_) (fun h => ?_)
  ·refine Ab (sv rfl (Ag rfl) ?_)
   obtain ⟨v3, hv3, h⟩ := An h
   refine C2 (x' := .tup []) (M' := [.box [.fn 112 [] [.lp 1 0, .lp 2 0], Ii6 v3], .box [Ii6 v1.2.2], .box [.sl a2.length (a2.flatMap eU8)]]) [0, 1, 2] rfl Amu (.func _) (Ac rfl (Ac rfl Al)) (Dx hv3) rfl rfl (by decide) rfl rfl rfl ?_
   refine As ?_
   exact ⟨v3, _, h, ⟨rfl, trivial⟩, rfl⟩
  ·refine Bl (Ai ?_)
   exact ⟨v1.2.1, _, h, ⟨rfl, trivial⟩, rfl⟩
def Hq (a0 : List UInt8) : Option (List UInt8) :=
 if (([] : List UInt8).length + a0.length) * 1 ≤ 140737488355328 then (some (([] : List UInt8) ++ a0)) else none
set_option maxRecDepth 100000 in
theorem S6 {a0 : List UInt8} {r : (List UInt8)} (h : Hq a0 = some r) : G2 Tryz.prog 85 [] [.one (.sl a0.length (a0.flatMap eU8))] (fun y m' => y = .s (.one (.ls 0 r.length)) ∧ m' = [.arr 5 1 0 (r.flatMap eU8)]) := by
 unfold Hq at h
 refine Cv Tryz.func85 rfl (nt := 8) rfl (Nbl rfl) ?_
 intro w0 S0 X0 H0
 refine Aq (Ab (sv rfl (Ak rfl) (As (Aq (Aq (Ab (sv rfl (Ag rfl) (Amb rfl Tryz.underlying33 rfl (fun nq hnq => ?_)))))))))
 cases nq
 ·skip
  refine As (G0 rfl (fun hx => Bool.noConfusion hx) (fun _ => ?_))
  refine Bl (Ai (Aq (Ab (Abk rfl Tryz.underlying33 ei5 (sv rfl (Ag rfl) ?_)))))
  obtain ⟨hb1, h⟩ := D9 h
  refine Ahz (f := eU8) (xs := ([] : List UInt8)) (us := a0) rfl Tryz.underlying33 ei5 Asf (fun _ => rfl) rfl rfl (.one _ _ _ _ (.id _ rfl)) rfl rfl rfl (.sl _ _ _ (Bg (f := eU8) (fun _ => rfl) _)) rfl rfl hb1 (by decide) ?_
  refine sv rfl (Ak rfl) (As (Bj ?_))
  obtain rfl := Option.some.inj h
  exact ⟨Or.inr rfl, _, [0], [.one (.ls 0 (([] : List UInt8) ++ a0).length)], [.arr 5 1 0 ((([] : List UInt8) ++ a0).flatMap eU8)], (Ad (Bd.tmp _ _ rfl) Af), rfl, rfl, ⟨by decide, rfl⟩, rfl, rfl, ⟨rfl, rfl⟩⟩
 ·obtain rfl := List.eq_nil_of_length_eq_zero (hnq rfl)
  replace h : (some ([] : List UInt8)) = some r := by first | exact h | (rw [if_pos (by decide)] at h; exact h)
  refine As (G0 rfl (fun _ => ?_) (fun hx => Bool.noConfusion hx))
  refine Aq (Ab (sv rfl (Ak rfl) (As ?_)))
  refine O2 5 1 2 (by decide) rfl ?_
  refine Bj (Ar ?_)
  obtain rfl := Option.some.inj h
  exact ⟨Or.inr rfl, _, [0], [.one (.ls 0 ([] : List UInt8).length)], [.arr 5 1 0 (([] : List UInt8).flatMap eU8)], (Ad (Bd.tmp _ _ rfl) Af), rfl, rfl, ⟨by decide, rfl⟩, rfl, rfl, ⟨rfl, rfl⟩⟩
def Cs (a0 : Int) (a1 : Int) (a2 : Int) (a3 : List UInt8) : Option ((List UInt8) × Int × Int) :=
 (A3 2 a1 a2 a3).bind fun v1 => (Br v1.2.1 v1.2.2 a3).bind fun v2 => if (!decide (v2 = 0)) then (some (([] : List UInt8), v1.2.1, v1.2.2)) else (if (decide (a0 < (wI (v1.1.toNat : Int)))) then ((Bw 5 v1.2.1 v1.2.2 a3).bind fun v3 => some (([] : List UInt8), v3, v1.2.2)) else ((Cm (wI (v1.1.toNat : Int)) v1.2.1 v1.2.2 a3).bind fun v4 => (Hq v4.1).bind fun v5 => some (v5, v4.2.1, v4.2.2)))
set_option maxRecDepth 100000 in
theorem Ka {a0 : Int} {a1 : Int} {a2 : Int} {a3 : List UInt8} {r : (List UInt8) × Int × Int} (h : Cs a0 a1 a2 a3 = some r) : G2 Tryz.prog 96 [.box [.fn 112 [] [.lp 1 0, .lp 2 0], Ii6 a1], .box [Ii6 a2], .box [.sl a3.length (a3.flatMap eU8)]] [.one (.lp 0 0), .one (Ii6 a0)] (fun y m' => y = .s (.one (.sl r.1.length (r.1.flatMap eU8))) ∧ m' = [.box [.fn 112 [] [.lp 1 0, .lp 2 0], Ii6 r.2.1], .box [Ii6 r.2.2], .box [.sl a3.length (a3.flatMap eU8)]]) := by
 unfold Cs at h
 refine Cv Tryz.func96 rfl (nt := 21) rfl (Nbl rfl) ?_
 intro w0 S0 X0 H0
 refine Aq (Ab (sv rfl (Ak rfl) (As (Aq (Ab (sv rfl (Ag rfl) ?_))))))
 obtain ⟨v1, hv1, h⟩ := An h
 refine C2 (x' := .s (.one (.i .u64 (v1.1.toNat : Int)))) (M' := [.box [.fn 112 [] [.lp 1 0, .lp 2 0], Ii6 v1.2.1], .box [Ii6 v1.2.2], .box [.sl a3.length (a3.flatMap eU8)]]) [0, 1, 2] rfl Ah5 (.func _) (Ac rfl (Ac rfl Al)) (Cz hv1) rfl rfl (by decide) rfl rfl rfl ?_
 refine sv rfl (F0 Tryz.underlying112 Tryz.underlying3 rfl) (sv rfl (Ak rfl) (As (Aq (Aq (Ab (sv rfl (Ag rfl) ?_))))))
 obtain ⟨v2, hv2, h⟩ := An h
 refine C2 (x' := .s (.one (Ii6 v2))) (M' := [.box [.fn 112 [] [.lp 1 0, .lp 2 0], Ii6 v1.2.1], .box [Ii6 v1.2.2], .box [.sl a3.length (a3.flatMap eU8)]]) [0, 1, 2] rfl Aij (.func _) (Ac rfl Al) (H2 hv2) rfl rfl (by decide) rfl rfl rfl ?_
 refine sv rfl (Cd rfl rfl) (As (ccI h rfl (fun h => ?_) (fun h => ?_)))
 ·refine Aq (Ab (sv rfl (Ak rfl) (As ?_)))
  refine Anz 4 rfl (by (repeat' first | exact J5.nil _ | apply J5.cons | apply Jz.one | apply Jz.agg | exact E6.nil | exact E6.id _ rfl | exact D1.nil _ | apply D1.cons)) ?_
  refine Bj (Ar ?_)
  obtain rfl := Option.some.inj h
  exact ⟨Or.inr rfl, _, [0, 1, 2], [.one (.sl ([] : List UInt8).length (([] : List UInt8).flatMap eU8))], [.box [.fn 112 [] [.lp 1 0, .lp 2 0], Ii6 v1.2.1], .box [Ii6 v1.2.2], .box [.sl a3.length (a3.flatMap eU8)]], (Ad (Bd.tmp _ _ rfl) Af), rfl, rfl, ⟨by decide, rfl⟩, rfl, rfl, ⟨rfl, rfl⟩⟩
 ·refine Bl (Ai (Aq (Aq (Ab (sv rfl (Ag rfl) (sv rfl (Ag rfl) (sv rfl (C6 rfl rfl) (As (ccI h rfl (fun h => ?_) (fun h => ?_))))))))))
  ·refine Aq (Ab (sv rfl (Ag rfl) ?_))
   obtain ⟨v3, hv3, h⟩ := An h
   refine C2 (x' := .tup []) (M' := [.box [.fn 112 [] [.lp 1 0, .lp 2 0], Ii6 v3], .box [Ii6 v1.2.2], .box [.sl a3.length (a3.flatMap eU8)]]) [0, 1, 2] rfl Amu (.func _) (Ac rfl (Ac rfl Al)) (Dx hv3) rfl rfl (by decide) rfl rfl rfl ?_
   refine As (Aq (Ab (sv rfl (Ak rfl) (As ?_))))
   refine Anz 4 rfl (by (repeat' first | exact J5.nil _ | apply J5.cons | apply Jz.one | apply Jz.agg | exact E6.nil | exact E6.id _ rfl | exact D1.nil _ | apply D1.cons)) ?_
   refine Bj (Ar ?_)
   obtain rfl := Option.some.inj h
   exact ⟨Or.inr rfl, _, [0, 1, 2], [.one (.sl ([] : List UInt8).length (([] : List UInt8).flatMap eU8))], [.box [.fn 112 [] [.lp 1 0, .lp 2 0], Ii6 v3], .box [Ii6 v1.2.2], .box [.sl a3.length (a3.flatMap eU8)]], (Ad (Bd.tmp _ _ rfl) Af), rfl, rfl, ⟨by decide, rfl⟩, rfl, rfl, ⟨rfl, rfl⟩⟩
  ·refine Bl (Ai (Aq (Ab (sv rfl (Ag rfl) (sv rfl (Ag rfl) ?_)))))
   obtain ⟨v4, hv4, h⟩ := An h
   refine C2 (x' := .s (.one (.sl v4.1.length (v4.1.flatMap eU8)))) (M' := [.box [.fn 112 [] [.lp 1 0, .lp 2 0], Ii6 v4.2.1], .box [Ii6 v4.2.2], .box [.sl a3.length (a3.flatMap eU8)]]) [0, 1, 2] rfl An8 (.func _) (Ac rfl (Ac rfl Al)) (Mr hv4) rfl rfl (by decide) rfl rfl rfl ?_
   obtain ⟨v5, hv5, h⟩ := An h
   refine C2 (x' := .s (.one (.ls 3 v5.length))) (M' := [.box [.fn 112 [] [.lp 1 0, .lp 2 0], Ii6 v4.2.1], .box [Ii6 v4.2.2], .box [.sl a3.length (a3.flatMap eU8)], .arr 5 1 0 (v5.flatMap eU8)]) [] rfl At9 (.func _) (Ac rfl Al) (S6 hv5) rfl rfl (by decide) rfl rfl rfl ?_
   refine sv rfl (Ak rfl) (As ?_)
   refine Anz 4 rfl (by (repeat' first | exact J5.nil _ | apply J5.cons | apply Jz.one | apply Jz.agg | exact E6.nil | exact E6.ls _ _ _ _ _ _ rfl (Bg (f := eU8) (fun _ => rfl) _).symm | exact E6.id _ rfl | exact D1.nil _ | apply D1.cons)) ?_
   refine Bj ?_
   obtain rfl := Option.some.inj h
   exact ⟨Or.inr rfl, _, [0, 1, 2], [.one (.sl v5.length (v5.flatMap eU8))], [.box [.fn 112 [] [.lp 1 0, .lp 2 0], Ii6 v4.2.1], .box [Ii6 v4.2.2], .box [.sl a3.length (a3.flatMap eU8)]], (Ad (Bd.tmp _ _ rfl) Af), rfl, rfl, ⟨by decide, rfl⟩, rfl, rfl, ⟨rfl, rfl⟩⟩
def Iu (b3 : Int × Int × (List Db)) : Option ((List Db) × Int × Int) :=
 some (b3.2.2, b3.1, b3.2.1)
def Dq (a2 : List UInt8) (v1 : (BitVec 64) × Int × Int) (s4 : Int × Int × Int × (List Db)) : Option (LB (Int × Int × Int × (List Db)) (Int × Int × (List Db))) :=
 if (decide (s4.1 < (wI (v1.1.toNat : Int)))) then ((Cs 16 s4.2.1 s4.2.2.1 a2).bind fun v5 => (Cs 32 v5.2.1 v5.2.2 a2).bind fun v6 => if (s4.2.2.2.length + [(Db.mk v5.1 v6.1)].length) * 48 ≤ 140737488355328 then (some (.cont ((wI (s4.1 + 1)), v6.2.1, v6.2.2, (s4.2.2.2 ++ [(Db.mk v5.1 v6.1)])))) else none) else (some (.brk (s4.2.1, s4.2.2.1, s4.2.2.2)))
def I6 (a0 : Int) (a1 : Int) (a2 : List UInt8) : Option ((List Db) × Int × Int) :=
 (A3 1 a0 a1 a2).bind fun v1 => if (decide (8 < (wI (v1.1.toNat : Int)))) then ((Bw 5 v1.2.1 v1.2.2 a2).bind fun v2 => some (([] : List Db), v2, v1.2.2)) else ((E4 (Dq a2 v1) Di (0, v1.2.1, v1.2.2, ([] : List Db))).bind fun e8 => Iu e8)
set_option maxRecDepth 100000 in
theorem Sk {a0 : Int} {a1 : Int} {a2 : List UInt8} {r : (List Db) × Int × Int} (h : I6 a0 a1 a2 = some r) : G2 Tryz.prog 97 [.box [.fn 112 [] [.lp 1 0, .lp 2 0], Ii6 a0], .box [Ii6 a1], .box [.sl a2.length (a2.flatMap eU8)]] [.one (.lp 0 0)] (fun y m' => y = .s (.one (.sl r.1.length (r.1.flatMap Dw))) ∧ m' = [.box [.fn 112 [] [.lp 1 0, .lp 2 0], Ii6 r.2.1], .box [Ii6 r.2.2], .box [.sl a2.length (a2.flatMap eU8)]]) := by
 unfold I6 at h
 refine Cv Tryz.func97 rfl (nt := 25) rfl (Nbl rfl) ?_
 intro w0 S0 X0 H0
 refine Aq (Ab (sv rfl (Ak rfl) (As (Aq (Ab (sv rfl (Ag rfl) ?_))))))
 obtain ⟨v1, hv1, h⟩ := An h
 refine C2 (x' := .s (.one (.i .u64 (v1.1.toNat : Int)))) (M' := [.box [.fn 112 [] [.lp 1 0, .lp 2 0], Ii6 v1.2.1], .box [Ii6 v1.2.2], .box [.sl a2.length (a2.flatMap eU8)]]) [0, 1, 2] rfl Ah5 (.func _) (Ac rfl (Ac rfl Al)) (Cz hv1) rfl rfl (by decide) rfl rfl rfl ?_
 refine sv rfl (F0 Tryz.underlying112 Tryz.underlying3 rfl) (sv rfl (Ak rfl) (As (Aq (Aq (Ab (sv rfl (Ag rfl) (sv rfl (C6 rfl rfl) (As (ccI h rfl (fun h => ?_) (fun h => ?_))))))))))
 ·refine Aq (Ab (sv rfl (Ag rfl) ?_))
  obtain ⟨v2, hv2, h⟩ := An h
  refine C2 (x' := .tup []) (M' := [.box [.fn 112 [] [.lp 1 0, .lp 2 0], Ii6 v2], .box [Ii6 v1.2.2], .box [.sl a2.length (a2.flatMap eU8)]]) [0, 1, 2] rfl Amu (.func _) (Ac rfl (Ac rfl Al)) (Dx hv2) rfl rfl (by decide) rfl rfl rfl ?_
  refine As (Aq (Ab (sv rfl (Ak rfl) (As ?_))))
  refine Anz 2 rfl (by (repeat' first | exact J5.nil _ | apply J5.cons | apply Jz.one | apply Jz.agg | exact E6.nil | exact E6.id _ rfl | exact D1.nil _ | apply D1.cons)) ?_
  refine Bj (Ar ?_)
  obtain rfl := Option.some.inj h
  exact ⟨Or.inr rfl, _, [0, 1, 2], [.one (.sl ([] : List Db).length (([] : List Db).flatMap Dw))], [.box [.fn 112 [] [.lp 1 0, .lp 2 0], Ii6 v2], .box [Ii6 v1.2.2], .box [.sl a2.length (a2.flatMap eU8)]], (Ad (Bd.tmp _ _ rfl) Af), rfl, rfl, ⟨by decide, rfl⟩, rfl, rfl, ⟨rfl, rfl⟩⟩
 ·refine Bl (Ai (Aq (Ab (sv rfl (Ak rfl) (As (Aq (Aq (Ab (sv rfl (Ag rfl) (sv rfl (Ag rfl) (As ?_)))))))))))
  refine O2 116 2 4 (by decide) rfl ?_
  refine G5 (Int × Int × (List Db)) (fun b3 => [(4, .s (.one (.ls 3 b3.2.2.length)))]) (fun b3 => [.box [.fn 112 [] [.lp 1 0, .lp 2 0], Ii6 b3.1], .box [Ii6 b3.2.1], .box [.sl a2.length (a2.flatMap eU8)], .arr 116 2 0 (b3.2.2.flatMap Dw)]) (fun b3 => Iu b3 = some r) (fun _ _ => Be rfl) (fun _ _ => A0 rfl) (fun _ _ => Nat.le_of_ble_eq_true rfl) (fun b3 h => ?_) ?_
  ·unfold Iu at h
   refine Aq (Ab (sv rfl (Ag rfl) (sv rfl (Ak rfl) (As ?_))))
   refine Anz 2 rfl (by (repeat' first | exact J5.nil _ | apply J5.cons | apply Jz.one | apply Jz.agg | exact E6.nil | exact E6.ls _ _ _ _ _ _ rfl (Bg (f := Dw) (fun _ => rfl) _).symm | exact E6.id _ rfl | exact D1.nil _ | apply D1.cons)) ?_
   refine Bj ?_
   obtain rfl := Option.some.inj h
   exact ⟨Or.inr rfl, _, [0, 1, 2], [.one (.sl b3.2.2.length (b3.2.2.flatMap Dw))], [.box [.fn 112 [] [.lp 1 0, .lp 2 0], Ii6 b3.1], .box [Ii6 b3.2.1], .box [.sl a2.length (a2.flatMap eU8)]], (Ad (Bd.tmp _ _ rfl) Af), rfl, rfl, ⟨by decide, rfl⟩, rfl, rfl, ⟨rfl, rfl⟩⟩
  ·skip
   refine B7 ?_
   obtain ⟨x4, hx4, ho4⟩ := An h
   refine Da (G := Nat × (Int × Int × Int × (List Db))) (fun g => [(0, .s (.one (.lp 0 0))), (4, .s (.one (.ls 3 g.2.2.2.2.length))), (12, .s (.one (Ii6 (wI (v1.1.toNat : Int))))), (13, .s (.one (Ii6 g.2.1)))]) (fun g => [.box [.fn 112 [] [.lp 1 0, .lp 2 0], Ii6 g.2.2.1], .box [Ii6 g.2.2.2.1], .box [.sl a2.length (a2.flatMap eU8)], .arr 116 2 0 (g.2.2.2.2.flatMap Dw)]) (fun g => E4 (Dq a2 v1) g.1 g.2 = some x4) (fun g => g.1) (Di, (0, v1.2.1, v1.2.2, ([] : List Db))) hx4 ⟨rfl, rfl, rfl, rfl, trivial⟩ [] rfl (fun _ _ => Be rfl) (fun _ _ => A0 rfl) (fun _ _ => Nat.le_of_ble_eq_true rfl) ?_
   clear hx4 h
   rintro ⟨n4, s4⟩ h
   obtain ⟨n4, y4, rfl, h, hk4⟩ := Gs h
   unfold Dq at h
   refine Aq (Ab (sv rfl (Cp rfl rfl) (As (Aq (ccI h rfl (fun h => ?_) (fun h => ?_))))))
   ·refine Bl (Ai (Aq (B7 (Ab (sv rfl (Ag rfl) (sv rfl (Ag rfl) ?_))))))
    obtain ⟨v5, hv5, h⟩ := An h
    refine C2 (x' := .s (.one (.sl v5.1.length (v5.1.flatMap eU8)))) (M' := [.box [.fn 112 [] [.lp 1 0, .lp 2 0], Ii6 v5.2.1], .box [Ii6 v5.2.2], .box [.sl a2.length (a2.flatMap eU8)], .arr 116 2 0 (s4.2.2.2.flatMap Dw)]) [0, 1, 2] rfl Ast (.func _) (Ac rfl (Ac rfl Al)) (Ka hv5) rfl rfl (by decide) rfl rfl rfl ?_
    refine sv rfl (Ag rfl) ?_
    obtain ⟨v6, hv6, h⟩ := An h
    refine C2 (x' := .s (.one (.sl v6.1.length (v6.1.flatMap eU8)))) (M' := [.box [.fn 112 [] [.lp 1 0, .lp 2 0], Ii6 v6.2.1], .box [Ii6 v6.2.2], .box [.sl a2.length (a2.flatMap eU8)], .arr 116 2 0 (s4.2.2.2.flatMap Dw)]) [0, 1, 2] rfl Ast (.func _) (Ac rfl (Ac rfl Al)) (Ka hv6) rfl rfl (by decide) rfl rfl rfl ?_
    refine sv rfl (Bk Aiu Aq5 (Ap rfl (Ap rfl Ba)) (.cons _ _ _ _ _ _ _ rfl rfl (Nbl rfl) (.cons _ _ _ _ _ _ _ rfl rfl (Nbl rfl) (.nil _)))) ?_
    refine Qw rfl Tryz.underlying53 Apk rfl rfl (List.all_eq_true.1 rfl) (by decide) ?_
    refine Bs [.box [.fn 112 [] [.lp 1 0, .lp 2 0], Ii6 v6.2.1], .box [Ii6 v6.2.2], .box [.sl a2.length (a2.flatMap eU8)], .arr 116 2 0 (s4.2.2.2.flatMap Dw), .arr 116 2 0 ([(Db.mk v5.1 v6.1)].flatMap Dw)] rfl ?_
    obtain ⟨hb7, h⟩ := D9 h
    refine Ahz (f := Dw) (xs := s4.2.2.2) (us := [(Db.mk v5.1 v6.1)]) rfl Tryz.underlying53 Apk Au5 (fun _ => rfl) rfl rfl (.one _ _ _ _ (.ls _ _ _ _ _ _ rfl (Bg (f := Dw) (fun _ => rfl) [(Db.mk v5.1 v6.1)]).symm)) rfl rfl rfl (.sl _ _ _ (Bg (f := Dw) (fun _ => rfl) _)) rfl rfl hb7 (by decide) ?_
    refine sv rfl (Ak rfl) (Lz (A4 (Ai (Ab (sv rfl (B0 rfl rfl) (sv rfl (Ag rfl) (As ?_)))))))
    obtain rfl := Option.some.inj h
    exact ⟨(n4, ((wI (s4.1 + 1)), v6.2.1, v6.2.2, (s4.2.2.2 ++ [(Db.mk v5.1 v6.1)]))), _, hk4, ⟨rfl, rfl, rfl, rfl, trivial⟩, rfl, Nat.lt_succ_self _⟩
   ·refine Lj (Bi (Bi (Ck (Ai ?_))))
    obtain rfl := Option.some.inj h
    obtain rfl : _ = x4 := hk4
    exact ⟨(s4.2.1, s4.2.2.1, s4.2.2.2), _, ho4, ⟨rfl, trivial⟩, rfl⟩
def Fa (a0 : Int) (a1 : Int) (a2 : List UInt8) : Option (Int × Int) :=
 (Br a0 a1 a2).bind fun v1 => if (!decide (v1 = 0)) then (some (v1, a1)) else ((Dt a0 a1 a2).bind fun v2 => if (decide (0 < (v2.2.1.length : Int))) then (some (3, v2.2.2)) else (some (0, v2.2.2)))
set_option maxRecDepth 100000 in
theorem Q4 {a0 : Int} {a1 : Int} {a2 : List UInt8} {r : Int × Int} (h : Fa a0 a1 a2 = some r) : G2 Tryz.prog 98 [.box [.fn 112 [] [.lp 1 0, .lp 2 0], Ii6 a0], .box [Ii6 a1], .box [.sl a2.length (a2.flatMap eU8)]] [.one (.lp 0 0)] (fun y m' => y = .s (.one (Ii6 r.1)) ∧ m' = [.box [.fn 112 [] [.lp 1 0, .lp 2 0], Ii6 a0], .box [Ii6 r.2], .box [.sl a2.length (a2.flatMap eU8)]]) := by
 unfold Fa at h
 refine Cv Tryz.func98 rfl (nt := 19) rfl (Nbl rfl) ?_
 intro w0 S0 X0 H0
 refine Aq (Ab (sv rfl (Ak rfl) (As (Aq (Aq (Ab (sv rfl (Ag rfl) ?_)))))))
 obtain ⟨v1, hv1, h⟩ := An h
 refine C2 (x' := .s (.one (Ii6 v1))) (M' := [.box [.fn 112 [] [.lp 1 0, .lp 2 0], Ii6 a0], .box [Ii6 a1], .box [.sl a2.length (a2.flatMap eU8)]]) [0, 1, 2] rfl Aij (.func _) (Ac rfl Al) (H2 hv1) rfl rfl (by decide) rfl rfl rfl ?_
 refine sv rfl (Ak rfl) (As (Aq (Ab (sv rfl (Ag rfl) (sv rfl (Cd rfl rfl) (As (ccI h rfl (fun h => ?_) (fun h => ?_))))))))
 ·refine Aq (Ab (sv rfl (Ag rfl) (sv rfl (Ak rfl) (As (Bj (Ar ?_))))))
  obtain rfl := Option.some.inj h
  exact ⟨Or.inr rfl, _, [0, 1, 2], [.one (Ii6 v1)], [.box [.fn 112 [] [.lp 1 0, .lp 2 0], Ii6 a0], .box [Ii6 a1], .box [.sl a2.length (a2.flatMap eU8)]], (Ad (Bd.tmp _ _ rfl) Af), rfl, rfl, ⟨by decide, rfl⟩, rfl, rfl, ⟨rfl, rfl⟩⟩
 ·refine Bl (Ai (Aq (Aq (Ab (sv rfl (Ag rfl) ?_)))))
  obtain ⟨v2, hv2, h⟩ := An h
  refine C2 (x' := .tup [.one (Ii6 v2.1), .one (.sl v2.2.1.length (v2.2.1.flatMap eU8))]) (M' := [.box [.fn 112 [] [.lp 1 0, .lp 2 0], Ii6 a0], .box [Ii6 v2.2.2], .box [.sl a2.length (a2.flatMap eU8)]]) [0, 1, 2] rfl Aov (.func _) (Ac rfl Al) (Mf hv2) rfl rfl (by decide) rfl rfl rfl ?_
  refine sv rfl (Gj rfl) (sv rfl (Bc rfl rfl) (sv rfl (Bc rfl rfl) (sv rfl (Ak rfl) (sv rfl (Ak rfl) (As (Aq (Ab (sv rfl (Ag rfl) (sv rfl (Az Lh rfl) (sv rfl (C6 rfl rfl) (As (ccI h rfl (fun h => ?_) (fun h => ?_)))))))))))))
  ·refine Aq (Ab (sv rfl (Ak rfl) (As (Bj (Ar ?_)))))
   obtain rfl := Option.some.inj h
   exact ⟨Or.inr rfl, _, [0, 1, 2], [.one (Ii6 3)], [.box [.fn 112 [] [.lp 1 0, .lp 2 0], Ii6 a0], .box [Ii6 v2.2.2], .box [.sl a2.length (a2.flatMap eU8)]], (Ad (Bd.tmp _ _ rfl) Af), rfl, rfl, ⟨by decide, rfl⟩, rfl, rfl, ⟨rfl, rfl⟩⟩
  ·refine Bl (Ai (Aq (Ab (sv rfl (Ak rfl) (As (Bj ?_))))))
   obtain rfl := Option.some.inj h
   exact ⟨Or.inr rfl, _, [0, 1, 2], [.one (Ii6 0)], [.box [.fn 112 [] [.lp 1 0, .lp 2 0], Ii6 a0], .box [Ii6 v2.2.2], .box [.sl a2.length (a2.flatMap eU8)]], (Ad (Bd.tmp _ _ rfl) Af), rfl, rfl, ⟨by decide, rfl⟩, rfl, rfl, ⟨rfl, rfl⟩⟩
def Ej (v1 : Int × Int × (List UInt8)) (v2 : (BitVec 64) × Int × Int) (v3 : (BitVec 64) × Int × Int) (b4 : Int) : Option (Bf × Int) :=
 (A3 1 b4 v3.2.2 v1.2.2).bind fun v5 => (A3 8 v5.2.1 v5.2.2 v1.2.2).bind fun v6 => (Fy v6.2.1 v6.2.2 v1.2.2).bind fun v7 => (Cs 32 v7.2.1 v7.2.2 v1.2.2).bind fun v8 => (I6 v8.2.1 v8.2.2 v1.2.2).bind fun v9 => (Fa v9.2.1 v9.2.2 v1.2.2).bind fun v10 => if (!decide (v10.1 = 0)) then (some (X3, v10.1)) else ((Fk (Bf.mk (wI (v2.1.toNat : Int)) (wI (v3.1.toNat : Int)) (wI (v5.1.toNat : Int)) (wI (v6.1.toNat : Int)) v7.1 v8.1 v9.1)).bind fun v11 => if (!v11) then (some (X3, 3)) else (some ((Bf.mk (wI (v2.1.toNat : Int)) (wI (v3.1.toNat : Int)) (wI (v5.1.toNat : Int)) (wI (v6.1.toNat : Int)) v7.1 v8.1 v9.1), 0)))
def Fl (a0 : List UInt8) : Option (Bf × Int) :=
 (Jf a0).bind fun v1 => (A3 1 v1.1 v1.2.1 v1.2.2).bind fun v2 => (A3 4 v2.2.1 v2.2.2 v1.2.2).bind fun v3 => if (!decide ((wI (v2.1.toNat : Int)) = 0)) then ((Hk (wI (v2.1.toNat : Int))).bind fun v12 => if (!v12) then ((Bw 3 v3.2.1 v3.2.2 v1.2.2).bind fun v13 => Ej v1 v2 v3 v13) else (Ej v1 v2 v3 v3.2.1)) else (Ej v1 v2 v3 v3.2.1)
set_option maxRecDepth 100000 in
theorem Sv {a0 : List UInt8} {r : Bf × Int} (h : Fl a0 = some r) : Bp Tryz.prog 78 [.one (.sl a0.length (a0.flatMap eU8))] (· = .tup [.agg (EL.el r.1), .one (Ii6 r.2)]) := by
 unfold Fl at h
 refine A1 Tryz.func78 rfl (nt := 55) rfl (Nbl rfl) ?_
 intro w0 S0
 refine Aq (Ab (Bz rfl Akr (sv rfl (Ak rfl) (As (Aq (Ab (sv rfl (Ag rfl) ?_)))))))
 obtain ⟨v1, hv1, h⟩ := An h
 refine C2 (x' := .s (.one (.lp 1 0))) (M' := [.box Zbd, .box [.fn 112 [] [.lp 2 0, .lp 3 0], Ii6 v1.1], .box [Ii6 v1.2.1], .box [.sl v1.2.2.length (v1.2.2.flatMap eU8)]]) [] rfl As0 (.func _) (Ac rfl Al) (O3 hv1) rfl rfl (by decide) rfl rfl rfl ?_
 refine sv rfl (Ak rfl) (As (Aq (Ab (sv rfl (Ag rfl) ?_))))
 obtain ⟨v2, hv2, h⟩ := An h
 refine C2 (x' := .s (.one (.i .u64 (v2.1.toNat : Int)))) (M' := [.box Zbd, .box [.fn 112 [] [.lp 2 0, .lp 3 0], Ii6 v2.2.1], .box [Ii6 v2.2.2], .box [.sl v1.2.2.length (v1.2.2.flatMap eU8)]]) [1, 2, 3] rfl Ah5 (.func _) (Ac rfl (Ac rfl Al)) (Cz hv2) rfl rfl (by decide) rfl rfl rfl ?_
 refine sv rfl (F0 Tryz.underlying112 Tryz.underlying3 rfl) (sv rfl (Ag rfl) ?_)
 obtain ⟨v3, hv3, h⟩ := An h
 refine C2 (x' := .s (.one (.i .u64 (v3.1.toNat : Int)))) (M' := [.box Zbd, .box [.fn 112 [] [.lp 2 0, .lp 3 0], Ii6 v3.2.1], .box [Ii6 v3.2.2], .box [.sl v1.2.2.length (v1.2.2.flatMap eU8)]]) [1, 2, 3] rfl Ah5 (.func _) (Ac rfl (Ac rfl Al)) (Cz hv3) rfl rfl (by decide) rfl rfl rfl ?_
 refine sv rfl (F0 Tryz.underlying112 Tryz.underlying3 rfl) (sv rfl (Bk Akr Aqv (Ap rfl (Ap rfl Ba)) (.cons _ _ _ _ _ _ _ rfl rfl (Nbl rfl) (.cons _ _ _ _ _ _ _ rfl rfl (Nbl rfl) (.nil _)))) (Bz rfl Akr (Ax Anp rfl rfl rfl rfl (Nbl rfl) (Bs [.box Zbd, .box [.fn 112 [] [.lp 2 0, .lp 3 0], Ii6 v3.2.1], .box [Ii6 v3.2.2], .box [.sl v1.2.2.length (v1.2.2.flatMap eU8)], .box [Ii6 (wI (v2.1.toNat : Int)), Ii6 (wI (v3.1.toNat : Int)), Ii6 0, Ii6 0, .b false, Znl, Znl]] rfl (As (Aq (Aq (Ki (Int) (fun b4 => [(2, .s (.one (.lp 0 0))), (4, .s (.one (.lp 1 0))), (5, .s (.one (.lp 4 0)))]) (fun b4 => [.box Zbd, .box [.fn 112 [] [.lp 2 0, .lp 3 0], Ii6 b4], .box [Ii6 v3.2.2], .box [.sl v1.2.2.length (v1.2.2.flatMap eU8)], .box [Ii6 (wI (v2.1.toNat : Int)), Ii6 (wI (v3.1.toNat : Int)), Ii6 0, Ii6 0, .b false, Znl, Znl]]) (fun b4 => Ej v1 v2 v3 b4 = some r) (fun _ _ => Be rfl) (fun _ _ => A0 rfl) (fun _ _ => Nat.le_of_ble_eq_true rfl) (fun b4 h => ?_) ?_))))))))
 ·unfold Ej at h
  refine Aq (Ab (sv rfl (Ag rfl) ?_))
  obtain ⟨v5, hv5, h⟩ := An h
  refine C2 (x' := .s (.one (.i .u64 (v5.1.toNat : Int)))) (M' := [.box Zbd, .box [.fn 112 [] [.lp 2 0, .lp 3 0], Ii6 v5.2.1], .box [Ii6 v5.2.2], .box [.sl v1.2.2.length (v1.2.2.flatMap eU8)], .box [Ii6 (wI (v2.1.toNat : Int)), Ii6 (wI (v3.1.toNat : Int)), Ii6 0, Ii6 0, .b false, Znl, Znl]]) [1, 2, 3] rfl Ah5 (.func _) (Ac rfl (Ac rfl Al)) (Cz hv5) rfl rfl (by decide) rfl rfl rfl ?_
  refine sv rfl (F0 Tryz.underlying112 Tryz.underlying38 rfl) (sv rfl (Aa Rd rfl) (Ax Aud rfl rfl rfl rfl (Nbl rfl) (Bs [.box Zbd, .box [.fn 112 [] [.lp 2 0, .lp 3 0], Ii6 v5.2.1], .box [Ii6 v5.2.2], .box [.sl v1.2.2.length (v1.2.2.flatMap eU8)], .box [Ii6 (wI (v2.1.toNat : Int)), Ii6 (wI (v3.1.toNat : Int)), Ii6 (wI (v5.1.toNat : Int)), Ii6 0, .b false, Znl, Znl]] rfl (As (Aq (Ab (sv rfl (Ag rfl) ?_)))))))
  obtain ⟨v6, hv6, h⟩ := An h
  refine C2 (x' := .s (.one (.i .u64 (v6.1.toNat : Int)))) (M' := [.box Zbd, .box [.fn 112 [] [.lp 2 0, .lp 3 0], Ii6 v6.2.1], .box [Ii6 v6.2.2], .box [.sl v1.2.2.length (v1.2.2.flatMap eU8)], .box [Ii6 (wI (v2.1.toNat : Int)), Ii6 (wI (v3.1.toNat : Int)), Ii6 (wI (v5.1.toNat : Int)), Ii6 0, .b false, Znl, Znl]]) [1, 2, 3] rfl Ah5 (.func _) (Ac rfl (Ac rfl Al)) (Cz hv6) rfl rfl (by decide) rfl rfl rfl ?_
  refine sv rfl (F0 Tryz.underlying112 Tryz.underlying3 rfl) (sv rfl (Aa Qh rfl) (Ax sz3 rfl rfl rfl rfl (Nbl rfl) (Bs [.box Zbd, .box [.fn 112 [] [.lp 2 0, .lp 3 0], Ii6 v6.2.1], .box [Ii6 v6.2.2], .box [.sl v1.2.2.length (v1.2.2.flatMap eU8)], .box [Ii6 (wI (v2.1.toNat : Int)), Ii6 (wI (v3.1.toNat : Int)), Ii6 (wI (v5.1.toNat : Int)), Ii6 (wI (v6.1.toNat : Int)), .b false, Znl, Znl]] rfl (As (Aq (Ab (sv rfl (Ag rfl) ?_)))))))
  obtain ⟨v7, hv7, h⟩ := An h
  refine C2 (x' := .s (.one (.b v7.1))) (M' := [.box Zbd, .box [.fn 112 [] [.lp 2 0, .lp 3 0], Ii6 v7.2.1], .box [Ii6 v7.2.2], .box [.sl v1.2.2.length (v1.2.2.flatMap eU8)], .box [Ii6 (wI (v2.1.toNat : Int)), Ii6 (wI (v3.1.toNat : Int)), Ii6 (wI (v5.1.toNat : Int)), Ii6 (wI (v6.1.toNat : Int)), .b false, Znl, Znl]]) [1, 2, 3] rfl Au7 (.func _) (Ac rfl Al) (Qe hv7) rfl rfl (by decide) rfl rfl rfl ?_
  refine sv rfl (Aa Aam rfl) (Ax sz4 rfl rfl rfl rfl (Nbl rfl) (Bs [.box Zbd, .box [.fn 112 [] [.lp 2 0, .lp 3 0], Ii6 v7.2.1], .box [Ii6 v7.2.2], .box [.sl v1.2.2.length (v1.2.2.flatMap eU8)], .box [Ii6 (wI (v2.1.toNat : Int)), Ii6 (wI (v3.1.toNat : Int)), Ii6 (wI (v5.1.toNat : Int)), Ii6 (wI (v6.1.toNat : Int)), .b v7.1, Znl, Znl]] rfl (As (Aq (Ab (sv rfl (Ag rfl) ?_))))))
  obtain ⟨v8, hv8, h⟩ := An h
  refine C2 (x' := .s (.one (.sl v8.1.length (v8.1.flatMap eU8)))) (M' := [.box Zbd, .box [.fn 112 [] [.lp 2 0, .lp 3 0], Ii6 v8.2.1], .box [Ii6 v8.2.2], .box [.sl v1.2.2.length (v1.2.2.flatMap eU8)], .box [Ii6 (wI (v2.1.toNat : Int)), Ii6 (wI (v3.1.toNat : Int)), Ii6 (wI (v5.1.toNat : Int)), Ii6 (wI (v6.1.toNat : Int)), .b v7.1, Znl, Znl]]) [1, 2, 3] rfl Ast (.func _) (Ac rfl (Ac rfl Al)) (Ka hv8) rfl rfl (by decide) rfl rfl rfl ?_
  refine sv rfl (Aa Zi rfl) (Ax Aot rfl rfl rfl rfl (Nbl rfl) (Bs [.box Zbd, .box [.fn 112 [] [.lp 2 0, .lp 3 0], Ii6 v8.2.1], .box [Ii6 v8.2.2], .box [.sl v1.2.2.length (v1.2.2.flatMap eU8)], .box [Ii6 (wI (v2.1.toNat : Int)), Ii6 (wI (v3.1.toNat : Int)), Ii6 (wI (v5.1.toNat : Int)), Ii6 (wI (v6.1.toNat : Int)), .b v7.1, .sl v8.1.length (v8.1.flatMap eU8), Znl]] rfl (As (Aq (Ab (sv rfl (Ag rfl) ?_))))))
  obtain ⟨v9, hv9, h⟩ := An h
  refine C2 (x' := .s (.one (.sl v9.1.length (v9.1.flatMap Dw)))) (M' := [.box Zbd, .box [.fn 112 [] [.lp 2 0, .lp 3 0], Ii6 v9.2.1], .box [Ii6 v9.2.2], .box [.sl v1.2.2.length (v1.2.2.flatMap eU8)], .box [Ii6 (wI (v2.1.toNat : Int)), Ii6 (wI (v3.1.toNat : Int)), Ii6 (wI (v5.1.toNat : Int)), Ii6 (wI (v6.1.toNat : Int)), .b v7.1, .sl v8.1.length (v8.1.flatMap eU8), Znl]]) [1, 2, 3] rfl Au8 (.func _) (Ac rfl Al) (Sk hv9) rfl rfl (by decide) rfl rfl rfl ?_
  refine sv rfl (Aa Ut rfl) (Ax Au9 rfl rfl rfl rfl (Nbl rfl) (Bs [.box Zbd, .box [.fn 112 [] [.lp 2 0, .lp 3 0], Ii6 v9.2.1], .box [Ii6 v9.2.2], .box [.sl v1.2.2.length (v1.2.2.flatMap eU8)], .box [Ii6 (wI (v2.1.toNat : Int)), Ii6 (wI (v3.1.toNat : Int)), Ii6 (wI (v5.1.toNat : Int)), Ii6 (wI (v6.1.toNat : Int)), .b v7.1, .sl v8.1.length (v8.1.flatMap eU8), .sl v9.1.length (v9.1.flatMap Dw)]] rfl (As (Aq (Aq (Ab (sv rfl (Ag rfl) ?_)))))))
  obtain ⟨v10, hv10, h⟩ := An h
  refine C2 (x' := .s (.one (Ii6 v10.1))) (M' := [.box Zbd, .box [.fn 112 [] [.lp 2 0, .lp 3 0], Ii6 v9.2.1], .box [Ii6 v10.2], .box [.sl v1.2.2.length (v1.2.2.flatMap eU8)], .box [Ii6 (wI (v2.1.toNat : Int)), Ii6 (wI (v3.1.toNat : Int)), Ii6 (wI (v5.1.toNat : Int)), Ii6 (wI (v6.1.toNat : Int)), .b v7.1, .sl v8.1.length (v8.1.flatMap eU8), .sl v9.1.length (v9.1.flatMap Dw)]]) [1, 2, 3] rfl Av9 (.func _) (Ac rfl Al) (Q4 hv10) rfl rfl (by decide) rfl rfl rfl ?_
  refine sv rfl (Ak rfl) (As (Aq (Ab (sv rfl (Ag rfl) (sv rfl (Cd rfl rfl) (As (ccI h rfl (fun h => ?_) (fun h => ?_))))))))
  ·refine Aq (Ab (sv rfl (Bk Akr Aqv Ba (.nil _)) (sv rfl (Ag rfl) (Ax Anp rfl rfl rfl rfl (Nbl rfl) (Bs [.box Zbd, .box [.fn 112 [] [.lp 2 0, .lp 3 0], Ii6 v9.2.1], .box [Ii6 v10.2], .box [.sl v1.2.2.length (v1.2.2.flatMap eU8)], .box [Ii6 (wI (v2.1.toNat : Int)), Ii6 (wI (v3.1.toNat : Int)), Ii6 (wI (v5.1.toNat : Int)), Ii6 (wI (v6.1.toNat : Int)), .b v7.1, .sl v8.1.length (v8.1.flatMap eU8), .sl v9.1.length (v9.1.flatMap Dw)]] rfl (sv rfl (Ak rfl) (As (Bj (Ar ?_)))))))))
   obtain rfl := Option.some.inj h
   refine ⟨Or.inr rfl, _, _, _, (Ad (Bd.agg _ _ _ _ _ Aa7 rfl (.lp _ _ _ rfl) (Nbl rfl)) (Ad (Bd.tmp _ _ rfl) Af)), (Np rfl), ?_⟩
   rfl
  ·refine Bl (Ai (Aq (Aq (Ab (sv rfl (Ao Aa7 rfl (.lp _ _ _ rfl) (Nbl rfl)) ?_)))))
   obtain ⟨v11, hv11, h⟩ := An h
   refine A2 rfl Aup (Ac rfl Al) (Aj rfl) (N6 hv11) (sv rfl (B9 rfl) (As (ccI h rfl (fun h => ?_) (fun h => ?_))))
   ·refine Aq (Ab (sv rfl (Bk Akr Aqv Ba (.nil _)) (Ax Anp rfl rfl rfl rfl (Nbl rfl) (Bs [.box Zbd, .box [.fn 112 [] [.lp 2 0, .lp 3 0], Ii6 v9.2.1], .box [Ii6 v10.2], .box [.sl v1.2.2.length (v1.2.2.flatMap eU8)], .box [Ii6 (wI (v2.1.toNat : Int)), Ii6 (wI (v3.1.toNat : Int)), Ii6 (wI (v5.1.toNat : Int)), Ii6 (wI (v6.1.toNat : Int)), .b v7.1, .sl v8.1.length (v8.1.flatMap eU8), .sl v9.1.length (v9.1.flatMap Dw)]] rfl (sv rfl (Ak rfl) (As (Bj (Ar ?_))))))))
    obtain rfl := Option.some.inj h
    refine ⟨Or.inr rfl, _, _, _, (Ad (Bd.agg _ _ _ _ _ Aa7 rfl (.lp _ _ _ rfl) (Nbl rfl)) (Ad (Bd.tmp _ _ rfl) Af)), (Np rfl), ?_⟩
    rfl
   ·refine Bl (Ai (Aq (Ab (sv rfl (Ao Aa7 rfl (.lp _ _ _ rfl) (Nbl rfl)) (Ax Anp rfl rfl rfl rfl (Nbl rfl) (Bs [.box [Ii6 (wI (v2.1.toNat : Int)), Ii6 (wI (v3.1.toNat : Int)), Ii6 (wI (v5.1.toNat : Int)), Ii6 (wI (v6.1.toNat : Int)), .b v7.1, .sl v8.1.length (v8.1.flatMap eU8), .sl v9.1.length (v9.1.flatMap Dw)], .box [.fn 112 [] [.lp 2 0, .lp 3 0], Ii6 v9.2.1], .box [Ii6 v10.2], .box [.sl v1.2.2.length (v1.2.2.flatMap eU8)], .box [Ii6 (wI (v2.1.toNat : Int)), Ii6 (wI (v3.1.toNat : Int)), Ii6 (wI (v5.1.toNat : Int)), Ii6 (wI (v6.1.toNat : Int)), .b v7.1, .sl v8.1.length (v8.1.flatMap eU8), .sl v9.1.length (v9.1.flatMap Dw)]] rfl (sv rfl (Ak rfl) (As (Bj ?_)))))))))
    obtain rfl := Option.some.inj h
    refine ⟨Or.inr rfl, _, _, _, (Ad (Bd.agg _ _ _ _ _ Aa7 rfl (.lp _ _ _ rfl) (Nbl rfl)) (Ad (Bd.tmp _ _ rfl) Af)), (Aj rfl), ?_⟩
    rfl
 ·skip
  refine Ab (sv rfl (Aa P5 rfl) (sv rfl (Ae ti3 rfl (.lp _ _ _ rfl) rfl) (sv rfl (Cd rfl rfl) (sv rfl (Ag rfl) (Bo 19 rfl (fun hc => ?_) (fun hc => ?_))))))
  ·replace h := B2 hc h
   clear hc
   refine son rfl rfl rfl (sv rfl (Aa P5 rfl) (son rfl rfl rfl (sv rfl (Ae ti3 rfl (.lp _ _ _ rfl) rfl) (son rfl rfl rfl ?_))))
   obtain ⟨v12, hv12, h⟩ := An h
   refine A2 rfl Aqr (Ac rfl Al) (Aj rfl) (L7 hv12) (son rfl rfl rfl (sv rfl (B9 rfl) (sv rfl (Au rfl rfl) (As (ccI h rfl (fun h => ?_) (fun h => ?_))))))
   ·refine Ab (sv rfl (Ag rfl) ?_)
    obtain ⟨v13, hv13, h⟩ := An h
    refine C2 (x' := .tup []) (M' := [.box Zbd, .box [.fn 112 [] [.lp 2 0, .lp 3 0], Ii6 v13], .box [Ii6 v3.2.2], .box [.sl v1.2.2.length (v1.2.2.flatMap eU8)], .box [Ii6 (wI (v2.1.toNat : Int)), Ii6 (wI (v3.1.toNat : Int)), Ii6 0, Ii6 0, .b false, Znl, Znl]]) [1, 2, 3] rfl Amu (.func _) (Ac rfl (Ac rfl Al)) (Dx hv13) rfl rfl (by decide) rfl rfl rfl ?_
    refine As ?_
    exact ⟨v13, _, h, ⟨rfl, rfl, rfl, trivial⟩, rfl⟩
   ·refine Bl (Ai ?_)
    exact ⟨v3.2.1, _, h, ⟨rfl, rfl, rfl, trivial⟩, rfl⟩
  ·replace h := B1 hc h
   clear hc
   refine Av rfl rfl rfl rfl (Av rfl rfl rfl rfl (Av rfl rfl rfl rfl (Av rfl rfl rfl rfl (sv rfl (Am rfl rfl) (As (G0 rfl (fun hx => Bool.noConfusion hx) (fun _ => ?_)))))))
   refine Bl (Ai ?_)
   exact ⟨v3.2.1, _, h, ⟨rfl, rfl, rfl, trivial⟩, rfl⟩
def Ic (a0 : List Aw) : Option (List Aw) :=
 if (([] : List Aw).length + a0.length) * 40 ≤ 140737488355328 then (some (([] : List Aw) ++ a0)) else none
set_option maxRecDepth 100000 in
theorem Rq {a0 : List Aw} {r : (List Aw)} (h : Ic a0 = some r) : G2 Tryz.prog 106 [] [.one (.sl a0.length (a0.flatMap Ay))] (fun y m' => y = .s (.one (.ls 0 r.length)) ∧ m' = [.arr 94 3 0 (r.flatMap Ay)]) := by
 unfold Ic at h
 refine Cv Tryz.func106 rfl (nt := 8) rfl (Nbl rfl) ?_
 intro w0 S0 X0 H0
 refine Aq (Ab (sv rfl (Ak rfl) (As (Aq (Aq (Ab (sv rfl (Ag rfl) (Amb rfl Tryz.underlying29 rfl (fun nq hnq => ?_)))))))))
 cases nq
 ·skip
  refine As (G0 rfl (fun hx => Bool.noConfusion hx) (fun _ => ?_))
  refine Bl (Ai (Aq (Ab (Abk rfl Tryz.underlying29 Aon (sv rfl (Ag rfl) ?_)))))
  obtain ⟨hb1, h⟩ := D9 h
  refine Ahz (f := Ay) (xs := ([] : List Aw)) (us := a0) rfl Tryz.underlying29 Aon Atk (fun _ => rfl) rfl rfl (.one _ _ _ _ (.id _ rfl)) rfl rfl rfl (.sl _ _ _ (Bg (f := Ay) (fun _ => rfl) _)) rfl rfl hb1 (by decide) ?_
  refine sv rfl (Ak rfl) (As (Bj ?_))
  obtain rfl := Option.some.inj h
  exact ⟨Or.inr rfl, _, [0], [.one (.ls 0 (([] : List Aw) ++ a0).length)], [.arr 94 3 0 ((([] : List Aw) ++ a0).flatMap Ay)], (Ad (Bd.tmp _ _ rfl) Af), rfl, rfl, ⟨by decide, rfl⟩, rfl, rfl, ⟨rfl, rfl⟩⟩
 ·obtain rfl := List.eq_nil_of_length_eq_zero (hnq rfl)
  replace h : (some ([] : List Aw)) = some r := by first | exact h | (rw [if_pos (by decide)] at h; exact h)
  refine As (G0 rfl (fun _ => ?_) (fun hx => Bool.noConfusion hx))
  refine Aq (Ab (sv rfl (Ak rfl) (As ?_)))
  refine O2 94 3 2 (by decide) rfl ?_
  refine Bj (Ar ?_)
  obtain rfl := Option.some.inj h
  exact ⟨Or.inr rfl, _, [0], [.one (.ls 0 ([] : List Aw).length)], [.arr 94 3 0 (([] : List Aw).flatMap Ay)], (Ad (Bd.tmp _ _ rfl) Af), rfl, rfl, ⟨by decide, rfl⟩, rfl, rfl, ⟨rfl, rfl⟩⟩
def Ev (a0 : Ah) : Option Ah :=
 (cut a0.Tasks 1 (a0.Tasks.length : Int)).bind fun c1 => (Ic c1).bind fun v2 => some (Ah.mk (Cr.mk a0.Cfg.Who (Dn.mk a0.Cfg.Plan.Wait a0.Cfg.Plan.Most a0.Cfg.Plan.Tries) a0.Cfg.Attempts a0.Cfg.Budget) v2 a0.Phase a0.Epoch a0.Seq 0 a0.Sent a0.Left a0.Resets a0.Risk (A7.mk a0.St.PC (E3.mk a0.St.Regs.R0 a0.St.Regs.R1 a0.St.Regs.R2 a0.St.Regs.R3 a0.St.Regs.R4 a0.St.Regs.R5 a0.St.Regs.R6 a0.St.Regs.R7) a0.St.Stopped) (Ca.mk a0.Req.Kind a0.Req.Seq a0.Req.Token a0.Req.Attempt a0.Req.RO a0.Req.Key a0.Req.Val (B8.mk a0.Req.Rng.Lo a0.Req.Rng.Hi a0.Req.Rng.Open)) (Bm.mk a0.In.Buf a0.In.Dead) a0.Out a0.Done a0.Tried)
set_option maxRecDepth 100000 in
theorem Me {a0 : Ah} {r : Ah} (h : Ev a0 = some r) : Bp Tryz.prog 80 [.agg (EL.el a0)] (· = .s (.agg (EL.el r))) := by
 unfold Ev at h
 refine A1 Tryz.func80 rfl (nt := 10) rfl (Nbl rfl) ?_
 intro w0 S0
 refine Aq (Ab (Jd rfl rfl (Bz rfl Nn (As (Aq (Ab (sv rfl (Aa Lw rfl) (sv rfl (Ae Xy rfl (.lp _ _ _ rfl) rfl) ?_))))))))
 obtain ⟨c1, hc1, h⟩ := An h
 refine sv rfl (Sl (f := Ay) (lo := 1) (hi := (a0.Tasks.length : Int)) T6 (fun _ => rfl) rfl rfl rfl (Hn rfl (Ks hc1).1.1) (by exact rfl) hc1) ?_
 obtain ⟨v2, hv2, h⟩ := An h
 refine C2 (x' := .s (.one (.ls 2 v2.length))) (M' := [.box (EL.el a0), .box Zba, .arr 94 3 0 (v2.flatMap Ay)]) [] rfl Aq0 (.func _) (Ac rfl Al) (Rq hv2) rfl rfl (by decide) rfl rfl rfl ?_
 refine sv rfl (Aa Lw rfl) (Ax Ata rfl rfl rfl rfl (Nbl rfl) (Bs [.box ((EL.el a0).set 6 (.ls 2 v2.length)), .box Zba, .arr 94 3 0 (v2.flatMap Ay)] rfl (As (Aq (Ab (sv rfl (Aa Oe rfl) (Ax sz3 rfl rfl rfl rfl (Nbl rfl) (Bs [.box ((EL.el {a0 with Attempt := 0}).set 6 (.ls 2 v2.length)), .box Zba, .arr 94 3 0 (v2.flatMap Ay)] rfl (As (Aq (Ab (sv rfl (Ao B5 rfl (.lp _ _ _ rfl) (Nbl rfl)) (Ax Ey rfl rfl rfl rfl (Nbl rfl) (Bs [.box ((EL.el {a0 with Attempt := 0}).set 6 (.ls 2 v2.length)), .box ((EL.el {a0 with Attempt := 0}).set 6 (.ls 2 v2.length)), .arr 94 3 0 (v2.flatMap Ay)] rfl (As (Bj ?_))))))))))))))))
 obtain rfl := Option.some.inj h
 refine ⟨Or.inr rfl, _, _, _, (Ad (Bd.agg _ _ _ _ _ B5 rfl (.lp _ _ _ rfl) (Nbl rfl)) Af), (by (repeat' first | exact J5.nil _ | apply J5.cons | apply Jz.one | apply Jz.agg | exact E6.nil | exact E6.ls _ _ _ _ _ _ rfl (Bg (f := Ay) (fun _ => rfl) _).symm | exact E6.id _ rfl | exact D1.nil _ | apply D1.cons)), ?_⟩
 rfl
def E5 (b2 : Ah) : Option Ah :=
 some ({b2 with Phase := 1, Epoch := (wI (b2.Epoch + 1)), Left := 0})
def Gu (a0 : Ah) (b1 : Unit) : Option Ah :=
 if (decide (a0.Phase = 9)) then ((Ev ({a0 with Resets := (if 1001 < (wI (a0.Resets + 1)) then 1001 else (wI (a0.Resets + 1))), In := (Bm.mk ([] : List UInt8) 0), Out := ([] : List UInt8)})).bind fun v3 => E5 v3) else (E5 ({a0 with Resets := (if 1001 < (wI (a0.Resets + 1)) then 1001 else (wI (a0.Resets + 1))), In := (Bm.mk ([] : List UInt8) 0), Out := ([] : List UInt8)}))
def Cq (a0 : Ah) : Option Ah :=
 if (decide (a0.Cfg.Budget < (if 1001 < (wI (a0.Resets + 1)) then 1001 else (wI (a0.Resets + 1))))) then ((Ce ({a0 with Resets := (if 1001 < (wI (a0.Resets + 1)) then 1001 else (wI (a0.Resets + 1))), In := (Bm.mk ([] : List UInt8) 0), Out := ([] : List UInt8)})).bind fun v4 => some v4) else (if (decide (65535 ≤ a0.Epoch)) then ((Ce ({a0 with Resets := (if 1001 < (wI (a0.Resets + 1)) then 1001 else (wI (a0.Resets + 1))), In := (Bm.mk ([] : List UInt8) 0), Out := ([] : List UInt8)})).bind fun v5 => some v5) else (Gu a0 ()))
set_option maxRecDepth 100000 in
theorem Fj {a0 : Ah} {r : Ah} (h : Cq a0 = some r) : Bp Tryz.prog 47 [.agg (EL.el a0)] (· = .s (.agg (EL.el r))) := by
 unfold Cq at h
 refine A1 Tryz.func47 rfl (nt := 36) rfl (Nbl rfl) ?_
 intro w0 S0
 refine Aq (Ab (Jd rfl rfl (Bz rfl Nn (As (Aq (Ab (sv rfl (Aa Acy rfl) (sv rfl (Ae ti3 rfl (.lp _ _ _ rfl) rfl) (sv rfl (B0 rfl rfl) (sv rfl (Sw rfl rfl) (sv rfl (Aa Acy rfl) (Ax sz3 rfl rfl rfl rfl (Nbl rfl) (Bs [.box (EL.el {a0 with Resets := if 1001 < (wI (a0.Resets + 1)) then 1001 else (wI (a0.Resets + 1))}), .box Zba] rfl (As (Aq (Ab (sv rfl (Aa Qi rfl) (Ax Aot rfl rfl rfl rfl (Nbl rfl) (Bs [.box ((EL.el {a0 with Resets := if 1001 < (wI (a0.Resets + 1)) then 1001 else (wI (a0.Resets + 1))}).set 37 (Znl)), .box Zba] rfl (As (Aq (Ab (sv rfl (Bk Anx Aqt Ba (.nil _)) (sv rfl (Aa Wv rfl) (Ax Ank rfl rfl rfl rfl (Nbl rfl) (Bs [.box (((EL.el {a0 with Resets := if 1001 < (wI (a0.Resets + 1)) then 1001 else (wI (a0.Resets + 1)), In.Dead := 0}).set 35 (Znl)).set 37 (Znl)), .box Zba] rfl (As (Aq (Aq (Ki (Unit) (fun b1 => [(1, .s (.one (.lp 0 0))), (2, .s (.one (.lp 1 0)))]) (fun b1 => [.box (((EL.el {a0 with Resets := if 1001 < (wI (a0.Resets + 1)) then 1001 else (wI (a0.Resets + 1)), In.Dead := 0}).set 35 (Znl)).set 37 (Znl)), .box Zba]) (fun b1 => Gu a0 b1 = some r) (fun _ _ => Be rfl) (fun _ _ => A0 rfl) (fun _ _ => Nat.le_of_ble_eq_true rfl) (fun b1 h => ?_) ?_))))))))))))))))))))))))))))))
 ·unfold Gu at h
  refine Aq (Aq (Ab (sv rfl (Aa G4 rfl) (sv rfl (Ae ti3 rfl (.lp _ _ _ rfl) rfl) (sv rfl (Bq rfl rfl) (As (G5 (Ah) (fun b2 => [(1, .s (.one (.lp 0 0))), (2, .s (.one (.lp 1 0)))]) (fun b2 => [.box (EL.el b2), .box Zba]) (fun b2 => E5 b2 = some r) (fun _ _ => Be rfl) (fun _ _ => A0 rfl) (fun _ _ => Nat.le_of_ble_eq_true rfl) (fun b2 h => ?_) ?_)))))))
  ·unfold E5 at h
   refine Aq (Ab (sv rfl (Aa G4 rfl) (Ax sz3 rfl rfl rfl rfl (Nbl rfl) (Bs [.box (EL.el {b2 with Phase := 1}), .box Zba] rfl (As (Aq (Ab (sv rfl (Aa Zz rfl) (sv rfl (Ae ti3 rfl (.lp _ _ _ rfl) rfl) (sv rfl (B0 rfl rfl) (sv rfl (Aa Zz rfl) (Ax sz3 rfl rfl rfl rfl (Nbl rfl) (Bs [.box (EL.el {b2 with Phase := 1, Epoch := wI (b2.Epoch + 1)}), .box Zba] rfl (As (Aq (Ab (sv rfl (Aa Ra rfl) (Ax sz3 rfl rfl rfl rfl (Nbl rfl) (Bs [.box (EL.el {b2 with Phase := 1, Epoch := wI (b2.Epoch + 1), Left := 0}), .box Zba] rfl (As (Aq (Ab (sv rfl (Ao B5 rfl (.lp _ _ _ rfl) (Nbl rfl)) (Ax Ey rfl rfl rfl rfl (Nbl rfl) (Bs [.box (EL.el {b2 with Phase := 1, Epoch := wI (b2.Epoch + 1), Left := 0}), .box (EL.el {b2 with Phase := 1, Epoch := wI (b2.Epoch + 1), Left := 0})] rfl (As (Bj ?_)))))))))))))))))))))))))))
   obtain rfl := Option.some.inj h
   refine ⟨Or.inr rfl, _, _, _, (Ad (Bd.agg _ _ _ _ _ B5 rfl (.lp _ _ _ rfl) (Nbl rfl)) Af), (Aj rfl), ?_⟩
   rfl
  ·skip
   refine ccI h rfl (fun h => ?_) (fun h => ?_)
   ·refine Ab (sv rfl (Ao B5 rfl (.lp _ _ _ rfl) (Nbl rfl)) ?_)
    obtain ⟨v3, hv3, h⟩ := An h
    refine A2 rfl At2 (Ac rfl Al) (Np rfl) (Me hv3) (Ax Ey rfl rfl rfl rfl (Nbl rfl) (Bs [.box (EL.el v3), .box Zba] rfl (As ?_)))
    exact ⟨v3, _, h, ⟨rfl, rfl, trivial⟩, rfl⟩
   ·refine Abt 0 35 rfl rfl E6.nil rfl (Abt 0 37 rfl rfl E6.nil rfl (Bl (Ai ?_)))
    exact ⟨{a0 with Resets := (if 1001 < (wI (a0.Resets + 1)) then 1001 else (wI (a0.Resets + 1))), In := (Bm.mk ([] : List UInt8) 0), Out := ([] : List UInt8)}, _, h, ⟨rfl, rfl, trivial⟩, rfl⟩
 ·skip
  refine Ab (sv rfl (Aa Acy rfl) (sv rfl (Ae ti3 rfl (.lp _ _ _ rfl) rfl) (sv rfl (Aa Qt rfl) (sv rfl (Aa Ak8 rfl) (sv rfl (Ae ti3 rfl (.lp _ _ _ rfl) rfl) (sv rfl (C6 rfl rfl) (sv rfl (Ag rfl) (Bo 17 rfl (fun hc => ?_) (fun hc => ?_)))))))))
  ·replace h := B2 hc h
   clear hc
   refine Av rfl rfl rfl rfl (Av rfl rfl rfl rfl (Av rfl rfl rfl rfl (sv rfl (Au rfl rfl) (As (G0 rfl (fun _ => ?_) (fun hx => Bool.noConfusion hx))))))
   refine Aq (Ab (sv rfl (Ao B5 rfl (.lp _ _ _ rfl) (Nbl rfl)) ?_))
   obtain ⟨v4, hv4, h⟩ := An h
   refine A2 rfl Al5 (Ac rfl Al) (Np rfl) (Dg hv4) (Ax Ey rfl rfl rfl rfl (Nbl rfl) (Bs [.box (((EL.el {a0 with Resets := if 1001 < (wI (a0.Resets + 1)) then 1001 else (wI (a0.Resets + 1)), In.Dead := 0}).set 35 (Znl)).set 37 (Znl)), .box (EL.el v4)] rfl (As (Bj (Ar ?_)))))
   obtain rfl := Option.some.inj h
   refine ⟨Or.inr rfl, _, _, _, (Ad (Bd.agg _ _ _ _ _ B5 rfl (.lp _ _ _ rfl) (Nbl rfl)) Af), (Aj rfl), ?_⟩
   rfl
  ·replace h := B1 hc h
   clear hc
   refine son rfl rfl rfl (sv rfl (Aa Zz rfl) (son rfl rfl rfl (sv rfl (Ae ti3 rfl (.lp _ _ _ rfl) rfl) (son rfl rfl rfl (sv rfl (L8 rfl rfl) (sv rfl (Am rfl rfl) (As (ccI h rfl (fun h => ?_) (fun h => ?_)))))))))
   ·refine Aq (Ab (sv rfl (Ao B5 rfl (.lp _ _ _ rfl) (Nbl rfl)) ?_))
    obtain ⟨v5, hv5, h⟩ := An h
    refine A2 rfl Al5 (Ac rfl Al) (Np rfl) (Dg hv5) (Ax Ey rfl rfl rfl rfl (Nbl rfl) (Bs [.box (((EL.el {a0 with Resets := if 1001 < (wI (a0.Resets + 1)) then 1001 else (wI (a0.Resets + 1)), In.Dead := 0}).set 35 (Znl)).set 37 (Znl)), .box (EL.el v5)] rfl (As (Bj (Ar ?_)))))
    obtain rfl := Option.some.inj h
    refine ⟨Or.inr rfl, _, _, _, (Ad (Bd.agg _ _ _ _ _ B5 rfl (.lp _ _ _ rfl) (Nbl rfl)) Af), (Aj rfl), ?_⟩
    rfl
   ·refine Bl (Ai ?_)
    exact ⟨(), _, h, ⟨rfl, rfl, trivial⟩, rfl⟩
def Mc  : Option Unit :=
 (Cn 2).bind fun v1 => if (!v1) then none else (some ())
set_option maxRecDepth 100000 in
theorem Q3  {r : Unit} (h : Mc = some r) : G2 Tryz.prog 79 [] [.one (Ii6 2)] (fun y m' => y = .s (.one (.raw (.func (.func 99) #[] #[]))) ∧ m' = []) := by
 unfold Mc at h
 refine Cv Tryz.func79 rfl (nt := 11) rfl (Nbl rfl) ?_
 intro w0 S0 X0 H0
 refine Aq (Ab (sv rfl (Ak rfl) (As (Aq (Ab (sv rfl (G6 Rx S4 (Ap rfl (Ap rfl (Ap rfl (Ap rfl (Ap rfl (Ap rfl (Ap rfl Ba))))))) (Ef [.raw .nilFunc, .raw .nilFunc, .raw (.func (.func 99) #[] #[]), .raw .nilFunc, .raw .nilFunc, .raw .nilFunc, .raw .nilFunc, .raw .nilFunc, .raw .nilFunc, .raw .nilFunc] rfl rfl (Nbl rfl) rfl (Ef [.raw .nilFunc, .raw .nilFunc, .raw (.func (.func 99) #[] #[]), .raw (.func (.func 100) #[] #[]), .raw .nilFunc, .raw .nilFunc, .raw .nilFunc, .raw .nilFunc, .raw .nilFunc, .raw .nilFunc] rfl rfl (Nbl rfl) rfl (Ef [.raw .nilFunc, .raw .nilFunc, .raw (.func (.func 99) #[] #[]), .raw (.func (.func 100) #[] #[]), .raw (.func (.func 101) #[] #[]), .raw .nilFunc, .raw .nilFunc, .raw .nilFunc, .raw .nilFunc, .raw .nilFunc] rfl rfl (Nbl rfl) rfl (Ef [.raw .nilFunc, .raw .nilFunc, .raw (.func (.func 99) #[] #[]), .raw (.func (.func 100) #[] #[]), .raw (.func (.func 101) #[] #[]), .raw (.func (.func 102) #[] #[]), .raw .nilFunc, .raw .nilFunc, .raw .nilFunc, .raw .nilFunc] rfl rfl (Nbl rfl) rfl (Ef [.raw .nilFunc, .raw .nilFunc, .raw (.func (.func 99) #[] #[]), .raw (.func (.func 100) #[] #[]), .raw (.func (.func 101) #[] #[]), .raw (.func (.func 102) #[] #[]), .raw (.func (.func 103) #[] #[]), .raw .nilFunc, .raw .nilFunc, .raw .nilFunc] rfl rfl (Nbl rfl) rfl (Ef [.raw .nilFunc, .raw .nilFunc, .raw (.func (.func 99) #[] #[]), .raw (.func (.func 100) #[] #[]), .raw (.func (.func 101) #[] #[]), .raw (.func (.func 102) #[] #[]), .raw (.func (.func 103) #[] #[]), .raw (.func (.func 104) #[] #[]), .raw .nilFunc, .raw .nilFunc] rfl rfl (Nbl rfl) rfl (Ef [.raw .nilFunc, .raw .nilFunc, .raw (.func (.func 99) #[] #[]), .raw (.func (.func 100) #[] #[]), .raw (.func (.func 101) #[] #[]), .raw (.func (.func 102) #[] #[]), .raw (.func (.func 103) #[] #[]), .raw (.func (.func 104) #[] #[]), .raw .nilFunc, .raw (.func (.func 105) #[] #[])] rfl rfl (Nbl rfl) rfl (.nil _))))))))) (Bz rfl Rx (Ax Zt rfl rfl rfl rfl (Nbl rfl) (Bs [.box [.raw .nilFunc, .raw .nilFunc, .raw (.func (.func 99) #[] #[]), .raw (.func (.func 100) #[] #[]), .raw (.func (.func 101) #[] #[]), .raw (.func (.func 102) #[] #[]), .raw (.func (.func 103) #[] #[]), .raw (.func (.func 104) #[] #[]), .raw .nilFunc, .raw (.func (.func 105) #[] #[])]] rfl (As (Aq (Aq (Ab (sv rfl (Ag rfl) ?_))))))))))))))
 obtain ⟨v1, hv1, h⟩ := An h
 refine A2 rfl Aim (Ac rfl Al) (Aj rfl) (Dy hv1) (sv rfl (B9 rfl) (As (ccI h rfl (fun h => ?_) (fun h => ?_))))
 ·refine Aq (Ab ?_)
  cases h
 ·refine Bl (Ai (Aq (Ab (sv rfl (Ag rfl) ?_))))
  refine sv rfl (Oz (o := 2) S4 rfl rfl (by decide)) ?_
  refine sv rfl (Ae Acb rfl (.lp _ _ _ rfl) rfl) (sv rfl (Ak rfl) (As (Bj ?_)))
  obtain rfl := Option.some.inj h
  exact ⟨Or.inr rfl, _, [], [.one (.raw (.func (.func 99) #[] #[]))], [], (Ad (Bd.tmp _ _ rfl) Af), rfl, rfl, ⟨by decide, rfl⟩, rfl, rfl, ⟨rfl, rfl⟩⟩
def Eh (a0 : Ah) (a1 : Bf) : Option Ah :=
 if (!decide (a1.Code = 0)) then ((Cq a0).bind fun v1 => some v1) else ((Dv a0).bind fun v2 => some v2)
set_option maxRecDepth 100000 in
theorem Ny {a0 : Ah} {a1 : Bf} {r : Ah} (h : Eh a0 a1 = some r) : Bp Tryz.prog 99 [.agg (EL.el a0), .agg (EL.el a1)] (· = .s (.agg (EL.el r))) := by
 unfold Eh at h
 refine A1 Tryz.func99 rfl (nt := 12) rfl (Nbl rfl) ?_
 intro w0 S0
 refine Aq (Ab (Jd rfl rfl (Jd rfl rfl (Bz rfl Nn (As (Aq (Aq (Ab (sv rfl (Aa Rd rfl) (sv rfl (Ae Aa1 rfl (.lp _ _ _ rfl) rfl) (sv rfl (Cd rfl rfl) (As (ccI h rfl (fun h => ?_) (fun h => ?_))))))))))))))
 ·refine Aq (Ab (sv rfl (Ao B5 rfl (.lp _ _ _ rfl) (Nbl rfl)) ?_))
  obtain ⟨v1, hv1, h⟩ := An h
  refine A2 rfl Aob (Ac rfl Al) (Aj rfl) (Fj hv1) (Ax Ey rfl rfl rfl rfl (Nbl rfl) (Bs [.box (EL.el a0), .box (EL.el a1), .box (EL.el v1)] rfl (As (Bj (Ar ?_)))))
  obtain rfl := Option.some.inj h
  refine ⟨Or.inr rfl, _, _, _, (Ad (Bd.agg _ _ _ _ _ B5 rfl (.lp _ _ _ rfl) (Nbl rfl)) Af), (Aj rfl), ?_⟩
  rfl
 ·refine Bl (Ai (Aq (Ab (sv rfl (Ao B5 rfl (.lp _ _ _ rfl) (Nbl rfl)) ?_))))
  obtain ⟨v2, hv2, h⟩ := An h
  refine A2 rfl Asz (Ac rfl Al) (Aj rfl) (I7 hv2) (Ax Ey rfl rfl rfl rfl (Nbl rfl) (Bs [.box (EL.el a0), .box (EL.el a1), .box (EL.el v2)] rfl (As (Bj ?_))))
  obtain rfl := Option.some.inj h
  refine ⟨Or.inr rfl, _, _, _, (Ad (Bd.agg _ _ _ _ _ B5 rfl (.lp _ _ _ rfl) (Nbl rfl)) Af), (Aj rfl), ?_⟩
  rfl
def Ln  : Option Unit :=
 (Cn 3).bind fun v1 => if (!v1) then none else (some ())
set_option maxRecDepth 100000 in
theorem Qb  {r : Unit} (h : Ln = some r) : G2 Tryz.prog 79 [] [.one (Ii6 3)] (fun y m' => y = .s (.one (.raw (.func (.func 100) #[] #[]))) ∧ m' = []) := by
 unfold Ln at h
 refine Cv Tryz.func79 rfl (nt := 11) rfl (Nbl rfl) ?_
 intro w0 S0 X0 H0
 refine Aq (Ab (sv rfl (Ak rfl) (As (Aq (Ab (sv rfl (G6 Rx S4 (Ap rfl (Ap rfl (Ap rfl (Ap rfl (Ap rfl (Ap rfl (Ap rfl Ba))))))) (Ef [.raw .nilFunc, .raw .nilFunc, .raw (.func (.func 99) #[] #[]), .raw .nilFunc, .raw .nilFunc, .raw .nilFunc, .raw .nilFunc, .raw .nilFunc, .raw .nilFunc, .raw .nilFunc] rfl rfl (Nbl rfl) rfl (Ef [.raw .nilFunc, .raw .nilFunc, .raw (.func (.func 99) #[] #[]), .raw (.func (.func 100) #[] #[]), .raw .nilFunc, .raw .nilFunc, .raw .nilFunc, .raw .nilFunc, .raw .nilFunc, .raw .nilFunc] rfl rfl (Nbl rfl) rfl (Ef [.raw .nilFunc, .raw .nilFunc, .raw (.func (.func 99) #[] #[]), .raw (.func (.func 100) #[] #[]), .raw (.func (.func 101) #[] #[]), .raw .nilFunc, .raw .nilFunc, .raw .nilFunc, .raw .nilFunc, .raw .nilFunc] rfl rfl (Nbl rfl) rfl (Ef [.raw .nilFunc, .raw .nilFunc, .raw (.func (.func 99) #[] #[]), .raw (.func (.func 100) #[] #[]), .raw (.func (.func 101) #[] #[]), .raw (.func (.func 102) #[] #[]), .raw .nilFunc, .raw .nilFunc, .raw .nilFunc, .raw .nilFunc] rfl rfl (Nbl rfl) rfl (Ef [.raw .nilFunc, .raw .nilFunc, .raw (.func (.func 99) #[] #[]), .raw (.func (.func 100) #[] #[]), .raw (.func (.func 101) #[] #[]), .raw (.func (.func 102) #[] #[]), .raw (.func (.func 103) #[] #[]), .raw .nilFunc, .raw .nilFunc, .raw .nilFunc] rfl rfl (Nbl rfl) rfl (Ef [.raw .nilFunc, .raw .nilFunc, .raw (.func (.func 99) #[] #[]), .raw (.func (.func 100) #[] #[]), .raw (.func (.func 101) #[] #[]), .raw (.func (.func 102) #[] #[]), .raw (.func (.func 103) #[] #[]), .raw (.func (.func 104) #[] #[]), .raw .nilFunc, .raw .nilFunc] rfl rfl (Nbl rfl) rfl (Ef [.raw .nilFunc, .raw .nilFunc, .raw (.func (.func 99) #[] #[]), .raw (.func (.func 100) #[] #[]), .raw (.func (.func 101) #[] #[]), .raw (.func (.func 102) #[] #[]), .raw (.func (.func 103) #[] #[]), .raw (.func (.func 104) #[] #[]), .raw .nilFunc, .raw (.func (.func 105) #[] #[])] rfl rfl (Nbl rfl) rfl (.nil _))))))))) (Bz rfl Rx (Ax Zt rfl rfl rfl rfl (Nbl rfl) (Bs [.box [.raw .nilFunc, .raw .nilFunc, .raw (.func (.func 99) #[] #[]), .raw (.func (.func 100) #[] #[]), .raw (.func (.func 101) #[] #[]), .raw (.func (.func 102) #[] #[]), .raw (.func (.func 103) #[] #[]), .raw (.func (.func 104) #[] #[]), .raw .nilFunc, .raw (.func (.func 105) #[] #[])]] rfl (As (Aq (Aq (Ab (sv rfl (Ag rfl) ?_))))))))))))))
 obtain ⟨v1, hv1, h⟩ := An h
 refine A2 rfl Aim (Ac rfl Al) (Aj rfl) (Dy hv1) (sv rfl (B9 rfl) (As (ccI h rfl (fun h => ?_) (fun h => ?_))))
 ·refine Aq (Ab ?_)
  cases h
 ·refine Bl (Ai (Aq (Ab (sv rfl (Ag rfl) ?_))))
  refine sv rfl (Oz (o := 3) S4 rfl rfl (by decide)) ?_
  refine sv rfl (Ae Acb rfl (.lp _ _ _ rfl) rfl) (sv rfl (Ak rfl) (As (Bj ?_)))
  obtain rfl := Option.some.inj h
  exact ⟨Or.inr rfl, _, [], [.one (.raw (.func (.func 100) #[] #[]))], [], (Ad (Bd.tmp _ _ rfl) Af), rfl, rfl, ⟨by decide, rfl⟩, rfl, rfl, ⟨rfl, rfl⟩⟩
def Ct (a0 : Ah) (b2 : A8) : Option Ah :=
 (C4 a0 b2).bind fun v3 => (Cb ({v3 with Phase := 9, Risk := false}) (Ca.mk 10 0 b2.Token 0 false ([] : List UInt8) ([] : List UInt8) Bt)).bind fun v4 => some v4
def Bu (a0 : Ah) (a1 : Int) (a2 : Int) : Option Ah :=
 (idx a0.Tasks 0).bind fun u1 => if (decide (a1 = 1)) then (Ct a0 (A8.mk u1.Token a1 a0.Attempt a2 a0.St.Regs)) else (Ct a0 (A8.mk u1.Token a1 a0.Attempt a2 (E3.mk 0 0 0 0 0 0 0 0)))
set_option maxRecDepth 100000 in
theorem Cc {a0 : Ah} {a1 : Int} {a2 : Int} {r : Ah} (h : Bu a0 a1 a2 = some r) : Bp Tryz.prog 119 [.agg (EL.el a0), .one (Ii6 a1), .one (Ii6 a2)] (· = .s (.agg (EL.el r))) := by
 unfold Bu at h
 refine A1 Tryz.func119 rfl (nt := 34) rfl (Nbl rfl) ?_
 intro w0 S0
 refine Aq (Ab (Jd rfl rfl (Bz rfl Nn (As (Aq (Ad2 ?_))))))
 obtain ⟨u1, hu1, h⟩ := An h
 refine Kb [10, 11] [0, 1, 3, 7, 15, 0, 0, 64, 0, 511, 0, 2047] [[.box (EL.el a0), .box Zba, .hole], [.box (EL.el a0), .box Zba, .box [Ii6 0, Ii6 0, Ii6 0, Ii6 0, Ii6 0, Ii6 0, Ii6 0, Ii6 0, Ii6 0, Ii6 0, Ii6 0, Ii6 0]], [.box (EL.el a0), .box Zba, .box [Ii6 u1.Token, Ii6 a1, Ii6 a0.Attempt, Ii6 a2, Ii6 0, Ii6 0, Ii6 0, Ii6 0, Ii6 0, Ii6 0, Ii6 0, Ii6 0]]] (by kernel_rfl) Ma (by kernel_rfl) (by decide) rfl rfl rfl rfl ?_
 refine ev (B4 (md := [.box (EL.el a0), .box Zba, .dead]) ⟨⟨rfl, ⟨rfl, ⟨trivial, trivial⟩⟩⟩, ⟨⟨rfl, ⟨rfl, ⟨trivial, trivial⟩⟩⟩, ⟨⟨rfl, ⟨rfl, ⟨trivial, trivial⟩⟩⟩, trivial⟩⟩⟩) rfl rfl (Aa Lw rfl) (ev (B4 (md := [.box (EL.el a0), .box Zba, .dead]) ⟨⟨rfl, ⟨rfl, ⟨trivial, trivial⟩⟩⟩, ⟨⟨rfl, ⟨rfl, ⟨trivial, trivial⟩⟩⟩, ⟨⟨rfl, ⟨rfl, ⟨trivial, trivial⟩⟩⟩, trivial⟩⟩⟩) rfl rfl (Ae Xy rfl (.lp _ _ _ rfl) rfl) (ev (B4 (md := [.box (EL.el a0), .box Zba, .dead]) ⟨⟨rfl, ⟨rfl, ⟨trivial, trivial⟩⟩⟩, ⟨⟨rfl, ⟨rfl, ⟨trivial, trivial⟩⟩⟩, ⟨⟨rfl, ⟨rfl, ⟨trivial, trivial⟩⟩⟩, trivial⟩⟩⟩) rfl rfl (Fe (f := Ay) T6 (fun _ => rfl) rfl rfl rfl rfl hu1) ?_))
 refine ev (B4 (md := [.box (EL.el a0), .box Zba, .dead]) ⟨⟨rfl, ⟨rfl, ⟨trivial, trivial⟩⟩⟩, ⟨⟨rfl, ⟨rfl, ⟨trivial, trivial⟩⟩⟩, ⟨⟨rfl, ⟨rfl, ⟨trivial, trivial⟩⟩⟩, trivial⟩⟩⟩) rfl rfl (B3 Sj rfl) (ev (B4 (md := [.box (EL.el a0), .box Zba, .dead]) ⟨⟨rfl, ⟨rfl, ⟨trivial, trivial⟩⟩⟩, ⟨⟨rfl, ⟨rfl, ⟨trivial, trivial⟩⟩⟩, ⟨⟨rfl, ⟨rfl, ⟨trivial, trivial⟩⟩⟩, trivial⟩⟩⟩) rfl rfl (Ae ti3 rfl (.cp _) rfl) (emv rfl rfl (fun _ => Ag rfl) ?_))
 refine ev (B4 (md := [.box (EL.el a0), .box Zba, .dead]) ⟨⟨rfl, ⟨rfl, ⟨trivial, trivial⟩⟩⟩, ⟨⟨rfl, ⟨rfl, ⟨trivial, trivial⟩⟩⟩, ⟨⟨rfl, ⟨rfl, ⟨trivial, trivial⟩⟩⟩, trivial⟩⟩⟩) rfl rfl (Aa Oe rfl) (ev (B4 (md := [.box (EL.el a0), .box Zba, .dead]) ⟨⟨rfl, ⟨rfl, ⟨trivial, trivial⟩⟩⟩, ⟨⟨rfl, ⟨rfl, ⟨trivial, trivial⟩⟩⟩, ⟨⟨rfl, ⟨rfl, ⟨trivial, trivial⟩⟩⟩, trivial⟩⟩⟩) rfl rfl (Ae ti3 rfl (.lp _ _ _ rfl) rfl) (emv rfl rfl (fun _ => Ag rfl) ?_))
 refine ev (B4 (md := [.box (EL.el a0), .box Zba, .dead]) ⟨⟨rfl, ⟨rfl, ⟨trivial, trivial⟩⟩⟩, ⟨⟨rfl, ⟨rfl, ⟨trivial, trivial⟩⟩⟩, ⟨⟨rfl, ⟨rfl, ⟨trivial, trivial⟩⟩⟩, trivial⟩⟩⟩) rfl rfl (Bk Aoc Arn (Ap rfl (Ap rfl (Ap rfl (Ap rfl Ba)))) (.cons _ _ _ _ _ _ _ rfl rfl (Nbl rfl) (.cons _ _ _ _ _ _ _ rfl rfl (Nbl rfl) (.cons _ _ _ _ _ _ _ rfl rfl (Nbl rfl) (.cons _ _ _ _ _ _ _ rfl rfl (Nbl rfl) (.nil _)))))) (ee (x := .s (.one (.lp 2 0))) 0 rfl rfl rfl rfl rfl (fun ζ => ?_) ?_)
 ·refine Nm 2 rfl Aoc rfl ?_
  exact Sd
 refine ee0 1 rfl rfl rfl rfl (fun ζ => ?_) ?_
 ·refine Ax Atn rfl rfl rfl rfl (Nbl rfl) (Bs [.box (EL.el a0), .box Zba, .box [Ii6 u1.Token, Ii6 a1, Ii6 a0.Attempt, Ii6 a2, Ii6 0, Ii6 0, Ii6 0, Ii6 0, Ii6 0, Ii6 0, Ii6 0, Ii6 0]] rfl ?_)
  exact Sd
 refine Y1 (Ai (Aq (Aq (Ab (sv rfl (Ag rfl) (sv rfl (Bq rfl rfl) (As (G5 (A8) (fun b2 => [(3, .s (.one (.lp 0 0))), (6, .s (.one (.lp 1 0))), (7, .s (.one (.lp 2 0)))]) (fun b2 => [.box (EL.el a0), .box Zba, .box (EL.el b2)]) (fun b2 => Ct a0 b2 = some r) (fun _ _ => Be rfl) (fun _ _ => A0 rfl) (fun _ _ => Nat.le_of_ble_eq_true rfl) (fun b2 h => ?_) ?_))))))))
 ·unfold Ct at h
  refine Aq (Ab (sv rfl (Ao B5 rfl (.lp _ _ _ rfl) (Nbl rfl)) (sv rfl (Ao Ary rfl (.lp _ _ _ rfl) (Nbl rfl)) ?_)))
  obtain ⟨v3, hv3, h⟩ := An h
  refine A2 rfl Arc (Ac rfl (Ac rfl Al)) (Aj rfl) (H8 hv3) (Ax Ey rfl rfl rfl rfl (Nbl rfl) (Bs [.box (EL.el v3), .box Zba, .box (EL.el b2)] rfl (As (Aq (Ab (sv rfl (Aa Xo rfl) (Ax sz4 rfl rfl rfl rfl (Nbl rfl) (Bs [.box (EL.el {v3 with Risk := false}), .box Zba, .box (EL.el b2)] rfl (As (Aq (Ab (sv rfl (Aa G4 rfl) (Ax sz3 rfl rfl rfl rfl (Nbl rfl) (Bs [.box (EL.el {v3 with Phase := 9, Risk := false}), .box Zba, .box (EL.el b2)] rfl (As (Aq (Ab (sv rfl (Ao B5 rfl (.lp _ _ _ rfl) (Nbl rfl)) (sv rfl (Aa Af0 rfl) (sv rfl (Ae ti3 rfl (.lp _ _ _ rfl) rfl) (sv rfl (Bk Aax Aed (Ap rfl (Ap rfl Ba)) (.cons _ _ _ _ _ _ _ rfl rfl (Nbl rfl) (.cons _ _ _ _ _ _ _ rfl rfl (Nbl rfl) (.nil _)))) ?_)))))))))))))))))))))
  obtain ⟨v4, hv4, h⟩ := An h
  refine A2 rfl Amx (Ac rfl (Ac rfl Al)) (Np rfl) (C7 hv4) (Ax Ey rfl rfl rfl rfl (Nbl rfl) (Bs [.box (EL.el {v3 with Phase := 9, Risk := false}), .box (EL.el v4), .box (EL.el b2)] rfl (As (Bj ?_))))
  obtain rfl := Option.some.inj h
  refine ⟨Or.inr rfl, _, _, _, (Ad (Bd.agg _ _ _ _ _ B5 rfl (.lp _ _ _ rfl) (Nbl rfl)) Af), (Aj rfl), ?_⟩
  rfl
 ·skip
  refine ccI h rfl (fun h => ?_) (fun h => ?_)
  ·refine Ab (sv rfl (Aa Py rfl) (sv rfl (Aa O0 rfl) (sv rfl (Ao Aua rfl (.lp _ _ _ rfl) (Nbl rfl)) (sv rfl (Aa An9 rfl) (Ax Av5 rfl rfl rfl rfl (Nbl rfl) (Bs [.box (EL.el a0), .box Zba, .box (EL.el (A8.mk u1.Token a1 a0.Attempt a2 a0.St.Regs))] rfl (As ?_)))))))
   exact ⟨(A8.mk u1.Token a1 a0.Attempt a2 a0.St.Regs), _, h, ⟨rfl, rfl, rfl, trivial⟩, rfl⟩
  ·refine Bl (Ai ?_)
   exact ⟨(A8.mk u1.Token a1 a0.Attempt a2 (E3.mk 0 0 0 0 0 0 0 0)), _, h, ⟨rfl, rfl, rfl, trivial⟩, rfl⟩
def Dm (a0 : Dn) (a1 : Int) (a2 : BitVec 64) : Option (Int × Bool) :=
 (Gw a0 a1).bind fun v1 => if (!v1.2) then (some (0, false)) else (if (BitVec.ofInt 64 (wI ((wI (v1.1.tdiv 2)) + 1))) ≠ 0 then (some ((wI (v1.1 + (wI (((((a2 + (BitVec.ofInt 64 a1)) * (11400714819323198485#64)) ^^^ (((a2 + (BitVec.ofInt 64 a1)) * (11400714819323198485#64)) >>> (32 : Int).toNat)) % (BitVec.ofInt 64 (wI ((wI (v1.1.tdiv 2)) + 1)))).toNat : Int)))), true)) else none)
set_option maxRecDepth 100000 in
theorem Sx {a0 : Dn} {a1 : Int} {a2 : BitVec 64} {r : Int × Bool} (h : Dm a0 a1 a2 = some r) : Bp Tryz.prog 129 [.agg (EL.el a0), .one (Ii6 a1), .one (.i .u64 (a2.toNat : Int))] (· = .tup [.one (Ii6 r.1), .one (.b r.2)]) := by
 unfold Dm at h
 refine A1 Tryz.func129 rfl (nt := 38) rfl (Nbl rfl) ?_
 intro w0 S0
 refine Aq (Ab (Jd rfl rfl (sv rfl (Ak rfl) (sv rfl (Ak rfl) (As (Aq (Ab (sv rfl (Ao Aj4 rfl (.lp _ _ _ rfl) (Nbl rfl)) (sv rfl (Ag rfl) ?_)))))))))
 obtain ⟨v1, hv1, h⟩ := An h
 refine A2 rfl Aql (Ac rfl (Ac rfl Al)) (Aj rfl) (K9 hv1) (sv rfl (Gj rfl) (sv rfl (Bc rfl rfl) (sv rfl (Bc rfl rfl) (sv rfl (Ak rfl) (sv rfl (Ak rfl) (As (Aq (Aq (Ab (sv rfl (Ag rfl) (sv rfl (B9 rfl) (As (ccI h rfl (fun h => ?_) (fun h => ?_))))))))))))))
 ·refine Aq (Ab (sv rfl (Ak rfl) (sv rfl (Ak rfl) (As (Bj (Ar ?_))))))
  obtain rfl := Option.some.inj h
  refine ⟨Or.inr rfl, _, _, _, (Ad (Bd.tmp _ _ rfl) (Ad (Bd.tmp _ _ rfl) Af)), (Aj rfl), ?_⟩
  rfl
 ·refine Bl (Ai (Aq (Ab (sv rfl (Ag rfl) (sv rfl (Ag rfl) (sv rfl (C3 rfl Tryz.underlying3 Tryz.underlying112 rfl) (sv rfl (Abp (a := a2) (b := (BitVec.ofInt 64 a1)) rfl rfl rfl rfl) (sv rfl (Abx (a := (a2 + (BitVec.ofInt 64 a1))) (b := 11400714819323198485#64) rfl rfl rfl rfl) (sv rfl (Ak rfl) (As (Aq (Ab (sv rfl (Ag rfl) (sv rfl (Ag rfl) ?_))))))))))))))
  refine sv rfl (V8 (a := ((a2 + (BitVec.ofInt 64 a1)) * (11400714819323198485#64))) rfl rfl rfl (by decide)) ?_
  refine sv rfl (Ab2 (a := ((a2 + (BitVec.ofInt 64 a1)) * (11400714819323198485#64))) (b := (((a2 + (BitVec.ofInt 64 a1)) * (11400714819323198485#64)) >>> (32 : Int).toNat)) rfl rfl rfl rfl) (sv rfl (Ak rfl) (As (Aq (Ab (sv rfl (Ag rfl) (sv rfl (Ag rfl) (sv rfl (Ag rfl) ?_)))))))
  refine sv rfl (Aif rfl rfl (by decide)) ?_
  refine sv rfl (B0 rfl rfl) (sv rfl (C3 rfl Tryz.underlying3 Tryz.underlying112 rfl) ?_)
  obtain ⟨hz2, h⟩ := D9 h
  refine sv rfl (Abm (a := (((a2 + (BitVec.ofInt 64 a1)) * (11400714819323198485#64)) ^^^ (((a2 + (BitVec.ofInt 64 a1)) * (11400714819323198485#64)) >>> (32 : Int).toNat))) (b := (BitVec.ofInt 64 (wI ((wI (v1.1.tdiv 2)) + 1)))) rfl rfl rfl rfl hz2) (sv rfl (F0 Tryz.underlying112 Tryz.underlying3 rfl) (sv rfl (B0 rfl rfl) (sv rfl (Ak rfl) (sv rfl (Ak rfl) (As (Bj ?_))))))
  obtain rfl := Option.some.inj h
  refine ⟨Or.inr rfl, _, _, _, (Ad (Bd.tmp _ _ rfl) (Ad (Bd.tmp _ _ rfl) Af)), (Aj rfl), ?_⟩
  rfl
def Cg (a0 : Ah) : Option Ah :=
 if (decide (a0.Cfg.Attempts ≤ a0.Attempt)) then ((Bu a0 3 0).bind fun v1 => some v1) else ((Dm a0.Cfg.Plan (if (wI (a0.Cfg.Plan.Tries - 1)) < (wI ((wI (a0.Attempt + 1)) - 1)) then (wI (a0.Cfg.Plan.Tries - 1)) else (wI ((wI (a0.Attempt + 1)) - 1))) (BitVec.ofInt 64 a0.Cfg.Who)).bind fun v2 => some ({a0 with Phase := 8, Attempt := (wI (a0.Attempt + 1)), Left := v2.1, Risk := false}))
set_option maxRecDepth 100000 in
theorem Eg {a0 : Ah} {r : Ah} (h : Cg a0 = some r) : Bp Tryz.prog 117 [.agg (EL.el a0)] (· = .s (.agg (EL.el r))) := by
 unfold Cg at h
 refine A1 Tryz.func117 rfl (nt := 41) rfl (Nbl rfl) ?_
 intro w0 S0
 refine Aq (Ab (Jd rfl rfl (Bz rfl Nn (As (Aq (Aq (Ab (sv rfl (Aa Oe rfl) (sv rfl (Ae ti3 rfl (.lp _ _ _ rfl) rfl) (sv rfl (Aa Qt rfl) (sv rfl (Aa Afq rfl) (sv rfl (Ae ti3 rfl (.lp _ _ _ rfl) rfl) (sv rfl (L8 rfl rfl) (As (ccI h rfl (fun h => ?_) (fun h => ?_))))))))))))))))
 ·refine Aq (Ab (sv rfl (Ao B5 rfl (.lp _ _ _ rfl) (Nbl rfl)) ?_))
  obtain ⟨v1, hv1, h⟩ := An h
  refine A2 rfl Aal (Ac rfl (Ac rfl (Ac rfl Al))) (Aj rfl) (Cc hv1) (Ax Ey rfl rfl rfl rfl (Nbl rfl) (Bs [.box (EL.el a0), .box (EL.el v1)] rfl (As (Bj (Ar ?_)))))
  obtain rfl := Option.some.inj h
  refine ⟨Or.inr rfl, _, _, _, (Ad (Bd.agg _ _ _ _ _ B5 rfl (.lp _ _ _ rfl) (Nbl rfl)) Af), (Aj rfl), ?_⟩
  rfl
 ·refine Bl (Ai (Aq (Ab (sv rfl (Aa Oe rfl) (sv rfl (Ae ti3 rfl (.lp _ _ _ rfl) rfl) (sv rfl (B0 rfl rfl) (sv rfl (Aa Oe rfl) (Ax sz3 rfl rfl rfl rfl (Nbl rfl) (Bs [.box (EL.el {a0 with Attempt := wI (a0.Attempt + 1)}), .box Zba] rfl (As (Aq (Ab (sv rfl (Aa Xo rfl) (Ax sz4 rfl rfl rfl rfl (Nbl rfl) (Bs [.box (EL.el {a0 with Attempt := wI (a0.Attempt + 1), Risk := false}), .box Zba] rfl (As (Aq (Ab (sv rfl (Aa G4 rfl) (Ax sz3 rfl rfl rfl rfl (Nbl rfl) (Bs [.box (EL.el {a0 with Phase := 8, Attempt := wI (a0.Attempt + 1), Risk := false}), .box Zba] rfl (As (Aq (Ab (sv rfl (Aa Oe rfl) (sv rfl (Ae ti3 rfl (.lp _ _ _ rfl) rfl) (sv rfl (Mq rfl rfl) (sv rfl (Aa Qt rfl) (sv rfl (Aa Wt rfl) (sv rfl (Aa Aap rfl) (sv rfl (Ae ti3 rfl (.lp _ _ _ rfl) rfl) (sv rfl (Mq rfl rfl) (sv rfl (Sw rfl rfl) (sv rfl (Ak rfl) (As (Aq (Ab (sv rfl (Aa Qt rfl) (sv rfl (Aa Wt rfl) (sv rfl (Ao Aj4 rfl (.lp _ _ _ rfl) (Nbl rfl)) (sv rfl (Ag rfl) (sv rfl (Aa Qt rfl) (sv rfl (Aa Agn rfl) (sv rfl (Ae ti3 rfl (.lp _ _ _ rfl) rfl) (sv rfl (C3 rfl Tryz.underlying3 Tryz.underlying112 rfl) ?_)))))))))))))))))))))))))))))))))))))))))))))
  obtain ⟨v2, hv2, h⟩ := An h
  refine A2 rfl Ati (Ac rfl (Ac rfl (Ac rfl Al))) (Aj rfl) (Sx hv2) (sv rfl (Gj rfl) (sv rfl (Bc rfl rfl) (sv rfl (Bc rfl rfl) (sv rfl (Aa Ra rfl) (Ax sz3 rfl rfl rfl rfl (Nbl rfl) (Bs [.box (EL.el {a0 with Phase := 8, Attempt := wI (a0.Attempt + 1), Left := v2.1, Risk := false}), .box Zba] rfl (As (Aq (Ab (sv rfl (Ao B5 rfl (.lp _ _ _ rfl) (Nbl rfl)) (Ax Ey rfl rfl rfl rfl (Nbl rfl) (Bs [.box (EL.el {a0 with Phase := 8, Attempt := wI (a0.Attempt + 1), Left := v2.1, Risk := false}), .box (EL.el {a0 with Phase := 8, Attempt := wI (a0.Attempt + 1), Left := v2.1, Risk := false})] rfl (As (Bj ?_))))))))))))))
  obtain rfl := Option.some.inj h
  refine ⟨Or.inr rfl, _, _, _, (Ad (Bd.agg _ _ _ _ _ B5 rfl (.lp _ _ _ rfl) (Nbl rfl)) Af), (Aj rfl), ?_⟩
  rfl
def Df (a0 : Ah) (a1 : Int) : Option Ah :=
 if (decide (a1 = 7)) then ((D5 a0).bind fun v1 => some v1) else ((Cg a0).bind fun v2 => some v2)
set_option maxRecDepth 100000 in
theorem Kg {a0 : Ah} {a1 : Int} {r : Ah} (h : Df a0 a1 = some r) : Bp Tryz.prog 115 [.agg (EL.el a0), .one (Ii6 a1)] (· = .s (.agg (EL.el r))) := by
 unfold Df at h
 refine A1 Tryz.func115 rfl (nt := 11) rfl (Nbl rfl) ?_
 intro w0 S0
 refine Aq (Ab (Jd rfl rfl (Bz rfl Nn (As (Aq (Aq (Ab (sv rfl (Ag rfl) (sv rfl (Bq rfl rfl) (As (ccI h rfl (fun h => ?_) (fun h => ?_))))))))))))
 ·refine Aq (Ab (sv rfl (Ao B5 rfl (.lp _ _ _ rfl) (Nbl rfl)) ?_))
  obtain ⟨v1, hv1, h⟩ := An h
  refine A2 rfl Asm (Ac rfl Al) (Aj rfl) (Jn hv1) (Ax Ey rfl rfl rfl rfl (Nbl rfl) (Bs [.box (EL.el a0), .box (EL.el v1)] rfl (As (Bj (Ar ?_)))))
  obtain rfl := Option.some.inj h
  refine ⟨Or.inr rfl, _, _, _, (Ad (Bd.agg _ _ _ _ _ B5 rfl (.lp _ _ _ rfl) (Nbl rfl)) Af), (Aj rfl), ?_⟩
  rfl
 ·refine Bl (Ai (Aq (Ab (sv rfl (Ao B5 rfl (.lp _ _ _ rfl) (Nbl rfl)) ?_))))
  obtain ⟨v2, hv2, h⟩ := An h
  refine A2 rfl Ahj (Ac rfl Al) (Aj rfl) (Eg hv2) (Ax Ey rfl rfl rfl rfl (Nbl rfl) (Bs [.box (EL.el a0), .box (EL.el v2)] rfl (As (Bj ?_))))
  obtain rfl := Option.some.inj h
  refine ⟨Or.inr rfl, _, _, _, (Ad (Bd.agg _ _ _ _ _ B5 rfl (.lp _ _ _ rfl) (Nbl rfl)) Af), (Aj rfl), ?_⟩
  rfl
def J4 (a0 : B6) : Option Bool :=
 (Gp a0.What).bind fun v1 => some (!((v1.R0 == false) && ((v1.R1 == false) && ((v1.R2 == false) && true))))
set_option maxRecDepth 100000 in
theorem P4 {a0 : B6} {r : Bool} (h : J4 a0 = some r) : Bp Tryz.prog 130 [.agg (EL.el a0)] (· = .s (.one (.b r))) := by
 unfold J4 at h
 refine A1 Tryz.func130 rfl (nt := 8) rfl (Nbl rfl) ?_
 intro w0 S0
 refine Aq (Ab (Jd rfl rfl (sv rfl (Ak rfl) (As (Aq (Ab (sv rfl (Aa Vu rfl) (sv rfl (Ae ti3 rfl (.lp _ _ _ rfl) rfl) ?_))))))))
 obtain ⟨v1, hv1, h⟩ := An h
 refine A2 rfl Ap6 (Ac rfl Al) (Aj rfl) (Oj hv1) (sv rfl (G6 Aab Aa9 Ba (.nil _)) (sv rfl (Adg Aoq rfl rfl rfl rfl rfl) (sv rfl (Ak rfl) (As (Bj ?_)))))
 obtain rfl := Option.some.inj h
 refine ⟨Or.inr rfl, _, _, _, (Ad (Bd.tmp _ _ rfl) Af), (Aj rfl), ?_⟩
 rfl
def N1 (a0 : Int) : Option (List UInt8) :=
 (Ei ([] : List UInt8) (BitVec.ofInt 64 a0) 4).bind fun v1 => some v1
set_option maxRecDepth 100000 in
theorem W0 {a0 : Int} {r : (List UInt8)} (h : N1 a0 = some r) : Bp Tryz.prog 140 [.one (Ii6 a0)] (· = .s (.one (.sl r.length (r.flatMap eU8)))) := by
 unfold N1 at h
 refine A1 Tryz.func140 rfl (nt := 6) rfl (Nbl rfl) ?_
 intro w0 S0
 refine Aq (Ab (sv rfl (Ak rfl) (As (Aq (Ab (sv rfl (Ag rfl) (sv rfl (C3 rfl Tryz.underlying3 Tryz.underlying112 rfl) ?_)))))))
 obtain ⟨v1, hv1, h⟩ := An h
 refine A2 rfl Aaz (Ac rfl (Ac rfl (Ac rfl Al))) (Np rfl) (El hv1) (sv rfl (Ak rfl) (As (Bj ?_)))
 obtain rfl := Option.some.inj h
 refine ⟨Or.inr rfl, _, _, _, (Ad (Bd.tmp _ _ rfl) Af), (Aj rfl), ?_⟩
 rfl
def Ec (a0 : B6) (a1 : A7) : Option Ca :=
 if (decide (a0.What = 1)) then (some (Ca.mk 3 0 0 0 false a0.Key ([] : List UInt8) Bt)) else (if (decide (a0.What = 2)) then (if 0 ≤ a0.B ∧ a0.B < ((8 : Nat) : Int) then ((idx [a1.Regs.R0, a1.Regs.R1, a1.Regs.R2, a1.Regs.R3, a1.Regs.R4, a1.Regs.R5, a1.Regs.R6, a1.Regs.R7] a0.B).bind fun u2 => (N1 u2).bind fun v3 => some (Ca.mk 4 0 0 0 false a0.Key v3 Bt)) else none) else (if (decide (a0.What = 3)) then (some (Ca.mk 5 0 0 0 false a0.Key ([] : List UInt8) Bt)) else (some (Ca.mk 6 0 0 0 false ([] : List UInt8) ([] : List UInt8) a0.Rng))))
set_option maxRecDepth 100000 in
theorem Sz {a0 : B6} {a1 : A7} {r : Ca} (h : Ec a0 a1 = some r) : Bp Tryz.prog 135 [.agg (EL.el a0), .agg (EL.el a1)] (· = .s (.agg (EL.el r))) := by
 unfold Ec at h
 refine A1 Tryz.func135 rfl (nt := 31) rfl (Nbl rfl) ?_
 intro w0 S0
 refine Aq (Ab (Jd rfl rfl (Jd rfl rfl (Bz rfl Aax (As (Aq (Aq (Ab (sv rfl (Aa Vu rfl) (sv rfl (Ae ti3 rfl (.lp _ _ _ rfl) rfl) (As (B7 (Aq (Ab (sv rfl (Bq rfl rfl) (sv rfl (Ak rfl) (As (ccI h rfl (fun h => ?_) (fun h => ?_)))))))))))))))))))
 ·refine Aq (Ab (sv rfl (Aa Aay rfl) (sv rfl (Ae L4 rfl (.lp _ _ _ rfl) rfl) (sv rfl (Bk Aax Aed (Ap rfl (Ap rfl Ba)) (.cons _ _ _ _ _ _ _ rfl rfl (Nbl rfl) (.cons _ _ _ _ _ _ _ rfl rfl (Nbl rfl) (.nil _)))) (Ax Ah0 rfl rfl rfl rfl (Nbl rfl) (Bs [.box (EL.el a0), .box (EL.el a1), .box [Ii6 3, Ii6 0, Ii6 0, Ii6 0, .b false, .sl a0.Key.length (a0.Key.flatMap eU8), Znl, Znl, Znl, .b false]] rfl (As (Bj (A9 (Ar ?_))))))))))
  obtain rfl := Option.some.inj h
  refine ⟨Or.inr rfl, _, _, _, (Ad (Bd.agg _ _ _ _ _ Ad4 rfl (.lp _ _ _ rfl) (Nbl rfl)) Af), (Np rfl), ?_⟩
  rfl
 ·refine Aq (Ab (sv rfl (Bq rfl rfl) (sv rfl (Ak rfl) (As (ccI h rfl (fun h => ?_) (fun h => ?_))))))
  ·refine Aq ?_
   obtain ⟨hj1, h⟩ := D9 h
   obtain ⟨u2, hu2, h⟩ := An h
   obtain ⟨v3, hv3, h⟩ := An h
   refine Kb [9] [0, 1, 0, 4, 0, 28, 60, 124, 255, 511] [[.box (EL.el a0), .box (EL.el a1), .box Zbc], [.box (EL.el a0), .box (EL.el a1), .box [Ii6 4, Ii6 0, Ii6 0, Ii6 0, .b false, .sl a0.Key.length (a0.Key.flatMap eU8), .sl v3.length (v3.flatMap eU8), Znl, Znl, .b false]]] (by kernel_rfl) Ma (by kernel_rfl) (by decide) rfl rfl rfl rfl ?_
   refine ev (Bh 0 rfl rfl) rfl rfl (Aa Aay rfl) (ev (Bh 0 rfl rfl) rfl rfl (Ae L4 rfl (.lp _ _ _ rfl) rfl) (ev (Bh 0 rfl rfl) rfl rfl (Aa Xt rfl) (ev (Bh 0 rfl rfl) rfl rfl (Ae ti3 rfl (.lp _ _ _ rfl) rfl) (ev (Bh 0 rfl rfl) rfl rfl (Aa O0 rfl) (ev (Bh 0 rfl rfl) rfl rfl (L6 Aeq rfl rfl hj1) (ev (Bh 0 rfl rfl) rfl rfl (Vs (fun x => Ii6 x) [.b a1.Stopped] ti3 rfl rfl rfl hu2) ?_))))))
   refine ed (Bh 0 rfl rfl) rfl rfl (D2 Ar7 (Ac rfl Al) rfl (W0 hv3)) (ev (Bh 0 rfl rfl) rfl rfl (Bk Aax Aed (Ap rfl (Ap rfl (Ap rfl Ba))) (.cons _ _ _ _ _ _ _ rfl rfl (Nbl rfl) (.cons _ _ _ _ _ _ _ rfl rfl (Nbl rfl) (.cons _ _ _ _ _ _ _ rfl rfl (Nbl rfl) (.nil _))))) (ee0 0 rfl rfl rfl rfl (fun ζ => ?_) ?_))
   ·refine Ax Ah0 rfl rfl rfl rfl (Nbl rfl) (Bs [.box (EL.el a0), .box (EL.el a1), .box [Ii6 4, Ii6 0, Ii6 0, Ii6 0, .b false, .sl a0.Key.length (a0.Key.flatMap eU8), .sl v3.length (v3.flatMap eU8), Znl, Znl, .b false]] rfl ?_)
    exact Sd
   refine Y1 (Ai (Bj (A9 (Ar ?_))))
   obtain rfl := Option.some.inj h
   refine ⟨Or.inr rfl, _, _, _, (Ad (Bd.agg _ _ _ _ _ Ad4 rfl (.lp _ _ _ rfl) (Nbl rfl)) Af), (Np rfl), ?_⟩
   rfl
  ·refine Aq (Ab (sv rfl (Bq rfl rfl) (sv rfl (Ak rfl) (As (ccI h rfl (fun h => ?_) (fun h => ?_))))))
   ·refine Aq (Ab (sv rfl (Aa Aay rfl) (sv rfl (Ae L4 rfl (.lp _ _ _ rfl) rfl) (sv rfl (Bk Aax Aed (Ap rfl (Ap rfl Ba)) (.cons _ _ _ _ _ _ _ rfl rfl (Nbl rfl) (.cons _ _ _ _ _ _ _ rfl rfl (Nbl rfl) (.nil _)))) (Ax Ah0 rfl rfl rfl rfl (Nbl rfl) (Bs [.box (EL.el a0), .box (EL.el a1), .box [Ii6 5, Ii6 0, Ii6 0, Ii6 0, .b false, .sl a0.Key.length (a0.Key.flatMap eU8), Znl, Znl, Znl, .b false]] rfl (As (Bj (A9 (Ar ?_))))))))))
    obtain rfl := Option.some.inj h
    refine ⟨Or.inr rfl, _, _, _, (Ad (Bd.agg _ _ _ _ _ Ad4 rfl (.lp _ _ _ rfl) (Nbl rfl)) Af), (Np rfl), ?_⟩
    rfl
   ·refine Bl (A4 (Ai (Aq (Ab (sv rfl (Aa Agv rfl) (sv rfl (Ao Ajk rfl (.lp _ _ _ rfl) (Nbl rfl)) (sv rfl (Bk Aax Aed (Ap rfl (Ap rfl Ba)) (.cons _ _ _ _ _ _ _ rfl rfl (Nbl rfl) (.cons _ _ _ _ _ _ _ rfl rfl (Nbl rfl) (.nil _)))) (Ax Ah0 rfl rfl rfl rfl (Nbl rfl) (Bs [.box (EL.el a0), .box (EL.el a1), .box [Ii6 6, Ii6 0, Ii6 0, Ii6 0, .b false, Znl, Znl, .sl a0.Rng.Lo.length (a0.Rng.Lo.flatMap eU8), .sl a0.Rng.Hi.length (a0.Rng.Hi.flatMap eU8), .b a0.Rng.Open]] rfl (As (Bj ?_)))))))))))
    obtain rfl := Option.some.inj h
    refine ⟨Or.inr rfl, _, _, _, (Ad (Bd.agg _ _ _ _ _ Ad4 rfl (.lp _ _ _ rfl) (Nbl rfl)) Af), (Np rfl), ?_⟩
    rfl
def H9 (a0 : Int) : Option Int :=
 some (wI ((BitVec.ofInt 32 a0).toNat : Int))
set_option maxRecDepth 100000 in
theorem Ox {a0 : Int} {r : Int} (h : H9 a0 = some r) : Bp Tryz.prog 138 [.one (Ii6 a0)] (· = .s (.one (Ii6 r))) := by
 unfold H9 at h
 refine A1 Tryz.func138 rfl (nt := 6) rfl (Nbl rfl) ?_
 intro w0 S0
 refine Aq (Ab (sv rfl (Ak rfl) (As (Aq (Ab (sv rfl (Ag rfl) (sv rfl (C3 rfl Tryz.underlying3 Tryz.underlying117 rfl) (sv rfl (F0 Tryz.underlying117 Tryz.underlying3 rfl) (sv rfl (Ak rfl) (As (Bj ?_)))))))))))
 obtain rfl := Option.some.inj h
 refine ⟨Or.inr rfl, _, _, _, (Ad (Bd.tmp _ _ rfl) Af), (Aj rfl), ?_⟩
 rfl
def Km (a0 : B6) (a1 : A7) : Option A7 :=
 if (decide (a0.What = 5)) then (if 0 ≤ a0.A ∧ a0.A < ((8 : Nat) : Int) then ((Ia (E3.mk a1.Regs.R0 a1.Regs.R1 a1.Regs.R2 a1.Regs.R3 a1.Regs.R4 a1.Regs.R5 a1.Regs.R6 a1.Regs.R7) a0.A a0.N).bind fun q2 => some (A7.mk (wI (a1.PC + 1)) q2 a1.Stopped)) else none) else (if (decide (a0.What = 6)) then (if 0 ≤ a0.A ∧ a0.A < ((8 : Nat) : Int) then ((idx [a1.Regs.R0, a1.Regs.R1, a1.Regs.R2, a1.Regs.R3, a1.Regs.R4, a1.Regs.R5, a1.Regs.R6, a1.Regs.R7] a0.A).bind fun u4 => if 0 ≤ a0.B ∧ a0.B < ((8 : Nat) : Int) then ((idx [a1.Regs.R0, a1.Regs.R1, a1.Regs.R2, a1.Regs.R3, a1.Regs.R4, a1.Regs.R5, a1.Regs.R6, a1.Regs.R7] a0.B).bind fun u6 => (H9 (wI ((wI (u4 + u6)) + a0.N))).bind fun v7 => if 0 ≤ a0.A ∧ a0.A < ((8 : Nat) : Int) then ((Ia (E3.mk a1.Regs.R0 a1.Regs.R1 a1.Regs.R2 a1.Regs.R3 a1.Regs.R4 a1.Regs.R5 a1.Regs.R6 a1.Regs.R7) a0.A v7).bind fun q9 => some (A7.mk (wI (a1.PC + 1)) q9 a1.Stopped)) else none) else none) else none) else (if (decide (a0.What = 7)) then (if 0 ≤ a0.A ∧ a0.A < ((8 : Nat) : Int) then ((idx [a1.Regs.R0, a1.Regs.R1, a1.Regs.R2, a1.Regs.R3, a1.Regs.R4, a1.Regs.R5, a1.Regs.R6, a1.Regs.R7] a0.A).bind fun u11 => if (decide (u11 = 0)) then (some (A7.mk (wI ((wI (a1.PC + 1)) + a0.N)) a1.Regs a1.Stopped)) else (some (A7.mk (wI (a1.PC + 1)) a1.Regs a1.Stopped))) else none) else (if (decide (a0.What = 8)) then (some (A7.mk (wI (a1.PC + 1)) a1.Regs true)) else (some (A7.mk (wI (a1.PC + 1)) a1.Regs a1.Stopped)))))
set_option maxRecDepth 100000 in
theorem T9 {a0 : B6} {a1 : A7} {r : A7} (h : Km a0 a1 = some r) : Bp Tryz.prog 136 [.agg (EL.el a0), .agg (EL.el a1)] (· = .s (.agg (EL.el r))) := by
 unfold Km at h
 refine A1 Tryz.func136 rfl (nt := 58) rfl (Nbl rfl) ?_
 intro w0 S0
 refine Aq (Ab (Jd rfl rfl (Jd rfl rfl (Bz rfl Agz (As (Aq (Ab (sv rfl (Aa Ot rfl) (sv rfl (Ae ti3 rfl (.lp _ _ _ rfl) rfl) (sv rfl (B0 rfl rfl) (sv rfl (Aa Ot rfl) (Ax sz3 rfl rfl rfl rfl (Nbl rfl) (Bs [.box (EL.el a0), .box (EL.el {a1 with PC := wI (a1.PC + 1)}), .box Zbb] rfl (As (Aq (Aq (Ab (sv rfl (Aa Vu rfl) (sv rfl (Ae ti3 rfl (.lp _ _ _ rfl) rfl) (As (B7 (Aq (Ab (sv rfl (Bq rfl rfl) (sv rfl (Ak rfl) (As (ccI h rfl (fun h => ?_) (fun h => ?_))))))))))))))))))))))))))))
 ·refine Ab (sv rfl (Aa Uq rfl) (sv rfl (Ae ti3 rfl (.lp _ _ _ rfl) rfl) (sv rfl (Aa Z2 rfl) (sv rfl (Ae ti3 rfl (.lp _ _ _ rfl) rfl) (sv rfl (Aa O0 rfl) ?_)))))
  obtain ⟨hj1, h⟩ := D9 h
  refine sv rfl (L6 Aeq rfl rfl hj1) ?_
  obtain ⟨q2, hq2, h⟩ := An h
  refine Ax sz3 rfl rfl rfl rfl (Zl hj1 (Nbl rfl)) (Bs [.box (EL.el a0), .box [Ii6 (wI (a1.PC + 1)), Ii6 q2.R0, Ii6 q2.R1, Ii6 q2.R2, Ii6 q2.R3, Ii6 q2.R4, Ii6 q2.R5, Ii6 q2.R6, Ii6 q2.R7, .b a1.Stopped], .box Zbb] (Q9 (Akl hq2 [Ii6 (wI (a1.PC + 1))] [.b a1.Stopped])) (Lz (A4 (Ai (Aq (Ab (sv rfl (Ao Sb rfl (.lp _ _ _ rfl) (Nbl rfl)) (Ax Xa rfl rfl rfl rfl (Nbl rfl) (Bs [.box (EL.el a0), .box [Ii6 (wI (a1.PC + 1)), Ii6 q2.R0, Ii6 q2.R1, Ii6 q2.R2, Ii6 q2.R3, Ii6 q2.R4, Ii6 q2.R5, Ii6 q2.R6, Ii6 q2.R7, .b a1.Stopped], .box [Ii6 (wI (a1.PC + 1)), Ii6 q2.R0, Ii6 q2.R1, Ii6 q2.R2, Ii6 q2.R3, Ii6 q2.R4, Ii6 q2.R5, Ii6 q2.R6, Ii6 q2.R7, .b a1.Stopped]] rfl (As (Bj ?_)))))))))))
  obtain rfl := Option.some.inj h
  refine ⟨Or.inr rfl, _, _, _, (Ad (Bd.agg _ _ _ _ _ Sb rfl (.lp _ _ _ rfl) (Nbl rfl)) Af), (Aj rfl), ?_⟩
  rfl
 ·refine Aq (Ab (sv rfl (Bq rfl rfl) (sv rfl (Ak rfl) (As (ccI h rfl (fun h => ?_) (fun h => ?_))))))
  ·obtain ⟨hj3, h⟩ := D9 h
   obtain ⟨u4, hu4, h⟩ := An h
   obtain ⟨hj5, h⟩ := D9 h
   obtain ⟨u6, hu6, h⟩ := An h
   obtain ⟨v7, hv7, h⟩ := An h
   obtain ⟨hj8, h⟩ := D9 h
   obtain ⟨q9, hq9, h⟩ := An h
   refine Kb [19] [0, 1, 0, 4, 0, 28, 60, 0, 128, 0, 896, 1920, 4092, 0, 8192, 32764, 65532, 0, 262143, 524287] [[.box (EL.el a0), .box (EL.el {a1 with PC := wI (a1.PC + 1)}), .box Zbb], [.box (EL.el a0), .box [Ii6 (wI (a1.PC + 1)), Ii6 q9.R0, Ii6 q9.R1, Ii6 q9.R2, Ii6 q9.R3, Ii6 q9.R4, Ii6 q9.R5, Ii6 q9.R6, Ii6 q9.R7, .b a1.Stopped], .box Zbb]] (by kernel_rfl) Ma (by kernel_rfl) (by decide) rfl rfl rfl rfl ?_
   refine ev (Bh 0 rfl rfl) rfl rfl (Aa Uq rfl) (ev (Bh 0 rfl rfl) rfl rfl (Ae ti3 rfl (.lp _ _ _ rfl) rfl) (ev (Bh 0 rfl rfl) rfl rfl (Aa Uq rfl) (ev (Bh 0 rfl rfl) rfl rfl (Ae ti3 rfl (.lp _ _ _ rfl) rfl) (ev (Bh 0 rfl rfl) rfl rfl (Aa O0 rfl) (ev (Bh 0 rfl rfl) rfl rfl (L6 Aeq rfl rfl hj3) (ev (Bh 0 rfl rfl) rfl rfl (Vs (fun x => Ii6 x) [.b a1.Stopped] ti3 rfl rfl rfl hu4) ?_))))))
   refine ev (Bh 0 rfl rfl) rfl rfl (Aa Xt rfl) (ev (Bh 0 rfl rfl) rfl rfl (Ae ti3 rfl (.lp _ _ _ rfl) rfl) (ev (Bh 0 rfl rfl) rfl rfl (Aa O0 rfl) (ev (Bh 0 rfl rfl) rfl rfl (L6 Aeq rfl rfl hj5) (ev (Bh 0 rfl rfl) rfl rfl (Vs (fun x => Ii6 x) [.b a1.Stopped] ti3 rfl rfl rfl hu6) ?_))))
   refine ev (Bh 0 rfl rfl) rfl rfl (B0 rfl rfl) (ev (Bh 0 rfl rfl) rfl rfl (Aa Z2 rfl) (ev (Bh 0 rfl rfl) rfl rfl (Ae ti3 rfl (.lp _ _ _ rfl) rfl) (ev (Bh 0 rfl rfl) rfl rfl (B0 rfl rfl) (ed (Bh 0 rfl rfl) rfl rfl (D2 Apy (Ac rfl Al) rfl (Ox hv7)) (ev (Bh 0 rfl rfl) rfl rfl (Aa O0 rfl) (ev (Bh 0 rfl rfl) rfl rfl (L6 Aeq rfl rfl hj8) (ee0 0 rfl rfl rfl rfl (fun ζ => ?_) ?_)))))))
   ·refine Ax sz3 rfl rfl rfl rfl (Zl hj8 (Nbl rfl)) (Bs [.box (EL.el a0), .box [Ii6 (wI (a1.PC + 1)), Ii6 q9.R0, Ii6 q9.R1, Ii6 q9.R2, Ii6 q9.R3, Ii6 q9.R4, Ii6 q9.R5, Ii6 q9.R6, Ii6 q9.R7, .b a1.Stopped], .box Zbb] (Q9 (Akl hq9 [Ii6 (wI (a1.PC + 1))] [.b a1.Stopped])) ?_)
    exact Sd
   refine Y1 (A4 (Ai (Aq (Ab (sv rfl (Ao Sb rfl (.lp _ _ _ rfl) (Nbl rfl)) (Ax Xa rfl rfl rfl rfl (Nbl rfl) (Bs [.box (EL.el a0), .box [Ii6 (wI (a1.PC + 1)), Ii6 q9.R0, Ii6 q9.R1, Ii6 q9.R2, Ii6 q9.R3, Ii6 q9.R4, Ii6 q9.R5, Ii6 q9.R6, Ii6 q9.R7, .b a1.Stopped], .box [Ii6 (wI (a1.PC + 1)), Ii6 q9.R0, Ii6 q9.R1, Ii6 q9.R2, Ii6 q9.R3, Ii6 q9.R4, Ii6 q9.R5, Ii6 q9.R6, Ii6 q9.R7, .b a1.Stopped]] rfl (As (Bj ?_)))))))))
   obtain rfl := Option.some.inj h
   refine ⟨Or.inr rfl, _, _, _, (Ad (Bd.agg _ _ _ _ _ Sb rfl (.lp _ _ _ rfl) (Nbl rfl)) Af), (Aj rfl), ?_⟩
   rfl
  ·refine Aq (Ab (sv rfl (Bq rfl rfl) (sv rfl (Ak rfl) (As (ccI h rfl (fun h => ?_) (fun h => ?_))))))
   ·refine Aq (Ab (sv rfl (Aa Uq rfl) (sv rfl (Ae ti3 rfl (.lp _ _ _ rfl) rfl) (sv rfl (Aa O0 rfl) ?_))))
    obtain ⟨hj10, h⟩ := D9 h
    refine sv rfl (L6 Aeq rfl rfl hj10) ?_
    obtain ⟨u11, hu11, h⟩ := An h
    refine sv rfl (Vs (fun x => Ii6 x) [.b a1.Stopped] ti3 rfl rfl rfl hu11) ?_
    refine sv rfl (Bq rfl rfl) (As (ccI h rfl (fun h => ?_) (fun h => ?_)))
    ·refine Ab (sv rfl (Aa Ot rfl) (sv rfl (Ae ti3 rfl (.lp _ _ _ rfl) rfl) (sv rfl (Aa Z2 rfl) (sv rfl (Ae ti3 rfl (.lp _ _ _ rfl) rfl) (sv rfl (B0 rfl rfl) (sv rfl (Aa Ot rfl) (Ax sz3 rfl rfl rfl rfl (Nbl rfl) (Bs [.box (EL.el a0), .box (EL.el {a1 with PC := wI ((wI (a1.PC + 1)) + a0.N)}), .box Zbb] rfl (Lz (A4 (Ai (Aq (Ab (sv rfl (Ao Sb rfl (.lp _ _ _ rfl) (Nbl rfl)) (Ax Xa rfl rfl rfl rfl (Nbl rfl) (Bs [.box (EL.el a0), .box (EL.el {a1 with PC := wI ((wI (a1.PC + 1)) + a0.N)}), .box (EL.el {a1 with PC := wI ((wI (a1.PC + 1)) + a0.N)})] rfl (As (Bj ?_))))))))))))))))))
     obtain rfl := Option.some.inj h
     refine ⟨Or.inr rfl, _, _, _, (Ad (Bd.agg _ _ _ _ _ Sb rfl (.lp _ _ _ rfl) (Nbl rfl)) Af), (Aj rfl), ?_⟩
     rfl
    ·refine Bl (A4 (Ai (Aq (Ab (sv rfl (Ao Sb rfl (.lp _ _ _ rfl) (Nbl rfl)) (Ax Xa rfl rfl rfl rfl (Nbl rfl) (Bs [.box (EL.el a0), .box (EL.el {a1 with PC := wI (a1.PC + 1)}), .box (EL.el {a1 with PC := wI (a1.PC + 1)})] rfl (As (Bj ?_)))))))))
     obtain rfl := Option.some.inj h
     refine ⟨Or.inr rfl, _, _, _, (Ad (Bd.agg _ _ _ _ _ Sb rfl (.lp _ _ _ rfl) (Nbl rfl)) Af), (Aj rfl), ?_⟩
     rfl
   ·refine Aq (Ab (sv rfl (Bq rfl rfl) (sv rfl (Ak rfl) (As (ccI h rfl (fun h => ?_) (fun h => ?_))))))
    ·refine Ab (sv rfl (Aa Wq rfl) (Ax sz4 rfl rfl rfl rfl (Nbl rfl) (Bs [.box (EL.el a0), .box (EL.el (A7.mk (wI (a1.PC + 1)) a1.Regs true)), .box Zbb] rfl (Lz (A4 (Ai (Aq (Ab (sv rfl (Ao Sb rfl (.lp _ _ _ rfl) (Nbl rfl)) (Ax Xa rfl rfl rfl rfl (Nbl rfl) (Bs [.box (EL.el a0), .box (EL.el (A7.mk (wI (a1.PC + 1)) a1.Regs true)), .box (EL.el (A7.mk (wI (a1.PC + 1)) a1.Regs true))] rfl (As (Bj ?_)))))))))))))
     obtain rfl := Option.some.inj h
     refine ⟨Or.inr rfl, _, _, _, (Ad (Bd.agg _ _ _ _ _ Sb rfl (.lp _ _ _ rfl) (Nbl rfl)) Af), (Aj rfl), ?_⟩
     rfl
    ·refine Bl (A4 (Ai (Aq (Ab (sv rfl (Ao Sb rfl (.lp _ _ _ rfl) (Nbl rfl)) (Ax Xa rfl rfl rfl rfl (Nbl rfl) (Bs [.box (EL.el a0), .box (EL.el {a1 with PC := wI (a1.PC + 1)}), .box (EL.el {a1 with PC := wI (a1.PC + 1)})] rfl (As (Bj ?_)))))))))
     obtain rfl := Option.some.inj h
     refine ⟨Or.inr rfl, _, _, _, (Ad (Bd.agg _ _ _ _ _ Sb rfl (.lp _ _ _ rfl) (Nbl rfl)) Af), (Aj rfl), ?_⟩
     rfl
def M9 (a0 : Co) (b2 : A7) : Option (Ca × A7 × Bool) :=
 some (Oq, (A7.mk (if (a0.Ops.length : Int) < b2.PC then (a0.Ops.length : Int) else b2.PC) b2.Regs b2.Stopped), false)
def K4 (a0 : Co) (s3 : A7) (b4 : Unit) : Option (LR (A7) (A7) (Ca × A7 × Bool)) :=
 (idx a0.Ops s3.PC).bind fun u5 => (J4 u5).bind fun v6 => if v6 then ((Ec u5 s3).bind fun v7 => some (.ret (v7, s3, true))) else ((Km u5 s3).bind fun v8 => some (.cont v8))
def Gn (a0 : Co) (s3 : A7) : Option (LR (A7) (A7) (Ca × A7 × Bool)) :=
 if (decide (s3.PC < (a0.Ops.length : Int))) then (if (!s3.Stopped) then (K4 a0 s3 ()) else (some (.brk s3))) else (some (.brk s3))
def K7 (a0 : Co) (a1 : A7) (b1 : Unit) : Option (Ca × A7 × Bool) :=
 (Qg (Gn a0) Di a1).bind fun x => match x with | .inl r => some r | .inr e9 => M9 a0 e9
end Go.Proofs.YtbjckaahoacbfaaGreatDoor.Abs
