/-
 t
-/
import Derived.Test.YtbjckaahoacbfaaGreatDoorET21a
set_option linter.unusedVariables false
set_option linter.unusedSimpArgs false
namespace Go.Proofs.YtbjckaahoacbfaaGreatDoor.Abs
open Go.RowKit Go.Proofs
set_option maxRecDepth 100000
def C7 (a0 : Ag) (a1 : Ba) : Option Ag :=
 (Hz [a0.Done, [a1]]).bind fun v1 => some (Ag.mk (Cp.mk a0.Cfg.Who (Dk.mk a0.Cfg.Plan.Wait a0.Cfg.Plan.Most a0.Cfg.Plan.Tries) a0.Cfg.Attempts a0.Cfg.Budget) a0.Tasks a0.Phase a0.Epoch a0.Seq a0.Attempt a0.Sent a0.Left a0.Resets a0.Risk (A6.mk a0.St.PC (Ev.mk a0.St.Regs.R0 a0.St.Regs.R1 a0.St.Regs.R2 a0.St.Regs.R3 a0.St.Regs.R4 a0.St.Regs.R5 a0.St.Regs.R6 a0.St.Regs.R7) a0.St.Stopped) (B6.mk a0.Req.Kind a0.Req.Seq a0.Req.Token a0.Req.Attempt a0.Req.RO a0.Req.Key a0.Req.Val (B7.mk a0.Req.Rng.Lo a0.Req.Rng.Hi a0.Req.Rng.Open)) (Bn.mk a0.In.Buf a0.In.Dead) a0.Out v1 a0.Tried)
theorem H9 {a0 : Ag} {a1 : Ba} {r : Ag} (h : C7 a0 a1 = some r) : Bp Tryz.prog 86 [.agg (EL.el a0), .agg (EL.el a1)] (· = .s (.agg (EL.el r))) := by
 unfold C7 at h
 refine A2 Tryz.func86 rfl (nt := 13) rfl (Nbl rfl) ?_
 intro w0 S0
 refine Aq (Ab (Je rfl rfl (Je rfl rfl (Bz rfl Nc (Ar (Aq (Ab (sv rfl (Aa Vt rfl) (sv rfl (Ae Ant rfl (.lp _ _ _ rfl) rfl) (sv rfl (Ao At0 rfl (.lp _ _ _ rfl) (Nbl rfl)) ?_))))))))))
 refine Qy rfl Tryz.underlying41 Atb rfl rfl (List.all_eq_true.1 rfl) (by decide) ?_
 refine Bt [.box (EL.el a0), .box (EL.el a1), .box Zba, .arr 61 12 0 ([a1].flatMap A8)] rfl ?_
 refine Zf 8 rfl (by (repeat' first | exact J8.nil _ | apply J8.cons | apply Jv.one | apply Jv.agg | exact E4.nil | exact E4.ls _ _ _ _ _ _ rfl (Bf (f := A8) (fun _ => rfl) ([a1] : List Ba)).symm | exact E4.ls _ _ _ _ _ _ rfl (Bf (f := A8) (fun _ => rfl) _).symm | exact E4.id _ rfl | exact D2.nil _ | apply D2.cons)) ?_
 refine Sp (out := ([a0.Done, [a1]] : List (List Ba)).flatMap (eL A8)) rfl Tryz.underlying204 Awb (Ap rfl (Ap rfl A9)) (.cons _ _ _ _ _ _ _ rfl rfl (Nbl rfl) (.cons _ _ _ _ _ _ _ rfl rfl (Nbl rfl) (.nil _))) rfl (by decide) ?_
 refine Zf 9 rfl (by (repeat' first | exact J8.nil _ | apply J8.cons | apply Jv.one | apply Jv.agg | exact E4.nil | exact E4.ls _ _ _ _ _ _ rfl (Bf (f := (eL A8)) (fun _ => rfl) ([a0.Done, [a1]] : List (List Ba))).symm | exact E4.ls _ _ _ _ _ _ rfl (Bf (f := (eL A8)) (fun _ => rfl) _).symm | exact E4.ls _ _ _ _ _ _ rfl (Bf (f := A8) (fun _ => rfl) _).symm | exact E4.id _ rfl | exact D2.nil _ | apply D2.cons)) ?_
 obtain ⟨v1, hv1, h⟩ := An h
 refine C2 (x' := .s (.one (.ls 5 v1.length))) (M' := [.box (EL.el a0), .box (EL.el a1), .box Zba, .arr 61 12 ([a1].flatMap A8).length ([a1].flatMap A8), .arr 41 1 ([a0.Done, [a1]].flatMap (eL A8)).length ([a0.Done, [a1]].flatMap (eL A8)), .arr 61 12 0 (v1.flatMap A8)]) [] rfl Ash (.func _) (Ac rfl Al) (Q8 hv1) rfl rfl (by decide) rfl rfl rfl ?_
 refine sv rfl (Aa Vt rfl) (Ax Av5 rfl rfl rfl rfl (Nbl rfl) (Bt [.box ((EL.el a0).set 38 (.ls 5 v1.length)), .box (EL.el a1), .box Zba, .arr 61 12 ([a1].flatMap A8).length ([a1].flatMap A8), .arr 41 1 ([a0.Done, [a1]].flatMap (eL A8)).length ([a0.Done, [a1]].flatMap (eL A8)), .arr 61 12 0 (v1.flatMap A8)] rfl (Ar (Aq (Ab (sv rfl (Ao B4 rfl (.lp _ _ _ rfl) (Nbl rfl)) (Ax Em rfl rfl rfl rfl (Nbl rfl) (Bt [.box ((EL.el a0).set 38 (.ls 5 v1.length)), .box (EL.el a1), .box ((EL.el a0).set 38 (.ls 5 v1.length)), .arr 61 12 ([a1].flatMap A8).length ([a1].flatMap A8), .arr 41 1 ([a0.Done, [a1]].flatMap (eL A8)).length ([a0.Done, [a1]].flatMap (eL A8)), .arr 61 12 0 (v1.flatMap A8)] rfl (Ar (Bj ?_))))))))))
 obtain rfl := SJ h
 refine ⟨Or.inr rfl, _, _, _, (Ad (Bc.agg _ _ _ _ _ B4 rfl (.lp _ _ _ rfl) (Nbl rfl)) Af), (by (repeat' first | exact J8.nil _ | apply J8.cons | apply Jv.one | apply Jv.agg | exact E4.nil | exact E4.ls _ _ _ _ _ _ rfl (Bf (f := (eL A8)) (fun _ => rfl) _).symm | exact E4.ls _ _ _ _ _ _ rfl (Bf (f := A8) (fun _ => rfl) _).symm | exact E4.id _ rfl | exact D2.nil _ | apply D2.cons)), ?_⟩
 rfl
def F9 (a0 : Ag) : Option Int :=
 if a0.Risk then (some 4) else (if (decide (0 < a0.Attempt)) then (if a0.St.Stopped then (some 2) else (some 3)) else (some 3))
theorem O6 {a0 : Ag} {r : Int} (h : F9 a0 = some r) : Bp Tryz.prog 87 [.agg (EL.el a0)] (· = .s (.one (Ii6 r))) := by
 unfold F9 at h
 refine A2 Tryz.func87 rfl (nt := 15) rfl (Nbl rfl) ?_
 intro w0 S0
 refine Aq (Ab (Je rfl rfl (sv rfl (Ak rfl) (Ar (Aq (Ca (Aq (Ab (sv rfl (Aa X1 rfl) (sv rfl (Ae ti4 rfl (.lp _ _ _ rfl) rfl) (sv rfl (Ak rfl) (Ar (ccI h rfl (fun h => ?_) (fun h => ?_))))))))))))))
 ·refine Aq (Ab (sv rfl (Ak rfl) (Ar (Bj (Bd (As ?_))))))
  obtain rfl := SJ h
  refine ⟨Or.inr rfl, _, _, _, (Ad (Bc.tmp _ _ rfl) Af), (Aj rfl), ?_⟩
  rfl
 ·refine Aq (Ab (sv rfl (Aa Of rfl) (sv rfl (Ae ti3 rfl (.lp _ _ _ rfl) rfl) (sv rfl (Dg rfl rfl) (sv rfl (Ah rfl) (Bq 10 rfl (fun hc => ?_) (fun hc => ?_)))))))
  ·replace h := B1 hc h
   clear hc
   refine son rfl rfl rfl (sv rfl (Aa Pu rfl) (son rfl rfl rfl (sv rfl (Aa Wf rfl) (son rfl rfl rfl (sv rfl (Ae ti4 rfl (.lp _ _ _ rfl) rfl) (sv rfl (Au rfl rfl) (sv rfl (Ak rfl) (Ar (ccI h rfl (fun h => ?_) (fun h => ?_))))))))))
   ·refine Aq (Ab (sv rfl (Ak rfl) (Ar (Bj (Bd (As ?_))))))
    obtain rfl := SJ h
    refine ⟨Or.inr rfl, _, _, _, (Ad (Bc.tmp _ _ rfl) Af), (Aj rfl), ?_⟩
    rfl
   ·refine Bl (A5 (Ai (Aq (Ab (sv rfl (Ak rfl) (Ar (Bj ?_)))))))
    obtain rfl := SJ h
    refine ⟨Or.inr rfl, _, _, _, (Ad (Bc.tmp _ _ rfl) Af), (Aj rfl), ?_⟩
    rfl
  ·replace h := B0 hc h
   clear hc
   refine Aw rfl rfl rfl rfl (Aw rfl rfl rfl rfl (Aw rfl rfl rfl rfl (sv rfl (Am rfl rfl) (sv rfl (Ak rfl) (Ar (Hy rfl (fun hx => Bool.noConfusion hx) (fun _ => ?_)))))))
   refine Bl (A5 (Ai (Aq (Ab (sv rfl (Ak rfl) (Ar (Bj ?_)))))))
   obtain rfl := SJ h
   refine ⟨Or.inr rfl, _, _, _, (Ad (Bc.tmp _ _ rfl) Af), (Aj rfl), ?_⟩
   rfl
def I8 (b1 : Ag) : Option Ag :=
 some ({b1 with Tasks := ([] : List Av), Phase := 11, Left := 0})
def Bv (a0 : Ag) (s2 : Int × Ag) : Option (LB (Int × Ag) (Ag)) :=
 if (decide (s2.1 < (a0.Tasks.length : Int))) then ((idx a0.Tasks s2.1).bind fun u3 => if (decide (0 < s2.1)) then ((C7 s2.2 (Ba.mk u3.Token 3 0 0 (Ev.mk 0 0 0 0 0 0 0 0))).bind fun v4 => some (.cont ((wI (s2.1 + 1)), v4))) else (if (!decide (s2.2.Phase = 9)) then ((F9 s2.2).bind fun v5 => (C7 s2.2 (Ba.mk u3.Token v5 s2.2.Attempt 0 (Ev.mk 0 0 0 0 0 0 0 0))).bind fun v6 => some (.cont ((wI (s2.1 + 1)), v6))) else (some (.cont ((wI (s2.1 + 1)), s2.2))))) else (some (.brk s2.2))
def Ce (a0 : Ag) : Option Ag :=
 (Ez (Bv a0) fuel (0, a0)).bind fun e7 => I8 e7
theorem Df {a0 : Ag} {r : Ag} (h : Ce a0 = some r) : Bp Tryz.prog 68 [.agg (EL.el a0)] (· = .s (.agg (EL.el r))) := by
 unfold Ce at h
 refine A2 Tryz.func68 rfl (nt := 39) rfl (Nbl rfl) ?_
 intro w0 S0
 refine Aq (Ab (Je rfl rfl (Bz rfl Nc (Ar (Aq (Aq (Ab (sv rfl (Aa Mb rfl) (sv rfl (Ae Y0 rfl (.lp _ _ _ rfl) rfl) (sv rfl (Az Uf rfl) (sv rfl (Ah rfl) (Ar (G5 (Ag) (fun b1 => [(1, .s (.one (.lp 0 0))), (2, .s (.one (.lp 1 0)))]) (fun b1 => [.box (EL.el b1), .box Zba]) (fun b1 => I8 b1 = some r) (fun _ _ => Bg rfl) (fun _ _ => A0 rfl) (fun _ _ => Nbl rfl) (fun b1 h => ?_) ?_)))))))))))))
 ·unfold I8 at h
  refine Aq (Ab (sv rfl (Aa Mb rfl) (Ax Ar6 rfl rfl rfl rfl (Nbl rfl) (Bt [.box ((EL.el b1).set 6 (Znl)), .box Zba] rfl (Ar (Aq (Ab (sv rfl (Aa F7 rfl) (Ax sz3 rfl rfl rfl rfl (Nbl rfl) (Bt [.box ((EL.el {b1 with Phase := 11}).set 6 (Znl)), .box Zba] rfl (Ar (Aq (Ab (sv rfl (Aa Q4 rfl) (Ax sz3 rfl rfl rfl rfl (Nbl rfl) (Bt [.box ((EL.el {b1 with Phase := 11, Left := 0}).set 6 (Znl)), .box Zba] rfl (Ar (Aq (Ab (sv rfl (Ao B4 rfl (.lp _ _ _ rfl) (Nbl rfl)) (Ax Em rfl rfl rfl rfl (Nbl rfl) (Bt [.box ((EL.el {b1 with Phase := 11, Left := 0}).set 6 (Znl)), .box ((EL.el {b1 with Phase := 11, Left := 0}).set 6 (Znl))] rfl (Ar (Bj ?_))))))))))))))))))))))))
  obtain rfl := SJ h
  refine ⟨Or.inr rfl, _, _, _, (Ad (Bc.agg _ _ _ _ _ B4 rfl (.lp _ _ _ rfl) (Nbl rfl)) Af), (Nl rfl), ?_⟩
  rfl
 ·skip
  refine Ca ?_
  obtain ⟨x2, hx2, ho2⟩ := An h
  refine De (G := Nat × (Int × Ag)) (fun g => [(1, .s (.one (.lp 0 0))), (2, .s (.one (.lp 1 0))), (6, .s (.one (.sl a0.Tasks.length (a0.Tasks.flatMap Ay)))), (7, .s (.one (Ii6 (a0.Tasks.length : Int)))), (8, .s (.one (Ii6 g.2.1)))]) (fun g => [.box (EL.el g.2.2), .box Zba]) (fun g => Ez (Bv a0) g.1 g.2 = some x2) (fun g => g.1) (fuel, (0, a0)) hx2 ⟨rfl, rfl, rfl, rfl, rfl, trivial⟩ [] rfl (fun _ _ => Bg rfl) (fun _ _ => A0 rfl) (fun _ _ => Nbl rfl) ?_
  clear hx2 h
  rintro ⟨n2, s2⟩ h
  obtain ⟨n2, y2, rfl, h, hk2⟩ := Gp h
  unfold Bv at h
  refine Aq (Ab (sv rfl (Cs rfl rfl) (Ar (Aq (ccI h rfl (fun h => ?_) (fun h => ?_))))))
  ·refine Bl (Ai (Aq (Ca (Aq (Ab (sv rfl (Ah rfl) ?_))))))
   obtain ⟨u3, hu3, h⟩ := An h
   refine sv rfl (Fm (f := Ay) Uf (fun _ => rfl) rfl rfl rfl rfl hu3) ?_
   refine sv rfl (Dj (ys := [Ii6 u3.Token, .b u3.Prog.RO, .sl u3.Prog.Ops.length (u3.Prog.Ops.flatMap Cf)]) Ana rfl (.cp _) rfl rfl) (Bz rfl Anv (sv rfl (Ak rfl) (Ax Aqf rfl rfl rfl rfl (Nbl rfl) (Bt [.box (EL.el s2.2), .box Zba, .box (EL.el u3)] rfl (Ar (Ca (Aq (Ab (sv rfl (Ah rfl) (sv rfl (Dg rfl rfl) (sv rfl (Ak rfl) (Ar (ccI h rfl (fun h => ?_) (fun h => ?_))))))))))))))
   ·refine Ab (sv rfl (Ao B4 rfl (.lp _ _ _ rfl) (Nbl rfl)) (sv rfl (Aa Sa rfl) (sv rfl (Ae ti3 rfl (.lp _ _ _ rfl) rfl) (sv rfl (Bk Aqi Ar9 (Ap rfl (Ap rfl A9)) (.cons _ _ _ _ _ _ _ rfl rfl (Nbl rfl) (.cons _ _ _ _ _ _ _ rfl rfl (Nbl rfl) (.nil _)))) ?_))))
    obtain ⟨v4, hv4, h⟩ := An h
    refine A1 rfl Aq3 (Ac rfl (Ac rfl Al)) (Aj rfl) (H9 hv4) (Ax Em rfl rfl rfl rfl (Nbl rfl) (Bt [.box (EL.el v4), .box Zba, .box (EL.el u3)] rfl (Ls (A5 (A5 (Ai (Ab (sv rfl (B9 rfl rfl) (sv rfl (Ah rfl) (Ar ?_))))))))))
    obtain rfl := SJ h
    exact ⟨(n2, ((wI (s2.1 + 1)), v4)), _, hk2, ⟨rfl, rfl, rfl, rfl, rfl, trivial⟩, rfl, Nat.lt_succ_self _⟩
   ·refine Aq (Ab (sv rfl (Aa F7 rfl) (sv rfl (Ae ti3 rfl (.lp _ _ _ rfl) rfl) (sv rfl (Cd rfl rfl) (sv rfl (Ak rfl) (Ar (ccI h rfl (fun h => ?_) (fun h => ?_))))))))
    ·obtain ⟨v5, hv5, h⟩ := An h
     obtain ⟨v6, hv6, h⟩ := An h
     refine Jq [9] [0, 0, 2, 0, 8, 0, 32, 126, 255, 511] [[.box (EL.el s2.2), .box Zba, .box (EL.el u3)], [.box (EL.el v6), .box Zba, .box (EL.el u3)]] (by kernel_rfl) Lz (by kernel_rfl) (by decide) rfl rfl rfl rfl ?_
     refine ev (Bh 0 rfl rfl) rfl rfl (Ao B4 rfl (.lp _ _ _ rfl) (Nbl rfl)) (ev (Bh 0 rfl rfl) rfl rfl (Aa Sa rfl) (ev (Bh 0 rfl rfl) rfl rfl (Ae ti3 rfl (.lp _ _ _ rfl) rfl) (ev (Bh 0 rfl rfl) rfl rfl (Ao B4 rfl (.lp _ _ _ rfl) (Nbl rfl)) (ed (Bh 0 rfl rfl) rfl rfl (Dy Avm (Ac rfl Al) rfl (O6 hv5)) (ev (Bh 0 rfl rfl) rfl rfl (Aa Of rfl) (ev (Bh 0 rfl rfl) rfl rfl (Ae ti3 rfl (.lp _ _ _ rfl) rfl) (ev (Bh 0 rfl rfl) rfl rfl (Bk Aqi Ar9 (Ap rfl (Ap rfl (Ap rfl A9))) (.cons _ _ _ _ _ _ _ rfl rfl (Nbl rfl) (.cons _ _ _ _ _ _ _ rfl rfl (Nbl rfl) (.cons _ _ _ _ _ _ _ rfl rfl (Nbl rfl) (.nil _))))) (ed (Bh 0 rfl rfl) rfl rfl (Dy Aq3 (Ac rfl (Ac rfl Al)) rfl (H9 hv6)) (ee0 0 rfl rfl rfl rfl (fun ζ => ?_) ?_)))))))))
     ·refine Ax Em rfl rfl rfl rfl (Nbl rfl) (Bt [.box (EL.el v6), .box Zba, .box (EL.el u3)] rfl ?_)
      exact Rq
     refine Ys (A5 (A5 (Ai (Ab (sv rfl (B9 rfl rfl) (sv rfl (Ah rfl) (Ar ?_)))))))
     obtain rfl := SJ h
     exact ⟨(n2, ((wI (s2.1 + 1)), v6)), _, hk2, ⟨rfl, rfl, rfl, rfl, rfl, trivial⟩, rfl, Nat.lt_succ_self _⟩
    ·refine Bl (A5 (A5 (Ai (Ab (sv rfl (B9 rfl rfl) (sv rfl (Ah rfl) (Ar ?_)))))))
     obtain rfl := SJ h
     exact ⟨(n2, ((wI (s2.1 + 1)), s2.2)), _, hk2, ⟨rfl, rfl, rfl, rfl, rfl, trivial⟩, rfl, Nat.lt_succ_self _⟩
  ·refine Lw (Bi (Bi (Ck (Ai ?_))))
   obtain rfl := SJ h
   obtain rfl : _ = x2 := hk2
   exact ⟨s2.2, _, ho2, ⟨rfl, rfl, trivial⟩, rfl⟩
def Ep (a0 : Ag) : Option Bool :=
 some (decide (60000 < (a0.Out.length : Int)))
theorem Mc {a0 : Ag} {r : Bool} (h : Ep a0 = some r) : Bp Tryz.prog 67 [.agg (EL.el a0)] (· = .s (.one (.b r))) := by
 unfold Ep at h
 refine A2 Tryz.func67 rfl (nt := 7) rfl (Nbl rfl) ?_
 intro w0 S0
 refine Aq (Ab (Je rfl rfl (sv rfl (Ak rfl) (Ar (Aq (Ab (sv rfl (Aa Qh rfl) (sv rfl (Ae L2 rfl (.lp _ _ _ rfl) rfl) (sv rfl (Az Lc rfl) (sv rfl (Dg rfl rfl) (sv rfl (Ak rfl) (Ar (Bj ?_)))))))))))))
 obtain rfl := SJ h
 refine ⟨Or.inr rfl, _, _, _, (Ad (Bc.tmp _ _ rfl) Af), (Aj rfl), ?_⟩
 rfl
theorem Td {a0 : Dk} : Bp Tryz.prog 88 [.agg (EL.el a0)] (· = .s (.one (.fn 110 [] [.cp [Ii6 a0.Wait, Ii6 a0.Most, Ii6 a0.Tries]]))) := by
 refine A2 Tryz.func88 rfl (nt := 4) rfl (Nbl rfl) ?_
 intro w0 S0
 refine Aq (Ab (Ami rfl rfl rfl (sv rfl (Ak rfl) (Ar (Aq (Ab (sv rfl (Uq Rd (Sz rfl rfl Rd)) (sv rfl (Ak rfl) (Ar (Bj (⟨Or.inr rfl, _, _, _, (Ad (Bc.tmp _ _ rfl) Af), (Aj rfl), ?_⟩)))))))))))
 rfl
def P1 (most : Int) : Nat → Int → Int → List (Int × Int)
 | 0, _, _ => []
 | n + 1, i, d => (i, d) :: P1 most n (wI (i + 1)) (if most < (wI (2 * d)) then most else (wI (2 * d)))
def Ajf (p : Dk) : Option (List (Int × Int)) :=
 (J7 p).bind fun b => some (if b = true then P1 p.Most p.Tries.toNat 0 p.Wait else [])
theorem S7 (most : Int) : ∀ n i d, (P1 most n i d).length = n
 | 0, _, _ => rfl
 | n + 1, i, d => by simp [P1, S7 most n]
theorem Ai0 {p : Dk} (h : J7 p = some true) : 1 ≤ p.Wait ∧ p.Wait ≤ 1048576 ∧ p.Wait ≤ p.Most ∧ p.Most ≤ 1073741824 ∧ 0 ≤ p.Tries ∧ p.Tries ≤ 100 := by
 unfold J7 at h
 repeat' split at h
 all_goals simp_all
theorem Amz {p : Dk} {L : List (Int × Int)} (h : Ajf p = some L) : Ajh Tryz.prog 110 [.cp [Ii6 p.Wait, Ii6 p.Most, Ii6 p.Tries]] (L.map fun x => (.one (Ii6 x.1), .one (Ii6 x.2))) := by
 unfold Ajf at h
 obtain ⟨b, hb, h⟩ := An h
 obtain rfl := SJ h
 refine Ai6 Tryz.func110 rfl rfl (nt := 26) rfl (Nbl rfl) ?_
 intro l J Jx hJ hJx hs
 refine Ah5 (Ah5 ?_)
 refine We (hJ 0) (by rfl) (fun w0 S0 => ?_)
 refine sv rfl (Dj (ys := [Ii6 p.Wait, Ii6 p.Most, Ii6 p.Tries]) Aj9 rfl (.cp _) rfl rfl) (A1 rfl Aud (Ac rfl Al) (Aj rfl) (P2 hb) (sv rfl (B8 rfl) (Ls ⟨rfl, rfl, Te (Vg ?_)⟩)))
 refine Ai4 rfl (fun hc => ?_) (fun hc => ?_)
 ·have hb' : b = false := by simpa using hc
  subst hb'
  exact At9 (And.intro (Or.inr rfl) (Or.inl rfl))
 have hb' : b = true := by simpa using hc
 subst hb'
 obtain ⟨h1, h2, h3, h4, h5, h6⟩ := Ai0 hb
 refine Amm (Vg ?_)
 refine Ah5 ?_
 refine We (hJ 0) (by rfl) (fun w0 S0 => ?_)
 refine sv rfl (B2 Acs rfl) (sv rfl (Ae ti3 rfl (.cp _) rfl) (sv rfl (Ak rfl) (Ls ⟨rfl, rfl, Te (Vg ?_)⟩)))
 refine Ah5 ?_
 refine We (hJ 0) (by rfl) (fun w0 S0 => ?_)
 refine sv rfl (B2 Aaa rfl) (sv rfl (Ae ti3 rfl (.cp _) rfl) (sv rfl (Ah rfl) (Ls ⟨rfl, rfl, Te (Vg ?_)⟩)))
 refine Aj7 ?_
 let cap : Lf := .cp [Ii6 p.Wait, Ii6 p.Most, Ii6 p.Tries]
 refine Ark (G := Nat × Int × Int) (fun g => [(0, .s (.one (.raw (.func (.yield l) #[] #[])))), (1, .s (.one (.cp [Ii6 p.Wait, Ii6 p.Most, Ii6 p.Tries]))), (3, .s (.one (Ii6 g.2.2))), (11, .s (.one (Ii6 p.Tries))), (12, .s (.one (Ii6 g.2.1)))])
  (fun g => J g.1) (fun g => 0 ≤ g.2.1 ∧ g.2.1 ≤ p.Tries ∧ (P1 p.Most p.Tries.toNat 0 p.Wait).drop g.1 = P1 p.Most (p.Tries - g.2.1).toNat g.2.1 g.2.2 ∧ g.1 + (p.Tries - g.2.1).toNat = p.Tries.toNat)
  (fun g => (p.Tries - g.2.1).toNat) (0, 0, p.Wait) ⟨Int.le_refl _, h5, by simp, by simp⟩ ⟨rfl, rfl, rfl, rfl, rfl, trivial⟩ rfl (fun _ _ => Bg rfl) ?_
 rintro ⟨k, i, d⟩ ⟨g1, g2, g3, g4⟩
 simp only at g1 g2 g3 g4
 refine Ah5 ?_
 refine We (hJ k) (by rfl) (fun w0 S0 => ?_)
 refine sv rfl (Cs rfl rfl) (Ls ⟨rfl, rfl, Te (Vg ?_)⟩)
 refine Ah5 (Ai4 rfl (fun hc => ?_) (fun hc => ?_))
 rotate_left
 ·have hc' : ¬ i < p.Tries := by simpa using hc
  refine Asm (And.intro (Or.inl rfl) (Or.inl ?_))
  show J k = J _
  rw [List.length_map, if_pos rfl, S7]
  congr 1
  omega
 have hlt : i < p.Tries := by simpa using hc
 refine Amm (Vg ?_)
 have hn : (p.Tries - i).toNat = (p.Tries - (i + 1)).toNat + 1 := by omega
 rw [hn] at g3
 have hget : (P1 p.Most p.Tries.toNat 0 p.Wait)[k]? = some (i, d) := by
  have := congrArg (fun l => l[0]?) g3
  simpa [P1] using this
 have hwi : wI (i + 1) = i + 1 := by
  show IntKind.i64.wrap (i + 1) = i + 1
  exact Aiv (by omega) (by omega)
 have hdrop : (P1 p.Most p.Tries.toNat 0 p.Wait).drop (k + 1) = P1 p.Most (p.Tries - (i + 1)).toNat (i + 1) (if p.Most < (wI (2 * d)) then p.Most else (wI (2 * d))) := by
  have := congrArg (fun l => l.drop 1) g3
  simpa [P1, hwi, Nat.add_comm] using this
 refine Ah5 (Aj7 (Ah5 ?_))
 refine We (hJ k) (by rfl) (fun w0 S0 => ?_)
 refine sv rfl (Ah rfl) (sv rfl (Ak rfl) (Ls ⟨rfl, rfl, Te (Vg ?_)⟩))
 refine Ah5 (Ah5 (Af7 ?_))
 refine Aip (l1 := [_, _, _]) (hJ k) (by rfl) (fun w0 S0 => ?_)
 refine sv rfl (Ah rfl) (sv rfl (Ah rfl) (sv rfl (Ah rfl) (Ls ⟨rfl, rfl, ?_⟩)))
 refine Aiu rfl rfl (fun _ _ _ _ _ => rfl) hs rfl rfl rfl rfl (x := .one (Ii6 i)) (y := .one (Ii6 d)) (by rw [List.getElem?_map, if_pos rfl, hget]; rfl) ?_ ?_
 rotate_left
 ·
  refine Aip (l1 := [_]) (l2 := []) hJx (by rfl) (fun w0 S0 => ?_)
  refine sv rfl (B8 rfl) (Ls ⟨rfl, rfl, Te (Vg ?_)⟩)
  refine Ai4 rfl (fun _ => ?_) (fun hx => Bool.noConfusion hx)
  exact At9 (And.intro (Or.inr rfl) (Or.inr rfl))
 refine Aip (l1 := [_]) (l2 := []) (hJ (k + 1)) (by rfl) (fun w0 S0 => ?_)
 refine sv rfl (B8 rfl) (Ls ⟨rfl, rfl, Te (Vg ?_)⟩)
 refine Ai4 rfl (fun hx => Bool.noConfusion hx) (fun _ => ?_)
 refine Amm (Vg ?_)
 refine We (hJ (k + 1)) (by rfl) (fun w0 S0 => ?_)
 refine sv rfl (Ah rfl) (sv rfl (Yg rfl rfl) (sv rfl (B2 Agc rfl) (sv rfl (Ae ti3 rfl (.cp _) rfl) (sv rfl (Ss rfl rfl) (sv rfl (Ak rfl) (Ls ⟨rfl, rfl, Te (Av4 (Vg ?_))⟩))))))
 refine We (hJ (k + 1)) (by rfl) (fun w0 S0 => ?_)
 refine sv rfl (B9 rfl rfl) (sv rfl (Ah rfl) (Ls ⟨rfl, rfl, Te (Vg ?_)⟩))
 refine ⟨(k + 1, wI (i + 1), (if p.Most < (wI (2 * d)) then p.Most else (wI (2 * d)))), ⟨?_, ?_, ?_, ?_⟩, ⟨rfl, rfl, rfl, rfl, rfl, trivial⟩, rfl, ?_⟩
 ·show 0 ≤ wI (i + 1)
  rw [hwi]; omega
 ·show wI (i + 1) ≤ p.Tries
  rw [hwi]; omega
 ·show List.drop (k + 1) _ = P1 p.Most (p.Tries - wI (i + 1)).toNat (wI (i + 1)) _
  rw [hwi]
  exact hdrop
 ·show k + 1 + (p.Tries - wI (i + 1)).toNat = _
  rw [hwi]; omega
 ·show (p.Tries - wI (i + 1)).toNat < (p.Tries - i).toNat
  rw [hwi]; omega
def Im (a1 : Int) (s1 : Int × Bool) (x1 : Int × Int) : Option ((Int × Bool) ⊕ (Nat × (Int × Bool))) :=
 if (decide (x1.1 = a1)) then (some (.inr (0, (x1.2, true)))) else (some (.inl (s1.1, s1.2)))
def Mp (s2 : Int × Bool) : Option (Int × Bool) :=
 some (0, false)
def Ml (s3 : Int × Bool) : Option (Int × Bool) :=
 some (s3.1, s3.2)
def Gz (a0 : Dk) (a1 : Int) : Option (Int × Bool) :=
 (Ajf a0).bind fun L1 => (Tr (Im a1) L1 (0, false)).bind fun e => Akk Mp Ml (fun _ _ => none) e
theorem K8 {a0 : Dk} {a1 : Int} {r : Int × Bool} (h : Gz a0 a1 = some r) : Bp Tryz.prog 69 [.agg (EL.el a0), .one (Ii6 a1)] (· = .tup [.one (Ii6 r.1), .one (.b r.2)]) := by
 unfold Gz at h
 refine Adv Tryz.func69 rfl (nt := 16) rfl (Nbl rfl) ?_
 intro w0 S0
 refine Amt (Sr rfl (fun w0 S0 X0 m0 H0 => ?_))
 refine Ami rfl rfl rfl (Ami rfl rfl rfl (Bz rfl zi3 (Bz rfl zi4 (Ar (Amt (Amt (Sr rfl (fun w0 S0 X0 m0 H0 => ?_))))))))
 refine sv rfl (Dj (ys := [Ii6 a0.Wait, Ii6 a0.Most, Ii6 a0.Tries]) Aj9 rfl (.cp _) rfl rfl) (A1 rfl Avf (Ac rfl Al) (Aj rfl) Td (Ar (Ak4 ?_)))
 obtain ⟨L1, hL1, h⟩ := An h
 obtain ⟨e1, he1, h⟩ := An h
 refine Amw (Im a1) L1 (fun x1 => .one (Ii6 x1.1)) (fun x1 => .one (Ii6 x1.2)) (fun s1 => [.box [Ii6 s1.1], .box [.b s1.2]]) (0, false) he1 rfl Asd rfl (Amz hL1) rfl rfl rfl (fun _ => rfl) (fun _ => A0 rfl) ?_ ?_ ?_ ?_
 ·clear h
  intro x1 s1 y1 l h w0 S0 X0 H0
  unfold Im at h
  refine Amt (Sr rfl (fun w0 S0 X0 m0 H0 => ?_))
  refine sv rfl (Ak rfl) (Ar (Sr rfl (fun w0 S0 X0 m0 H0 => ?_)))
  refine sv rfl (Ak rfl) (Ar (fun w0 S0 X0 H0 => ?_))
  refine Ak4 (Amt (Sr rfl (fun w0 S0 X0 m0 H0 => ?_)))
  refine sv rfl (Ah rfl) (sv rfl (Ae ti3 rfl (.cp _) rfl) (sv rfl (Bo rfl rfl) (Ar (Ara rfl (fun hc => ?_) (fun hc => ?_)))))
  ·replace h := B1 hc h
   clear hc
   refine Amt (Sr rfl (fun w0 S0 X0 m0 H0 => ?_))
   refine sv rfl (Ah rfl) (Ax sz3 rfl rfl rfl rfl (Nbl rfl) (Bt [.box [Ii6 x1.2], .box [.b s1.2]] rfl (Ax sz4 rfl rfl rfl rfl (Nbl rfl) (Bt [.box [Ii6 x1.2], .box [.b true]] rfl (Ar (Aty (Bd ?_)))))))
   obtain rfl := SJ h
   exact ⟨(x1.2, true), _, rfl, rfl⟩
  ·replace h := B0 hc h
   clear hc
   refine Ar5 (A5 ?_)
   obtain rfl := SJ h
   exact ⟨(s1.1, s1.2), _, rfl, rfl⟩
 ·intro s2 hs
  obtain rfl := hs
  replace h : Mp s2 = some r := h
  unfold Mp at h
  refine A5 (Ai (Amt (Sr rfl (fun w0 S0 X0 m0 H0 => ?_))))
  refine Ax sz3 rfl rfl rfl rfl (Nbl rfl) (Bt [.box [Ii6 0], .box [.b s2.2]] rfl (Ax sz4 rfl rfl rfl rfl (Nbl rfl) (Bt [.box [Ii6 0], .box [.b false]] rfl (Ar (Aty ?_)))))
  obtain rfl := SJ h
  refine ⟨Or.inr rfl, _, _, _, (Ad (Bc.one _ _ _ _ _ ti3 rfl (.lp _ _ _ rfl) rfl) (Ad (Bc.one _ _ _ _ _ ti4 rfl (.lp _ _ _ rfl) rfl) Af)), (Aj rfl), ?_⟩
  rfl
 ·intro s3 hs
  obtain rfl := hs
  replace h : Ml s3 = some r := h
  unfold Ml at h
  refine Bd (As ?_)
  obtain rfl := SJ h
  refine ⟨Or.inr rfl, _, _, _, (Ad (Bc.one _ _ _ _ _ ti3 rfl (.lp _ _ _ rfl) rfl) (Ad (Bc.one _ _ _ _ _ ti4 rfl (.lp _ _ _ rfl) rfl) Af)), (Aj rfl), ?_⟩
  rfl
 ·intro id s hs
  obtain rfl := hs
  replace h : none = some r := h
  cases h
def Hu (a0 : List UInt8) (a1 : Bool) : Option (List UInt8) :=
 if a1 then ((Eg a0 (1#64) 1).bind fun v1 => some v1) else ((Eg a0 (0#64) 1).bind fun v2 => some v2)
theorem Mt {a0 : List UInt8} {a1 : Bool} {r : (List UInt8)} (h : Hu a0 a1 = some r) : Bp Tryz.prog 42 [.one (.sl a0.length (a0.flatMap eU8)), .one (.b a1)] (· = .s (.one (.sl r.length (r.flatMap eU8)))) := by
 unfold Hu at h
 refine A2 Tryz.func42 rfl (nt := 10) rfl (Nbl rfl) ?_
 intro w0 S0
 refine Aq (Ab (sv rfl (Ak rfl) (Ar (Aq (Aq (Ab (sv rfl (Ah rfl) (Ar (ccI h rfl (fun h => ?_) (fun h => ?_))))))))))
 ·refine Aq (Ab (sv rfl (Ah rfl) ?_))
  obtain ⟨v1, hv1, h⟩ := An h
  refine A1 rfl Aa1 (Ac rfl (Ac rfl (Ac rfl Al))) (Aj rfl) (Ej hv1) (sv rfl (Ak rfl) (Ar (Bj (As ?_))))
  obtain rfl := SJ h
  refine ⟨Or.inr rfl, _, _, _, (Ad (Bc.tmp _ _ rfl) Af), (Aj rfl), ?_⟩
  rfl
 ·refine Bl (Ai (Aq (Ab (sv rfl (Ah rfl) ?_))))
  obtain ⟨v2, hv2, h⟩ := An h
  refine A1 rfl Aa1 (Ac rfl (Ac rfl (Ac rfl Al))) (Aj rfl) (Ej hv2) (sv rfl (Ak rfl) (Ar (Bj ?_)))
  obtain rfl := SJ h
  refine ⟨Or.inr rfl, _, _, _, (Ad (Bc.tmp _ _ rfl) Af), (Aj rfl), ?_⟩
  rfl
def Fy (a0 : List UInt8) (a1 : List UInt8) : Option (List UInt8) :=
 (cut a1 0 (if 65535 < (a1.length : Int) then 65535 else (a1.length : Int))).bind fun c1 => (Eg a0 (BitVec.ofInt 64 (c1.length : Int)) 2).bind fun v2 => (En [v2, c1]).bind fun v3 => some v3
theorem Iq {a0 : List UInt8} {a1 : List UInt8} {r : (List UInt8)} (h : Fy a0 a1 = some r) : Bp Tryz.prog 41 [.one (.sl a0.length (a0.flatMap eU8)), .one (.sl a1.length (a1.flatMap eU8))] (· = .s (.one (.sl r.length (r.flatMap eU8)))) := by
 unfold Fy at h
 refine A2 Tryz.func41 rfl (nt := 18) rfl (Nbl rfl) ?_
 intro w0 S0
 refine Aq (Ab (sv rfl (Ak rfl) (Ar (Aq (Ab (sv rfl (Ah rfl) (sv rfl (Ah rfl) (sv rfl (Az Lc rfl) (sv rfl (Ss rfl rfl) ?_)))))))))
 obtain ⟨c1, hc1, h⟩ := An h
 refine sv rfl (Sw (f := eU8) (lo := 0) (hi := (if 65535 < (a1.length : Int) then 65535 else (a1.length : Int))) Lc (fun _ => rfl) rfl rfl rfl Re (Hs rfl (Int.le_trans (Kp hc1).1.1 (Kp hc1).1.2.1)) hc1) ?_
 refine sv rfl (Ak rfl) (Ar (Aq (Ab (sv rfl (Ah rfl) (sv rfl (Ah rfl) (sv rfl (Az Lc rfl) (sv rfl (C3 rfl Tryz.underlying3 Tryz.underlying112 rfl) ?_)))))))
 obtain ⟨v2, hv2, h⟩ := An h
 refine A1 rfl Aa1 (Ac rfl (Ac rfl (Ac rfl Al))) (Aj rfl) (Ej hv2) (sv rfl (Ah rfl) ?_)
 refine Sp (out := ([v2, c1] : List (List UInt8)).flatMap (eL eU8)) rfl Tryz.underlying124 Anq (Ap rfl (Ap rfl A9)) (.cons _ _ _ _ _ _ _ rfl rfl (Nbl rfl) (.cons _ _ _ _ _ _ _ rfl rfl (Nbl rfl) (.nil _))) rfl (by decide) ?_
 refine Zf 16 rfl (by (repeat' first | exact J8.nil _ | apply J8.cons | apply Jv.one | apply Jv.agg | exact E4.nil | exact E4.ls _ _ _ _ _ _ rfl (Bf (f := (eL eU8)) (fun _ => rfl) ([v2, c1] : List (List UInt8))).symm | exact E4.ls _ _ _ _ _ _ rfl (Bf (f := (eL eU8)) (fun _ => rfl) _).symm | exact E4.id _ rfl | exact D2.nil _ | apply D2.cons)) ?_
 obtain ⟨v3, hv3, h⟩ := An h
 refine C2 (x' := .s (.one (.ls 1 v3.length))) (M' := [.arr 33 1 ([v2, c1].flatMap (eL eU8)).length ([v2, c1].flatMap (eL eU8)), .arr 5 1 0 (v3.flatMap eU8)]) [] rfl Aqg (.func _) (Ac rfl Al) (Ir hv3) rfl rfl (by decide) rfl rfl rfl ?_
 refine sv rfl (Ak rfl) (Ar (Bj ?_))
 obtain rfl := SJ h
 refine ⟨Or.inr rfl, _, _, _, (Ad (Bc.tmp _ _ rfl) Af), (by (repeat' first | exact J8.nil _ | apply J8.cons | apply Jv.one | apply Jv.agg | exact E4.nil | exact E4.ls _ _ _ _ _ _ rfl (Bf (f := (eL eU8)) (fun _ => rfl) _).symm | exact E4.ls _ _ _ _ _ _ rfl (Bf (f := eU8) (fun _ => rfl) _).symm | exact E4.id _ rfl | exact D2.nil _ | apply D2.cons)), ?_⟩
 rfl
def Ij (b10 : (List UInt8)) : Option ((List UInt8) × Int) :=
 some (b10, 0)
def Hm (a0 : B6) (v2 : Gx) (b9 : (List UInt8)) : Option ((List UInt8) × Int) :=
 if v2.rng_ then ((Fy b9 a0.Rng.Lo).bind fun v11 => (Hu v11 a0.Rng.Open).bind fun v12 => (Fy v12 a0.Rng.Hi).bind fun v13 => Ij v13) else (Ij b9)
def Ho (a0 : B6) (v2 : Gx) (b8 : (List UInt8)) : Option ((List UInt8) × Int) :=
 if v2.val_ then ((Fy b8 a0.Val).bind fun v14 => Hm a0 v2 v14) else (Hm a0 v2 b8)
def Hr (a0 : B6) (v2 : Gx) (b7 : (List UInt8)) : Option ((List UInt8) × Int) :=
 if v2.key_ then ((Fy b7 a0.Key).bind fun v15 => Ho a0 v2 v15) else (Ho a0 v2 b7)
def Hn (a0 : B6) (v2 : Gx) (b6 : (List UInt8)) : Option ((List UInt8) × Int) :=
 if v2.ro_ then ((Hu b6 a0.RO).bind fun v16 => Hr a0 v2 v16) else (Hr a0 v2 b6)
def E9 (a0 : B6) (v2 : Gx) (b5 : (List UInt8)) : Option ((List UInt8) × Int) :=
 if v2.attempt_ then ((Eg b5 (BitVec.ofInt 64 a0.Attempt) 2).bind fun v17 => Hn a0 v2 v17) else (Hn a0 v2 b5)
def Lq (a0 : B6) : Option ((List UInt8) × Int) :=
 (Jb a0).bind fun v1 => if (!v1) then (some (([] : List UInt8), 1)) else ((I0 a0.Kind).bind fun v2 => (Eg ([] : List UInt8) (BitVec.ofInt 64 a0.Kind) 1).bind fun v3 => (Eg v3 (BitVec.ofInt 64 a0.Seq) 4).bind fun v4 => if v2.token_ then ((Eg v4 (BitVec.ofInt 64 a0.Token) 8).bind fun v18 => E9 a0 v2 v18) else (E9 a0 v2 v4))
theorem Vb {a0 : B6} {r : (List UInt8) × Int} (h : Lq a0 = some r) : Bp Tryz.prog 89 [.agg (EL.el a0)] (· = .tup [.one (.sl r.1.length (r.1.flatMap eU8)), .one (Ii6 r.2)]) := by
 unfold Lq at h
 refine A2 Tryz.func89 rfl (nt := 68) rfl (Nbl rfl) ?_
 intro w0 S0
 refine Aq (Ab (Je rfl rfl (sv rfl (Ak rfl) (sv rfl (Ak rfl) (Ar (Aq (Aq (Ab (sv rfl (Ao Aei rfl (.lp _ _ _ rfl) (Nbl rfl)) ?_)))))))))
 obtain ⟨v1, hv1, h⟩ := An h
 refine A1 rfl Atl (Ac rfl Al) (Aj rfl) (Pf hv1) (sv rfl (B8 rfl) (Ar (ccI h rfl (fun h => ?_) (fun h => ?_))))
 ·refine Aq (Ab (sv rfl (Ak rfl) (sv rfl (Ak rfl) (Ar (Bj (As ?_))))))
  obtain rfl := SJ h
  refine ⟨Or.inr rfl, _, _, _, (Ad (Bc.tmp _ _ rfl) (Ad (Bc.tmp _ _ rfl) Af)), (Nl rfl), ?_⟩
  rfl
 ·refine Bl (Ai (Aq (Ab (sv rfl (Aa Pw rfl) (sv rfl (Ae ti3 rfl (.lp _ _ _ rfl) rfl) ?_)))))
  obtain ⟨v2, hv2, h⟩ := An h
  refine A1 rfl Aug (Ac rfl Al) (Aj rfl) (Pi hv2) (Bz rfl Aix (Ax Aje rfl rfl rfl rfl (Nbl rfl) (Bt [.box (EL.el a0), .box (EL.el v2)] rfl (Ar (Aq ?_)))))
  refine Afn Lz (by kernel_rfl) ?_
  refine dv rfl (Aa Pw rfl) (dv rfl (Ae ti3 rfl (.lp _ _ _ rfl) rfl) (dv rfl (C3 rfl Tryz.underlying3 Tryz.underlying112 rfl) ?_))
  obtain ⟨v3, hv3, h⟩ := An h
  refine dd rfl (Tw Aa1 (Ac rfl (Ac rfl (Ac rfl Al))) rfl (Ej hv3)) (dv rfl (Aa Qq rfl) (dv rfl (Ae ti3 rfl (.lp _ _ _ rfl) rfl) (dv rfl (C3 rfl Tryz.underlying3 Tryz.underlying112 rfl) ?_)))
  obtain ⟨v4, hv4, h⟩ := An h
  refine dd rfl (Dy Aa1 (Ac rfl (Ac rfl (Ac rfl Al))) rfl (Ej hv4)) (dv rfl (Ak rfl) (Agx (Ai (Aq (Aq (Ab (sv rfl (Aa Agu rfl) (sv rfl (Ae ti4 rfl (.lp _ _ _ rfl) rfl) (Ar (G5 ((List UInt8)) (fun b5 => [(1, .s (.one (.lp 0 0))), (4, .s (.one (.lp 1 0))), (5, .s (.one (.sl b5.length (b5.flatMap eU8))))]) (fun b5 => [.box (EL.el a0), .box (EL.el v2)]) (fun b5 => E9 a0 v2 b5 = some r) (fun _ _ => Bg rfl) (fun _ _ => A0 rfl) (fun _ _ => Nbl rfl) (fun b5 h => ?_) ?_))))))))))
  ·unfold E9 at h
   refine Aq (Aq (Ab (sv rfl (Aa Ahu rfl) (sv rfl (Ae ti4 rfl (.lp _ _ _ rfl) rfl) (Ar (G5 ((List UInt8)) (fun b6 => [(1, .s (.one (.lp 0 0))), (4, .s (.one (.lp 1 0))), (5, .s (.one (.sl b6.length (b6.flatMap eU8))))]) (fun b6 => [.box (EL.el a0), .box (EL.el v2)]) (fun b6 => Hn a0 v2 b6 = some r) (fun _ _ => Bg rfl) (fun _ _ => A0 rfl) (fun _ _ => Nbl rfl) (fun b6 h => ?_) ?_))))))
   ·unfold Hn at h
    refine Aq (Aq (Ab (sv rfl (Aa Ag6 rfl) (sv rfl (Ae ti4 rfl (.lp _ _ _ rfl) rfl) (Ar (G5 ((List UInt8)) (fun b7 => [(1, .s (.one (.lp 0 0))), (4, .s (.one (.lp 1 0))), (5, .s (.one (.sl b7.length (b7.flatMap eU8))))]) (fun b7 => [.box (EL.el a0), .box (EL.el v2)]) (fun b7 => Hr a0 v2 b7 = some r) (fun _ _ => Bg rfl) (fun _ _ => A0 rfl) (fun _ _ => Nbl rfl) (fun b7 h => ?_) ?_))))))
    ·unfold Hr at h
     refine Aq (Aq (Ab (sv rfl (Aa Aa3 rfl) (sv rfl (Ae ti4 rfl (.lp _ _ _ rfl) rfl) (Ar (G5 ((List UInt8)) (fun b8 => [(1, .s (.one (.lp 0 0))), (4, .s (.one (.lp 1 0))), (5, .s (.one (.sl b8.length (b8.flatMap eU8))))]) (fun b8 => [.box (EL.el a0), .box (EL.el v2)]) (fun b8 => Ho a0 v2 b8 = some r) (fun _ _ => Bg rfl) (fun _ _ => A0 rfl) (fun _ _ => Nbl rfl) (fun b8 h => ?_) ?_))))))
     ·unfold Ho at h
      refine Aq (Aq (Ab (sv rfl (Aa Abg rfl) (sv rfl (Ae ti4 rfl (.lp _ _ _ rfl) rfl) (Ar (G5 ((List UInt8)) (fun b9 => [(1, .s (.one (.lp 0 0))), (4, .s (.one (.lp 1 0))), (5, .s (.one (.sl b9.length (b9.flatMap eU8))))]) (fun b9 => [.box (EL.el a0), .box (EL.el v2)]) (fun b9 => Hm a0 v2 b9 = some r) (fun _ _ => Bg rfl) (fun _ _ => A0 rfl) (fun _ _ => Nbl rfl) (fun b9 h => ?_) ?_))))))
      ·unfold Hm at h
       refine Aq (Aq (Ab (sv rfl (Aa Aci rfl) (sv rfl (Ae ti4 rfl (.lp _ _ _ rfl) rfl) (Ar (G5 ((List UInt8)) (fun b10 => [(5, .s (.one (.sl b10.length (b10.flatMap eU8))))]) (fun b10 => [.box (EL.el a0), .box (EL.el v2)]) (fun b10 => Ij b10 = some r) (fun _ _ => Bg rfl) (fun _ _ => A0 rfl) (fun _ _ => Nbl rfl) (fun b10 h => ?_) ?_))))))
       ·unfold Ij at h
        refine Aq (Ab (sv rfl (Ah rfl) (sv rfl (Ak rfl) (sv rfl (Ak rfl) (Ar (Bj ?_))))))
        obtain rfl := SJ h
        refine ⟨Or.inr rfl, _, _, _, (Ad (Bc.tmp _ _ rfl) (Ad (Bc.tmp _ _ rfl) Af)), (Aj rfl), ?_⟩
        rfl
       ·skip
        refine ccI h rfl (fun h => ?_) (fun h => ?_)
        ·refine Ac1 Lz (by kernel_rfl) ?_
         refine dv rfl (Ah rfl) (dv rfl (Aa Za rfl) (dv rfl (Aa Ti rfl) (dv rfl (Ae L2 rfl (.lp _ _ _ rfl) rfl) ?_)))
         obtain ⟨v11, hv11, h⟩ := An h
         refine dd rfl (Dy Alt (Ac rfl (Ac rfl Al)) rfl (Iq hv11)) (dv rfl (Aa Za rfl) (dv rfl (Aa X2 rfl) (dv rfl (Ae ti4 rfl (.lp _ _ _ rfl) rfl) ?_)))
         obtain ⟨v12, hv12, h⟩ := An h
         refine dd rfl (Dy Aqy (Ac rfl (Ac rfl Al)) rfl (Mt hv12)) (dv rfl (Aa Za rfl) (dv rfl (Aa Qv rfl) (dv rfl (Ae L2 rfl (.lp _ _ _ rfl) rfl) ?_)))
         obtain ⟨v13, hv13, h⟩ := An h
         refine dd rfl (Dy Alt (Ac rfl (Ac rfl Al)) rfl (Iq hv13)) (dv rfl (Ak rfl) (Agx (Ai ?_)))
         exact ⟨v13, _, h, ⟨rfl, trivial⟩, rfl⟩
        ·refine Bl (Ai ?_)
         exact ⟨b9, _, h, ⟨rfl, trivial⟩, rfl⟩
      ·skip
       refine ccI h rfl (fun h => ?_) (fun h => ?_)
       ·refine Ab (sv rfl (Ah rfl) (sv rfl (Aa Afs rfl) (sv rfl (Ae L2 rfl (.lp _ _ _ rfl) rfl) ?_)))
        obtain ⟨v14, hv14, h⟩ := An h
        refine A1 rfl Alt (Ac rfl (Ac rfl Al)) (Aj rfl) (Iq hv14) (sv rfl (Ak rfl) (Ar ?_))
        exact ⟨v14, _, h, ⟨rfl, rfl, rfl, trivial⟩, rfl⟩
       ·refine Bl (Ai ?_)
        exact ⟨b8, _, h, ⟨rfl, rfl, rfl, trivial⟩, rfl⟩
     ·skip
      refine ccI h rfl (fun h => ?_) (fun h => ?_)
      ·refine Ab (sv rfl (Ah rfl) (sv rfl (Aa Aff rfl) (sv rfl (Ae L2 rfl (.lp _ _ _ rfl) rfl) ?_)))
       obtain ⟨v15, hv15, h⟩ := An h
       refine A1 rfl Alt (Ac rfl (Ac rfl Al)) (Aj rfl) (Iq hv15) (sv rfl (Ak rfl) (Ar ?_))
       exact ⟨v15, _, h, ⟨rfl, rfl, rfl, trivial⟩, rfl⟩
      ·refine Bl (Ai ?_)
       exact ⟨b7, _, h, ⟨rfl, rfl, rfl, trivial⟩, rfl⟩
    ·skip
     refine ccI h rfl (fun h => ?_) (fun h => ?_)
     ·refine Ab (sv rfl (Ah rfl) (sv rfl (Aa Akz rfl) (sv rfl (Ae ti4 rfl (.lp _ _ _ rfl) rfl) ?_)))
      obtain ⟨v16, hv16, h⟩ := An h
      refine A1 rfl Aqy (Ac rfl (Ac rfl Al)) (Aj rfl) (Mt hv16) (sv rfl (Ak rfl) (Ar ?_))
      exact ⟨v16, _, h, ⟨rfl, rfl, rfl, trivial⟩, rfl⟩
     ·refine Bl (Ai ?_)
      exact ⟨b6, _, h, ⟨rfl, rfl, rfl, trivial⟩, rfl⟩
   ·skip
    refine ccI h rfl (fun h => ?_) (fun h => ?_)
    ·refine Ab (sv rfl (Ah rfl) (sv rfl (Aa Aj5 rfl) (sv rfl (Ae ti3 rfl (.lp _ _ _ rfl) rfl) (sv rfl (C3 rfl Tryz.underlying3 Tryz.underlying112 rfl) ?_))))
     obtain ⟨v17, hv17, h⟩ := An h
     refine A1 rfl Aa1 (Ac rfl (Ac rfl (Ac rfl Al))) (Aj rfl) (Ej hv17) (sv rfl (Ak rfl) (Ar ?_))
     exact ⟨v17, _, h, ⟨rfl, rfl, rfl, trivial⟩, rfl⟩
    ·refine Bl (Ai ?_)
     exact ⟨b5, _, h, ⟨rfl, rfl, rfl, trivial⟩, rfl⟩
  ·skip
   refine ccI h rfl (fun h => ?_) (fun h => ?_)
   ·refine Ab (sv rfl (Ah rfl) (sv rfl (Aa Aj8 rfl) (sv rfl (Ae ti3 rfl (.lp _ _ _ rfl) rfl) (sv rfl (C3 rfl Tryz.underlying3 Tryz.underlying112 rfl) ?_))))
    obtain ⟨v18, hv18, h⟩ := An h
    refine A1 rfl Aa1 (Ac rfl (Ac rfl (Ac rfl Al))) (Aj rfl) (Ej hv18) (sv rfl (Ak rfl) (Ar ?_))
    exact ⟨v18, _, h, ⟨rfl, rfl, rfl, trivial⟩, rfl⟩
   ·refine Bl (Ai ?_)
    exact ⟨v4, _, h, ⟨rfl, rfl, rfl, trivial⟩, rfl⟩
def M5 (a0 : List UInt8) : Option Gj :=
 (I5 a0).bind fun v1 => some (Gj.mk (K5.mk (a0.length : Int) v1) a0)
theorem Vc {a0 : List UInt8} {r : Gj} (h : M5 a0 = some r) : Bp Tryz.prog 43 [.one (.sl a0.length (a0.flatMap eU8))] (· = .s (.agg (EL.el r))) := by
 unfold M5 at h
 refine A2 Tryz.func43 rfl (nt := 10) rfl (Nbl rfl) ?_
 intro w0 S0
 refine Aq (Ab (Bz rfl Wg (Ar (Aq (Ab (sv rfl (Ah rfl) (sv rfl (Az Lc rfl) (sv rfl (Ah rfl) ?_))))))))
 obtain ⟨v1, hv1, h⟩ := An h
 refine A1 rfl Atq (Ac rfl Al) (Aj rfl) (Pj hv1) (sv rfl (Bk Aq5 As8 (Ap rfl (Ap rfl A9)) (.cons _ _ _ _ _ _ _ rfl rfl (Nbl rfl) (.cons _ _ _ _ _ _ _ rfl rfl (Nbl rfl) (.nil _)))) (sv rfl (Ah rfl) (sv rfl (Bk Wg Adn (Ap rfl (Ap rfl A9)) (.cons _ _ _ _ _ _ _ rfl rfl (Nbl rfl) (.cons _ _ _ _ _ _ _ rfl rfl (Nbl rfl) (.nil _)))) (Ax Ya rfl rfl rfl rfl (Nbl rfl) (Bt [.box [Ii6 (a0.length : Int), .i .u32 (v1.toNat : Int), .sl a0.length (a0.flatMap eU8)]] rfl (Ar (Bj ?_)))))))
 obtain rfl := SJ h
 refine ⟨Or.inr rfl, _, _, _, (Ad (Bc.agg _ _ _ _ _ Acj rfl (.lp _ _ _ rfl) (Nbl rfl)) Af), (Aj rfl), ?_⟩
 rfl
def K7 (a0 : List UInt8) (a1 : List UInt8) : Option ((List UInt8) × Int) :=
 if (decide (512 < (a1.length : Int))) then (some (([] : List UInt8), 5)) else ((M5 a1).bind fun v1 => (Eg ([] : List UInt8) (BitVec.ofInt 64 v1.head_.size_) 2).bind fun v2 => (Eg v2 (v1.head_.sum_.setWidth 64) 4).bind fun v3 => (En [a0, v3, v1.payload_]).bind fun v4 => some (v4, 0))
theorem Q7 {a0 : List UInt8} {a1 : List UInt8} {r : (List UInt8) × Int} (h : K7 a0 a1 = some r) : Bp Tryz.prog 17 [.one (.sl a0.length (a0.flatMap eU8)), .one (.sl a1.length (a1.flatMap eU8))] (· = .tup [.one (.sl r.1.length (r.1.flatMap eU8)), .one (Ii6 r.2)]) := by
 unfold K7 at h
 refine A2 Tryz.func17 rfl (nt := 30) rfl (Nbl rfl) ?_
 intro w0 S0
 refine Aq (Ab (sv rfl (Ak rfl) (sv rfl (Ak rfl) (Ar (Aq (Aq (Ab (sv rfl (Ah rfl) (sv rfl (Az Lc rfl) (sv rfl (Dg rfl rfl) (Ar (ccI h rfl (fun h => ?_) (fun h => ?_)))))))))))))
 ·refine Aq (Ab (sv rfl (Ak rfl) (sv rfl (Ak rfl) (Ar (Bj (As ?_))))))
  obtain rfl := SJ h
  refine ⟨Or.inr rfl, _, _, _, (Ad (Bc.tmp _ _ rfl) (Ad (Bc.tmp _ _ rfl) Af)), (Nl rfl), ?_⟩
  rfl
 ·refine Bl (Ai (Aq (Ab (sv rfl (Ah rfl) ?_))))
  obtain ⟨v1, hv1, h⟩ := An h
  refine A1 rfl Ave (Ac rfl Al) (Aj rfl) (Vc hv1) (Bz rfl Wg (Ax Ya rfl rfl rfl rfl (Nbl rfl) (Bt [.box (EL.el v1)] rfl (Ar (Aq (Ab (sv rfl (Aa Pp rfl) (sv rfl (Aa T5 rfl) (sv rfl (Ae ti3 rfl (.lp _ _ _ rfl) rfl) (sv rfl (C3 rfl Tryz.underlying3 Tryz.underlying112 rfl) ?_))))))))))
  obtain ⟨v2, hv2, h⟩ := An h
  refine A1 rfl Aa1 (Ac rfl (Ac rfl (Ac rfl Al))) (Nl rfl) (Ej hv2) (sv rfl (Ak rfl) (Ar (Aq (Ab (sv rfl (Ah rfl) (sv rfl (Aa Pp rfl) (sv rfl (Aa Aa9 rfl) (sv rfl (Ae Alk rfl (.lp _ _ _ rfl) rfl) (sv rfl (N6 (k := .u32) (a := v1.head_.sum_) rfl Tryz.underlying117 Tryz.underlying112 rfl rfl) ?_)))))))))
  obtain ⟨v3, hv3, h⟩ := An h
  refine A1 rfl Aa1 (Ac rfl (Ac rfl (Ac rfl Al))) (Aj rfl) (Ej hv3) (sv rfl (Ak rfl) (Ar (Aq (Ab (sv rfl (Ah rfl) (sv rfl (Ah rfl) (sv rfl (Aa Yf rfl) (sv rfl (Ae L2 rfl (.lp _ _ _ rfl) rfl) ?_))))))))
  refine Sp (out := ([a0, v3, v1.payload_] : List (List UInt8)).flatMap (eL eU8)) rfl Tryz.underlying124 Anq (Ap rfl (Ap rfl (Ap rfl A9))) (.cons _ _ _ _ _ _ _ rfl rfl (Nbl rfl) (.cons _ _ _ _ _ _ _ rfl rfl (Nbl rfl) (.cons _ _ _ _ _ _ _ rfl rfl (Nbl rfl) (.nil _)))) rfl (by decide) ?_
  refine Zf 28 rfl (by (repeat' first | exact J8.nil _ | apply J8.cons | apply Jv.one | apply Jv.agg | exact E4.nil | exact E4.ls _ _ _ _ _ _ rfl (Bf (f := (eL eU8)) (fun _ => rfl) ([a0, v3, v1.payload_] : List (List UInt8))).symm | exact E4.ls _ _ _ _ _ _ rfl (Bf (f := (eL eU8)) (fun _ => rfl) _).symm | exact E4.id _ rfl | exact D2.nil _ | apply D2.cons)) ?_
  obtain ⟨v4, hv4, h⟩ := An h
  refine C2 (x' := .s (.one (.ls 2 v4.length))) (M' := [.box (EL.el v1), .arr 33 1 ([a0, v3, v1.payload_].flatMap (eL eU8)).length ([a0, v3, v1.payload_].flatMap (eL eU8)), .arr 5 1 0 (v4.flatMap eU8)]) [] rfl Aqg (.func _) (Ac rfl Al) (Ir hv4) rfl rfl (by decide) rfl rfl rfl ?_
  refine sv rfl (Ak rfl) (sv rfl (Ak rfl) (Ar (Bj ?_)))
  obtain rfl := SJ h
  refine ⟨Or.inr rfl, _, _, _, (Ad (Bc.tmp _ _ rfl) (Ad (Bc.tmp _ _ rfl) Af)), (by (repeat' first | exact J8.nil _ | apply J8.cons | apply Jv.one | apply Jv.agg | exact E4.nil | exact E4.ls _ _ _ _ _ _ rfl (Bf (f := (eL eU8)) (fun _ => rfl) _).symm | exact E4.ls _ _ _ _ _ _ rfl (Bf (f := eU8) (fun _ => rfl) _).symm | exact E4.id _ rfl | exact D2.nil _ | apply D2.cons)), ?_⟩
  rfl
def Fg (a0 : Ag) : Option Ag :=
 (Lq a0.Req).bind fun v1 => if (!decide (v1.2 = 0)) then ((Ce a0).bind fun v2 => some v2) else ((K7 a0.Out v1.1).bind fun v3 => if (!decide (v3.2 = 0)) then ((Ce a0).bind fun v4 => some v4) else (some ({a0 with Out := v3.1})))
theorem Mg {a0 : Ag} {r : Ag} (h : Fg a0 = some r) : Bp Tryz.prog 70 [.agg (EL.el a0)] (· = .s (.agg (EL.el r))) := by
 unfold Fg at h
 refine A2 Tryz.func70 rfl (nt := 30) rfl (Nbl rfl) ?_
 intro w0 S0
 refine Aq (Ab (Je rfl rfl (Bz rfl Nc (Ar (Aq (Ab (sv rfl (Aa Ji rfl) (sv rfl (Ao Aei rfl (.lp _ _ _ rfl) (Nbl rfl)) ?_))))))))
 obtain ⟨v1, hv1, h⟩ := An h
 refine A1 rfl Avs (Ac rfl Al) (Aj rfl) (Vb hv1) (sv rfl (Fs rfl) (sv rfl (A7 rfl rfl) (sv rfl (A7 rfl rfl) (sv rfl (Ak rfl) (sv rfl (Ak rfl) (Ar (Aq (Aq (Ab (sv rfl (Ah rfl) (sv rfl (Cd rfl rfl) (Ar (ccI h rfl (fun h => ?_) (fun h => ?_))))))))))))))
 ·refine Aq (Ab (sv rfl (Ao B4 rfl (.lp _ _ _ rfl) (Nbl rfl)) ?_))
  obtain ⟨v2, hv2, h⟩ := An h
  refine A1 rfl Anh (Ac rfl Al) (Aj rfl) (Df hv2) (Ax Em rfl rfl rfl rfl (Nbl rfl) (Bt [.box (EL.el a0), .box (EL.el v2)] rfl (Ar (Bj (As ?_)))))
  obtain rfl := SJ h
  refine ⟨Or.inr rfl, _, _, _, (Ad (Bc.agg _ _ _ _ _ B4 rfl (.lp _ _ _ rfl) (Nbl rfl)) Af), (Aj rfl), ?_⟩
  rfl
 ·refine Bl (Ai (Aq (Ab (sv rfl (Aa Qh rfl) (sv rfl (Ae L2 rfl (.lp _ _ _ rfl) rfl) (sv rfl (Ah rfl) ?_))))))
  obtain ⟨v3, hv3, h⟩ := An h
  refine A1 rfl Aub (Ac rfl (Ac rfl Al)) (Aj rfl) (Q7 hv3) (sv rfl (Fs rfl) (sv rfl (A7 rfl rfl) (sv rfl (A7 rfl rfl) (sv rfl (Ak rfl) (sv rfl (Ak rfl) (Ar (Aq (Aq (Ab (sv rfl (Ah rfl) (sv rfl (Cd rfl rfl) (Ar (ccI h rfl (fun h => ?_) (fun h => ?_))))))))))))))
  ·refine Aq (Ab (sv rfl (Ao B4 rfl (.lp _ _ _ rfl) (Nbl rfl)) ?_))
   obtain ⟨v4, hv4, h⟩ := An h
   refine A1 rfl Anh (Ac rfl Al) (Aj rfl) (Df hv4) (Ax Em rfl rfl rfl rfl (Nbl rfl) (Bt [.box (EL.el a0), .box (EL.el v4)] rfl (Ar (Bj (As ?_)))))
   obtain rfl := SJ h
   refine ⟨Or.inr rfl, _, _, _, (Ad (Bc.agg _ _ _ _ _ B4 rfl (.lp _ _ _ rfl) (Nbl rfl)) Af), (Aj rfl), ?_⟩
   rfl
  ·refine Bl (Ai (Aq (Ab (sv rfl (Ah rfl) (sv rfl (Aa Qh rfl) (Ax Apr rfl rfl rfl rfl (Nbl rfl) (Bt [.box (EL.el {a0 with Out := v3.1}), .box Zba] rfl (Ar (Aq (Ab (sv rfl (Ao B4 rfl (.lp _ _ _ rfl) (Nbl rfl)) (Ax Em rfl rfl rfl rfl (Nbl rfl) (Bt [.box (EL.el {a0 with Out := v3.1}), .box (EL.el {a0 with Out := v3.1})] rfl (Ar (Bj ?_)))))))))))))))
   obtain rfl := SJ h
   refine ⟨Or.inr rfl, _, _, _, (Ad (Bc.agg _ _ _ _ _ B4 rfl (.lp _ _ _ rfl) (Nbl rfl)) Af), (Aj rfl), ?_⟩
   rfl
def Gl (a0 : Ag) (a1 : B6) (b1 : Unit) : Option Ag :=
 (Gz a0.Cfg.Plan 0).bind fun v2 => (Fg ({a0 with Seq := (wI (a0.Seq + 1)), Sent := 0, Left := v2.1, Req := {a1 with Seq := a0.Seq}})).bind fun v3 => some v3
def Cb (a0 : Ag) (a1 : B6) : Option Ag :=
 if (decide (4294967295 < a0.Seq)) then ((Ce a0).bind fun v4 => some v4) else ((Ep a0).bind fun v5 => if v5 then ((Ce a0).bind fun v6 => some v6) else (Gl a0 a1 ()))
theorem C5 {a0 : Ag} {a1 : B6} {r : Ag} (h : Cb a0 a1 = some r) : Bp Tryz.prog 35 [.agg (EL.el a0), .agg (EL.el a1)] (· = .s (.agg (EL.el r))) := by
 unfold Cb at h
 refine A2 Tryz.func35 rfl (nt := 34) rfl (Nbl rfl) ?_
 intro w0 S0
 refine Aq (Ab (Je rfl rfl (Je rfl rfl (Bz rfl Nc (Ar (Aq (Aq (Ki (Unit) (fun b1 => [(2, .s (.one (.lp 0 0))), (3, .s (.one (.lp 1 0))), (4, .s (.one (.lp 2 0)))]) (fun b1 => [.box (EL.el a0), .box (EL.el a1), .box Zba]) (fun b1 => Gl a0 a1 b1 = some r) (fun _ _ => Bg rfl) (fun _ _ => A0 rfl) (fun _ _ => Nbl rfl) (fun b1 h => ?_) ?_))))))))
 ·unfold Gl at h
  refine Aq (Ab (sv rfl (Aa Xl rfl) (sv rfl (Ae ti3 rfl (.lp _ _ _ rfl) rfl) (sv rfl (Aa Qq rfl) (Ax sz3 rfl rfl rfl rfl (Nbl rfl) (Bt [.box (EL.el a0), .box (EL.el {a1 with Seq := a0.Seq}), .box Zba] rfl (Ar (Aq (Ab (sv rfl (Aa Xl rfl) (sv rfl (Ae ti3 rfl (.lp _ _ _ rfl) rfl) (sv rfl (B9 rfl rfl) (sv rfl (Aa Xl rfl) (Ax sz3 rfl rfl rfl rfl (Nbl rfl) (Bt [.box (EL.el {a0 with Seq := wI (a0.Seq + 1)}), .box (EL.el {a1 with Seq := a0.Seq}), .box Zba] rfl (Ar (Aq (Ab (sv rfl (Ao Aei rfl (.lp _ _ _ rfl) (Nbl rfl)) (sv rfl (Aa Ji rfl) (Ax Ahx rfl rfl rfl rfl (Nbl rfl) (Bt [.box (EL.el {a0 with Seq := wI (a0.Seq + 1), Req.Kind := a1.Kind, Req.Seq := a0.Seq, Req.Token := a1.Token, Req.Attempt := a1.Attempt, Req.RO := a1.RO, Req.Key := a1.Key, Req.Val := a1.Val, Req.Rng := a1.Rng}), .box (EL.el {a1 with Seq := a0.Seq}), .box Zba] rfl (Ar (Aq (Ab (sv rfl (Aa Aai rfl) (Ax sz3 rfl rfl rfl rfl (Nbl rfl) (Bt [.box (EL.el {a0 with Seq := wI (a0.Seq + 1), Sent := 0, Req.Kind := a1.Kind, Req.Seq := a0.Seq, Req.Token := a1.Token, Req.Attempt := a1.Attempt, Req.RO := a1.RO, Req.Key := a1.Key, Req.Val := a1.Val, Req.Rng := a1.Rng}), .box (EL.el {a1 with Seq := a0.Seq}), .box Zba] rfl (Ar (Aq (Ab (sv rfl (Aa Qp rfl) (sv rfl (Aa Wm rfl) (sv rfl (Ao Aj9 rfl (.lp _ _ _ rfl) (Nbl rfl)) ?_))))))))))))))))))))))))))))))))))
  obtain ⟨v2, hv2, h⟩ := An h
  refine A1 rfl Aqo (Ac rfl (Ac rfl Al)) (Aj rfl) (K8 hv2) (sv rfl (Fs rfl) (sv rfl (A7 rfl rfl) (sv rfl (A7 rfl rfl) (sv rfl (Aa Q4 rfl) (Ax sz3 rfl rfl rfl rfl (Nbl rfl) (Bt [.box (EL.el {a0 with Seq := wI (a0.Seq + 1), Sent := 0, Left := v2.1, Req.Kind := a1.Kind, Req.Seq := a0.Seq, Req.Token := a1.Token, Req.Attempt := a1.Attempt, Req.RO := a1.RO, Req.Key := a1.Key, Req.Val := a1.Val, Req.Rng := a1.Rng}), .box (EL.el {a1 with Seq := a0.Seq}), .box Zba] rfl (Ar (Aq (Ab (sv rfl (Ao B4 rfl (.lp _ _ _ rfl) (Nbl rfl)) ?_))))))))))
  obtain ⟨v3, hv3, h⟩ := An h
  refine A1 rfl Atv (Ac rfl Al) (Aj rfl) (Mg hv3) (Ax Em rfl rfl rfl rfl (Nbl rfl) (Bt [.box (EL.el {a0 with Seq := wI (a0.Seq + 1), Sent := 0, Left := v2.1, Req.Kind := a1.Kind, Req.Seq := a0.Seq, Req.Token := a1.Token, Req.Attempt := a1.Attempt, Req.RO := a1.RO, Req.Key := a1.Key, Req.Val := a1.Val, Req.Rng := a1.Rng}), .box (EL.el {a1 with Seq := a0.Seq}), .box (EL.el v3)] rfl (Ar (Bj ?_))))
  obtain rfl := SJ h
  refine ⟨Or.inr rfl, _, _, _, (Ad (Bc.agg _ _ _ _ _ B4 rfl (.lp _ _ _ rfl) (Nbl rfl)) Af), (Aj rfl), ?_⟩
  rfl
 ·skip
  refine Ab (sv rfl (Aa Xl rfl) (sv rfl (Ae ti3 rfl (.lp _ _ _ rfl) rfl) (sv rfl (Dg rfl rfl) (sv rfl (Ah rfl) (Bq 8 rfl (fun hc => ?_) (fun hc => ?_))))))
  ·replace h := B1 hc h
   clear hc
   refine Aw rfl rfl rfl rfl (Aw rfl rfl rfl rfl (sv rfl (Au rfl rfl) (Ar (Hy rfl (fun _ => ?_) (fun hx => Bool.noConfusion hx)))))
   refine Aq (Ab (sv rfl (Ao B4 rfl (.lp _ _ _ rfl) (Nbl rfl)) ?_))
   obtain ⟨v4, hv4, h⟩ := An h
   refine A1 rfl Anh (Ac rfl Al) (Aj rfl) (Df hv4) (Ax Em rfl rfl rfl rfl (Nbl rfl) (Bt [.box (EL.el a0), .box (EL.el a1), .box (EL.el v4)] rfl (Ar (Bj (As ?_)))))
   obtain rfl := SJ h
   refine ⟨Or.inr rfl, _, _, _, (Ad (Bc.agg _ _ _ _ _ B4 rfl (.lp _ _ _ rfl) (Nbl rfl)) Af), (Aj rfl), ?_⟩
   rfl
  ·replace h := B0 hc h
   clear hc
   refine son rfl rfl rfl (sv rfl (Ao B4 rfl (.lp _ _ _ rfl) (Nbl rfl)) (son rfl rfl rfl ?_))
   obtain ⟨v5, hv5, h⟩ := An h
   refine A1 rfl At2 (Ac rfl Al) (Aj rfl) (Mc hv5) (sv rfl (Am rfl rfl) (Ar (ccI h rfl (fun h => ?_) (fun h => ?_))))
   ·refine Aq (Ab (sv rfl (Ao B4 rfl (.lp _ _ _ rfl) (Nbl rfl)) ?_))
    obtain ⟨v6, hv6, h⟩ := An h
    refine A1 rfl Anh (Ac rfl Al) (Aj rfl) (Df hv6) (Ax Em rfl rfl rfl rfl (Nbl rfl) (Bt [.box (EL.el a0), .box (EL.el a1), .box (EL.el v6)] rfl (Ar (Bj (As ?_)))))
    obtain rfl := SJ h
    refine ⟨Or.inr rfl, _, _, _, (Ad (Bc.agg _ _ _ _ _ B4 rfl (.lp _ _ _ rfl) (Nbl rfl)) Af), (Aj rfl), ?_⟩
    rfl
   ·refine Bl (Ai ?_)
    exact ⟨(), _, h, ⟨rfl, rfl, rfl, trivial⟩, rfl⟩
def Dn (a0 : Ag) : Option (Ag × Int) :=
 (Ex a0).bind fun v1 => if (!v1) then (some (Cw, 1)) else (if (!decide (a0.Phase = 1)) then (some (Cw, 7)) else ((Cb ({a0 with Phase := 2, Seq := 0}) (B6.mk 1 0 a0.Cfg.Who a0.Epoch false ([] : List UInt8) ([] : List UInt8) Bs)).bind fun v2 => some (v2, 0)))
theorem Kb {a0 : Ag} {r : Ag × Int} (h : Dn a0 = some r) : Bp Tryz.prog 14 [.agg (EL.el a0)] (· = .tup [.agg (EL.el r.1), .one (Ii6 r.2)]) := by
 unfold Dn at h
 refine A2 Tryz.func14 rfl (nt := 22) rfl (Nbl rfl) ?_
 intro w0 S0
 refine Aq (Ab (Je rfl rfl (Bz rfl Nc (sv rfl (Ak rfl) (Ar (Aq (Aq (Ab (sv rfl (Ao B4 rfl (.lp _ _ _ rfl) (Nbl rfl)) ?_)))))))))
 obtain ⟨v1, hv1, h⟩ := An h
 refine A1 rfl Anm (Ac rfl Al) (Aj rfl) (Hp hv1) (sv rfl (B8 rfl) (Ar (ccI h rfl (fun h => ?_) (fun h => ?_))))
 ·refine Aq (Ab (sv rfl (Bk Nc Add A9 (.nil _)) (Ax Em rfl rfl rfl rfl (Nbl rfl) (Bt [.box (EL.el a0), .box Zba] rfl (sv rfl (Ak rfl) (Ar (Bj (As ?_))))))))
  obtain rfl := SJ h
  refine ⟨Or.inr rfl, _, _, _, (Ad (Bc.agg _ _ _ _ _ B4 rfl (.lp _ _ _ rfl) (Nbl rfl)) (Ad (Bc.tmp _ _ rfl) Af)), (Nl rfl), ?_⟩
  rfl
 ·refine Bl (Ai (Aq (Aq (Ab (sv rfl (Aa F7 rfl) (sv rfl (Ae ti3 rfl (.lp _ _ _ rfl) rfl) (sv rfl (Cd rfl rfl) (Ar (ccI h rfl (fun h => ?_) (fun h => ?_))))))))))
  ·refine Aq (Ab (sv rfl (Bk Nc Add A9 (.nil _)) (Ax Em rfl rfl rfl rfl (Nbl rfl) (Bt [.box (EL.el a0), .box Zba] rfl (sv rfl (Ak rfl) (Ar (Bj (As ?_))))))))
   obtain rfl := SJ h
   refine ⟨Or.inr rfl, _, _, _, (Ad (Bc.agg _ _ _ _ _ B4 rfl (.lp _ _ _ rfl) (Nbl rfl)) (Ad (Bc.tmp _ _ rfl) Af)), (Nl rfl), ?_⟩
   rfl
  ·refine Bl (Ai (Aq (Ab (sv rfl (Aa Xl rfl) (Ax sz3 rfl rfl rfl rfl (Nbl rfl) (Bt [.box (EL.el {a0 with Seq := 0}), .box Zba] rfl (Ar (Aq (Ab (sv rfl (Aa F7 rfl) (Ax sz3 rfl rfl rfl rfl (Nbl rfl) (Bt [.box (EL.el {a0 with Phase := 2, Seq := 0}), .box Zba] rfl (Ar (Aq (Ab (sv rfl (Ao B4 rfl (.lp _ _ _ rfl) (Nbl rfl)) (sv rfl (Aa Qp rfl) (sv rfl (Aa Agk rfl) (sv rfl (Ae ti3 rfl (.lp _ _ _ rfl) rfl) (sv rfl (Aa Z1 rfl) (sv rfl (Ae ti3 rfl (.lp _ _ _ rfl) rfl) (sv rfl (Bk Z7 Aeb (Ap rfl (Ap rfl (Ap rfl A9))) (.cons _ _ _ _ _ _ _ rfl rfl (Nbl rfl) (.cons _ _ _ _ _ _ _ rfl rfl (Nbl rfl) (.cons _ _ _ _ _ _ _ rfl rfl (Nbl rfl) (.nil _))))) ?_))))))))))))))))))))))
   obtain ⟨v2, hv2, h⟩ := An h
   refine A1 rfl Ank (Ac rfl (Ac rfl Al)) (Nl rfl) (C5 hv2) (Ax Em rfl rfl rfl rfl (Nbl rfl) (Bt [.box (EL.el {a0 with Phase := 2, Seq := 0}), .box (EL.el v2)] rfl (sv rfl (Ak rfl) (Ar (Bj ?_)))))
   obtain rfl := SJ h
   refine ⟨Or.inr rfl, _, _, _, (Ad (Bc.agg _ _ _ _ _ B4 rfl (.lp _ _ _ rfl) (Nbl rfl)) (Ad (Bc.tmp _ _ rfl) Af)), (Aj rfl), ?_⟩
   rfl
def Jm (a0 : Int) (b1 : Unit) : Option (List Av) :=
 if (decide (0 < (wI (a0 - (wI (0 - 0)))))) then (if 0 < (wI (a0 - (wI (0 - 0)))) ∧ (wI (a0 - (wI (0 - 0)))) * ((40 : Nat) : Int) ≤ 281474976710656 then (if (0 : Int) ≤ 0 ∧ 0 ≤ ((List.replicate (wI (a0 - (wI (0 - 0)))).toNat Nd).length : Int) then (some ((List.replicate (wI (a0 - (wI (0 - 0)))).toNat Nd).take (0 : Int).toNat)) else none) else none) else (some ([] : List Av))
def J2 (a0 : Int) : Option (List Av) :=
 if (decide (a0 < 0)) then none else (Jm a0 ())
theorem Tj {a0 : Int} {r : (List Av)} (h : J2 a0 = some r) : Gs Tryz.prog 83 [] [.one (Znl), .one (Ii6 a0)] (fun y m' => y = .s (.one (.ls 0 r.length)) ∧ m' = [.arr 94 3 0 (r.flatMap Ay)]) := by
 unfold J2 at h
 refine Cv Tryz.func83 rfl (nt := 27) rfl (Nbl rfl) ?_
 intro w0 S0 X0 H0
 refine Aq (Ab (sv rfl (Ak rfl) (Ar (Aq (Aq (Ab (sv rfl (Ah rfl) (sv rfl (Cs rfl rfl) (Ar (G5 (Unit) (fun b1 => [(0, .s (.one (Znl))), (1, .s (.one (Ii6 a0)))]) (fun b1 => []) (fun b1 => Jm a0 b1 = some r) (fun _ _ => Bg rfl) (fun _ _ => A0 rfl) (fun _ _ => Nbl rfl) (fun b1 h => ?_) ?_))))))))))
 ·unfold Jm at h
  refine Aq (Aq (Ab (sv rfl (Ah rfl) (sv rfl (Ah rfl) (sv rfl (Kq Uf rfl) (sv rfl (Ah rfl) (sv rfl (Ko Uf rfl) (sv rfl (My rfl rfl) (sv rfl (My rfl rfl) (sv rfl (Ak rfl) (Ar (Aq (Ab (sv rfl (Ah rfl) (sv rfl (Dg rfl rfl) (Ar (ccI h rfl (fun h => ?_) (fun h => ?_))))))))))))))))))
  ·refine Ab (sv rfl (Ah rfl) (sv rfl (Ah rfl) (sv rfl (Kq Uf rfl) (sv rfl (Nt Uf rfl rfl) (sv rfl (Ah rfl) ?_)))))
   obtain ⟨hm2, h⟩ := D4 h
   refine Aok (f := Ay) (z := Nd) rfl Tryz.underlying29 An7 Tryz.underlying3 (fun _ => rfl) rfl rfl rfl hm2 (by decide) ?_
   refine sv rfl (Ah rfl) (sv rfl (Ko Uf rfl) ?_)
   obtain ⟨hs3, h⟩ := D4 h
   refine Acq (f := Ay) rfl Uf (fun _ => rfl) rfl rfl rfl rfl rfl hs3 ?_
   refine sv rfl (Ak rfl) (Ar (Aq (Ab (sv rfl (Ah rfl) (sv rfl (Ak rfl) (Ar (Bj ?_)))))))
   obtain rfl := SJ h
   exact ⟨Or.inr rfl, _, [1], [.one (.ls 0 ((List.replicate (wI (a0 - (wI (0 - 0)))).toNat Nd).take (0 : Int).toNat).length)], [.arr 94 3 0 (((List.replicate (wI (a0 - (wI (0 - 0)))).toNat Nd).take (0 : Int).toNat).flatMap Ay)], (Ad (Bc.tmp _ _ rfl) Af), rfl, rfl, ⟨by decide, rfl⟩, rfl, rfl, ⟨rfl, rfl⟩⟩
  ·refine Bl (Ai (Aq (Ab (sv rfl (Ah rfl) (sv rfl (Ak rfl) (Ar ?_))))))
   refine Ov 94 3 4 (by decide) rfl ?_
   refine Bj ?_
   obtain rfl := SJ h
   exact ⟨Or.inr rfl, _, [0], [.one (.ls 0 ([] : List Av).length)], [.arr 94 3 0 (([] : List Av).flatMap Ay)], (Ad (Bc.tmp _ _ rfl) Af), rfl, rfl, ⟨by decide, rfl⟩, rfl, rfl, ⟨rfl, rfl⟩⟩
 ·skip
  refine ccI h rfl (fun h => ?_) (fun h => ?_)
  ·cases h
  ·refine Bl (Ai ?_)
   exact ⟨(), _, h, ⟨rfl, rfl, trivial⟩, rfl⟩
def Ku (b3 : (List Av)) : Option (List Av) :=
 some b3
def Fi (a0 : List (List Av)) (s4 : Int × (List Av)) : Option (LB (Int × (List Av)) ((List Av))) :=
 if (decide (s4.1 < (a0.length : Int))) then ((idx a0 s4.1).bind fun u5 => if (s4.2.length + u5.length) * 40 ≤ 140737488355328 then (some (.cont ((wI (s4.1 + 1)), (s4.2 ++ u5)))) else none) else (some (.brk s4.2))
def Ii (a0 : List (List Av)) (b1 : Int) : Option (List Av) :=
 (J2 b1).bind fun v2 => (Ez (Fi a0) fuel (0, v2)).bind fun e7 => Ku e7
def Fb (a0 : List (List Av)) (s8 : Int × Int) : Option (LB (Int × Int) (Int)) :=
 if (decide (s8.2 < (a0.length : Int))) then ((idx a0 s8.2).bind fun u9 => if (decide ((wI (s8.1 + (u9.length : Int))) < 0)) then none else (some (.cont ((wI (s8.1 + (u9.length : Int))), (wI (s8.2 + 1)))))) else (some (.brk s8.1))
def Ik (a0 : List (List Av)) : Option (List Av) :=
 (Ez (Fb a0) fuel (0, 0)).bind fun e10 => Ii a0 e10
theorem Ru {a0 : List (List Av)} {r : (List Av)} (h : Ik a0 = some r) : Gs Tryz.prog 55 [] [.one (.sl a0.length (a0.flatMap (eL Ay)))] (fun y m' => y = .s (.one (.ls 0 r.length)) ∧ m' = [.arr 94 3 0 (r.flatMap Ay)]) := by
 unfold Ik at h
 refine Cv Tryz.func55 rfl (nt := 36) rfl (Nbl rfl) ?_
 intro w0 S0 X0 H0
 refine Aq (Ab (sv rfl (Ak rfl) (Ar (Aq (Ab (sv rfl (Ak rfl) (Ar (Aq (Aq (Ab (sv rfl (Ah rfl) (sv rfl (Az Aik rfl) (sv rfl (Ah rfl) (Ar (G5 (Int) (fun b1 => [(0, .s (.one (.sl a0.length (a0.flatMap (eL Ay))))), (3, .s (.one (Ii6 b1)))]) (fun b1 => []) (fun b1 => Ii a0 b1 = some r) (fun _ _ => Bg rfl) (fun _ _ => A0 rfl) (fun _ _ => Nbl rfl) (fun b1 h => ?_) ?_)))))))))))))))
 ·unfold Ii at h
  refine Aq (Ab (sv rfl (Ah rfl) ?_))
  obtain ⟨v2, hv2, h⟩ := An h
  refine C2 (x' := .s (.one (.ls 0 v2.length))) (M' := [.arr 94 3 0 (v2.flatMap Ay)]) [] rfl Avr (.func _) (Ac rfl (Ac rfl Al)) (Tj hv2) rfl rfl (by decide) rfl rfl rfl ?_
  refine sv rfl (Ak rfl) (Ar (Aq (Aq (Ab (sv rfl (Ah rfl) (sv rfl (Az Aik rfl) (sv rfl (Ah rfl) (Ar (G5 ((List Av)) (fun b3 => [(6, .s (.one (.ls 0 b3.length)))]) (fun b3 => [.arr 94 3 0 (b3.flatMap Ay)]) (fun b3 => Ku b3 = some r) (fun _ _ => Bg rfl) (fun _ _ => A0 rfl) (fun _ _ => Nbl rfl) (fun b3 h => ?_) ?_)))))))))
  ·unfold Ku at h
   refine Aq (Ab (sv rfl (Ah rfl) (sv rfl (Ak rfl) (Ar (Bj ?_)))))
   obtain rfl := SJ h
   exact ⟨Or.inr rfl, _, [0], [.one (.ls 0 b3.length)], [.arr 94 3 0 (b3.flatMap Ay)], (Ad (Bc.tmp _ _ rfl) Af), rfl, rfl, ⟨by decide, rfl⟩, rfl, rfl, ⟨rfl, rfl⟩⟩
  ·skip
   refine Ca ?_
   obtain ⟨x4, hx4, ho4⟩ := An h
   refine De (G := Nat × (Int × (List Av))) (fun g => [(6, .s (.one (.ls 0 g.2.2.length))), (25, .s (.one (.sl a0.length (a0.flatMap (eL Ay))))), (26, .s (.one (Ii6 (a0.length : Int)))), (27, .s (.one (Ii6 g.2.1)))]) (fun g => [.arr 94 3 0 (g.2.2.flatMap Ay)]) (fun g => Ez (Fi a0) g.1 g.2 = some x4) (fun g => g.1) (fuel, (0, v2)) hx4 ⟨rfl, rfl, rfl, rfl, trivial⟩ [] rfl (fun _ _ => Bg rfl) (fun _ _ => A0 rfl) (fun _ _ => Nbl rfl) ?_
   clear hx4 h
   rintro ⟨n4, s4⟩ h
   obtain ⟨n4, y4, rfl, h, hk4⟩ := Gp h
   unfold Fi at h
   refine Aq (Ab (sv rfl (Cs rfl rfl) (Ar (Aq (ccI h rfl (fun h => ?_) (fun h => ?_))))))
   ·refine Bl (Ai (Aq (Ca (Aq (Ab ?_)))))
    obtain ⟨u5, hu5, h⟩ := An h
    refine sv rfl (Fm (f := (eL Ay)) Aik (fun _ => rfl) rfl rfl rfl rfl hu5) ?_
    refine sv rfl (Ae Y0 rfl (.cp _) rfl) (sv rfl (Ak rfl) (Ar (Ab (sv rfl (Ah rfl) (sv rfl (Ah rfl) ?_)))))
    obtain ⟨hb6, h⟩ := D4 h
    refine Ah2 (f := Ay) (xs := s4.2) (us := u5) rfl Tryz.underlying29 An7 Ato (fun _ => rfl) rfl rfl (.one _ _ _ _ (.id _ rfl)) rfl rfl rfl (.sl _ _ _ (Bf (f := Ay) (fun _ => rfl) _)) rfl rfl hb6 (by decide) ?_
    refine sv rfl (Ak rfl) (Ls (A5 (Ai (Ab (sv rfl (B9 rfl rfl) (sv rfl (Ah rfl) (Ar ?_)))))))
    obtain rfl := SJ h
    exact ⟨(n4, ((wI (s4.1 + 1)), (s4.2 ++ u5))), _, hk4, ⟨rfl, rfl, rfl, rfl, trivial⟩, rfl, Nat.lt_succ_self _⟩
   ·refine Lw (Bi (Bi (Ck (Ai ?_))))
    obtain rfl := SJ h
    obtain rfl : _ = x4 := hk4
    exact ⟨s4.2, _, ho4, ⟨rfl, trivial⟩, rfl⟩
 ·skip
  refine Ca ?_
  obtain ⟨x8, hx8, ho8⟩ := An h
  refine De (G := Nat × (Int × Int)) (fun g => [(0, .s (.one (.sl a0.length (a0.flatMap (eL Ay))))), (3, .s (.one (Ii6 g.2.1))), (9, .s (.one (.sl a0.length (a0.flatMap (eL Ay))))), (10, .s (.one (Ii6 (a0.length : Int)))), (11, .s (.one (Ii6 g.2.2)))]) (fun g => []) (fun g => Ez (Fb a0) g.1 g.2 = some x8) (fun g => g.1) (fuel, (0, 0)) hx8 ⟨rfl, rfl, rfl, rfl, rfl, trivial⟩ [] rfl (fun _ _ => Bg rfl) (fun _ _ => A0 rfl) (fun _ _ => Nbl rfl) ?_
  clear hx8 h
  rintro ⟨n8, s8⟩ h
  obtain ⟨n8, y8, rfl, h, hk8⟩ := Gp h
  unfold Fb at h
  refine Aq (Ab (sv rfl (Cs rfl rfl) (Ar (Aq (ccI h rfl (fun h => ?_) (fun h => ?_))))))
  ·refine Bl (Ai (Aq (Ca (Aq (Ab ?_)))))
   obtain ⟨u9, hu9, h⟩ := An h
   refine sv rfl (Fm (f := (eL Ay)) Aik (fun _ => rfl) rfl rfl rfl rfl hu9) ?_
   refine sv rfl (Ae Y0 rfl (.cp _) rfl) (sv rfl (Ak rfl) (Ar (Aq (Ab (sv rfl (Ah rfl) (sv rfl (Ah rfl) (sv rfl (Az Uf rfl) (sv rfl (B9 rfl rfl) (sv rfl (Ak rfl) (Ar (Aq (Ab (sv rfl (Ah rfl) (sv rfl (Cs rfl rfl) (Ar (ccI h rfl (fun h => ?_) (fun h => ?_)))))))))))))))))
   ·cases h
   ·refine Bl (A5 (Ai (Ab (sv rfl (B9 rfl rfl) (sv rfl (Ah rfl) (Ar ?_))))))
    obtain rfl := SJ h
    exact ⟨(n8, ((wI (s8.1 + (u9.length : Int))), (wI (s8.2 + 1)))), _, hk8, ⟨rfl, rfl, rfl, rfl, rfl, trivial⟩, rfl, Nat.lt_succ_self _⟩
  ·refine Lw (Bi (Bi (Ck (Ai ?_))))
   obtain rfl := SJ h
   obtain rfl : _ = x8 := hk8
   exact ⟨s8.1, _, ho8, ⟨rfl, rfl, trivial⟩, rfl⟩
def D5 (a0 : Ag) : Option Ag :=
 (idx a0.Tasks 0).bind fun u1 => (Cb ({a0 with Phase := 7}) (B6.mk 9 0 u1.Token a0.Attempt false ([] : List UInt8) ([] : List UInt8) Bs)).bind fun v2 => some v2
theorem Jl {a0 : Ag} {r : Ag} (h : D5 a0 = some r) : Bp Tryz.prog 72 [.agg (EL.el a0)] (· = .s (.agg (EL.el r))) := by
 unfold D5 at h
 refine A2 Tryz.func72 rfl (nt := 14) rfl (Nbl rfl) ?_
 intro w0 S0
 refine Aq (Ab (Je rfl rfl (Bz rfl Nc (Ar (Aq (Ab (sv rfl (Aa F7 rfl) (Ax sz3 rfl rfl rfl rfl (Nbl rfl) (Bt [.box (EL.el {a0 with Phase := 7}), .box Zba] rfl (Ar (Aq ?_)))))))))))
 obtain ⟨u1, hu1, h⟩ := An h
 obtain ⟨v2, hv2, h⟩ := An h
 refine Jq [10] [0, 0, 2, 6, 14, 30, 0, 64, 254, 511, 1023] [[.box (EL.el {a0 with Phase := 7}), .box Zba], [.box (EL.el {a0 with Phase := 7}), .box (EL.el v2)]] (by kernel_rfl) Lz (by kernel_rfl) (by decide) rfl rfl rfl rfl ?_
 refine ev (Bh 0 rfl rfl) rfl rfl (Ao B4 rfl (.lp _ _ _ rfl) (Nbl rfl)) (ev (Bh 0 rfl rfl) rfl rfl (Aa Mb rfl) (ev (Bh 0 rfl rfl) rfl rfl (Ae Y0 rfl (.lp _ _ _ rfl) rfl) (ev (Bh 0 rfl rfl) rfl rfl (Fm (f := Ay) Uf (fun _ => rfl) rfl rfl rfl rfl hu1) ?_)))
 refine ev (Bh 0 rfl rfl) rfl rfl (B2 Sa rfl) (ev (Bh 0 rfl rfl) rfl rfl (Ae ti3 rfl (.cp _) rfl) (ev (Bh 0 rfl rfl) rfl rfl (Aa Of rfl) (ev (Bh 0 rfl rfl) rfl rfl (Ae ti3 rfl (.lp _ _ _ rfl) rfl) (ev (Bh 0 rfl rfl) rfl rfl (Bk Z7 Aeb (Ap rfl (Ap rfl (Ap rfl A9))) (.cons _ _ _ _ _ _ _ rfl rfl (Nbl rfl) (.cons _ _ _ _ _ _ _ rfl rfl (Nbl rfl) (.cons _ _ _ _ _ _ _ rfl rfl (Nbl rfl) (.nil _))))) (ed (Bh 0 rfl rfl) rfl rfl (Tw Ank (Ac rfl (Ac rfl Al)) rfl (C5 hv2)) (ee0 0 rfl rfl rfl rfl (fun ζ => ?_) ?_))))))
 ·refine Ax Em rfl rfl rfl rfl (Nbl rfl) (Bt [.box (EL.el {a0 with Phase := 7}), .box (EL.el v2)] rfl ?_)
  exact Rq
 refine Ys (Ai (Bj ?_))
 obtain rfl := SJ h
 refine ⟨Or.inr rfl, _, _, _, (Ad (Bc.agg _ _ _ _ _ B4 rfl (.lp _ _ _ rfl) (Nbl rfl)) Af), (Aj rfl), ?_⟩
 rfl
def Eb (a0 : Ag) : Option Ag :=
 (idx a0.Tasks 0).bind fun u1 => (Cb ({a0 with Phase := 3, Risk := false, St := G4}) (B6.mk 2 0 u1.Token a0.Attempt u1.Prog.RO ([] : List UInt8) ([] : List UInt8) Bs)).bind fun v2 => some v2
theorem Lv {a0 : Ag} {r : Ag} (h : Eb a0 = some r) : Bp Tryz.prog 71 [.agg (EL.el a0)] (· = .s (.agg (EL.el r))) := by
 unfold Eb at h
 refine A2 Tryz.func71 rfl (nt := 22) rfl (Nbl rfl) ?_
 intro w0 S0
 refine Aq (Ab (Je rfl rfl (Bz rfl Nc (Ar (Aq (Ab (sv rfl (Bk Ahk Apz A9 (.nil _)) (sv rfl (Aa Pu rfl) (Ax W6 rfl rfl rfl rfl (Nbl rfl) (Bt [.box (EL.el {a0 with St.PC := 0, St.Regs.R0 := 0, St.Regs.R1 := 0, St.Regs.R2 := 0, St.Regs.R3 := 0, St.Regs.R4 := 0, St.Regs.R5 := 0, St.Regs.R6 := 0, St.Regs.R7 := 0, St.Stopped := false}), .box Zba] rfl (Ar (Aq (Ab (sv rfl (Aa X1 rfl) (Ax sz4 rfl rfl rfl rfl (Nbl rfl) (Bt [.box (EL.el {a0 with Risk := false, St.PC := 0, St.Regs.R0 := 0, St.Regs.R1 := 0, St.Regs.R2 := 0, St.Regs.R3 := 0, St.Regs.R4 := 0, St.Regs.R5 := 0, St.Regs.R6 := 0, St.Regs.R7 := 0, St.Stopped := false}), .box Zba] rfl (Ar (Aq (Ab (sv rfl (Aa F7 rfl) (Ax sz3 rfl rfl rfl rfl (Nbl rfl) (Bt [.box (EL.el {a0 with Phase := 3, Risk := false, St.PC := 0, St.Regs.R0 := 0, St.Regs.R1 := 0, St.Regs.R2 := 0, St.Regs.R3 := 0, St.Regs.R4 := 0, St.Regs.R5 := 0, St.Regs.R6 := 0, St.Regs.R7 := 0, St.Stopped := false}), .box Zba] rfl (Ar (Aq (Ab (sv rfl (Aa Mb rfl) (sv rfl (Ae Y0 rfl (.lp _ _ _ rfl) rfl) ?_)))))))))))))))))))))))))))
 obtain ⟨u1, hu1, h⟩ := An h
 refine sv rfl (Fm (f := Ay) Uf (fun _ => rfl) rfl rfl rfl rfl hu1) ?_
 refine sv rfl (Dj (ys := [Ii6 u1.Token, .b u1.Prog.RO, .sl u1.Prog.Ops.length (u1.Prog.Ops.flatMap Cf)]) Ana rfl (.cp _) rfl rfl) (Bz rfl Anv (Ax Aqf rfl rfl rfl rfl (Nbl rfl) (Bt [.box (EL.el {a0 with Phase := 3, Risk := false, St.PC := 0, St.Regs.R0 := 0, St.Regs.R1 := 0, St.Regs.R2 := 0, St.Regs.R3 := 0, St.Regs.R4 := 0, St.Regs.R5 := 0, St.Regs.R6 := 0, St.Regs.R7 := 0, St.Stopped := false}), .box Zba, .box (EL.el u1)] rfl (Ar (Aq (Ab (sv rfl (Ao B4 rfl (.lp _ _ _ rfl) (Nbl rfl)) (sv rfl (Aa Sa rfl) (sv rfl (Ae ti3 rfl (.lp _ _ _ rfl) rfl) (sv rfl (Aa Of rfl) (sv rfl (Ae ti3 rfl (.lp _ _ _ rfl) rfl) (sv rfl (Aa Acl rfl) (sv rfl (Aa Akn rfl) (sv rfl (Ae ti4 rfl (.lp _ _ _ rfl) rfl) (sv rfl (Bk Z7 Aeb (Ap rfl (Ap rfl (Ap rfl (Ap rfl A9)))) (.cons _ _ _ _ _ _ _ rfl rfl (Nbl rfl) (.cons _ _ _ _ _ _ _ rfl rfl (Nbl rfl) (.cons _ _ _ _ _ _ _ rfl rfl (Nbl rfl) (.cons _ _ _ _ _ _ _ rfl rfl (Nbl rfl) (.nil _)))))) ?_)))))))))))))))
 obtain ⟨v2, hv2, h⟩ := An h
 refine A1 rfl Ank (Ac rfl (Ac rfl Al)) (Nl rfl) (C5 hv2) (Ax Em rfl rfl rfl rfl (Nbl rfl) (Bt [.box (EL.el {a0 with Phase := 3, Risk := false, St.PC := 0, St.Regs.R0 := 0, St.Regs.R1 := 0, St.Regs.R2 := 0, St.Regs.R3 := 0, St.Regs.R4 := 0, St.Regs.R5 := 0, St.Regs.R6 := 0, St.Regs.R7 := 0, St.Stopped := false}), .box (EL.el v2), .box (EL.el u1)] rfl (Ar (Bj ?_))))
 obtain rfl := SJ h
 refine ⟨Or.inr rfl, _, _, _, (Ad (Bc.agg _ _ _ _ _ B4 rfl (.lp _ _ _ rfl) (Nbl rfl)) Af), (Aj rfl), ?_⟩
 rfl
def Dw (a0 : Ag) : Option Ag :=
 if (decide ((a0.Tasks.length : Int) = 0)) then (some ({a0 with Phase := 0, Left := 0})) else (if (decide (0 < a0.Attempt)) then ((D5 a0).bind fun v1 => some v1) else ((Eb ({a0 with Attempt := 1})).bind fun v2 => some v2))
theorem I1 {a0 : Ag} {r : Ag} (h : Dw a0 = some r) : Bp Tryz.prog 56 [.agg (EL.el a0)] (· = .s (.agg (EL.el r))) := by
 unfold Dw at h
 refine A2 Tryz.func56 rfl (nt := 18) rfl (Nbl rfl) ?_
 intro w0 S0
 refine Aq (Ab (Je rfl rfl (Bz rfl Nc (Ar (Aq (Aq (Ab (sv rfl (Aa Mb rfl) (sv rfl (Ae Y0 rfl (.lp _ _ _ rfl) rfl) (sv rfl (Az Uf rfl) (sv rfl (Bo rfl rfl) (Ar (ccI h rfl (fun h => ?_) (fun h => ?_))))))))))))))
 ·refine Aq (Ab (sv rfl (Aa F7 rfl) (Ax sz3 rfl rfl rfl rfl (Nbl rfl) (Bt [.box (EL.el {a0 with Phase := 0}), .box Zba] rfl (Ar (Aq (Ab (sv rfl (Aa Q4 rfl) (Ax sz3 rfl rfl rfl rfl (Nbl rfl) (Bt [.box (EL.el {a0 with Phase := 0, Left := 0}), .box Zba] rfl (Ar (Aq (Ab (sv rfl (Ao B4 rfl (.lp _ _ _ rfl) (Nbl rfl)) (Ax Em rfl rfl rfl rfl (Nbl rfl) (Bt [.box (EL.el {a0 with Phase := 0, Left := 0}), .box (EL.el {a0 with Phase := 0, Left := 0})] rfl (Ar (Bj (As ?_)))))))))))))))))))
  obtain rfl := SJ h
  refine ⟨Or.inr rfl, _, _, _, (Ad (Bc.agg _ _ _ _ _ B4 rfl (.lp _ _ _ rfl) (Nbl rfl)) Af), (Aj rfl), ?_⟩
  rfl
 ·refine Bl (Ai (Aq (Aq (Ab (sv rfl (Aa Of rfl) (sv rfl (Ae ti3 rfl (.lp _ _ _ rfl) rfl) (sv rfl (Dg rfl rfl) (Ar (ccI h rfl (fun h => ?_) (fun h => ?_))))))))))
  ·refine Aq (Ab (sv rfl (Ao B4 rfl (.lp _ _ _ rfl) (Nbl rfl)) ?_))
   obtain ⟨v1, hv1, h⟩ := An h
   refine A1 rfl Aq6 (Ac rfl Al) (Aj rfl) (Jl hv1) (Ax Em rfl rfl rfl rfl (Nbl rfl) (Bt [.box (EL.el a0), .box (EL.el v1)] rfl (Ar (Bj (As ?_)))))
   obtain rfl := SJ h
   refine ⟨Or.inr rfl, _, _, _, (Ad (Bc.agg _ _ _ _ _ B4 rfl (.lp _ _ _ rfl) (Nbl rfl)) Af), (Aj rfl), ?_⟩
   rfl
  ·refine Bl (Ai (Aq (Ab (sv rfl (Aa Of rfl) (Ax sz3 rfl rfl rfl rfl (Nbl rfl) (Bt [.box (EL.el {a0 with Attempt := 1}), .box Zba] rfl (Ar (Aq (Ab (sv rfl (Ao B4 rfl (.lp _ _ _ rfl) (Nbl rfl)) ?_))))))))))
   obtain ⟨v2, hv2, h⟩ := An h
   refine A1 rfl At1 (Ac rfl Al) (Aj rfl) (Lv hv2) (Ax Em rfl rfl rfl rfl (Nbl rfl) (Bt [.box (EL.el {a0 with Attempt := 1}), .box (EL.el v2)] rfl (Ar (Bj ?_))))
   obtain rfl := SJ h
   refine ⟨Or.inr rfl, _, _, _, (Ad (Bc.agg _ _ _ _ _ B4 rfl (.lp _ _ _ rfl) (Nbl rfl)) Af), (Aj rfl), ?_⟩
   rfl
def Iv (b5 : Ag × (List Av)) : Option (Ag × Int) :=
 some (b5.1, 0)
def Dh (a0 : Ag) (a1 : Av) : Option (Ag × Int) :=
 (Ex a0).bind fun v1 => if (!v1) then (some (Cw, 1)) else ((Dd a1).bind fun v2 => if (!v2) then (some (Cw, 1)) else (if (decide (a0.Phase = 11)) then (some (Cw, 13)) else ((Ff a0.Tasks a1.Token).bind fun v3 => if (decide (0 ≤ v3)) then (some (Cw, 7)) else (if (decide (8 ≤ (a0.Tasks.length : Int))) then (some (Cw, 8)) else ((Ik [a0.Tasks, [a1]]).bind fun v4 => if (decide (a0.Phase = 0)) then ((Dw (Ag.mk (Cp.mk a0.Cfg.Who (Dk.mk a0.Cfg.Plan.Wait a0.Cfg.Plan.Most a0.Cfg.Plan.Tries) a0.Cfg.Attempts a0.Cfg.Budget) v4 a0.Phase a0.Epoch a0.Seq a0.Attempt a0.Sent a0.Left a0.Resets a0.Risk (A6.mk a0.St.PC (Ev.mk a0.St.Regs.R0 a0.St.Regs.R1 a0.St.Regs.R2 a0.St.Regs.R3 a0.St.Regs.R4 a0.St.Regs.R5 a0.St.Regs.R6 a0.St.Regs.R7) a0.St.Stopped) (B6.mk a0.Req.Kind a0.Req.Seq a0.Req.Token a0.Req.Attempt a0.Req.RO a0.Req.Key a0.Req.Val (B7.mk a0.Req.Rng.Lo a0.Req.Rng.Hi a0.Req.Rng.Open)) (Bn.mk a0.In.Buf a0.In.Dead) a0.Out a0.Done a0.Tried)).bind fun v6 => Iv (v6, v4)) else (Iv ((Ag.mk (Cp.mk a0.Cfg.Who (Dk.mk a0.Cfg.Plan.Wait a0.Cfg.Plan.Most a0.Cfg.Plan.Tries) a0.Cfg.Attempts a0.Cfg.Budget) v4 a0.Phase a0.Epoch a0.Seq a0.Attempt a0.Sent a0.Left a0.Resets a0.Risk (A6.mk a0.St.PC (Ev.mk a0.St.Regs.R0 a0.St.Regs.R1 a0.St.Regs.R2 a0.St.Regs.R3 a0.St.Regs.R4 a0.St.Regs.R5 a0.St.Regs.R6 a0.St.Regs.R7) a0.St.Stopped) (B6.mk a0.Req.Kind a0.Req.Seq a0.Req.Token a0.Req.Attempt a0.Req.RO a0.Req.Key a0.Req.Val (B7.mk a0.Req.Rng.Lo a0.Req.Rng.Hi a0.Req.Rng.Open)) (Bn.mk a0.In.Buf a0.In.Dead) a0.Out a0.Done a0.Tried), v4)))))))
theorem Oc {a0 : Ag} {a1 : Av} {r : Ag × Int} (h : Dh a0 a1 = some r) : Bp Tryz.prog 21 [.agg (EL.el a0), .agg (EL.el a1)] (· = .tup [.agg (EL.el r.1), .one (Ii6 r.2)]) := by
 unfold Dh at h
 refine A2 Tryz.func21 rfl (nt := 48) rfl (Nbl rfl) ?_
 intro w0 S0
 refine Aq (Ab (Je rfl rfl (Je rfl rfl (Bz rfl Nc (sv rfl (Ak rfl) (Ar (Aq (Ca (Aq (Ab (sv rfl (Ao B4 rfl (.lp _ _ _ rfl) (Nbl rfl)) ?_)))))))))))
 obtain ⟨v1, hv1, h⟩ := An h
 refine A1 rfl Anm (Ac rfl Al) (Aj rfl) (Hp hv1) (sv rfl (B8 rfl) (sv rfl (Ah rfl) (Bq 10 rfl (fun hc => ?_) (fun hc => ?_))))
 ·replace h := B1 hc h
  clear hc
  refine Aw rfl rfl rfl rfl (Aw rfl rfl rfl rfl (Aw rfl rfl rfl rfl (sv rfl (Au rfl rfl) (sv rfl (Ak rfl) (Ar (Hy rfl (fun _ => ?_) (fun hx => Bool.noConfusion hx)))))))
  refine Aq (Ab (sv rfl (Bk Nc Add A9 (.nil _)) (Ax Em rfl rfl rfl rfl (Nbl rfl) (Bt [.box (EL.el a0), .box (EL.el a1), .box Zba] rfl (sv rfl (Ak rfl) (Ar (Bj (Bd (As ?_)))))))))
  obtain rfl := SJ h
  refine ⟨Or.inr rfl, _, _, _, (Ad (Bc.agg _ _ _ _ _ B4 rfl (.lp _ _ _ rfl) (Nbl rfl)) (Ad (Bc.tmp _ _ rfl) Af)), (Nl rfl), ?_⟩
  rfl
 ·replace h := B0 hc h
  clear hc
  refine son rfl rfl rfl (sv rfl (Ao Ana rfl (.lp _ _ _ rfl) (Nbl rfl)) (son rfl rfl rfl ?_))
  obtain ⟨v2, hv2, h⟩ := An h
  refine A1 rfl Auc (Ac rfl Al) (Aj rfl) (Nh hv2) (son rfl rfl rfl (sv rfl (B8 rfl) (sv rfl (Am rfl rfl) (sv rfl (Ak rfl) (Ar (ccI h rfl (fun h => ?_) (fun h => ?_)))))))
  ·refine Aq (Ab (sv rfl (Bk Nc Add A9 (.nil _)) (Ax Em rfl rfl rfl rfl (Nbl rfl) (Bt [.box (EL.el a0), .box (EL.el a1), .box Zba] rfl (sv rfl (Ak rfl) (Ar (Bj (Bd (As ?_)))))))))
   obtain rfl := SJ h
   refine ⟨Or.inr rfl, _, _, _, (Ad (Bc.agg _ _ _ _ _ B4 rfl (.lp _ _ _ rfl) (Nbl rfl)) (Ad (Bc.tmp _ _ rfl) Af)), (Nl rfl), ?_⟩
   rfl
  ·refine Aq (Ab (sv rfl (Aa F7 rfl) (sv rfl (Ae ti3 rfl (.lp _ _ _ rfl) rfl) (sv rfl (Bo rfl rfl) (sv rfl (Ak rfl) (Ar (ccI h rfl (fun h => ?_) (fun h => ?_))))))))
   ·refine Aq (Ab (sv rfl (Bk Nc Add A9 (.nil _)) (Ax Em rfl rfl rfl rfl (Nbl rfl) (Bt [.box (EL.el a0), .box (EL.el a1), .box Zba] rfl (sv rfl (Ak rfl) (Ar (Bj (Bd (As ?_)))))))))
    obtain rfl := SJ h
    refine ⟨Or.inr rfl, _, _, _, (Ad (Bc.agg _ _ _ _ _ B4 rfl (.lp _ _ _ rfl) (Nbl rfl)) (Ad (Bc.tmp _ _ rfl) Af)), (Nl rfl), ?_⟩
    rfl
   ·refine Aq (Ab (sv rfl (Aa Mb rfl) (sv rfl (Ae Y0 rfl (.lp _ _ _ rfl) rfl) (sv rfl (Aa Sa rfl) (sv rfl (Ae ti3 rfl (.lp _ _ _ rfl) rfl) ?_)))))
    obtain ⟨v3, hv3, h⟩ := An h
    refine A1 rfl Aui (Ac rfl (Ac rfl Al)) (Aj rfl) (Ob hv3) (sv rfl (L9 rfl rfl) (sv rfl (Ak rfl) (Ar (ccI h rfl (fun h => ?_) (fun h => ?_)))))
    ·refine Aq (Ab (sv rfl (Bk Nc Add A9 (.nil _)) (Ax Em rfl rfl rfl rfl (Nbl rfl) (Bt [.box (EL.el a0), .box (EL.el a1), .box Zba] rfl (sv rfl (Ak rfl) (Ar (Bj (Bd (As ?_)))))))))
     obtain rfl := SJ h
     refine ⟨Or.inr rfl, _, _, _, (Ad (Bc.agg _ _ _ _ _ B4 rfl (.lp _ _ _ rfl) (Nbl rfl)) (Ad (Bc.tmp _ _ rfl) Af)), (Nl rfl), ?_⟩
     rfl
    ·refine Aq (Ab (sv rfl (Aa Mb rfl) (sv rfl (Ae Y0 rfl (.lp _ _ _ rfl) rfl) (sv rfl (Az Uf rfl) (sv rfl (L9 rfl rfl) (sv rfl (Ak rfl) (Ar (ccI h rfl (fun h => ?_) (fun h => ?_)))))))))
     ·refine Aq (Ab (sv rfl (Bk Nc Add A9 (.nil _)) (Ax Em rfl rfl rfl rfl (Nbl rfl) (Bt [.box (EL.el a0), .box (EL.el a1), .box Zba] rfl (sv rfl (Ak rfl) (Ar (Bj (Bd (As ?_)))))))))
      obtain rfl := SJ h
      refine ⟨Or.inr rfl, _, _, _, (Ad (Bc.agg _ _ _ _ _ B4 rfl (.lp _ _ _ rfl) (Nbl rfl)) (Ad (Bc.tmp _ _ rfl) Af)), (Nl rfl), ?_⟩
      rfl
     ·refine Bl (A5 (Ai (Aq (Ab (sv rfl (Aa Mb rfl) (sv rfl (Ae Y0 rfl (.lp _ _ _ rfl) rfl) (sv rfl (Ao Ana rfl (.lp _ _ _ rfl) (Nbl rfl)) ?_)))))))
      refine Qy rfl Tryz.underlying29 An7 rfl rfl (List.all_eq_true.1 rfl) (by decide) ?_
      refine Bt [.box (EL.el a0), .box (EL.el a1), .box Zba, .arr 94 3 0 ([a1].flatMap Ay)] rfl ?_
      refine Zf 38 rfl (by (repeat' first | exact J8.nil _ | apply J8.cons | apply Jv.one | apply Jv.agg | exact E4.nil | exact E4.ls _ _ _ _ _ _ rfl (Bf (f := Ay) (fun _ => rfl) ([a1] : List Av)).symm | exact E4.ls _ _ _ _ _ _ rfl (Bf (f := Ay) (fun _ => rfl) _).symm | exact E4.id _ rfl | exact D2.nil _ | apply D2.cons)) ?_
      refine Sp (out := ([a0.Tasks, [a1]] : List (List Av)).flatMap (eL Ay)) rfl Tryz.underlying163 Av8 (Ap rfl (Ap rfl A9)) (.cons _ _ _ _ _ _ _ rfl rfl (Nbl rfl) (.cons _ _ _ _ _ _ _ rfl rfl (Nbl rfl) (.nil _))) rfl (by decide) ?_
      refine Zf 39 rfl (by (repeat' first | exact J8.nil _ | apply J8.cons | apply Jv.one | apply Jv.agg | exact E4.nil | exact E4.ls _ _ _ _ _ _ rfl (Bf (f := (eL Ay)) (fun _ => rfl) ([a0.Tasks, [a1]] : List (List Av))).symm | exact E4.ls _ _ _ _ _ _ rfl (Bf (f := (eL Ay)) (fun _ => rfl) _).symm | exact E4.ls _ _ _ _ _ _ rfl (Bf (f := Ay) (fun _ => rfl) _).symm | exact E4.id _ rfl | exact D2.nil _ | apply D2.cons)) ?_
      obtain ⟨v4, hv4, h⟩ := An h
      refine C2 (x' := .s (.one (.ls 5 v4.length))) (M' := [.box (EL.el a0), .box (EL.el a1), .box Zba, .arr 94 3 ([a1].flatMap Ay).length ([a1].flatMap Ay), .arr 29 1 ([a0.Tasks, [a1]].flatMap (eL Ay)).length ([a0.Tasks, [a1]].flatMap (eL Ay)), .arr 94 3 0 (v4.flatMap Ay)]) [] rfl Avc (.func _) (Ac rfl Al) (Ru hv4) rfl rfl (by decide) rfl rfl rfl ?_
      refine sv rfl (Aa Mb rfl) (Ax Ar6 rfl rfl rfl rfl (Nbl rfl) (Bt [.box ((EL.el a0).set 6 (.ls 5 v4.length)), .box (EL.el a1), .box Zba, .arr 94 3 ([a1].flatMap Ay).length ([a1].flatMap Ay), .arr 29 1 ([a0.Tasks, [a1]].flatMap (eL Ay)).length ([a0.Tasks, [a1]].flatMap (eL Ay)), .arr 94 3 0 (v4.flatMap Ay)] rfl (Ar (Aq (Aq (Ab (sv rfl (Aa F7 rfl) (sv rfl (Ae ti3 rfl (.lp _ _ _ rfl) rfl) (sv rfl (Bo rfl rfl) (Ar (G5 (Ag × (List Av)) (fun b5 => [(2, .s (.one (.lp 0 0))), (4, .s (.one (.lp 2 0)))]) (fun b5 => [.box (EL.el b5.1), .box (EL.el a1), .box Zba, .arr 94 3 ([a1].flatMap Ay).length ([a1].flatMap Ay), .arr 29 1 ([a0.Tasks, [a1]].flatMap (eL Ay)).length ([a0.Tasks, [a1]].flatMap (eL Ay)), .arr 94 3 (b5.2.flatMap Ay).length (b5.2.flatMap Ay)]) (fun b5 => Iv b5 = some r) (fun _ _ => Bg rfl) (fun _ _ => A0 rfl) (fun _ _ => Nbl rfl) (fun b5 h => ?_) ?_)))))))))))
      ·unfold Iv at h
       refine Aq (Ab (sv rfl (Ao B4 rfl (.lp _ _ _ rfl) (Nbl rfl)) (Ax Em rfl rfl rfl rfl (Nbl rfl) (Bt [.box (EL.el b5.1), .box (EL.el a1), .box (EL.el b5.1), .arr 94 3 ([a1].flatMap Ay).length ([a1].flatMap Ay), .arr 29 1 ([a0.Tasks, [a1]].flatMap (eL Ay)).length ([a0.Tasks, [a1]].flatMap (eL Ay)), .arr 94 3 (b5.2.flatMap Ay).length (b5.2.flatMap Ay)] rfl (sv rfl (Ak rfl) (Ar (Bj ?_)))))))
       obtain rfl := SJ h
       refine ⟨Or.inr rfl, _, _, _, (Ad (Bc.agg _ _ _ _ _ B4 rfl (.lp _ _ _ rfl) (Nbl rfl)) (Ad (Bc.tmp _ _ rfl) Af)), (Aj rfl), ?_⟩
       rfl
      ·skip
       refine ccI h rfl (fun h => ?_) (fun h => ?_)
       ·refine Ab (sv rfl (Ao B4 rfl (.lp _ _ _ rfl) (Nbl rfl)) ?_)
        refine Zf 45 rfl (by (repeat' first | exact J8.nil _ | apply J8.cons | apply Jv.one | apply Jv.agg | exact E4.nil | exact E4.ls _ _ _ _ _ _ rfl (Bf (f := (eL Ay)) (fun _ => rfl) _).symm | exact E4.ls _ _ _ _ _ _ rfl (Bf (f := Ay) (fun _ => rfl) _).symm | exact E4.id _ rfl | exact D2.nil _ | apply D2.cons)) ?_
        obtain ⟨v6, hv6, h⟩ := An h
        refine A1 rfl Asa (Ac rfl Al) (Aj rfl) (I1 hv6) (Ax Em rfl rfl rfl rfl (Nbl rfl) (Bt [.box (EL.el v6), .box (EL.el a1), .box Zba, .arr 94 3 ([a1].flatMap Ay).length ([a1].flatMap Ay), .arr 29 1 ([a0.Tasks, [a1]].flatMap (eL Ay)).length ([a0.Tasks, [a1]].flatMap (eL Ay)), .arr 94 3 (v4.flatMap Ay).length (v4.flatMap Ay)] rfl (Ar ?_)))
        exact ⟨(v6, v4), _, h, ⟨rfl, rfl, trivial⟩, rfl⟩
       ·refine Abi 0 6 rfl rfl (E4.ls _ _ _ _ _ _ rfl (Bf (f := Ay) (fun _ => rfl) (v4 : List Av)).symm) rfl ?_
        refine Bl (Ai ?_)
        exact ⟨((Ag.mk (Cp.mk a0.Cfg.Who (Dk.mk a0.Cfg.Plan.Wait a0.Cfg.Plan.Most a0.Cfg.Plan.Tries) a0.Cfg.Attempts a0.Cfg.Budget) v4 a0.Phase a0.Epoch a0.Seq a0.Attempt a0.Sent a0.Left a0.Resets a0.Risk (A6.mk a0.St.PC (Ev.mk a0.St.Regs.R0 a0.St.Regs.R1 a0.St.Regs.R2 a0.St.Regs.R3 a0.St.Regs.R4 a0.St.Regs.R5 a0.St.Regs.R6 a0.St.Regs.R7) a0.St.Stopped) (B6.mk a0.Req.Kind a0.Req.Seq a0.Req.Token a0.Req.Attempt a0.Req.RO a0.Req.Key a0.Req.Val (B7.mk a0.Req.Rng.Lo a0.Req.Rng.Hi a0.Req.Rng.Open)) (Bn.mk a0.In.Buf a0.In.Dead) a0.Out a0.Done a0.Tried), v4), _, h, ⟨rfl, rfl, trivial⟩, rfl⟩
def Hf (a0 : Be) (b1 : Unit) : Option Bool :=
 if (decide (a0.Kind = 0)) then ((D9 a0.Seq 4294967295).bind fun v2 => if v2 then ((D9 a0.Code 255).bind fun v3 => if v3 then ((D9 a0.N 1099511627776).bind fun v4 => if v4 then ((Ct a0.Found a0.Val 0 32).bind fun v5 => if v5 then (some (decide ((a0.List.length : Int) ≤ 8))) else (some false)) else (some false)) else (some false)) else (some false)) else ((Hk a0.Kind).bind fun v6 => if v6 then ((D9 a0.Seq 4294967295).bind fun v7 => if v7 then ((D9 a0.Code 255).bind fun v8 => if v8 then ((D9 a0.N 1099511627776).bind fun v9 => if v9 then ((Ct a0.Found a0.Val 0 32).bind fun v10 => if v10 then (some (decide ((a0.List.length : Int) ≤ 8))) else (some false)) else (some false)) else (some false)) else (some false)) else (some false))
def Gw (a0 : Be) (s11 : Int) : Option (LR (Int) (Unit) (Bool)) :=
 if (decide (s11 < (a0.List.length : Int))) then ((idx a0.List s11).bind fun u12 => (Ct true u12.Key 1 16).bind fun v13 => if (!v13) then (some (.ret false)) else (if (decide (32 < (u12.Val.length : Int))) then (some (.ret false)) else (some (.cont (wI (s11 + 1)))))) else (some (.brk ()))
def Fh (a0 : Be) : Option Bool :=
 (Rv (Gw a0) fuel 0).bind fun x => match x with | .inl r => some r | .inr e14 => Hf a0 e14
theorem N7 {a0 : Be} {r : Bool} (h : Fh a0 = some r) : Bp Tryz.prog 39 [.agg (EL.el a0)] (· = .s (.one (.b r))) := by
 unfold Fh at h
 refine A2 Tryz.func39 rfl (nt := 59) rfl (Nbl rfl) ?_
 intro w0 S0
 refine Aq (Ab (Je rfl rfl (sv rfl (Ak rfl) (Ar (Aq (Aq (Ab (sv rfl (Aa Ux rfl) (sv rfl (Ae Aeq rfl (.lp _ _ _ rfl) rfl) (sv rfl (Az Ac5 rfl) (sv rfl (Ah rfl) (Ar (G5 (Unit) (fun b1 => [(1, .s (.one (.lp 0 0)))]) (fun b1 => [.box (EL.el a0)]) (fun b1 => Hf a0 b1 = some r) (fun _ _ => Bg rfl) (fun _ _ => A0 rfl) (fun _ _ => Nbl rfl) (fun b1 h => ?_) ?_)))))))))))))
 ·unfold Hf at h
  refine Aq (Ab (sv rfl (Aa P0 rfl) (sv rfl (Ae ti3 rfl (.lp _ _ _ rfl) rfl) (sv rfl (Bo rfl rfl) (sv rfl (Ah rfl) (Bq 26 rfl (fun hc => ?_) (fun hc => ?_)))))))
  ·replace h := B1 hc h
   clear hc
   refine Aw rfl rfl rfl rfl (Aw rfl rfl rfl rfl (Aw rfl rfl rfl rfl (sv rfl (Au rfl rfl) (sv rfl (Ah rfl) (son rfl rfl rfl (sv rfl (Aa R8 rfl) (son rfl rfl rfl (sv rfl (Ae ti3 rfl (.lp _ _ _ rfl) rfl) (son rfl rfl rfl ?_)))))))))
   obtain ⟨v2, hv2, h⟩ := An h
   refine A1 rfl Aks (Ac rfl (Ac rfl Al)) (Aj rfl) (Fz hv2) (sv rfl (Au rfl rfl) (sv rfl (Ah rfl) (Bq 36 rfl (fun hc => ?_) (fun hc => ?_))))
   ·replace h := B1 hc h
    clear hc
    refine son rfl rfl rfl (sv rfl (Aa Qd rfl) (son rfl rfl rfl (sv rfl (Ae Aaz rfl (.lp _ _ _ rfl) rfl) (son rfl rfl rfl ?_))))
    obtain ⟨v3, hv3, h⟩ := An h
    refine A1 rfl Aks (Ac rfl (Ac rfl Al)) (Aj rfl) (Fz hv3) (sv rfl (Au rfl rfl) (sv rfl (Ah rfl) (Bq 41 rfl (fun hc => ?_) (fun hc => ?_))))
    ·replace h := B1 hc h
     clear hc
     refine son rfl rfl rfl (sv rfl (Aa Qx rfl) (son rfl rfl rfl (sv rfl (Ae ti3 rfl (.lp _ _ _ rfl) rfl) (son rfl rfl rfl ?_))))
     obtain ⟨v4, hv4, h⟩ := An h
     refine A1 rfl Aks (Ac rfl (Ac rfl Al)) (Aj rfl) (Fz hv4) (sv rfl (Au rfl rfl) (sv rfl (Ah rfl) (Bq 46 rfl (fun hc => ?_) (fun hc => ?_))))
     ·replace h := B1 hc h
      clear hc
      refine son rfl rfl rfl (sv rfl (Aa Aah rfl) (son rfl rfl rfl (sv rfl (Ae ti4 rfl (.lp _ _ _ rfl) rfl) (son rfl rfl rfl (sv rfl (Aa Zy rfl) (son rfl rfl rfl (sv rfl (Ae L2 rfl (.lp _ _ _ rfl) rfl) (son rfl rfl rfl ?_))))))))
      obtain ⟨v5, hv5, h⟩ := An h
      refine A1 rfl Aj3 (Ac rfl (Ac rfl (Ac rfl (Ac rfl Al)))) (Aj rfl) (D3 hv5) (sv rfl (Au rfl rfl) (sv rfl (Ah rfl) (Bq 53 rfl (fun hc => ?_) (fun hc => ?_))))
      ·replace h := B1 hc h
       clear hc
       refine son rfl rfl rfl (sv rfl (Aa Ux rfl) (son rfl rfl rfl (sv rfl (Ae Aeq rfl (.lp _ _ _ rfl) rfl) (son rfl rfl rfl (sv rfl (Az Ac5 rfl) (son rfl rfl rfl (sv rfl (F1 rfl rfl) (sv rfl (Au rfl rfl) (sv rfl (Ak rfl) (Ar (Bj ?_)))))))))))
       obtain rfl := SJ h
       refine ⟨Or.inr rfl, _, _, _, (Ad (Bc.tmp _ _ rfl) Af), (Aj rfl), ?_⟩
       rfl
      ·replace h := B0 hc h
       clear hc
       refine Aw rfl rfl rfl rfl (Aw rfl rfl rfl rfl (Aw rfl rfl rfl rfl (Aw rfl rfl rfl rfl (sv rfl (Am rfl rfl) (sv rfl (Ak rfl) (Ar (Bj ?_)))))))
       obtain rfl := SJ h
       refine ⟨Or.inr rfl, _, _, _, (Ad (Bc.tmp _ _ rfl) Af), (Aj rfl), ?_⟩
       rfl
     ·replace h := B0 hc h
      clear hc
      refine Aw rfl rfl rfl rfl (Aw rfl rfl rfl rfl (Aw rfl rfl rfl rfl (Aw rfl rfl rfl rfl (Aw rfl rfl rfl rfl (sv rfl (Am rfl rfl) (sv rfl (Ah rfl) (Aw rfl rfl rfl rfl (Aw rfl rfl rfl rfl (Aw rfl rfl rfl rfl (Aw rfl rfl rfl rfl (sv rfl (Am rfl rfl) (sv rfl (Ak rfl) (Ar (Bj ?_))))))))))))))
      obtain rfl := SJ h
      refine ⟨Or.inr rfl, _, _, _, (Ad (Bc.tmp _ _ rfl) Af), (Aj rfl), ?_⟩
      rfl
    ·replace h := B0 hc h
     clear hc
     refine Aw rfl rfl rfl rfl (Aw rfl rfl rfl rfl (Aw rfl rfl rfl rfl (sv rfl (Am rfl rfl) (sv rfl (Ah rfl) (Aw rfl rfl rfl rfl (Aw rfl rfl rfl rfl (Aw rfl rfl rfl rfl (Aw rfl rfl rfl rfl (Aw rfl rfl rfl rfl (sv rfl (Am rfl rfl) (sv rfl (Ah rfl) (Aw rfl rfl rfl rfl (Aw rfl rfl rfl rfl (Aw rfl rfl rfl rfl (Aw rfl rfl rfl rfl (sv rfl (Am rfl rfl) (sv rfl (Ak rfl) (Ar (Bj ?_)))))))))))))))))))
     obtain rfl := SJ h
     refine ⟨Or.inr rfl, _, _, _, (Ad (Bc.tmp _ _ rfl) Af), (Aj rfl), ?_⟩
     rfl
   ·replace h := B0 hc h
    clear hc
    refine Aw rfl rfl rfl rfl (Aw rfl rfl rfl rfl (Aw rfl rfl rfl rfl (sv rfl (Am rfl rfl) (sv rfl (Ah rfl) (Aw rfl rfl rfl rfl (Aw rfl rfl rfl rfl (Aw rfl rfl rfl rfl (sv rfl (Am rfl rfl) (sv rfl (Ah rfl) (Aw rfl rfl rfl rfl (Aw rfl rfl rfl rfl (Aw rfl rfl rfl rfl (Aw rfl rfl rfl rfl (Aw rfl rfl rfl rfl (sv rfl (Am rfl rfl) (sv rfl (Ah rfl) (Aw rfl rfl rfl rfl (Aw rfl rfl rfl rfl (Aw rfl rfl rfl rfl (Aw rfl rfl rfl rfl (sv rfl (Am rfl rfl) (sv rfl (Ak rfl) (Ar (Bj ?_))))))))))))))))))))))))
    obtain rfl := SJ h
    refine ⟨Or.inr rfl, _, _, _, (Ad (Bc.tmp _ _ rfl) Af), (Aj rfl), ?_⟩
    rfl
  ·replace h := B0 hc h
   clear hc
   refine son rfl rfl rfl (sv rfl (Aa P0 rfl) (son rfl rfl rfl (sv rfl (Ae ti3 rfl (.lp _ _ _ rfl) rfl) (son rfl rfl rfl ?_))))
   obtain ⟨v6, hv6, h⟩ := An h
   refine A1 rfl Aqn (Ac rfl Al) (Aj rfl) (L4 hv6) (sv rfl (Am rfl rfl) (sv rfl (Ah rfl) (Bq 31 rfl (fun hc => ?_) (fun hc => ?_))))
   ·replace h := B1 hc h
    clear hc
    refine son rfl rfl rfl (sv rfl (Aa R8 rfl) (son rfl rfl rfl (sv rfl (Ae ti3 rfl (.lp _ _ _ rfl) rfl) (son rfl rfl rfl ?_))))
    obtain ⟨v7, hv7, h⟩ := An h
    refine A1 rfl Aks (Ac rfl (Ac rfl Al)) (Aj rfl) (Fz hv7) (sv rfl (Au rfl rfl) (sv rfl (Ah rfl) (Bq 36 rfl (fun hc => ?_) (fun hc => ?_))))
    ·replace h := B1 hc h
     clear hc
     refine son rfl rfl rfl (sv rfl (Aa Qd rfl) (son rfl rfl rfl (sv rfl (Ae Aaz rfl (.lp _ _ _ rfl) rfl) (son rfl rfl rfl ?_))))
     obtain ⟨v8, hv8, h⟩ := An h
     refine A1 rfl Aks (Ac rfl (Ac rfl Al)) (Aj rfl) (Fz hv8) (sv rfl (Au rfl rfl) (sv rfl (Ah rfl) (Bq 41 rfl (fun hc => ?_) (fun hc => ?_))))
     ·replace h := B1 hc h
      clear hc
      refine son rfl rfl rfl (sv rfl (Aa Qx rfl) (son rfl rfl rfl (sv rfl (Ae ti3 rfl (.lp _ _ _ rfl) rfl) (son rfl rfl rfl ?_))))
      obtain ⟨v9, hv9, h⟩ := An h
      refine A1 rfl Aks (Ac rfl (Ac rfl Al)) (Aj rfl) (Fz hv9) (sv rfl (Au rfl rfl) (sv rfl (Ah rfl) (Bq 46 rfl (fun hc => ?_) (fun hc => ?_))))
      ·replace h := B1 hc h
       clear hc
       refine son rfl rfl rfl (sv rfl (Aa Aah rfl) (son rfl rfl rfl (sv rfl (Ae ti4 rfl (.lp _ _ _ rfl) rfl) (son rfl rfl rfl (sv rfl (Aa Zy rfl) (son rfl rfl rfl (sv rfl (Ae L2 rfl (.lp _ _ _ rfl) rfl) (son rfl rfl rfl ?_))))))))
       obtain ⟨v10, hv10, h⟩ := An h
       refine A1 rfl Aj3 (Ac rfl (Ac rfl (Ac rfl (Ac rfl Al)))) (Aj rfl) (D3 hv10) (sv rfl (Au rfl rfl) (sv rfl (Ah rfl) (Bq 53 rfl (fun hc => ?_) (fun hc => ?_))))
       ·replace h := B1 hc h
        clear hc
        refine son rfl rfl rfl (sv rfl (Aa Ux rfl) (son rfl rfl rfl (sv rfl (Ae Aeq rfl (.lp _ _ _ rfl) rfl) (son rfl rfl rfl (sv rfl (Az Ac5 rfl) (son rfl rfl rfl (sv rfl (F1 rfl rfl) (sv rfl (Au rfl rfl) (sv rfl (Ak rfl) (Ar (Bj ?_)))))))))))
        obtain rfl := SJ h
        refine ⟨Or.inr rfl, _, _, _, (Ad (Bc.tmp _ _ rfl) Af), (Aj rfl), ?_⟩
        rfl
       ·replace h := B0 hc h
        clear hc
        refine Aw rfl rfl rfl rfl (Aw rfl rfl rfl rfl (Aw rfl rfl rfl rfl (Aw rfl rfl rfl rfl (sv rfl (Am rfl rfl) (sv rfl (Ak rfl) (Ar (Bj ?_)))))))
        obtain rfl := SJ h
        refine ⟨Or.inr rfl, _, _, _, (Ad (Bc.tmp _ _ rfl) Af), (Aj rfl), ?_⟩
        rfl
      ·replace h := B0 hc h
       clear hc
       refine Aw rfl rfl rfl rfl (Aw rfl rfl rfl rfl (Aw rfl rfl rfl rfl (Aw rfl rfl rfl rfl (Aw rfl rfl rfl rfl (sv rfl (Am rfl rfl) (sv rfl (Ah rfl) (Aw rfl rfl rfl rfl (Aw rfl rfl rfl rfl (Aw rfl rfl rfl rfl (Aw rfl rfl rfl rfl (sv rfl (Am rfl rfl) (sv rfl (Ak rfl) (Ar (Bj ?_))))))))))))))
       obtain rfl := SJ h
       refine ⟨Or.inr rfl, _, _, _, (Ad (Bc.tmp _ _ rfl) Af), (Aj rfl), ?_⟩
       rfl
     ·replace h := B0 hc h
      clear hc
      refine Aw rfl rfl rfl rfl (Aw rfl rfl rfl rfl (Aw rfl rfl rfl rfl (sv rfl (Am rfl rfl) (sv rfl (Ah rfl) (Aw rfl rfl rfl rfl (Aw rfl rfl rfl rfl (Aw rfl rfl rfl rfl (Aw rfl rfl rfl rfl (Aw rfl rfl rfl rfl (sv rfl (Am rfl rfl) (sv rfl (Ah rfl) (Aw rfl rfl rfl rfl (Aw rfl rfl rfl rfl (Aw rfl rfl rfl rfl (Aw rfl rfl rfl rfl (sv rfl (Am rfl rfl) (sv rfl (Ak rfl) (Ar (Bj ?_)))))))))))))))))))
      obtain rfl := SJ h
      refine ⟨Or.inr rfl, _, _, _, (Ad (Bc.tmp _ _ rfl) Af), (Aj rfl), ?_⟩
      rfl
    ·replace h := B0 hc h
     clear hc
     refine Aw rfl rfl rfl rfl (Aw rfl rfl rfl rfl (Aw rfl rfl rfl rfl (sv rfl (Am rfl rfl) (sv rfl (Ah rfl) (Aw rfl rfl rfl rfl (Aw rfl rfl rfl rfl (Aw rfl rfl rfl rfl (sv rfl (Am rfl rfl) (sv rfl (Ah rfl) (Aw rfl rfl rfl rfl (Aw rfl rfl rfl rfl (Aw rfl rfl rfl rfl (Aw rfl rfl rfl rfl (Aw rfl rfl rfl rfl (sv rfl (Am rfl rfl) (sv rfl (Ah rfl) (Aw rfl rfl rfl rfl (Aw rfl rfl rfl rfl (Aw rfl rfl rfl rfl (Aw rfl rfl rfl rfl (sv rfl (Am rfl rfl) (sv rfl (Ak rfl) (Ar (Bj ?_))))))))))))))))))))))))
     obtain rfl := SJ h
     refine ⟨Or.inr rfl, _, _, _, (Ad (Bc.tmp _ _ rfl) Af), (Aj rfl), ?_⟩
     rfl
   ·replace h := B0 hc h
    clear hc
    refine Aw rfl rfl rfl rfl (Aw rfl rfl rfl rfl (Aw rfl rfl rfl rfl (sv rfl (Am rfl rfl) (sv rfl (Ah rfl) (Aw rfl rfl rfl rfl (Aw rfl rfl rfl rfl (Aw rfl rfl rfl rfl (sv rfl (Am rfl rfl) (sv rfl (Ah rfl) (Aw rfl rfl rfl rfl (Aw rfl rfl rfl rfl (Aw rfl rfl rfl rfl (sv rfl (Am rfl rfl) (sv rfl (Ah rfl) (Aw rfl rfl rfl rfl (Aw rfl rfl rfl rfl (Aw rfl rfl rfl rfl (Aw rfl rfl rfl rfl (Aw rfl rfl rfl rfl (sv rfl (Am rfl rfl) (sv rfl (Ah rfl) (Aw rfl rfl rfl rfl (Aw rfl rfl rfl rfl (Aw rfl rfl rfl rfl (Aw rfl rfl rfl rfl (sv rfl (Am rfl rfl) (sv rfl (Ak rfl) (Ar (Bj ?_)))))))))))))))))))))))))))))
    obtain rfl := SJ h
    refine ⟨Or.inr rfl, _, _, _, (Ad (Bc.tmp _ _ rfl) Af), (Aj rfl), ?_⟩
    rfl
 ·skip
  refine Ca ?_
  obtain ⟨x11, hx11, ho11⟩ := An h
  refine De (G := Nat × (Int)) (fun g => [(1, .s (.one (.lp 0 0))), (6, .s (.one (.sl a0.List.length (a0.List.flatMap Dr)))), (7, .s (.one (Ii6 (a0.List.length : Int)))), (8, .s (.one (Ii6 g.2)))]) (fun g => [.box (EL.el a0)]) (fun g => Rv (Gw a0) g.1 g.2 = some x11) (fun g => g.1) (fuel, 0) hx11 ⟨rfl, rfl, rfl, rfl, trivial⟩ [] rfl (fun _ _ => Bg rfl) (fun _ _ => A0 rfl) (fun _ _ => Nbl rfl) ?_
  clear hx11 h
  rintro ⟨n11, s11⟩ h
  obtain ⟨n11, y11, rfl, h, hk11⟩ := Oz h
  unfold Gw at h
  refine Aq (Ab (sv rfl (Cs rfl rfl) (Ar (Aq (ccI h rfl (fun h => ?_) (fun h => ?_))))))
  ·refine Bl (Ai (Aq (Ca (Aq (Ab ?_)))))
   obtain ⟨u12, hu12, h⟩ := An h
   refine sv rfl (Fm (f := Dr) Ac5 (fun _ => rfl) rfl rfl rfl rfl hu12) ?_
   refine sv rfl (Dj (ys := [.sl u12.Key.length (u12.Key.flatMap eU8), .sl u12.Val.length (u12.Val.flatMap eU8)]) Al5 rfl (.cp _) rfl rfl) (Bz rfl Aia (Ax Amq rfl rfl rfl rfl (Nbl rfl) (Bt [.box (EL.el a0), .box (EL.el u12)] rfl (Ar (Aq (Ab (sv rfl (Aa Abo rfl) (sv rfl (Ae L2 rfl (.lp _ _ _ rfl) rfl) ?_))))))))
   obtain ⟨v13, hv13, h⟩ := An h
   refine A1 rfl Aj3 (Ac rfl (Ac rfl (Ac rfl (Ac rfl Al)))) (Aj rfl) (D3 hv13) (sv rfl (B8 rfl) (sv rfl (Ah rfl) (Bq 16 rfl (fun hc => ?_) (fun hc => ?_))))
   ·replace h := B1 hc h
    clear hc
    refine Aw rfl rfl rfl rfl (Aw rfl rfl rfl rfl (Aw rfl rfl rfl rfl (Aw rfl rfl rfl rfl (sv rfl (Au rfl rfl) (Ar (Hy rfl (fun _ => ?_) (fun hx => Bool.noConfusion hx)))))))
    refine Aq (Ab (sv rfl (Ak rfl) (Ar (Bj (Bd (As (As (Bd (As ?_)))))))))
    obtain rfl := SJ h
    obtain rfl : Sum.inl _ = x11 := hk11
    replace ho11 : some _ = some _ := ho11
    obtain rfl := Option.some.inj ho11
    refine ⟨Or.inr rfl, _, _, _, (Ad (Bc.tmp _ _ rfl) Af), (Aj rfl), ?_⟩
    rfl
   ·replace h := B0 hc h
    clear hc
    refine son rfl rfl rfl (sv rfl (Aa Ye rfl) (son rfl rfl rfl (sv rfl (Ae L2 rfl (.lp _ _ _ rfl) rfl) (son rfl rfl rfl (sv rfl (Az Lc rfl) (son rfl rfl rfl (sv rfl (Dg rfl rfl) (sv rfl (Am rfl rfl) (Ar (ccI h rfl (fun h => ?_) (fun h => ?_)))))))))))
    ·refine Aq (Ab (sv rfl (Ak rfl) (Ar (Bj (Bd (As (As (Bd (As ?_)))))))))
     obtain rfl := SJ h
     obtain rfl : Sum.inl _ = x11 := hk11
     replace ho11 : some _ = some _ := ho11
     obtain rfl := Option.some.inj ho11
     refine ⟨Or.inr rfl, _, _, _, (Ad (Bc.tmp _ _ rfl) Af), (Aj rfl), ?_⟩
     rfl
    ·refine Bl (A5 (Ai (Ab (sv rfl (B9 rfl rfl) (sv rfl (Ah rfl) (Ar ?_))))))
     obtain rfl := SJ h
     exact ⟨(n11, (wI (s11 + 1))), _, hk11, ⟨rfl, rfl, rfl, rfl, trivial⟩, rfl, Nat.lt_succ_self _⟩
  ·refine Lw (Bi (Bi (Ck (Ai ?_))))
   obtain rfl := SJ h
   obtain rfl : _ = x11 := hk11
   exact ⟨(), _, ho11, ⟨rfl, trivial⟩, rfl⟩
def Jn (b9 : (List UInt8)) : Option ((List UInt8) × Int) :=
 some (b9, 0)
def Fv (a0 : Be) (s10 : (List UInt8) × Int) : Option (LB ((List UInt8) × Int) ((List UInt8))) :=
 if (decide (s10.2 < (a0.List.length : Int))) then ((idx a0.List s10.2).bind fun u11 => (Fy s10.1 u11.Key).bind fun v12 => (Fy v12 u11.Val).bind fun v13 => some (.cont (v13, (wI (s10.2 + 1))))) else (some (.brk s10.1))
def Jz (a0 : Be) : Option ((List UInt8) × Int) :=
 (Fh a0).bind fun v1 => if (!v1) then (some (([] : List UInt8), 1)) else ((Eg ([] : List UInt8) (BitVec.ofInt 64 a0.Kind) 1).bind fun v2 => (Eg v2 (BitVec.ofInt 64 a0.Seq) 4).bind fun v3 => (Eg v3 (BitVec.ofInt 64 a0.Code) 1).bind fun v4 => (Eg v4 (BitVec.ofInt 64 a0.N) 8).bind fun v5 => (Hu v5 a0.Found).bind fun v6 => (Fy v6 a0.Val).bind fun v7 => (Eg v7 (BitVec.ofInt 64 (a0.List.length : Int)) 1).bind fun v8 => (Ez (Fv a0) fuel (v8, 0)).bind fun e14 => Jn e14)
theorem Tk {a0 : Be} {r : (List UInt8) × Int} (h : Jz a0 = some r) : Bp Tryz.prog 16 [.agg (EL.el a0)] (· = .tup [.one (.sl r.1.length (r.1.flatMap eU8)), .one (Ii6 r.2)]) := by
 unfold Jz at h
 refine A2 Tryz.func16 rfl (nt := 56) rfl (Nbl rfl) ?_
 intro w0 S0
 refine Aq (Ab (Je rfl rfl (sv rfl (Ak rfl) (sv rfl (Ak rfl) (Ar (Aq (Aq (Ab (sv rfl (Ao Abc rfl (.lp _ _ _ rfl) (Nbl rfl)) ?_)))))))))
 obtain ⟨v1, hv1, h⟩ := An h
 refine A1 rfl Aul (Ac rfl Al) (Aj rfl) (N7 hv1) (sv rfl (B8 rfl) (Ar (ccI h rfl (fun h => ?_) (fun h => ?_))))
 ·refine Aq (Ab (sv rfl (Ak rfl) (sv rfl (Ak rfl) (Ar (Bj (As ?_))))))
  obtain rfl := SJ h
  refine ⟨Or.inr rfl, _, _, _, (Ad (Bc.tmp _ _ rfl) (Ad (Bc.tmp _ _ rfl) Af)), (Nl rfl), ?_⟩
  rfl
 ·refine Bl (Ai (Aq ?_))
  refine Afn Lz (by kernel_rfl) ?_
  refine dv rfl (Aa P0 rfl) (dv rfl (Ae ti3 rfl (.lp _ _ _ rfl) rfl) (dv rfl (C3 rfl Tryz.underlying3 Tryz.underlying112 rfl) ?_))
  obtain ⟨v2, hv2, h⟩ := An h
  refine dd rfl (Tw Aa1 (Ac rfl (Ac rfl (Ac rfl Al))) rfl (Ej hv2)) (dv rfl (Aa R8 rfl) (dv rfl (Ae ti3 rfl (.lp _ _ _ rfl) rfl) (dv rfl (C3 rfl Tryz.underlying3 Tryz.underlying112 rfl) ?_)))
  obtain ⟨v3, hv3, h⟩ := An h
  refine dd rfl (Dy Aa1 (Ac rfl (Ac rfl (Ac rfl Al))) rfl (Ej hv3)) (dv rfl (Ak rfl) (Agx (Ai (Aq ?_))))
  refine Ac1 Lz (by kernel_rfl) ?_
  refine dv rfl (Ah rfl) (dv rfl (Aa Qd rfl) (dv rfl (Ae Aaz rfl (.lp _ _ _ rfl) rfl) (dv rfl (C3 rfl Tryz.underlying38 Tryz.underlying112 rfl) ?_)))
  obtain ⟨v4, hv4, h⟩ := An h
  refine dd rfl (Dy Aa1 (Ac rfl (Ac rfl (Ac rfl Al))) rfl (Ej hv4)) (dv rfl (Aa Qx rfl) (dv rfl (Ae ti3 rfl (.lp _ _ _ rfl) rfl) (dv rfl (C3 rfl Tryz.underlying3 Tryz.underlying112 rfl) ?_)))
  obtain ⟨v5, hv5, h⟩ := An h
  refine dd rfl (Dy Aa1 (Ac rfl (Ac rfl (Ac rfl Al))) rfl (Ej hv5)) (dv rfl (Ak rfl) (Agx (Ai (Aq ?_))))
  refine Ac1 Lz (by kernel_rfl) ?_
  refine dv rfl (Ah rfl) (dv rfl (Aa Aah rfl) (dv rfl (Ae ti4 rfl (.lp _ _ _ rfl) rfl) ?_))
  obtain ⟨v6, hv6, h⟩ := An h
  refine dd rfl (Dy Aqy (Ac rfl (Ac rfl Al)) rfl (Mt hv6)) (dv rfl (Aa Zy rfl) (dv rfl (Ae L2 rfl (.lp _ _ _ rfl) rfl) ?_))
  obtain ⟨v7, hv7, h⟩ := An h
  refine dd rfl (Dy Alt (Ac rfl (Ac rfl Al)) rfl (Iq hv7)) (dv rfl (Ak rfl) (Agx (Ai (Aq (Ab (sv rfl (Ah rfl) (sv rfl (Aa Ux rfl) (sv rfl (Ae Aeq rfl (.lp _ _ _ rfl) rfl) (sv rfl (Az Ac5 rfl) (sv rfl (C3 rfl Tryz.underlying3 Tryz.underlying112 rfl) ?_))))))))))
  obtain ⟨v8, hv8, h⟩ := An h
  refine A1 rfl Aa1 (Ac rfl (Ac rfl (Ac rfl Al))) (Aj rfl) (Ej hv8) (sv rfl (Ak rfl) (Ar (Aq (Aq (Ab (sv rfl (Aa Ux rfl) (sv rfl (Ae Aeq rfl (.lp _ _ _ rfl) rfl) (sv rfl (Az Ac5 rfl) (sv rfl (Ah rfl) (Ar (G5 ((List UInt8)) (fun b9 => [(4, .s (.one (.sl b9.length (b9.flatMap eU8))))]) (fun b9 => [.box (EL.el a0)]) (fun b9 => Jn b9 = some r) (fun _ _ => Bg rfl) (fun _ _ => A0 rfl) (fun _ _ => Nbl rfl) (fun b9 h => ?_) ?_)))))))))))
  ·unfold Jn at h
   refine Aq (Ab (sv rfl (Ah rfl) (sv rfl (Ak rfl) (sv rfl (Ak rfl) (Ar (Bj ?_))))))
   obtain rfl := SJ h
   refine ⟨Or.inr rfl, _, _, _, (Ad (Bc.tmp _ _ rfl) (Ad (Bc.tmp _ _ rfl) Af)), (Aj rfl), ?_⟩
   rfl
  ·skip
   refine Ca ?_
   obtain ⟨x10, hx10, ho10⟩ := An h
   refine De (G := Nat × ((List UInt8) × Int)) (fun g => [(4, .s (.one (.sl g.2.1.length (g.2.1.flatMap eU8)))), (41, .s (.one (.sl a0.List.length (a0.List.flatMap Dr)))), (42, .s (.one (Ii6 (a0.List.length : Int)))), (43, .s (.one (Ii6 g.2.2)))]) (fun g => [.box (EL.el a0)]) (fun g => Ez (Fv a0) g.1 g.2 = some x10) (fun g => g.1) (fuel, (v8, 0)) hx10 ⟨rfl, rfl, rfl, rfl, trivial⟩ [] rfl (fun _ _ => Bg rfl) (fun _ _ => A0 rfl) (fun _ _ => Nbl rfl) ?_
   clear hx10 h
   rintro ⟨n10, s10⟩ h
   obtain ⟨n10, y10, rfl, h, hk10⟩ := Gp h
   unfold Fv at h
   refine Aq (Ab (sv rfl (Cs rfl rfl) (Ar (Aq (ccI h rfl (fun h => ?_) (fun h => ?_))))))
   ·refine Bl (Ai (Aq (Ca (Aq (Ab ?_)))))
    obtain ⟨u11, hu11, h⟩ := An h
    refine sv rfl (Fm (f := Dr) Ac5 (fun _ => rfl) rfl rfl rfl rfl hu11) ?_
    refine sv rfl (Dj (ys := [.sl u11.Key.length (u11.Key.flatMap eU8), .sl u11.Val.length (u11.Val.flatMap eU8)]) Al5 rfl (.cp _) rfl rfl) (Bz rfl Aia (Ax Amq rfl rfl rfl rfl (Nbl rfl) (Bt [.box (EL.el a0), .box (EL.el u11)] rfl (Ar ?_))))
    refine Ac1 Lz (by kernel_rfl) ?_
    refine dv rfl (Ah rfl) (dv rfl (Aa Abo rfl) (dv rfl (Ae L2 rfl (.lp _ _ _ rfl) rfl) ?_))
    obtain ⟨v12, hv12, h⟩ := An h
    refine dd rfl (Dy Alt (Ac rfl (Ac rfl Al)) rfl (Iq hv12)) (dv rfl (Aa Ye rfl) (dv rfl (Ae L2 rfl (.lp _ _ _ rfl) rfl) ?_))
    obtain ⟨v13, hv13, h⟩ := An h
    refine dd rfl (Dy Alt (Ac rfl (Ac rfl Al)) rfl (Iq hv13)) (dv rfl (Ak rfl) (Agx (A5 (Ai (Ab (sv rfl (B9 rfl rfl) (sv rfl (Ah rfl) (Ar ?_))))))))
    obtain rfl := SJ h
    exact ⟨(n10, (v13, (wI (s10.2 + 1)))), _, hk10, ⟨rfl, rfl, rfl, rfl, trivial⟩, rfl, Nat.lt_succ_self _⟩
   ·refine Lw (Bi (Bi (Ck (Ai ?_))))
    obtain rfl := SJ h
    obtain rfl : _ = x10 := hk10
    exact ⟨s10.1, _, ho10, ⟨rfl, trivial⟩, rfl⟩
def F0 (a0 : Ag) (a1 : Hx) : Option (List UInt8) :=
 (Jz (Be.mk a0.Req.Kind a0.Req.Seq a1.Code a1.N a1.Found a1.Val a1.List)).bind fun v1 => (K7 ([] : List UInt8) v1.1).bind fun v2 => some v2.1
theorem Oo {a0 : Ag} {a1 : Hx} {r : (List UInt8)} (h : F0 a0 a1 = some r) : Bp Tryz.prog 22 [.agg (EL.el a0), .agg (EL.el a1)] (· = .s (.one (.sl r.length (r.flatMap eU8)))) := by
 unfold F0 at h
 refine A2 Tryz.func22 rfl (nt := 38) rfl (Nbl rfl) ?_
 intro w0 S0
 refine Aq (Ab (Je rfl rfl (Je rfl rfl (sv rfl (Ak rfl) (Ar (Aq (Ab (sv rfl (Aa Ji rfl) (sv rfl (Aa Pw rfl) (sv rfl (Ae ti3 rfl (.lp _ _ _ rfl) rfl) (sv rfl (Aa Ji rfl) (sv rfl (Aa Qq rfl) (sv rfl (Ae ti3 rfl (.lp _ _ _ rfl) rfl) (sv rfl (Aa Apy rfl) (sv rfl (Ae Aaz rfl (.lp _ _ _ rfl) rfl) (sv rfl (Aa Ap1 rfl) (sv rfl (Ae ti3 rfl (.lp _ _ _ rfl) rfl) (sv rfl (Aa Aos rfl) (sv rfl (Ae ti4 rfl (.lp _ _ _ rfl) rfl) (sv rfl (Aa Ak2 rfl) (sv rfl (Ae L2 rfl (.lp _ _ _ rfl) rfl) (sv rfl (Aa Z5 rfl) (sv rfl (Ae Aeq rfl (.lp _ _ _ rfl) rfl) (sv rfl (Bk Aki Aqk (Ap rfl (Ap rfl (Ap rfl (Ap rfl (Ap rfl (Ap rfl (Ap rfl A9))))))) (Ea [Ii6 a0.Req.Kind, Ii6 0, Ii6 0, Ii6 0, .b false, Znl, Znl] rfl rfl (Nbl rfl) rfl (Ea [Ii6 a0.Req.Kind, Ii6 a0.Req.Seq, Ii6 0, Ii6 0, .b false, Znl, Znl] rfl rfl (Nbl rfl) rfl (Ea [Ii6 a0.Req.Kind, Ii6 a0.Req.Seq, Ii6 a1.Code, Ii6 0, .b false, Znl, Znl] rfl rfl (Nbl rfl) rfl (Ea [Ii6 a0.Req.Kind, Ii6 a0.Req.Seq, Ii6 a1.Code, Ii6 a1.N, .b false, Znl, Znl] rfl rfl (Nbl rfl) rfl (Ea [Ii6 a0.Req.Kind, Ii6 a0.Req.Seq, Ii6 a1.Code, Ii6 a1.N, .b a1.Found, Znl, Znl] rfl rfl (Nbl rfl) rfl (Ea [Ii6 a0.Req.Kind, Ii6 a0.Req.Seq, Ii6 a1.Code, Ii6 a1.N, .b a1.Found, .sl a1.Val.length (a1.Val.flatMap eU8), Znl] rfl rfl (Nbl rfl) rfl (Ea [Ii6 a0.Req.Kind, Ii6 a0.Req.Seq, Ii6 a1.Code, Ii6 a1.N, .b a1.Found, .sl a1.Val.length (a1.Val.flatMap eU8), .sl a1.List.length (a1.List.flatMap Dr)] rfl rfl (Nbl rfl) rfl (.nil _))))))))) (Bz rfl Aki (Ax Anu rfl rfl rfl rfl (Nbl rfl) (Bt [.box (EL.el a0), .box (EL.el a1), .box (EL.el {a1 with Kind := a0.Req.Kind, Seq := a0.Req.Seq})] rfl (Ar (Aq (Ab (sv rfl (Ao Abc rfl (.lp _ _ _ rfl) (Nbl rfl)) ?_)))))))))))))))))))))))))))))))
 obtain ⟨v1, hv1, h⟩ := An h
 refine A1 rfl Aus (Ac rfl Al) (Aj rfl) (Tk hv1) (sv rfl (Fs rfl) (sv rfl (A7 rfl rfl) (sv rfl (A7 rfl rfl) (sv rfl (Ak rfl) (sv rfl (Ak rfl) (Ar (Aq (Ab (sv rfl (Ah rfl) ?_)))))))))
 obtain ⟨v2, hv2, h⟩ := An h
 refine A1 rfl Aub (Ac rfl (Ac rfl Al)) (Nl rfl) (Q7 hv2) (sv rfl (Fs rfl) (sv rfl (A7 rfl rfl) (sv rfl (A7 rfl rfl) (sv rfl (Ak rfl) (sv rfl (Ak rfl) (Ar (Aq (Ab (sv rfl (Ah rfl) (sv rfl (Ak rfl) (Ar (Bj ?_))))))))))))
 obtain rfl := SJ h
 refine ⟨Or.inr rfl, _, _, _, (Ad (Bc.tmp _ _ rfl) Af), (Aj rfl), ?_⟩
 rfl
def Fp (a0 : Int) : Option Bool :=
 if (decide (a0 = 1)) then (some true) else (some (decide (a0 = 11)))
theorem I6 {a0 : Int} {r : Bool} (h : Fp a0 = some r) : Bp Tryz.prog 37 [.one (Ii6 a0)] (· = .s (.one (.b r))) := by
 unfold Fp at h
 refine A2 Tryz.func37 rfl (nt := 9) rfl (Nbl rfl) ?_
 intro w0 S0
 refine Aq (Ab (sv rfl (Ak rfl) (Ar (Aq (Ab (sv rfl (Ah rfl) (sv rfl (Bo rfl rfl) (sv rfl (Ah rfl) (Bq 5 rfl (fun hc => ?_) (fun hc => ?_))))))))))
 ·replace h := B1 hc h
  clear hc
  refine Aw rfl rfl rfl rfl (Aw rfl rfl rfl rfl (sv rfl (Au rfl rfl) (sv rfl (Ak rfl) (Ar (Bj ?_)))))
  obtain rfl := SJ h
  refine ⟨Or.inr rfl, _, _, _, (Ad (Bc.tmp _ _ rfl) Af), (Aj rfl), ?_⟩
  rfl
 ·replace h := B0 hc h
  clear hc
  refine son rfl rfl rfl (sv rfl (Ah rfl) (son rfl rfl rfl (sv rfl (Bo rfl rfl) (sv rfl (Am rfl rfl) (sv rfl (Ak rfl) (Ar (Bj ?_)))))))
  obtain rfl := SJ h
  refine ⟨Or.inr rfl, _, _, _, (Ad (Bc.tmp _ _ rfl) Af), (Aj rfl), ?_⟩
  rfl
def No (b1 : Int × (List (List UInt8))) : Option ((List (List UInt8)) × Int × Int) :=
 some (b1.2, b1.1, 0)
def Jy (a0 : List UInt8) (s2 : Int × (List (List UInt8))) : Option (LR (Int × (List (List UInt8))) (Int × (List (List UInt8))) ((List (List UInt8)) × Int × Int)) :=
 if (decide (s2.1 < (a0.length : Int))) then ((J6 a0 s2.1).bind fun v3 => if (!decide (v3.2.2 = 0)) then (some (.ret (s2.2, s2.1, v3.2.2))) else (if (s2.2.length + [v3.1].length) * 24 ≤ 140737488355328 then (some (.cont (v3.2.1, (s2.2 ++ [v3.1])))) else none)) else (some (.brk (s2.1, s2.2)))
def Mk (a0 : List UInt8) : Option ((List (List UInt8)) × Int × Int) :=
 (Rv (Jy a0) fuel (0, ([] : List (List UInt8)))).bind fun x => match x with | .inl r => some r | .inr e5 => No e5
theorem V4 {a0 : List UInt8} {r : (List (List UInt8)) × Int × Int} (h : Mk a0 = some r) : Bp Tryz.prog 76 [.one (.sl a0.length (a0.flatMap eU8))] (· = .tup [.one (.sl r.1.length (r.1.flatMap (eL eU8))), .one (Ii6 r.2.1), .one (Ii6 r.2.2)]) := by
 unfold Mk at h
 refine A2 Tryz.func76 rfl (nt := 33) rfl (Nbl rfl) ?_
 intro w0 S0
 refine Aq (Ab (sv rfl (Ak rfl) (sv rfl (Ak rfl) (sv rfl (Ak rfl) (Ar (Aq (Ab (sv rfl (Ak rfl) (Ar (Aq (Ab (sv rfl (Ak rfl) (Ar (Aq ?_))))))))))))))
 refine Ov 33 1 5 (by decide) rfl ?_
 refine G5 (Int × (List (List UInt8))) (fun b1 => [(5, .s (.one (.ls 0 b1.2.length))), (6, .s (.one (Ii6 b1.1)))]) (fun b1 => [.arr 33 1 0 (b1.2.flatMap (eL eU8))]) (fun b1 => No b1 = some r) (fun _ _ => Bg rfl) (fun _ _ => A0 rfl) (fun _ _ => Nbl rfl) (fun b1 h => ?_) ?_
 ·unfold No at h
  refine Aq (Ab (sv rfl (Ah rfl) (sv rfl (Ah rfl) (sv rfl (Ak rfl) (sv rfl (Ak rfl) (sv rfl (Ak rfl) (Ar (Bj ?_))))))))
  obtain rfl := SJ h
  refine ⟨Or.inr rfl, _, _, _, (Ad (Bc.tmp _ _ rfl) (Ad (Bc.tmp _ _ rfl) (Ad (Bc.tmp _ _ rfl) Af))), (by (repeat' first | exact J8.nil _ | apply J8.cons | apply Jv.one | apply Jv.agg | exact E4.nil | exact E4.ls _ _ _ _ _ _ rfl (Bf (f := (eL eU8)) (fun _ => rfl) _).symm | exact E4.id _ rfl | exact D2.nil _ | apply D2.cons)), ?_⟩
  rfl
 ·skip
  refine Ca ?_
  obtain ⟨x2, hx2, ho2⟩ := An h
  refine De (G := Nat × (Int × (List (List UInt8)))) (fun g => [(0, .s (.one (.sl a0.length (a0.flatMap eU8)))), (5, .s (.one (.ls 0 g.2.2.length))), (6, .s (.one (Ii6 g.2.1)))]) (fun g => [.arr 33 1 0 (g.2.2.flatMap (eL eU8))]) (fun g => Rv (Jy a0) g.1 g.2 = some x2) (fun g => g.1) (fuel, (0, ([] : List (List UInt8)))) hx2 ⟨rfl, rfl, rfl, trivial⟩ [] rfl (fun _ _ => Bg rfl) (fun _ _ => A0 rfl) (fun _ _ => Nbl rfl) ?_
  clear hx2 h
  rintro ⟨n2, s2⟩ h
  obtain ⟨n2, y2, rfl, h, hk2⟩ := Oz h
  unfold Jy at h
  refine Aq (Aq (Ab (sv rfl (Ah rfl) (sv rfl (Ah rfl) (sv rfl (Az Lc rfl) (sv rfl (Cs rfl rfl) (Ar (ccI h rfl (fun h => ?_) (fun h => ?_)))))))))
  ·refine Bl (Ai (Ca (Aq (Ab (sv rfl (Ah rfl) (sv rfl (Ah rfl) ?_))))))
   obtain ⟨v3, hv3, h⟩ := An h
   refine A1 rfl Atw (Ac rfl (Ac rfl Al)) (Aj rfl) (Px hv3) (sv rfl (Fs rfl) (sv rfl (A7 rfl rfl) (sv rfl (A7 rfl rfl) (sv rfl (A7 rfl rfl) (sv rfl (Ak rfl) (sv rfl (Ak rfl) (sv rfl (Ak rfl) (Ar (Aq (Aq (Ab (sv rfl (Ah rfl) (sv rfl (Cd rfl rfl) (Ar (ccI h rfl (fun h => ?_) (fun h => ?_))))))))))))))))
   ·refine Aq (Ab (sv rfl (Ah rfl) (sv rfl (Ah rfl) (sv rfl (Ah rfl) (sv rfl (Ak rfl) (sv rfl (Ak rfl) (sv rfl (Ak rfl) (Ar (Bj (As (Bd (As (Bd (As ?_))))))))))))))
    obtain rfl := SJ h
    obtain rfl : Sum.inl _ = x2 := hk2
    replace ho2 : some _ = some _ := ho2
    obtain rfl := Option.some.inj ho2
    refine ⟨Or.inr rfl, _, _, _, (Ad (Bc.tmp _ _ rfl) (Ad (Bc.tmp _ _ rfl) (Ad (Bc.tmp _ _ rfl) Af))), (by (repeat' first | exact J8.nil _ | apply J8.cons | apply Jv.one | apply Jv.agg | exact E4.nil | exact E4.ls _ _ _ _ _ _ rfl (Bf (f := (eL eU8)) (fun _ => rfl) _).symm | exact E4.id _ rfl | exact D2.nil _ | apply D2.cons)), ?_⟩
    rfl
   ·refine Bl (Ai (Aq (Ab (sv rfl (Ah rfl) (sv rfl (Ah rfl) ?_)))))
    refine Qy rfl Tryz.underlying124 Anq rfl rfl (List.all_eq_true.1 rfl) (by decide) ?_
    refine Bt [.arr 33 1 0 (s2.2.flatMap (eL eU8)), .arr 33 1 0 ([v3.1].flatMap (eL eU8))] rfl ?_
    obtain ⟨hb4, h⟩ := D4 h
    refine Ah2 (f := (eL eU8)) (xs := s2.2) (us := [v3.1]) rfl Tryz.underlying124 Anq Ard (fun _ => rfl) rfl rfl (.one _ _ _ _ (.ls _ _ _ _ _ _ rfl (Bf (f := (eL eU8)) (fun _ => rfl) [v3.1]).symm)) rfl rfl rfl (.sl _ _ _ (Bf (f := (eL eU8)) (fun _ => rfl) _)) rfl rfl hb4 (by decide) ?_
    refine sv rfl (Ak rfl) (Ar (Ab (sv rfl (Ah rfl) (sv rfl (Ak rfl) (Ls (A5 (Ai ?_)))))))
    obtain rfl := SJ h
    exact ⟨(n2, (v3.2.1, (s2.2 ++ [v3.1]))), _, hk2, ⟨rfl, rfl, rfl, trivial⟩, rfl, Nat.lt_succ_self _⟩
  ·refine Lw (Bi (Bi (Ck (Ai ?_))))
   obtain rfl := SJ h
   obtain rfl : _ = x2 := hk2
   exact ⟨(s2.1, s2.2), _, ho2, ⟨rfl, rfl, trivial⟩, rfl⟩
def Kn (a0 : List UInt8) (a1 : Int) : Option (List UInt8) :=
 (cut a0 a1 (a0.length : Int)).bind fun c1 => if (a0.length : Int) ≤ (a0.length : Int) ∧ (a0.length : Int) ≤ (a0.length : Int) then (if (0 : Int) ≤ (c1.length : Int) ∧ (c1.length : Int) ≤ (c1.length : Int) ∧ ((1 : Nat) : Int) * (c1.length : Int) ≤ 281474976710656 then ((cut (c1.take (List.replicate (c1.length : Int).toNat (0 : UInt8)).length ++ (List.replicate (c1.length : Int).toNat (0 : UInt8)).drop c1.length) 0 ((Nat.min c1.length (List.replicate (c1.length : Int).toNat (0 : UInt8)).length : Nat) : Int)).bind fun c4 => if ((Nat.min c1.length (List.replicate (c1.length : Int).toNat (0 : UInt8)).length : Nat) : Int) ≤ ((Nat.min c1.length (List.replicate (c1.length : Int).toNat (0 : UInt8)).length : Nat) : Int) ∧ ((Nat.min c1.length (List.replicate (c1.length : Int).toNat (0 : UInt8)).length : Nat) : Int) ≤ ((c1.take (List.replicate (c1.length : Int).toNat (0 : UInt8)).length ++ (List.replicate (c1.length : Int).toNat (0 : UInt8)).drop c1.length).length : Int) then (some c4) else none) else none) else none
theorem Uj {a0 : List UInt8} {a1 : Int} {r : (List UInt8)} (h : Kn a0 a1 = some r) : Bp Tryz.prog 77 [.one (.sl a0.length (a0.flatMap eU8)), .one (Ii6 a1)] (· = .s (.one (.sl r.length (r.flatMap eU8)))) := by
 unfold Kn at h
 refine A2 Tryz.func77 rfl (nt := 25) rfl (Nbl rfl) ?_
 intro w0 S0
 refine Aq (Ab (sv rfl (Ak rfl) (Ar (Aq (Ab (sv rfl (Ah rfl) (sv rfl (Ah rfl) (sv rfl (Ah rfl) (sv rfl (Az Lc rfl) (sv rfl (Ah rfl) (sv rfl (Az Lc rfl) ?_)))))))))))
 obtain ⟨c1, hc1, h⟩ := An h
 obtain ⟨hs2, h⟩ := D4 h
 refine sv rfl (Adb (f := eU8) (lo := a1) (hi := (a0.length : Int)) (mx := (a0.length : Int)) Lc (fun _ => rfl) rfl rfl rfl (Hs rfl (Kp hc1).1.1) (Hs rfl (Int.le_trans (Kp hc1).1.1 (Kp hc1).1.2.1)) (Hs rfl (Int.le_trans (Int.le_trans (Kp hc1).1.1 (Kp hc1).1.2.1) hs2.1)) hc1 hs2) ?_
 refine sv rfl (Ak rfl) (Ar (Aq (Ab (sv rfl (Ah rfl) (sv rfl (Az Lc rfl) ?_)))))
 obtain ⟨hm3, h⟩ := D4 h
 refine smk (f := eU8) (z := (0 : UInt8)) rfl Tryz.underlying33 ei5 (fun _ => rfl) rfl rfl rfl hm3 (by decide) ?_
 refine sv rfl (Ak rfl) (Ar (Aq (Ab (sv rfl (Ah rfl) (sv rfl (Ah rfl) ?_)))))
 refine Art (f := eU8) (xs := (List.replicate (c1.length : Int).toNat (0 : UInt8))) (us := c1) rfl Tryz.underlying33 (by kernel_rfl) (fun _ => rfl) rfl rfl rfl rfl rfl rfl rfl ?_
 refine U6 17 (y := .s (.one (.ls 0 (List.replicate (c1.length : Int).toNat (0 : UInt8)).length))) (.s (.one (.ls 0 (c1.take (List.replicate (c1.length : Int).toNat (0 : UInt8)).length ++ (List.replicate (c1.length : Int).toNat (0 : UInt8)).drop c1.length).length))) rfl (congrArg (fun n => AV.s (.one (.ls 0 n))) (X7 _ _)) ?_
 refine U6 6 (y := .s (.one (.ls 0 (List.replicate (c1.length : Int).toNat (0 : UInt8)).length))) (.s (.one (.ls 0 (c1.take (List.replicate (c1.length : Int).toNat (0 : UInt8)).length ++ (List.replicate (c1.length : Int).toNat (0 : UInt8)).drop c1.length).length))) rfl (congrArg (fun n => AV.s (.one (.ls 0 n))) (X7 _ _)) ?_
 refine U6 18 (y := .s (.one (.ls 0 (List.replicate (c1.length : Int).toNat (0 : UInt8)).length))) (.s (.one (.ls 0 (c1.take (List.replicate (c1.length : Int).toNat (0 : UInt8)).length ++ (List.replicate (c1.length : Int).toNat (0 : UInt8)).drop c1.length).length))) rfl (congrArg (fun n => AV.s (.one (.ls 0 n))) (X7 _ _)) ?_
 refine sv rfl (Ak rfl) (Ar (Aq (Ab (sv rfl (Ah rfl) (sv rfl (Ah rfl) (sv rfl (Ah rfl) ?_))))))
 refine Zf 21 rfl (by (repeat' first | exact J8.nil _ | apply J8.cons | apply Jv.one | apply Jv.agg | exact E4.nil | exact E4.ls _ _ _ _ _ _ rfl (Bf (f := eU8) (fun _ => rfl) _).symm | exact E4.id _ rfl | exact D2.nil _ | apply D2.cons)) ?_
 obtain ⟨c4, hc4, h⟩ := An h
 obtain ⟨hs5, h⟩ := D4 h
 refine sv rfl (Adb (f := eU8) (lo := 0) (hi := ((Nat.min c1.length (List.replicate (c1.length : Int).toNat (0 : UInt8)).length : Nat) : Int)) (mx := ((Nat.min c1.length (List.replicate (c1.length : Int).toNat (0 : UInt8)).length : Nat) : Int)) Lc (fun _ => rfl) rfl rfl rfl Re (Hs rfl (Int.le_trans (Kp hc4).1.1 (Kp hc4).1.2.1)) (Hs rfl (Int.le_trans (Int.le_trans (Kp hc4).1.1 (Kp hc4).1.2.1) hs5.1)) hc4 hs5) ?_
 refine sv rfl (Ak rfl) (Ar (Bj ?_))
 obtain rfl := SJ h
 refine ⟨Or.inr rfl, _, _, _, (Ad (Bc.tmp _ _ rfl) Af), (Aj rfl), ?_⟩
 rfl
def D7 (a0 : Bn) (a1 : List UInt8) : Option (Bn × (List (List UInt8)) × Int) :=
 (Gv a0).bind fun v1 => if (!v1) then (some ((Bn.mk ([] : List UInt8) 0), ([] : List (List UInt8)), 1)) else (if (!decide (a0.Dead = 0)) then (some (a0, ([] : List (List UInt8)), 13)) else ((En [a0.Buf, a1]).bind fun v2 => (Mk v2).bind fun v3 => (Hl v3.2.2).bind fun v4 => if v4 then (some ((Bn.mk ([] : List UInt8) v3.2.2), v3.1, v3.2.2)) else ((Kn v2 v3.2.1).bind fun v5 => some ((Bn.mk v5 0), v3.1, 0))))
theorem T2 {a0 : Bn} {a1 : List UInt8} {r : Bn × (List (List UInt8)) × Int} (h : D7 a0 a1 = some r) : Bp Tryz.prog 45 [.agg (EL.el a0), .one (.sl a1.length (a1.flatMap eU8))] (· = .tup [.agg (EL.el r.1), .one (.sl r.2.1.length (r.2.1.flatMap (eL eU8))), .one (Ii6 r.2.2)]) := by
 unfold D7 at h
 refine A2 Tryz.func45 rfl (nt := 41) rfl (Nbl rfl) ?_
 intro w0 S0
 refine Aq (Ab (Je rfl rfl (Bz rfl Anl (sv rfl (Ak rfl) (sv rfl (Ak rfl) (Ar (Aq (Aq (Ab (sv rfl (Ao Ah0 rfl (.lp _ _ _ rfl) (Nbl rfl)) ?_))))))))))
 obtain ⟨v1, hv1, h⟩ := An h
 refine A1 rfl Asn (Ac rfl Al) (Aj rfl) (Mu hv1) (sv rfl (B8 rfl) (Ar (ccI h rfl (fun h => ?_) (fun h => ?_))))
 ·refine Aq (Ab (sv rfl (Bk Anl Aqq A9 (.nil _)) (Ax Alx rfl rfl rfl rfl (Nbl rfl) (Bt [.box (EL.el a0), .box [Znl, Ii6 0]] rfl (sv rfl (Ak rfl) (sv rfl (Ak rfl) (Ar (Bj (As ?_)))))))))
  obtain rfl := SJ h
  refine ⟨Or.inr rfl, _, _, _, (Ad (Bc.agg _ _ _ _ _ Ah0 rfl (.lp _ _ _ rfl) (Nbl rfl)) (Ad (Bc.tmp _ _ rfl) (Ad (Bc.tmp _ _ rfl) Af))), (Nl rfl), ?_⟩
  rfl
 ·refine Bl (Ai (Aq (Aq (Ab (sv rfl (Aa Agv rfl) (sv rfl (Ae Aaz rfl (.lp _ _ _ rfl) rfl) (sv rfl (Cd rfl rfl) (Ar (ccI h rfl (fun h => ?_) (fun h => ?_))))))))))
  ·refine Aq (Ab (sv rfl (Ao Ah0 rfl (.lp _ _ _ rfl) (Nbl rfl)) (Ax Alx rfl rfl rfl rfl (Nbl rfl) (Bt [.box (EL.el a0), .box (EL.el a0)] rfl (sv rfl (Ak rfl) (sv rfl (Ak rfl) (Ar (Bj (As ?_)))))))))
   obtain rfl := SJ h
   refine ⟨Or.inr rfl, _, _, _, (Ad (Bc.agg _ _ _ _ _ Ah0 rfl (.lp _ _ _ rfl) (Nbl rfl)) (Ad (Bc.tmp _ _ rfl) (Ad (Bc.tmp _ _ rfl) Af))), (Nl rfl), ?_⟩
   rfl
  ·refine Bl (Ai (Aq (Ab (sv rfl (Aa Ac7 rfl) (sv rfl (Ae L2 rfl (.lp _ _ _ rfl) rfl) (sv rfl (Ah rfl) ?_))))))
   refine Sp (out := ([a0.Buf, a1] : List (List UInt8)).flatMap (eL eU8)) rfl Tryz.underlying124 Anq (Ap rfl (Ap rfl A9)) (.cons _ _ _ _ _ _ _ rfl rfl (Nbl rfl) (.cons _ _ _ _ _ _ _ rfl rfl (Nbl rfl) (.nil _))) rfl (by decide) ?_
   refine Zf 22 rfl (by (repeat' first | exact J8.nil _ | apply J8.cons | apply Jv.one | apply Jv.agg | exact E4.nil | exact E4.ls _ _ _ _ _ _ rfl (Bf (f := (eL eU8)) (fun _ => rfl) ([a0.Buf, a1] : List (List UInt8))).symm | exact E4.ls _ _ _ _ _ _ rfl (Bf (f := (eL eU8)) (fun _ => rfl) _).symm | exact E4.id _ rfl | exact D2.nil _ | apply D2.cons)) ?_
   obtain ⟨v2, hv2, h⟩ := An h
   refine C2 (x' := .s (.one (.ls 3 v2.length))) (M' := [.box (EL.el a0), .box [Znl, Ii6 0], .arr 33 1 ([a0.Buf, a1].flatMap (eL eU8)).length ([a0.Buf, a1].flatMap (eL eU8)), .arr 5 1 0 (v2.flatMap eU8)]) [] rfl Aqg (.func _) (Ac rfl Al) (Ir hv2) rfl rfl (by decide) rfl rfl rfl ?_
   refine sv rfl (Ak rfl) (Ar (Aq (Ab (sv rfl (Ah rfl) ?_))))
   refine Zf 25 rfl (by (repeat' first | exact J8.nil _ | apply J8.cons | apply Jv.one | apply Jv.agg | exact E4.nil | exact E4.ls _ _ _ _ _ _ rfl (Bf (f := (eL eU8)) (fun _ => rfl) _).symm | exact E4.ls _ _ _ _ _ _ rfl (Bf (f := eU8) (fun _ => rfl) _).symm | exact E4.id _ rfl | exact D2.nil _ | apply D2.cons)) ?_
   obtain ⟨v3, hv3, h⟩ := An h
   refine A1 rfl Av9 (Ac rfl Al) (Aj rfl) (V4 hv3) (sv rfl (Fs rfl) (sv rfl (A7 rfl rfl) (sv rfl (A7 rfl rfl) (sv rfl (A7 rfl rfl) (sv rfl (Ak rfl) (sv rfl (Ak rfl) (sv rfl (Ak rfl) (Ar (Aq (Aq (Ab (sv rfl (Ah rfl) ?_))))))))))))
   obtain ⟨v4, hv4, h⟩ := An h
   refine A1 rfl Auf (Ac rfl Al) (Aj rfl) (N5 hv4) (Ar (ccI h rfl (fun h => ?_) (fun h => ?_)))
   ·refine Aq (Ab (sv rfl (Ah rfl) (sv rfl (Bk Anl Aqq (Ap rfl A9) (.cons _ _ _ _ _ _ _ rfl rfl (Nbl rfl) (.nil _))) (sv rfl (Ah rfl) (sv rfl (Ah rfl) (Ax Alx rfl rfl rfl rfl (Nbl rfl) (Bt [.box (EL.el a0), .box [Znl, Ii6 v3.2.2], .arr 33 1 ([a0.Buf, a1].flatMap (eL eU8)).length ([a0.Buf, a1].flatMap (eL eU8)), .arr 5 1 (v2.flatMap eU8).length (v2.flatMap eU8)] rfl (sv rfl (Ak rfl) (sv rfl (Ak rfl) (Ar (Bj (As ?_))))))))))))
    obtain rfl := SJ h
    refine ⟨Or.inr rfl, _, _, _, (Ad (Bc.agg _ _ _ _ _ Ah0 rfl (.lp _ _ _ rfl) (Nbl rfl)) (Ad (Bc.tmp _ _ rfl) (Ad (Bc.tmp _ _ rfl) Af))), (Nl rfl), ?_⟩
    rfl
   ·refine Bl (Ai (Aq (Ab (sv rfl (Ah rfl) (sv rfl (Ah rfl) ?_)))))
    refine Zf 36 rfl (by (repeat' first | exact J8.nil _ | apply J8.cons | apply Jv.one | apply Jv.agg | exact E4.nil | exact E4.ls _ _ _ _ _ _ rfl (Bf (f := (eL eU8)) (fun _ => rfl) _).symm | exact E4.ls _ _ _ _ _ _ rfl (Bf (f := eU8) (fun _ => rfl) _).symm | exact E4.id _ rfl | exact D2.nil _ | apply D2.cons)) ?_
    obtain ⟨v5, hv5, h⟩ := An h
    refine A1 rfl Au1 (Ac rfl (Ac rfl Al)) (Aj rfl) (Uj hv5) (sv rfl (Bk Anl Aqq (Ap rfl A9) (.cons _ _ _ _ _ _ _ rfl rfl (Nbl rfl) (.nil _))) (sv rfl (Ah rfl) (Ax Alx rfl rfl rfl rfl (Nbl rfl) (Bt [.box (EL.el a0), .box [.sl v5.length (v5.flatMap eU8), Ii6 0], .arr 33 1 ([a0.Buf, a1].flatMap (eL eU8)).length ([a0.Buf, a1].flatMap (eL eU8)), .arr 5 1 (v2.flatMap eU8).length (v2.flatMap eU8)] rfl (sv rfl (Ak rfl) (sv rfl (Ak rfl) (Ar (Bj ?_))))))))
    obtain rfl := SJ h
    refine ⟨Or.inr rfl, _, _, _, (Ad (Bc.agg _ _ _ _ _ Ah0 rfl (.lp _ _ _ rfl) (Nbl rfl)) (Ad (Bc.tmp _ _ rfl) (Ad (Bc.tmp _ _ rfl) Af))), (Aj rfl), ?_⟩
    rfl
def Fr (v1 : (BitVec 64) × Int × Int) (b2 : Int) : Option (Bool × Int × Int) :=
 some ((decide ((v1.1.toNat : Int) = (1 : Int))), b2, v1.2.2)
def Fw (a0 : Int) (a1 : Int) (a2 : List UInt8) : Option (Bool × Int × Int) :=
 (A3 1 a0 a1 a2).bind fun v1 => if (decide ((1 : Int) < (v1.1.toNat : Int))) then ((Bw 3 v1.2.1 v1.2.2 a2).bind fun v3 => Fr v1 v3) else (Fr v1 v1.2.1)
theorem P9 {a0 : Int} {a1 : Int} {a2 : List UInt8} {r : Bool × Int × Int} (h : Fw a0 a1 a2 = some r) : Gs Tryz.prog 95 [.box [.fn 112 [] [.lp 1 0, .lp 2 0], Ii6 a0], .box [Ii6 a1], .box [.sl a2.length (a2.flatMap eU8)]] [.one (.lp 0 0)] (fun y m' => y = .s (.one (.b r.1)) ∧ m' = [.box [.fn 112 [] [.lp 1 0, .lp 2 0], Ii6 r.2.1], .box [Ii6 r.2.2], .box [.sl a2.length (a2.flatMap eU8)]]) := by
 unfold Fw at h
 refine Cv Tryz.func95 rfl (nt := 12) rfl (Nbl rfl) ?_
 intro w0 S0 X0 H0
 refine Aq (Ab (sv rfl (Ak rfl) (Ar (Aq (Ab (sv rfl (Ah rfl) ?_))))))
 obtain ⟨v1, hv1, h⟩ := An h
 refine C2 (x' := .s (.one (.i .u64 (v1.1.toNat : Int)))) (M' := [.box [.fn 112 [] [.lp 1 0, .lp 2 0], Ii6 v1.2.1], .box [Ii6 v1.2.2], .box [.sl a2.length (a2.flatMap eU8)]]) [0, 1, 2] rfl Ah4 (.func _) (Ac rfl (Ac rfl Al)) (Cx hv1) rfl rfl (by decide) rfl rfl rfl ?_
 refine sv rfl (Ak rfl) (Ar (Aq (Aq (Ab (sv rfl (Ah rfl) (sv rfl (Dg rfl rfl) (Ar (G5 (Int) (fun b2 => [(3, .s (.one (.i .u64 (v1.1.toNat : Int))))]) (fun b2 => [.box [.fn 112 [] [.lp 1 0, .lp 2 0], Ii6 b2], .box [Ii6 v1.2.2], .box [.sl a2.length (a2.flatMap eU8)]]) (fun b2 => Fr v1 b2 = some r) (fun _ _ => Bg rfl) (fun _ _ => A0 rfl) (fun _ _ => Nbl rfl) (fun b2 h => ?_) ?_))))))))
 ·unfold Fr at h
  refine Aq (Ab (sv rfl (Ah rfl) (sv rfl (Bo rfl rfl) (sv rfl (Ak rfl) (Ar (Bj ?_))))))
  obtain rfl := SJ h
  exact ⟨Or.inr rfl, _, [0, 1, 2], [.one (.b (decide ((v1.1.toNat : Int) = (1 : Int))))], [.box [.fn 112 [] [.lp 1 0, .lp 2 0], Ii6 b2], .box [Ii6 v1.2.2], .box [.sl a2.length (a2.flatMap eU8)]], (Ad (Bc.tmp _ _ rfl) Af), rfl, rfl, ⟨by decide, rfl⟩, rfl, rfl, ⟨rfl, rfl⟩⟩
 ·skip
  refine ccI h rfl (fun h => ?_) (fun h => ?_)
  ·refine Ab (sv rfl (Ah rfl) ?_)
   obtain ⟨v3, hv3, h⟩ := An h
   refine C2 (x' := .tup []) (M' := [.box [.fn 112 [] [.lp 1 0, .lp 2 0], Ii6 v3], .box [Ii6 v1.2.2], .box [.sl a2.length (a2.flatMap eU8)]]) [0, 1, 2] rfl Al0 (.func _) (Ac rfl (Ac rfl Al)) (Dv hv3) rfl rfl (by decide) rfl rfl rfl ?_
   refine Ar ?_
   exact ⟨v3, _, h, ⟨rfl, trivial⟩, rfl⟩
  ·refine Bl (Ai ?_)
   exact ⟨v1.2.1, _, h, ⟨rfl, trivial⟩, rfl⟩
def Hq (a0 : List UInt8) : Option (List UInt8) :=
 if (([] : List UInt8).length + a0.length) * 1 ≤ 140737488355328 then (some (([] : List UInt8) ++ a0)) else none
theorem Sj {a0 : List UInt8} {r : (List UInt8)} (h : Hq a0 = some r) : Gs Tryz.prog 85 [] [.one (.sl a0.length (a0.flatMap eU8))] (fun y m' => y = .s (.one (.ls 0 r.length)) ∧ m' = [.arr 5 1 0 (r.flatMap eU8)]) := by
 unfold Hq at h
 refine Cv Tryz.func85 rfl (nt := 8) rfl (Nbl rfl) ?_
 intro w0 S0 X0 H0
 refine Aq (Ab (sv rfl (Ak rfl) (Ar (Aq (Aq (Ab (sv rfl (Ah rfl) (Amh rfl Tryz.underlying33 rfl (fun nq hnq => ?_)))))))))
 cases nq
 ·skip
  refine Ar (Hy rfl (fun hx => Bool.noConfusion hx) (fun _ => ?_))
  refine Bl (Ai (Aq (Ab (Abt rfl Tryz.underlying33 ei5 (sv rfl (Ah rfl) ?_)))))
  obtain ⟨hb1, h⟩ := D4 h
  refine Ah2 (f := eU8) (xs := ([] : List UInt8)) (us := a0) rfl Tryz.underlying33 ei5 Arq (fun _ => rfl) rfl rfl (.one _ _ _ _ (.id _ rfl)) rfl rfl rfl (.sl _ _ _ (Bf (f := eU8) (fun _ => rfl) _)) rfl rfl hb1 (by decide) ?_
  refine sv rfl (Ak rfl) (Ar (Bj ?_))
  obtain rfl := SJ h
  exact ⟨Or.inr rfl, _, [0], [.one (.ls 0 (([] : List UInt8) ++ a0).length)], [.arr 5 1 0 ((([] : List UInt8) ++ a0).flatMap eU8)], (Ad (Bc.tmp _ _ rfl) Af), rfl, rfl, ⟨by decide, rfl⟩, rfl, rfl, ⟨rfl, rfl⟩⟩
 ·obtain rfl := List.eq_nil_of_length_eq_zero (hnq rfl)
  replace h : (some ([] : List UInt8)) = some r := by first | exact h | (rw [if_pos (by decide)] at h; exact h)
  refine Ar (Hy rfl (fun _ => ?_) (fun hx => Bool.noConfusion hx))
  refine Aq (Ab (sv rfl (Ak rfl) (Ar ?_)))
  refine Ov 5 1 2 (by decide) rfl ?_
  refine Bj (As ?_)
  obtain rfl := SJ h
  exact ⟨Or.inr rfl, _, [0], [.one (.ls 0 ([] : List UInt8).length)], [.arr 5 1 0 (([] : List UInt8).flatMap eU8)], (Ad (Bc.tmp _ _ rfl) Af), rfl, rfl, ⟨by decide, rfl⟩, rfl, rfl, ⟨rfl, rfl⟩⟩
def Cr (a0 : Int) (a1 : Int) (a2 : Int) (a3 : List UInt8) : Option ((List UInt8) × Int × Int) :=
 (A3 2 a1 a2 a3).bind fun v1 => (Br v1.2.1 v1.2.2 a3).bind fun v2 => if (!decide (v2 = 0)) then (some (([] : List UInt8), v1.2.1, v1.2.2)) else (if (decide (a0 < (wI (v1.1.toNat : Int)))) then ((Bw 5 v1.2.1 v1.2.2 a3).bind fun v3 => some (([] : List UInt8), v3, v1.2.2)) else ((Cm (wI (v1.1.toNat : Int)) v1.2.1 v1.2.2 a3).bind fun v4 => (Hq v4.1).bind fun v5 => some (v5, v4.2.1, v4.2.2)))
theorem Ke {a0 : Int} {a1 : Int} {a2 : Int} {a3 : List UInt8} {r : (List UInt8) × Int × Int} (h : Cr a0 a1 a2 a3 = some r) : Gs Tryz.prog 96 [.box [.fn 112 [] [.lp 1 0, .lp 2 0], Ii6 a1], .box [Ii6 a2], .box [.sl a3.length (a3.flatMap eU8)]] [.one (.lp 0 0), .one (Ii6 a0)] (fun y m' => y = .s (.one (.sl r.1.length (r.1.flatMap eU8))) ∧ m' = [.box [.fn 112 [] [.lp 1 0, .lp 2 0], Ii6 r.2.1], .box [Ii6 r.2.2], .box [.sl a3.length (a3.flatMap eU8)]]) := by
 unfold Cr at h
 refine Cv Tryz.func96 rfl (nt := 21) rfl (Nbl rfl) ?_
 intro w0 S0 X0 H0
 refine Aq (Ab (sv rfl (Ak rfl) (Ar (Aq (Ab (sv rfl (Ah rfl) ?_))))))
 obtain ⟨v1, hv1, h⟩ := An h
 refine C2 (x' := .s (.one (.i .u64 (v1.1.toNat : Int)))) (M' := [.box [.fn 112 [] [.lp 1 0, .lp 2 0], Ii6 v1.2.1], .box [Ii6 v1.2.2], .box [.sl a3.length (a3.flatMap eU8)]]) [0, 1, 2] rfl Ah4 (.func _) (Ac rfl (Ac rfl Al)) (Cx hv1) rfl rfl (by decide) rfl rfl rfl ?_
 refine sv rfl (Fx Tryz.underlying112 Tryz.underlying3 rfl) (sv rfl (Ak rfl) (Ar (Aq (Aq (Ab (sv rfl (Ah rfl) ?_))))))
 obtain ⟨v2, hv2, h⟩ := An h
 refine C2 (x' := .s (.one (Ii6 v2))) (M' := [.box [.fn 112 [] [.lp 1 0, .lp 2 0], Ii6 v1.2.1], .box [Ii6 v1.2.2], .box [.sl a3.length (a3.flatMap eU8)]]) [0, 1, 2] rfl Ai8 (.func _) (Ac rfl Al) (H8 hv2) rfl rfl (by decide) rfl rfl rfl ?_
 refine sv rfl (Cd rfl rfl) (Ar (ccI h rfl (fun h => ?_) (fun h => ?_)))
 ·refine Aq (Ab (sv rfl (Ak rfl) (Ar ?_)))
  refine Anp 4 rfl (by (repeat' first | exact J8.nil _ | apply J8.cons | apply Jv.one | apply Jv.agg | exact E4.nil | exact E4.id _ rfl | exact D2.nil _ | apply D2.cons)) ?_
  refine Bj (As ?_)
  obtain rfl := SJ h
  exact ⟨Or.inr rfl, _, [0, 1, 2], [.one (.sl ([] : List UInt8).length (([] : List UInt8).flatMap eU8))], [.box [.fn 112 [] [.lp 1 0, .lp 2 0], Ii6 v1.2.1], .box [Ii6 v1.2.2], .box [.sl a3.length (a3.flatMap eU8)]], (Ad (Bc.tmp _ _ rfl) Af), rfl, rfl, ⟨by decide, rfl⟩, rfl, rfl, ⟨rfl, rfl⟩⟩
 ·refine Bl (Ai (Aq (Aq (Ab (sv rfl (Ah rfl) (sv rfl (Ah rfl) (sv rfl (Dg rfl rfl) (Ar (ccI h rfl (fun h => ?_) (fun h => ?_))))))))))
  ·refine Aq (Ab (sv rfl (Ah rfl) ?_))
   obtain ⟨v3, hv3, h⟩ := An h
   refine C2 (x' := .tup []) (M' := [.box [.fn 112 [] [.lp 1 0, .lp 2 0], Ii6 v3], .box [Ii6 v1.2.2], .box [.sl a3.length (a3.flatMap eU8)]]) [0, 1, 2] rfl Al0 (.func _) (Ac rfl (Ac rfl Al)) (Dv hv3) rfl rfl (by decide) rfl rfl rfl ?_
   refine Ar (Aq (Ab (sv rfl (Ak rfl) (Ar ?_))))
   refine Anp 4 rfl (by (repeat' first | exact J8.nil _ | apply J8.cons | apply Jv.one | apply Jv.agg | exact E4.nil | exact E4.id _ rfl | exact D2.nil _ | apply D2.cons)) ?_
   refine Bj (As ?_)
   obtain rfl := SJ h
   exact ⟨Or.inr rfl, _, [0, 1, 2], [.one (.sl ([] : List UInt8).length (([] : List UInt8).flatMap eU8))], [.box [.fn 112 [] [.lp 1 0, .lp 2 0], Ii6 v3], .box [Ii6 v1.2.2], .box [.sl a3.length (a3.flatMap eU8)]], (Ad (Bc.tmp _ _ rfl) Af), rfl, rfl, ⟨by decide, rfl⟩, rfl, rfl, ⟨rfl, rfl⟩⟩
  ·refine Bl (Ai (Aq (Ab (sv rfl (Ah rfl) (sv rfl (Ah rfl) ?_)))))
   obtain ⟨v4, hv4, h⟩ := An h
   refine C2 (x' := .s (.one (.sl v4.1.length (v4.1.flatMap eU8)))) (M' := [.box [.fn 112 [] [.lp 1 0, .lp 2 0], Ii6 v4.2.1], .box [Ii6 v4.2.2], .box [.sl a3.length (a3.flatMap eU8)]]) [0, 1, 2] rfl Apu (.func _) (Ac rfl (Ac rfl Al)) (Mh hv4) rfl rfl (by decide) rfl rfl rfl ?_
   obtain ⟨v5, hv5, h⟩ := An h
   refine C2 (x' := .s (.one (.ls 3 v5.length))) (M' := [.box [.fn 112 [] [.lp 1 0, .lp 2 0], Ii6 v4.2.1], .box [Ii6 v4.2.2], .box [.sl a3.length (a3.flatMap eU8)], .arr 5 1 0 (v5.flatMap eU8)]) [] rfl At7 (.func _) (Ac rfl Al) (Sj hv5) rfl rfl (by decide) rfl rfl rfl ?_
   refine sv rfl (Ak rfl) (Ar ?_)
   refine Anp 4 rfl (by (repeat' first | exact J8.nil _ | apply J8.cons | apply Jv.one | apply Jv.agg | exact E4.nil | exact E4.ls _ _ _ _ _ _ rfl (Bf (f := eU8) (fun _ => rfl) _).symm | exact E4.id _ rfl | exact D2.nil _ | apply D2.cons)) ?_
   refine Bj ?_
   obtain rfl := SJ h
   exact ⟨Or.inr rfl, _, [0, 1, 2], [.one (.sl v5.length (v5.flatMap eU8))], [.box [.fn 112 [] [.lp 1 0, .lp 2 0], Ii6 v4.2.1], .box [Ii6 v4.2.2], .box [.sl a3.length (a3.flatMap eU8)]], (Ad (Bc.tmp _ _ rfl) Af), rfl, rfl, ⟨by decide, rfl⟩, rfl, rfl, ⟨rfl, rfl⟩⟩
def Iy (b3 : Int × Int × (List C9)) : Option ((List C9) × Int × Int) :=
 some (b3.2.2, b3.1, b3.2.1)
def Dm (a2 : List UInt8) (v1 : (BitVec 64) × Int × Int) (s4 : Int × Int × Int × (List C9)) : Option (LB (Int × Int × Int × (List C9)) (Int × Int × (List C9))) :=
 if (decide (s4.1 < (wI (v1.1.toNat : Int)))) then ((Cr 16 s4.2.1 s4.2.2.1 a2).bind fun v5 => (Cr 32 v5.2.1 v5.2.2 a2).bind fun v6 => if (s4.2.2.2.length + [(C9.mk v5.1 v6.1)].length) * 48 ≤ 140737488355328 then (some (.cont ((wI (s4.1 + 1)), v6.2.1, v6.2.2, (s4.2.2.2 ++ [(C9.mk v5.1 v6.1)])))) else none) else (some (.brk (s4.2.1, s4.2.2.1, s4.2.2.2)))
def I9 (a0 : Int) (a1 : Int) (a2 : List UInt8) : Option ((List C9) × Int × Int) :=
 (A3 1 a0 a1 a2).bind fun v1 => if (decide (8 < (wI (v1.1.toNat : Int)))) then ((Bw 5 v1.2.1 v1.2.2 a2).bind fun v2 => some (([] : List C9), v2, v1.2.2)) else ((Ez (Dm a2 v1) fuel (0, v1.2.1, v1.2.2, ([] : List C9))).bind fun e8 => Iy e8)
theorem S4 {a0 : Int} {a1 : Int} {a2 : List UInt8} {r : (List C9) × Int × Int} (h : I9 a0 a1 a2 = some r) : Gs Tryz.prog 97 [.box [.fn 112 [] [.lp 1 0, .lp 2 0], Ii6 a0], .box [Ii6 a1], .box [.sl a2.length (a2.flatMap eU8)]] [.one (.lp 0 0)] (fun y m' => y = .s (.one (.sl r.1.length (r.1.flatMap Dr))) ∧ m' = [.box [.fn 112 [] [.lp 1 0, .lp 2 0], Ii6 r.2.1], .box [Ii6 r.2.2], .box [.sl a2.length (a2.flatMap eU8)]]) := by
 unfold I9 at h
 refine Cv Tryz.func97 rfl (nt := 25) rfl (Nbl rfl) ?_
 intro w0 S0 X0 H0
 refine Aq (Ab (sv rfl (Ak rfl) (Ar (Aq (Ab (sv rfl (Ah rfl) ?_))))))
 obtain ⟨v1, hv1, h⟩ := An h
 refine C2 (x' := .s (.one (.i .u64 (v1.1.toNat : Int)))) (M' := [.box [.fn 112 [] [.lp 1 0, .lp 2 0], Ii6 v1.2.1], .box [Ii6 v1.2.2], .box [.sl a2.length (a2.flatMap eU8)]]) [0, 1, 2] rfl Ah4 (.func _) (Ac rfl (Ac rfl Al)) (Cx hv1) rfl rfl (by decide) rfl rfl rfl ?_
 refine sv rfl (Fx Tryz.underlying112 Tryz.underlying3 rfl) (sv rfl (Ak rfl) (Ar (Aq (Aq (Ab (sv rfl (Ah rfl) (sv rfl (Dg rfl rfl) (Ar (ccI h rfl (fun h => ?_) (fun h => ?_))))))))))
 ·refine Aq (Ab (sv rfl (Ah rfl) ?_))
  obtain ⟨v2, hv2, h⟩ := An h
  refine C2 (x' := .tup []) (M' := [.box [.fn 112 [] [.lp 1 0, .lp 2 0], Ii6 v2], .box [Ii6 v1.2.2], .box [.sl a2.length (a2.flatMap eU8)]]) [0, 1, 2] rfl Al0 (.func _) (Ac rfl (Ac rfl Al)) (Dv hv2) rfl rfl (by decide) rfl rfl rfl ?_
  refine Ar (Aq (Ab (sv rfl (Ak rfl) (Ar ?_))))
  refine Anp 2 rfl (by (repeat' first | exact J8.nil _ | apply J8.cons | apply Jv.one | apply Jv.agg | exact E4.nil | exact E4.id _ rfl | exact D2.nil _ | apply D2.cons)) ?_
  refine Bj (As ?_)
  obtain rfl := SJ h
  exact ⟨Or.inr rfl, _, [0, 1, 2], [.one (.sl ([] : List C9).length (([] : List C9).flatMap Dr))], [.box [.fn 112 [] [.lp 1 0, .lp 2 0], Ii6 v2], .box [Ii6 v1.2.2], .box [.sl a2.length (a2.flatMap eU8)]], (Ad (Bc.tmp _ _ rfl) Af), rfl, rfl, ⟨by decide, rfl⟩, rfl, rfl, ⟨rfl, rfl⟩⟩
 ·refine Bl (Ai (Aq (Ab (sv rfl (Ak rfl) (Ar (Aq (Aq (Ab (sv rfl (Ah rfl) (sv rfl (Ah rfl) (Ar ?_)))))))))))
  refine Ov 116 2 4 (by decide) rfl ?_
  refine G5 (Int × Int × (List C9)) (fun b3 => [(4, .s (.one (.ls 3 b3.2.2.length)))]) (fun b3 => [.box [.fn 112 [] [.lp 1 0, .lp 2 0], Ii6 b3.1], .box [Ii6 b3.2.1], .box [.sl a2.length (a2.flatMap eU8)], .arr 116 2 0 (b3.2.2.flatMap Dr)]) (fun b3 => Iy b3 = some r) (fun _ _ => Bg rfl) (fun _ _ => A0 rfl) (fun _ _ => Nbl rfl) (fun b3 h => ?_) ?_
  ·unfold Iy at h
   refine Aq (Ab (sv rfl (Ah rfl) (sv rfl (Ak rfl) (Ar ?_))))
   refine Anp 2 rfl (by (repeat' first | exact J8.nil _ | apply J8.cons | apply Jv.one | apply Jv.agg | exact E4.nil | exact E4.ls _ _ _ _ _ _ rfl (Bf (f := Dr) (fun _ => rfl) _).symm | exact E4.id _ rfl | exact D2.nil _ | apply D2.cons)) ?_
   refine Bj ?_
   obtain rfl := SJ h
   exact ⟨Or.inr rfl, _, [0, 1, 2], [.one (.sl b3.2.2.length (b3.2.2.flatMap Dr))], [.box [.fn 112 [] [.lp 1 0, .lp 2 0], Ii6 b3.1], .box [Ii6 b3.2.1], .box [.sl a2.length (a2.flatMap eU8)]], (Ad (Bc.tmp _ _ rfl) Af), rfl, rfl, ⟨by decide, rfl⟩, rfl, rfl, ⟨rfl, rfl⟩⟩
  ·skip
   refine Ca ?_
   obtain ⟨x4, hx4, ho4⟩ := An h
   refine De (G := Nat × (Int × Int × Int × (List C9))) (fun g => [(0, .s (.one (.lp 0 0))), (4, .s (.one (.ls 3 g.2.2.2.2.length))), (12, .s (.one (Ii6 (wI (v1.1.toNat : Int))))), (13, .s (.one (Ii6 g.2.1)))]) (fun g => [.box [.fn 112 [] [.lp 1 0, .lp 2 0], Ii6 g.2.2.1], .box [Ii6 g.2.2.2.1], .box [.sl a2.length (a2.flatMap eU8)], .arr 116 2 0 (g.2.2.2.2.flatMap Dr)]) (fun g => Ez (Dm a2 v1) g.1 g.2 = some x4) (fun g => g.1) (fuel, (0, v1.2.1, v1.2.2, ([] : List C9))) hx4 ⟨rfl, rfl, rfl, rfl, trivial⟩ [] rfl (fun _ _ => Bg rfl) (fun _ _ => A0 rfl) (fun _ _ => Nbl rfl) ?_
   clear hx4 h
   rintro ⟨n4, s4⟩ h
   obtain ⟨n4, y4, rfl, h, hk4⟩ := Gp h
   unfold Dm at h
   refine Aq (Ab (sv rfl (Cs rfl rfl) (Ar (Aq (ccI h rfl (fun h => ?_) (fun h => ?_))))))
   ·refine Bl (Ai (Aq (Ca (Ab (sv rfl (Ah rfl) (sv rfl (Ah rfl) ?_))))))
    obtain ⟨v5, hv5, h⟩ := An h
    refine C2 (x' := .s (.one (.sl v5.1.length (v5.1.flatMap eU8)))) (M' := [.box [.fn 112 [] [.lp 1 0, .lp 2 0], Ii6 v5.2.1], .box [Ii6 v5.2.2], .box [.sl a2.length (a2.flatMap eU8)], .arr 116 2 0 (s4.2.2.2.flatMap Dr)]) [0, 1, 2] rfl Asl (.func _) (Ac rfl (Ac rfl Al)) (Ke hv5) rfl rfl (by decide) rfl rfl rfl ?_
    refine sv rfl (Ah rfl) ?_
    obtain ⟨v6, hv6, h⟩ := An h
    refine C2 (x' := .s (.one (.sl v6.1.length (v6.1.flatMap eU8)))) (M' := [.box [.fn 112 [] [.lp 1 0, .lp 2 0], Ii6 v6.2.1], .box [Ii6 v6.2.2], .box [.sl a2.length (a2.flatMap eU8)], .arr 116 2 0 (s4.2.2.2.flatMap Dr)]) [0, 1, 2] rfl Asl (.func _) (Ac rfl (Ac rfl Al)) (Ke hv6) rfl rfl (by decide) rfl rfl rfl ?_
    refine sv rfl (Bk Aia Ate (Ap rfl (Ap rfl A9)) (.cons _ _ _ _ _ _ _ rfl rfl (Nbl rfl) (.cons _ _ _ _ _ _ _ rfl rfl (Nbl rfl) (.nil _)))) ?_
    refine Qy rfl Tryz.underlying53 Aor rfl rfl (List.all_eq_true.1 rfl) (by decide) ?_
    refine Bt [.box [.fn 112 [] [.lp 1 0, .lp 2 0], Ii6 v6.2.1], .box [Ii6 v6.2.2], .box [.sl a2.length (a2.flatMap eU8)], .arr 116 2 0 (s4.2.2.2.flatMap Dr), .arr 116 2 0 ([(C9.mk v5.1 v6.1)].flatMap Dr)] rfl ?_
    obtain ⟨hb7, h⟩ := D4 h
    refine Ah2 (f := Dr) (xs := s4.2.2.2) (us := [(C9.mk v5.1 v6.1)]) rfl Tryz.underlying53 Aor Av0 (fun _ => rfl) rfl rfl (.one _ _ _ _ (.ls _ _ _ _ _ _ rfl (Bf (f := Dr) (fun _ => rfl) [(C9.mk v5.1 v6.1)]).symm)) rfl rfl rfl (.sl _ _ _ (Bf (f := Dr) (fun _ => rfl) _)) rfl rfl hb7 (by decide) ?_
    refine sv rfl (Ak rfl) (Ls (A5 (Ai (Ab (sv rfl (B9 rfl rfl) (sv rfl (Ah rfl) (Ar ?_)))))))
    obtain rfl := SJ h
    exact ⟨(n4, ((wI (s4.1 + 1)), v6.2.1, v6.2.2, (s4.2.2.2 ++ [(C9.mk v5.1 v6.1)]))), _, hk4, ⟨rfl, rfl, rfl, rfl, trivial⟩, rfl, Nat.lt_succ_self _⟩
   ·refine Lw (Bi (Bi (Ck (Ai ?_))))
    obtain rfl := SJ h
    obtain rfl : _ = x4 := hk4
    exact ⟨(s4.2.1, s4.2.2.1, s4.2.2.2), _, ho4, ⟨rfl, trivial⟩, rfl⟩
def E7 (a0 : Int) (a1 : Int) (a2 : List UInt8) : Option (Int × Int) :=
 (Br a0 a1 a2).bind fun v1 => if (!decide (v1 = 0)) then (some (v1, a1)) else ((Dt a0 a1 a2).bind fun v2 => if (decide (0 < (v2.2.1.length : Int))) then (some (3, v2.2.2)) else (some (0, v2.2.2)))
theorem Q3 {a0 : Int} {a1 : Int} {a2 : List UInt8} {r : Int × Int} (h : E7 a0 a1 a2 = some r) : Gs Tryz.prog 98 [.box [.fn 112 [] [.lp 1 0, .lp 2 0], Ii6 a0], .box [Ii6 a1], .box [.sl a2.length (a2.flatMap eU8)]] [.one (.lp 0 0)] (fun y m' => y = .s (.one (Ii6 r.1)) ∧ m' = [.box [.fn 112 [] [.lp 1 0, .lp 2 0], Ii6 a0], .box [Ii6 r.2], .box [.sl a2.length (a2.flatMap eU8)]]) := by
 unfold E7 at h
 refine Cv Tryz.func98 rfl (nt := 19) rfl (Nbl rfl) ?_
 intro w0 S0 X0 H0
 refine Aq (Ab (sv rfl (Ak rfl) (Ar (Aq (Aq (Ab (sv rfl (Ah rfl) ?_)))))))
 obtain ⟨v1, hv1, h⟩ := An h
 refine C2 (x' := .s (.one (Ii6 v1))) (M' := [.box [.fn 112 [] [.lp 1 0, .lp 2 0], Ii6 a0], .box [Ii6 a1], .box [.sl a2.length (a2.flatMap eU8)]]) [0, 1, 2] rfl Ai8 (.func _) (Ac rfl Al) (H8 hv1) rfl rfl (by decide) rfl rfl rfl ?_
 refine sv rfl (Ak rfl) (Ar (Aq (Ab (sv rfl (Ah rfl) (sv rfl (Cd rfl rfl) (Ar (ccI h rfl (fun h => ?_) (fun h => ?_))))))))
 ·refine Aq (Ab (sv rfl (Ah rfl) (sv rfl (Ak rfl) (Ar (Bj (As ?_))))))
  obtain rfl := SJ h
  exact ⟨Or.inr rfl, _, [0, 1, 2], [.one (Ii6 v1)], [.box [.fn 112 [] [.lp 1 0, .lp 2 0], Ii6 a0], .box [Ii6 a1], .box [.sl a2.length (a2.flatMap eU8)]], (Ad (Bc.tmp _ _ rfl) Af), rfl, rfl, ⟨by decide, rfl⟩, rfl, rfl, ⟨rfl, rfl⟩⟩
 ·refine Bl (Ai (Aq (Aq (Ab (sv rfl (Ah rfl) ?_)))))
  obtain ⟨v2, hv2, h⟩ := An h
  refine C2 (x' := .tup [.one (Ii6 v2.1), .one (.sl v2.2.1.length (v2.2.1.flatMap eU8))]) (M' := [.box [.fn 112 [] [.lp 1 0, .lp 2 0], Ii6 a0], .box [Ii6 v2.2.2], .box [.sl a2.length (a2.flatMap eU8)]]) [0, 1, 2] rfl Apl (.func _) (Ac rfl Al) (Ma hv2) rfl rfl (by decide) rfl rfl rfl ?_
  refine sv rfl (Fs rfl) (sv rfl (A7 rfl rfl) (sv rfl (A7 rfl rfl) (sv rfl (Ak rfl) (sv rfl (Ak rfl) (Ar (Aq (Ab (sv rfl (Ah rfl) (sv rfl (Az Lc rfl) (sv rfl (Dg rfl rfl) (Ar (ccI h rfl (fun h => ?_) (fun h => ?_)))))))))))))
  ·refine Aq (Ab (sv rfl (Ak rfl) (Ar (Bj (As ?_)))))
   obtain rfl := SJ h
   exact ⟨Or.inr rfl, _, [0, 1, 2], [.one (Ii6 3)], [.box [.fn 112 [] [.lp 1 0, .lp 2 0], Ii6 a0], .box [Ii6 v2.2.2], .box [.sl a2.length (a2.flatMap eU8)]], (Ad (Bc.tmp _ _ rfl) Af), rfl, rfl, ⟨by decide, rfl⟩, rfl, rfl, ⟨rfl, rfl⟩⟩
  ·refine Bl (Ai (Aq (Ab (sv rfl (Ak rfl) (Ar (Bj ?_))))))
   obtain rfl := SJ h
   exact ⟨Or.inr rfl, _, [0, 1, 2], [.one (Ii6 0)], [.box [.fn 112 [] [.lp 1 0, .lp 2 0], Ii6 a0], .box [Ii6 v2.2.2], .box [.sl a2.length (a2.flatMap eU8)]], (Ad (Bc.tmp _ _ rfl) Af), rfl, rfl, ⟨by decide, rfl⟩, rfl, rfl, ⟨rfl, rfl⟩⟩
def Eh (v1 : Int × Int × (List UInt8)) (v2 : (BitVec 64) × Int × Int) (v3 : (BitVec 64) × Int × Int) (b4 : Int) : Option (Be × Int) :=
 (A3 1 b4 v3.2.2 v1.2.2).bind fun v5 => (A3 8 v5.2.1 v5.2.2 v1.2.2).bind fun v6 => (Fw v6.2.1 v6.2.2 v1.2.2).bind fun v7 => (Cr 32 v7.2.1 v7.2.2 v1.2.2).bind fun v8 => (I9 v8.2.1 v8.2.2 v1.2.2).bind fun v9 => (E7 v9.2.1 v9.2.2 v1.2.2).bind fun v10 => if (!decide (v10.1 = 0)) then (some (Xn, v10.1)) else ((Fh (Be.mk (wI (v2.1.toNat : Int)) (wI (v3.1.toNat : Int)) (wI (v5.1.toNat : Int)) (wI (v6.1.toNat : Int)) v7.1 v8.1 v9.1)).bind fun v11 => if (!v11) then (some (Xn, 3)) else (some ((Be.mk (wI (v2.1.toNat : Int)) (wI (v3.1.toNat : Int)) (wI (v5.1.toNat : Int)) (wI (v6.1.toNat : Int)) v7.1 v8.1 v9.1), 0)))
def Fd (a0 : List UInt8) : Option (Be × Int) :=
 (Jg a0).bind fun v1 => (A3 1 v1.1 v1.2.1 v1.2.2).bind fun v2 => (A3 4 v2.2.1 v2.2.2 v1.2.2).bind fun v3 => if (!decide ((wI (v2.1.toNat : Int)) = 0)) then ((Hk (wI (v2.1.toNat : Int))).bind fun v12 => if (!v12) then ((Bw 3 v3.2.1 v3.2.2 v1.2.2).bind fun v13 => Eh v1 v2 v3 v13) else (Eh v1 v2 v3 v3.2.1)) else (Eh v1 v2 v3 v3.2.1)
theorem Sg {a0 : List UInt8} {r : Be × Int} (h : Fd a0 = some r) : Bp Tryz.prog 78 [.one (.sl a0.length (a0.flatMap eU8))] (· = .tup [.agg (EL.el r.1), .one (Ii6 r.2)]) := by
 unfold Fd at h
 refine A2 Tryz.func78 rfl (nt := 55) rfl (Nbl rfl) ?_
 intro w0 S0
 refine Aq (Ab (Bz rfl Aki (sv rfl (Ak rfl) (Ar (Aq (Ab (sv rfl (Ah rfl) ?_)))))))
 obtain ⟨v1, hv1, h⟩ := An h
 refine C2 (x' := .s (.one (.lp 1 0))) (M' := [.box Zbd, .box [.fn 112 [] [.lp 2 0, .lp 3 0], Ii6 v1.1], .box [Ii6 v1.2.1], .box [.sl v1.2.2.length (v1.2.2.flatMap eU8)]]) [] rfl Asg (.func _) (Ac rfl Al) (Oy hv1) rfl rfl (by decide) rfl rfl rfl ?_
 refine sv rfl (Ak rfl) (Ar (Aq (Ab (sv rfl (Ah rfl) ?_))))
 obtain ⟨v2, hv2, h⟩ := An h
 refine C2 (x' := .s (.one (.i .u64 (v2.1.toNat : Int)))) (M' := [.box Zbd, .box [.fn 112 [] [.lp 2 0, .lp 3 0], Ii6 v2.2.1], .box [Ii6 v2.2.2], .box [.sl v1.2.2.length (v1.2.2.flatMap eU8)]]) [1, 2, 3] rfl Ah4 (.func _) (Ac rfl (Ac rfl Al)) (Cx hv2) rfl rfl (by decide) rfl rfl rfl ?_
 refine sv rfl (Fx Tryz.underlying112 Tryz.underlying3 rfl) (sv rfl (Ah rfl) ?_)
 obtain ⟨v3, hv3, h⟩ := An h
 refine C2 (x' := .s (.one (.i .u64 (v3.1.toNat : Int)))) (M' := [.box Zbd, .box [.fn 112 [] [.lp 2 0, .lp 3 0], Ii6 v3.2.1], .box [Ii6 v3.2.2], .box [.sl v1.2.2.length (v1.2.2.flatMap eU8)]]) [1, 2, 3] rfl Ah4 (.func _) (Ac rfl (Ac rfl Al)) (Cx hv3) rfl rfl (by decide) rfl rfl rfl ?_
 refine sv rfl (Fx Tryz.underlying112 Tryz.underlying3 rfl) (sv rfl (Bk Aki Aqk (Ap rfl (Ap rfl A9)) (.cons _ _ _ _ _ _ _ rfl rfl (Nbl rfl) (.cons _ _ _ _ _ _ _ rfl rfl (Nbl rfl) (.nil _)))) (Bz rfl Aki (Ax Anu rfl rfl rfl rfl (Nbl rfl) (Bt [.box Zbd, .box [.fn 112 [] [.lp 2 0, .lp 3 0], Ii6 v3.2.1], .box [Ii6 v3.2.2], .box [.sl v1.2.2.length (v1.2.2.flatMap eU8)], .box [Ii6 (wI (v2.1.toNat : Int)), Ii6 (wI (v3.1.toNat : Int)), Ii6 0, Ii6 0, .b false, Znl, Znl]] rfl (Ar (Aq (Aq (Ki (Int) (fun b4 => [(2, .s (.one (.lp 0 0))), (4, .s (.one (.lp 1 0))), (5, .s (.one (.lp 4 0)))]) (fun b4 => [.box Zbd, .box [.fn 112 [] [.lp 2 0, .lp 3 0], Ii6 b4], .box [Ii6 v3.2.2], .box [.sl v1.2.2.length (v1.2.2.flatMap eU8)], .box [Ii6 (wI (v2.1.toNat : Int)), Ii6 (wI (v3.1.toNat : Int)), Ii6 0, Ii6 0, .b false, Znl, Znl]]) (fun b4 => Eh v1 v2 v3 b4 = some r) (fun _ _ => Bg rfl) (fun _ _ => A0 rfl) (fun _ _ => Nbl rfl) (fun b4 h => ?_) ?_))))))))
 ·unfold Eh at h
  refine Aq (Ab (sv rfl (Ah rfl) ?_))
  obtain ⟨v5, hv5, h⟩ := An h
  refine C2 (x' := .s (.one (.i .u64 (v5.1.toNat : Int)))) (M' := [.box Zbd, .box [.fn 112 [] [.lp 2 0, .lp 3 0], Ii6 v5.2.1], .box [Ii6 v5.2.2], .box [.sl v1.2.2.length (v1.2.2.flatMap eU8)], .box [Ii6 (wI (v2.1.toNat : Int)), Ii6 (wI (v3.1.toNat : Int)), Ii6 0, Ii6 0, .b false, Znl, Znl]]) [1, 2, 3] rfl Ah4 (.func _) (Ac rfl (Ac rfl Al)) (Cx hv5) rfl rfl (by decide) rfl rfl rfl ?_
  refine sv rfl (Fx Tryz.underlying112 Tryz.underlying38 rfl) (sv rfl (Aa Qd rfl) (Ax At8 rfl rfl rfl rfl (Nbl rfl) (Bt [.box Zbd, .box [.fn 112 [] [.lp 2 0, .lp 3 0], Ii6 v5.2.1], .box [Ii6 v5.2.2], .box [.sl v1.2.2.length (v1.2.2.flatMap eU8)], .box [Ii6 (wI (v2.1.toNat : Int)), Ii6 (wI (v3.1.toNat : Int)), Ii6 (wI (v5.1.toNat : Int)), Ii6 0, .b false, Znl, Znl]] rfl (Ar (Aq (Ab (sv rfl (Ah rfl) ?_)))))))
  obtain ⟨v6, hv6, h⟩ := An h
  refine C2 (x' := .s (.one (.i .u64 (v6.1.toNat : Int)))) (M' := [.box Zbd, .box [.fn 112 [] [.lp 2 0, .lp 3 0], Ii6 v6.2.1], .box [Ii6 v6.2.2], .box [.sl v1.2.2.length (v1.2.2.flatMap eU8)], .box [Ii6 (wI (v2.1.toNat : Int)), Ii6 (wI (v3.1.toNat : Int)), Ii6 (wI (v5.1.toNat : Int)), Ii6 0, .b false, Znl, Znl]]) [1, 2, 3] rfl Ah4 (.func _) (Ac rfl (Ac rfl Al)) (Cx hv6) rfl rfl (by decide) rfl rfl rfl ?_
  refine sv rfl (Fx Tryz.underlying112 Tryz.underlying3 rfl) (sv rfl (Aa Qx rfl) (Ax sz3 rfl rfl rfl rfl (Nbl rfl) (Bt [.box Zbd, .box [.fn 112 [] [.lp 2 0, .lp 3 0], Ii6 v6.2.1], .box [Ii6 v6.2.2], .box [.sl v1.2.2.length (v1.2.2.flatMap eU8)], .box [Ii6 (wI (v2.1.toNat : Int)), Ii6 (wI (v3.1.toNat : Int)), Ii6 (wI (v5.1.toNat : Int)), Ii6 (wI (v6.1.toNat : Int)), .b false, Znl, Znl]] rfl (Ar (Aq (Ab (sv rfl (Ah rfl) ?_)))))))
  obtain ⟨v7, hv7, h⟩ := An h
  refine C2 (x' := .s (.one (.b v7.1))) (M' := [.box Zbd, .box [.fn 112 [] [.lp 2 0, .lp 3 0], Ii6 v7.2.1], .box [Ii6 v7.2.2], .box [.sl v1.2.2.length (v1.2.2.flatMap eU8)], .box [Ii6 (wI (v2.1.toNat : Int)), Ii6 (wI (v3.1.toNat : Int)), Ii6 (wI (v5.1.toNat : Int)), Ii6 (wI (v6.1.toNat : Int)), .b false, Znl, Znl]]) [1, 2, 3] rfl Avk (.func _) (Ac rfl Al) (P9 hv7) rfl rfl (by decide) rfl rfl rfl ?_
  refine sv rfl (Aa Aah rfl) (Ax sz4 rfl rfl rfl rfl (Nbl rfl) (Bt [.box Zbd, .box [.fn 112 [] [.lp 2 0, .lp 3 0], Ii6 v7.2.1], .box [Ii6 v7.2.2], .box [.sl v1.2.2.length (v1.2.2.flatMap eU8)], .box [Ii6 (wI (v2.1.toNat : Int)), Ii6 (wI (v3.1.toNat : Int)), Ii6 (wI (v5.1.toNat : Int)), Ii6 (wI (v6.1.toNat : Int)), .b v7.1, Znl, Znl]] rfl (Ar (Aq (Ab (sv rfl (Ah rfl) ?_))))))
  obtain ⟨v8, hv8, h⟩ := An h
  refine C2 (x' := .s (.one (.sl v8.1.length (v8.1.flatMap eU8)))) (M' := [.box Zbd, .box [.fn 112 [] [.lp 2 0, .lp 3 0], Ii6 v8.2.1], .box [Ii6 v8.2.2], .box [.sl v1.2.2.length (v1.2.2.flatMap eU8)], .box [Ii6 (wI (v2.1.toNat : Int)), Ii6 (wI (v3.1.toNat : Int)), Ii6 (wI (v5.1.toNat : Int)), Ii6 (wI (v6.1.toNat : Int)), .b v7.1, Znl, Znl]]) [1, 2, 3] rfl Asl (.func _) (Ac rfl (Ac rfl Al)) (Ke hv8) rfl rfl (by decide) rfl rfl rfl ?_
  refine sv rfl (Aa Zy rfl) (Ax Apr rfl rfl rfl rfl (Nbl rfl) (Bt [.box Zbd, .box [.fn 112 [] [.lp 2 0, .lp 3 0], Ii6 v8.2.1], .box [Ii6 v8.2.2], .box [.sl v1.2.2.length (v1.2.2.flatMap eU8)], .box [Ii6 (wI (v2.1.toNat : Int)), Ii6 (wI (v3.1.toNat : Int)), Ii6 (wI (v5.1.toNat : Int)), Ii6 (wI (v6.1.toNat : Int)), .b v7.1, .sl v8.1.length (v8.1.flatMap eU8), Znl]] rfl (Ar (Aq (Ab (sv rfl (Ah rfl) ?_))))))
  obtain ⟨v9, hv9, h⟩ := An h
  refine C2 (x' := .s (.one (.sl v9.1.length (v9.1.flatMap Dr)))) (M' := [.box Zbd, .box [.fn 112 [] [.lp 2 0, .lp 3 0], Ii6 v9.2.1], .box [Ii6 v9.2.2], .box [.sl v1.2.2.length (v1.2.2.flatMap eU8)], .box [Ii6 (wI (v2.1.toNat : Int)), Ii6 (wI (v3.1.toNat : Int)), Ii6 (wI (v5.1.toNat : Int)), Ii6 (wI (v6.1.toNat : Int)), .b v7.1, .sl v8.1.length (v8.1.flatMap eU8), Znl]]) [1, 2, 3] rfl Au8 (.func _) (Ac rfl Al) (S4 hv9) rfl rfl (by decide) rfl rfl rfl ?_
  refine sv rfl (Aa Ux rfl) (Ax Auu rfl rfl rfl rfl (Nbl rfl) (Bt [.box Zbd, .box [.fn 112 [] [.lp 2 0, .lp 3 0], Ii6 v9.2.1], .box [Ii6 v9.2.2], .box [.sl v1.2.2.length (v1.2.2.flatMap eU8)], .box [Ii6 (wI (v2.1.toNat : Int)), Ii6 (wI (v3.1.toNat : Int)), Ii6 (wI (v5.1.toNat : Int)), Ii6 (wI (v6.1.toNat : Int)), .b v7.1, .sl v8.1.length (v8.1.flatMap eU8), .sl v9.1.length (v9.1.flatMap Dr)]] rfl (Ar (Aq (Aq (Ab (sv rfl (Ah rfl) ?_)))))))
  obtain ⟨v10, hv10, h⟩ := An h
  refine C2 (x' := .s (.one (Ii6 v10.1))) (M' := [.box Zbd, .box [.fn 112 [] [.lp 2 0, .lp 3 0], Ii6 v9.2.1], .box [Ii6 v10.2], .box [.sl v1.2.2.length (v1.2.2.flatMap eU8)], .box [Ii6 (wI (v2.1.toNat : Int)), Ii6 (wI (v3.1.toNat : Int)), Ii6 (wI (v5.1.toNat : Int)), Ii6 (wI (v6.1.toNat : Int)), .b v7.1, .sl v8.1.length (v8.1.flatMap eU8), .sl v9.1.length (v9.1.flatMap Dr)]]) [1, 2, 3] rfl Avu (.func _) (Ac rfl Al) (Q3 hv10) rfl rfl (by decide) rfl rfl rfl ?_
  refine sv rfl (Ak rfl) (Ar (Aq (Ab (sv rfl (Ah rfl) (sv rfl (Cd rfl rfl) (Ar (ccI h rfl (fun h => ?_) (fun h => ?_))))))))
  ·refine Aq (Ab (sv rfl (Bk Aki Aqk A9 (.nil _)) (sv rfl (Ah rfl) (Ax Anu rfl rfl rfl rfl (Nbl rfl) (Bt [.box Zbd, .box [.fn 112 [] [.lp 2 0, .lp 3 0], Ii6 v9.2.1], .box [Ii6 v10.2], .box [.sl v1.2.2.length (v1.2.2.flatMap eU8)], .box [Ii6 (wI (v2.1.toNat : Int)), Ii6 (wI (v3.1.toNat : Int)), Ii6 (wI (v5.1.toNat : Int)), Ii6 (wI (v6.1.toNat : Int)), .b v7.1, .sl v8.1.length (v8.1.flatMap eU8), .sl v9.1.length (v9.1.flatMap Dr)]] rfl (sv rfl (Ak rfl) (Ar (Bj (As ?_)))))))))
   obtain rfl := SJ h
   refine ⟨Or.inr rfl, _, _, _, (Ad (Bc.agg _ _ _ _ _ Abc rfl (.lp _ _ _ rfl) (Nbl rfl)) (Ad (Bc.tmp _ _ rfl) Af)), (Nl rfl), ?_⟩
   rfl
  ·refine Bl (Ai (Aq (Aq (Ab (sv rfl (Ao Abc rfl (.lp _ _ _ rfl) (Nbl rfl)) ?_)))))
   obtain ⟨v11, hv11, h⟩ := An h
   refine A1 rfl Aul (Ac rfl Al) (Aj rfl) (N7 hv11) (sv rfl (B8 rfl) (Ar (ccI h rfl (fun h => ?_) (fun h => ?_))))
   ·refine Aq (Ab (sv rfl (Bk Aki Aqk A9 (.nil _)) (Ax Anu rfl rfl rfl rfl (Nbl rfl) (Bt [.box Zbd, .box [.fn 112 [] [.lp 2 0, .lp 3 0], Ii6 v9.2.1], .box [Ii6 v10.2], .box [.sl v1.2.2.length (v1.2.2.flatMap eU8)], .box [Ii6 (wI (v2.1.toNat : Int)), Ii6 (wI (v3.1.toNat : Int)), Ii6 (wI (v5.1.toNat : Int)), Ii6 (wI (v6.1.toNat : Int)), .b v7.1, .sl v8.1.length (v8.1.flatMap eU8), .sl v9.1.length (v9.1.flatMap Dr)]] rfl (sv rfl (Ak rfl) (Ar (Bj (As ?_))))))))
    obtain rfl := SJ h
    refine ⟨Or.inr rfl, _, _, _, (Ad (Bc.agg _ _ _ _ _ Abc rfl (.lp _ _ _ rfl) (Nbl rfl)) (Ad (Bc.tmp _ _ rfl) Af)), (Nl rfl), ?_⟩
    rfl
   ·refine Bl (Ai (Aq (Ab (sv rfl (Ao Abc rfl (.lp _ _ _ rfl) (Nbl rfl)) (Ax Anu rfl rfl rfl rfl (Nbl rfl) (Bt [.box [Ii6 (wI (v2.1.toNat : Int)), Ii6 (wI (v3.1.toNat : Int)), Ii6 (wI (v5.1.toNat : Int)), Ii6 (wI (v6.1.toNat : Int)), .b v7.1, .sl v8.1.length (v8.1.flatMap eU8), .sl v9.1.length (v9.1.flatMap Dr)], .box [.fn 112 [] [.lp 2 0, .lp 3 0], Ii6 v9.2.1], .box [Ii6 v10.2], .box [.sl v1.2.2.length (v1.2.2.flatMap eU8)], .box [Ii6 (wI (v2.1.toNat : Int)), Ii6 (wI (v3.1.toNat : Int)), Ii6 (wI (v5.1.toNat : Int)), Ii6 (wI (v6.1.toNat : Int)), .b v7.1, .sl v8.1.length (v8.1.flatMap eU8), .sl v9.1.length (v9.1.flatMap Dr)]] rfl (sv rfl (Ak rfl) (Ar (Bj ?_)))))))))
    obtain rfl := SJ h
    refine ⟨Or.inr rfl, _, _, _, (Ad (Bc.agg _ _ _ _ _ Abc rfl (.lp _ _ _ rfl) (Nbl rfl)) (Ad (Bc.tmp _ _ rfl) Af)), (Aj rfl), ?_⟩
    rfl
 ·skip
  refine Ab (sv rfl (Aa P0 rfl) (sv rfl (Ae ti3 rfl (.lp _ _ _ rfl) rfl) (sv rfl (Cd rfl rfl) (sv rfl (Ah rfl) (Bq 19 rfl (fun hc => ?_) (fun hc => ?_))))))
  ·replace h := B1 hc h
   clear hc
   refine son rfl rfl rfl (sv rfl (Aa P0 rfl) (son rfl rfl rfl (sv rfl (Ae ti3 rfl (.lp _ _ _ rfl) rfl) (son rfl rfl rfl ?_))))
   obtain ⟨v12, hv12, h⟩ := An h
   refine A1 rfl Aqn (Ac rfl Al) (Aj rfl) (L4 hv12) (son rfl rfl rfl (sv rfl (B8 rfl) (sv rfl (Au rfl rfl) (Ar (ccI h rfl (fun h => ?_) (fun h => ?_))))))
   ·refine Ab (sv rfl (Ah rfl) ?_)
    obtain ⟨v13, hv13, h⟩ := An h
    refine C2 (x' := .tup []) (M' := [.box Zbd, .box [.fn 112 [] [.lp 2 0, .lp 3 0], Ii6 v13], .box [Ii6 v3.2.2], .box [.sl v1.2.2.length (v1.2.2.flatMap eU8)], .box [Ii6 (wI (v2.1.toNat : Int)), Ii6 (wI (v3.1.toNat : Int)), Ii6 0, Ii6 0, .b false, Znl, Znl]]) [1, 2, 3] rfl Al0 (.func _) (Ac rfl (Ac rfl Al)) (Dv hv13) rfl rfl (by decide) rfl rfl rfl ?_
    refine Ar ?_
    exact ⟨v13, _, h, ⟨rfl, rfl, rfl, trivial⟩, rfl⟩
   ·refine Bl (Ai ?_)
    exact ⟨v3.2.1, _, h, ⟨rfl, rfl, rfl, trivial⟩, rfl⟩
  ·replace h := B0 hc h
   clear hc
   refine Aw rfl rfl rfl rfl (Aw rfl rfl rfl rfl (Aw rfl rfl rfl rfl (Aw rfl rfl rfl rfl (sv rfl (Am rfl rfl) (Ar (Hy rfl (fun hx => Bool.noConfusion hx) (fun _ => ?_)))))))
   refine Bl (Ai ?_)
   exact ⟨v3.2.1, _, h, ⟨rfl, rfl, rfl, trivial⟩, rfl⟩
def Ig (a0 : List Av) : Option (List Av) :=
 if (([] : List Av).length + a0.length) * 40 ≤ 140737488355328 then (some (([] : List Av) ++ a0)) else none
theorem Rr {a0 : List Av} {r : (List Av)} (h : Ig a0 = some r) : Gs Tryz.prog 106 [] [.one (.sl a0.length (a0.flatMap Ay))] (fun y m' => y = .s (.one (.ls 0 r.length)) ∧ m' = [.arr 94 3 0 (r.flatMap Ay)]) := by
 unfold Ig at h
 refine Cv Tryz.func106 rfl (nt := 8) rfl (Nbl rfl) ?_
 intro w0 S0 X0 H0
 refine Aq (Ab (sv rfl (Ak rfl) (Ar (Aq (Aq (Ab (sv rfl (Ah rfl) (Amh rfl Tryz.underlying29 rfl (fun nq hnq => ?_)))))))))
 cases nq
 ·skip
  refine Ar (Hy rfl (fun hx => Bool.noConfusion hx) (fun _ => ?_))
  refine Bl (Ai (Aq (Ab (Abt rfl Tryz.underlying29 An7 (sv rfl (Ah rfl) ?_)))))
  obtain ⟨hb1, h⟩ := D4 h
  refine Ah2 (f := Ay) (xs := ([] : List Av)) (us := a0) rfl Tryz.underlying29 An7 Ato (fun _ => rfl) rfl rfl (.one _ _ _ _ (.id _ rfl)) rfl rfl rfl (.sl _ _ _ (Bf (f := Ay) (fun _ => rfl) _)) rfl rfl hb1 (by decide) ?_
  refine sv rfl (Ak rfl) (Ar (Bj ?_))
  obtain rfl := SJ h
  exact ⟨Or.inr rfl, _, [0], [.one (.ls 0 (([] : List Av) ++ a0).length)], [.arr 94 3 0 ((([] : List Av) ++ a0).flatMap Ay)], (Ad (Bc.tmp _ _ rfl) Af), rfl, rfl, ⟨by decide, rfl⟩, rfl, rfl, ⟨rfl, rfl⟩⟩
 ·obtain rfl := List.eq_nil_of_length_eq_zero (hnq rfl)
  replace h : (some ([] : List Av)) = some r := by first | exact h | (rw [if_pos (by decide)] at h; exact h)
  refine Ar (Hy rfl (fun _ => ?_) (fun hx => Bool.noConfusion hx))
  refine Aq (Ab (sv rfl (Ak rfl) (Ar ?_)))
  refine Ov 94 3 2 (by decide) rfl ?_
  refine Bj (As ?_)
  obtain rfl := SJ h
  exact ⟨Or.inr rfl, _, [0], [.one (.ls 0 ([] : List Av).length)], [.arr 94 3 0 (([] : List Av).flatMap Ay)], (Ad (Bc.tmp _ _ rfl) Af), rfl, rfl, ⟨by decide, rfl⟩, rfl, rfl, ⟨rfl, rfl⟩⟩
def Es (a0 : Ag) : Option Ag :=
 (cut a0.Tasks 1 (a0.Tasks.length : Int)).bind fun c1 => (Ig c1).bind fun v2 => some (Ag.mk (Cp.mk a0.Cfg.Who (Dk.mk a0.Cfg.Plan.Wait a0.Cfg.Plan.Most a0.Cfg.Plan.Tries) a0.Cfg.Attempts a0.Cfg.Budget) v2 a0.Phase a0.Epoch a0.Seq 0 a0.Sent a0.Left a0.Resets a0.Risk (A6.mk a0.St.PC (Ev.mk a0.St.Regs.R0 a0.St.Regs.R1 a0.St.Regs.R2 a0.St.Regs.R3 a0.St.Regs.R4 a0.St.Regs.R5 a0.St.Regs.R6 a0.St.Regs.R7) a0.St.Stopped) (B6.mk a0.Req.Kind a0.Req.Seq a0.Req.Token a0.Req.Attempt a0.Req.RO a0.Req.Key a0.Req.Val (B7.mk a0.Req.Rng.Lo a0.Req.Rng.Hi a0.Req.Rng.Open)) (Bn.mk a0.In.Buf a0.In.Dead) a0.Out a0.Done a0.Tried)
theorem Mf {a0 : Ag} {r : Ag} (h : Es a0 = some r) : Bp Tryz.prog 80 [.agg (EL.el a0)] (· = .s (.agg (EL.el r))) := by
 unfold Es at h
 refine A2 Tryz.func80 rfl (nt := 10) rfl (Nbl rfl) ?_
 intro w0 S0
 refine Aq (Ab (Je rfl rfl (Bz rfl Nc (Ar (Aq (Ab (sv rfl (Aa Mb rfl) (sv rfl (Ae Y0 rfl (.lp _ _ _ rfl) rfl) ?_))))))))
 obtain ⟨c1, hc1, h⟩ := An h
 refine sv rfl (Sw (f := Ay) (lo := 1) (hi := (a0.Tasks.length : Int)) Uf (fun _ => rfl) rfl rfl rfl (Hs rfl (Kp hc1).1.1) (by exact rfl) hc1) ?_
 obtain ⟨v2, hv2, h⟩ := An h
 refine C2 (x' := .s (.one (.ls 2 v2.length))) (M' := [.box (EL.el a0), .box Zba, .arr 94 3 0 (v2.flatMap Ay)]) [] rfl Aru (.func _) (Ac rfl Al) (Rr hv2) rfl rfl (by decide) rfl rfl rfl ?_
 refine sv rfl (Aa Mb rfl) (Ax Ar6 rfl rfl rfl rfl (Nbl rfl) (Bt [.box ((EL.el a0).set 6 (.ls 2 v2.length)), .box Zba, .arr 94 3 0 (v2.flatMap Ay)] rfl (Ar (Aq (Ab (sv rfl (Aa Of rfl) (Ax sz3 rfl rfl rfl rfl (Nbl rfl) (Bt [.box ((EL.el {a0 with Attempt := 0}).set 6 (.ls 2 v2.length)), .box Zba, .arr 94 3 0 (v2.flatMap Ay)] rfl (Ar (Aq (Ab (sv rfl (Ao B4 rfl (.lp _ _ _ rfl) (Nbl rfl)) (Ax Em rfl rfl rfl rfl (Nbl rfl) (Bt [.box ((EL.el {a0 with Attempt := 0}).set 6 (.ls 2 v2.length)), .box ((EL.el {a0 with Attempt := 0}).set 6 (.ls 2 v2.length)), .arr 94 3 0 (v2.flatMap Ay)] rfl (Ar (Bj ?_))))))))))))))))
 obtain rfl := SJ h
 refine ⟨Or.inr rfl, _, _, _, (Ad (Bc.agg _ _ _ _ _ B4 rfl (.lp _ _ _ rfl) (Nbl rfl)) Af), (by (repeat' first | exact J8.nil _ | apply J8.cons | apply Jv.one | apply Jv.agg | exact E4.nil | exact E4.ls _ _ _ _ _ _ rfl (Bf (f := Ay) (fun _ => rfl) _).symm | exact E4.id _ rfl | exact D2.nil _ | apply D2.cons)), ?_⟩
 rfl
def E1 (b2 : Ag) : Option Ag :=
 some ({b2 with Phase := 1, Epoch := (wI (b2.Epoch + 1)), Left := 0})
def Gn (a0 : Ag) (b1 : Unit) : Option Ag :=
 if (decide (a0.Phase = 9)) then ((Es ({a0 with Resets := (if 1001 < (wI (a0.Resets + 1)) then 1001 else (wI (a0.Resets + 1))), In := (Bn.mk ([] : List UInt8) 0), Out := ([] : List UInt8)})).bind fun v3 => E1 v3) else (E1 ({a0 with Resets := (if 1001 < (wI (a0.Resets + 1)) then 1001 else (wI (a0.Resets + 1))), In := (Bn.mk ([] : List UInt8) 0), Out := ([] : List UInt8)}))
def Cq (a0 : Ag) : Option Ag :=
 if (decide (a0.Cfg.Budget < (if 1001 < (wI (a0.Resets + 1)) then 1001 else (wI (a0.Resets + 1))))) then ((Ce ({a0 with Resets := (if 1001 < (wI (a0.Resets + 1)) then 1001 else (wI (a0.Resets + 1))), In := (Bn.mk ([] : List UInt8) 0), Out := ([] : List UInt8)})).bind fun v4 => some v4) else (if (decide (65535 ≤ a0.Epoch)) then ((Ce ({a0 with Resets := (if 1001 < (wI (a0.Resets + 1)) then 1001 else (wI (a0.Resets + 1))), In := (Bn.mk ([] : List UInt8) 0), Out := ([] : List UInt8)})).bind fun v5 => some v5) else (Gn a0 ()))
theorem Fa {a0 : Ag} {r : Ag} (h : Cq a0 = some r) : Bp Tryz.prog 47 [.agg (EL.el a0)] (· = .s (.agg (EL.el r))) := by
 unfold Cq at h
 refine A2 Tryz.func47 rfl (nt := 36) rfl (Nbl rfl) ?_
 intro w0 S0
 refine Aq (Ab (Je rfl rfl (Bz rfl Nc (Ar (Aq (Ab (sv rfl (Aa Adk rfl) (sv rfl (Ae ti3 rfl (.lp _ _ _ rfl) rfl) (sv rfl (B9 rfl rfl) (sv rfl (Ss rfl rfl) (sv rfl (Aa Adk rfl) (Ax sz3 rfl rfl rfl rfl (Nbl rfl) (Bt [.box (EL.el {a0 with Resets := if 1001 < (wI (a0.Resets + 1)) then 1001 else (wI (a0.Resets + 1))}), .box Zba] rfl (Ar (Aq (Ab (sv rfl (Aa Qh rfl) (Ax Apr rfl rfl rfl rfl (Nbl rfl) (Bt [.box ((EL.el {a0 with Resets := if 1001 < (wI (a0.Resets + 1)) then 1001 else (wI (a0.Resets + 1))}).set 37 (Znl)), .box Zba] rfl (Ar (Aq (Ab (sv rfl (Bk Anl Aqq A9 (.nil _)) (sv rfl (Aa Ws rfl) (Ax Alx rfl rfl rfl rfl (Nbl rfl) (Bt [.box (((EL.el {a0 with Resets := if 1001 < (wI (a0.Resets + 1)) then 1001 else (wI (a0.Resets + 1)), In.Dead := 0}).set 35 (Znl)).set 37 (Znl)), .box Zba] rfl (Ar (Aq (Aq (Ki (Unit) (fun b1 => [(1, .s (.one (.lp 0 0))), (2, .s (.one (.lp 1 0)))]) (fun b1 => [.box (((EL.el {a0 with Resets := if 1001 < (wI (a0.Resets + 1)) then 1001 else (wI (a0.Resets + 1)), In.Dead := 0}).set 35 (Znl)).set 37 (Znl)), .box Zba]) (fun b1 => Gn a0 b1 = some r) (fun _ _ => Bg rfl) (fun _ _ => A0 rfl) (fun _ _ => Nbl rfl) (fun b1 h => ?_) ?_))))))))))))))))))))))))))))))
 ·unfold Gn at h
  refine Aq (Aq (Ab (sv rfl (Aa F7 rfl) (sv rfl (Ae ti3 rfl (.lp _ _ _ rfl) rfl) (sv rfl (Bo rfl rfl) (Ar (G5 (Ag) (fun b2 => [(1, .s (.one (.lp 0 0))), (2, .s (.one (.lp 1 0)))]) (fun b2 => [.box (EL.el b2), .box Zba]) (fun b2 => E1 b2 = some r) (fun _ _ => Bg rfl) (fun _ _ => A0 rfl) (fun _ _ => Nbl rfl) (fun b2 h => ?_) ?_)))))))
  ·unfold E1 at h
   refine Aq (Ab (sv rfl (Aa F7 rfl) (Ax sz3 rfl rfl rfl rfl (Nbl rfl) (Bt [.box (EL.el {b2 with Phase := 1}), .box Zba] rfl (Ar (Aq (Ab (sv rfl (Aa Z1 rfl) (sv rfl (Ae ti3 rfl (.lp _ _ _ rfl) rfl) (sv rfl (B9 rfl rfl) (sv rfl (Aa Z1 rfl) (Ax sz3 rfl rfl rfl rfl (Nbl rfl) (Bt [.box (EL.el {b2 with Phase := 1, Epoch := wI (b2.Epoch + 1)}), .box Zba] rfl (Ar (Aq (Ab (sv rfl (Aa Q4 rfl) (Ax sz3 rfl rfl rfl rfl (Nbl rfl) (Bt [.box (EL.el {b2 with Phase := 1, Epoch := wI (b2.Epoch + 1), Left := 0}), .box Zba] rfl (Ar (Aq (Ab (sv rfl (Ao B4 rfl (.lp _ _ _ rfl) (Nbl rfl)) (Ax Em rfl rfl rfl rfl (Nbl rfl) (Bt [.box (EL.el {b2 with Phase := 1, Epoch := wI (b2.Epoch + 1), Left := 0}), .box (EL.el {b2 with Phase := 1, Epoch := wI (b2.Epoch + 1), Left := 0})] rfl (Ar (Bj ?_)))))))))))))))))))))))))))
   obtain rfl := SJ h
   refine ⟨Or.inr rfl, _, _, _, (Ad (Bc.agg _ _ _ _ _ B4 rfl (.lp _ _ _ rfl) (Nbl rfl)) Af), (Aj rfl), ?_⟩
   rfl
  ·skip
   refine ccI h rfl (fun h => ?_) (fun h => ?_)
   ·refine Ab (sv rfl (Ao B4 rfl (.lp _ _ _ rfl) (Nbl rfl)) ?_)
    obtain ⟨v3, hv3, h⟩ := An h
    refine A1 rfl Atr (Ac rfl Al) (Nl rfl) (Mf hv3) (Ax Em rfl rfl rfl rfl (Nbl rfl) (Bt [.box (EL.el v3), .box Zba] rfl (Ar ?_)))
    exact ⟨v3, _, h, ⟨rfl, rfl, trivial⟩, rfl⟩
   ·refine Abi 0 35 rfl rfl E4.nil rfl (Abi 0 37 rfl rfl E4.nil rfl (Bl (Ai ?_)))
    exact ⟨{a0 with Resets := (if 1001 < (wI (a0.Resets + 1)) then 1001 else (wI (a0.Resets + 1))), In := (Bn.mk ([] : List UInt8) 0), Out := ([] : List UInt8)}, _, h, ⟨rfl, rfl, trivial⟩, rfl⟩
 ·skip
  refine Ab (sv rfl (Aa Adk rfl) (sv rfl (Ae ti3 rfl (.lp _ _ _ rfl) rfl) (sv rfl (Aa Qp rfl) (sv rfl (Aa Akv rfl) (sv rfl (Ae ti3 rfl (.lp _ _ _ rfl) rfl) (sv rfl (Dg rfl rfl) (sv rfl (Ah rfl) (Bq 17 rfl (fun hc => ?_) (fun hc => ?_)))))))))
  ·replace h := B1 hc h
   clear hc
   refine Aw rfl rfl rfl rfl (Aw rfl rfl rfl rfl (Aw rfl rfl rfl rfl (sv rfl (Au rfl rfl) (Ar (Hy rfl (fun _ => ?_) (fun hx => Bool.noConfusion hx))))))
   refine Aq (Ab (sv rfl (Ao B4 rfl (.lp _ _ _ rfl) (Nbl rfl)) ?_))
   obtain ⟨v4, hv4, h⟩ := An h
   refine A1 rfl Anh (Ac rfl Al) (Nl rfl) (Df hv4) (Ax Em rfl rfl rfl rfl (Nbl rfl) (Bt [.box (((EL.el {a0 with Resets := if 1001 < (wI (a0.Resets + 1)) then 1001 else (wI (a0.Resets + 1)), In.Dead := 0}).set 35 (Znl)).set 37 (Znl)), .box (EL.el v4)] rfl (Ar (Bj (As ?_)))))
   obtain rfl := SJ h
   refine ⟨Or.inr rfl, _, _, _, (Ad (Bc.agg _ _ _ _ _ B4 rfl (.lp _ _ _ rfl) (Nbl rfl)) Af), (Aj rfl), ?_⟩
   rfl
  ·replace h := B0 hc h
   clear hc
   refine son rfl rfl rfl (sv rfl (Aa Z1 rfl) (son rfl rfl rfl (sv rfl (Ae ti3 rfl (.lp _ _ _ rfl) rfl) (son rfl rfl rfl (sv rfl (L9 rfl rfl) (sv rfl (Am rfl rfl) (Ar (ccI h rfl (fun h => ?_) (fun h => ?_)))))))))
   ·refine Aq (Ab (sv rfl (Ao B4 rfl (.lp _ _ _ rfl) (Nbl rfl)) ?_))
    obtain ⟨v5, hv5, h⟩ := An h
    refine A1 rfl Anh (Ac rfl Al) (Nl rfl) (Df hv5) (Ax Em rfl rfl rfl rfl (Nbl rfl) (Bt [.box (((EL.el {a0 with Resets := if 1001 < (wI (a0.Resets + 1)) then 1001 else (wI (a0.Resets + 1)), In.Dead := 0}).set 35 (Znl)).set 37 (Znl)), .box (EL.el v5)] rfl (Ar (Bj (As ?_)))))
    obtain rfl := SJ h
    refine ⟨Or.inr rfl, _, _, _, (Ad (Bc.agg _ _ _ _ _ B4 rfl (.lp _ _ _ rfl) (Nbl rfl)) Af), (Aj rfl), ?_⟩
    rfl
   ·refine Bl (Ai ?_)
    exact ⟨(), _, h, ⟨rfl, rfl, trivial⟩, rfl⟩
def L7  : Option Unit :=
 (Cn 2).bind fun v1 => if (!v1) then none else (some ())
theorem Q5  {r : Unit} (h : L7 = some r) : Gs Tryz.prog 79 [] [.one (Ii6 2)] (fun y m' => y = .s (.one (.raw (.func (.func 99) #[] #[]))) ∧ m' = []) := by
 unfold L7 at h
 refine Cv Tryz.func79 rfl (nt := 11) rfl (Nbl rfl) ?_
 intro w0 S0 X0 H0
 refine Aq (Ab (sv rfl (Ak rfl) (Ar (Aq (Ab (sv rfl (G2 Rt Se (Ap rfl (Ap rfl (Ap rfl (Ap rfl (Ap rfl (Ap rfl (Ap rfl A9))))))) (Ea [Nfu, Nfu, .raw (.func (.func 99) #[] #[]), Nfu, Nfu, Nfu, Nfu, Nfu, Nfu, Nfu] rfl rfl (Nbl rfl) rfl (Ea [Nfu, Nfu, .raw (.func (.func 99) #[] #[]), .raw (.func (.func 100) #[] #[]), Nfu, Nfu, Nfu, Nfu, Nfu, Nfu] rfl rfl (Nbl rfl) rfl (Ea [Nfu, Nfu, .raw (.func (.func 99) #[] #[]), .raw (.func (.func 100) #[] #[]), .raw (.func (.func 101) #[] #[]), Nfu, Nfu, Nfu, Nfu, Nfu] rfl rfl (Nbl rfl) rfl (Ea [Nfu, Nfu, .raw (.func (.func 99) #[] #[]), .raw (.func (.func 100) #[] #[]), .raw (.func (.func 101) #[] #[]), .raw (.func (.func 102) #[] #[]), Nfu, Nfu, Nfu, Nfu] rfl rfl (Nbl rfl) rfl (Ea [Nfu, Nfu, .raw (.func (.func 99) #[] #[]), .raw (.func (.func 100) #[] #[]), .raw (.func (.func 101) #[] #[]), .raw (.func (.func 102) #[] #[]), .raw (.func (.func 103) #[] #[]), Nfu, Nfu, Nfu] rfl rfl (Nbl rfl) rfl (Ea [Nfu, Nfu, .raw (.func (.func 99) #[] #[]), .raw (.func (.func 100) #[] #[]), .raw (.func (.func 101) #[] #[]), .raw (.func (.func 102) #[] #[]), .raw (.func (.func 103) #[] #[]), .raw (.func (.func 104) #[] #[]), Nfu, Nfu] rfl rfl (Nbl rfl) rfl (Ea [Nfu, Nfu, .raw (.func (.func 99) #[] #[]), .raw (.func (.func 100) #[] #[]), .raw (.func (.func 101) #[] #[]), .raw (.func (.func 102) #[] #[]), .raw (.func (.func 103) #[] #[]), .raw (.func (.func 104) #[] #[]), Nfu, .raw (.func (.func 105) #[] #[])] rfl rfl (Nbl rfl) rfl (.nil _))))))))) (Bz rfl Rt (Ax Zi rfl rfl rfl rfl (Nbl rfl) (Bt [.box [Nfu, Nfu, .raw (.func (.func 99) #[] #[]), .raw (.func (.func 100) #[] #[]), .raw (.func (.func 101) #[] #[]), .raw (.func (.func 102) #[] #[]), .raw (.func (.func 103) #[] #[]), .raw (.func (.func 104) #[] #[]), Nfu, .raw (.func (.func 105) #[] #[])]] rfl (Ar (Aq (Aq (Ab (sv rfl (Ah rfl) ?_))))))))))))))
 obtain ⟨v1, hv1, h⟩ := An h
 refine A1 rfl Ajp (Ac rfl Al) (Aj rfl) (Dz hv1) (sv rfl (B8 rfl) (Ar (ccI h rfl (fun h => ?_) (fun h => ?_))))
 ·refine Aq (Ab ?_)
  cases h
 ·refine Bl (Ai (Aq (Ab (sv rfl (Ah rfl) ?_))))
  refine sv rfl (Ot (o := 2) Se rfl rfl (by decide)) ?_
  refine sv rfl (Ae Ab4 rfl (.lp _ _ _ rfl) rfl) (sv rfl (Ak rfl) (Ar (Bj ?_)))
  obtain rfl := SJ h
  exact ⟨Or.inr rfl, _, [], [.one (.raw (.func (.func 99) #[] #[]))], [], (Ad (Bc.tmp _ _ rfl) Af), rfl, rfl, ⟨by decide, rfl⟩, rfl, rfl, ⟨rfl, rfl⟩⟩
def Ef (a0 : Ag) (a1 : Be) : Option Ag :=
 if (!decide (a1.Code = 0)) then ((Cq a0).bind fun v1 => some v1) else ((Dw a0).bind fun v2 => some v2)
theorem Nw {a0 : Ag} {a1 : Be} {r : Ag} (h : Ef a0 a1 = some r) : Bp Tryz.prog 99 [.agg (EL.el a0), .agg (EL.el a1)] (· = .s (.agg (EL.el r))) := by
 unfold Ef at h
 refine A2 Tryz.func99 rfl (nt := 12) rfl (Nbl rfl) ?_
 intro w0 S0
 refine Aq (Ab (Je rfl rfl (Je rfl rfl (Bz rfl Nc (Ar (Aq (Aq (Ab (sv rfl (Aa Qd rfl) (sv rfl (Ae Aaz rfl (.lp _ _ _ rfl) rfl) (sv rfl (Cd rfl rfl) (Ar (ccI h rfl (fun h => ?_) (fun h => ?_))))))))))))))
 ·refine Aq (Ab (sv rfl (Ao B4 rfl (.lp _ _ _ rfl) (Nbl rfl)) ?_))
  obtain ⟨v1, hv1, h⟩ := An h
  refine A1 rfl Apb (Ac rfl Al) (Aj rfl) (Fa hv1) (Ax Em rfl rfl rfl rfl (Nbl rfl) (Bt [.box (EL.el a0), .box (EL.el a1), .box (EL.el v1)] rfl (Ar (Bj (As ?_)))))
  obtain rfl := SJ h
  refine ⟨Or.inr rfl, _, _, _, (Ad (Bc.agg _ _ _ _ _ B4 rfl (.lp _ _ _ rfl) (Nbl rfl)) Af), (Aj rfl), ?_⟩
  rfl
 ·refine Bl (Ai (Aq (Ab (sv rfl (Ao B4 rfl (.lp _ _ _ rfl) (Nbl rfl)) ?_))))
  obtain ⟨v2, hv2, h⟩ := An h
  refine A1 rfl Asa (Ac rfl Al) (Aj rfl) (I1 hv2) (Ax Em rfl rfl rfl rfl (Nbl rfl) (Bt [.box (EL.el a0), .box (EL.el a1), .box (EL.el v2)] rfl (Ar (Bj ?_))))
  obtain rfl := SJ h
  refine ⟨Or.inr rfl, _, _, _, (Ad (Bc.agg _ _ _ _ _ B4 rfl (.lp _ _ _ rfl) (Nbl rfl)) Af), (Aj rfl), ?_⟩
  rfl
def Lg  : Option Unit :=
 (Cn 3).bind fun v1 => if (!v1) then none else (some ())
theorem P8  {r : Unit} (h : Lg = some r) : Gs Tryz.prog 79 [] [.one (Ii6 3)] (fun y m' => y = .s (.one (.raw (.func (.func 100) #[] #[]))) ∧ m' = []) := by
 unfold Lg at h
 refine Cv Tryz.func79 rfl (nt := 11) rfl (Nbl rfl) ?_
 intro w0 S0 X0 H0
 refine Aq (Ab (sv rfl (Ak rfl) (Ar (Aq (Ab (sv rfl (G2 Rt Se (Ap rfl (Ap rfl (Ap rfl (Ap rfl (Ap rfl (Ap rfl (Ap rfl A9))))))) (Ea [Nfu, Nfu, .raw (.func (.func 99) #[] #[]), Nfu, Nfu, Nfu, Nfu, Nfu, Nfu, Nfu] rfl rfl (Nbl rfl) rfl (Ea [Nfu, Nfu, .raw (.func (.func 99) #[] #[]), .raw (.func (.func 100) #[] #[]), Nfu, Nfu, Nfu, Nfu, Nfu, Nfu] rfl rfl (Nbl rfl) rfl (Ea [Nfu, Nfu, .raw (.func (.func 99) #[] #[]), .raw (.func (.func 100) #[] #[]), .raw (.func (.func 101) #[] #[]), Nfu, Nfu, Nfu, Nfu, Nfu] rfl rfl (Nbl rfl) rfl (Ea [Nfu, Nfu, .raw (.func (.func 99) #[] #[]), .raw (.func (.func 100) #[] #[]), .raw (.func (.func 101) #[] #[]), .raw (.func (.func 102) #[] #[]), Nfu, Nfu, Nfu, Nfu] rfl rfl (Nbl rfl) rfl (Ea [Nfu, Nfu, .raw (.func (.func 99) #[] #[]), .raw (.func (.func 100) #[] #[]), .raw (.func (.func 101) #[] #[]), .raw (.func (.func 102) #[] #[]), .raw (.func (.func 103) #[] #[]), Nfu, Nfu, Nfu] rfl rfl (Nbl rfl) rfl (Ea [Nfu, Nfu, .raw (.func (.func 99) #[] #[]), .raw (.func (.func 100) #[] #[]), .raw (.func (.func 101) #[] #[]), .raw (.func (.func 102) #[] #[]), .raw (.func (.func 103) #[] #[]), .raw (.func (.func 104) #[] #[]), Nfu, Nfu] rfl rfl (Nbl rfl) rfl (Ea [Nfu, Nfu, .raw (.func (.func 99) #[] #[]), .raw (.func (.func 100) #[] #[]), .raw (.func (.func 101) #[] #[]), .raw (.func (.func 102) #[] #[]), .raw (.func (.func 103) #[] #[]), .raw (.func (.func 104) #[] #[]), Nfu, .raw (.func (.func 105) #[] #[])] rfl rfl (Nbl rfl) rfl (.nil _))))))))) (Bz rfl Rt (Ax Zi rfl rfl rfl rfl (Nbl rfl) (Bt [.box [Nfu, Nfu, .raw (.func (.func 99) #[] #[]), .raw (.func (.func 100) #[] #[]), .raw (.func (.func 101) #[] #[]), .raw (.func (.func 102) #[] #[]), .raw (.func (.func 103) #[] #[]), .raw (.func (.func 104) #[] #[]), Nfu, .raw (.func (.func 105) #[] #[])]] rfl (Ar (Aq (Aq (Ab (sv rfl (Ah rfl) ?_))))))))))))))
 obtain ⟨v1, hv1, h⟩ := An h
 refine A1 rfl Ajp (Ac rfl Al) (Aj rfl) (Dz hv1) (sv rfl (B8 rfl) (Ar (ccI h rfl (fun h => ?_) (fun h => ?_))))
 ·refine Aq (Ab ?_)
  cases h
 ·refine Bl (Ai (Aq (Ab (sv rfl (Ah rfl) ?_))))
  refine sv rfl (Ot (o := 3) Se rfl rfl (by decide)) ?_
  refine sv rfl (Ae Ab4 rfl (.lp _ _ _ rfl) rfl) (sv rfl (Ak rfl) (Ar (Bj ?_)))
  obtain rfl := SJ h
  exact ⟨Or.inr rfl, _, [], [.one (.raw (.func (.func 100) #[] #[]))], [], (Ad (Bc.tmp _ _ rfl) Af), rfl, rfl, ⟨by decide, rfl⟩, rfl, rfl, ⟨rfl, rfl⟩⟩
def Cu (a0 : Ag) (b2 : Ba) : Option Ag :=
 (C7 a0 b2).bind fun v3 => (Cb ({v3 with Phase := 9, Risk := false}) (B6.mk 10 0 b2.Token 0 false ([] : List UInt8) ([] : List UInt8) Bs)).bind fun v4 => some v4
def Bu (a0 : Ag) (a1 : Int) (a2 : Int) : Option Ag :=
 (idx a0.Tasks 0).bind fun u1 => if (decide (a1 = 1)) then (Cu a0 (Ba.mk u1.Token a1 a0.Attempt a2 a0.St.Regs)) else (Cu a0 (Ba.mk u1.Token a1 a0.Attempt a2 (Ev.mk 0 0 0 0 0 0 0 0)))
theorem Cc {a0 : Ag} {a1 : Int} {a2 : Int} {r : Ag} (h : Bu a0 a1 a2 = some r) : Bp Tryz.prog 119 [.agg (EL.el a0), .one (Ii6 a1), .one (Ii6 a2)] (· = .s (.agg (EL.el r))) := by
 unfold Bu at h
 refine A2 Tryz.func119 rfl (nt := 34) rfl (Nbl rfl) ?_
 intro w0 S0
 refine Aq (Ab (Je rfl rfl (Bz rfl Nc (Ar (Aq (Adu ?_))))))
 obtain ⟨u1, hu1, h⟩ := An h
 refine Jq [10, 11] [0, 1, 3, 7, 15, 0, 0, 64, 0, 511, 0, 2047] [[.box (EL.el a0), .box Zba, .hole], [.box (EL.el a0), .box Zba, .box [Ii6 0, Ii6 0, Ii6 0, Ii6 0, Ii6 0, Ii6 0, Ii6 0, Ii6 0, Ii6 0, Ii6 0, Ii6 0, Ii6 0]], [.box (EL.el a0), .box Zba, .box [Ii6 u1.Token, Ii6 a1, Ii6 a0.Attempt, Ii6 a2, Ii6 0, Ii6 0, Ii6 0, Ii6 0, Ii6 0, Ii6 0, Ii6 0, Ii6 0]]] (by kernel_rfl) Lz (by kernel_rfl) (by decide) rfl rfl rfl rfl ?_
 refine ev (B3 (md := [.box (EL.el a0), .box Zba, .dead]) ⟨⟨rfl, ⟨rfl, ⟨trivial, trivial⟩⟩⟩, ⟨⟨rfl, ⟨rfl, ⟨trivial, trivial⟩⟩⟩, ⟨⟨rfl, ⟨rfl, ⟨trivial, trivial⟩⟩⟩, trivial⟩⟩⟩) rfl rfl (Aa Mb rfl) (ev (B3 (md := [.box (EL.el a0), .box Zba, .dead]) ⟨⟨rfl, ⟨rfl, ⟨trivial, trivial⟩⟩⟩, ⟨⟨rfl, ⟨rfl, ⟨trivial, trivial⟩⟩⟩, ⟨⟨rfl, ⟨rfl, ⟨trivial, trivial⟩⟩⟩, trivial⟩⟩⟩) rfl rfl (Ae Y0 rfl (.lp _ _ _ rfl) rfl) (ev (B3 (md := [.box (EL.el a0), .box Zba, .dead]) ⟨⟨rfl, ⟨rfl, ⟨trivial, trivial⟩⟩⟩, ⟨⟨rfl, ⟨rfl, ⟨trivial, trivial⟩⟩⟩, ⟨⟨rfl, ⟨rfl, ⟨trivial, trivial⟩⟩⟩, trivial⟩⟩⟩) rfl rfl (Fm (f := Ay) Uf (fun _ => rfl) rfl rfl rfl rfl hu1) ?_))
 refine ev (B3 (md := [.box (EL.el a0), .box Zba, .dead]) ⟨⟨rfl, ⟨rfl, ⟨trivial, trivial⟩⟩⟩, ⟨⟨rfl, ⟨rfl, ⟨trivial, trivial⟩⟩⟩, ⟨⟨rfl, ⟨rfl, ⟨trivial, trivial⟩⟩⟩, trivial⟩⟩⟩) rfl rfl (B2 Sa rfl) (ev (B3 (md := [.box (EL.el a0), .box Zba, .dead]) ⟨⟨rfl, ⟨rfl, ⟨trivial, trivial⟩⟩⟩, ⟨⟨rfl, ⟨rfl, ⟨trivial, trivial⟩⟩⟩, ⟨⟨rfl, ⟨rfl, ⟨trivial, trivial⟩⟩⟩, trivial⟩⟩⟩) rfl rfl (Ae ti3 rfl (.cp _) rfl) (emv rfl rfl (fun _ => Ah rfl) ?_))
 refine ev (B3 (md := [.box (EL.el a0), .box Zba, .dead]) ⟨⟨rfl, ⟨rfl, ⟨trivial, trivial⟩⟩⟩, ⟨⟨rfl, ⟨rfl, ⟨trivial, trivial⟩⟩⟩, ⟨⟨rfl, ⟨rfl, ⟨trivial, trivial⟩⟩⟩, trivial⟩⟩⟩) rfl rfl (Aa Of rfl) (ev (B3 (md := [.box (EL.el a0), .box Zba, .dead]) ⟨⟨rfl, ⟨rfl, ⟨trivial, trivial⟩⟩⟩, ⟨⟨rfl, ⟨rfl, ⟨trivial, trivial⟩⟩⟩, ⟨⟨rfl, ⟨rfl, ⟨trivial, trivial⟩⟩⟩, trivial⟩⟩⟩) rfl rfl (Ae ti3 rfl (.lp _ _ _ rfl) rfl) (emv rfl rfl (fun _ => Ah rfl) ?_))
 refine ev (B3 (md := [.box (EL.el a0), .box Zba, .dead]) ⟨⟨rfl, ⟨rfl, ⟨trivial, trivial⟩⟩⟩, ⟨⟨rfl, ⟨rfl, ⟨trivial, trivial⟩⟩⟩, ⟨⟨rfl, ⟨rfl, ⟨trivial, trivial⟩⟩⟩, trivial⟩⟩⟩) rfl rfl (Bk Aqi Ar9 (Ap rfl (Ap rfl (Ap rfl (Ap rfl A9)))) (.cons _ _ _ _ _ _ _ rfl rfl (Nbl rfl) (.cons _ _ _ _ _ _ _ rfl rfl (Nbl rfl) (.cons _ _ _ _ _ _ _ rfl rfl (Nbl rfl) (.cons _ _ _ _ _ _ _ rfl rfl (Nbl rfl) (.nil _)))))) (ee (x := .s (.one (.lp 2 0))) 0 rfl rfl rfl rfl rfl (fun ζ => ?_) ?_)
 ·refine Na 2 rfl Aqi rfl ?_
  exact Rq
 refine ee0 1 rfl rfl rfl rfl (fun ζ => ?_) ?_
 ·refine Ax Avq rfl rfl rfl rfl (Nbl rfl) (Bt [.box (EL.el a0), .box Zba, .box [Ii6 u1.Token, Ii6 a1, Ii6 a0.Attempt, Ii6 a2, Ii6 0, Ii6 0, Ii6 0, Ii6 0, Ii6 0, Ii6 0, Ii6 0, Ii6 0]] rfl ?_)
  exact Rq
 refine Ys (Ai (Aq (Aq (Ab (sv rfl (Ah rfl) (sv rfl (Bo rfl rfl) (Ar (G5 (Ba) (fun b2 => [(3, .s (.one (.lp 0 0))), (6, .s (.one (.lp 1 0))), (7, .s (.one (.lp 2 0)))]) (fun b2 => [.box (EL.el a0), .box Zba, .box (EL.el b2)]) (fun b2 => Cu a0 b2 = some r) (fun _ _ => Bg rfl) (fun _ _ => A0 rfl) (fun _ _ => Nbl rfl) (fun b2 h => ?_) ?_))))))))
 ·unfold Cu at h
  refine Aq (Ab (sv rfl (Ao B4 rfl (.lp _ _ _ rfl) (Nbl rfl)) (sv rfl (Ao At0 rfl (.lp _ _ _ rfl) (Nbl rfl)) ?_)))
  obtain ⟨v3, hv3, h⟩ := An h
  refine A1 rfl Aq3 (Ac rfl (Ac rfl Al)) (Aj rfl) (H9 hv3) (Ax Em rfl rfl rfl rfl (Nbl rfl) (Bt [.box (EL.el v3), .box Zba, .box (EL.el b2)] rfl (Ar (Aq (Ab (sv rfl (Aa X1 rfl) (Ax sz4 rfl rfl rfl rfl (Nbl rfl) (Bt [.box (EL.el {v3 with Risk := false}), .box Zba, .box (EL.el b2)] rfl (Ar (Aq (Ab (sv rfl (Aa F7 rfl) (Ax sz3 rfl rfl rfl rfl (Nbl rfl) (Bt [.box (EL.el {v3 with Phase := 9, Risk := false}), .box Zba, .box (EL.el b2)] rfl (Ar (Aq (Ab (sv rfl (Ao B4 rfl (.lp _ _ _ rfl) (Nbl rfl)) (sv rfl (Aa Aqd rfl) (sv rfl (Ae ti3 rfl (.lp _ _ _ rfl) rfl) (sv rfl (Bk Z7 Aeb (Ap rfl (Ap rfl A9)) (.cons _ _ _ _ _ _ _ rfl rfl (Nbl rfl) (.cons _ _ _ _ _ _ _ rfl rfl (Nbl rfl) (.nil _)))) ?_)))))))))))))))))))))
  obtain ⟨v4, hv4, h⟩ := An h
  refine A1 rfl Ank (Ac rfl (Ac rfl Al)) (Nl rfl) (C5 hv4) (Ax Em rfl rfl rfl rfl (Nbl rfl) (Bt [.box (EL.el {v3 with Phase := 9, Risk := false}), .box (EL.el v4), .box (EL.el b2)] rfl (Ar (Bj ?_))))
  obtain rfl := SJ h
  refine ⟨Or.inr rfl, _, _, _, (Ad (Bc.agg _ _ _ _ _ B4 rfl (.lp _ _ _ rfl) (Nbl rfl)) Af), (Aj rfl), ?_⟩
  rfl
 ·skip
  refine ccI h rfl (fun h => ?_) (fun h => ?_)
  ·refine Ab (sv rfl (Aa Pu rfl) (sv rfl (Aa Oj rfl) (sv rfl (Ao At5 rfl (.lp _ _ _ rfl) (Nbl rfl)) (sv rfl (Aa Aoh rfl) (Ax Avj rfl rfl rfl rfl (Nbl rfl) (Bt [.box (EL.el a0), .box Zba, .box (EL.el (Ba.mk u1.Token a1 a0.Attempt a2 a0.St.Regs))] rfl (Ar ?_)))))))
   exact ⟨(Ba.mk u1.Token a1 a0.Attempt a2 a0.St.Regs), _, h, ⟨rfl, rfl, rfl, trivial⟩, rfl⟩
  ·refine Bl (Ai ?_)
   exact ⟨(Ba.mk u1.Token a1 a0.Attempt a2 (Ev.mk 0 0 0 0 0 0 0 0)), _, h, ⟨rfl, rfl, rfl, trivial⟩, rfl⟩
def Dl (a0 : Dk) (a1 : Int) (a2 : BitVec 64) : Option (Int × Bool) :=
 (Gz a0 a1).bind fun v1 => if (!v1.2) then (some (0, false)) else (if (BitVec.ofInt 64 (wI ((wI (v1.1.tdiv 2)) + 1))) ≠ 0 then (some ((wI (v1.1 + (wI (((((a2 + (BitVec.ofInt 64 a1)) * (11400714819323198485#64)) ^^^ (((a2 + (BitVec.ofInt 64 a1)) * (11400714819323198485#64)) >>> (32 : Int).toNat)) % (BitVec.ofInt 64 (wI ((wI (v1.1.tdiv 2)) + 1)))).toNat : Int)))), true)) else none)
theorem Sv {a0 : Dk} {a1 : Int} {a2 : BitVec 64} {r : Int × Bool} (h : Dl a0 a1 a2 = some r) : Bp Tryz.prog 129 [.agg (EL.el a0), .one (Ii6 a1), .one (.i .u64 (a2.toNat : Int))] (· = .tup [.one (Ii6 r.1), .one (.b r.2)]) := by
 unfold Dl at h
 refine A2 Tryz.func129 rfl (nt := 38) rfl (Nbl rfl) ?_
 intro w0 S0
 refine Aq (Ab (Je rfl rfl (sv rfl (Ak rfl) (sv rfl (Ak rfl) (Ar (Aq (Ab (sv rfl (Ao Aj9 rfl (.lp _ _ _ rfl) (Nbl rfl)) (sv rfl (Ah rfl) ?_)))))))))
 obtain ⟨v1, hv1, h⟩ := An h
 refine A1 rfl Aqo (Ac rfl (Ac rfl Al)) (Aj rfl) (K8 hv1) (sv rfl (Fs rfl) (sv rfl (A7 rfl rfl) (sv rfl (A7 rfl rfl) (sv rfl (Ak rfl) (sv rfl (Ak rfl) (Ar (Aq (Aq (Ab (sv rfl (Ah rfl) (sv rfl (B8 rfl) (Ar (ccI h rfl (fun h => ?_) (fun h => ?_))))))))))))))
 ·refine Aq (Ab (sv rfl (Ak rfl) (sv rfl (Ak rfl) (Ar (Bj (As ?_))))))
  obtain rfl := SJ h
  refine ⟨Or.inr rfl, _, _, _, (Ad (Bc.tmp _ _ rfl) (Ad (Bc.tmp _ _ rfl) Af)), (Aj rfl), ?_⟩
  rfl
 ·refine Bl (Ai (Aq (Ab (sv rfl (Ah rfl) (sv rfl (Ah rfl) (sv rfl (C3 rfl Tryz.underlying3 Tryz.underlying112 rfl) (sv rfl (Ach (a := a2) (b := (BitVec.ofInt 64 a1)) rfl rfl rfl rfl) (sv rfl (Acb (a := (a2 + (BitVec.ofInt 64 a1))) (b := 11400714819323198485#64) rfl rfl rfl rfl) (sv rfl (Ak rfl) (Ar (Aq (Ab (sv rfl (Ah rfl) (sv rfl (Ah rfl) ?_))))))))))))))
  refine sv rfl (Wx (a := ((a2 + (BitVec.ofInt 64 a1)) * (11400714819323198485#64))) rfl rfl rfl (by decide)) ?_
  refine sv rfl (Aa8 (a := ((a2 + (BitVec.ofInt 64 a1)) * (11400714819323198485#64))) (b := (((a2 + (BitVec.ofInt 64 a1)) * (11400714819323198485#64)) >>> (32 : Int).toNat)) rfl rfl rfl rfl) (sv rfl (Ak rfl) (Ar (Aq (Ab (sv rfl (Ah rfl) (sv rfl (Ah rfl) (sv rfl (Ah rfl) ?_)))))))
  refine sv rfl (Aim rfl rfl (by decide)) ?_
  refine sv rfl (B9 rfl rfl) (sv rfl (C3 rfl Tryz.underlying3 Tryz.underlying112 rfl) ?_)
  obtain ⟨hz2, h⟩ := D4 h
  refine sv rfl (Ab2 (a := (((a2 + (BitVec.ofInt 64 a1)) * (11400714819323198485#64)) ^^^ (((a2 + (BitVec.ofInt 64 a1)) * (11400714819323198485#64)) >>> (32 : Int).toNat))) (b := (BitVec.ofInt 64 (wI ((wI (v1.1.tdiv 2)) + 1)))) rfl rfl rfl rfl hz2) (sv rfl (Fx Tryz.underlying112 Tryz.underlying3 rfl) (sv rfl (B9 rfl rfl) (sv rfl (Ak rfl) (sv rfl (Ak rfl) (Ar (Bj ?_))))))
  obtain rfl := SJ h
  refine ⟨Or.inr rfl, _, _, _, (Ad (Bc.tmp _ _ rfl) (Ad (Bc.tmp _ _ rfl) Af)), (Aj rfl), ?_⟩
  rfl
def Cg (a0 : Ag) : Option Ag :=
 if (decide (a0.Cfg.Attempts ≤ a0.Attempt)) then ((Bu a0 3 0).bind fun v1 => some v1) else ((Dl a0.Cfg.Plan (if (wI (a0.Cfg.Plan.Tries - 1)) < (wI ((wI (a0.Attempt + 1)) - 1)) then (wI (a0.Cfg.Plan.Tries - 1)) else (wI ((wI (a0.Attempt + 1)) - 1))) (BitVec.ofInt 64 a0.Cfg.Who)).bind fun v2 => some ({a0 with Phase := 8, Attempt := (wI (a0.Attempt + 1)), Left := v2.1, Risk := false}))
theorem Ee {a0 : Ag} {r : Ag} (h : Cg a0 = some r) : Bp Tryz.prog 117 [.agg (EL.el a0)] (· = .s (.agg (EL.el r))) := by
 unfold Cg at h
 refine A2 Tryz.func117 rfl (nt := 41) rfl (Nbl rfl) ?_
 intro w0 S0
 refine Aq (Ab (Je rfl rfl (Bz rfl Nc (Ar (Aq (Aq (Ab (sv rfl (Aa Of rfl) (sv rfl (Ae ti3 rfl (.lp _ _ _ rfl) rfl) (sv rfl (Aa Qp rfl) (sv rfl (Aa Agp rfl) (sv rfl (Ae ti3 rfl (.lp _ _ _ rfl) rfl) (sv rfl (L9 rfl rfl) (Ar (ccI h rfl (fun h => ?_) (fun h => ?_))))))))))))))))
 ·refine Aq (Ab (sv rfl (Ao B4 rfl (.lp _ _ _ rfl) (Nbl rfl)) ?_))
  obtain ⟨v1, hv1, h⟩ := An h
  refine A1 rfl Aat (Ac rfl (Ac rfl (Ac rfl Al))) (Aj rfl) (Cc hv1) (Ax Em rfl rfl rfl rfl (Nbl rfl) (Bt [.box (EL.el a0), .box (EL.el v1)] rfl (Ar (Bj (As ?_)))))
  obtain rfl := SJ h
  refine ⟨Or.inr rfl, _, _, _, (Ad (Bc.agg _ _ _ _ _ B4 rfl (.lp _ _ _ rfl) (Nbl rfl)) Af), (Aj rfl), ?_⟩
  rfl
 ·refine Bl (Ai (Aq (Ab (sv rfl (Aa Of rfl) (sv rfl (Ae ti3 rfl (.lp _ _ _ rfl) rfl) (sv rfl (B9 rfl rfl) (sv rfl (Aa Of rfl) (Ax sz3 rfl rfl rfl rfl (Nbl rfl) (Bt [.box (EL.el {a0 with Attempt := wI (a0.Attempt + 1)}), .box Zba] rfl (Ar (Aq (Ab (sv rfl (Aa X1 rfl) (Ax sz4 rfl rfl rfl rfl (Nbl rfl) (Bt [.box (EL.el {a0 with Attempt := wI (a0.Attempt + 1), Risk := false}), .box Zba] rfl (Ar (Aq (Ab (sv rfl (Aa F7 rfl) (Ax sz3 rfl rfl rfl rfl (Nbl rfl) (Bt [.box (EL.el {a0 with Phase := 8, Attempt := wI (a0.Attempt + 1), Risk := false}), .box Zba] rfl (Ar (Aq (Ab (sv rfl (Aa Of rfl) (sv rfl (Ae ti3 rfl (.lp _ _ _ rfl) rfl) (sv rfl (My rfl rfl) (sv rfl (Aa Qp rfl) (sv rfl (Aa Wm rfl) (sv rfl (Aa Aaa rfl) (sv rfl (Ae ti3 rfl (.lp _ _ _ rfl) rfl) (sv rfl (My rfl rfl) (sv rfl (Ss rfl rfl) (sv rfl (Ak rfl) (Ar (Aq (Ab (sv rfl (Aa Qp rfl) (sv rfl (Aa Wm rfl) (sv rfl (Ao Aj9 rfl (.lp _ _ _ rfl) (Nbl rfl)) (sv rfl (Ah rfl) (sv rfl (Aa Qp rfl) (sv rfl (Aa Agk rfl) (sv rfl (Ae ti3 rfl (.lp _ _ _ rfl) rfl) (sv rfl (C3 rfl Tryz.underlying3 Tryz.underlying112 rfl) ?_)))))))))))))))))))))))))))))))))))))))))))))
  obtain ⟨v2, hv2, h⟩ := An h
  refine A1 rfl Aq0 (Ac rfl (Ac rfl (Ac rfl Al))) (Aj rfl) (Sv hv2) (sv rfl (Fs rfl) (sv rfl (A7 rfl rfl) (sv rfl (A7 rfl rfl) (sv rfl (Aa Q4 rfl) (Ax sz3 rfl rfl rfl rfl (Nbl rfl) (Bt [.box (EL.el {a0 with Phase := 8, Attempt := wI (a0.Attempt + 1), Left := v2.1, Risk := false}), .box Zba] rfl (Ar (Aq (Ab (sv rfl (Ao B4 rfl (.lp _ _ _ rfl) (Nbl rfl)) (Ax Em rfl rfl rfl rfl (Nbl rfl) (Bt [.box (EL.el {a0 with Phase := 8, Attempt := wI (a0.Attempt + 1), Left := v2.1, Risk := false}), .box (EL.el {a0 with Phase := 8, Attempt := wI (a0.Attempt + 1), Left := v2.1, Risk := false})] rfl (Ar (Bj ?_))))))))))))))
  obtain rfl := SJ h
  refine ⟨Or.inr rfl, _, _, _, (Ad (Bc.agg _ _ _ _ _ B4 rfl (.lp _ _ _ rfl) (Nbl rfl)) Af), (Aj rfl), ?_⟩
  rfl
def Db (a0 : Ag) (a1 : Int) : Option Ag :=
 if (decide (a1 = 7)) then ((D5 a0).bind fun v1 => some v1) else ((Cg a0).bind fun v2 => some v2)
theorem Kk {a0 : Ag} {a1 : Int} {r : Ag} (h : Db a0 a1 = some r) : Bp Tryz.prog 115 [.agg (EL.el a0), .one (Ii6 a1)] (· = .s (.agg (EL.el r))) := by
 unfold Db at h
 refine A2 Tryz.func115 rfl (nt := 11) rfl (Nbl rfl) ?_
 intro w0 S0
 refine Aq (Ab (Je rfl rfl (Bz rfl Nc (Ar (Aq (Aq (Ab (sv rfl (Ah rfl) (sv rfl (Bo rfl rfl) (Ar (ccI h rfl (fun h => ?_) (fun h => ?_))))))))))))
 ·refine Aq (Ab (sv rfl (Ao B4 rfl (.lp _ _ _ rfl) (Nbl rfl)) ?_))
  obtain ⟨v1, hv1, h⟩ := An h
  refine A1 rfl Aq6 (Ac rfl Al) (Aj rfl) (Jl hv1) (Ax Em rfl rfl rfl rfl (Nbl rfl) (Bt [.box (EL.el a0), .box (EL.el v1)] rfl (Ar (Bj (As ?_)))))
  obtain rfl := SJ h
  refine ⟨Or.inr rfl, _, _, _, (Ad (Bc.agg _ _ _ _ _ B4 rfl (.lp _ _ _ rfl) (Nbl rfl)) Af), (Aj rfl), ?_⟩
  rfl
 ·refine Bl (Ai (Aq (Ab (sv rfl (Ao B4 rfl (.lp _ _ _ rfl) (Nbl rfl)) ?_))))
  obtain ⟨v2, hv2, h⟩ := An h
  refine A1 rfl Agw (Ac rfl Al) (Aj rfl) (Ee hv2) (Ax Em rfl rfl rfl rfl (Nbl rfl) (Bt [.box (EL.el a0), .box (EL.el v2)] rfl (Ar (Bj ?_))))
  obtain rfl := SJ h
  refine ⟨Or.inr rfl, _, _, _, (Ad (Bc.agg _ _ _ _ _ B4 rfl (.lp _ _ _ rfl) (Nbl rfl)) Af), (Aj rfl), ?_⟩
  rfl
def J9 (a0 : B5) : Option Bool :=
 (Gg a0.What).bind fun v1 => some (!((v1.R0 == false) && ((v1.R1 == false) && ((v1.R2 == false) && true))))
theorem Py {a0 : B5} {r : Bool} (h : J9 a0 = some r) : Bp Tryz.prog 130 [.agg (EL.el a0)] (· = .s (.one (.b r))) := by
 unfold J9 at h
 refine A2 Tryz.func130 rfl (nt := 8) rfl (Nbl rfl) ?_
 intro w0 S0
 refine Aq (Ab (Je rfl rfl (sv rfl (Ak rfl) (Ar (Aq (Ab (sv rfl (Aa V3 rfl) (sv rfl (Ae ti3 rfl (.lp _ _ _ rfl) rfl) ?_))))))))
 obtain ⟨v1, hv1, h⟩ := An h
 refine A1 rfl Ao9 (Ac rfl Al) (Aj rfl) (N1 hv1) (sv rfl (G2 Zs Ab6 A9 (.nil _)) (sv rfl (Ac8 App rfl rfl rfl rfl rfl) (sv rfl (Ak rfl) (Ar (Bj ?_)))))
 obtain rfl := SJ h
 refine ⟨Or.inr rfl, _, _, _, (Ad (Bc.tmp _ _ rfl) Af), (Aj rfl), ?_⟩
 rfl
def Ns (a0 : Int) : Option (List UInt8) :=
 (Eg ([] : List UInt8) (BitVec.ofInt 64 a0) 4).bind fun v1 => some v1
theorem Wq {a0 : Int} {r : (List UInt8)} (h : Ns a0 = some r) : Bp Tryz.prog 140 [.one (Ii6 a0)] (· = .s (.one (.sl r.length (r.flatMap eU8)))) := by
 unfold Ns at h
 refine A2 Tryz.func140 rfl (nt := 6) rfl (Nbl rfl) ?_
 intro w0 S0
 refine Aq (Ab (sv rfl (Ak rfl) (Ar (Aq (Ab (sv rfl (Ah rfl) (sv rfl (C3 rfl Tryz.underlying3 Tryz.underlying112 rfl) ?_)))))))
 obtain ⟨v1, hv1, h⟩ := An h
 refine A1 rfl Aa1 (Ac rfl (Ac rfl (Ac rfl Al))) (Nl rfl) (Ej hv1) (sv rfl (Ak rfl) (Ar (Bj ?_)))
 obtain rfl := SJ h
 refine ⟨Or.inr rfl, _, _, _, (Ad (Bc.tmp _ _ rfl) Af), (Aj rfl), ?_⟩
 rfl
def Ec (a0 : B5) (a1 : A6) : Option B6 :=
 if (decide (a0.What = 1)) then (some (B6.mk 3 0 0 0 false a0.Key ([] : List UInt8) Bs)) else (if (decide (a0.What = 2)) then (if 0 ≤ a0.B ∧ a0.B < ((8 : Nat) : Int) then ((idx [a1.Regs.R0, a1.Regs.R1, a1.Regs.R2, a1.Regs.R3, a1.Regs.R4, a1.Regs.R5, a1.Regs.R6, a1.Regs.R7] a0.B).bind fun u2 => (Ns u2).bind fun v3 => some (B6.mk 4 0 0 0 false a0.Key v3 Bs)) else none) else (if (decide (a0.What = 3)) then (some (B6.mk 5 0 0 0 false a0.Key ([] : List UInt8) Bs)) else (some (B6.mk 6 0 0 0 false ([] : List UInt8) ([] : List UInt8) a0.Rng))))
theorem S6 {a0 : B5} {a1 : A6} {r : B6} (h : Ec a0 a1 = some r) : Bp Tryz.prog 135 [.agg (EL.el a0), .agg (EL.el a1)] (· = .s (.agg (EL.el r))) := by
 unfold Ec at h
 refine A2 Tryz.func135 rfl (nt := 31) rfl (Nbl rfl) ?_
 intro w0 S0
 refine Aq (Ab (Je rfl rfl (Je rfl rfl (Bz rfl Z7 (Ar (Aq (Aq (Ab (sv rfl (Aa V3 rfl) (sv rfl (Ae ti3 rfl (.lp _ _ _ rfl) rfl) (Ar (Ca (Aq (Ab (sv rfl (Bo rfl rfl) (sv rfl (Ak rfl) (Ar (ccI h rfl (fun h => ?_) (fun h => ?_)))))))))))))))))))
 ·refine Aq (Ab (sv rfl (Aa Zl rfl) (sv rfl (Ae L2 rfl (.lp _ _ _ rfl) rfl) (sv rfl (Bk Z7 Aeb (Ap rfl (Ap rfl A9)) (.cons _ _ _ _ _ _ _ rfl rfl (Nbl rfl) (.cons _ _ _ _ _ _ _ rfl rfl (Nbl rfl) (.nil _)))) (Ax Ahx rfl rfl rfl rfl (Nbl rfl) (Bt [.box (EL.el a0), .box (EL.el a1), .box [Ii6 3, Ii6 0, Ii6 0, Ii6 0, .b false, .sl a0.Key.length (a0.Key.flatMap eU8), Znl, Znl, Znl, .b false]] rfl (Ar (Bj (Bd (As ?_))))))))))
  obtain rfl := SJ h
  refine ⟨Or.inr rfl, _, _, _, (Ad (Bc.agg _ _ _ _ _ Aei rfl (.lp _ _ _ rfl) (Nbl rfl)) Af), (Nl rfl), ?_⟩
  rfl
 ·refine Aq (Ab (sv rfl (Bo rfl rfl) (sv rfl (Ak rfl) (Ar (ccI h rfl (fun h => ?_) (fun h => ?_))))))
  ·refine Aq ?_
   obtain ⟨hj1, h⟩ := D4 h
   obtain ⟨u2, hu2, h⟩ := An h
   obtain ⟨v3, hv3, h⟩ := An h
   refine Jq [9] [0, 1, 0, 4, 0, 28, 60, 124, 255, 511] [[.box (EL.el a0), .box (EL.el a1), .box Zbc], [.box (EL.el a0), .box (EL.el a1), .box [Ii6 4, Ii6 0, Ii6 0, Ii6 0, .b false, .sl a0.Key.length (a0.Key.flatMap eU8), .sl v3.length (v3.flatMap eU8), Znl, Znl, .b false]]] (by kernel_rfl) Lz (by kernel_rfl) (by decide) rfl rfl rfl rfl ?_
   refine ev (Bh 0 rfl rfl) rfl rfl (Aa Zl rfl) (ev (Bh 0 rfl rfl) rfl rfl (Ae L2 rfl (.lp _ _ _ rfl) rfl) (ev (Bh 0 rfl rfl) rfl rfl (Aa Xt rfl) (ev (Bh 0 rfl rfl) rfl rfl (Ae ti3 rfl (.lp _ _ _ rfl) rfl) (ev (Bh 0 rfl rfl) rfl rfl (Aa Oj rfl) (ev (Bh 0 rfl rfl) rfl rfl (L3 Aep rfl rfl hj1) (ev (Bh 0 rfl rfl) rfl rfl (Vk (fun x => Ii6 x) [.b a1.Stopped] ti3 rfl rfl rfl hu2) ?_))))))
   refine ed (Bh 0 rfl rfl) rfl rfl (Dy Ar1 (Ac rfl Al) rfl (Wq hv3)) (ev (Bh 0 rfl rfl) rfl rfl (Bk Z7 Aeb (Ap rfl (Ap rfl (Ap rfl A9))) (.cons _ _ _ _ _ _ _ rfl rfl (Nbl rfl) (.cons _ _ _ _ _ _ _ rfl rfl (Nbl rfl) (.cons _ _ _ _ _ _ _ rfl rfl (Nbl rfl) (.nil _))))) (ee0 0 rfl rfl rfl rfl (fun ζ => ?_) ?_))
   ·refine Ax Ahx rfl rfl rfl rfl (Nbl rfl) (Bt [.box (EL.el a0), .box (EL.el a1), .box [Ii6 4, Ii6 0, Ii6 0, Ii6 0, .b false, .sl a0.Key.length (a0.Key.flatMap eU8), .sl v3.length (v3.flatMap eU8), Znl, Znl, .b false]] rfl ?_)
    exact Rq
   refine Ys (Ai (Bj (Bd (As ?_))))
   obtain rfl := SJ h
   refine ⟨Or.inr rfl, _, _, _, (Ad (Bc.agg _ _ _ _ _ Aei rfl (.lp _ _ _ rfl) (Nbl rfl)) Af), (Nl rfl), ?_⟩
   rfl
  ·refine Aq (Ab (sv rfl (Bo rfl rfl) (sv rfl (Ak rfl) (Ar (ccI h rfl (fun h => ?_) (fun h => ?_))))))
   ·refine Aq (Ab (sv rfl (Aa Zl rfl) (sv rfl (Ae L2 rfl (.lp _ _ _ rfl) rfl) (sv rfl (Bk Z7 Aeb (Ap rfl (Ap rfl A9)) (.cons _ _ _ _ _ _ _ rfl rfl (Nbl rfl) (.cons _ _ _ _ _ _ _ rfl rfl (Nbl rfl) (.nil _)))) (Ax Ahx rfl rfl rfl rfl (Nbl rfl) (Bt [.box (EL.el a0), .box (EL.el a1), .box [Ii6 5, Ii6 0, Ii6 0, Ii6 0, .b false, .sl a0.Key.length (a0.Key.flatMap eU8), Znl, Znl, Znl, .b false]] rfl (Ar (Bj (Bd (As ?_))))))))))
    obtain rfl := SJ h
    refine ⟨Or.inr rfl, _, _, _, (Ad (Bc.agg _ _ _ _ _ Aei rfl (.lp _ _ _ rfl) (Nbl rfl)) Af), (Nl rfl), ?_⟩
    rfl
   ·refine Bl (A5 (Ai (Aq (Ab (sv rfl (Aa Aht rfl) (sv rfl (Ao Ajl rfl (.lp _ _ _ rfl) (Nbl rfl)) (sv rfl (Bk Z7 Aeb (Ap rfl (Ap rfl A9)) (.cons _ _ _ _ _ _ _ rfl rfl (Nbl rfl) (.cons _ _ _ _ _ _ _ rfl rfl (Nbl rfl) (.nil _)))) (Ax Ahx rfl rfl rfl rfl (Nbl rfl) (Bt [.box (EL.el a0), .box (EL.el a1), .box [Ii6 6, Ii6 0, Ii6 0, Ii6 0, .b false, Znl, Znl, .sl a0.Rng.Lo.length (a0.Rng.Lo.flatMap eU8), .sl a0.Rng.Hi.length (a0.Rng.Hi.flatMap eU8), .b a0.Rng.Open]] rfl (Ar (Bj ?_)))))))))))
    obtain rfl := SJ h
    refine ⟨Or.inr rfl, _, _, _, (Ad (Bc.agg _ _ _ _ _ Aei rfl (.lp _ _ _ rfl) (Nbl rfl)) Af), (Nl rfl), ?_⟩
    rfl
def Ia (a0 : Int) : Option Int :=
 some (wI ((BitVec.ofInt 32 a0).toNat : Int))
theorem Ol {a0 : Int} {r : Int} (h : Ia a0 = some r) : Bp Tryz.prog 138 [.one (Ii6 a0)] (· = .s (.one (Ii6 r))) := by
 unfold Ia at h
 refine A2 Tryz.func138 rfl (nt := 6) rfl (Nbl rfl) ?_
 intro w0 S0
 refine Aq (Ab (sv rfl (Ak rfl) (Ar (Aq (Ab (sv rfl (Ah rfl) (sv rfl (C3 rfl Tryz.underlying3 Tryz.underlying117 rfl) (sv rfl (Fx Tryz.underlying117 Tryz.underlying3 rfl) (sv rfl (Ak rfl) (Ar (Bj ?_)))))))))))
 obtain rfl := SJ h
 refine ⟨Or.inr rfl, _, _, _, (Ad (Bc.tmp _ _ rfl) Af), (Aj rfl), ?_⟩
 rfl
def Kv (a0 : B5) (a1 : A6) : Option A6 :=
 if (decide (a0.What = 5)) then (if 0 ≤ a0.A ∧ a0.A < ((8 : Nat) : Int) then ((Ib (Ev.mk a1.Regs.R0 a1.Regs.R1 a1.Regs.R2 a1.Regs.R3 a1.Regs.R4 a1.Regs.R5 a1.Regs.R6 a1.Regs.R7) a0.A a0.N).bind fun q2 => some (A6.mk (wI (a1.PC + 1)) q2 a1.Stopped)) else none) else (if (decide (a0.What = 6)) then (if 0 ≤ a0.A ∧ a0.A < ((8 : Nat) : Int) then ((idx [a1.Regs.R0, a1.Regs.R1, a1.Regs.R2, a1.Regs.R3, a1.Regs.R4, a1.Regs.R5, a1.Regs.R6, a1.Regs.R7] a0.A).bind fun u4 => if 0 ≤ a0.B ∧ a0.B < ((8 : Nat) : Int) then ((idx [a1.Regs.R0, a1.Regs.R1, a1.Regs.R2, a1.Regs.R3, a1.Regs.R4, a1.Regs.R5, a1.Regs.R6, a1.Regs.R7] a0.B).bind fun u6 => (Ia (wI ((wI (u4 + u6)) + a0.N))).bind fun v7 => if 0 ≤ a0.A ∧ a0.A < ((8 : Nat) : Int) then ((Ib (Ev.mk a1.Regs.R0 a1.Regs.R1 a1.Regs.R2 a1.Regs.R3 a1.Regs.R4 a1.Regs.R5 a1.Regs.R6 a1.Regs.R7) a0.A v7).bind fun q9 => some (A6.mk (wI (a1.PC + 1)) q9 a1.Stopped)) else none) else none) else none) else (if (decide (a0.What = 7)) then (if 0 ≤ a0.A ∧ a0.A < ((8 : Nat) : Int) then ((idx [a1.Regs.R0, a1.Regs.R1, a1.Regs.R2, a1.Regs.R3, a1.Regs.R4, a1.Regs.R5, a1.Regs.R6, a1.Regs.R7] a0.A).bind fun u11 => if (decide (u11 = 0)) then (some (A6.mk (wI ((wI (a1.PC + 1)) + a0.N)) a1.Regs a1.Stopped)) else (some (A6.mk (wI (a1.PC + 1)) a1.Regs a1.Stopped))) else none) else (if (decide (a0.What = 8)) then (some (A6.mk (wI (a1.PC + 1)) a1.Regs true)) else (some (A6.mk (wI (a1.PC + 1)) a1.Regs a1.Stopped)))))
theorem Ul {a0 : B5} {a1 : A6} {r : A6} (h : Kv a0 a1 = some r) : Bp Tryz.prog 136 [.agg (EL.el a0), .agg (EL.el a1)] (· = .s (.agg (EL.el r))) := by
 unfold Kv at h
 refine A2 Tryz.func136 rfl (nt := 58) rfl (Nbl rfl) ?_
 intro w0 S0
 refine Aq (Ab (Je rfl rfl (Je rfl rfl (Bz rfl Ahk (Ar (Aq (Ab (sv rfl (Aa Ou rfl) (sv rfl (Ae ti3 rfl (.lp _ _ _ rfl) rfl) (sv rfl (B9 rfl rfl) (sv rfl (Aa Ou rfl) (Ax sz3 rfl rfl rfl rfl (Nbl rfl) (Bt [.box (EL.el a0), .box (EL.el {a1 with PC := wI (a1.PC + 1)}), .box Zbb] rfl (Ar (Aq (Aq (Ab (sv rfl (Aa V3 rfl) (sv rfl (Ae ti3 rfl (.lp _ _ _ rfl) rfl) (Ar (Ca (Aq (Ab (sv rfl (Bo rfl rfl) (sv rfl (Ak rfl) (Ar (ccI h rfl (fun h => ?_) (fun h => ?_))))))))))))))))))))))))))))
 ·refine Ab (sv rfl (Aa Uz rfl) (sv rfl (Ae ti3 rfl (.lp _ _ _ rfl) rfl) (sv rfl (Aa Y5 rfl) (sv rfl (Ae ti3 rfl (.lp _ _ _ rfl) rfl) (sv rfl (Aa Oj rfl) ?_)))))
  obtain ⟨hj1, h⟩ := D4 h
  refine sv rfl (L3 Aep rfl rfl hj1) ?_
  obtain ⟨q2, hq2, h⟩ := An h
  refine Ax sz3 rfl rfl rfl rfl (Aas hj1 (Nbl rfl)) (Bt [.box (EL.el a0), .box [Ii6 (wI (a1.PC + 1)), Ii6 q2.R0, Ii6 q2.R1, Ii6 q2.R2, Ii6 q2.R3, Ii6 q2.R4, Ii6 q2.R5, Ii6 q2.R6, Ii6 q2.R7, .b a1.Stopped], .box Zbb] (Q0 (Ako hq2 [Ii6 (wI (a1.PC + 1))] [.b a1.Stopped])) (Ls (A5 (Ai (Aq (Ab (sv rfl (Ao Rz rfl (.lp _ _ _ rfl) (Nbl rfl)) (Ax W6 rfl rfl rfl rfl (Nbl rfl) (Bt [.box (EL.el a0), .box [Ii6 (wI (a1.PC + 1)), Ii6 q2.R0, Ii6 q2.R1, Ii6 q2.R2, Ii6 q2.R3, Ii6 q2.R4, Ii6 q2.R5, Ii6 q2.R6, Ii6 q2.R7, .b a1.Stopped], .box [Ii6 (wI (a1.PC + 1)), Ii6 q2.R0, Ii6 q2.R1, Ii6 q2.R2, Ii6 q2.R3, Ii6 q2.R4, Ii6 q2.R5, Ii6 q2.R6, Ii6 q2.R7, .b a1.Stopped]] rfl (Ar (Bj ?_)))))))))))
  obtain rfl := SJ h
  refine ⟨Or.inr rfl, _, _, _, (Ad (Bc.agg _ _ _ _ _ Rz rfl (.lp _ _ _ rfl) (Nbl rfl)) Af), (Aj rfl), ?_⟩
  rfl
 ·refine Aq (Ab (sv rfl (Bo rfl rfl) (sv rfl (Ak rfl) (Ar (ccI h rfl (fun h => ?_) (fun h => ?_))))))
  ·obtain ⟨hj3, h⟩ := D4 h
   obtain ⟨u4, hu4, h⟩ := An h
   obtain ⟨hj5, h⟩ := D4 h
   obtain ⟨u6, hu6, h⟩ := An h
   obtain ⟨v7, hv7, h⟩ := An h
   obtain ⟨hj8, h⟩ := D4 h
   obtain ⟨q9, hq9, h⟩ := An h
   refine Jq [19] [0, 1, 0, 4, 0, 28, 60, 0, 128, 0, 896, 1920, 4092, 0, 8192, 32764, 65532, 0, 262143, 524287] [[.box (EL.el a0), .box (EL.el {a1 with PC := wI (a1.PC + 1)}), .box Zbb], [.box (EL.el a0), .box [Ii6 (wI (a1.PC + 1)), Ii6 q9.R0, Ii6 q9.R1, Ii6 q9.R2, Ii6 q9.R3, Ii6 q9.R4, Ii6 q9.R5, Ii6 q9.R6, Ii6 q9.R7, .b a1.Stopped], .box Zbb]] (by kernel_rfl) Lz (by kernel_rfl) (by decide) rfl rfl rfl rfl ?_
   refine ev (Bh 0 rfl rfl) rfl rfl (Aa Uz rfl) (ev (Bh 0 rfl rfl) rfl rfl (Ae ti3 rfl (.lp _ _ _ rfl) rfl) (ev (Bh 0 rfl rfl) rfl rfl (Aa Uz rfl) (ev (Bh 0 rfl rfl) rfl rfl (Ae ti3 rfl (.lp _ _ _ rfl) rfl) (ev (Bh 0 rfl rfl) rfl rfl (Aa Oj rfl) (ev (Bh 0 rfl rfl) rfl rfl (L3 Aep rfl rfl hj3) (ev (Bh 0 rfl rfl) rfl rfl (Vk (fun x => Ii6 x) [.b a1.Stopped] ti3 rfl rfl rfl hu4) ?_))))))
   refine ev (Bh 0 rfl rfl) rfl rfl (Aa Xt rfl) (ev (Bh 0 rfl rfl) rfl rfl (Ae ti3 rfl (.lp _ _ _ rfl) rfl) (ev (Bh 0 rfl rfl) rfl rfl (Aa Oj rfl) (ev (Bh 0 rfl rfl) rfl rfl (L3 Aep rfl rfl hj5) (ev (Bh 0 rfl rfl) rfl rfl (Vk (fun x => Ii6 x) [.b a1.Stopped] ti3 rfl rfl rfl hu6) ?_))))
   refine ev (Bh 0 rfl rfl) rfl rfl (B9 rfl rfl) (ev (Bh 0 rfl rfl) rfl rfl (Aa Y5 rfl) (ev (Bh 0 rfl rfl) rfl rfl (Ae ti3 rfl (.lp _ _ _ rfl) rfl) (ev (Bh 0 rfl rfl) rfl rfl (B9 rfl rfl) (ed (Bh 0 rfl rfl) rfl rfl (Dy Aoz (Ac rfl Al) rfl (Ol hv7)) (ev (Bh 0 rfl rfl) rfl rfl (Aa Oj rfl) (ev (Bh 0 rfl rfl) rfl rfl (L3 Aep rfl rfl hj8) (ee0 0 rfl rfl rfl rfl (fun ζ => ?_) ?_)))))))
   ·refine Ax sz3 rfl rfl rfl rfl (Aas hj8 (Nbl rfl)) (Bt [.box (EL.el a0), .box [Ii6 (wI (a1.PC + 1)), Ii6 q9.R0, Ii6 q9.R1, Ii6 q9.R2, Ii6 q9.R3, Ii6 q9.R4, Ii6 q9.R5, Ii6 q9.R6, Ii6 q9.R7, .b a1.Stopped], .box Zbb] (Q0 (Ako hq9 [Ii6 (wI (a1.PC + 1))] [.b a1.Stopped])) ?_)
    exact Rq
   refine Ys (A5 (Ai (Aq (Ab (sv rfl (Ao Rz rfl (.lp _ _ _ rfl) (Nbl rfl)) (Ax W6 rfl rfl rfl rfl (Nbl rfl) (Bt [.box (EL.el a0), .box [Ii6 (wI (a1.PC + 1)), Ii6 q9.R0, Ii6 q9.R1, Ii6 q9.R2, Ii6 q9.R3, Ii6 q9.R4, Ii6 q9.R5, Ii6 q9.R6, Ii6 q9.R7, .b a1.Stopped], .box [Ii6 (wI (a1.PC + 1)), Ii6 q9.R0, Ii6 q9.R1, Ii6 q9.R2, Ii6 q9.R3, Ii6 q9.R4, Ii6 q9.R5, Ii6 q9.R6, Ii6 q9.R7, .b a1.Stopped]] rfl (Ar (Bj ?_)))))))))
   obtain rfl := SJ h
   refine ⟨Or.inr rfl, _, _, _, (Ad (Bc.agg _ _ _ _ _ Rz rfl (.lp _ _ _ rfl) (Nbl rfl)) Af), (Aj rfl), ?_⟩
   rfl
  ·refine Aq (Ab (sv rfl (Bo rfl rfl) (sv rfl (Ak rfl) (Ar (ccI h rfl (fun h => ?_) (fun h => ?_))))))
   ·refine Aq (Ab (sv rfl (Aa Uz rfl) (sv rfl (Ae ti3 rfl (.lp _ _ _ rfl) rfl) (sv rfl (Aa Oj rfl) ?_))))
    obtain ⟨hj10, h⟩ := D4 h
    refine sv rfl (L3 Aep rfl rfl hj10) ?_
    obtain ⟨u11, hu11, h⟩ := An h
    refine sv rfl (Vk (fun x => Ii6 x) [.b a1.Stopped] ti3 rfl rfl rfl hu11) ?_
    refine sv rfl (Bo rfl rfl) (Ar (ccI h rfl (fun h => ?_) (fun h => ?_)))
    ·refine Ab (sv rfl (Aa Ou rfl) (sv rfl (Ae ti3 rfl (.lp _ _ _ rfl) rfl) (sv rfl (Aa Y5 rfl) (sv rfl (Ae ti3 rfl (.lp _ _ _ rfl) rfl) (sv rfl (B9 rfl rfl) (sv rfl (Aa Ou rfl) (Ax sz3 rfl rfl rfl rfl (Nbl rfl) (Bt [.box (EL.el a0), .box (EL.el {a1 with PC := wI ((wI (a1.PC + 1)) + a0.N)}), .box Zbb] rfl (Ls (A5 (Ai (Aq (Ab (sv rfl (Ao Rz rfl (.lp _ _ _ rfl) (Nbl rfl)) (Ax W6 rfl rfl rfl rfl (Nbl rfl) (Bt [.box (EL.el a0), .box (EL.el {a1 with PC := wI ((wI (a1.PC + 1)) + a0.N)}), .box (EL.el {a1 with PC := wI ((wI (a1.PC + 1)) + a0.N)})] rfl (Ar (Bj ?_))))))))))))))))))
     obtain rfl := SJ h
     refine ⟨Or.inr rfl, _, _, _, (Ad (Bc.agg _ _ _ _ _ Rz rfl (.lp _ _ _ rfl) (Nbl rfl)) Af), (Aj rfl), ?_⟩
     rfl
    ·refine Bl (A5 (Ai (Aq (Ab (sv rfl (Ao Rz rfl (.lp _ _ _ rfl) (Nbl rfl)) (Ax W6 rfl rfl rfl rfl (Nbl rfl) (Bt [.box (EL.el a0), .box (EL.el {a1 with PC := wI (a1.PC + 1)}), .box (EL.el {a1 with PC := wI (a1.PC + 1)})] rfl (Ar (Bj ?_)))))))))
     obtain rfl := SJ h
     refine ⟨Or.inr rfl, _, _, _, (Ad (Bc.agg _ _ _ _ _ Rz rfl (.lp _ _ _ rfl) (Nbl rfl)) Af), (Aj rfl), ?_⟩
     rfl
   ·refine Aq (Ab (sv rfl (Bo rfl rfl) (sv rfl (Ak rfl) (Ar (ccI h rfl (fun h => ?_) (fun h => ?_))))))
    ·refine Ab (sv rfl (Aa Wf rfl) (Ax sz4 rfl rfl rfl rfl (Nbl rfl) (Bt [.box (EL.el a0), .box (EL.el (A6.mk (wI (a1.PC + 1)) a1.Regs true)), .box Zbb] rfl (Ls (A5 (Ai (Aq (Ab (sv rfl (Ao Rz rfl (.lp _ _ _ rfl) (Nbl rfl)) (Ax W6 rfl rfl rfl rfl (Nbl rfl) (Bt [.box (EL.el a0), .box (EL.el (A6.mk (wI (a1.PC + 1)) a1.Regs true)), .box (EL.el (A6.mk (wI (a1.PC + 1)) a1.Regs true))] rfl (Ar (Bj ?_)))))))))))))
     obtain rfl := SJ h
     refine ⟨Or.inr rfl, _, _, _, (Ad (Bc.agg _ _ _ _ _ Rz rfl (.lp _ _ _ rfl) (Nbl rfl)) Af), (Aj rfl), ?_⟩
     rfl
    ·refine Bl (A5 (Ai (Aq (Ab (sv rfl (Ao Rz rfl (.lp _ _ _ rfl) (Nbl rfl)) (Ax W6 rfl rfl rfl rfl (Nbl rfl) (Bt [.box (EL.el a0), .box (EL.el {a1 with PC := wI (a1.PC + 1)}), .box (EL.el {a1 with PC := wI (a1.PC + 1)})] rfl (Ar (Bj ?_)))))))))
     obtain rfl := SJ h
     refine ⟨Or.inr rfl, _, _, _, (Ad (Bc.agg _ _ _ _ _ Rz rfl (.lp _ _ _ rfl) (Nbl rfl)) Af), (Aj rfl), ?_⟩
     rfl
def Mz (a0 : Co) (b2 : A6) : Option (B6 × A6 × Bool) :=
 some (Om, (A6.mk (if (a0.Ops.length : Int) < b2.PC then (a0.Ops.length : Int) else b2.PC) b2.Regs b2.Stopped), false)
def Kx (a0 : Co) (s3 : A6) (b4 : Unit) : Option (LR (A6) (A6) (B6 × A6 × Bool)) :=
 (idx a0.Ops s3.PC).bind fun u5 => (J9 u5).bind fun v6 => if v6 then ((Ec u5 s3).bind fun v7 => some (.ret (v7, s3, true))) else ((Kv u5 s3).bind fun v8 => some (.cont v8))
def Gh (a0 : Co) (s3 : A6) : Option (LR (A6) (A6) (B6 × A6 × Bool)) :=
 if (decide (s3.PC < (a0.Ops.length : Int))) then (if (!s3.Stopped) then (Kx a0 s3 ()) else (some (.brk s3))) else (some (.brk s3))
def Lb (a0 : Co) (a1 : A6) (b1 : Unit) : Option (B6 × A6 × Bool) :=
 (Rv (Gh a0) fuel a1).bind fun x => match x with | .inl r => some r | .inr e9 => Mz a0 e9
def Fk (a0 : Co) (a1 : A6) : Option (B6 × A6 × Bool) :=
 (D0 a0).bind fun v10 => if (!v10) then (some (Om, a1, false)) else (if (decide (a1.PC < 0)) then (some (Om, a1, false)) else (Lb a0 a1 ()))
theorem Vf {a0 : Co} {a1 : A6} {r : B6 × A6 × Bool} (h : Fk a0 a1 = some r) : Bp Tryz.prog 127 [.agg (EL.el a0), .agg (EL.el a1)] (· = .tup [.agg (EL.el r.1), .agg (EL.el r.2.1), .one (.b r.2.2)]) := by
 unfold Fk at h
 refine A2 Tryz.func127 rfl (nt := 53) rfl (Nbl rfl) ?_
 intro w0 S0
 refine Aq (Ab (Je rfl rfl (Je rfl rfl (Bz rfl Z7 (Bz rfl Ahk (sv rfl (Ak rfl) (Ar (Aq (Aq (Ki (Unit) (fun b1 => [(2, .s (.one (.lp 0 0))), (3, .s (.one (.lp 1 0))), (4, .s (.one (.lp 2 0))), (5, .s (.one (.lp 3 0)))]) (fun b1 => [.box (EL.el a0), .box (EL.el a1), .box Zbc, .box Zbb]) (fun b1 => Lb a0 a1 b1 = some r) (fun _ _ => Bg rfl) (fun _ _ => A0 rfl) (fun _ _ => Nbl rfl) (fun b1 h => ?_) ?_))))))))))
 ·unfold Lb at h
  refine Aq (G5 (A6) (fun b2 => [(2, .s (.one (.lp 0 0))), (3, .s (.one (.lp 1 0))), (4, .s (.one (.lp 2 0))), (5, .s (.one (.lp 3 0)))]) (fun b2 => [.box (EL.el a0), .box (EL.el b2), .box Zbc, .box Zbb]) (fun b2 => Mz a0 b2 = some r) (fun _ _ => Bg rfl) (fun _ _ => A0 rfl) (fun _ _ => Nbl rfl) (fun b2 h => ?_) ?_)
  ·unfold Mz at h
   refine Aq (Ab (sv rfl (Aa Ou rfl) (sv rfl (Ae ti3 rfl (.lp _ _ _ rfl) rfl) (sv rfl (Aa Rx rfl) (sv rfl (Ae Aja rfl (.lp _ _ _ rfl) rfl) (sv rfl (Az Ah7 rfl) (sv rfl (Ss rfl rfl) (sv rfl (Aa Ou rfl) (Ax sz3 rfl rfl rfl rfl (Nbl rfl) (Bt [.box (EL.el a0), .box (EL.el {b2 with PC := if (a0.Ops.length : Int) < b2.PC then (a0.Ops.length : Int) else b2.PC}), .box Zbc, .box Zbb] rfl (Ar (Aq ?_))))))))))))
   refine Jq [2, 3] [0, 0, 1, 7, 15] [[.box (EL.el a0), .box (EL.el {b2 with PC := if (a0.Ops.length : Int) < b2.PC then (a0.Ops.length : Int) else b2.PC}), .box Zbc, .box Zbb], [.box (EL.el a0), .box (EL.el {b2 with PC := if (a0.Ops.length : Int) < b2.PC then (a0.Ops.length : Int) else b2.PC}), .box Zbc, .box Zbb], [.box (EL.el a0), .box (EL.el {b2 with PC := if (a0.Ops.length : Int) < b2.PC then (a0.Ops.length : Int) else b2.PC}), .box Zbc, .box (EL.el {b2 with PC := if (a0.Ops.length : Int) < b2.PC then (a0.Ops.length : Int) else b2.PC})]] (by kernel_rfl) Lz (by kernel_rfl) (by decide) rfl rfl rfl rfl ?_
   refine ev (Bh 0 rfl rfl) rfl rfl (Bk Z7 Aeb A9 (.nil _)) (ev (B3 (md := [.box (EL.el a0), .box (EL.el {b2 with PC := if (a0.Ops.length : Int) < b2.PC then (a0.Ops.length : Int) else b2.PC}), .box Zbc, .dead]) ⟨⟨rfl, ⟨rfl, ⟨rfl, ⟨trivial, trivial⟩⟩⟩⟩, ⟨⟨rfl, ⟨rfl, ⟨rfl, ⟨trivial, trivial⟩⟩⟩⟩, ⟨⟨rfl, ⟨rfl, ⟨rfl, ⟨trivial, trivial⟩⟩⟩⟩, trivial⟩⟩⟩) rfl rfl (Ao Rz rfl (.lp _ _ _ rfl) (Nbl rfl)) (ee0 0 rfl rfl rfl rfl (fun ζ => ?_) ?_))
   ·refine Ax Ahx rfl rfl rfl rfl (Nbl rfl) (Bt [.box (EL.el a0), .box (EL.el {b2 with PC := if (a0.Ops.length : Int) < b2.PC then (a0.Ops.length : Int) else b2.PC}), .box Zbc, .box Zbb] rfl ?_)
    exact Rq
   refine ee0 1 rfl rfl rfl rfl (fun ζ => ?_) ?_
   ·refine Ax W6 rfl rfl rfl rfl (Nbl rfl) (Bt [.box (EL.el a0), .box (EL.el {b2 with PC := if (a0.Ops.length : Int) < b2.PC then (a0.Ops.length : Int) else b2.PC}), .box Zbc, .box (EL.el {b2 with PC := if (a0.Ops.length : Int) < b2.PC then (a0.Ops.length : Int) else b2.PC})] rfl ?_)
    exact Rq
   refine ev (Bh 2 rfl rfl) rfl rfl (Ak rfl) (Ys (Ai (Bj ?_)))
   obtain rfl := SJ h
   refine ⟨Or.inr rfl, _, _, _, (Ad (Bc.agg _ _ _ _ _ Aei rfl (.lp _ _ _ rfl) (Nbl rfl)) (Ad (Bc.agg _ _ _ _ _ Rz rfl (.lp _ _ _ rfl) (Nbl rfl)) (Ad (Bc.tmp _ _ rfl) Af))), (Nl rfl), ?_⟩
   rfl
  ·skip
   refine Ca ?_
   obtain ⟨x3, hx3, ho3⟩ := An h
   refine De (G := Nat × (A6)) (fun g => [(2, .s (.one (.lp 0 0))), (3, .s (.one (.lp 1 0))), (4, .s (.one (.lp 2 0))), (5, .s (.one (.lp 3 0)))]) (fun g => [.box (EL.el a0), .box (EL.el g.2), .box Zbc, .box Zbb]) (fun g => Rv (Gh a0) g.1 g.2 = some x3) (fun g => g.1) (fuel, a1) hx3 ⟨rfl, rfl, rfl, rfl, trivial⟩ [] rfl (fun _ _ => Bg rfl) (fun _ _ => A0 rfl) (fun _ _ => Nbl rfl) ?_
   clear hx3 h
   rintro ⟨n3, s3⟩ h
   obtain ⟨n3, y3, rfl, h, hk3⟩ := Oz h
   unfold Gh at h
   refine Aq (Aq (Ki (Unit) (fun b4 => [(2, .s (.one (.lp 0 0))), (3, .s (.one (.lp 1 0))), (4, .s (.one (.lp 2 0))), (5, .s (.one (.lp 3 0)))]) (fun b4 => [.box (EL.el a0), .box (EL.el s3), .box Zbc, .box Zbb]) (fun b4 => Kx a0 s3 b4 = some y3) (fun _ _ => Bg rfl) (fun _ _ => A0 rfl) (fun _ _ => Nbl rfl) (fun b4 h => ?_) ?_))
   ·unfold Kx at h
    refine Ca (Aq (Ab (sv rfl (Aa Rx rfl) (sv rfl (Ae Aja rfl (.lp _ _ _ rfl) rfl) (sv rfl (Aa Ou rfl) (sv rfl (Ae ti3 rfl (.lp _ _ _ rfl) rfl) ?_))))))
    obtain ⟨u5, hu5, h⟩ := An h
    refine sv rfl (Fm (f := Cf) Ah7 (fun _ => rfl) rfl rfl rfl rfl hu5) ?_
    refine sv rfl (Dj (ys := [Ii6 u5.What, Ii6 u5.A, Ii6 u5.B, Ii6 u5.N, .sl u5.Key.length (u5.Key.flatMap eU8), .sl u5.Rng.Lo.length (u5.Rng.Lo.flatMap eU8), .sl u5.Rng.Hi.length (u5.Rng.Hi.flatMap eU8), .b u5.Rng.Open]) Ak5 rfl (.cp _) rfl rfl) (Bz rfl Aps (Ax Aq7 rfl rfl rfl rfl (Nbl rfl) (Bt [.box (EL.el a0), .box (EL.el s3), .box Zbc, .box Zbb, .box (EL.el u5)] rfl (Ar (Aq (Aq (Ab (sv rfl (Ao Ak5 rfl (.lp _ _ _ rfl) (Nbl rfl)) ?_))))))))
    obtain ⟨v6, hv6, h⟩ := An h
    refine A1 rfl An8 (Ac rfl Al) (Aj rfl) (Py hv6) (Ar (ccI h rfl (fun h => ?_) (fun h => ?_)))
    ·refine Aq ?_
     obtain ⟨v7, hv7, h⟩ := An h
     refine Jq [4, 5] [0, 0, 3, 0, 7, 31, 63] [[.box (EL.el a0), .box (EL.el s3), .box Zbc, .box Zbb, .box (EL.el u5)], [.box (EL.el a0), .box (EL.el s3), .box (EL.el v7), .box Zbb, .box (EL.el u5)], [.box (EL.el a0), .box (EL.el s3), .box (EL.el v7), .box (EL.el s3), .box (EL.el u5)]] (by kernel_rfl) Lz (by kernel_rfl) (by decide) rfl rfl rfl rfl ?_
     refine ev (Bh 0 rfl rfl) rfl rfl (Ao Ak5 rfl (.lp _ _ _ rfl) (Nbl rfl)) (ev (Bh 0 rfl rfl) rfl rfl (Ao Rz rfl (.lp _ _ _ rfl) (Nbl rfl)) (ed (Bh 0 rfl rfl) rfl rfl (Dy As0 (Ac rfl (Ac rfl Al)) rfl (S6 hv7)) (ev (B3 (md := [.box (EL.el a0), .box (EL.el s3), .dead, .dead, .box (EL.el u5)]) ⟨⟨rfl, ⟨rfl, ⟨trivial, ⟨trivial, ⟨rfl, trivial⟩⟩⟩⟩⟩, ⟨⟨rfl, ⟨rfl, ⟨trivial, ⟨trivial, ⟨rfl, trivial⟩⟩⟩⟩⟩, ⟨⟨rfl, ⟨rfl, ⟨trivial, ⟨trivial, ⟨rfl, trivial⟩⟩⟩⟩⟩, trivial⟩⟩⟩) rfl rfl (Ao Rz rfl (.lp _ _ _ rfl) (Nbl rfl)) (ee0 0 rfl rfl rfl rfl (fun ζ => ?_) ?_))))
     ·refine Ax Ahx rfl rfl rfl rfl (Nbl rfl) (Bt [.box (EL.el a0), .box (EL.el s3), .box (EL.el v7), .box Zbb, .box (EL.el u5)] rfl ?_)
      exact Rq
     refine ee0 1 rfl rfl rfl rfl (fun ζ => ?_) ?_
     ·refine Ax W6 rfl rfl rfl rfl (Nbl rfl) (Bt [.box (EL.el a0), .box (EL.el s3), .box (EL.el v7), .box (EL.el s3), .box (EL.el u5)] rfl ?_)
      exact Rq
     refine ev (Bh 2 rfl rfl) rfl rfl (Ak rfl) (Ys (Ai (Bj (As (Bd (As (Bd (As ?_))))))))
     obtain rfl := SJ h
     obtain rfl : Sum.inl _ = x3 := hk3
     replace ho3 : some _ = some _ := ho3
     obtain rfl := Option.some.inj ho3
     refine ⟨Or.inr rfl, _, _, _, (Ad (Bc.agg _ _ _ _ _ Aei rfl (.lp _ _ _ rfl) (Nbl rfl)) (Ad (Bc.agg _ _ _ _ _ Rz rfl (.lp _ _ _ rfl) (Nbl rfl)) (Ad (Bc.tmp _ _ rfl) Af))), (Aj rfl), ?_⟩
     rfl
    ·refine Bl (Ai (Ab (sv rfl (Ao Ak5 rfl (.lp _ _ _ rfl) (Nbl rfl)) (sv rfl (Ao Rz rfl (.lp _ _ _ rfl) (Nbl rfl)) ?_))))
     obtain ⟨v8, hv8, h⟩ := An h
     refine A1 rfl Aso (Ac rfl (Ac rfl Al)) (Aj rfl) (Ul hv8) (Ax W6 rfl rfl rfl rfl (Nbl rfl) (Bt [.box (EL.el a0), .box (EL.el v8), .box Zbc, .box Zbb, .box (EL.el u5)] rfl (Ls (A5 (Ai ?_)))))
     obtain rfl := SJ h
     exact ⟨(n3, v8), _, hk3, ⟨rfl, rfl, rfl, rfl, trivial⟩, rfl, Nat.lt_succ_self _⟩
   ·skip
    refine Ab (sv rfl (Aa Ou rfl) (sv rfl (Ae ti3 rfl (.lp _ _ _ rfl) rfl) (sv rfl (Aa Rx rfl) (sv rfl (Ae Aja rfl (.lp _ _ _ rfl) rfl) (sv rfl (Az Ah7 rfl) (sv rfl (Cs rfl rfl) (sv rfl (Ah rfl) (Bq 24 rfl (fun hc => ?_) (fun hc => ?_)))))))))
    ·replace h := B1 hc h
     clear hc
     refine son rfl rfl rfl (sv rfl (Aa Wf rfl) (son rfl rfl rfl (sv rfl (Ae ti4 rfl (.lp _ _ _ rfl) rfl) (son rfl rfl rfl (sv rfl (B8 rfl) (sv rfl (Au rfl rfl) (Ar (ccI h rfl (fun h => ?_) (fun h => ?_)))))))))
     ·refine Bl (Ai ?_)
      exact ⟨(), _, h, ⟨rfl, rfl, rfl, rfl, trivial⟩, rfl⟩
     ·refine Lw (Bi (Bi (Ck (Ai ?_))))
      obtain rfl := SJ h
      obtain rfl : _ = x3 := hk3
      exact ⟨s3, _, ho3, ⟨rfl, rfl, rfl, rfl, trivial⟩, rfl⟩
    ·replace h := B0 hc h
     clear hc
     refine Aw rfl rfl rfl rfl (Aw rfl rfl rfl rfl (Aw rfl rfl rfl rfl (sv rfl (Am rfl rfl) (Ar (Hy rfl (fun hx => Bool.noConfusion hx) (fun _ => ?_))))))
     refine Lw (Bi (Bi (Ck (Ai ?_))))
     obtain rfl := SJ h
     obtain rfl : _ = x3 := hk3
     exact ⟨s3, _, ho3, ⟨rfl, rfl, rfl, rfl, trivial⟩, rfl⟩
 ·skip
  refine Ab (sv rfl (Ao Alu rfl (.lp _ _ _ rfl) (Nbl rfl)) ?_)
  obtain ⟨v10, hv10, h⟩ := An h
  refine A1 rfl Asr (Ac rfl Al) (Aj rfl) (Od hv10) (sv rfl (B8 rfl) (sv rfl (Ah rfl) (Bq 11 rfl (fun hc => ?_) (fun hc => ?_))))
  ·replace h := B1 hc h
   clear hc
   refine Aw rfl rfl rfl rfl (Aw rfl rfl rfl rfl (Aw rfl rfl rfl rfl (sv rfl (Au rfl rfl) (Ar (Hy rfl (fun _ => ?_) (fun hx => Bool.noConfusion hx))))))
   refine Aq ?_
   refine Jq [2, 3] [0, 0, 1, 7, 15] [[.box (EL.el a0), .box (EL.el a1), .box Zbc, .box Zbb], [.box (EL.el a0), .box (EL.el a1), .box Zbc, .box Zbb], [.box (EL.el a0), .box (EL.el a1), .box Zbc, .box (EL.el a1)]] (by kernel_rfl) Lz (by kernel_rfl) (by decide) rfl rfl rfl rfl ?_
   refine ev (Bh 0 rfl rfl) rfl rfl (Bk Z7 Aeb A9 (.nil _)) (ev (B3 (md := [.box (EL.el a0), .box (EL.el a1), .box Zbc, .dead]) ⟨⟨rfl, ⟨rfl, ⟨rfl, ⟨trivial, trivial⟩⟩⟩⟩, ⟨⟨rfl, ⟨rfl, ⟨rfl, ⟨trivial, trivial⟩⟩⟩⟩, ⟨⟨rfl, ⟨rfl, ⟨rfl, ⟨trivial, trivial⟩⟩⟩⟩, trivial⟩⟩⟩) rfl rfl (Ao Rz rfl (.lp _ _ _ rfl) (Nbl rfl)) (ee0 0 rfl rfl rfl rfl (fun ζ => ?_) ?_))
   ·refine Ax Ahx rfl rfl rfl rfl (Nbl rfl) (Bt [.box (EL.el a0), .box (EL.el a1), .box Zbc, .box Zbb] rfl ?_)
    exact Rq
   refine ee0 1 rfl rfl rfl rfl (fun ζ => ?_) ?_
   ·refine Ax W6 rfl rfl rfl rfl (Nbl rfl) (Bt [.box (EL.el a0), .box (EL.el a1), .box Zbc, .box (EL.el a1)] rfl ?_)
    exact Rq
   refine ev (Bh 2 rfl rfl) rfl rfl (Ak rfl) (Ys (Ai (Bj (As ?_))))
   obtain rfl := SJ h
   refine ⟨Or.inr rfl, _, _, _, (Ad (Bc.agg _ _ _ _ _ Aei rfl (.lp _ _ _ rfl) (Nbl rfl)) (Ad (Bc.agg _ _ _ _ _ Rz rfl (.lp _ _ _ rfl) (Nbl rfl)) (Ad (Bc.tmp _ _ rfl) Af))), (Nl rfl), ?_⟩
   rfl
  ·replace h := B0 hc h
   clear hc
   refine son rfl rfl rfl (sv rfl (Aa Ou rfl) (son rfl rfl rfl (sv rfl (Ae ti3 rfl (.lp _ _ _ rfl) rfl) (son rfl rfl rfl (sv rfl (Cs rfl rfl) (sv rfl (Am rfl rfl) (Ar (ccI h rfl (fun h => ?_) (fun h => ?_)))))))))
   ·refine Aq ?_
    refine Jq [2, 3] [0, 0, 1, 7, 15] [[.box (EL.el a0), .box (EL.el a1), .box Zbc, .box Zbb], [.box (EL.el a0), .box (EL.el a1), .box Zbc, .box Zbb], [.box (EL.el a0), .box (EL.el a1), .box Zbc, .box (EL.el a1)]] (by kernel_rfl) Lz (by kernel_rfl) (by decide) rfl rfl rfl rfl ?_
    refine ev (Bh 0 rfl rfl) rfl rfl (Bk Z7 Aeb A9 (.nil _)) (ev (B3 (md := [.box (EL.el a0), .box (EL.el a1), .box Zbc, .dead]) ⟨⟨rfl, ⟨rfl, ⟨rfl, ⟨trivial, trivial⟩⟩⟩⟩, ⟨⟨rfl, ⟨rfl, ⟨rfl, ⟨trivial, trivial⟩⟩⟩⟩, ⟨⟨rfl, ⟨rfl, ⟨rfl, ⟨trivial, trivial⟩⟩⟩⟩, trivial⟩⟩⟩) rfl rfl (Ao Rz rfl (.lp _ _ _ rfl) (Nbl rfl)) (ee0 0 rfl rfl rfl rfl (fun ζ => ?_) ?_))
    ·refine Ax Ahx rfl rfl rfl rfl (Nbl rfl) (Bt [.box (EL.el a0), .box (EL.el a1), .box Zbc, .box Zbb] rfl ?_)
     exact Rq
    refine ee0 1 rfl rfl rfl rfl (fun ζ => ?_) ?_
    ·refine Ax W6 rfl rfl rfl rfl (Nbl rfl) (Bt [.box (EL.el a0), .box (EL.el a1), .box Zbc, .box (EL.el a1)] rfl ?_)
     exact Rq
    refine ev (Bh 2 rfl rfl) rfl rfl (Ak rfl) (Ys (Ai (Bj (As ?_))))
    obtain rfl := SJ h
    refine ⟨Or.inr rfl, _, _, _, (Ad (Bc.agg _ _ _ _ _ Aei rfl (.lp _ _ _ rfl) (Nbl rfl)) (Ad (Bc.agg _ _ _ _ _ Rz rfl (.lp _ _ _ rfl) (Nbl rfl)) (Ad (Bc.tmp _ _ rfl) Af))), (Nl rfl), ?_⟩
    rfl
   ·refine Bl (Ai ?_)
    exact ⟨(), _, h, ⟨rfl, rfl, rfl, rfl, trivial⟩, rfl⟩
def Iw (a0 : Int) (b1 : Unit) : Option (List A4) :=
 if (decide (0 < (wI (a0 - (wI (0 - 0)))))) then (if 0 < (wI (a0 - (wI (0 - 0)))) ∧ (wI (a0 - (wI (0 - 0)))) * ((80 : Nat) : Int) ≤ 281474976710656 then (if (0 : Int) ≤ 0 ∧ 0 ≤ ((List.replicate (wI (a0 - (wI (0 - 0)))).toNat Mm).length : Int) then (some ((List.replicate (wI (a0 - (wI (0 - 0)))).toNat Mm).take (0 : Int).toNat)) else none) else none) else (some ([] : List A4))
def I3 (a0 : Int) : Option (List A4) :=
 if (decide (a0 < 0)) then none else (Iw a0 ())
theorem Sx {a0 : Int} {r : (List A4)} (h : I3 a0 = some r) : Gs Tryz.prog 137 [] [.one (Znl), .one (Ii6 a0)] (fun y m' => y = .s (.one (.ls 0 r.length)) ∧ m' = [.arr 64 10 0 (r.flatMap Bb)]) := by
 unfold I3 at h
 refine Cv Tryz.func137 rfl (nt := 27) rfl (Nbl rfl) ?_
 intro w0 S0 X0 H0
 refine Aq (Ab (sv rfl (Ak rfl) (Ar (Aq (Aq (Ab (sv rfl (Ah rfl) (sv rfl (Cs rfl rfl) (Ar (G5 (Unit) (fun b1 => [(0, .s (.one (Znl))), (1, .s (.one (Ii6 a0)))]) (fun b1 => []) (fun b1 => Iw a0 b1 = some r) (fun _ _ => Bg rfl) (fun _ _ => A0 rfl) (fun _ _ => Nbl rfl) (fun b1 h => ?_) ?_))))))))))
 ·unfold Iw at h
  refine Aq (Aq (Ab (sv rfl (Ah rfl) (sv rfl (Ah rfl) (sv rfl (Kq Ak0 rfl) (sv rfl (Ah rfl) (sv rfl (Ko Ak0 rfl) (sv rfl (My rfl rfl) (sv rfl (My rfl rfl) (sv rfl (Ak rfl) (Ar (Aq (Ab (sv rfl (Ah rfl) (sv rfl (Dg rfl rfl) (Ar (ccI h rfl (fun h => ?_) (fun h => ?_))))))))))))))))))
  ·refine Ab (sv rfl (Ah rfl) (sv rfl (Ah rfl) (sv rfl (Kq Ak0 rfl) (sv rfl (Nt Ak0 rfl rfl) (sv rfl (Ah rfl) ?_)))))
   obtain ⟨hm2, h⟩ := D4 h
   refine Alb (f := Bb) (z := Mm) rfl Tryz.underlying42 Aro Tryz.underlying3 (fun _ => rfl) rfl rfl rfl hm2 (by decide) ?_
   refine sv rfl (Ah rfl) (sv rfl (Ko Ak0 rfl) ?_)
   obtain ⟨hs3, h⟩ := D4 h
   refine Acq (f := Bb) rfl Ak0 (fun _ => rfl) rfl rfl rfl rfl rfl hs3 ?_
   refine sv rfl (Ak rfl) (Ar (Aq (Ab (sv rfl (Ah rfl) (sv rfl (Ak rfl) (Ar (Bj ?_)))))))
   obtain rfl := SJ h
   exact ⟨Or.inr rfl, _, [1], [.one (.ls 0 ((List.replicate (wI (a0 - (wI (0 - 0)))).toNat Mm).take (0 : Int).toNat).length)], [.arr 64 10 0 (((List.replicate (wI (a0 - (wI (0 - 0)))).toNat Mm).take (0 : Int).toNat).flatMap Bb)], (Ad (Bc.tmp _ _ rfl) Af), rfl, rfl, ⟨by decide, rfl⟩, rfl, rfl, ⟨rfl, rfl⟩⟩
  ·refine Bl (Ai (Aq (Ab (sv rfl (Ah rfl) (sv rfl (Ak rfl) (Ar ?_))))))
   refine Ov 64 10 4 (by decide) rfl ?_
   refine Bj ?_
   obtain rfl := SJ h
   exact ⟨Or.inr rfl, _, [0], [.one (.ls 0 ([] : List A4).length)], [.arr 64 10 0 (([] : List A4).flatMap Bb)], (Ad (Bc.tmp _ _ rfl) Af), rfl, rfl, ⟨by decide, rfl⟩, rfl, rfl, ⟨rfl, rfl⟩⟩
 ·skip
  refine ccI h rfl (fun h => ?_) (fun h => ?_)
  ·cases h
  ·refine Bl (Ai ?_)
   exact ⟨(), _, h, ⟨rfl, rfl, trivial⟩, rfl⟩
def Kd (b3 : (List A4)) : Option (List A4) :=
 some b3
def Et (a0 : List (List A4)) (s4 : Int × (List A4)) : Option (LB (Int × (List A4)) ((List A4))) :=
 if (decide (s4.1 < (a0.length : Int))) then ((idx a0 s4.1).bind fun u5 => if (s4.2.length + u5.length) * 80 ≤ 140737488355328 then (some (.cont ((wI (s4.1 + 1)), (s4.2 ++ u5)))) else none) else (some (.brk s4.2))
def H6 (a0 : List (List A4)) (b1 : Int) : Option (List A4) :=
 (I3 b1).bind fun v2 => (Ez (Et a0) fuel (0, v2)).bind fun e7 => Kd e7
def Eo (a0 : List (List A4)) (s8 : Int × Int) : Option (LB (Int × Int) (Int)) :=
 if (decide (s8.2 < (a0.length : Int))) then ((idx a0 s8.2).bind fun u9 => if (decide ((wI (s8.1 + (u9.length : Int))) < 0)) then none else (some (.cont ((wI (s8.1 + (u9.length : Int))), (wI (s8.2 + 1)))))) else (some (.brk s8.1))
def Hw (a0 : List (List A4)) : Option (List A4) :=
 (Ez (Eo a0) fuel (0, 0)).bind fun e10 => H6 a0 e10
theorem Qf {a0 : List (List A4)} {r : (List A4)} (h : Hw a0 = some r) : Gs Tryz.prog 128 [] [.one (.sl a0.length (a0.flatMap (eL Bb)))] (fun y m' => y = .s (.one (.ls 0 r.length)) ∧ m' = [.arr 64 10 0 (r.flatMap Bb)]) := by
 unfold Hw at h
 refine Cv Tryz.func128 rfl (nt := 36) rfl (Nbl rfl) ?_
 intro w0 S0 X0 H0
 refine Aq (Ab (sv rfl (Ak rfl) (Ar (Aq (Ab (sv rfl (Ak rfl) (Ar (Aq (Aq (Ab (sv rfl (Ah rfl) (sv rfl (Az Ajn rfl) (sv rfl (Ah rfl) (Ar (G5 (Int) (fun b1 => [(0, .s (.one (.sl a0.length (a0.flatMap (eL Bb))))), (3, .s (.one (Ii6 b1)))]) (fun b1 => []) (fun b1 => H6 a0 b1 = some r) (fun _ _ => Bg rfl) (fun _ _ => A0 rfl) (fun _ _ => Nbl rfl) (fun b1 h => ?_) ?_)))))))))))))))
 ·unfold H6 at h
  refine Aq (Ab (sv rfl (Ah rfl) ?_))
  obtain ⟨v2, hv2, h⟩ := An h
  refine C2 (x' := .s (.one (.ls 0 v2.length))) (M' := [.arr 64 10 0 (v2.flatMap Bb)]) [] rfl Arp (.func _) (Ac rfl (Ac rfl Al)) (Sx hv2) rfl rfl (by decide) rfl rfl rfl ?_
  refine sv rfl (Ak rfl) (Ar (Aq (Aq (Ab (sv rfl (Ah rfl) (sv rfl (Az Ajn rfl) (sv rfl (Ah rfl) (Ar (G5 ((List A4)) (fun b3 => [(6, .s (.one (.ls 0 b3.length)))]) (fun b3 => [.arr 64 10 0 (b3.flatMap Bb)]) (fun b3 => Kd b3 = some r) (fun _ _ => Bg rfl) (fun _ _ => A0 rfl) (fun _ _ => Nbl rfl) (fun b3 h => ?_) ?_)))))))))
  ·unfold Kd at h
   refine Aq (Ab (sv rfl (Ah rfl) (sv rfl (Ak rfl) (Ar (Bj ?_)))))
   obtain rfl := SJ h
   exact ⟨Or.inr rfl, _, [0], [.one (.ls 0 b3.length)], [.arr 64 10 0 (b3.flatMap Bb)], (Ad (Bc.tmp _ _ rfl) Af), rfl, rfl, ⟨by decide, rfl⟩, rfl, rfl, ⟨rfl, rfl⟩⟩
  ·skip
   refine Ca ?_
   obtain ⟨x4, hx4, ho4⟩ := An h
   refine De (G := Nat × (Int × (List A4))) (fun g => [(6, .s (.one (.ls 0 g.2.2.length))), (25, .s (.one (.sl a0.length (a0.flatMap (eL Bb))))), (26, .s (.one (Ii6 (a0.length : Int)))), (27, .s (.one (Ii6 g.2.1)))]) (fun g => [.arr 64 10 0 (g.2.2.flatMap Bb)]) (fun g => Ez (Et a0) g.1 g.2 = some x4) (fun g => g.1) (fuel, (0, v2)) hx4 ⟨rfl, rfl, rfl, rfl, trivial⟩ [] rfl (fun _ _ => Bg rfl) (fun _ _ => A0 rfl) (fun _ _ => Nbl rfl) ?_
   clear hx4 h
   rintro ⟨n4, s4⟩ h
   obtain ⟨n4, y4, rfl, h, hk4⟩ := Gp h
   unfold Et at h
   refine Aq (Ab (sv rfl (Cs rfl rfl) (Ar (Aq (ccI h rfl (fun h => ?_) (fun h => ?_))))))
   ·refine Bl (Ai (Aq (Ca (Aq (Ab ?_)))))
    obtain ⟨u5, hu5, h⟩ := An h
    refine sv rfl (Fm (f := (eL Bb)) Ajn (fun _ => rfl) rfl rfl rfl rfl hu5) ?_
    refine sv rfl (Ae Aqx rfl (.cp _) rfl) (sv rfl (Ak rfl) (Ar (Ab (sv rfl (Ah rfl) (sv rfl (Ah rfl) ?_)))))
    obtain ⟨hb6, h⟩ := D4 h
    refine Ah2 (f := Bb) (xs := s4.2) (us := u5) rfl Tryz.underlying42 Aro Auy (fun _ => rfl) rfl rfl (.one _ _ _ _ (.id _ rfl)) rfl rfl rfl (.sl _ _ _ (Bf (f := Bb) (fun _ => rfl) _)) rfl rfl hb6 (by decide) ?_
    refine sv rfl (Ak rfl) (Ls (A5 (Ai (Ab (sv rfl (B9 rfl rfl) (sv rfl (Ah rfl) (Ar ?_)))))))
    obtain rfl := SJ h
    exact ⟨(n4, ((wI (s4.1 + 1)), (s4.2 ++ u5))), _, hk4, ⟨rfl, rfl, rfl, rfl, trivial⟩, rfl, Nat.lt_succ_self _⟩
   ·refine Lw (Bi (Bi (Ck (Ai ?_))))
    obtain rfl := SJ h
    obtain rfl : _ = x4 := hk4
    exact ⟨s4.2, _, ho4, ⟨rfl, trivial⟩, rfl⟩
 ·skip
  refine Ca ?_
  obtain ⟨x8, hx8, ho8⟩ := An h
  refine De (G := Nat × (Int × Int)) (fun g => [(0, .s (.one (.sl a0.length (a0.flatMap (eL Bb))))), (3, .s (.one (Ii6 g.2.1))), (9, .s (.one (.sl a0.length (a0.flatMap (eL Bb))))), (10, .s (.one (Ii6 (a0.length : Int)))), (11, .s (.one (Ii6 g.2.2)))]) (fun g => []) (fun g => Ez (Eo a0) g.1 g.2 = some x8) (fun g => g.1) (fuel, (0, 0)) hx8 ⟨rfl, rfl, rfl, rfl, rfl, trivial⟩ [] rfl (fun _ _ => Bg rfl) (fun _ _ => A0 rfl) (fun _ _ => Nbl rfl) ?_
  clear hx8 h
  rintro ⟨n8, s8⟩ h
  obtain ⟨n8, y8, rfl, h, hk8⟩ := Gp h
  unfold Eo at h
  refine Aq (Ab (sv rfl (Cs rfl rfl) (Ar (Aq (ccI h rfl (fun h => ?_) (fun h => ?_))))))
  ·refine Bl (Ai (Aq (Ca (Aq (Ab ?_)))))
   obtain ⟨u9, hu9, h⟩ := An h
   refine sv rfl (Fm (f := (eL Bb)) Ajn (fun _ => rfl) rfl rfl rfl rfl hu9) ?_
   refine sv rfl (Ae Aqx rfl (.cp _) rfl) (sv rfl (Ak rfl) (Ar (Aq (Ab (sv rfl (Ah rfl) (sv rfl (Ah rfl) (sv rfl (Az Ak0 rfl) (sv rfl (B9 rfl rfl) (sv rfl (Ak rfl) (Ar (Aq (Ab (sv rfl (Ah rfl) (sv rfl (Cs rfl rfl) (Ar (ccI h rfl (fun h => ?_) (fun h => ?_)))))))))))))))))
   ·cases h
   ·refine Bl (A5 (Ai (Ab (sv rfl (B9 rfl rfl) (sv rfl (Ah rfl) (Ar ?_))))))
    obtain rfl := SJ h
    exact ⟨(n8, ((wI (s8.1 + (u9.length : Int))), (wI (s8.2 + 1)))), _, hk8, ⟨rfl, rfl, rfl, rfl, rfl, trivial⟩, rfl, Nat.lt_succ_self _⟩
  ·refine Lw (Bi (Bi (Ck (Ai ?_))))
   obtain rfl := SJ h
   obtain rfl : _ = x8 := hk8
   exact ⟨s8.1, _, ho8, ⟨rfl, rfl, trivial⟩, rfl⟩
end Go.Proofs.YtbjckaahoacbfaaGreatDoor.Abs
