/-
 t
-/
import Derived.Test.YtbjckaahoacbfaaGreatDoorTT21a
set_option linter.unusedVariables false
set_option linter.unusedSimpArgs false
namespace Go.Proofs.YtbjckaahoacbfaaGreatDoor.Abs
open Go.RowKit Go.Proofs
set_option maxRecDepth 100000
def C5 (a0 : Ai) (a1 : A9) : Option Ai :=
 (H6 [a0.Done, [a1]]).bind fun v1 => some (Ai.mk (Cr.mk a0.Cfg.Who (Dk.mk a0.Cfg.Plan.Wait a0.Cfg.Plan.Most a0.Cfg.Plan.Tries) a0.Cfg.Attempts a0.Cfg.Budget) a0.Tasks a0.Phase a0.Epoch a0.Seq a0.Attempt a0.Sent a0.Left a0.Resets a0.Risk (A7.mk a0.St.PC (E5.mk a0.St.Regs.R0 a0.St.Regs.R1 a0.St.Regs.R2 a0.St.Regs.R3 a0.St.Regs.R4 a0.St.Regs.R5 a0.St.Regs.R6 a0.St.Regs.R7) a0.St.Stopped) (B6.mk a0.Req.Kind a0.Req.Seq a0.Req.Token a0.Req.Attempt a0.Req.RO a0.Req.Key a0.Req.Val (B9.mk a0.Req.Rng.Lo a0.Req.Rng.Hi a0.Req.Rng.Open)) (Bo.mk a0.In.Buf a0.In.Dead) a0.Out v1 a0.Tried)
theorem Ib {a0 : Ai} {a1 : A9} {r : Ai} (h : C5 a0 a1 = some r) : Bp Tryz.prog 86 [.agg (EL.el a0), .agg (EL.el a1)] (· = .s (.agg (EL.el r))) := by
 unfold C5 at h
 refine A2 Tryz.func86 rfl (nt := 13) rfl (Nbl rfl) ?_
 intro w0 S0
 refine Aq (Ab (Jj rfl rfl (Jj rfl rfl (B1 rfl Nw (Ar (Aq (Ab (sv rfl (Aa Nv rfl) (sv rfl (Ae Aep rfl (.lp _ _ _ rfl) rfl) (sv rfl (Ao Auk rfl (.lp _ _ _ rfl) (Nbl rfl)) ?_))))))))))
 refine Rj rfl Tryz.underlying41 Arp rfl rfl (List.all_eq_true.1 rfl) (by decide) ?_
 refine Bu [.box (EL.el a0), .box (EL.el a1), .box Zba, .arr 61 12 0 ([a1].flatMap A5)] rfl ?_
 refine Aau 8 rfl (by (repeat' first | exact Kb.nil _ | apply Kb.cons | apply J4.one | apply J4.agg | exact E8.nil | exact E8.ls _ _ _ _ _ _ rfl (Bg (f := A5) (fun _ => rfl) ([a1] : List A9)).symm | exact E8.ls _ _ _ _ _ _ rfl (Bg (f := A5) (fun _ => rfl) _).symm | exact E8.id _ rfl | exact D2.nil _ | apply D2.cons)) ?_
 refine Sy (out := ([a0.Done, [a1]] : List (List A9)).flatMap (eL A5)) rfl Tryz.underlying204 Awa (Ap rfl (Ap rfl Ba)) (.cons _ _ _ _ _ _ _ rfl rfl (Nbl rfl) (.cons _ _ _ _ _ _ _ rfl rfl (Nbl rfl) (.nil _))) rfl (by decide) ?_
 refine Aau 9 rfl (by (repeat' first | exact Kb.nil _ | apply Kb.cons | apply J4.one | apply J4.agg | exact E8.nil | exact E8.ls _ _ _ _ _ _ rfl (Bg (f := (eL A5)) (fun _ => rfl) ([a0.Done, [a1]] : List (List A9))).symm | exact E8.ls _ _ _ _ _ _ rfl (Bg (f := (eL A5)) (fun _ => rfl) _).symm | exact E8.ls _ _ _ _ _ _ rfl (Bg (f := A5) (fun _ => rfl) _).symm | exact E8.id _ rfl | exact D2.nil _ | apply D2.cons)) ?_
 obtain ⟨v1, hv1, h⟩ := Am h
 refine C3 (x' := .s (.one (.ls 5 v1.length))) (M' := [.box (EL.el a0), .box (EL.el a1), .box Zba, .arr 61 12 ([a1].flatMap A5).length ([a1].flatMap A5), .arr 41 1 ([a0.Done, [a1]].flatMap (eL A5)).length ([a0.Done, [a1]].flatMap (eL A5)), .arr 61 12 0 (v1.flatMap A5)]) [] rfl Ar8 (.func _) (Ac rfl Al) (Qr hv1) rfl rfl (by decide) rfl rfl rfl ?_
 refine sv rfl (Aa Nv rfl) (Ax Av5 rfl rfl rfl rfl (Nbl rfl) (Bu [.box ((EL.el a0).set 38 (.ls 5 v1.length)), .box (EL.el a1), .box Zba, .arr 61 12 ([a1].flatMap A5).length ([a1].flatMap A5), .arr 41 1 ([a0.Done, [a1]].flatMap (eL A5)).length ([a0.Done, [a1]].flatMap (eL A5)), .arr 61 12 0 (v1.flatMap A5)] rfl (Ar (Aq (Ab (sv rfl (Ao B8 rfl (.lp _ _ _ rfl) (Nbl rfl)) (Ax E7 rfl rfl rfl rfl (Nbl rfl) (Bu [.box ((EL.el a0).set 38 (.ls 5 v1.length)), .box (EL.el a1), .box ((EL.el a0).set 38 (.ls 5 v1.length)), .arr 61 12 ([a1].flatMap A5).length ([a1].flatMap A5), .arr 41 1 ([a0.Done, [a1]].flatMap (eL A5)).length ([a0.Done, [a1]].flatMap (eL A5)), .arr 61 12 0 (v1.flatMap A5)] rfl (Ar (Bk ?_))))))))))
 obtain rfl := SJ h
 refine ⟨Or.inr rfl, _, _, _, (Ad (Bd.agg _ _ _ _ _ B8 rfl (.lp _ _ _ rfl) (Nbl rfl)) Af), (by (repeat' first | exact Kb.nil _ | apply Kb.cons | apply J4.one | apply J4.agg | exact E8.nil | exact E8.ls _ _ _ _ _ _ rfl (Bg (f := (eL A5)) (fun _ => rfl) _).symm | exact E8.ls _ _ _ _ _ _ rfl (Bg (f := A5) (fun _ => rfl) _).symm | exact E8.id _ rfl | exact D2.nil _ | apply D2.cons)), ?_⟩
 rfl
def Gd (a0 : Ai) : Option Int :=
 if a0.Risk then (some 4) else (if (decide (0 < a0.Attempt)) then (if a0.St.Stopped then (some 2) else (some 3)) else (some 3))
theorem Pn {a0 : Ai} {r : Int} (h : Gd a0 = some r) : Bp Tryz.prog 87 [.agg (EL.el a0)] (· = .s (.one (Ii6 r))) := by
 unfold Gd at h
 refine A2 Tryz.func87 rfl (nt := 15) rfl (Nbl rfl) ?_
 intro w0 S0
 refine Aq (Ab (Jj rfl rfl (sv rfl (Ak rfl) (Ar (Aq (B4 (Aq (Ab (sv rfl (Aa Ye rfl) (sv rfl (Ae ti4 rfl (.lp _ _ _ rfl) rfl) (sv rfl (Ak rfl) (Ar (ccI h rfl (fun h => ?_) (fun h => ?_))))))))))))))
 ·refine Aq (Ab (sv rfl (Ak rfl) (Ar (Bk (Bc (Au ?_))))))
  obtain rfl := SJ h
  refine ⟨Or.inr rfl, _, _, _, (Ad (Bd.tmp _ _ rfl) Af), (Aj rfl), ?_⟩
  rfl
 ·refine Aq (Ab (sv rfl (Aa Oe rfl) (sv rfl (Ae ti3 rfl (.lp _ _ _ rfl) rfl) (sv rfl (Di rfl rfl) (sv rfl (Ag rfl) (Bq 10 rfl (fun hc => ?_) (fun hc => ?_)))))))
  ·replace h := B2 hc h
   clear hc
   refine son rfl rfl rfl (sv rfl (Aa P4 rfl) (son rfl rfl rfl (sv rfl (Aa W5 rfl) (son rfl rfl rfl (sv rfl (Ae ti4 rfl (.lp _ _ _ rfl) rfl) (sv rfl (Av rfl rfl) (sv rfl (Ak rfl) (Ar (ccI h rfl (fun h => ?_) (fun h => ?_))))))))))
   ·refine Aq (Ab (sv rfl (Ak rfl) (Ar (Bk (Bc (Au ?_))))))
    obtain rfl := SJ h
    refine ⟨Or.inr rfl, _, _, _, (Ad (Bd.tmp _ _ rfl) Af), (Aj rfl), ?_⟩
    rfl
   ·refine Bl (A1 (Ah (Aq (Ab (sv rfl (Ak rfl) (Ar (Bk ?_)))))))
    obtain rfl := SJ h
    refine ⟨Or.inr rfl, _, _, _, (Ad (Bd.tmp _ _ rfl) Af), (Aj rfl), ?_⟩
    rfl
  ·replace h := B3 hc h
   clear hc
   refine Aw rfl rfl rfl rfl (Aw rfl rfl rfl rfl (Aw rfl rfl rfl rfl (sv rfl (An rfl rfl) (sv rfl (Ak rfl) (Ar (Hq rfl (fun hx => Bool.noConfusion hx) (fun _ => ?_)))))))
   refine Bl (A1 (Ah (Aq (Ab (sv rfl (Ak rfl) (Ar (Bk ?_)))))))
   obtain rfl := SJ h
   refine ⟨Or.inr rfl, _, _, _, (Ad (Bd.tmp _ _ rfl) Af), (Aj rfl), ?_⟩
   rfl
def Jh (b1 : Ai) : Option Ai :=
 some ({b1 with Tasks := ([] : List As), Phase := 11, Left := 0})
def Bw (a0 : Ai) (s2 : Int × Ai) : Option (LB (Int × Ai) (Ai)) :=
 if (decide (s2.1 < (a0.Tasks.length : Int))) then ((idx a0.Tasks s2.1).bind fun u3 => if (decide (0 < s2.1)) then ((C5 s2.2 (A9.mk u3.Token 3 0 0 (E5.mk 0 0 0 0 0 0 0 0))).bind fun v4 => some (.cont ((wI (s2.1 + 1)), v4))) else (if (!decide (s2.2.Phase = 9)) then ((Gd s2.2).bind fun v5 => (C5 s2.2 (A9.mk u3.Token v5 s2.2.Attempt 0 (E5.mk 0 0 0 0 0 0 0 0))).bind fun v6 => some (.cont ((wI (s2.1 + 1)), v6))) else (some (.cont ((wI (s2.1 + 1)), s2.2))))) else (some (.brk s2.2))
def Cf (a0 : Ai) : Option Ai :=
 (Ej (Bw a0) fuel (0, a0)).bind fun e7 => Jh e7
theorem Dg {a0 : Ai} {r : Ai} (h : Cf a0 = some r) : Bp Tryz.prog 68 [.agg (EL.el a0)] (· = .s (.agg (EL.el r))) := by
 unfold Cf at h
 refine A2 Tryz.func68 rfl (nt := 39) rfl (Nbl rfl) ?_
 intro w0 S0
 refine Aq (Ab (Jj rfl rfl (B1 rfl Nw (Ar (Aq (Aq (Ab (sv rfl (Aa Mz rfl) (sv rfl (Ae Zk rfl (.lp _ _ _ rfl) rfl) (sv rfl (A0 Vl rfl) (sv rfl (Ag rfl) (Ar (G6 (Ai) (fun b1 => [(1, .s (.one (.lp 0 0))), (2, .s (.one (.lp 1 0)))]) (fun b1 => [.box (EL.el b1), .box Zba]) (fun b1 => Jh b1 = some r) (fun _ _ => Be rfl) (fun _ _ => Az rfl) (fun _ _ => Nbl rfl) (fun b1 h => ?_) ?_)))))))))))))
 ·unfold Jh at h
  refine Aq (Ab (sv rfl (Aa Mz rfl) (Ax Atm rfl rfl rfl rfl (Nbl rfl) (Bu [.box ((EL.el b1).set 6 (Znl)), .box Zba] rfl (Ar (Aq (Ab (sv rfl (Aa Hf rfl) (Ax sz3 rfl rfl rfl rfl (Nbl rfl) (Bu [.box ((EL.el {b1 with Phase := 11}).set 6 (Znl)), .box Zba] rfl (Ar (Aq (Ab (sv rfl (Aa Q0 rfl) (Ax sz3 rfl rfl rfl rfl (Nbl rfl) (Bu [.box ((EL.el {b1 with Phase := 11, Left := 0}).set 6 (Znl)), .box Zba] rfl (Ar (Aq (Ab (sv rfl (Ao B8 rfl (.lp _ _ _ rfl) (Nbl rfl)) (Ax E7 rfl rfl rfl rfl (Nbl rfl) (Bu [.box ((EL.el {b1 with Phase := 11, Left := 0}).set 6 (Znl)), .box ((EL.el {b1 with Phase := 11, Left := 0}).set 6 (Znl))] rfl (Ar (Bk ?_))))))))))))))))))))))))
  obtain rfl := SJ h
  refine ⟨Or.inr rfl, _, _, _, (Ad (Bd.agg _ _ _ _ _ B8 rfl (.lp _ _ _ rfl) (Nbl rfl)) Af), (Nt rfl), ?_⟩
  rfl
 ·skip
  refine B4 ?_
  obtain ⟨x2, hx2, ho2⟩ := Am h
  refine C2 (G := Nat × (Int × Ai)) (fun g => [(1, .s (.one (.lp 0 0))), (2, .s (.one (.lp 1 0))), (6, .s (.one (.sl a0.Tasks.length (a0.Tasks.flatMap Ay)))), (7, .s (.one (Ii6 (a0.Tasks.length : Int)))), (8, .s (.one (Ii6 g.2.1)))]) (fun g => [.box (EL.el g.2.2), .box Zba]) (fun g => Ej (Bw a0) g.1 g.2 = some x2) (fun g => g.1) (fuel, (0, a0)) hx2 ⟨rfl, rfl, rfl, rfl, rfl, trivial⟩ [] rfl (fun _ _ => Be rfl) (fun _ _ => Az rfl) (fun _ _ => Nbl rfl) ?_
  clear hx2 h
  rintro ⟨n2, s2⟩ h
  obtain ⟨n2, y2, rfl, h, hk2⟩ := F5 h
  unfold Bw at h
  refine Aq (Ab (sv rfl (Cm rfl rfl) (Ar (Aq (ccI h rfl (fun h => ?_) (fun h => ?_))))))
  ·refine Bl (Ah (Aq (B4 (Aq (Ab (sv rfl (Ag rfl) ?_))))))
   obtain ⟨u3, hu3, h⟩ := Am h
   refine sv rfl (Dp (f := Ay) Vl (fun _ => rfl) rfl rfl rfl rfl hu3) ?_
   refine sv rfl (C6 (ys := [Ii6 u3.Token, .b u3.Prog.RO, .sl u3.Prog.Ops.length (u3.Prog.Ops.flatMap Cg)]) Alr rfl (.cp _) rfl rfl) (B1 rfl An2 (sv rfl (Ak rfl) (Ax Aq0 rfl rfl rfl rfl (Nbl rfl) (Bu [.box (EL.el s2.2), .box Zba, .box (EL.el u3)] rfl (Ar (B4 (Aq (Ab (sv rfl (Ag rfl) (sv rfl (Di rfl rfl) (sv rfl (Ak rfl) (Ar (ccI h rfl (fun h => ?_) (fun h => ?_))))))))))))))
   ·refine Ab (sv rfl (Ao B8 rfl (.lp _ _ _ rfl) (Nbl rfl)) (sv rfl (Aa Sf rfl) (sv rfl (Ae ti3 rfl (.lp _ _ _ rfl) rfl) (sv rfl (Bj Aqs Ath (Ap rfl (Ap rfl Ba)) (.cons _ _ _ _ _ _ _ rfl rfl (Nbl rfl) (.cons _ _ _ _ _ _ _ rfl rfl (Nbl rfl) (.nil _)))) ?_))))
    obtain ⟨v4, hv4, h⟩ := Am h
    refine A3 rfl Asz (Ac rfl (Ac rfl Al)) (Aj rfl) (Ib hv4) (Ax E7 rfl rfl rfl rfl (Nbl rfl) (Bu [.box (EL.el v4), .box Zba, .box (EL.el u3)] rfl (Lz (A1 (A1 (Ah (Ab (sv rfl (B0 rfl rfl) (sv rfl (Ag rfl) (Ar ?_))))))))))
    obtain rfl := SJ h
    exact ⟨(n2, ((wI (s2.1 + 1)), v4)), _, hk2, ⟨rfl, rfl, rfl, rfl, rfl, trivial⟩, rfl, Nat.lt_succ_self _⟩
   ·refine Aq (Ab (sv rfl (Aa Hf rfl) (sv rfl (Ae ti3 rfl (.lp _ _ _ rfl) rfl) (sv rfl (Ce rfl rfl) (sv rfl (Ak rfl) (Ar (ccI h rfl (fun h => ?_) (fun h => ?_))))))))
    ·obtain ⟨v5, hv5, h⟩ := Am h
     obtain ⟨v6, hv6, h⟩ := Am h
     refine Ke [9] [0, 0, 2, 0, 8, 0, 32, 126, 255, 511] [[.box (EL.el s2.2), .box Zba, .box (EL.el u3)], [.box (EL.el v6), .box Zba, .box (EL.el u3)]] (by kernel_rfl) Lm (by kernel_rfl) (by decide) rfl rfl rfl rfl ?_
     refine ev (Bi 0 rfl rfl) rfl rfl (Ao B8 rfl (.lp _ _ _ rfl) (Nbl rfl)) (ev (Bi 0 rfl rfl) rfl rfl (Aa Sf rfl) (ev (Bi 0 rfl rfl) rfl rfl (Ae ti3 rfl (.lp _ _ _ rfl) rfl) (ev (Bi 0 rfl rfl) rfl rfl (Ao B8 rfl (.lp _ _ _ rfl) (Nbl rfl)) (ed (Bi 0 rfl rfl) rfl rfl (D3 Avm (Ac rfl Al) rfl (Pn hv5)) (ev (Bi 0 rfl rfl) rfl rfl (Aa Oe rfl) (ev (Bi 0 rfl rfl) rfl rfl (Ae ti3 rfl (.lp _ _ _ rfl) rfl) (ev (Bi 0 rfl rfl) rfl rfl (Bj Aqs Ath (Ap rfl (Ap rfl (Ap rfl Ba))) (.cons _ _ _ _ _ _ _ rfl rfl (Nbl rfl) (.cons _ _ _ _ _ _ _ rfl rfl (Nbl rfl) (.cons _ _ _ _ _ _ _ rfl rfl (Nbl rfl) (.nil _))))) (ed (Bi 0 rfl rfl) rfl rfl (D3 Asz (Ac rfl (Ac rfl Al)) rfl (Ib hv6)) (ee0 0 rfl rfl rfl rfl (fun ζ => ?_) ?_)))))))))
     ·refine Ax E7 rfl rfl rfl rfl (Nbl rfl) (Bu [.box (EL.el v6), .box Zba, .box (EL.el u3)] rfl ?_)
      exact Sk
     refine Y9 (A1 (A1 (Ah (Ab (sv rfl (B0 rfl rfl) (sv rfl (Ag rfl) (Ar ?_)))))))
     obtain rfl := SJ h
     exact ⟨(n2, ((wI (s2.1 + 1)), v6)), _, hk2, ⟨rfl, rfl, rfl, rfl, rfl, trivial⟩, rfl, Nat.lt_succ_self _⟩
    ·refine Bl (A1 (A1 (Ah (Ab (sv rfl (B0 rfl rfl) (sv rfl (Ag rfl) (Ar ?_)))))))
     obtain rfl := SJ h
     exact ⟨(n2, ((wI (s2.1 + 1)), s2.2)), _, hk2, ⟨rfl, rfl, rfl, rfl, rfl, trivial⟩, rfl, Nat.lt_succ_self _⟩
  ·refine Kn (Bh (Bh (Cd (Ah ?_))))
   obtain rfl := SJ h
   obtain rfl : _ = x2 := hk2
   exact ⟨s2.2, _, ho2, ⟨rfl, rfl, trivial⟩, rfl⟩
def Es (a0 : Ai) : Option Bool :=
 some (decide (60000 < (a0.Out.length : Int)))
theorem Me {a0 : Ai} {r : Bool} (h : Es a0 = some r) : Bp Tryz.prog 67 [.agg (EL.el a0)] (· = .s (.one (.b r))) := by
 unfold Es at h
 refine A2 Tryz.func67 rfl (nt := 7) rfl (Nbl rfl) ?_
 intro w0 S0
 refine Aq (Ab (Jj rfl rfl (sv rfl (Ak rfl) (Ar (Aq (Ab (sv rfl (Aa Rf rfl) (sv rfl (Ae L5 rfl (.lp _ _ _ rfl) rfl) (sv rfl (A0 Li rfl) (sv rfl (Di rfl rfl) (sv rfl (Ak rfl) (Ar (Bk ?_)))))))))))))
 obtain rfl := SJ h
 refine ⟨Or.inr rfl, _, _, _, (Ad (Bd.tmp _ _ rfl) Af), (Aj rfl), ?_⟩
 rfl
theorem Ua {a0 : Dk} : Bp Tryz.prog 88 [.agg (EL.el a0)] (· = .s (.one (.fn 110 [] [.cp [Ii6 a0.Wait, Ii6 a0.Most, Ii6 a0.Tries]]))) := by
 refine A2 Tryz.func88 rfl (nt := 4) rfl (Nbl rfl) ?_
 intro w0 S0
 refine Aq (Ab (Am9 rfl rfl rfl (sv rfl (Ak rfl) (Ar (Aq (Ab (sv rfl (Uv Rs (Sz rfl rfl Rs)) (sv rfl (Ak rfl) (Ar (Bk (⟨Or.inr rfl, _, _, _, (Ad (Bd.tmp _ _ rfl) Af), (Aj rfl), ?_⟩)))))))))))
 rfl
def Qa (most : Int) : Nat → Int → Int → List (Int × Int)
 | 0, _, _ => []
 | n + 1, i, d => (i, d) :: Qa most n (wI (i + 1)) (if most < (wI (2 * d)) then most else (wI (2 * d)))
def Aiv (p : Dk) : Option (List (Int × Int)) :=
 (J8 p).bind fun b => some (if b = true then Qa p.Most p.Tries.toNat 0 p.Wait else [])
theorem Uc (most : Int) : ∀ n i d, (Qa most n i d).length = n
 | 0, _, _ => rfl
 | n + 1, i, d => by simp [Qa, Uc most n]
theorem Ai4 {p : Dk} (h : J8 p = some true) : 1 ≤ p.Wait ∧ p.Wait ≤ 1048576 ∧ p.Wait ≤ p.Most ∧ p.Most ≤ 1073741824 ∧ 0 ≤ p.Tries ∧ p.Tries ≤ 100 := by
 unfold J8 at h
 repeat' split at h
 all_goals simp_all
theorem Ani {p : Dk} {L : List (Int × Int)} (h : Aiv p = some L) : Ai7 Tryz.prog 110 [.cp [Ii6 p.Wait, Ii6 p.Most, Ii6 p.Tries]] (L.map fun x => (.one (Ii6 x.1), .one (Ii6 x.2))) := by
 unfold Aiv at h
 obtain ⟨b, hb, h⟩ := Am h
 obtain rfl := SJ h
 refine Ajx Tryz.func110 rfl rfl (nt := 26) rfl (Nbl rfl) ?_
 intro l J Jx hJ hJx hs
 refine Aid (Aid ?_)
 refine Wc (hJ 0) (by rfl) (fun w0 S0 => ?_)
 refine sv rfl (C6 (ys := [Ii6 p.Wait, Ii6 p.Most, Ii6 p.Tries]) Akl rfl (.cp _) rfl rfl) (A3 rfl Atv (Ac rfl Al) (Aj rfl) (P7 hb) (sv rfl (Ca rfl) (Lz ⟨rfl, rfl, Tn (Vj ?_)⟩)))
 refine Ai6 rfl (fun hc => ?_) (fun hc => ?_)
 ·have hb' : b = false := by simpa using hc
  subst hb'
  exact Aut (And.intro (Or.inr rfl) (Or.inl rfl))
 have hb' : b = true := by simpa using hc
 subst hb'
 obtain ⟨h1, h2, h3, h4, h5, h6⟩ := Ai4 hb
 refine Am1 (Vj ?_)
 refine Aid ?_
 refine Wc (hJ 0) (by rfl) (fun w0 S0 => ?_)
 refine sv rfl (Bm Ac8 rfl) (sv rfl (Ae ti3 rfl (.cp _) rfl) (sv rfl (Ak rfl) (Lz ⟨rfl, rfl, Tn (Vj ?_)⟩)))
 refine Aid ?_
 refine Wc (hJ 0) (by rfl) (fun w0 S0 => ?_)
 refine sv rfl (Bm Aam rfl) (sv rfl (Ae ti3 rfl (.cp _) rfl) (sv rfl (Ag rfl) (Lz ⟨rfl, rfl, Tn (Vj ?_)⟩)))
 refine Akn ?_
 let cap : Lf := .cp [Ii6 p.Wait, Ii6 p.Most, Ii6 p.Tries]
 refine Aq9 (G := Nat × Int × Int) (fun g => [(0, .s (.one (.raw (.func (.yield l) #[] #[])))), (1, .s (.one (.cp [Ii6 p.Wait, Ii6 p.Most, Ii6 p.Tries]))), (3, .s (.one (Ii6 g.2.2))), (11, .s (.one (Ii6 p.Tries))), (12, .s (.one (Ii6 g.2.1)))])
  (fun g => J g.1) (fun g => 0 ≤ g.2.1 ∧ g.2.1 ≤ p.Tries ∧ (Qa p.Most p.Tries.toNat 0 p.Wait).drop g.1 = Qa p.Most (p.Tries - g.2.1).toNat g.2.1 g.2.2 ∧ g.1 + (p.Tries - g.2.1).toNat = p.Tries.toNat)
  (fun g => (p.Tries - g.2.1).toNat) (0, 0, p.Wait) ⟨Int.le_refl _, h5, by simp, by simp⟩ ⟨rfl, rfl, rfl, rfl, rfl, trivial⟩ rfl (fun _ _ => Be rfl) ?_
 rintro ⟨k, i, d⟩ ⟨g1, g2, g3, g4⟩
 simp only at g1 g2 g3 g4
 refine Aid ?_
 refine Wc (hJ k) (by rfl) (fun w0 S0 => ?_)
 refine sv rfl (Cm rfl rfl) (Lz ⟨rfl, rfl, Tn (Vj ?_)⟩)
 refine Aid (Ai6 rfl (fun hc => ?_) (fun hc => ?_))
 rotate_left
 ·have hc' : ¬ i < p.Tries := by simpa using hc
  refine Asg (And.intro (Or.inl rfl) (Or.inl ?_))
  show J k = J _
  rw [List.length_map, if_pos rfl, Uc]
  congr 1
  omega
 have hlt : i < p.Tries := by simpa using hc
 refine Am1 (Vj ?_)
 have hn : (p.Tries - i).toNat = (p.Tries - (i + 1)).toNat + 1 := by omega
 rw [hn] at g3
 have hget : (Qa p.Most p.Tries.toNat 0 p.Wait)[k]? = some (i, d) := by
  have := congrArg (fun l => l[0]?) g3
  simpa [Qa] using this
 have hwi : wI (i + 1) = i + 1 := by
  show IntKind.i64.wrap (i + 1) = i + 1
  exact Ajl (by omega) (by omega)
 have hdrop : (Qa p.Most p.Tries.toNat 0 p.Wait).drop (k + 1) = Qa p.Most (p.Tries - (i + 1)).toNat (i + 1) (if p.Most < (wI (2 * d)) then p.Most else (wI (2 * d))) := by
  have := congrArg (fun l => l.drop 1) g3
  simpa [Qa, hwi, Nat.add_comm] using this
 refine Aid (Akn (Aid ?_))
 refine Wc (hJ k) (by rfl) (fun w0 S0 => ?_)
 refine sv rfl (Ag rfl) (sv rfl (Ak rfl) (Lz ⟨rfl, rfl, Tn (Vj ?_)⟩))
 refine Aid (Aid (Agx ?_))
 refine Akb (l1 := [_, _, _]) (hJ k) (by rfl) (fun w0 S0 => ?_)
 refine sv rfl (Ag rfl) (sv rfl (Ag rfl) (sv rfl (Ag rfl) (Lz ⟨rfl, rfl, ?_⟩)))
 refine Aiq rfl rfl (fun _ _ _ _ _ => rfl) hs rfl rfl rfl rfl (x := .one (Ii6 i)) (y := .one (Ii6 d)) (by rw [List.getElem?_map, if_pos rfl, hget]; rfl) ?_ ?_
 rotate_left
 ·
  refine Akb (l1 := [_]) (l2 := []) hJx (by rfl) (fun w0 S0 => ?_)
  refine sv rfl (Ca rfl) (Lz ⟨rfl, rfl, Tn (Vj ?_)⟩)
  refine Ai6 rfl (fun _ => ?_) (fun hx => Bool.noConfusion hx)
  exact Aut (And.intro (Or.inr rfl) (Or.inr rfl))
 refine Akb (l1 := [_]) (l2 := []) (hJ (k + 1)) (by rfl) (fun w0 S0 => ?_)
 refine sv rfl (Ca rfl) (Lz ⟨rfl, rfl, Tn (Vj ?_)⟩)
 refine Ai6 rfl (fun hx => Bool.noConfusion hx) (fun _ => ?_)
 refine Am1 (Vj ?_)
 refine Wc (hJ (k + 1)) (by rfl) (fun w0 S0 => ?_)
 refine sv rfl (Ag rfl) (sv rfl (Yn rfl rfl) (sv rfl (Bm Ag1 rfl) (sv rfl (Ae ti3 rfl (.cp _) rfl) (sv rfl (Tb rfl rfl) (sv rfl (Ak rfl) (Lz ⟨rfl, rfl, Tn (Avj (Vj ?_))⟩))))))
 refine Wc (hJ (k + 1)) (by rfl) (fun w0 S0 => ?_)
 refine sv rfl (B0 rfl rfl) (sv rfl (Ag rfl) (Lz ⟨rfl, rfl, Tn (Vj ?_)⟩))
 refine ⟨(k + 1, wI (i + 1), (if p.Most < (wI (2 * d)) then p.Most else (wI (2 * d)))), ⟨?_, ?_, ?_, ?_⟩, ⟨rfl, rfl, rfl, rfl, rfl, trivial⟩, rfl, ?_⟩
 ·show 0 ≤ wI (i + 1)
  rw [hwi]; omega
 ·show wI (i + 1) ≤ p.Tries
  rw [hwi]; omega
 ·show List.drop (k + 1) _ = Qa p.Most (p.Tries - wI (i + 1)).toNat (wI (i + 1)) _
  rw [hwi]
  exact hdrop
 ·show k + 1 + (p.Tries - wI (i + 1)).toNat = _
  rw [hwi]; omega
 ·show (p.Tries - wI (i + 1)).toNat < (p.Tries - i).toNat
  rw [hwi]; omega
def Iq (a1 : Int) (s1 : Int × Bool) (x1 : Int × Int) : Option ((Int × Bool) ⊕ (Nat × (Int × Bool))) :=
 if (decide (x1.1 = a1)) then (some (.inr (0, (x1.2, true)))) else (some (.inl (s1.1, s1.2)))
def Mq (s2 : Int × Bool) : Option (Int × Bool) :=
 some (0, false)
def Mp (s3 : Int × Bool) : Option (Int × Bool) :=
 some (s3.1, s3.2)
def Gx (a0 : Dk) (a1 : Int) : Option (Int × Bool) :=
 (Aiv a0).bind fun L1 => (Ud (Iq a1) L1 (0, false)).bind fun e => Alh Mq Mp (fun _ _ => none) e
theorem Lg {a0 : Dk} {a1 : Int} {r : Int × Bool} (h : Gx a0 a1 = some r) : Bp Tryz.prog 69 [.agg (EL.el a0), .one (Ii6 a1)] (· = .tup [.one (Ii6 r.1), .one (.b r.2)]) := by
 unfold Gx at h
 refine Aew Tryz.func69 rfl (nt := 16) rfl (Nbl rfl) ?_
 intro w0 S0
 refine Amb (Sr rfl (fun w0 S0 X0 m0 H0 => ?_))
 refine Am9 rfl rfl rfl (Am9 rfl rfl rfl (B1 rfl zi3 (B1 rfl zi4 (Ar (Amb (Amb (Sr rfl (fun w0 S0 X0 m0 H0 => ?_))))))))
 refine sv rfl (C6 (ys := [Ii6 a0.Wait, Ii6 a0.Most, Ii6 a0.Tries]) Akl rfl (.cp _) rfl rfl) (A3 rfl Avy (Ac rfl Al) (Aj rfl) Ua (Ar (Alg ?_)))
 obtain ⟨L1, hL1, h⟩ := Am h
 obtain ⟨e1, he1, h⟩ := Am h
 refine Alp (Iq a1) L1 (fun x1 => .one (Ii6 x1.1)) (fun x1 => .one (Ii6 x1.2)) (fun s1 => [.box [Ii6 s1.1], .box [.b s1.2]]) (0, false) he1 rfl Ar6 rfl (Ani hL1) rfl rfl rfl (fun _ => rfl) (fun _ => Az rfl) ?_ ?_ ?_ ?_
 ·clear h
  intro x1 s1 y1 l h w0 S0 X0 H0
  unfold Iq at h
  refine Amb (Sr rfl (fun w0 S0 X0 m0 H0 => ?_))
  refine sv rfl (Ak rfl) (Ar (Sr rfl (fun w0 S0 X0 m0 H0 => ?_)))
  refine sv rfl (Ak rfl) (Ar (fun w0 S0 X0 H0 => ?_))
  refine Alg (Amb (Sr rfl (fun w0 S0 X0 m0 H0 => ?_)))
  refine sv rfl (Ag rfl) (sv rfl (Ae ti3 rfl (.cp _) rfl) (sv rfl (Br rfl rfl) (Ar (Aq5 rfl (fun hc => ?_) (fun hc => ?_)))))
  ·replace h := B2 hc h
   clear hc
   refine Amb (Sr rfl (fun w0 S0 X0 m0 H0 => ?_))
   refine sv rfl (Ag rfl) (Ax sz3 rfl rfl rfl rfl (Nbl rfl) (Bu [.box [Ii6 x1.2], .box [.b s1.2]] rfl (Ax sz4 rfl rfl rfl rfl (Nbl rfl) (Bu [.box [Ii6 x1.2], .box [.b true]] rfl (Ar (At3 (Bc ?_)))))))
   obtain rfl := SJ h
   exact ⟨(x1.2, true), _, rfl, rfl⟩
  ·replace h := B3 hc h
   clear hc
   refine As5 (A1 ?_)
   obtain rfl := SJ h
   exact ⟨(s1.1, s1.2), _, rfl, rfl⟩
 ·intro s2 hs
  obtain rfl := hs
  replace h : Mq s2 = some r := h
  unfold Mq at h
  refine A1 (Ah (Amb (Sr rfl (fun w0 S0 X0 m0 H0 => ?_))))
  refine Ax sz3 rfl rfl rfl rfl (Nbl rfl) (Bu [.box [Ii6 0], .box [.b s2.2]] rfl (Ax sz4 rfl rfl rfl rfl (Nbl rfl) (Bu [.box [Ii6 0], .box [.b false]] rfl (Ar (At3 ?_)))))
  obtain rfl := SJ h
  refine ⟨Or.inr rfl, _, _, _, (Ad (Bd.one _ _ _ _ _ ti3 rfl (.lp _ _ _ rfl) rfl) (Ad (Bd.one _ _ _ _ _ ti4 rfl (.lp _ _ _ rfl) rfl) Af)), (Aj rfl), ?_⟩
  rfl
 ·intro s3 hs
  obtain rfl := hs
  replace h : Mp s3 = some r := h
  unfold Mp at h
  refine Bc (Au ?_)
  obtain rfl := SJ h
  refine ⟨Or.inr rfl, _, _, _, (Ad (Bd.one _ _ _ _ _ ti3 rfl (.lp _ _ _ rfl) rfl) (Ad (Bd.one _ _ _ _ _ ti4 rfl (.lp _ _ _ rfl) rfl) Af)), (Aj rfl), ?_⟩
  rfl
 ·intro id s hs
  obtain rfl := hs
  replace h : none = some r := h
  cases h
def Hv (a0 : List UInt8) (a1 : Bool) : Option (List UInt8) :=
 if a1 then ((Eg a0 (1#64) 1).bind fun v1 => some v1) else ((Eg a0 (0#64) 1).bind fun v2 => some v2)
theorem M9 {a0 : List UInt8} {a1 : Bool} {r : (List UInt8)} (h : Hv a0 a1 = some r) : Bp Tryz.prog 42 [.one (.sl a0.length (a0.flatMap eU8)), .one (.b a1)] (· = .s (.one (.sl r.length (r.flatMap eU8)))) := by
 unfold Hv at h
 refine A2 Tryz.func42 rfl (nt := 10) rfl (Nbl rfl) ?_
 intro w0 S0
 refine Aq (Ab (sv rfl (Ak rfl) (Ar (Aq (Aq (Ab (sv rfl (Ag rfl) (Ar (ccI h rfl (fun h => ?_) (fun h => ?_))))))))))
 ·refine Aq (Ab (sv rfl (Ag rfl) ?_))
  obtain ⟨v1, hv1, h⟩ := Am h
  refine A3 rfl Aa9 (Ac rfl (Ac rfl (Ac rfl Al))) (Aj rfl) (En hv1) (sv rfl (Ak rfl) (Ar (Bk (Au ?_))))
  obtain rfl := SJ h
  refine ⟨Or.inr rfl, _, _, _, (Ad (Bd.tmp _ _ rfl) Af), (Aj rfl), ?_⟩
  rfl
 ·refine Bl (Ah (Aq (Ab (sv rfl (Ag rfl) ?_))))
  obtain ⟨v2, hv2, h⟩ := Am h
  refine A3 rfl Aa9 (Ac rfl (Ac rfl (Ac rfl Al))) (Aj rfl) (En hv2) (sv rfl (Ak rfl) (Ar (Bk ?_)))
  obtain rfl := SJ h
  refine ⟨Or.inr rfl, _, _, _, (Ad (Bd.tmp _ _ rfl) Af), (Aj rfl), ?_⟩
  rfl
def F0 (a0 : List UInt8) (a1 : List UInt8) : Option (List UInt8) :=
 (cut a1 0 (if 65535 < (a1.length : Int) then 65535 else (a1.length : Int))).bind fun c1 => (Eg a0 (BitVec.ofInt 64 (c1.length : Int)) 2).bind fun v2 => (Eo [v2, c1]).bind fun v3 => some v3
theorem Iv {a0 : List UInt8} {a1 : List UInt8} {r : (List UInt8)} (h : F0 a0 a1 = some r) : Bp Tryz.prog 41 [.one (.sl a0.length (a0.flatMap eU8)), .one (.sl a1.length (a1.flatMap eU8))] (· = .s (.one (.sl r.length (r.flatMap eU8)))) := by
 unfold F0 at h
 refine A2 Tryz.func41 rfl (nt := 18) rfl (Nbl rfl) ?_
 intro w0 S0
 refine Aq (Ab (sv rfl (Ak rfl) (Ar (Aq (Ab (sv rfl (Ag rfl) (sv rfl (Ag rfl) (sv rfl (A0 Li rfl) (sv rfl (Tb rfl rfl) ?_)))))))))
 obtain ⟨c1, hc1, h⟩ := Am h
 refine sv rfl (Ss (f := eU8) (lo := 0) (hi := (if 65535 < (a1.length : Int) then 65535 else (a1.length : Int))) Li (fun _ => rfl) rfl rfl rfl Rp (Hm rfl (Int.le_trans (Kq hc1).1.1 (Kq hc1).1.2.1)) hc1) ?_
 refine sv rfl (Ak rfl) (Ar (Aq (Ab (sv rfl (Ag rfl) (sv rfl (Ag rfl) (sv rfl (A0 Li rfl) (sv rfl (C4 rfl Tryz.underlying3 Tryz.underlying112 rfl) ?_)))))))
 obtain ⟨v2, hv2, h⟩ := Am h
 refine A3 rfl Aa9 (Ac rfl (Ac rfl (Ac rfl Al))) (Aj rfl) (En hv2) (sv rfl (Ag rfl) ?_)
 refine Sy (out := ([v2, c1] : List (List UInt8)).flatMap (eL eU8)) rfl Tryz.underlying124 An9 (Ap rfl (Ap rfl Ba)) (.cons _ _ _ _ _ _ _ rfl rfl (Nbl rfl) (.cons _ _ _ _ _ _ _ rfl rfl (Nbl rfl) (.nil _))) rfl (by decide) ?_
 refine Aau 16 rfl (by (repeat' first | exact Kb.nil _ | apply Kb.cons | apply J4.one | apply J4.agg | exact E8.nil | exact E8.ls _ _ _ _ _ _ rfl (Bg (f := (eL eU8)) (fun _ => rfl) ([v2, c1] : List (List UInt8))).symm | exact E8.ls _ _ _ _ _ _ rfl (Bg (f := (eL eU8)) (fun _ => rfl) _).symm | exact E8.id _ rfl | exact D2.nil _ | apply D2.cons)) ?_
 obtain ⟨v3, hv3, h⟩ := Am h
 refine C3 (x' := .s (.one (.ls 1 v3.length))) (M' := [.arr 33 1 ([v2, c1].flatMap (eL eU8)).length ([v2, c1].flatMap (eL eU8)), .arr 5 1 0 (v3.flatMap eU8)]) [] rfl Aqx (.func _) (Ac rfl Al) (I3 hv3) rfl rfl (by decide) rfl rfl rfl ?_
 refine sv rfl (Ak rfl) (Ar (Bk ?_))
 obtain rfl := SJ h
 refine ⟨Or.inr rfl, _, _, _, (Ad (Bd.tmp _ _ rfl) Af), (by (repeat' first | exact Kb.nil _ | apply Kb.cons | apply J4.one | apply J4.agg | exact E8.nil | exact E8.ls _ _ _ _ _ _ rfl (Bg (f := (eL eU8)) (fun _ => rfl) _).symm | exact E8.ls _ _ _ _ _ _ rfl (Bg (f := eU8) (fun _ => rfl) _).symm | exact E8.id _ rfl | exact D2.nil _ | apply D2.cons)), ?_⟩
 rfl
def Ig (b10 : (List UInt8)) : Option ((List UInt8) × Int) :=
 some (b10, 0)
def Hr (a0 : B6) (v2 : G1) (b9 : (List UInt8)) : Option ((List UInt8) × Int) :=
 if v2.rng_ then ((F0 b9 a0.Rng.Lo).bind fun v11 => (Hv v11 a0.Rng.Open).bind fun v12 => (F0 v12 a0.Rng.Hi).bind fun v13 => Ig v13) else (Ig b9)
def Hp (a0 : B6) (v2 : G1) (b8 : (List UInt8)) : Option ((List UInt8) × Int) :=
 if v2.val_ then ((F0 b8 a0.Val).bind fun v14 => Hr a0 v2 v14) else (Hr a0 v2 b8)
def Hn (a0 : B6) (v2 : G1) (b7 : (List UInt8)) : Option ((List UInt8) × Int) :=
 if v2.key_ then ((F0 b7 a0.Key).bind fun v15 => Hp a0 v2 v15) else (Hp a0 v2 b7)
def Hl (a0 : B6) (v2 : G1) (b6 : (List UInt8)) : Option ((List UInt8) × Int) :=
 if v2.ro_ then ((Hv b6 a0.RO).bind fun v16 => Hn a0 v2 v16) else (Hn a0 v2 b6)
def Fh (a0 : B6) (v2 : G1) (b5 : (List UInt8)) : Option ((List UInt8) × Int) :=
 if v2.attempt_ then ((Eg b5 (BitVec.ofInt 64 a0.Attempt) 2).bind fun v17 => Hl a0 v2 v17) else (Hl a0 v2 b5)
def L3 (a0 : B6) : Option ((List UInt8) × Int) :=
 (I4 a0).bind fun v1 => if (!v1) then (some (([] : List UInt8), 1)) else ((Jc a0.Kind).bind fun v2 => (Eg ([] : List UInt8) (BitVec.ofInt 64 a0.Kind) 1).bind fun v3 => (Eg v3 (BitVec.ofInt 64 a0.Seq) 4).bind fun v4 => if v2.token_ then ((Eg v4 (BitVec.ofInt 64 a0.Token) 8).bind fun v18 => Fh a0 v2 v18) else (Fh a0 v2 v4))
theorem Vc {a0 : B6} {r : (List UInt8) × Int} (h : L3 a0 = some r) : Bp Tryz.prog 89 [.agg (EL.el a0)] (· = .tup [.one (.sl r.1.length (r.1.flatMap eU8)), .one (Ii6 r.2)]) := by
 unfold L3 at h
 refine A2 Tryz.func89 rfl (nt := 68) rfl (Nbl rfl) ?_
 intro w0 S0
 refine Aq (Ab (Jj rfl rfl (sv rfl (Ak rfl) (sv rfl (Ak rfl) (Ar (Aq (Aq (Ab (sv rfl (Ao Aex rfl (.lp _ _ _ rfl) (Nbl rfl)) ?_)))))))))
 obtain ⟨v1, hv1, h⟩ := Am h
 refine A3 rfl At8 (Ac rfl Al) (Aj rfl) (Po hv1) (sv rfl (Ca rfl) (Ar (ccI h rfl (fun h => ?_) (fun h => ?_))))
 ·refine Aq (Ab (sv rfl (Ak rfl) (sv rfl (Ak rfl) (Ar (Bk (Au ?_))))))
  obtain rfl := SJ h
  refine ⟨Or.inr rfl, _, _, _, (Ad (Bd.tmp _ _ rfl) (Ad (Bd.tmp _ _ rfl) Af)), (Nt rfl), ?_⟩
  rfl
 ·refine Bl (Ah (Aq (Ab (sv rfl (Aa P8 rfl) (sv rfl (Ae ti3 rfl (.lp _ _ _ rfl) rfl) ?_)))))
  obtain ⟨v2, hv2, h⟩ := Am h
  refine A3 rfl Atu (Ac rfl Al) (Aj rfl) (Pi hv2) (B1 rfl Akc (Ax Aik rfl rfl rfl rfl (Nbl rfl) (Bu [.box (EL.el a0), .box (EL.el v2)] rfl (Ar (Aq ?_)))))
  refine Adx Lm (by kernel_rfl) ?_
  refine dv rfl (Aa P8 rfl) (dv rfl (Ae ti3 rfl (.lp _ _ _ rfl) rfl) (dv rfl (C4 rfl Tryz.underlying3 Tryz.underlying112 rfl) ?_))
  obtain ⟨v3, hv3, h⟩ := Am h
  refine dd rfl (Tw Aa9 (Ac rfl (Ac rfl (Ac rfl Al))) rfl (En hv3)) (dv rfl (Aa Qq rfl) (dv rfl (Ae ti3 rfl (.lp _ _ _ rfl) rfl) (dv rfl (C4 rfl Tryz.underlying3 Tryz.underlying112 rfl) ?_)))
  obtain ⟨v4, hv4, h⟩ := Am h
  refine dd rfl (D3 Aa9 (Ac rfl (Ac rfl (Ac rfl Al))) rfl (En hv4)) (dv rfl (Ak rfl) (Zw (Ah (Aq (Aq (Ab (sv rfl (Aa Agv rfl) (sv rfl (Ae ti4 rfl (.lp _ _ _ rfl) rfl) (Ar (G6 ((List UInt8)) (fun b5 => [(1, .s (.one (.lp 0 0))), (4, .s (.one (.lp 1 0))), (5, .s (.one (.sl b5.length (b5.flatMap eU8))))]) (fun b5 => [.box (EL.el a0), .box (EL.el v2)]) (fun b5 => Fh a0 v2 b5 = some r) (fun _ _ => Be rfl) (fun _ _ => Az rfl) (fun _ _ => Nbl rfl) (fun b5 h => ?_) ?_))))))))))
  ·unfold Fh at h
   refine Aq (Aq (Ab (sv rfl (Aa Ag4 rfl) (sv rfl (Ae ti4 rfl (.lp _ _ _ rfl) rfl) (Ar (G6 ((List UInt8)) (fun b6 => [(1, .s (.one (.lp 0 0))), (4, .s (.one (.lp 1 0))), (5, .s (.one (.sl b6.length (b6.flatMap eU8))))]) (fun b6 => [.box (EL.el a0), .box (EL.el v2)]) (fun b6 => Hl a0 v2 b6 = some r) (fun _ _ => Be rfl) (fun _ _ => Az rfl) (fun _ _ => Nbl rfl) (fun b6 h => ?_) ?_))))))
   ·unfold Hl at h
    refine Aq (Aq (Ab (sv rfl (Aa Agq rfl) (sv rfl (Ae ti4 rfl (.lp _ _ _ rfl) rfl) (Ar (G6 ((List UInt8)) (fun b7 => [(1, .s (.one (.lp 0 0))), (4, .s (.one (.lp 1 0))), (5, .s (.one (.sl b7.length (b7.flatMap eU8))))]) (fun b7 => [.box (EL.el a0), .box (EL.el v2)]) (fun b7 => Hn a0 v2 b7 = some r) (fun _ _ => Be rfl) (fun _ _ => Az rfl) (fun _ _ => Nbl rfl) (fun b7 h => ?_) ?_))))))
    ·unfold Hn at h
     refine Aq (Aq (Ab (sv rfl (Aa Abp rfl) (sv rfl (Ae ti4 rfl (.lp _ _ _ rfl) rfl) (Ar (G6 ((List UInt8)) (fun b8 => [(1, .s (.one (.lp 0 0))), (4, .s (.one (.lp 1 0))), (5, .s (.one (.sl b8.length (b8.flatMap eU8))))]) (fun b8 => [.box (EL.el a0), .box (EL.el v2)]) (fun b8 => Hp a0 v2 b8 = some r) (fun _ _ => Be rfl) (fun _ _ => Az rfl) (fun _ _ => Nbl rfl) (fun b8 h => ?_) ?_))))))
     ·unfold Hp at h
      refine Aq (Aq (Ab (sv rfl (Aa Abg rfl) (sv rfl (Ae ti4 rfl (.lp _ _ _ rfl) rfl) (Ar (G6 ((List UInt8)) (fun b9 => [(1, .s (.one (.lp 0 0))), (4, .s (.one (.lp 1 0))), (5, .s (.one (.sl b9.length (b9.flatMap eU8))))]) (fun b9 => [.box (EL.el a0), .box (EL.el v2)]) (fun b9 => Hr a0 v2 b9 = some r) (fun _ _ => Be rfl) (fun _ _ => Az rfl) (fun _ _ => Nbl rfl) (fun b9 h => ?_) ?_))))))
      ·unfold Hr at h
       refine Aq (Aq (Ab (sv rfl (Aa Abu rfl) (sv rfl (Ae ti4 rfl (.lp _ _ _ rfl) rfl) (Ar (G6 ((List UInt8)) (fun b10 => [(5, .s (.one (.sl b10.length (b10.flatMap eU8))))]) (fun b10 => [.box (EL.el a0), .box (EL.el v2)]) (fun b10 => Ig b10 = some r) (fun _ _ => Be rfl) (fun _ _ => Az rfl) (fun _ _ => Nbl rfl) (fun b10 h => ?_) ?_))))))
       ·unfold Ig at h
        refine Aq (Ab (sv rfl (Ag rfl) (sv rfl (Ak rfl) (sv rfl (Ak rfl) (Ar (Bk ?_))))))
        obtain rfl := SJ h
        refine ⟨Or.inr rfl, _, _, _, (Ad (Bd.tmp _ _ rfl) (Ad (Bd.tmp _ _ rfl) Af)), (Aj rfl), ?_⟩
        rfl
       ·skip
        refine ccI h rfl (fun h => ?_) (fun h => ?_)
        ·refine Aay Lm (by kernel_rfl) ?_
         refine dv rfl (Ag rfl) (dv rfl (Aa Aaz rfl) (dv rfl (Aa Tz rfl) (dv rfl (Ae L5 rfl (.lp _ _ _ rfl) rfl) ?_)))
         obtain ⟨v11, hv11, h⟩ := Am h
         refine dd rfl (D3 Al3 (Ac rfl (Ac rfl Al)) rfl (Iv hv11)) (dv rfl (Aa Aaz rfl) (dv rfl (Aa X9 rfl) (dv rfl (Ae ti4 rfl (.lp _ _ _ rfl) rfl) ?_)))
         obtain ⟨v12, hv12, h⟩ := Am h
         refine dd rfl (D3 Arg (Ac rfl (Ac rfl Al)) rfl (M9 hv12)) (dv rfl (Aa Aaz rfl) (dv rfl (Aa Qx rfl) (dv rfl (Ae L5 rfl (.lp _ _ _ rfl) rfl) ?_)))
         obtain ⟨v13, hv13, h⟩ := Am h
         refine dd rfl (D3 Al3 (Ac rfl (Ac rfl Al)) rfl (Iv hv13)) (dv rfl (Ak rfl) (Zw (Ah ?_)))
         exact ⟨v13, _, h, ⟨rfl, trivial⟩, rfl⟩
        ·refine Bl (Ah ?_)
         exact ⟨b9, _, h, ⟨rfl, trivial⟩, rfl⟩
      ·skip
       refine ccI h rfl (fun h => ?_) (fun h => ?_)
       ·refine Ab (sv rfl (Ag rfl) (sv rfl (Aa Agj rfl) (sv rfl (Ae L5 rfl (.lp _ _ _ rfl) rfl) ?_)))
        obtain ⟨v14, hv14, h⟩ := Am h
        refine A3 rfl Al3 (Ac rfl (Ac rfl Al)) (Aj rfl) (Iv hv14) (sv rfl (Ak rfl) (Ar ?_))
        exact ⟨v14, _, h, ⟨rfl, rfl, rfl, trivial⟩, rfl⟩
       ·refine Bl (Ah ?_)
        exact ⟨b8, _, h, ⟨rfl, rfl, rfl, trivial⟩, rfl⟩
     ·skip
      refine ccI h rfl (fun h => ?_) (fun h => ?_)
      ·refine Ab (sv rfl (Ag rfl) (sv rfl (Aa Ag5 rfl) (sv rfl (Ae L5 rfl (.lp _ _ _ rfl) rfl) ?_)))
       obtain ⟨v15, hv15, h⟩ := Am h
       refine A3 rfl Al3 (Ac rfl (Ac rfl Al)) (Aj rfl) (Iv hv15) (sv rfl (Ak rfl) (Ar ?_))
       exact ⟨v15, _, h, ⟨rfl, rfl, rfl, trivial⟩, rfl⟩
      ·refine Bl (Ah ?_)
       exact ⟨b7, _, h, ⟨rfl, rfl, rfl, trivial⟩, rfl⟩
    ·skip
     refine ccI h rfl (fun h => ?_) (fun h => ?_)
     ·refine Ab (sv rfl (Ag rfl) (sv rfl (Aa Alb rfl) (sv rfl (Ae ti4 rfl (.lp _ _ _ rfl) rfl) ?_)))
      obtain ⟨v16, hv16, h⟩ := Am h
      refine A3 rfl Arg (Ac rfl (Ac rfl Al)) (Aj rfl) (M9 hv16) (sv rfl (Ak rfl) (Ar ?_))
      exact ⟨v16, _, h, ⟨rfl, rfl, rfl, trivial⟩, rfl⟩
     ·refine Bl (Ah ?_)
      exact ⟨b6, _, h, ⟨rfl, rfl, rfl, trivial⟩, rfl⟩
   ·skip
    refine ccI h rfl (fun h => ?_) (fun h => ?_)
    ·refine Ab (sv rfl (Ag rfl) (sv rfl (Aa Ak3 rfl) (sv rfl (Ae ti3 rfl (.lp _ _ _ rfl) rfl) (sv rfl (C4 rfl Tryz.underlying3 Tryz.underlying112 rfl) ?_))))
     obtain ⟨v17, hv17, h⟩ := Am h
     refine A3 rfl Aa9 (Ac rfl (Ac rfl (Ac rfl Al))) (Aj rfl) (En hv17) (sv rfl (Ak rfl) (Ar ?_))
     exact ⟨v17, _, h, ⟨rfl, rfl, rfl, trivial⟩, rfl⟩
    ·refine Bl (Ah ?_)
     exact ⟨b5, _, h, ⟨rfl, rfl, rfl, trivial⟩, rfl⟩
  ·skip
   refine ccI h rfl (fun h => ?_) (fun h => ?_)
   ·refine Ab (sv rfl (Ag rfl) (sv rfl (Aa Akt rfl) (sv rfl (Ae ti3 rfl (.lp _ _ _ rfl) rfl) (sv rfl (C4 rfl Tryz.underlying3 Tryz.underlying112 rfl) ?_))))
    obtain ⟨v18, hv18, h⟩ := Am h
    refine A3 rfl Aa9 (Ac rfl (Ac rfl (Ac rfl Al))) (Aj rfl) (En hv18) (sv rfl (Ak rfl) (Ar ?_))
    exact ⟨v18, _, h, ⟨rfl, rfl, rfl, trivial⟩, rfl⟩
   ·refine Bl (Ah ?_)
    exact ⟨v4, _, h, ⟨rfl, rfl, rfl, trivial⟩, rfl⟩
def Nd (a0 : List UInt8) : Option Gj :=
 (Jg a0).bind fun v1 => some (Gj.mk (K6.mk (a0.length : Int) v1) a0)
theorem Vq {a0 : List UInt8} {r : Gj} (h : Nd a0 = some r) : Bp Tryz.prog 43 [.one (.sl a0.length (a0.flatMap eU8))] (· = .s (.agg (EL.el r))) := by
 unfold Nd at h
 refine A2 Tryz.func43 rfl (nt := 10) rfl (Nbl rfl) ?_
 intro w0 S0
 refine Aq (Ab (B1 rfl W7 (Ar (Aq (Ab (sv rfl (Ag rfl) (sv rfl (A0 Li rfl) (sv rfl (Ag rfl) ?_))))))))
 obtain ⟨v1, hv1, h⟩ := Am h
 refine A3 rfl Aua (Ac rfl Al) (Aj rfl) (Pd hv1) (sv rfl (Bj As1 Atl (Ap rfl (Ap rfl Ba)) (.cons _ _ _ _ _ _ _ rfl rfl (Nbl rfl) (.cons _ _ _ _ _ _ _ rfl rfl (Nbl rfl) (.nil _)))) (sv rfl (Ag rfl) (sv rfl (Bj W7 Aej (Ap rfl (Ap rfl Ba)) (.cons _ _ _ _ _ _ _ rfl rfl (Nbl rfl) (.cons _ _ _ _ _ _ _ rfl rfl (Nbl rfl) (.nil _)))) (Ax Y6 rfl rfl rfl rfl (Nbl rfl) (Bu [.box [Ii6 (a0.length : Int), .i .u32 (v1.toNat : Int), .sl a0.length (a0.flatMap eU8)]] rfl (Ar (Bk ?_)))))))
 obtain rfl := SJ h
 refine ⟨Or.inr rfl, _, _, _, (Ad (Bd.agg _ _ _ _ _ Abq rfl (.lp _ _ _ rfl) (Nbl rfl)) Af), (Aj rfl), ?_⟩
 rfl
def Ld (a0 : List UInt8) (a1 : List UInt8) : Option ((List UInt8) × Int) :=
 if (decide (512 < (a1.length : Int))) then (some (([] : List UInt8), 5)) else ((Nd a1).bind fun v1 => (Eg ([] : List UInt8) (BitVec.ofInt 64 v1.head_.size_) 2).bind fun v2 => (Eg v2 (v1.head_.sum_.setWidth 64) 4).bind fun v3 => (Eo [a0, v3, v1.payload_]).bind fun v4 => some (v4, 0))
theorem Q4 {a0 : List UInt8} {a1 : List UInt8} {r : (List UInt8) × Int} (h : Ld a0 a1 = some r) : Bp Tryz.prog 17 [.one (.sl a0.length (a0.flatMap eU8)), .one (.sl a1.length (a1.flatMap eU8))] (· = .tup [.one (.sl r.1.length (r.1.flatMap eU8)), .one (Ii6 r.2)]) := by
 unfold Ld at h
 refine A2 Tryz.func17 rfl (nt := 30) rfl (Nbl rfl) ?_
 intro w0 S0
 refine Aq (Ab (sv rfl (Ak rfl) (sv rfl (Ak rfl) (Ar (Aq (Aq (Ab (sv rfl (Ag rfl) (sv rfl (A0 Li rfl) (sv rfl (Di rfl rfl) (Ar (ccI h rfl (fun h => ?_) (fun h => ?_)))))))))))))
 ·refine Aq (Ab (sv rfl (Ak rfl) (sv rfl (Ak rfl) (Ar (Bk (Au ?_))))))
  obtain rfl := SJ h
  refine ⟨Or.inr rfl, _, _, _, (Ad (Bd.tmp _ _ rfl) (Ad (Bd.tmp _ _ rfl) Af)), (Nt rfl), ?_⟩
  rfl
 ·refine Bl (Ah (Aq (Ab (sv rfl (Ag rfl) ?_))))
  obtain ⟨v1, hv1, h⟩ := Am h
  refine A3 rfl Ave (Ac rfl Al) (Aj rfl) (Vq hv1) (B1 rfl W7 (Ax Y6 rfl rfl rfl rfl (Nbl rfl) (Bu [.box (EL.el v1)] rfl (Ar (Aq (Ab (sv rfl (Aa Pu rfl) (sv rfl (Aa Ue rfl) (sv rfl (Ae ti3 rfl (.lp _ _ _ rfl) rfl) (sv rfl (C4 rfl Tryz.underlying3 Tryz.underlying112 rfl) ?_))))))))))
  obtain ⟨v2, hv2, h⟩ := Am h
  refine A3 rfl Aa9 (Ac rfl (Ac rfl (Ac rfl Al))) (Nt rfl) (En hv2) (sv rfl (Ak rfl) (Ar (Aq (Ab (sv rfl (Ag rfl) (sv rfl (Aa Pu rfl) (sv rfl (Aa Ach rfl) (sv rfl (Ae Amy rfl (.lp _ _ _ rfl) rfl) (sv rfl (Om (k := .u32) (a := v1.head_.sum_) rfl Tryz.underlying117 Tryz.underlying112 rfl rfl) ?_)))))))))
  obtain ⟨v3, hv3, h⟩ := Am h
  refine A3 rfl Aa9 (Ac rfl (Ac rfl (Ac rfl Al))) (Aj rfl) (En hv3) (sv rfl (Ak rfl) (Ar (Aq (Ab (sv rfl (Ag rfl) (sv rfl (Ag rfl) (sv rfl (Aa Y0 rfl) (sv rfl (Ae L5 rfl (.lp _ _ _ rfl) rfl) ?_))))))))
  refine Sy (out := ([a0, v3, v1.payload_] : List (List UInt8)).flatMap (eL eU8)) rfl Tryz.underlying124 An9 (Ap rfl (Ap rfl (Ap rfl Ba))) (.cons _ _ _ _ _ _ _ rfl rfl (Nbl rfl) (.cons _ _ _ _ _ _ _ rfl rfl (Nbl rfl) (.cons _ _ _ _ _ _ _ rfl rfl (Nbl rfl) (.nil _)))) rfl (by decide) ?_
  refine Aau 28 rfl (by (repeat' first | exact Kb.nil _ | apply Kb.cons | apply J4.one | apply J4.agg | exact E8.nil | exact E8.ls _ _ _ _ _ _ rfl (Bg (f := (eL eU8)) (fun _ => rfl) ([a0, v3, v1.payload_] : List (List UInt8))).symm | exact E8.ls _ _ _ _ _ _ rfl (Bg (f := (eL eU8)) (fun _ => rfl) _).symm | exact E8.id _ rfl | exact D2.nil _ | apply D2.cons)) ?_
  obtain ⟨v4, hv4, h⟩ := Am h
  refine C3 (x' := .s (.one (.ls 2 v4.length))) (M' := [.box (EL.el v1), .arr 33 1 ([a0, v3, v1.payload_].flatMap (eL eU8)).length ([a0, v3, v1.payload_].flatMap (eL eU8)), .arr 5 1 0 (v4.flatMap eU8)]) [] rfl Aqx (.func _) (Ac rfl Al) (I3 hv4) rfl rfl (by decide) rfl rfl rfl ?_
  refine sv rfl (Ak rfl) (sv rfl (Ak rfl) (Ar (Bk ?_)))
  obtain rfl := SJ h
  refine ⟨Or.inr rfl, _, _, _, (Ad (Bd.tmp _ _ rfl) (Ad (Bd.tmp _ _ rfl) Af)), (by (repeat' first | exact Kb.nil _ | apply Kb.cons | apply J4.one | apply J4.agg | exact E8.nil | exact E8.ls _ _ _ _ _ _ rfl (Bg (f := (eL eU8)) (fun _ => rfl) _).symm | exact E8.ls _ _ _ _ _ _ rfl (Bg (f := eU8) (fun _ => rfl) _).symm | exact E8.id _ rfl | exact D2.nil _ | apply D2.cons)), ?_⟩
  rfl
def Fj (a0 : Ai) : Option Ai :=
 (L3 a0.Req).bind fun v1 => if (!decide (v1.2 = 0)) then ((Cf a0).bind fun v2 => some v2) else ((Ld a0.Out v1.1).bind fun v3 => if (!decide (v3.2 = 0)) then ((Cf a0).bind fun v4 => some v4) else (some ({a0 with Out := v3.1})))
theorem Mi {a0 : Ai} {r : Ai} (h : Fj a0 = some r) : Bp Tryz.prog 70 [.agg (EL.el a0)] (· = .s (.agg (EL.el r))) := by
 unfold Fj at h
 refine A2 Tryz.func70 rfl (nt := 30) rfl (Nbl rfl) ?_
 intro w0 S0
 refine Aq (Ab (Jj rfl rfl (B1 rfl Nw (Ar (Aq (Ab (sv rfl (Aa Jp rfl) (sv rfl (Ao Aex rfl (.lp _ _ _ rfl) (Nbl rfl)) ?_))))))))
 obtain ⟨v1, hv1, h⟩ := Am h
 refine A3 rfl Avt (Ac rfl Al) (Aj rfl) (Vc hv1) (sv rfl (Gn rfl) (sv rfl (Bb rfl rfl) (sv rfl (Bb rfl rfl) (sv rfl (Ak rfl) (sv rfl (Ak rfl) (Ar (Aq (Aq (Ab (sv rfl (Ag rfl) (sv rfl (Ce rfl rfl) (Ar (ccI h rfl (fun h => ?_) (fun h => ?_))))))))))))))
 ·refine Aq (Ab (sv rfl (Ao B8 rfl (.lp _ _ _ rfl) (Nbl rfl)) ?_))
  obtain ⟨v2, hv2, h⟩ := Am h
  refine A3 rfl Aml (Ac rfl Al) (Aj rfl) (Dg hv2) (Ax E7 rfl rfl rfl rfl (Nbl rfl) (Bu [.box (EL.el a0), .box (EL.el v2)] rfl (Ar (Bk (Au ?_)))))
  obtain rfl := SJ h
  refine ⟨Or.inr rfl, _, _, _, (Ad (Bd.agg _ _ _ _ _ B8 rfl (.lp _ _ _ rfl) (Nbl rfl)) Af), (Aj rfl), ?_⟩
  rfl
 ·refine Bl (Ah (Aq (Ab (sv rfl (Aa Rf rfl) (sv rfl (Ae L5 rfl (.lp _ _ _ rfl) rfl) (sv rfl (Ag rfl) ?_))))))
  obtain ⟨v3, hv3, h⟩ := Am h
  refine A3 rfl Aum (Ac rfl (Ac rfl Al)) (Aj rfl) (Q4 hv3) (sv rfl (Gn rfl) (sv rfl (Bb rfl rfl) (sv rfl (Bb rfl rfl) (sv rfl (Ak rfl) (sv rfl (Ak rfl) (Ar (Aq (Aq (Ab (sv rfl (Ag rfl) (sv rfl (Ce rfl rfl) (Ar (ccI h rfl (fun h => ?_) (fun h => ?_))))))))))))))
  ·refine Aq (Ab (sv rfl (Ao B8 rfl (.lp _ _ _ rfl) (Nbl rfl)) ?_))
   obtain ⟨v4, hv4, h⟩ := Am h
   refine A3 rfl Aml (Ac rfl Al) (Aj rfl) (Dg hv4) (Ax E7 rfl rfl rfl rfl (Nbl rfl) (Bu [.box (EL.el a0), .box (EL.el v4)] rfl (Ar (Bk (Au ?_)))))
   obtain rfl := SJ h
   refine ⟨Or.inr rfl, _, _, _, (Ad (Bd.agg _ _ _ _ _ B8 rfl (.lp _ _ _ rfl) (Nbl rfl)) Af), (Aj rfl), ?_⟩
   rfl
  ·refine Bl (Ah (Aq (Ab (sv rfl (Ag rfl) (sv rfl (Aa Rf rfl) (Ax Aow rfl rfl rfl rfl (Nbl rfl) (Bu [.box (EL.el {a0 with Out := v3.1}), .box Zba] rfl (Ar (Aq (Ab (sv rfl (Ao B8 rfl (.lp _ _ _ rfl) (Nbl rfl)) (Ax E7 rfl rfl rfl rfl (Nbl rfl) (Bu [.box (EL.el {a0 with Out := v3.1}), .box (EL.el {a0 with Out := v3.1})] rfl (Ar (Bk ?_)))))))))))))))
   obtain rfl := SJ h
   refine ⟨Or.inr rfl, _, _, _, (Ad (Bd.agg _ _ _ _ _ B8 rfl (.lp _ _ _ rfl) (Nbl rfl)) Af), (Aj rfl), ?_⟩
   rfl
def Gu (a0 : Ai) (a1 : B6) (b1 : Unit) : Option Ai :=
 (Gx a0.Cfg.Plan 0).bind fun v2 => (Fj ({a0 with Seq := (wI (a0.Seq + 1)), Sent := 0, Left := v2.1, Req := {a1 with Seq := a0.Seq}})).bind fun v3 => some v3
def Cb (a0 : Ai) (a1 : B6) : Option Ai :=
 if (decide (4294967295 < a0.Seq)) then ((Cf a0).bind fun v4 => some v4) else ((Es a0).bind fun v5 => if v5 then ((Cf a0).bind fun v6 => some v6) else (Gu a0 a1 ()))
theorem C9 {a0 : Ai} {a1 : B6} {r : Ai} (h : Cb a0 a1 = some r) : Bp Tryz.prog 35 [.agg (EL.el a0), .agg (EL.el a1)] (· = .s (.agg (EL.el r))) := by
 unfold Cb at h
 refine A2 Tryz.func35 rfl (nt := 34) rfl (Nbl rfl) ?_
 intro w0 S0
 refine Aq (Ab (Jj rfl rfl (Jj rfl rfl (B1 rfl Nw (Ar (Aq (Aq (Lh (Unit) (fun b1 => [(2, .s (.one (.lp 0 0))), (3, .s (.one (.lp 1 0))), (4, .s (.one (.lp 2 0)))]) (fun b1 => [.box (EL.el a0), .box (EL.el a1), .box Zba]) (fun b1 => Gu a0 a1 b1 = some r) (fun _ _ => Be rfl) (fun _ _ => Az rfl) (fun _ _ => Nbl rfl) (fun b1 h => ?_) ?_))))))))
 ·unfold Gu at h
  refine Aq (Ab (sv rfl (Aa Xu rfl) (sv rfl (Ae ti3 rfl (.lp _ _ _ rfl) rfl) (sv rfl (Aa Qq rfl) (Ax sz3 rfl rfl rfl rfl (Nbl rfl) (Bu [.box (EL.el a0), .box (EL.el {a1 with Seq := a0.Seq}), .box Zba] rfl (Ar (Aq (Ab (sv rfl (Aa Xu rfl) (sv rfl (Ae ti3 rfl (.lp _ _ _ rfl) rfl) (sv rfl (B0 rfl rfl) (sv rfl (Aa Xu rfl) (Ax sz3 rfl rfl rfl rfl (Nbl rfl) (Bu [.box (EL.el {a0 with Seq := wI (a0.Seq + 1)}), .box (EL.el {a1 with Seq := a0.Seq}), .box Zba] rfl (Ar (Aq (Ab (sv rfl (Ao Aex rfl (.lp _ _ _ rfl) (Nbl rfl)) (sv rfl (Aa Jp rfl) (Ax Aie rfl rfl rfl rfl (Nbl rfl) (Bu [.box (EL.el {a0 with Seq := wI (a0.Seq + 1), Req.Kind := a1.Kind, Req.Seq := a0.Seq, Req.Token := a1.Token, Req.Attempt := a1.Attempt, Req.RO := a1.RO, Req.Key := a1.Key, Req.Val := a1.Val, Req.Rng := a1.Rng}), .box (EL.el {a1 with Seq := a0.Seq}), .box Zba] rfl (Ar (Aq (Ab (sv rfl (Aa Z4 rfl) (Ax sz3 rfl rfl rfl rfl (Nbl rfl) (Bu [.box (EL.el {a0 with Seq := wI (a0.Seq + 1), Sent := 0, Req.Kind := a1.Kind, Req.Seq := a0.Seq, Req.Token := a1.Token, Req.Attempt := a1.Attempt, Req.RO := a1.RO, Req.Key := a1.Key, Req.Val := a1.Val, Req.Rng := a1.Rng}), .box (EL.el {a1 with Seq := a0.Seq}), .box Zba] rfl (Ar (Aq (Ab (sv rfl (Aa Q8 rfl) (sv rfl (Aa Wn rfl) (sv rfl (Ao Akl rfl (.lp _ _ _ rfl) (Nbl rfl)) ?_))))))))))))))))))))))))))))))))))
  obtain ⟨v2, hv2, h⟩ := Am h
  refine A3 rfl Aqz (Ac rfl (Ac rfl Al)) (Aj rfl) (Lg hv2) (sv rfl (Gn rfl) (sv rfl (Bb rfl rfl) (sv rfl (Bb rfl rfl) (sv rfl (Aa Q0 rfl) (Ax sz3 rfl rfl rfl rfl (Nbl rfl) (Bu [.box (EL.el {a0 with Seq := wI (a0.Seq + 1), Sent := 0, Left := v2.1, Req.Kind := a1.Kind, Req.Seq := a0.Seq, Req.Token := a1.Token, Req.Attempt := a1.Attempt, Req.RO := a1.RO, Req.Key := a1.Key, Req.Val := a1.Val, Req.Rng := a1.Rng}), .box (EL.el {a1 with Seq := a0.Seq}), .box Zba] rfl (Ar (Aq (Ab (sv rfl (Ao B8 rfl (.lp _ _ _ rfl) (Nbl rfl)) ?_))))))))))
  obtain ⟨v3, hv3, h⟩ := Am h
  refine A3 rfl Aur (Ac rfl Al) (Aj rfl) (Mi hv3) (Ax E7 rfl rfl rfl rfl (Nbl rfl) (Bu [.box (EL.el {a0 with Seq := wI (a0.Seq + 1), Sent := 0, Left := v2.1, Req.Kind := a1.Kind, Req.Seq := a0.Seq, Req.Token := a1.Token, Req.Attempt := a1.Attempt, Req.RO := a1.RO, Req.Key := a1.Key, Req.Val := a1.Val, Req.Rng := a1.Rng}), .box (EL.el {a1 with Seq := a0.Seq}), .box (EL.el v3)] rfl (Ar (Bk ?_))))
  obtain rfl := SJ h
  refine ⟨Or.inr rfl, _, _, _, (Ad (Bd.agg _ _ _ _ _ B8 rfl (.lp _ _ _ rfl) (Nbl rfl)) Af), (Aj rfl), ?_⟩
  rfl
 ·skip
  refine Ab (sv rfl (Aa Xu rfl) (sv rfl (Ae ti3 rfl (.lp _ _ _ rfl) rfl) (sv rfl (Di rfl rfl) (sv rfl (Ag rfl) (Bq 8 rfl (fun hc => ?_) (fun hc => ?_))))))
  ·replace h := B2 hc h
   clear hc
   refine Aw rfl rfl rfl rfl (Aw rfl rfl rfl rfl (sv rfl (Av rfl rfl) (Ar (Hq rfl (fun _ => ?_) (fun hx => Bool.noConfusion hx)))))
   refine Aq (Ab (sv rfl (Ao B8 rfl (.lp _ _ _ rfl) (Nbl rfl)) ?_))
   obtain ⟨v4, hv4, h⟩ := Am h
   refine A3 rfl Aml (Ac rfl Al) (Aj rfl) (Dg hv4) (Ax E7 rfl rfl rfl rfl (Nbl rfl) (Bu [.box (EL.el a0), .box (EL.el a1), .box (EL.el v4)] rfl (Ar (Bk (Au ?_)))))
   obtain rfl := SJ h
   refine ⟨Or.inr rfl, _, _, _, (Ad (Bd.agg _ _ _ _ _ B8 rfl (.lp _ _ _ rfl) (Nbl rfl)) Af), (Aj rfl), ?_⟩
   rfl
  ·replace h := B3 hc h
   clear hc
   refine son rfl rfl rfl (sv rfl (Ao B8 rfl (.lp _ _ _ rfl) (Nbl rfl)) (son rfl rfl rfl ?_))
   obtain ⟨v5, hv5, h⟩ := Am h
   refine A3 rfl Auc (Ac rfl Al) (Aj rfl) (Me hv5) (sv rfl (An rfl rfl) (Ar (ccI h rfl (fun h => ?_) (fun h => ?_))))
   ·refine Aq (Ab (sv rfl (Ao B8 rfl (.lp _ _ _ rfl) (Nbl rfl)) ?_))
    obtain ⟨v6, hv6, h⟩ := Am h
    refine A3 rfl Aml (Ac rfl Al) (Aj rfl) (Dg hv6) (Ax E7 rfl rfl rfl rfl (Nbl rfl) (Bu [.box (EL.el a0), .box (EL.el a1), .box (EL.el v6)] rfl (Ar (Bk (Au ?_)))))
    obtain rfl := SJ h
    refine ⟨Or.inr rfl, _, _, _, (Ad (Bd.agg _ _ _ _ _ B8 rfl (.lp _ _ _ rfl) (Nbl rfl)) Af), (Aj rfl), ?_⟩
    rfl
   ·refine Bl (Ah ?_)
    exact ⟨(), _, h, ⟨rfl, rfl, rfl, trivial⟩, rfl⟩
def Em (a0 : Ai) : Option (Ai × Int) :=
 (E1 a0).bind fun v1 => if (!v1) then (some (Cy, 1)) else (if (!decide (a0.Phase = 1)) then (some (Cy, 7)) else ((Cb ({a0 with Phase := 2, Seq := 0}) (B6.mk 1 0 a0.Cfg.Who a0.Epoch false ([] : List UInt8) ([] : List UInt8) Bt)).bind fun v2 => some (v2, 0)))
theorem My {a0 : Ai} {r : Ai × Int} (h : Em a0 = some r) : Bp Tryz.prog 14 [.agg (EL.el a0)] (· = .tup [.agg (EL.el r.1), .one (Ii6 r.2)]) := by
 unfold Em at h
 refine A2 Tryz.func14 rfl (nt := 22) rfl (Nbl rfl) ?_
 intro w0 S0
 refine Aq (Ab (Jj rfl rfl (B1 rfl Nw (sv rfl (Ak rfl) (Ar (Aq (Aq (Ab (sv rfl (Ao B8 rfl (.lp _ _ _ rfl) (Nbl rfl)) ?_)))))))))
 obtain ⟨v1, hv1, h⟩ := Am h
 refine A3 rfl An8 (Ac rfl Al) (Aj rfl) (Ht hv1) (sv rfl (Ca rfl) (Ar (ccI h rfl (fun h => ?_) (fun h => ?_))))
 ·refine Aq (Ab (sv rfl (Bj Nw Adn Ba (.nil _)) (Ax E7 rfl rfl rfl rfl (Nbl rfl) (Bu [.box (EL.el a0), .box Zba] rfl (sv rfl (Ak rfl) (Ar (Bk (Au ?_))))))))
  obtain rfl := SJ h
  refine ⟨Or.inr rfl, _, _, _, (Ad (Bd.agg _ _ _ _ _ B8 rfl (.lp _ _ _ rfl) (Nbl rfl)) (Ad (Bd.tmp _ _ rfl) Af)), (Nt rfl), ?_⟩
  rfl
 ·refine Bl (Ah (Aq (Aq (Ab (sv rfl (Aa Hf rfl) (sv rfl (Ae ti3 rfl (.lp _ _ _ rfl) rfl) (sv rfl (Ce rfl rfl) (Ar (ccI h rfl (fun h => ?_) (fun h => ?_))))))))))
  ·refine Aq (Ab (sv rfl (Bj Nw Adn Ba (.nil _)) (Ax E7 rfl rfl rfl rfl (Nbl rfl) (Bu [.box (EL.el a0), .box Zba] rfl (sv rfl (Ak rfl) (Ar (Bk (Au ?_))))))))
   obtain rfl := SJ h
   refine ⟨Or.inr rfl, _, _, _, (Ad (Bd.agg _ _ _ _ _ B8 rfl (.lp _ _ _ rfl) (Nbl rfl)) (Ad (Bd.tmp _ _ rfl) Af)), (Nt rfl), ?_⟩
   rfl
  ·refine Bl (Ah (Aq (Ab (sv rfl (Aa Xu rfl) (Ax sz3 rfl rfl rfl rfl (Nbl rfl) (Bu [.box (EL.el {a0 with Seq := 0}), .box Zba] rfl (Ar (Aq (Ab (sv rfl (Aa Hf rfl) (Ax sz3 rfl rfl rfl rfl (Nbl rfl) (Bu [.box (EL.el {a0 with Phase := 2, Seq := 0}), .box Zba] rfl (Ar (Aq (Ab (sv rfl (Ao B8 rfl (.lp _ _ _ rfl) (Nbl rfl)) (sv rfl (Aa Q8 rfl) (sv rfl (Aa Ae7 rfl) (sv rfl (Ae ti3 rfl (.lp _ _ _ rfl) rfl) (sv rfl (Aa Aax rfl) (sv rfl (Ae ti3 rfl (.lp _ _ _ rfl) rfl) (sv rfl (Bj Zf Aeq (Ap rfl (Ap rfl (Ap rfl Ba))) (.cons _ _ _ _ _ _ _ rfl rfl (Nbl rfl) (.cons _ _ _ _ _ _ _ rfl rfl (Nbl rfl) (.cons _ _ _ _ _ _ _ rfl rfl (Nbl rfl) (.nil _))))) ?_))))))))))))))))))))))
   obtain ⟨v2, hv2, h⟩ := Am h
   refine A3 rfl Anw (Ac rfl (Ac rfl Al)) (Nt rfl) (C9 hv2) (Ax E7 rfl rfl rfl rfl (Nbl rfl) (Bu [.box (EL.el {a0 with Phase := 2, Seq := 0}), .box (EL.el v2)] rfl (sv rfl (Ak rfl) (Ar (Bk ?_)))))
   obtain rfl := SJ h
   refine ⟨Or.inr rfl, _, _, _, (Ad (Bd.agg _ _ _ _ _ B8 rfl (.lp _ _ _ rfl) (Nbl rfl)) (Ad (Bd.tmp _ _ rfl) Af)), (Aj rfl), ?_⟩
   rfl
def Jr (a0 : Int) (b1 : Unit) : Option (List As) :=
 if (decide (0 < (wI (a0 - (wI (0 - 0)))))) then (if 0 < (wI (a0 - (wI (0 - 0)))) ∧ (wI (a0 - (wI (0 - 0)))) * ((40 : Nat) : Int) ≤ 281474976710656 then (if (0 : Int) ≤ 0 ∧ 0 ≤ ((List.replicate (wI (a0 - (wI (0 - 0)))).toNat No).length : Int) then (some ((List.replicate (wI (a0 - (wI (0 - 0)))).toNat No).take (0 : Int).toNat)) else none) else none) else (some ([] : List As))
def Jz (a0 : Int) : Option (List As) :=
 if (decide (a0 < 0)) then none else (Jr a0 ())
theorem T4 {a0 : Int} {r : (List As)} (h : Jz a0 = some r) : G3 Tryz.prog 83 [] [.one (Znl), .one (Ii6 a0)] (fun y m' => y = .s (.one (.ls 0 r.length)) ∧ m' = [.arr 94 3 0 (r.flatMap Ay)]) := by
 unfold Jz at h
 refine Cv Tryz.func83 rfl (nt := 27) rfl (Nbl rfl) ?_
 intro w0 S0 X0 H0
 refine Aq (Ab (sv rfl (Ak rfl) (Ar (Aq (Aq (Ab (sv rfl (Ag rfl) (sv rfl (Cm rfl rfl) (Ar (G6 (Unit) (fun b1 => [(0, .s (.one (Znl))), (1, .s (.one (Ii6 a0)))]) (fun b1 => []) (fun b1 => Jr a0 b1 = some r) (fun _ _ => Be rfl) (fun _ _ => Az rfl) (fun _ _ => Nbl rfl) (fun b1 h => ?_) ?_))))))))))
 ·unfold Jr at h
  refine Aq (Aq (Ab (sv rfl (Ag rfl) (sv rfl (Ag rfl) (sv rfl (Kt Vl rfl) (sv rfl (Ag rfl) (sv rfl (Ks Vl rfl) (sv rfl (M1 rfl rfl) (sv rfl (M1 rfl rfl) (sv rfl (Ak rfl) (Ar (Aq (Ab (sv rfl (Ag rfl) (sv rfl (Di rfl rfl) (Ar (ccI h rfl (fun h => ?_) (fun h => ?_))))))))))))))))))
  ·refine Ab (sv rfl (Ag rfl) (sv rfl (Ag rfl) (sv rfl (Kt Vl rfl) (sv rfl (N2 Vl rfl rfl) (sv rfl (Ag rfl) ?_)))))
   obtain ⟨hm2, h⟩ := D9 h
   refine Ao2 (f := Ay) (z := No) rfl Tryz.underlying29 Apx Tryz.underlying3 (fun _ => rfl) rfl rfl rfl hm2 (by decide) ?_
   refine sv rfl (Ag rfl) (sv rfl (Ks Vl rfl) ?_)
   obtain ⟨hs3, h⟩ := D9 h
   refine Adw (f := Ay) rfl Vl (fun _ => rfl) rfl rfl rfl rfl rfl hs3 ?_
   refine sv rfl (Ak rfl) (Ar (Aq (Ab (sv rfl (Ag rfl) (sv rfl (Ak rfl) (Ar (Bk ?_)))))))
   obtain rfl := SJ h
   exact ⟨Or.inr rfl, _, [1], [.one (.ls 0 ((List.replicate (wI (a0 - (wI (0 - 0)))).toNat No).take (0 : Int).toNat).length)], [.arr 94 3 0 (((List.replicate (wI (a0 - (wI (0 - 0)))).toNat No).take (0 : Int).toNat).flatMap Ay)], (Ad (Bd.tmp _ _ rfl) Af), rfl, rfl, ⟨by decide, rfl⟩, rfl, rfl, ⟨rfl, rfl⟩⟩
  ·refine Bl (Ah (Aq (Ab (sv rfl (Ag rfl) (sv rfl (Ak rfl) (Ar ?_))))))
   refine O2 94 3 4 (by decide) rfl ?_
   refine Bk ?_
   obtain rfl := SJ h
   exact ⟨Or.inr rfl, _, [0], [.one (.ls 0 ([] : List As).length)], [.arr 94 3 0 (([] : List As).flatMap Ay)], (Ad (Bd.tmp _ _ rfl) Af), rfl, rfl, ⟨by decide, rfl⟩, rfl, rfl, ⟨rfl, rfl⟩⟩
 ·skip
  refine ccI h rfl (fun h => ?_) (fun h => ?_)
  ·cases h
  ·refine Bl (Ah ?_)
   exact ⟨(), _, h, ⟨rfl, rfl, trivial⟩, rfl⟩
def Ko (b3 : (List As)) : Option (List As) :=
 some b3
def Ff (a0 : List (List As)) (s4 : Int × (List As)) : Option (LB (Int × (List As)) ((List As))) :=
 if (decide (s4.1 < (a0.length : Int))) then ((idx a0 s4.1).bind fun u5 => if (s4.2.length + u5.length) * 40 ≤ 140737488355328 then (some (.cont ((wI (s4.1 + 1)), (s4.2 ++ u5)))) else none) else (some (.brk s4.2))
def Im (a0 : List (List As)) (b1 : Int) : Option (List As) :=
 (Jz b1).bind fun v2 => (Ej (Ff a0) fuel (0, v2)).bind fun e7 => Ko e7
def Fk (a0 : List (List As)) (s8 : Int × Int) : Option (LB (Int × Int) (Int)) :=
 if (decide (s8.2 < (a0.length : Int))) then ((idx a0 s8.2).bind fun u9 => if (decide ((wI (s8.1 + (u9.length : Int))) < 0)) then none else (some (.cont ((wI (s8.1 + (u9.length : Int))), (wI (s8.2 + 1)))))) else (some (.brk s8.1))
def Ii (a0 : List (List As)) : Option (List As) :=
 (Ej (Fk a0) fuel (0, 0)).bind fun e10 => Im a0 e10
theorem Ry {a0 : List (List As)} {r : (List As)} (h : Ii a0 = some r) : G3 Tryz.prog 55 [] [.one (.sl a0.length (a0.flatMap (eL Ay)))] (fun y m' => y = .s (.one (.ls 0 r.length)) ∧ m' = [.arr 94 3 0 (r.flatMap Ay)]) := by
 unfold Ii at h
 refine Cv Tryz.func55 rfl (nt := 36) rfl (Nbl rfl) ?_
 intro w0 S0 X0 H0
 refine Aq (Ab (sv rfl (Ak rfl) (Ar (Aq (Ab (sv rfl (Ak rfl) (Ar (Aq (Aq (Ab (sv rfl (Ag rfl) (sv rfl (A0 Aix rfl) (sv rfl (Ag rfl) (Ar (G6 (Int) (fun b1 => [(0, .s (.one (.sl a0.length (a0.flatMap (eL Ay))))), (3, .s (.one (Ii6 b1)))]) (fun b1 => []) (fun b1 => Im a0 b1 = some r) (fun _ _ => Be rfl) (fun _ _ => Az rfl) (fun _ _ => Nbl rfl) (fun b1 h => ?_) ?_)))))))))))))))
 ·unfold Im at h
  refine Aq (Ab (sv rfl (Ag rfl) ?_))
  obtain ⟨v2, hv2, h⟩ := Am h
  refine C3 (x' := .s (.one (.ls 0 v2.length))) (M' := [.arr 94 3 0 (v2.flatMap Ay)]) [] rfl Avp (.func _) (Ac rfl (Ac rfl Al)) (T4 hv2) rfl rfl (by decide) rfl rfl rfl ?_
  refine sv rfl (Ak rfl) (Ar (Aq (Aq (Ab (sv rfl (Ag rfl) (sv rfl (A0 Aix rfl) (sv rfl (Ag rfl) (Ar (G6 ((List As)) (fun b3 => [(6, .s (.one (.ls 0 b3.length)))]) (fun b3 => [.arr 94 3 0 (b3.flatMap Ay)]) (fun b3 => Ko b3 = some r) (fun _ _ => Be rfl) (fun _ _ => Az rfl) (fun _ _ => Nbl rfl) (fun b3 h => ?_) ?_)))))))))
  ·unfold Ko at h
   refine Aq (Ab (sv rfl (Ag rfl) (sv rfl (Ak rfl) (Ar (Bk ?_)))))
   obtain rfl := SJ h
   exact ⟨Or.inr rfl, _, [0], [.one (.ls 0 b3.length)], [.arr 94 3 0 (b3.flatMap Ay)], (Ad (Bd.tmp _ _ rfl) Af), rfl, rfl, ⟨by decide, rfl⟩, rfl, rfl, ⟨rfl, rfl⟩⟩
  ·skip
   refine B4 ?_
   obtain ⟨x4, hx4, ho4⟩ := Am h
   refine C2 (G := Nat × (Int × (List As))) (fun g => [(6, .s (.one (.ls 0 g.2.2.length))), (25, .s (.one (.sl a0.length (a0.flatMap (eL Ay))))), (26, .s (.one (Ii6 (a0.length : Int)))), (27, .s (.one (Ii6 g.2.1)))]) (fun g => [.arr 94 3 0 (g.2.2.flatMap Ay)]) (fun g => Ej (Ff a0) g.1 g.2 = some x4) (fun g => g.1) (fuel, (0, v2)) hx4 ⟨rfl, rfl, rfl, rfl, trivial⟩ [] rfl (fun _ _ => Be rfl) (fun _ _ => Az rfl) (fun _ _ => Nbl rfl) ?_
   clear hx4 h
   rintro ⟨n4, s4⟩ h
   obtain ⟨n4, y4, rfl, h, hk4⟩ := F5 h
   unfold Ff at h
   refine Aq (Ab (sv rfl (Cm rfl rfl) (Ar (Aq (ccI h rfl (fun h => ?_) (fun h => ?_))))))
   ·refine Bl (Ah (Aq (B4 (Aq (Ab ?_)))))
    obtain ⟨u5, hu5, h⟩ := Am h
    refine sv rfl (Dp (f := (eL Ay)) Aix (fun _ => rfl) rfl rfl rfl rfl hu5) ?_
    refine sv rfl (Ae Zk rfl (.cp _) rfl) (sv rfl (Ak rfl) (Ar (Ab (sv rfl (Ag rfl) (sv rfl (Ag rfl) ?_)))))
    obtain ⟨hb6, h⟩ := D9 h
    refine Aif (f := Ay) (xs := s4.2) (us := u5) rfl Tryz.underlying29 Apx Aul (fun _ => rfl) rfl rfl (.one _ _ _ _ (.id _ rfl)) rfl rfl rfl (.sl _ _ _ (Bg (f := Ay) (fun _ => rfl) _)) rfl rfl hb6 (by decide) ?_
    refine sv rfl (Ak rfl) (Lz (A1 (Ah (Ab (sv rfl (B0 rfl rfl) (sv rfl (Ag rfl) (Ar ?_)))))))
    obtain rfl := SJ h
    exact ⟨(n4, ((wI (s4.1 + 1)), (s4.2 ++ u5))), _, hk4, ⟨rfl, rfl, rfl, rfl, trivial⟩, rfl, Nat.lt_succ_self _⟩
   ·refine Kn (Bh (Bh (Cd (Ah ?_))))
    obtain rfl := SJ h
    obtain rfl : _ = x4 := hk4
    exact ⟨s4.2, _, ho4, ⟨rfl, trivial⟩, rfl⟩
 ·skip
  refine B4 ?_
  obtain ⟨x8, hx8, ho8⟩ := Am h
  refine C2 (G := Nat × (Int × Int)) (fun g => [(0, .s (.one (.sl a0.length (a0.flatMap (eL Ay))))), (3, .s (.one (Ii6 g.2.1))), (9, .s (.one (.sl a0.length (a0.flatMap (eL Ay))))), (10, .s (.one (Ii6 (a0.length : Int)))), (11, .s (.one (Ii6 g.2.2)))]) (fun g => []) (fun g => Ej (Fk a0) g.1 g.2 = some x8) (fun g => g.1) (fuel, (0, 0)) hx8 ⟨rfl, rfl, rfl, rfl, rfl, trivial⟩ [] rfl (fun _ _ => Be rfl) (fun _ _ => Az rfl) (fun _ _ => Nbl rfl) ?_
  clear hx8 h
  rintro ⟨n8, s8⟩ h
  obtain ⟨n8, y8, rfl, h, hk8⟩ := F5 h
  unfold Fk at h
  refine Aq (Ab (sv rfl (Cm rfl rfl) (Ar (Aq (ccI h rfl (fun h => ?_) (fun h => ?_))))))
  ·refine Bl (Ah (Aq (B4 (Aq (Ab ?_)))))
   obtain ⟨u9, hu9, h⟩ := Am h
   refine sv rfl (Dp (f := (eL Ay)) Aix (fun _ => rfl) rfl rfl rfl rfl hu9) ?_
   refine sv rfl (Ae Zk rfl (.cp _) rfl) (sv rfl (Ak rfl) (Ar (Aq (Ab (sv rfl (Ag rfl) (sv rfl (Ag rfl) (sv rfl (A0 Vl rfl) (sv rfl (B0 rfl rfl) (sv rfl (Ak rfl) (Ar (Aq (Ab (sv rfl (Ag rfl) (sv rfl (Cm rfl rfl) (Ar (ccI h rfl (fun h => ?_) (fun h => ?_)))))))))))))))))
   ·cases h
   ·refine Bl (A1 (Ah (Ab (sv rfl (B0 rfl rfl) (sv rfl (Ag rfl) (Ar ?_))))))
    obtain rfl := SJ h
    exact ⟨(n8, ((wI (s8.1 + (u9.length : Int))), (wI (s8.2 + 1)))), _, hk8, ⟨rfl, rfl, rfl, rfl, rfl, trivial⟩, rfl, Nat.lt_succ_self _⟩
  ·refine Kn (Bh (Bh (Cd (Ah ?_))))
   obtain rfl := SJ h
   obtain rfl : _ = x8 := hk8
   exact ⟨s8.1, _, ho8, ⟨rfl, rfl, trivial⟩, rfl⟩
def D4 (a0 : Ai) : Option Ai :=
 (idx a0.Tasks 0).bind fun u1 => (Cb ({a0 with Phase := 7}) (B6.mk 9 0 u1.Token a0.Attempt false ([] : List UInt8) ([] : List UInt8) Bt)).bind fun v2 => some v2
theorem Js {a0 : Ai} {r : Ai} (h : D4 a0 = some r) : Bp Tryz.prog 72 [.agg (EL.el a0)] (· = .s (.agg (EL.el r))) := by
 unfold D4 at h
 refine A2 Tryz.func72 rfl (nt := 14) rfl (Nbl rfl) ?_
 intro w0 S0
 refine Aq (Ab (Jj rfl rfl (B1 rfl Nw (Ar (Aq (Ab (sv rfl (Aa Hf rfl) (Ax sz3 rfl rfl rfl rfl (Nbl rfl) (Bu [.box (EL.el {a0 with Phase := 7}), .box Zba] rfl (Ar (Aq ?_)))))))))))
 obtain ⟨u1, hu1, h⟩ := Am h
 obtain ⟨v2, hv2, h⟩ := Am h
 refine Ke [10] [0, 0, 2, 6, 14, 30, 0, 64, 254, 511, 1023] [[.box (EL.el {a0 with Phase := 7}), .box Zba], [.box (EL.el {a0 with Phase := 7}), .box (EL.el v2)]] (by kernel_rfl) Lm (by kernel_rfl) (by decide) rfl rfl rfl rfl ?_
 refine ev (Bi 0 rfl rfl) rfl rfl (Ao B8 rfl (.lp _ _ _ rfl) (Nbl rfl)) (ev (Bi 0 rfl rfl) rfl rfl (Aa Mz rfl) (ev (Bi 0 rfl rfl) rfl rfl (Ae Zk rfl (.lp _ _ _ rfl) rfl) (ev (Bi 0 rfl rfl) rfl rfl (Dp (f := Ay) Vl (fun _ => rfl) rfl rfl rfl rfl hu1) ?_)))
 refine ev (Bi 0 rfl rfl) rfl rfl (Bm Sf rfl) (ev (Bi 0 rfl rfl) rfl rfl (Ae ti3 rfl (.cp _) rfl) (ev (Bi 0 rfl rfl) rfl rfl (Aa Oe rfl) (ev (Bi 0 rfl rfl) rfl rfl (Ae ti3 rfl (.lp _ _ _ rfl) rfl) (ev (Bi 0 rfl rfl) rfl rfl (Bj Zf Aeq (Ap rfl (Ap rfl (Ap rfl Ba))) (.cons _ _ _ _ _ _ _ rfl rfl (Nbl rfl) (.cons _ _ _ _ _ _ _ rfl rfl (Nbl rfl) (.cons _ _ _ _ _ _ _ rfl rfl (Nbl rfl) (.nil _))))) (ed (Bi 0 rfl rfl) rfl rfl (Tw Anw (Ac rfl (Ac rfl Al)) rfl (C9 hv2)) (ee0 0 rfl rfl rfl rfl (fun ζ => ?_) ?_))))))
 ·refine Ax E7 rfl rfl rfl rfl (Nbl rfl) (Bu [.box (EL.el {a0 with Phase := 7}), .box (EL.el v2)] rfl ?_)
  exact Sk
 refine Y9 (Ah (Bk ?_))
 obtain rfl := SJ h
 refine ⟨Or.inr rfl, _, _, _, (Ad (Bd.agg _ _ _ _ _ B8 rfl (.lp _ _ _ rfl) (Nbl rfl)) Af), (Aj rfl), ?_⟩
 rfl
def Ec (a0 : Ai) : Option Ai :=
 (idx a0.Tasks 0).bind fun u1 => (Cb ({a0 with Phase := 3, Risk := false, St := Gh}) (B6.mk 2 0 u1.Token a0.Attempt u1.Prog.RO ([] : List UInt8) ([] : List UInt8) Bt)).bind fun v2 => some v2
theorem L0 {a0 : Ai} {r : Ai} (h : Ec a0 = some r) : Bp Tryz.prog 71 [.agg (EL.el a0)] (· = .s (.agg (EL.el r))) := by
 unfold Ec at h
 refine A2 Tryz.func71 rfl (nt := 22) rfl (Nbl rfl) ?_
 intro w0 S0
 refine Aq (Ab (Jj rfl rfl (B1 rfl Nw (Ar (Aq (Ab (sv rfl (Bj Agp Aps Ba (.nil _)) (sv rfl (Aa P4 rfl) (Ax Xf rfl rfl rfl rfl (Nbl rfl) (Bu [.box (EL.el {a0 with St.PC := 0, St.Regs.R0 := 0, St.Regs.R1 := 0, St.Regs.R2 := 0, St.Regs.R3 := 0, St.Regs.R4 := 0, St.Regs.R5 := 0, St.Regs.R6 := 0, St.Regs.R7 := 0, St.Stopped := false}), .box Zba] rfl (Ar (Aq (Ab (sv rfl (Aa Ye rfl) (Ax sz4 rfl rfl rfl rfl (Nbl rfl) (Bu [.box (EL.el {a0 with Risk := false, St.PC := 0, St.Regs.R0 := 0, St.Regs.R1 := 0, St.Regs.R2 := 0, St.Regs.R3 := 0, St.Regs.R4 := 0, St.Regs.R5 := 0, St.Regs.R6 := 0, St.Regs.R7 := 0, St.Stopped := false}), .box Zba] rfl (Ar (Aq (Ab (sv rfl (Aa Hf rfl) (Ax sz3 rfl rfl rfl rfl (Nbl rfl) (Bu [.box (EL.el {a0 with Phase := 3, Risk := false, St.PC := 0, St.Regs.R0 := 0, St.Regs.R1 := 0, St.Regs.R2 := 0, St.Regs.R3 := 0, St.Regs.R4 := 0, St.Regs.R5 := 0, St.Regs.R6 := 0, St.Regs.R7 := 0, St.Stopped := false}), .box Zba] rfl (Ar (Aq (Ab (sv rfl (Aa Mz rfl) (sv rfl (Ae Zk rfl (.lp _ _ _ rfl) rfl) ?_)))))))))))))))))))))))))))
 obtain ⟨u1, hu1, h⟩ := Am h
 refine sv rfl (Dp (f := Ay) Vl (fun _ => rfl) rfl rfl rfl rfl hu1) ?_
 refine sv rfl (C6 (ys := [Ii6 u1.Token, .b u1.Prog.RO, .sl u1.Prog.Ops.length (u1.Prog.Ops.flatMap Cg)]) Alr rfl (.cp _) rfl rfl) (B1 rfl An2 (Ax Aq0 rfl rfl rfl rfl (Nbl rfl) (Bu [.box (EL.el {a0 with Phase := 3, Risk := false, St.PC := 0, St.Regs.R0 := 0, St.Regs.R1 := 0, St.Regs.R2 := 0, St.Regs.R3 := 0, St.Regs.R4 := 0, St.Regs.R5 := 0, St.Regs.R6 := 0, St.Regs.R7 := 0, St.Stopped := false}), .box Zba, .box (EL.el u1)] rfl (Ar (Aq (Ab (sv rfl (Ao B8 rfl (.lp _ _ _ rfl) (Nbl rfl)) (sv rfl (Aa Sf rfl) (sv rfl (Ae ti3 rfl (.lp _ _ _ rfl) rfl) (sv rfl (Aa Oe rfl) (sv rfl (Ae ti3 rfl (.lp _ _ _ rfl) rfl) (sv rfl (Aa Adc rfl) (sv rfl (Aa Aky rfl) (sv rfl (Ae ti4 rfl (.lp _ _ _ rfl) rfl) (sv rfl (Bj Zf Aeq (Ap rfl (Ap rfl (Ap rfl (Ap rfl Ba)))) (.cons _ _ _ _ _ _ _ rfl rfl (Nbl rfl) (.cons _ _ _ _ _ _ _ rfl rfl (Nbl rfl) (.cons _ _ _ _ _ _ _ rfl rfl (Nbl rfl) (.cons _ _ _ _ _ _ _ rfl rfl (Nbl rfl) (.nil _)))))) ?_)))))))))))))))
 obtain ⟨v2, hv2, h⟩ := Am h
 refine A3 rfl Anw (Ac rfl (Ac rfl Al)) (Nt rfl) (C9 hv2) (Ax E7 rfl rfl rfl rfl (Nbl rfl) (Bu [.box (EL.el {a0 with Phase := 3, Risk := false, St.PC := 0, St.Regs.R0 := 0, St.Regs.R1 := 0, St.Regs.R2 := 0, St.Regs.R3 := 0, St.Regs.R4 := 0, St.Regs.R5 := 0, St.Regs.R6 := 0, St.Regs.R7 := 0, St.Stopped := false}), .box (EL.el v2), .box (EL.el u1)] rfl (Ar (Bk ?_))))
 obtain rfl := SJ h
 refine ⟨Or.inr rfl, _, _, _, (Ad (Bd.agg _ _ _ _ _ B8 rfl (.lp _ _ _ rfl) (Nbl rfl)) Af), (Aj rfl), ?_⟩
 rfl
def Dv (a0 : Ai) : Option Ai :=
 if (decide ((a0.Tasks.length : Int) = 0)) then (some ({a0 with Phase := 0, Left := 0})) else (if (decide (0 < a0.Attempt)) then ((D4 a0).bind fun v1 => some v1) else ((Ec ({a0 with Attempt := 1})).bind fun v2 => some v2))
theorem I9 {a0 : Ai} {r : Ai} (h : Dv a0 = some r) : Bp Tryz.prog 56 [.agg (EL.el a0)] (· = .s (.agg (EL.el r))) := by
 unfold Dv at h
 refine A2 Tryz.func56 rfl (nt := 18) rfl (Nbl rfl) ?_
 intro w0 S0
 refine Aq (Ab (Jj rfl rfl (B1 rfl Nw (Ar (Aq (Aq (Ab (sv rfl (Aa Mz rfl) (sv rfl (Ae Zk rfl (.lp _ _ _ rfl) rfl) (sv rfl (A0 Vl rfl) (sv rfl (Br rfl rfl) (Ar (ccI h rfl (fun h => ?_) (fun h => ?_))))))))))))))
 ·refine Aq (Ab (sv rfl (Aa Hf rfl) (Ax sz3 rfl rfl rfl rfl (Nbl rfl) (Bu [.box (EL.el {a0 with Phase := 0}), .box Zba] rfl (Ar (Aq (Ab (sv rfl (Aa Q0 rfl) (Ax sz3 rfl rfl rfl rfl (Nbl rfl) (Bu [.box (EL.el {a0 with Phase := 0, Left := 0}), .box Zba] rfl (Ar (Aq (Ab (sv rfl (Ao B8 rfl (.lp _ _ _ rfl) (Nbl rfl)) (Ax E7 rfl rfl rfl rfl (Nbl rfl) (Bu [.box (EL.el {a0 with Phase := 0, Left := 0}), .box (EL.el {a0 with Phase := 0, Left := 0})] rfl (Ar (Bk (Au ?_)))))))))))))))))))
  obtain rfl := SJ h
  refine ⟨Or.inr rfl, _, _, _, (Ad (Bd.agg _ _ _ _ _ B8 rfl (.lp _ _ _ rfl) (Nbl rfl)) Af), (Aj rfl), ?_⟩
  rfl
 ·refine Bl (Ah (Aq (Aq (Ab (sv rfl (Aa Oe rfl) (sv rfl (Ae ti3 rfl (.lp _ _ _ rfl) rfl) (sv rfl (Di rfl rfl) (Ar (ccI h rfl (fun h => ?_) (fun h => ?_))))))))))
  ·refine Aq (Ab (sv rfl (Ao B8 rfl (.lp _ _ _ rfl) (Nbl rfl)) ?_))
   obtain ⟨v1, hv1, h⟩ := Am h
   refine A3 rfl As6 (Ac rfl Al) (Aj rfl) (Js hv1) (Ax E7 rfl rfl rfl rfl (Nbl rfl) (Bu [.box (EL.el a0), .box (EL.el v1)] rfl (Ar (Bk (Au ?_)))))
   obtain rfl := SJ h
   refine ⟨Or.inr rfl, _, _, _, (Ad (Bd.agg _ _ _ _ _ B8 rfl (.lp _ _ _ rfl) (Nbl rfl)) Af), (Aj rfl), ?_⟩
   rfl
  ·refine Bl (Ah (Aq (Ab (sv rfl (Aa Oe rfl) (Ax sz3 rfl rfl rfl rfl (Nbl rfl) (Bu [.box (EL.el {a0 with Attempt := 1}), .box Zba] rfl (Ar (Aq (Ab (sv rfl (Ao B8 rfl (.lp _ _ _ rfl) (Nbl rfl)) ?_))))))))))
   obtain ⟨v2, hv2, h⟩ := Am h
   refine A3 rfl Auo (Ac rfl Al) (Aj rfl) (L0 hv2) (Ax E7 rfl rfl rfl rfl (Nbl rfl) (Bu [.box (EL.el {a0 with Attempt := 1}), .box (EL.el v2)] rfl (Ar (Bk ?_))))
   obtain rfl := SJ h
   refine ⟨Or.inr rfl, _, _, _, (Ad (Bd.agg _ _ _ _ _ B8 rfl (.lp _ _ _ rfl) (Nbl rfl)) Af), (Aj rfl), ?_⟩
   rfl
def Iz (b5 : Ai × (List As)) : Option (Ai × Int) :=
 some (b5.1, 0)
def Dl (a0 : Ai) (a1 : As) : Option (Ai × Int) :=
 (E1 a0).bind fun v1 => if (!v1) then (some (Cy, 1)) else ((Df a1).bind fun v2 => if (!v2) then (some (Cy, 1)) else (if (decide (a0.Phase = 11)) then (some (Cy, 13)) else ((Fi a0.Tasks a1.Token).bind fun v3 => if (decide (0 ≤ v3)) then (some (Cy, 7)) else (if (decide (8 ≤ (a0.Tasks.length : Int))) then (some (Cy, 8)) else ((Ii [a0.Tasks, [a1]]).bind fun v4 => if (decide (a0.Phase = 0)) then ((Dv (Ai.mk (Cr.mk a0.Cfg.Who (Dk.mk a0.Cfg.Plan.Wait a0.Cfg.Plan.Most a0.Cfg.Plan.Tries) a0.Cfg.Attempts a0.Cfg.Budget) v4 a0.Phase a0.Epoch a0.Seq a0.Attempt a0.Sent a0.Left a0.Resets a0.Risk (A7.mk a0.St.PC (E5.mk a0.St.Regs.R0 a0.St.Regs.R1 a0.St.Regs.R2 a0.St.Regs.R3 a0.St.Regs.R4 a0.St.Regs.R5 a0.St.Regs.R6 a0.St.Regs.R7) a0.St.Stopped) (B6.mk a0.Req.Kind a0.Req.Seq a0.Req.Token a0.Req.Attempt a0.Req.RO a0.Req.Key a0.Req.Val (B9.mk a0.Req.Rng.Lo a0.Req.Rng.Hi a0.Req.Rng.Open)) (Bo.mk a0.In.Buf a0.In.Dead) a0.Out a0.Done a0.Tried)).bind fun v6 => Iz (v6, v4)) else (Iz ((Ai.mk (Cr.mk a0.Cfg.Who (Dk.mk a0.Cfg.Plan.Wait a0.Cfg.Plan.Most a0.Cfg.Plan.Tries) a0.Cfg.Attempts a0.Cfg.Budget) v4 a0.Phase a0.Epoch a0.Seq a0.Attempt a0.Sent a0.Left a0.Resets a0.Risk (A7.mk a0.St.PC (E5.mk a0.St.Regs.R0 a0.St.Regs.R1 a0.St.Regs.R2 a0.St.Regs.R3 a0.St.Regs.R4 a0.St.Regs.R5 a0.St.Regs.R6 a0.St.Regs.R7) a0.St.Stopped) (B6.mk a0.Req.Kind a0.Req.Seq a0.Req.Token a0.Req.Attempt a0.Req.RO a0.Req.Key a0.Req.Val (B9.mk a0.Req.Rng.Lo a0.Req.Rng.Hi a0.Req.Rng.Open)) (Bo.mk a0.In.Buf a0.In.Dead) a0.Out a0.Done a0.Tried), v4)))))))
theorem N8 {a0 : Ai} {a1 : As} {r : Ai × Int} (h : Dl a0 a1 = some r) : Bp Tryz.prog 21 [.agg (EL.el a0), .agg (EL.el a1)] (· = .tup [.agg (EL.el r.1), .one (Ii6 r.2)]) := by
 unfold Dl at h
 refine A2 Tryz.func21 rfl (nt := 48) rfl (Nbl rfl) ?_
 intro w0 S0
 refine Aq (Ab (Jj rfl rfl (Jj rfl rfl (B1 rfl Nw (sv rfl (Ak rfl) (Ar (Aq (B4 (Aq (Ab (sv rfl (Ao B8 rfl (.lp _ _ _ rfl) (Nbl rfl)) ?_)))))))))))
 obtain ⟨v1, hv1, h⟩ := Am h
 refine A3 rfl An8 (Ac rfl Al) (Aj rfl) (Ht hv1) (sv rfl (Ca rfl) (sv rfl (Ag rfl) (Bq 10 rfl (fun hc => ?_) (fun hc => ?_))))
 ·replace h := B2 hc h
  clear hc
  refine Aw rfl rfl rfl rfl (Aw rfl rfl rfl rfl (Aw rfl rfl rfl rfl (sv rfl (Av rfl rfl) (sv rfl (Ak rfl) (Ar (Hq rfl (fun _ => ?_) (fun hx => Bool.noConfusion hx)))))))
  refine Aq (Ab (sv rfl (Bj Nw Adn Ba (.nil _)) (Ax E7 rfl rfl rfl rfl (Nbl rfl) (Bu [.box (EL.el a0), .box (EL.el a1), .box Zba] rfl (sv rfl (Ak rfl) (Ar (Bk (Bc (Au ?_)))))))))
  obtain rfl := SJ h
  refine ⟨Or.inr rfl, _, _, _, (Ad (Bd.agg _ _ _ _ _ B8 rfl (.lp _ _ _ rfl) (Nbl rfl)) (Ad (Bd.tmp _ _ rfl) Af)), (Nt rfl), ?_⟩
  rfl
 ·replace h := B3 hc h
  clear hc
  refine son rfl rfl rfl (sv rfl (Ao Alr rfl (.lp _ _ _ rfl) (Nbl rfl)) (son rfl rfl rfl ?_))
  obtain ⟨v2, hv2, h⟩ := Am h
  refine A3 rfl Auj (Ac rfl Al) (Aj rfl) (Nh hv2) (son rfl rfl rfl (sv rfl (Ca rfl) (sv rfl (An rfl rfl) (sv rfl (Ak rfl) (Ar (ccI h rfl (fun h => ?_) (fun h => ?_)))))))
  ·refine Aq (Ab (sv rfl (Bj Nw Adn Ba (.nil _)) (Ax E7 rfl rfl rfl rfl (Nbl rfl) (Bu [.box (EL.el a0), .box (EL.el a1), .box Zba] rfl (sv rfl (Ak rfl) (Ar (Bk (Bc (Au ?_)))))))))
   obtain rfl := SJ h
   refine ⟨Or.inr rfl, _, _, _, (Ad (Bd.agg _ _ _ _ _ B8 rfl (.lp _ _ _ rfl) (Nbl rfl)) (Ad (Bd.tmp _ _ rfl) Af)), (Nt rfl), ?_⟩
   rfl
  ·refine Aq (Ab (sv rfl (Aa Hf rfl) (sv rfl (Ae ti3 rfl (.lp _ _ _ rfl) rfl) (sv rfl (Br rfl rfl) (sv rfl (Ak rfl) (Ar (ccI h rfl (fun h => ?_) (fun h => ?_))))))))
   ·refine Aq (Ab (sv rfl (Bj Nw Adn Ba (.nil _)) (Ax E7 rfl rfl rfl rfl (Nbl rfl) (Bu [.box (EL.el a0), .box (EL.el a1), .box Zba] rfl (sv rfl (Ak rfl) (Ar (Bk (Bc (Au ?_)))))))))
    obtain rfl := SJ h
    refine ⟨Or.inr rfl, _, _, _, (Ad (Bd.agg _ _ _ _ _ B8 rfl (.lp _ _ _ rfl) (Nbl rfl)) (Ad (Bd.tmp _ _ rfl) Af)), (Nt rfl), ?_⟩
    rfl
   ·refine Aq (Ab (sv rfl (Aa Mz rfl) (sv rfl (Ae Zk rfl (.lp _ _ _ rfl) rfl) (sv rfl (Aa Sf rfl) (sv rfl (Ae ti3 rfl (.lp _ _ _ rfl) rfl) ?_)))))
    obtain ⟨v3, hv3, h⟩ := Am h
    refine A3 rfl Atw (Ac rfl (Ac rfl Al)) (Aj rfl) (Od hv3) (sv rfl (Lp rfl rfl) (sv rfl (Ak rfl) (Ar (ccI h rfl (fun h => ?_) (fun h => ?_)))))
    ·refine Aq (Ab (sv rfl (Bj Nw Adn Ba (.nil _)) (Ax E7 rfl rfl rfl rfl (Nbl rfl) (Bu [.box (EL.el a0), .box (EL.el a1), .box Zba] rfl (sv rfl (Ak rfl) (Ar (Bk (Bc (Au ?_)))))))))
     obtain rfl := SJ h
     refine ⟨Or.inr rfl, _, _, _, (Ad (Bd.agg _ _ _ _ _ B8 rfl (.lp _ _ _ rfl) (Nbl rfl)) (Ad (Bd.tmp _ _ rfl) Af)), (Nt rfl), ?_⟩
     rfl
    ·refine Aq (Ab (sv rfl (Aa Mz rfl) (sv rfl (Ae Zk rfl (.lp _ _ _ rfl) rfl) (sv rfl (A0 Vl rfl) (sv rfl (Lp rfl rfl) (sv rfl (Ak rfl) (Ar (ccI h rfl (fun h => ?_) (fun h => ?_)))))))))
     ·refine Aq (Ab (sv rfl (Bj Nw Adn Ba (.nil _)) (Ax E7 rfl rfl rfl rfl (Nbl rfl) (Bu [.box (EL.el a0), .box (EL.el a1), .box Zba] rfl (sv rfl (Ak rfl) (Ar (Bk (Bc (Au ?_)))))))))
      obtain rfl := SJ h
      refine ⟨Or.inr rfl, _, _, _, (Ad (Bd.agg _ _ _ _ _ B8 rfl (.lp _ _ _ rfl) (Nbl rfl)) (Ad (Bd.tmp _ _ rfl) Af)), (Nt rfl), ?_⟩
      rfl
     ·refine Bl (A1 (Ah (Aq (Ab (sv rfl (Aa Mz rfl) (sv rfl (Ae Zk rfl (.lp _ _ _ rfl) rfl) (sv rfl (Ao Alr rfl (.lp _ _ _ rfl) (Nbl rfl)) ?_)))))))
      refine Rj rfl Tryz.underlying29 Apx rfl rfl (List.all_eq_true.1 rfl) (by decide) ?_
      refine Bu [.box (EL.el a0), .box (EL.el a1), .box Zba, .arr 94 3 0 ([a1].flatMap Ay)] rfl ?_
      refine Aau 38 rfl (by (repeat' first | exact Kb.nil _ | apply Kb.cons | apply J4.one | apply J4.agg | exact E8.nil | exact E8.ls _ _ _ _ _ _ rfl (Bg (f := Ay) (fun _ => rfl) ([a1] : List As)).symm | exact E8.ls _ _ _ _ _ _ rfl (Bg (f := Ay) (fun _ => rfl) _).symm | exact E8.id _ rfl | exact D2.nil _ | apply D2.cons)) ?_
      refine Sy (out := ([a0.Tasks, [a1]] : List (List As)).flatMap (eL Ay)) rfl Tryz.underlying163 Avw (Ap rfl (Ap rfl Ba)) (.cons _ _ _ _ _ _ _ rfl rfl (Nbl rfl) (.cons _ _ _ _ _ _ _ rfl rfl (Nbl rfl) (.nil _))) rfl (by decide) ?_
      refine Aau 39 rfl (by (repeat' first | exact Kb.nil _ | apply Kb.cons | apply J4.one | apply J4.agg | exact E8.nil | exact E8.ls _ _ _ _ _ _ rfl (Bg (f := (eL Ay)) (fun _ => rfl) ([a0.Tasks, [a1]] : List (List As))).symm | exact E8.ls _ _ _ _ _ _ rfl (Bg (f := (eL Ay)) (fun _ => rfl) _).symm | exact E8.ls _ _ _ _ _ _ rfl (Bg (f := Ay) (fun _ => rfl) _).symm | exact E8.id _ rfl | exact D2.nil _ | apply D2.cons)) ?_
      obtain ⟨v4, hv4, h⟩ := Am h
      refine C3 (x' := .s (.one (.ls 5 v4.length))) (M' := [.box (EL.el a0), .box (EL.el a1), .box Zba, .arr 94 3 ([a1].flatMap Ay).length ([a1].flatMap Ay), .arr 29 1 ([a0.Tasks, [a1]].flatMap (eL Ay)).length ([a0.Tasks, [a1]].flatMap (eL Ay)), .arr 94 3 0 (v4.flatMap Ay)]) [] rfl Av9 (.func _) (Ac rfl Al) (Ry hv4) rfl rfl (by decide) rfl rfl rfl ?_
      refine sv rfl (Aa Mz rfl) (Ax Atm rfl rfl rfl rfl (Nbl rfl) (Bu [.box ((EL.el a0).set 6 (.ls 5 v4.length)), .box (EL.el a1), .box Zba, .arr 94 3 ([a1].flatMap Ay).length ([a1].flatMap Ay), .arr 29 1 ([a0.Tasks, [a1]].flatMap (eL Ay)).length ([a0.Tasks, [a1]].flatMap (eL Ay)), .arr 94 3 0 (v4.flatMap Ay)] rfl (Ar (Aq (Aq (Ab (sv rfl (Aa Hf rfl) (sv rfl (Ae ti3 rfl (.lp _ _ _ rfl) rfl) (sv rfl (Br rfl rfl) (Ar (G6 (Ai × (List As)) (fun b5 => [(2, .s (.one (.lp 0 0))), (4, .s (.one (.lp 2 0)))]) (fun b5 => [.box (EL.el b5.1), .box (EL.el a1), .box Zba, .arr 94 3 ([a1].flatMap Ay).length ([a1].flatMap Ay), .arr 29 1 ([a0.Tasks, [a1]].flatMap (eL Ay)).length ([a0.Tasks, [a1]].flatMap (eL Ay)), .arr 94 3 (b5.2.flatMap Ay).length (b5.2.flatMap Ay)]) (fun b5 => Iz b5 = some r) (fun _ _ => Be rfl) (fun _ _ => Az rfl) (fun _ _ => Nbl rfl) (fun b5 h => ?_) ?_)))))))))))
      ·unfold Iz at h
       refine Aq (Ab (sv rfl (Ao B8 rfl (.lp _ _ _ rfl) (Nbl rfl)) (Ax E7 rfl rfl rfl rfl (Nbl rfl) (Bu [.box (EL.el b5.1), .box (EL.el a1), .box (EL.el b5.1), .arr 94 3 ([a1].flatMap Ay).length ([a1].flatMap Ay), .arr 29 1 ([a0.Tasks, [a1]].flatMap (eL Ay)).length ([a0.Tasks, [a1]].flatMap (eL Ay)), .arr 94 3 (b5.2.flatMap Ay).length (b5.2.flatMap Ay)] rfl (sv rfl (Ak rfl) (Ar (Bk ?_)))))))
       obtain rfl := SJ h
       refine ⟨Or.inr rfl, _, _, _, (Ad (Bd.agg _ _ _ _ _ B8 rfl (.lp _ _ _ rfl) (Nbl rfl)) (Ad (Bd.tmp _ _ rfl) Af)), (Aj rfl), ?_⟩
       rfl
      ·skip
       refine ccI h rfl (fun h => ?_) (fun h => ?_)
       ·refine Ab (sv rfl (Ao B8 rfl (.lp _ _ _ rfl) (Nbl rfl)) ?_)
        refine Aau 45 rfl (by (repeat' first | exact Kb.nil _ | apply Kb.cons | apply J4.one | apply J4.agg | exact E8.nil | exact E8.ls _ _ _ _ _ _ rfl (Bg (f := (eL Ay)) (fun _ => rfl) _).symm | exact E8.ls _ _ _ _ _ _ rfl (Bg (f := Ay) (fun _ => rfl) _).symm | exact E8.id _ rfl | exact D2.nil _ | apply D2.cons)) ?_
        obtain ⟨v6, hv6, h⟩ := Am h
        refine A3 rfl Ary (Ac rfl Al) (Aj rfl) (I9 hv6) (Ax E7 rfl rfl rfl rfl (Nbl rfl) (Bu [.box (EL.el v6), .box (EL.el a1), .box Zba, .arr 94 3 ([a1].flatMap Ay).length ([a1].flatMap Ay), .arr 29 1 ([a0.Tasks, [a1]].flatMap (eL Ay)).length ([a0.Tasks, [a1]].flatMap (eL Ay)), .arr 94 3 (v4.flatMap Ay).length (v4.flatMap Ay)] rfl (Ar ?_)))
        exact ⟨(v6, v4), _, h, ⟨rfl, rfl, trivial⟩, rfl⟩
       ·refine Ace 0 6 rfl rfl (E8.ls _ _ _ _ _ _ rfl (Bg (f := Ay) (fun _ => rfl) (v4 : List As)).symm) rfl ?_
        refine Bl (Ah ?_)
        exact ⟨((Ai.mk (Cr.mk a0.Cfg.Who (Dk.mk a0.Cfg.Plan.Wait a0.Cfg.Plan.Most a0.Cfg.Plan.Tries) a0.Cfg.Attempts a0.Cfg.Budget) v4 a0.Phase a0.Epoch a0.Seq a0.Attempt a0.Sent a0.Left a0.Resets a0.Risk (A7.mk a0.St.PC (E5.mk a0.St.Regs.R0 a0.St.Regs.R1 a0.St.Regs.R2 a0.St.Regs.R3 a0.St.Regs.R4 a0.St.Regs.R5 a0.St.Regs.R6 a0.St.Regs.R7) a0.St.Stopped) (B6.mk a0.Req.Kind a0.Req.Seq a0.Req.Token a0.Req.Attempt a0.Req.RO a0.Req.Key a0.Req.Val (B9.mk a0.Req.Rng.Lo a0.Req.Rng.Hi a0.Req.Rng.Open)) (Bo.mk a0.In.Buf a0.In.Dead) a0.Out a0.Done a0.Tried), v4), _, h, ⟨rfl, rfl, trivial⟩, rfl⟩
def Hd (a0 : Bf) (b1 : Unit) : Option Bool :=
 if (decide (a0.Kind = 0)) then ((Eb a0.Seq 4294967295).bind fun v2 => if v2 then ((Eb a0.Code 255).bind fun v3 => if v3 then ((Eb a0.N 1099511627776).bind fun v4 => if v4 then ((Ct a0.Found a0.Val 0 32).bind fun v5 => if v5 then (some (decide ((a0.List.length : Int) ≤ 8))) else (some false)) else (some false)) else (some false)) else (some false)) else ((Hk a0.Kind).bind fun v6 => if v6 then ((Eb a0.Seq 4294967295).bind fun v7 => if v7 then ((Eb a0.Code 255).bind fun v8 => if v8 then ((Eb a0.N 1099511627776).bind fun v9 => if v9 then ((Ct a0.Found a0.Val 0 32).bind fun v10 => if v10 then (some (decide ((a0.List.length : Int) ≤ 8))) else (some false)) else (some false)) else (some false)) else (some false)) else (some false))
def G2 (a0 : Bf) (s11 : Int) : Option (LR (Int) (Unit) (Bool)) :=
 if (decide (s11 < (a0.List.length : Int))) then ((idx a0.List s11).bind fun u12 => (Ct true u12.Key 1 16).bind fun v13 => if (!v13) then (some (.ret false)) else (if (decide (32 < (u12.Val.length : Int))) then (some (.ret false)) else (some (.cont (wI (s11 + 1)))))) else (some (.brk ()))
def Fe (a0 : Bf) : Option Bool :=
 (Pt (G2 a0) fuel 0).bind fun x => match x with | .inl r => some r | .inr e14 => Hd a0 e14
theorem Oc {a0 : Bf} {r : Bool} (h : Fe a0 = some r) : Bp Tryz.prog 39 [.agg (EL.el a0)] (· = .s (.one (.b r))) := by
 unfold Fe at h
 refine A2 Tryz.func39 rfl (nt := 59) rfl (Nbl rfl) ?_
 intro w0 S0
 refine Aq (Ab (Jj rfl rfl (sv rfl (Ak rfl) (Ar (Aq (Aq (Ab (sv rfl (Aa U2 rfl) (sv rfl (Ae Ae1 rfl (.lp _ _ _ rfl) rfl) (sv rfl (A0 Ads rfl) (sv rfl (Ag rfl) (Ar (G6 (Unit) (fun b1 => [(1, .s (.one (.lp 0 0)))]) (fun b1 => [.box (EL.el a0)]) (fun b1 => Hd a0 b1 = some r) (fun _ _ => Be rfl) (fun _ _ => Az rfl) (fun _ _ => Nbl rfl) (fun b1 h => ?_) ?_)))))))))))))
 ·unfold Hd at h
  refine Aq (Ab (sv rfl (Aa P9 rfl) (sv rfl (Ae ti3 rfl (.lp _ _ _ rfl) rfl) (sv rfl (Br rfl rfl) (sv rfl (Ag rfl) (Bq 26 rfl (fun hc => ?_) (fun hc => ?_)))))))
  ·replace h := B2 hc h
   clear hc
   refine Aw rfl rfl rfl rfl (Aw rfl rfl rfl rfl (Aw rfl rfl rfl rfl (sv rfl (Av rfl rfl) (sv rfl (Ag rfl) (son rfl rfl rfl (sv rfl (Aa Sg rfl) (son rfl rfl rfl (sv rfl (Ae ti3 rfl (.lp _ _ _ rfl) rfl) (son rfl rfl rfl ?_)))))))))
   obtain ⟨v2, hv2, h⟩ := Am h
   refine A3 rfl Alm (Ac rfl (Ac rfl Al)) (Aj rfl) (F2 hv2) (sv rfl (Av rfl rfl) (sv rfl (Ag rfl) (Bq 36 rfl (fun hc => ?_) (fun hc => ?_))))
   ·replace h := B2 hc h
    clear hc
    refine son rfl rfl rfl (sv rfl (Aa Q7 rfl) (son rfl rfl rfl (sv rfl (Ae Aba rfl (.lp _ _ _ rfl) rfl) (son rfl rfl rfl ?_))))
    obtain ⟨v3, hv3, h⟩ := Am h
    refine A3 rfl Alm (Ac rfl (Ac rfl Al)) (Aj rfl) (F2 hv3) (sv rfl (Av rfl rfl) (sv rfl (Ag rfl) (Bq 41 rfl (fun hc => ?_) (fun hc => ?_))))
    ·replace h := B2 hc h
     clear hc
     refine son rfl rfl rfl (sv rfl (Aa Rc rfl) (son rfl rfl rfl (sv rfl (Ae ti3 rfl (.lp _ _ _ rfl) rfl) (son rfl rfl rfl ?_))))
     obtain ⟨v4, hv4, h⟩ := Am h
     refine A3 rfl Alm (Ac rfl (Ac rfl Al)) (Aj rfl) (F2 hv4) (sv rfl (Av rfl rfl) (sv rfl (Ag rfl) (Bq 46 rfl (fun hc => ?_) (fun hc => ?_))))
     ·replace h := B2 hc h
      clear hc
      refine son rfl rfl rfl (sv rfl (Aa Aa4 rfl) (son rfl rfl rfl (sv rfl (Ae ti4 rfl (.lp _ _ _ rfl) rfl) (son rfl rfl rfl (sv rfl (Aa Z7 rfl) (son rfl rfl rfl (sv rfl (Ae L5 rfl (.lp _ _ _ rfl) rfl) (son rfl rfl rfl ?_))))))))
      obtain ⟨v5, hv5, h⟩ := Am h
      refine A3 rfl Alk (Ac rfl (Ac rfl (Ac rfl (Ac rfl Al)))) (Aj rfl) (D6 hv5) (sv rfl (Av rfl rfl) (sv rfl (Ag rfl) (Bq 53 rfl (fun hc => ?_) (fun hc => ?_))))
      ·replace h := B2 hc h
       clear hc
       refine son rfl rfl rfl (sv rfl (Aa U2 rfl) (son rfl rfl rfl (sv rfl (Ae Ae1 rfl (.lp _ _ _ rfl) rfl) (son rfl rfl rfl (sv rfl (A0 Ads rfl) (son rfl rfl rfl (sv rfl (F3 rfl rfl) (sv rfl (Av rfl rfl) (sv rfl (Ak rfl) (Ar (Bk ?_)))))))))))
       obtain rfl := SJ h
       refine ⟨Or.inr rfl, _, _, _, (Ad (Bd.tmp _ _ rfl) Af), (Aj rfl), ?_⟩
       rfl
      ·replace h := B3 hc h
       clear hc
       refine Aw rfl rfl rfl rfl (Aw rfl rfl rfl rfl (Aw rfl rfl rfl rfl (Aw rfl rfl rfl rfl (sv rfl (An rfl rfl) (sv rfl (Ak rfl) (Ar (Bk ?_)))))))
       obtain rfl := SJ h
       refine ⟨Or.inr rfl, _, _, _, (Ad (Bd.tmp _ _ rfl) Af), (Aj rfl), ?_⟩
       rfl
     ·replace h := B3 hc h
      clear hc
      refine Aw rfl rfl rfl rfl (Aw rfl rfl rfl rfl (Aw rfl rfl rfl rfl (Aw rfl rfl rfl rfl (Aw rfl rfl rfl rfl (sv rfl (An rfl rfl) (sv rfl (Ag rfl) (Aw rfl rfl rfl rfl (Aw rfl rfl rfl rfl (Aw rfl rfl rfl rfl (Aw rfl rfl rfl rfl (sv rfl (An rfl rfl) (sv rfl (Ak rfl) (Ar (Bk ?_))))))))))))))
      obtain rfl := SJ h
      refine ⟨Or.inr rfl, _, _, _, (Ad (Bd.tmp _ _ rfl) Af), (Aj rfl), ?_⟩
      rfl
    ·replace h := B3 hc h
     clear hc
     refine Aw rfl rfl rfl rfl (Aw rfl rfl rfl rfl (Aw rfl rfl rfl rfl (sv rfl (An rfl rfl) (sv rfl (Ag rfl) (Aw rfl rfl rfl rfl (Aw rfl rfl rfl rfl (Aw rfl rfl rfl rfl (Aw rfl rfl rfl rfl (Aw rfl rfl rfl rfl (sv rfl (An rfl rfl) (sv rfl (Ag rfl) (Aw rfl rfl rfl rfl (Aw rfl rfl rfl rfl (Aw rfl rfl rfl rfl (Aw rfl rfl rfl rfl (sv rfl (An rfl rfl) (sv rfl (Ak rfl) (Ar (Bk ?_)))))))))))))))))))
     obtain rfl := SJ h
     refine ⟨Or.inr rfl, _, _, _, (Ad (Bd.tmp _ _ rfl) Af), (Aj rfl), ?_⟩
     rfl
   ·replace h := B3 hc h
    clear hc
    refine Aw rfl rfl rfl rfl (Aw rfl rfl rfl rfl (Aw rfl rfl rfl rfl (sv rfl (An rfl rfl) (sv rfl (Ag rfl) (Aw rfl rfl rfl rfl (Aw rfl rfl rfl rfl (Aw rfl rfl rfl rfl (sv rfl (An rfl rfl) (sv rfl (Ag rfl) (Aw rfl rfl rfl rfl (Aw rfl rfl rfl rfl (Aw rfl rfl rfl rfl (Aw rfl rfl rfl rfl (Aw rfl rfl rfl rfl (sv rfl (An rfl rfl) (sv rfl (Ag rfl) (Aw rfl rfl rfl rfl (Aw rfl rfl rfl rfl (Aw rfl rfl rfl rfl (Aw rfl rfl rfl rfl (sv rfl (An rfl rfl) (sv rfl (Ak rfl) (Ar (Bk ?_))))))))))))))))))))))))
    obtain rfl := SJ h
    refine ⟨Or.inr rfl, _, _, _, (Ad (Bd.tmp _ _ rfl) Af), (Aj rfl), ?_⟩
    rfl
  ·replace h := B3 hc h
   clear hc
   refine son rfl rfl rfl (sv rfl (Aa P9 rfl) (son rfl rfl rfl (sv rfl (Ae ti3 rfl (.lp _ _ _ rfl) rfl) (son rfl rfl rfl ?_))))
   obtain ⟨v6, hv6, h⟩ := Am h
   refine A3 rfl Aq2 (Ac rfl Al) (Aj rfl) (L8 hv6) (sv rfl (An rfl rfl) (sv rfl (Ag rfl) (Bq 31 rfl (fun hc => ?_) (fun hc => ?_))))
   ·replace h := B2 hc h
    clear hc
    refine son rfl rfl rfl (sv rfl (Aa Sg rfl) (son rfl rfl rfl (sv rfl (Ae ti3 rfl (.lp _ _ _ rfl) rfl) (son rfl rfl rfl ?_))))
    obtain ⟨v7, hv7, h⟩ := Am h
    refine A3 rfl Alm (Ac rfl (Ac rfl Al)) (Aj rfl) (F2 hv7) (sv rfl (Av rfl rfl) (sv rfl (Ag rfl) (Bq 36 rfl (fun hc => ?_) (fun hc => ?_))))
    ·replace h := B2 hc h
     clear hc
     refine son rfl rfl rfl (sv rfl (Aa Q7 rfl) (son rfl rfl rfl (sv rfl (Ae Aba rfl (.lp _ _ _ rfl) rfl) (son rfl rfl rfl ?_))))
     obtain ⟨v8, hv8, h⟩ := Am h
     refine A3 rfl Alm (Ac rfl (Ac rfl Al)) (Aj rfl) (F2 hv8) (sv rfl (Av rfl rfl) (sv rfl (Ag rfl) (Bq 41 rfl (fun hc => ?_) (fun hc => ?_))))
     ·replace h := B2 hc h
      clear hc
      refine son rfl rfl rfl (sv rfl (Aa Rc rfl) (son rfl rfl rfl (sv rfl (Ae ti3 rfl (.lp _ _ _ rfl) rfl) (son rfl rfl rfl ?_))))
      obtain ⟨v9, hv9, h⟩ := Am h
      refine A3 rfl Alm (Ac rfl (Ac rfl Al)) (Aj rfl) (F2 hv9) (sv rfl (Av rfl rfl) (sv rfl (Ag rfl) (Bq 46 rfl (fun hc => ?_) (fun hc => ?_))))
      ·replace h := B2 hc h
       clear hc
       refine son rfl rfl rfl (sv rfl (Aa Aa4 rfl) (son rfl rfl rfl (sv rfl (Ae ti4 rfl (.lp _ _ _ rfl) rfl) (son rfl rfl rfl (sv rfl (Aa Z7 rfl) (son rfl rfl rfl (sv rfl (Ae L5 rfl (.lp _ _ _ rfl) rfl) (son rfl rfl rfl ?_))))))))
       obtain ⟨v10, hv10, h⟩ := Am h
       refine A3 rfl Alk (Ac rfl (Ac rfl (Ac rfl (Ac rfl Al)))) (Aj rfl) (D6 hv10) (sv rfl (Av rfl rfl) (sv rfl (Ag rfl) (Bq 53 rfl (fun hc => ?_) (fun hc => ?_))))
       ·replace h := B2 hc h
        clear hc
        refine son rfl rfl rfl (sv rfl (Aa U2 rfl) (son rfl rfl rfl (sv rfl (Ae Ae1 rfl (.lp _ _ _ rfl) rfl) (son rfl rfl rfl (sv rfl (A0 Ads rfl) (son rfl rfl rfl (sv rfl (F3 rfl rfl) (sv rfl (Av rfl rfl) (sv rfl (Ak rfl) (Ar (Bk ?_)))))))))))
        obtain rfl := SJ h
        refine ⟨Or.inr rfl, _, _, _, (Ad (Bd.tmp _ _ rfl) Af), (Aj rfl), ?_⟩
        rfl
       ·replace h := B3 hc h
        clear hc
        refine Aw rfl rfl rfl rfl (Aw rfl rfl rfl rfl (Aw rfl rfl rfl rfl (Aw rfl rfl rfl rfl (sv rfl (An rfl rfl) (sv rfl (Ak rfl) (Ar (Bk ?_)))))))
        obtain rfl := SJ h
        refine ⟨Or.inr rfl, _, _, _, (Ad (Bd.tmp _ _ rfl) Af), (Aj rfl), ?_⟩
        rfl
      ·replace h := B3 hc h
       clear hc
       refine Aw rfl rfl rfl rfl (Aw rfl rfl rfl rfl (Aw rfl rfl rfl rfl (Aw rfl rfl rfl rfl (Aw rfl rfl rfl rfl (sv rfl (An rfl rfl) (sv rfl (Ag rfl) (Aw rfl rfl rfl rfl (Aw rfl rfl rfl rfl (Aw rfl rfl rfl rfl (Aw rfl rfl rfl rfl (sv rfl (An rfl rfl) (sv rfl (Ak rfl) (Ar (Bk ?_))))))))))))))
       obtain rfl := SJ h
       refine ⟨Or.inr rfl, _, _, _, (Ad (Bd.tmp _ _ rfl) Af), (Aj rfl), ?_⟩
       rfl
     ·replace h := B3 hc h
      clear hc
      refine Aw rfl rfl rfl rfl (Aw rfl rfl rfl rfl (Aw rfl rfl rfl rfl (sv rfl (An rfl rfl) (sv rfl (Ag rfl) (Aw rfl rfl rfl rfl (Aw rfl rfl rfl rfl (Aw rfl rfl rfl rfl (Aw rfl rfl rfl rfl (Aw rfl rfl rfl rfl (sv rfl (An rfl rfl) (sv rfl (Ag rfl) (Aw rfl rfl rfl rfl (Aw rfl rfl rfl rfl (Aw rfl rfl rfl rfl (Aw rfl rfl rfl rfl (sv rfl (An rfl rfl) (sv rfl (Ak rfl) (Ar (Bk ?_)))))))))))))))))))
      obtain rfl := SJ h
      refine ⟨Or.inr rfl, _, _, _, (Ad (Bd.tmp _ _ rfl) Af), (Aj rfl), ?_⟩
      rfl
    ·replace h := B3 hc h
     clear hc
     refine Aw rfl rfl rfl rfl (Aw rfl rfl rfl rfl (Aw rfl rfl rfl rfl (sv rfl (An rfl rfl) (sv rfl (Ag rfl) (Aw rfl rfl rfl rfl (Aw rfl rfl rfl rfl (Aw rfl rfl rfl rfl (sv rfl (An rfl rfl) (sv rfl (Ag rfl) (Aw rfl rfl rfl rfl (Aw rfl rfl rfl rfl (Aw rfl rfl rfl rfl (Aw rfl rfl rfl rfl (Aw rfl rfl rfl rfl (sv rfl (An rfl rfl) (sv rfl (Ag rfl) (Aw rfl rfl rfl rfl (Aw rfl rfl rfl rfl (Aw rfl rfl rfl rfl (Aw rfl rfl rfl rfl (sv rfl (An rfl rfl) (sv rfl (Ak rfl) (Ar (Bk ?_))))))))))))))))))))))))
     obtain rfl := SJ h
     refine ⟨Or.inr rfl, _, _, _, (Ad (Bd.tmp _ _ rfl) Af), (Aj rfl), ?_⟩
     rfl
   ·replace h := B3 hc h
    clear hc
    refine Aw rfl rfl rfl rfl (Aw rfl rfl rfl rfl (Aw rfl rfl rfl rfl (sv rfl (An rfl rfl) (sv rfl (Ag rfl) (Aw rfl rfl rfl rfl (Aw rfl rfl rfl rfl (Aw rfl rfl rfl rfl (sv rfl (An rfl rfl) (sv rfl (Ag rfl) (Aw rfl rfl rfl rfl (Aw rfl rfl rfl rfl (Aw rfl rfl rfl rfl (sv rfl (An rfl rfl) (sv rfl (Ag rfl) (Aw rfl rfl rfl rfl (Aw rfl rfl rfl rfl (Aw rfl rfl rfl rfl (Aw rfl rfl rfl rfl (Aw rfl rfl rfl rfl (sv rfl (An rfl rfl) (sv rfl (Ag rfl) (Aw rfl rfl rfl rfl (Aw rfl rfl rfl rfl (Aw rfl rfl rfl rfl (Aw rfl rfl rfl rfl (sv rfl (An rfl rfl) (sv rfl (Ak rfl) (Ar (Bk ?_)))))))))))))))))))))))))))))
    obtain rfl := SJ h
    refine ⟨Or.inr rfl, _, _, _, (Ad (Bd.tmp _ _ rfl) Af), (Aj rfl), ?_⟩
    rfl
 ·skip
  refine B4 ?_
  obtain ⟨x11, hx11, ho11⟩ := Am h
  refine C2 (G := Nat × (Int)) (fun g => [(1, .s (.one (.lp 0 0))), (6, .s (.one (.sl a0.List.length (a0.List.flatMap Dx)))), (7, .s (.one (Ii6 (a0.List.length : Int)))), (8, .s (.one (Ii6 g.2)))]) (fun g => [.box (EL.el a0)]) (fun g => Pt (G2 a0) g.1 g.2 = some x11) (fun g => g.1) (fuel, 0) hx11 ⟨rfl, rfl, rfl, rfl, trivial⟩ [] rfl (fun _ _ => Be rfl) (fun _ _ => Az rfl) (fun _ _ => Nbl rfl) ?_
  clear hx11 h
  rintro ⟨n11, s11⟩ h
  obtain ⟨n11, y11, rfl, h, hk11⟩ := Ns h
  unfold G2 at h
  refine Aq (Ab (sv rfl (Cm rfl rfl) (Ar (Aq (ccI h rfl (fun h => ?_) (fun h => ?_))))))
  ·refine Bl (Ah (Aq (B4 (Aq (Ab ?_)))))
   obtain ⟨u12, hu12, h⟩ := Am h
   refine sv rfl (Dp (f := Dx) Ads (fun _ => rfl) rfl rfl rfl rfl hu12) ?_
   refine sv rfl (C6 (ys := [.sl u12.Key.length (u12.Key.flatMap eU8), .sl u12.Val.length (u12.Val.flatMap eU8)]) Amx rfl (.cp _) rfl rfl) (B1 rfl Ail (Ax Ant rfl rfl rfl rfl (Nbl rfl) (Bu [.box (EL.el a0), .box (EL.el u12)] rfl (Ar (Aq (Ab (sv rfl (Aa Ab8 rfl) (sv rfl (Ae L5 rfl (.lp _ _ _ rfl) rfl) ?_))))))))
   obtain ⟨v13, hv13, h⟩ := Am h
   refine A3 rfl Alk (Ac rfl (Ac rfl (Ac rfl (Ac rfl Al)))) (Aj rfl) (D6 hv13) (sv rfl (Ca rfl) (sv rfl (Ag rfl) (Bq 16 rfl (fun hc => ?_) (fun hc => ?_))))
   ·replace h := B2 hc h
    clear hc
    refine Aw rfl rfl rfl rfl (Aw rfl rfl rfl rfl (Aw rfl rfl rfl rfl (Aw rfl rfl rfl rfl (sv rfl (Av rfl rfl) (Ar (Hq rfl (fun _ => ?_) (fun hx => Bool.noConfusion hx)))))))
    refine Aq (Ab (sv rfl (Ak rfl) (Ar (Bk (Bc (Au (Au (Bc (Au ?_)))))))))
    obtain rfl := SJ h
    obtain rfl : Sum.inl _ = x11 := hk11
    replace ho11 : some _ = some _ := ho11
    obtain rfl := Option.some.inj ho11
    refine ⟨Or.inr rfl, _, _, _, (Ad (Bd.tmp _ _ rfl) Af), (Aj rfl), ?_⟩
    rfl
   ·replace h := B3 hc h
    clear hc
    refine son rfl rfl rfl (sv rfl (Aa Yg rfl) (son rfl rfl rfl (sv rfl (Ae L5 rfl (.lp _ _ _ rfl) rfl) (son rfl rfl rfl (sv rfl (A0 Li rfl) (son rfl rfl rfl (sv rfl (Di rfl rfl) (sv rfl (An rfl rfl) (Ar (ccI h rfl (fun h => ?_) (fun h => ?_)))))))))))
    ·refine Aq (Ab (sv rfl (Ak rfl) (Ar (Bk (Bc (Au (Au (Bc (Au ?_)))))))))
     obtain rfl := SJ h
     obtain rfl : Sum.inl _ = x11 := hk11
     replace ho11 : some _ = some _ := ho11
     obtain rfl := Option.some.inj ho11
     refine ⟨Or.inr rfl, _, _, _, (Ad (Bd.tmp _ _ rfl) Af), (Aj rfl), ?_⟩
     rfl
    ·refine Bl (A1 (Ah (Ab (sv rfl (B0 rfl rfl) (sv rfl (Ag rfl) (Ar ?_))))))
     obtain rfl := SJ h
     exact ⟨(n11, (wI (s11 + 1))), _, hk11, ⟨rfl, rfl, rfl, rfl, trivial⟩, rfl, Nat.lt_succ_self _⟩
  ·refine Kn (Bh (Bh (Cd (Ah ?_))))
   obtain rfl := SJ h
   obtain rfl : _ = x11 := hk11
   exact ⟨(), _, ho11, ⟨rfl, trivial⟩, rfl⟩
def Jn (b9 : (List UInt8)) : Option ((List UInt8) × Int) :=
 some (b9, 0)
def Fx (a0 : Bf) (s10 : (List UInt8) × Int) : Option (LB ((List UInt8) × Int) ((List UInt8))) :=
 if (decide (s10.2 < (a0.List.length : Int))) then ((idx a0.List s10.2).bind fun u11 => (F0 s10.1 u11.Key).bind fun v12 => (F0 v12 u11.Val).bind fun v13 => some (.cont (v13, (wI (s10.2 + 1))))) else (some (.brk s10.1))
def J0 (a0 : Bf) : Option ((List UInt8) × Int) :=
 (Fe a0).bind fun v1 => if (!v1) then (some (([] : List UInt8), 1)) else ((Eg ([] : List UInt8) (BitVec.ofInt 64 a0.Kind) 1).bind fun v2 => (Eg v2 (BitVec.ofInt 64 a0.Seq) 4).bind fun v3 => (Eg v3 (BitVec.ofInt 64 a0.Code) 1).bind fun v4 => (Eg v4 (BitVec.ofInt 64 a0.N) 8).bind fun v5 => (Hv v5 a0.Found).bind fun v6 => (F0 v6 a0.Val).bind fun v7 => (Eg v7 (BitVec.ofInt 64 (a0.List.length : Int)) 1).bind fun v8 => (Ej (Fx a0) fuel (v8, 0)).bind fun e14 => Jn e14)
theorem Tx {a0 : Bf} {r : (List UInt8) × Int} (h : J0 a0 = some r) : Bp Tryz.prog 16 [.agg (EL.el a0)] (· = .tup [.one (.sl r.1.length (r.1.flatMap eU8)), .one (Ii6 r.2)]) := by
 unfold J0 at h
 refine A2 Tryz.func16 rfl (nt := 56) rfl (Nbl rfl) ?_
 intro w0 S0
 refine Aq (Ab (Jj rfl rfl (sv rfl (Ak rfl) (sv rfl (Ak rfl) (Ar (Aq (Aq (Ab (sv rfl (Ao Acf rfl (.lp _ _ _ rfl) (Nbl rfl)) ?_)))))))))
 obtain ⟨v1, hv1, h⟩ := Am h
 refine A3 rfl Atx (Ac rfl Al) (Aj rfl) (Oc hv1) (sv rfl (Ca rfl) (Ar (ccI h rfl (fun h => ?_) (fun h => ?_))))
 ·refine Aq (Ab (sv rfl (Ak rfl) (sv rfl (Ak rfl) (Ar (Bk (Au ?_))))))
  obtain rfl := SJ h
  refine ⟨Or.inr rfl, _, _, _, (Ad (Bd.tmp _ _ rfl) (Ad (Bd.tmp _ _ rfl) Af)), (Nt rfl), ?_⟩
  rfl
 ·refine Bl (Ah (Aq ?_))
  refine Adx Lm (by kernel_rfl) ?_
  refine dv rfl (Aa P9 rfl) (dv rfl (Ae ti3 rfl (.lp _ _ _ rfl) rfl) (dv rfl (C4 rfl Tryz.underlying3 Tryz.underlying112 rfl) ?_))
  obtain ⟨v2, hv2, h⟩ := Am h
  refine dd rfl (Tw Aa9 (Ac rfl (Ac rfl (Ac rfl Al))) rfl (En hv2)) (dv rfl (Aa Sg rfl) (dv rfl (Ae ti3 rfl (.lp _ _ _ rfl) rfl) (dv rfl (C4 rfl Tryz.underlying3 Tryz.underlying112 rfl) ?_)))
  obtain ⟨v3, hv3, h⟩ := Am h
  refine dd rfl (D3 Aa9 (Ac rfl (Ac rfl (Ac rfl Al))) rfl (En hv3)) (dv rfl (Ak rfl) (Zw (Ah (Aq ?_))))
  refine Aay Lm (by kernel_rfl) ?_
  refine dv rfl (Ag rfl) (dv rfl (Aa Q7 rfl) (dv rfl (Ae Aba rfl (.lp _ _ _ rfl) rfl) (dv rfl (C4 rfl Tryz.underlying38 Tryz.underlying112 rfl) ?_)))
  obtain ⟨v4, hv4, h⟩ := Am h
  refine dd rfl (D3 Aa9 (Ac rfl (Ac rfl (Ac rfl Al))) rfl (En hv4)) (dv rfl (Aa Rc rfl) (dv rfl (Ae ti3 rfl (.lp _ _ _ rfl) rfl) (dv rfl (C4 rfl Tryz.underlying3 Tryz.underlying112 rfl) ?_)))
  obtain ⟨v5, hv5, h⟩ := Am h
  refine dd rfl (D3 Aa9 (Ac rfl (Ac rfl (Ac rfl Al))) rfl (En hv5)) (dv rfl (Ak rfl) (Zw (Ah (Aq ?_))))
  refine Aay Lm (by kernel_rfl) ?_
  refine dv rfl (Ag rfl) (dv rfl (Aa Aa4 rfl) (dv rfl (Ae ti4 rfl (.lp _ _ _ rfl) rfl) ?_))
  obtain ⟨v6, hv6, h⟩ := Am h
  refine dd rfl (D3 Arg (Ac rfl (Ac rfl Al)) rfl (M9 hv6)) (dv rfl (Aa Z7 rfl) (dv rfl (Ae L5 rfl (.lp _ _ _ rfl) rfl) ?_))
  obtain ⟨v7, hv7, h⟩ := Am h
  refine dd rfl (D3 Al3 (Ac rfl (Ac rfl Al)) rfl (Iv hv7)) (dv rfl (Ak rfl) (Zw (Ah (Aq (Ab (sv rfl (Ag rfl) (sv rfl (Aa U2 rfl) (sv rfl (Ae Ae1 rfl (.lp _ _ _ rfl) rfl) (sv rfl (A0 Ads rfl) (sv rfl (C4 rfl Tryz.underlying3 Tryz.underlying112 rfl) ?_))))))))))
  obtain ⟨v8, hv8, h⟩ := Am h
  refine A3 rfl Aa9 (Ac rfl (Ac rfl (Ac rfl Al))) (Aj rfl) (En hv8) (sv rfl (Ak rfl) (Ar (Aq (Aq (Ab (sv rfl (Aa U2 rfl) (sv rfl (Ae Ae1 rfl (.lp _ _ _ rfl) rfl) (sv rfl (A0 Ads rfl) (sv rfl (Ag rfl) (Ar (G6 ((List UInt8)) (fun b9 => [(4, .s (.one (.sl b9.length (b9.flatMap eU8))))]) (fun b9 => [.box (EL.el a0)]) (fun b9 => Jn b9 = some r) (fun _ _ => Be rfl) (fun _ _ => Az rfl) (fun _ _ => Nbl rfl) (fun b9 h => ?_) ?_)))))))))))
  ·unfold Jn at h
   refine Aq (Ab (sv rfl (Ag rfl) (sv rfl (Ak rfl) (sv rfl (Ak rfl) (Ar (Bk ?_))))))
   obtain rfl := SJ h
   refine ⟨Or.inr rfl, _, _, _, (Ad (Bd.tmp _ _ rfl) (Ad (Bd.tmp _ _ rfl) Af)), (Aj rfl), ?_⟩
   rfl
  ·skip
   refine B4 ?_
   obtain ⟨x10, hx10, ho10⟩ := Am h
   refine C2 (G := Nat × ((List UInt8) × Int)) (fun g => [(4, .s (.one (.sl g.2.1.length (g.2.1.flatMap eU8)))), (41, .s (.one (.sl a0.List.length (a0.List.flatMap Dx)))), (42, .s (.one (Ii6 (a0.List.length : Int)))), (43, .s (.one (Ii6 g.2.2)))]) (fun g => [.box (EL.el a0)]) (fun g => Ej (Fx a0) g.1 g.2 = some x10) (fun g => g.1) (fuel, (v8, 0)) hx10 ⟨rfl, rfl, rfl, rfl, trivial⟩ [] rfl (fun _ _ => Be rfl) (fun _ _ => Az rfl) (fun _ _ => Nbl rfl) ?_
   clear hx10 h
   rintro ⟨n10, s10⟩ h
   obtain ⟨n10, y10, rfl, h, hk10⟩ := F5 h
   unfold Fx at h
   refine Aq (Ab (sv rfl (Cm rfl rfl) (Ar (Aq (ccI h rfl (fun h => ?_) (fun h => ?_))))))
   ·refine Bl (Ah (Aq (B4 (Aq (Ab ?_)))))
    obtain ⟨u11, hu11, h⟩ := Am h
    refine sv rfl (Dp (f := Dx) Ads (fun _ => rfl) rfl rfl rfl rfl hu11) ?_
    refine sv rfl (C6 (ys := [.sl u11.Key.length (u11.Key.flatMap eU8), .sl u11.Val.length (u11.Val.flatMap eU8)]) Amx rfl (.cp _) rfl rfl) (B1 rfl Ail (Ax Ant rfl rfl rfl rfl (Nbl rfl) (Bu [.box (EL.el a0), .box (EL.el u11)] rfl (Ar ?_))))
    refine Aay Lm (by kernel_rfl) ?_
    refine dv rfl (Ag rfl) (dv rfl (Aa Ab8 rfl) (dv rfl (Ae L5 rfl (.lp _ _ _ rfl) rfl) ?_))
    obtain ⟨v12, hv12, h⟩ := Am h
    refine dd rfl (D3 Al3 (Ac rfl (Ac rfl Al)) rfl (Iv hv12)) (dv rfl (Aa Yg rfl) (dv rfl (Ae L5 rfl (.lp _ _ _ rfl) rfl) ?_))
    obtain ⟨v13, hv13, h⟩ := Am h
    refine dd rfl (D3 Al3 (Ac rfl (Ac rfl Al)) rfl (Iv hv13)) (dv rfl (Ak rfl) (Zw (A1 (Ah (Ab (sv rfl (B0 rfl rfl) (sv rfl (Ag rfl) (Ar ?_))))))))
    obtain rfl := SJ h
    exact ⟨(n10, (v13, (wI (s10.2 + 1)))), _, hk10, ⟨rfl, rfl, rfl, rfl, trivial⟩, rfl, Nat.lt_succ_self _⟩
   ·refine Kn (Bh (Bh (Cd (Ah ?_))))
    obtain rfl := SJ h
    obtain rfl : _ = x10 := hk10
    exact ⟨s10.1, _, ho10, ⟨rfl, trivial⟩, rfl⟩
def F1 (a0 : Ai) (a1 : Hx) : Option (List UInt8) :=
 (J0 (Bf.mk a0.Req.Kind a0.Req.Seq a1.Code a1.N a1.Found a1.Val a1.List)).bind fun v1 => (Ld ([] : List UInt8) v1.1).bind fun v2 => some v2.1
theorem Ow {a0 : Ai} {a1 : Hx} {r : (List UInt8)} (h : F1 a0 a1 = some r) : Bp Tryz.prog 22 [.agg (EL.el a0), .agg (EL.el a1)] (· = .s (.one (.sl r.length (r.flatMap eU8)))) := by
 unfold F1 at h
 refine A2 Tryz.func22 rfl (nt := 38) rfl (Nbl rfl) ?_
 intro w0 S0
 refine Aq (Ab (Jj rfl rfl (Jj rfl rfl (sv rfl (Ak rfl) (Ar (Aq (Ab (sv rfl (Aa Jp rfl) (sv rfl (Aa P8 rfl) (sv rfl (Ae ti3 rfl (.lp _ _ _ rfl) rfl) (sv rfl (Aa Jp rfl) (sv rfl (Aa Qq rfl) (sv rfl (Ae ti3 rfl (.lp _ _ _ rfl) rfl) (sv rfl (Aa Apf rfl) (sv rfl (Ae Aba rfl (.lp _ _ _ rfl) rfl) (sv rfl (Aa Aqh rfl) (sv rfl (Ae ti3 rfl (.lp _ _ _ rfl) rfl) (sv rfl (Aa Ap1 rfl) (sv rfl (Ae ti4 rfl (.lp _ _ _ rfl) rfl) (sv rfl (Aa Ak6 rfl) (sv rfl (Ae L5 rfl (.lp _ _ _ rfl) rfl) (sv rfl (Aa Zu rfl) (sv rfl (Ae Ae1 rfl (.lp _ _ _ rfl) rfl) (sv rfl (Bj Aks Aqv (Ap rfl (Ap rfl (Ap rfl (Ap rfl (Ap rfl (Ap rfl (Ap rfl Ba))))))) (Ef [Ii6 a0.Req.Kind, Ii6 0, Ii6 0, Ii6 0, .b false, Znl, Znl] rfl rfl (Nbl rfl) rfl (Ef [Ii6 a0.Req.Kind, Ii6 a0.Req.Seq, Ii6 0, Ii6 0, .b false, Znl, Znl] rfl rfl (Nbl rfl) rfl (Ef [Ii6 a0.Req.Kind, Ii6 a0.Req.Seq, Ii6 a1.Code, Ii6 0, .b false, Znl, Znl] rfl rfl (Nbl rfl) rfl (Ef [Ii6 a0.Req.Kind, Ii6 a0.Req.Seq, Ii6 a1.Code, Ii6 a1.N, .b false, Znl, Znl] rfl rfl (Nbl rfl) rfl (Ef [Ii6 a0.Req.Kind, Ii6 a0.Req.Seq, Ii6 a1.Code, Ii6 a1.N, .b a1.Found, Znl, Znl] rfl rfl (Nbl rfl) rfl (Ef [Ii6 a0.Req.Kind, Ii6 a0.Req.Seq, Ii6 a1.Code, Ii6 a1.N, .b a1.Found, .sl a1.Val.length (a1.Val.flatMap eU8), Znl] rfl rfl (Nbl rfl) rfl (Ef [Ii6 a0.Req.Kind, Ii6 a0.Req.Seq, Ii6 a1.Code, Ii6 a1.N, .b a1.Found, .sl a1.Val.length (a1.Val.flatMap eU8), .sl a1.List.length (a1.List.flatMap Dx)] rfl rfl (Nbl rfl) rfl (.nil _))))))))) (B1 rfl Aks (Ax An5 rfl rfl rfl rfl (Nbl rfl) (Bu [.box (EL.el a0), .box (EL.el a1), .box (EL.el {a1 with Kind := a0.Req.Kind, Seq := a0.Req.Seq})] rfl (Ar (Aq (Ab (sv rfl (Ao Acf rfl (.lp _ _ _ rfl) (Nbl rfl)) ?_)))))))))))))))))))))))))))))))
 obtain ⟨v1, hv1, h⟩ := Am h
 refine A3 rfl Avq (Ac rfl Al) (Aj rfl) (Tx hv1) (sv rfl (Gn rfl) (sv rfl (Bb rfl rfl) (sv rfl (Bb rfl rfl) (sv rfl (Ak rfl) (sv rfl (Ak rfl) (Ar (Aq (Ab (sv rfl (Ag rfl) ?_)))))))))
 obtain ⟨v2, hv2, h⟩ := Am h
 refine A3 rfl Aum (Ac rfl (Ac rfl Al)) (Nt rfl) (Q4 hv2) (sv rfl (Gn rfl) (sv rfl (Bb rfl rfl) (sv rfl (Bb rfl rfl) (sv rfl (Ak rfl) (sv rfl (Ak rfl) (Ar (Aq (Ab (sv rfl (Ag rfl) (sv rfl (Ak rfl) (Ar (Bk ?_))))))))))))
 obtain rfl := SJ h
 refine ⟨Or.inr rfl, _, _, _, (Ad (Bd.tmp _ _ rfl) Af), (Aj rfl), ?_⟩
 rfl
def Fw (a0 : Int) : Option Bool :=
 if (decide (a0 = 1)) then (some true) else (some (decide (a0 = 11)))
theorem Je {a0 : Int} {r : Bool} (h : Fw a0 = some r) : Bp Tryz.prog 37 [.one (Ii6 a0)] (· = .s (.one (.b r))) := by
 unfold Fw at h
 refine A2 Tryz.func37 rfl (nt := 9) rfl (Nbl rfl) ?_
 intro w0 S0
 refine Aq (Ab (sv rfl (Ak rfl) (Ar (Aq (Ab (sv rfl (Ag rfl) (sv rfl (Br rfl rfl) (sv rfl (Ag rfl) (Bq 5 rfl (fun hc => ?_) (fun hc => ?_))))))))))
 ·replace h := B2 hc h
  clear hc
  refine Aw rfl rfl rfl rfl (Aw rfl rfl rfl rfl (sv rfl (Av rfl rfl) (sv rfl (Ak rfl) (Ar (Bk ?_)))))
  obtain rfl := SJ h
  refine ⟨Or.inr rfl, _, _, _, (Ad (Bd.tmp _ _ rfl) Af), (Aj rfl), ?_⟩
  rfl
 ·replace h := B3 hc h
  clear hc
  refine son rfl rfl rfl (sv rfl (Ag rfl) (son rfl rfl rfl (sv rfl (Br rfl rfl) (sv rfl (An rfl rfl) (sv rfl (Ak rfl) (Ar (Bk ?_)))))))
  obtain rfl := SJ h
  refine ⟨Or.inr rfl, _, _, _, (Ad (Bd.tmp _ _ rfl) Af), (Aj rfl), ?_⟩
  rfl
def Nq (b1 : Int × (List (List UInt8))) : Option ((List (List UInt8)) × Int × Int) :=
 some (b1.2, b1.1, 0)
def J5 (a0 : List UInt8) (s2 : Int × (List (List UInt8))) : Option (LR (Int × (List (List UInt8))) (Int × (List (List UInt8))) ((List (List UInt8)) × Int × Int)) :=
 if (decide (s2.1 < (a0.length : Int))) then ((Kc a0 s2.1).bind fun v3 => if (!decide (v3.2.2 = 0)) then (some (.ret (s2.2, s2.1, v3.2.2))) else (if (s2.2.length + [v3.1].length) * 24 ≤ 140737488355328 then (some (.cont (v3.2.1, (s2.2 ++ [v3.1])))) else none)) else (some (.brk (s2.1, s2.2)))
def Ml (a0 : List UInt8) : Option ((List (List UInt8)) × Int × Int) :=
 (Pt (J5 a0) fuel (0, ([] : List (List UInt8)))).bind fun x => match x with | .inl r => some r | .inr e5 => Nq e5
theorem Wp {a0 : List UInt8} {r : (List (List UInt8)) × Int × Int} (h : Ml a0 = some r) : Bp Tryz.prog 76 [.one (.sl a0.length (a0.flatMap eU8))] (· = .tup [.one (.sl r.1.length (r.1.flatMap (eL eU8))), .one (Ii6 r.2.1), .one (Ii6 r.2.2)]) := by
 unfold Ml at h
 refine A2 Tryz.func76 rfl (nt := 33) rfl (Nbl rfl) ?_
 intro w0 S0
 refine Aq (Ab (sv rfl (Ak rfl) (sv rfl (Ak rfl) (sv rfl (Ak rfl) (Ar (Aq (Ab (sv rfl (Ak rfl) (Ar (Aq (Ab (sv rfl (Ak rfl) (Ar (Aq ?_))))))))))))))
 refine O2 33 1 5 (by decide) rfl ?_
 refine G6 (Int × (List (List UInt8))) (fun b1 => [(5, .s (.one (.ls 0 b1.2.length))), (6, .s (.one (Ii6 b1.1)))]) (fun b1 => [.arr 33 1 0 (b1.2.flatMap (eL eU8))]) (fun b1 => Nq b1 = some r) (fun _ _ => Be rfl) (fun _ _ => Az rfl) (fun _ _ => Nbl rfl) (fun b1 h => ?_) ?_
 ·unfold Nq at h
  refine Aq (Ab (sv rfl (Ag rfl) (sv rfl (Ag rfl) (sv rfl (Ak rfl) (sv rfl (Ak rfl) (sv rfl (Ak rfl) (Ar (Bk ?_))))))))
  obtain rfl := SJ h
  refine ⟨Or.inr rfl, _, _, _, (Ad (Bd.tmp _ _ rfl) (Ad (Bd.tmp _ _ rfl) (Ad (Bd.tmp _ _ rfl) Af))), (by (repeat' first | exact Kb.nil _ | apply Kb.cons | apply J4.one | apply J4.agg | exact E8.nil | exact E8.ls _ _ _ _ _ _ rfl (Bg (f := (eL eU8)) (fun _ => rfl) _).symm | exact E8.id _ rfl | exact D2.nil _ | apply D2.cons)), ?_⟩
  rfl
 ·skip
  refine B4 ?_
  obtain ⟨x2, hx2, ho2⟩ := Am h
  refine C2 (G := Nat × (Int × (List (List UInt8)))) (fun g => [(0, .s (.one (.sl a0.length (a0.flatMap eU8)))), (5, .s (.one (.ls 0 g.2.2.length))), (6, .s (.one (Ii6 g.2.1)))]) (fun g => [.arr 33 1 0 (g.2.2.flatMap (eL eU8))]) (fun g => Pt (J5 a0) g.1 g.2 = some x2) (fun g => g.1) (fuel, (0, ([] : List (List UInt8)))) hx2 ⟨rfl, rfl, rfl, trivial⟩ [] rfl (fun _ _ => Be rfl) (fun _ _ => Az rfl) (fun _ _ => Nbl rfl) ?_
  clear hx2 h
  rintro ⟨n2, s2⟩ h
  obtain ⟨n2, y2, rfl, h, hk2⟩ := Ns h
  unfold J5 at h
  refine Aq (Aq (Ab (sv rfl (Ag rfl) (sv rfl (Ag rfl) (sv rfl (A0 Li rfl) (sv rfl (Cm rfl rfl) (Ar (ccI h rfl (fun h => ?_) (fun h => ?_)))))))))
  ·refine Bl (Ah (B4 (Aq (Ab (sv rfl (Ag rfl) (sv rfl (Ag rfl) ?_))))))
   obtain ⟨v3, hv3, h⟩ := Am h
   refine A3 rfl At7 (Ac rfl (Ac rfl Al)) (Aj rfl) (Qc hv3) (sv rfl (Gn rfl) (sv rfl (Bb rfl rfl) (sv rfl (Bb rfl rfl) (sv rfl (Bb rfl rfl) (sv rfl (Ak rfl) (sv rfl (Ak rfl) (sv rfl (Ak rfl) (Ar (Aq (Aq (Ab (sv rfl (Ag rfl) (sv rfl (Ce rfl rfl) (Ar (ccI h rfl (fun h => ?_) (fun h => ?_))))))))))))))))
   ·refine Aq (Ab (sv rfl (Ag rfl) (sv rfl (Ag rfl) (sv rfl (Ag rfl) (sv rfl (Ak rfl) (sv rfl (Ak rfl) (sv rfl (Ak rfl) (Ar (Bk (Au (Bc (Au (Bc (Au ?_))))))))))))))
    obtain rfl := SJ h
    obtain rfl : Sum.inl _ = x2 := hk2
    replace ho2 : some _ = some _ := ho2
    obtain rfl := Option.some.inj ho2
    refine ⟨Or.inr rfl, _, _, _, (Ad (Bd.tmp _ _ rfl) (Ad (Bd.tmp _ _ rfl) (Ad (Bd.tmp _ _ rfl) Af))), (by (repeat' first | exact Kb.nil _ | apply Kb.cons | apply J4.one | apply J4.agg | exact E8.nil | exact E8.ls _ _ _ _ _ _ rfl (Bg (f := (eL eU8)) (fun _ => rfl) _).symm | exact E8.id _ rfl | exact D2.nil _ | apply D2.cons)), ?_⟩
    rfl
   ·refine Bl (Ah (Aq (Ab (sv rfl (Ag rfl) (sv rfl (Ag rfl) ?_)))))
    refine Rj rfl Tryz.underlying124 An9 rfl rfl (List.all_eq_true.1 rfl) (by decide) ?_
    refine Bu [.arr 33 1 0 (s2.2.flatMap (eL eU8)), .arr 33 1 0 ([v3.1].flatMap (eL eU8))] rfl ?_
    obtain ⟨hb4, h⟩ := D9 h
    refine Aif (f := (eL eU8)) (xs := s2.2) (us := [v3.1]) rfl Tryz.underlying124 An9 Ar9 (fun _ => rfl) rfl rfl (.one _ _ _ _ (.ls _ _ _ _ _ _ rfl (Bg (f := (eL eU8)) (fun _ => rfl) [v3.1]).symm)) rfl rfl rfl (.sl _ _ _ (Bg (f := (eL eU8)) (fun _ => rfl) _)) rfl rfl hb4 (by decide) ?_
    refine sv rfl (Ak rfl) (Ar (Ab (sv rfl (Ag rfl) (sv rfl (Ak rfl) (Lz (A1 (Ah ?_)))))))
    obtain rfl := SJ h
    exact ⟨(n2, (v3.2.1, (s2.2 ++ [v3.1]))), _, hk2, ⟨rfl, rfl, rfl, trivial⟩, rfl, Nat.lt_succ_self _⟩
  ·refine Kn (Bh (Bh (Cd (Ah ?_))))
   obtain rfl := SJ h
   obtain rfl : _ = x2 := hk2
   exact ⟨(s2.1, s2.2), _, ho2, ⟨rfl, rfl, trivial⟩, rfl⟩
def Kx (a0 : List UInt8) (a1 : Int) : Option (List UInt8) :=
 (cut a0 a1 (a0.length : Int)).bind fun c1 => if (a0.length : Int) ≤ (a0.length : Int) ∧ (a0.length : Int) ≤ (a0.length : Int) then (if (0 : Int) ≤ (c1.length : Int) ∧ (c1.length : Int) ≤ (c1.length : Int) ∧ ((1 : Nat) : Int) * (c1.length : Int) ≤ 281474976710656 then ((cut (c1.take (List.replicate (c1.length : Int).toNat (0 : UInt8)).length ++ (List.replicate (c1.length : Int).toNat (0 : UInt8)).drop c1.length) 0 ((Nat.min c1.length (List.replicate (c1.length : Int).toNat (0 : UInt8)).length : Nat) : Int)).bind fun c4 => if ((Nat.min c1.length (List.replicate (c1.length : Int).toNat (0 : UInt8)).length : Nat) : Int) ≤ ((Nat.min c1.length (List.replicate (c1.length : Int).toNat (0 : UInt8)).length : Nat) : Int) ∧ ((Nat.min c1.length (List.replicate (c1.length : Int).toNat (0 : UInt8)).length : Nat) : Int) ≤ ((c1.take (List.replicate (c1.length : Int).toNat (0 : UInt8)).length ++ (List.replicate (c1.length : Int).toNat (0 : UInt8)).drop c1.length).length : Int) then (some c4) else none) else none) else none
theorem Us {a0 : List UInt8} {a1 : Int} {r : (List UInt8)} (h : Kx a0 a1 = some r) : Bp Tryz.prog 77 [.one (.sl a0.length (a0.flatMap eU8)), .one (Ii6 a1)] (· = .s (.one (.sl r.length (r.flatMap eU8)))) := by
 unfold Kx at h
 refine A2 Tryz.func77 rfl (nt := 25) rfl (Nbl rfl) ?_
 intro w0 S0
 refine Aq (Ab (sv rfl (Ak rfl) (Ar (Aq (Ab (sv rfl (Ag rfl) (sv rfl (Ag rfl) (sv rfl (Ag rfl) (sv rfl (A0 Li rfl) (sv rfl (Ag rfl) (sv rfl (A0 Li rfl) ?_)))))))))))
 obtain ⟨c1, hc1, h⟩ := Am h
 obtain ⟨hs2, h⟩ := D9 h
 refine sv rfl (Ac9 (f := eU8) (lo := a1) (hi := (a0.length : Int)) (mx := (a0.length : Int)) Li (fun _ => rfl) rfl rfl rfl (Hm rfl (Kq hc1).1.1) (Hm rfl (Int.le_trans (Kq hc1).1.1 (Kq hc1).1.2.1)) (Hm rfl (Int.le_trans (Int.le_trans (Kq hc1).1.1 (Kq hc1).1.2.1) hs2.1)) hc1 hs2) ?_
 refine sv rfl (Ak rfl) (Ar (Aq (Ab (sv rfl (Ag rfl) (sv rfl (A0 Li rfl) ?_)))))
 obtain ⟨hm3, h⟩ := D9 h
 refine smk (f := eU8) (z := (0 : UInt8)) rfl Tryz.underlying33 ei5 (fun _ => rfl) rfl rfl rfl hm3 (by decide) ?_
 refine sv rfl (Ak rfl) (Ar (Aq (Ab (sv rfl (Ag rfl) (sv rfl (Ag rfl) ?_)))))
 refine Arq (f := eU8) (xs := (List.replicate (c1.length : Int).toNat (0 : UInt8))) (us := c1) rfl Tryz.underlying33 (by kernel_rfl) (fun _ => rfl) rfl rfl rfl rfl rfl rfl rfl ?_
 refine Vm 17 (y := .s (.one (.ls 0 (List.replicate (c1.length : Int).toNat (0 : UInt8)).length))) (.s (.one (.ls 0 (c1.take (List.replicate (c1.length : Int).toNat (0 : UInt8)).length ++ (List.replicate (c1.length : Int).toNat (0 : UInt8)).drop c1.length).length))) rfl (congrArg (fun n => AV.s (.one (.ls 0 n))) (Yr _ _)) ?_
 refine Vm 6 (y := .s (.one (.ls 0 (List.replicate (c1.length : Int).toNat (0 : UInt8)).length))) (.s (.one (.ls 0 (c1.take (List.replicate (c1.length : Int).toNat (0 : UInt8)).length ++ (List.replicate (c1.length : Int).toNat (0 : UInt8)).drop c1.length).length))) rfl (congrArg (fun n => AV.s (.one (.ls 0 n))) (Yr _ _)) ?_
 refine Vm 18 (y := .s (.one (.ls 0 (List.replicate (c1.length : Int).toNat (0 : UInt8)).length))) (.s (.one (.ls 0 (c1.take (List.replicate (c1.length : Int).toNat (0 : UInt8)).length ++ (List.replicate (c1.length : Int).toNat (0 : UInt8)).drop c1.length).length))) rfl (congrArg (fun n => AV.s (.one (.ls 0 n))) (Yr _ _)) ?_
 refine sv rfl (Ak rfl) (Ar (Aq (Ab (sv rfl (Ag rfl) (sv rfl (Ag rfl) (sv rfl (Ag rfl) ?_))))))
 refine Aau 21 rfl (by (repeat' first | exact Kb.nil _ | apply Kb.cons | apply J4.one | apply J4.agg | exact E8.nil | exact E8.ls _ _ _ _ _ _ rfl (Bg (f := eU8) (fun _ => rfl) _).symm | exact E8.id _ rfl | exact D2.nil _ | apply D2.cons)) ?_
 obtain ⟨c4, hc4, h⟩ := Am h
 obtain ⟨hs5, h⟩ := D9 h
 refine sv rfl (Ac9 (f := eU8) (lo := 0) (hi := ((Nat.min c1.length (List.replicate (c1.length : Int).toNat (0 : UInt8)).length : Nat) : Int)) (mx := ((Nat.min c1.length (List.replicate (c1.length : Int).toNat (0 : UInt8)).length : Nat) : Int)) Li (fun _ => rfl) rfl rfl rfl Rp (Hm rfl (Int.le_trans (Kq hc4).1.1 (Kq hc4).1.2.1)) (Hm rfl (Int.le_trans (Int.le_trans (Kq hc4).1.1 (Kq hc4).1.2.1) hs5.1)) hc4 hs5) ?_
 refine sv rfl (Ak rfl) (Ar (Bk ?_))
 obtain rfl := SJ h
 refine ⟨Or.inr rfl, _, _, _, (Ad (Bd.tmp _ _ rfl) Af), (Aj rfl), ?_⟩
 rfl
def D8 (a0 : Bo) (a1 : List UInt8) : Option (Bo × (List (List UInt8)) × Int) :=
 (G0 a0).bind fun v1 => if (!v1) then (some ((Bo.mk ([] : List UInt8) 0), ([] : List (List UInt8)), 1)) else (if (!decide (a0.Dead = 0)) then (some (a0, ([] : List (List UInt8)), 13)) else ((Eo [a0.Buf, a1]).bind fun v2 => (Ml v2).bind fun v3 => (Hs v3.2.2).bind fun v4 => if v4 then (some ((Bo.mk ([] : List UInt8) v3.2.2), v3.1, v3.2.2)) else ((Kx v2 v3.2.1).bind fun v5 => some ((Bo.mk v5 0), v3.1, 0))))
theorem Uh {a0 : Bo} {a1 : List UInt8} {r : Bo × (List (List UInt8)) × Int} (h : D8 a0 a1 = some r) : Bp Tryz.prog 45 [.agg (EL.el a0), .one (.sl a1.length (a1.flatMap eU8))] (· = .tup [.agg (EL.el r.1), .one (.sl r.2.1.length (r.2.1.flatMap (eL eU8))), .one (Ii6 r.2.2)]) := by
 unfold D8 at h
 refine A2 Tryz.func45 rfl (nt := 41) rfl (Nbl rfl) ?_
 intro w0 S0
 refine Aq (Ab (Jj rfl rfl (B1 rfl An7 (sv rfl (Ak rfl) (sv rfl (Ak rfl) (Ar (Aq (Aq (Ab (sv rfl (Ao Ah9 rfl (.lp _ _ _ rfl) (Nbl rfl)) ?_))))))))))
 obtain ⟨v1, hv1, h⟩ := Am h
 refine A3 rfl Ass (Ac rfl Al) (Aj rfl) (M2 hv1) (sv rfl (Ca rfl) (Ar (ccI h rfl (fun h => ?_) (fun h => ?_))))
 ·refine Aq (Ab (sv rfl (Bj An7 Aqt Ba (.nil _)) (Ax Am5 rfl rfl rfl rfl (Nbl rfl) (Bu [.box (EL.el a0), .box [Znl, Ii6 0]] rfl (sv rfl (Ak rfl) (sv rfl (Ak rfl) (Ar (Bk (Au ?_)))))))))
  obtain rfl := SJ h
  refine ⟨Or.inr rfl, _, _, _, (Ad (Bd.agg _ _ _ _ _ Ah9 rfl (.lp _ _ _ rfl) (Nbl rfl)) (Ad (Bd.tmp _ _ rfl) (Ad (Bd.tmp _ _ rfl) Af))), (Nt rfl), ?_⟩
  rfl
 ·refine Bl (Ah (Aq (Aq (Ab (sv rfl (Aa Ah3 rfl) (sv rfl (Ae Aba rfl (.lp _ _ _ rfl) rfl) (sv rfl (Ce rfl rfl) (Ar (ccI h rfl (fun h => ?_) (fun h => ?_))))))))))
  ·refine Aq (Ab (sv rfl (Ao Ah9 rfl (.lp _ _ _ rfl) (Nbl rfl)) (Ax Am5 rfl rfl rfl rfl (Nbl rfl) (Bu [.box (EL.el a0), .box (EL.el a0)] rfl (sv rfl (Ak rfl) (sv rfl (Ak rfl) (Ar (Bk (Au ?_)))))))))
   obtain rfl := SJ h
   refine ⟨Or.inr rfl, _, _, _, (Ad (Bd.agg _ _ _ _ _ Ah9 rfl (.lp _ _ _ rfl) (Nbl rfl)) (Ad (Bd.tmp _ _ rfl) (Ad (Bd.tmp _ _ rfl) Af))), (Nt rfl), ?_⟩
   rfl
  ·refine Bl (Ah (Aq (Ab (sv rfl (Aa Adr rfl) (sv rfl (Ae L5 rfl (.lp _ _ _ rfl) rfl) (sv rfl (Ag rfl) ?_))))))
   refine Sy (out := ([a0.Buf, a1] : List (List UInt8)).flatMap (eL eU8)) rfl Tryz.underlying124 An9 (Ap rfl (Ap rfl Ba)) (.cons _ _ _ _ _ _ _ rfl rfl (Nbl rfl) (.cons _ _ _ _ _ _ _ rfl rfl (Nbl rfl) (.nil _))) rfl (by decide) ?_
   refine Aau 22 rfl (by (repeat' first | exact Kb.nil _ | apply Kb.cons | apply J4.one | apply J4.agg | exact E8.nil | exact E8.ls _ _ _ _ _ _ rfl (Bg (f := (eL eU8)) (fun _ => rfl) ([a0.Buf, a1] : List (List UInt8))).symm | exact E8.ls _ _ _ _ _ _ rfl (Bg (f := (eL eU8)) (fun _ => rfl) _).symm | exact E8.id _ rfl | exact D2.nil _ | apply D2.cons)) ?_
   obtain ⟨v2, hv2, h⟩ := Am h
   refine C3 (x' := .s (.one (.ls 3 v2.length))) (M' := [.box (EL.el a0), .box [Znl, Ii6 0], .arr 33 1 ([a0.Buf, a1].flatMap (eL eU8)).length ([a0.Buf, a1].flatMap (eL eU8)), .arr 5 1 0 (v2.flatMap eU8)]) [] rfl Aqx (.func _) (Ac rfl Al) (I3 hv2) rfl rfl (by decide) rfl rfl rfl ?_
   refine sv rfl (Ak rfl) (Ar (Aq (Ab (sv rfl (Ag rfl) ?_))))
   refine Aau 25 rfl (by (repeat' first | exact Kb.nil _ | apply Kb.cons | apply J4.one | apply J4.agg | exact E8.nil | exact E8.ls _ _ _ _ _ _ rfl (Bg (f := (eL eU8)) (fun _ => rfl) _).symm | exact E8.ls _ _ _ _ _ _ rfl (Bg (f := eU8) (fun _ => rfl) _).symm | exact E8.id _ rfl | exact D2.nil _ | apply D2.cons)) ?_
   obtain ⟨v3, hv3, h⟩ := Am h
   refine A3 rfl Avb (Ac rfl Al) (Aj rfl) (Wp hv3) (sv rfl (Gn rfl) (sv rfl (Bb rfl rfl) (sv rfl (Bb rfl rfl) (sv rfl (Bb rfl rfl) (sv rfl (Ak rfl) (sv rfl (Ak rfl) (sv rfl (Ak rfl) (Ar (Aq (Aq (Ab (sv rfl (Ag rfl) ?_))))))))))))
   obtain ⟨v4, hv4, h⟩ := Am h
   refine A3 rfl Auq (Ac rfl Al) (Aj rfl) (Oo hv4) (Ar (ccI h rfl (fun h => ?_) (fun h => ?_)))
   ·refine Aq (Ab (sv rfl (Ag rfl) (sv rfl (Bj An7 Aqt (Ap rfl Ba) (.cons _ _ _ _ _ _ _ rfl rfl (Nbl rfl) (.nil _))) (sv rfl (Ag rfl) (sv rfl (Ag rfl) (Ax Am5 rfl rfl rfl rfl (Nbl rfl) (Bu [.box (EL.el a0), .box [Znl, Ii6 v3.2.2], .arr 33 1 ([a0.Buf, a1].flatMap (eL eU8)).length ([a0.Buf, a1].flatMap (eL eU8)), .arr 5 1 (v2.flatMap eU8).length (v2.flatMap eU8)] rfl (sv rfl (Ak rfl) (sv rfl (Ak rfl) (Ar (Bk (Au ?_))))))))))))
    obtain rfl := SJ h
    refine ⟨Or.inr rfl, _, _, _, (Ad (Bd.agg _ _ _ _ _ Ah9 rfl (.lp _ _ _ rfl) (Nbl rfl)) (Ad (Bd.tmp _ _ rfl) (Ad (Bd.tmp _ _ rfl) Af))), (Nt rfl), ?_⟩
    rfl
   ·refine Bl (Ah (Aq (Ab (sv rfl (Ag rfl) (sv rfl (Ag rfl) ?_)))))
    refine Aau 36 rfl (by (repeat' first | exact Kb.nil _ | apply Kb.cons | apply J4.one | apply J4.agg | exact E8.nil | exact E8.ls _ _ _ _ _ _ rfl (Bg (f := (eL eU8)) (fun _ => rfl) _).symm | exact E8.ls _ _ _ _ _ _ rfl (Bg (f := eU8) (fun _ => rfl) _).symm | exact E8.id _ rfl | exact D2.nil _ | apply D2.cons)) ?_
    obtain ⟨v5, hv5, h⟩ := Am h
    refine A3 rfl Awh (Ac rfl (Ac rfl Al)) (Aj rfl) (Us hv5) (sv rfl (Bj An7 Aqt (Ap rfl Ba) (.cons _ _ _ _ _ _ _ rfl rfl (Nbl rfl) (.nil _))) (sv rfl (Ag rfl) (Ax Am5 rfl rfl rfl rfl (Nbl rfl) (Bu [.box (EL.el a0), .box [.sl v5.length (v5.flatMap eU8), Ii6 0], .arr 33 1 ([a0.Buf, a1].flatMap (eL eU8)).length ([a0.Buf, a1].flatMap (eL eU8)), .arr 5 1 (v2.flatMap eU8).length (v2.flatMap eU8)] rfl (sv rfl (Ak rfl) (sv rfl (Ak rfl) (Ar (Bk ?_))))))))
    obtain rfl := SJ h
    refine ⟨Or.inr rfl, _, _, _, (Ad (Bd.agg _ _ _ _ _ Ah9 rfl (.lp _ _ _ rfl) (Nbl rfl)) (Ad (Bd.tmp _ _ rfl) (Ad (Bd.tmp _ _ rfl) Af))), (Aj rfl), ?_⟩
    rfl
def Fr (v1 : (BitVec 64) × Int × Int) (b2 : Int) : Option (Bool × Int × Int) :=
 some ((decide ((v1.1.toNat : Int) = (1 : Int))), b2, v1.2.2)
def Fy (a0 : Int) (a1 : Int) (a2 : List UInt8) : Option (Bool × Int × Int) :=
 (A4 1 a0 a1 a2).bind fun v1 => if (decide ((1 : Int) < (v1.1.toNat : Int))) then ((Bx 3 v1.2.1 v1.2.2 a2).bind fun v3 => Fr v1 v3) else (Fr v1 v1.2.1)
theorem Qg {a0 : Int} {a1 : Int} {a2 : List UInt8} {r : Bool × Int × Int} (h : Fy a0 a1 a2 = some r) : G3 Tryz.prog 95 [.box [.fn 112 [] [.lp 1 0, .lp 2 0], Ii6 a0], .box [Ii6 a1], .box [.sl a2.length (a2.flatMap eU8)]] [.one (.lp 0 0)] (fun y m' => y = .s (.one (.b r.1)) ∧ m' = [.box [.fn 112 [] [.lp 1 0, .lp 2 0], Ii6 r.2.1], .box [Ii6 r.2.2], .box [.sl a2.length (a2.flatMap eU8)]]) := by
 unfold Fy at h
 refine Cv Tryz.func95 rfl (nt := 12) rfl (Nbl rfl) ?_
 intro w0 S0 X0 H0
 refine Aq (Ab (sv rfl (Ak rfl) (Ar (Aq (Ab (sv rfl (Ag rfl) ?_))))))
 obtain ⟨v1, hv1, h⟩ := Am h
 refine C3 (x' := .s (.one (.i .u64 (v1.1.toNat : Int)))) (M' := [.box [.fn 112 [] [.lp 1 0, .lp 2 0], Ii6 v1.2.1], .box [Ii6 v1.2.2], .box [.sl a2.length (a2.flatMap eU8)]]) [0, 1, 2] rfl Ah8 (.func _) (Ac rfl (Ac rfl Al)) (Cx hv1) rfl rfl (by decide) rfl rfl rfl ?_
 refine sv rfl (Ak rfl) (Ar (Aq (Aq (Ab (sv rfl (Ag rfl) (sv rfl (Di rfl rfl) (Ar (G6 (Int) (fun b2 => [(3, .s (.one (.i .u64 (v1.1.toNat : Int))))]) (fun b2 => [.box [.fn 112 [] [.lp 1 0, .lp 2 0], Ii6 b2], .box [Ii6 v1.2.2], .box [.sl a2.length (a2.flatMap eU8)]]) (fun b2 => Fr v1 b2 = some r) (fun _ _ => Be rfl) (fun _ _ => Az rfl) (fun _ _ => Nbl rfl) (fun b2 h => ?_) ?_))))))))
 ·unfold Fr at h
  refine Aq (Ab (sv rfl (Ag rfl) (sv rfl (Br rfl rfl) (sv rfl (Ak rfl) (Ar (Bk ?_))))))
  obtain rfl := SJ h
  exact ⟨Or.inr rfl, _, [0, 1, 2], [.one (.b (decide ((v1.1.toNat : Int) = (1 : Int))))], [.box [.fn 112 [] [.lp 1 0, .lp 2 0], Ii6 b2], .box [Ii6 v1.2.2], .box [.sl a2.length (a2.flatMap eU8)]], (Ad (Bd.tmp _ _ rfl) Af), rfl, rfl, ⟨by decide, rfl⟩, rfl, rfl, ⟨rfl, rfl⟩⟩
 ·skip
  refine ccI h rfl (fun h => ?_) (fun h => ?_)
  ·refine Ab (sv rfl (Ag rfl) ?_)
   obtain ⟨v3, hv3, h⟩ := Am h
   refine C3 (x' := .tup []) (M' := [.box [.fn 112 [] [.lp 1 0, .lp 2 0], Ii6 v3], .box [Ii6 v1.2.2], .box [.sl a2.length (a2.flatMap eU8)]]) [0, 1, 2] rfl Ans (.func _) (Ac rfl (Ac rfl Al)) (Dw hv3) rfl rfl (by decide) rfl rfl rfl ?_
   refine Ar ?_
   exact ⟨v3, _, h, ⟨rfl, trivial⟩, rfl⟩
  ·refine Bl (Ah ?_)
   exact ⟨v1.2.1, _, h, ⟨rfl, trivial⟩, rfl⟩
def Ho (a0 : List UInt8) : Option (List UInt8) :=
 if (([] : List UInt8).length + a0.length) * 1 ≤ 140737488355328 then (some (([] : List UInt8) ++ a0)) else none
theorem Sw {a0 : List UInt8} {r : (List UInt8)} (h : Ho a0 = some r) : G3 Tryz.prog 85 [] [.one (.sl a0.length (a0.flatMap eU8))] (fun y m' => y = .s (.one (.ls 0 r.length)) ∧ m' = [.arr 5 1 0 (r.flatMap eU8)]) := by
 unfold Ho at h
 refine Cv Tryz.func85 rfl (nt := 8) rfl (Nbl rfl) ?_
 intro w0 S0 X0 H0
 refine Aq (Ab (sv rfl (Ak rfl) (Ar (Aq (Aq (Ab (sv rfl (Ag rfl) (Amk rfl Tryz.underlying33 rfl (fun nq hnq => ?_)))))))))
 cases nq
 ·skip
  refine Ar (Hq rfl (fun hx => Bool.noConfusion hx) (fun _ => ?_))
  refine Bl (Ah (Aq (Ab (Acl rfl Tryz.underlying33 ei5 (sv rfl (Ag rfl) ?_)))))
  obtain ⟨hb1, h⟩ := D9 h
  refine Aif (f := eU8) (xs := ([] : List UInt8)) (us := a0) rfl Tryz.underlying33 ei5 Arw (fun _ => rfl) rfl rfl (.one _ _ _ _ (.id _ rfl)) rfl rfl rfl (.sl _ _ _ (Bg (f := eU8) (fun _ => rfl) _)) rfl rfl hb1 (by decide) ?_
  refine sv rfl (Ak rfl) (Ar (Bk ?_))
  obtain rfl := SJ h
  exact ⟨Or.inr rfl, _, [0], [.one (.ls 0 (([] : List UInt8) ++ a0).length)], [.arr 5 1 0 ((([] : List UInt8) ++ a0).flatMap eU8)], (Ad (Bd.tmp _ _ rfl) Af), rfl, rfl, ⟨by decide, rfl⟩, rfl, rfl, ⟨rfl, rfl⟩⟩
 ·obtain rfl := List.eq_nil_of_length_eq_zero (hnq rfl)
  replace h : (some ([] : List UInt8)) = some r := by first | exact h | (rw [if_pos (by decide)] at h; exact h)
  refine Ar (Hq rfl (fun _ => ?_) (fun hx => Bool.noConfusion hx))
  refine Aq (Ab (sv rfl (Ak rfl) (Ar ?_)))
  refine O2 5 1 2 (by decide) rfl ?_
  refine Bk (Au ?_)
  obtain rfl := SJ h
  exact ⟨Or.inr rfl, _, [0], [.one (.ls 0 ([] : List UInt8).length)], [.arr 5 1 0 (([] : List UInt8).flatMap eU8)], (Ad (Bd.tmp _ _ rfl) Af), rfl, rfl, ⟨by decide, rfl⟩, rfl, rfl, ⟨rfl, rfl⟩⟩
def Cs (a0 : Int) (a1 : Int) (a2 : Int) (a3 : List UInt8) : Option ((List UInt8) × Int × Int) :=
 (A4 2 a1 a2 a3).bind fun v1 => (Bs v1.2.1 v1.2.2 a3).bind fun v2 => if (!decide (v2 = 0)) then (some (([] : List UInt8), v1.2.1, v1.2.2)) else (if (decide (a0 < (wI (v1.1.toNat : Int)))) then ((Bx 5 v1.2.1 v1.2.2 a3).bind fun v3 => some (([] : List UInt8), v3, v1.2.2)) else ((Cn (wI (v1.1.toNat : Int)) v1.2.1 v1.2.2 a3).bind fun v4 => (Ho v4.1).bind fun v5 => some (v5, v4.2.1, v4.2.2)))
theorem Kf {a0 : Int} {a1 : Int} {a2 : Int} {a3 : List UInt8} {r : (List UInt8) × Int × Int} (h : Cs a0 a1 a2 a3 = some r) : G3 Tryz.prog 96 [.box [.fn 112 [] [.lp 1 0, .lp 2 0], Ii6 a1], .box [Ii6 a2], .box [.sl a3.length (a3.flatMap eU8)]] [.one (.lp 0 0), .one (Ii6 a0)] (fun y m' => y = .s (.one (.sl r.1.length (r.1.flatMap eU8))) ∧ m' = [.box [.fn 112 [] [.lp 1 0, .lp 2 0], Ii6 r.2.1], .box [Ii6 r.2.2], .box [.sl a3.length (a3.flatMap eU8)]]) := by
 unfold Cs at h
 refine Cv Tryz.func96 rfl (nt := 21) rfl (Nbl rfl) ?_
 intro w0 S0 X0 H0
 refine Aq (Ab (sv rfl (Ak rfl) (Ar (Aq (Ab (sv rfl (Ag rfl) ?_))))))
 obtain ⟨v1, hv1, h⟩ := Am h
 refine C3 (x' := .s (.one (.i .u64 (v1.1.toNat : Int)))) (M' := [.box [.fn 112 [] [.lp 1 0, .lp 2 0], Ii6 v1.2.1], .box [Ii6 v1.2.2], .box [.sl a3.length (a3.flatMap eU8)]]) [0, 1, 2] rfl Ah8 (.func _) (Ac rfl (Ac rfl Al)) (Cx hv1) rfl rfl (by decide) rfl rfl rfl ?_
 refine sv rfl (Fz Tryz.underlying112 Tryz.underlying3 rfl) (sv rfl (Ak rfl) (Ar (Aq (Aq (Ab (sv rfl (Ag rfl) ?_))))))
 obtain ⟨v2, hv2, h⟩ := Am h
 refine C3 (x' := .s (.one (Ii6 v2))) (M' := [.box [.fn 112 [] [.lp 1 0, .lp 2 0], Ii6 v1.2.1], .box [Ii6 v1.2.2], .box [.sl a3.length (a3.flatMap eU8)]]) [0, 1, 2] rfl Ajp (.func _) (Ac rfl Al) (H7 hv2) rfl rfl (by decide) rfl rfl rfl ?_
 refine sv rfl (Ce rfl rfl) (Ar (ccI h rfl (fun h => ?_) (fun h => ?_)))
 ·refine Aq (Ab (sv rfl (Ak rfl) (Ar ?_)))
  refine An4 4 rfl (by (repeat' first | exact Kb.nil _ | apply Kb.cons | apply J4.one | apply J4.agg | exact E8.nil | exact E8.id _ rfl | exact D2.nil _ | apply D2.cons)) ?_
  refine Bk (Au ?_)
  obtain rfl := SJ h
  exact ⟨Or.inr rfl, _, [0, 1, 2], [.one (.sl ([] : List UInt8).length (([] : List UInt8).flatMap eU8))], [.box [.fn 112 [] [.lp 1 0, .lp 2 0], Ii6 v1.2.1], .box [Ii6 v1.2.2], .box [.sl a3.length (a3.flatMap eU8)]], (Ad (Bd.tmp _ _ rfl) Af), rfl, rfl, ⟨by decide, rfl⟩, rfl, rfl, ⟨rfl, rfl⟩⟩
 ·refine Bl (Ah (Aq (Aq (Ab (sv rfl (Ag rfl) (sv rfl (Ag rfl) (sv rfl (Di rfl rfl) (Ar (ccI h rfl (fun h => ?_) (fun h => ?_))))))))))
  ·refine Aq (Ab (sv rfl (Ag rfl) ?_))
   obtain ⟨v3, hv3, h⟩ := Am h
   refine C3 (x' := .tup []) (M' := [.box [.fn 112 [] [.lp 1 0, .lp 2 0], Ii6 v3], .box [Ii6 v1.2.2], .box [.sl a3.length (a3.flatMap eU8)]]) [0, 1, 2] rfl Ans (.func _) (Ac rfl (Ac rfl Al)) (Dw hv3) rfl rfl (by decide) rfl rfl rfl ?_
   refine Ar (Aq (Ab (sv rfl (Ak rfl) (Ar ?_))))
   refine An4 4 rfl (by (repeat' first | exact Kb.nil _ | apply Kb.cons | apply J4.one | apply J4.agg | exact E8.nil | exact E8.id _ rfl | exact D2.nil _ | apply D2.cons)) ?_
   refine Bk (Au ?_)
   obtain rfl := SJ h
   exact ⟨Or.inr rfl, _, [0, 1, 2], [.one (.sl ([] : List UInt8).length (([] : List UInt8).flatMap eU8))], [.box [.fn 112 [] [.lp 1 0, .lp 2 0], Ii6 v3], .box [Ii6 v1.2.2], .box [.sl a3.length (a3.flatMap eU8)]], (Ad (Bd.tmp _ _ rfl) Af), rfl, rfl, ⟨by decide, rfl⟩, rfl, rfl, ⟨rfl, rfl⟩⟩
  ·refine Bl (Ah (Aq (Ab (sv rfl (Ag rfl) (sv rfl (Ag rfl) ?_)))))
   obtain ⟨v4, hv4, h⟩ := Am h
   refine C3 (x' := .s (.one (.sl v4.1.length (v4.1.flatMap eU8)))) (M' := [.box [.fn 112 [] [.lp 1 0, .lp 2 0], Ii6 v4.2.1], .box [Ii6 v4.2.2], .box [.sl a3.length (a3.flatMap eU8)]]) [0, 1, 2] rfl Aqc (.func _) (Ac rfl (Ac rfl Al)) (Mm hv4) rfl rfl (by decide) rfl rfl rfl ?_
   obtain ⟨v5, hv5, h⟩ := Am h
   refine C3 (x' := .s (.one (.ls 3 v5.length))) (M' := [.box [.fn 112 [] [.lp 1 0, .lp 2 0], Ii6 v4.2.1], .box [Ii6 v4.2.2], .box [.sl a3.length (a3.flatMap eU8)], .arr 5 1 0 (v5.flatMap eU8)]) [] rfl Aun (.func _) (Ac rfl Al) (Sw hv5) rfl rfl (by decide) rfl rfl rfl ?_
   refine sv rfl (Ak rfl) (Ar ?_)
   refine An4 4 rfl (by (repeat' first | exact Kb.nil _ | apply Kb.cons | apply J4.one | apply J4.agg | exact E8.nil | exact E8.ls _ _ _ _ _ _ rfl (Bg (f := eU8) (fun _ => rfl) _).symm | exact E8.id _ rfl | exact D2.nil _ | apply D2.cons)) ?_
   refine Bk ?_
   obtain rfl := SJ h
   exact ⟨Or.inr rfl, _, [0, 1, 2], [.one (.sl v5.length (v5.flatMap eU8))], [.box [.fn 112 [] [.lp 1 0, .lp 2 0], Ii6 v4.2.1], .box [Ii6 v4.2.2], .box [.sl a3.length (a3.flatMap eU8)]], (Ad (Bd.tmp _ _ rfl) Af), rfl, rfl, ⟨by decide, rfl⟩, rfl, rfl, ⟨rfl, rfl⟩⟩
def Ix (b3 : Int × Int × (List Db)) : Option ((List Db) × Int × Int) :=
 some (b3.2.2, b3.1, b3.2.1)
def Dn (a2 : List UInt8) (v1 : (BitVec 64) × Int × Int) (s4 : Int × Int × Int × (List Db)) : Option (LB (Int × Int × Int × (List Db)) (Int × Int × (List Db))) :=
 if (decide (s4.1 < (wI (v1.1.toNat : Int)))) then ((Cs 16 s4.2.1 s4.2.2.1 a2).bind fun v5 => (Cs 32 v5.2.1 v5.2.2 a2).bind fun v6 => if (s4.2.2.2.length + [(Db.mk v5.1 v6.1)].length) * 48 ≤ 140737488355328 then (some (.cont ((wI (s4.1 + 1)), v6.2.1, v6.2.2, (s4.2.2.2 ++ [(Db.mk v5.1 v6.1)])))) else none) else (some (.brk (s4.2.1, s4.2.2.1, s4.2.2.2)))
def Ji (a0 : Int) (a1 : Int) (a2 : List UInt8) : Option ((List Db) × Int × Int) :=
 (A4 1 a0 a1 a2).bind fun v1 => if (decide (8 < (wI (v1.1.toNat : Int)))) then ((Bx 5 v1.2.1 v1.2.2 a2).bind fun v2 => some (([] : List Db), v2, v1.2.2)) else ((Ej (Dn a2 v1) fuel (0, v1.2.1, v1.2.2, ([] : List Db))).bind fun e8 => Ix e8)
theorem S8 {a0 : Int} {a1 : Int} {a2 : List UInt8} {r : (List Db) × Int × Int} (h : Ji a0 a1 a2 = some r) : G3 Tryz.prog 97 [.box [.fn 112 [] [.lp 1 0, .lp 2 0], Ii6 a0], .box [Ii6 a1], .box [.sl a2.length (a2.flatMap eU8)]] [.one (.lp 0 0)] (fun y m' => y = .s (.one (.sl r.1.length (r.1.flatMap Dx))) ∧ m' = [.box [.fn 112 [] [.lp 1 0, .lp 2 0], Ii6 r.2.1], .box [Ii6 r.2.2], .box [.sl a2.length (a2.flatMap eU8)]]) := by
 unfold Ji at h
 refine Cv Tryz.func97 rfl (nt := 25) rfl (Nbl rfl) ?_
 intro w0 S0 X0 H0
 refine Aq (Ab (sv rfl (Ak rfl) (Ar (Aq (Ab (sv rfl (Ag rfl) ?_))))))
 obtain ⟨v1, hv1, h⟩ := Am h
 refine C3 (x' := .s (.one (.i .u64 (v1.1.toNat : Int)))) (M' := [.box [.fn 112 [] [.lp 1 0, .lp 2 0], Ii6 v1.2.1], .box [Ii6 v1.2.2], .box [.sl a2.length (a2.flatMap eU8)]]) [0, 1, 2] rfl Ah8 (.func _) (Ac rfl (Ac rfl Al)) (Cx hv1) rfl rfl (by decide) rfl rfl rfl ?_
 refine sv rfl (Fz Tryz.underlying112 Tryz.underlying3 rfl) (sv rfl (Ak rfl) (Ar (Aq (Aq (Ab (sv rfl (Ag rfl) (sv rfl (Di rfl rfl) (Ar (ccI h rfl (fun h => ?_) (fun h => ?_))))))))))
 ·refine Aq (Ab (sv rfl (Ag rfl) ?_))
  obtain ⟨v2, hv2, h⟩ := Am h
  refine C3 (x' := .tup []) (M' := [.box [.fn 112 [] [.lp 1 0, .lp 2 0], Ii6 v2], .box [Ii6 v1.2.2], .box [.sl a2.length (a2.flatMap eU8)]]) [0, 1, 2] rfl Ans (.func _) (Ac rfl (Ac rfl Al)) (Dw hv2) rfl rfl (by decide) rfl rfl rfl ?_
  refine Ar (Aq (Ab (sv rfl (Ak rfl) (Ar ?_))))
  refine An4 2 rfl (by (repeat' first | exact Kb.nil _ | apply Kb.cons | apply J4.one | apply J4.agg | exact E8.nil | exact E8.id _ rfl | exact D2.nil _ | apply D2.cons)) ?_
  refine Bk (Au ?_)
  obtain rfl := SJ h
  exact ⟨Or.inr rfl, _, [0, 1, 2], [.one (.sl ([] : List Db).length (([] : List Db).flatMap Dx))], [.box [.fn 112 [] [.lp 1 0, .lp 2 0], Ii6 v2], .box [Ii6 v1.2.2], .box [.sl a2.length (a2.flatMap eU8)]], (Ad (Bd.tmp _ _ rfl) Af), rfl, rfl, ⟨by decide, rfl⟩, rfl, rfl, ⟨rfl, rfl⟩⟩
 ·refine Bl (Ah (Aq (Ab (sv rfl (Ak rfl) (Ar (Aq (Aq (Ab (sv rfl (Ag rfl) (sv rfl (Ag rfl) (Ar ?_)))))))))))
  refine O2 116 2 4 (by decide) rfl ?_
  refine G6 (Int × Int × (List Db)) (fun b3 => [(4, .s (.one (.ls 3 b3.2.2.length)))]) (fun b3 => [.box [.fn 112 [] [.lp 1 0, .lp 2 0], Ii6 b3.1], .box [Ii6 b3.2.1], .box [.sl a2.length (a2.flatMap eU8)], .arr 116 2 0 (b3.2.2.flatMap Dx)]) (fun b3 => Ix b3 = some r) (fun _ _ => Be rfl) (fun _ _ => Az rfl) (fun _ _ => Nbl rfl) (fun b3 h => ?_) ?_
  ·unfold Ix at h
   refine Aq (Ab (sv rfl (Ag rfl) (sv rfl (Ak rfl) (Ar ?_))))
   refine An4 2 rfl (by (repeat' first | exact Kb.nil _ | apply Kb.cons | apply J4.one | apply J4.agg | exact E8.nil | exact E8.ls _ _ _ _ _ _ rfl (Bg (f := Dx) (fun _ => rfl) _).symm | exact E8.id _ rfl | exact D2.nil _ | apply D2.cons)) ?_
   refine Bk ?_
   obtain rfl := SJ h
   exact ⟨Or.inr rfl, _, [0, 1, 2], [.one (.sl b3.2.2.length (b3.2.2.flatMap Dx))], [.box [.fn 112 [] [.lp 1 0, .lp 2 0], Ii6 b3.1], .box [Ii6 b3.2.1], .box [.sl a2.length (a2.flatMap eU8)]], (Ad (Bd.tmp _ _ rfl) Af), rfl, rfl, ⟨by decide, rfl⟩, rfl, rfl, ⟨rfl, rfl⟩⟩
  ·skip
   refine B4 ?_
   obtain ⟨x4, hx4, ho4⟩ := Am h
   refine C2 (G := Nat × (Int × Int × Int × (List Db))) (fun g => [(0, .s (.one (.lp 0 0))), (4, .s (.one (.ls 3 g.2.2.2.2.length))), (12, .s (.one (Ii6 (wI (v1.1.toNat : Int))))), (13, .s (.one (Ii6 g.2.1)))]) (fun g => [.box [.fn 112 [] [.lp 1 0, .lp 2 0], Ii6 g.2.2.1], .box [Ii6 g.2.2.2.1], .box [.sl a2.length (a2.flatMap eU8)], .arr 116 2 0 (g.2.2.2.2.flatMap Dx)]) (fun g => Ej (Dn a2 v1) g.1 g.2 = some x4) (fun g => g.1) (fuel, (0, v1.2.1, v1.2.2, ([] : List Db))) hx4 ⟨rfl, rfl, rfl, rfl, trivial⟩ [] rfl (fun _ _ => Be rfl) (fun _ _ => Az rfl) (fun _ _ => Nbl rfl) ?_
   clear hx4 h
   rintro ⟨n4, s4⟩ h
   obtain ⟨n4, y4, rfl, h, hk4⟩ := F5 h
   unfold Dn at h
   refine Aq (Ab (sv rfl (Cm rfl rfl) (Ar (Aq (ccI h rfl (fun h => ?_) (fun h => ?_))))))
   ·refine Bl (Ah (Aq (B4 (Ab (sv rfl (Ag rfl) (sv rfl (Ag rfl) ?_))))))
    obtain ⟨v5, hv5, h⟩ := Am h
    refine C3 (x' := .s (.one (.sl v5.1.length (v5.1.flatMap eU8)))) (M' := [.box [.fn 112 [] [.lp 1 0, .lp 2 0], Ii6 v5.2.1], .box [Ii6 v5.2.2], .box [.sl a2.length (a2.flatMap eU8)], .arr 116 2 0 (s4.2.2.2.flatMap Dx)]) [0, 1, 2] rfl Are (.func _) (Ac rfl (Ac rfl Al)) (Kf hv5) rfl rfl (by decide) rfl rfl rfl ?_
    refine sv rfl (Ag rfl) ?_
    obtain ⟨v6, hv6, h⟩ := Am h
    refine C3 (x' := .s (.one (.sl v6.1.length (v6.1.flatMap eU8)))) (M' := [.box [.fn 112 [] [.lp 1 0, .lp 2 0], Ii6 v6.2.1], .box [Ii6 v6.2.2], .box [.sl a2.length (a2.flatMap eU8)], .arr 116 2 0 (s4.2.2.2.flatMap Dx)]) [0, 1, 2] rfl Are (.func _) (Ac rfl (Ac rfl Al)) (Kf hv6) rfl rfl (by decide) rfl rfl rfl ?_
    refine sv rfl (Bj Ail Ato (Ap rfl (Ap rfl Ba)) (.cons _ _ _ _ _ _ _ rfl rfl (Nbl rfl) (.cons _ _ _ _ _ _ _ rfl rfl (Nbl rfl) (.nil _)))) ?_
    refine Rj rfl Tryz.underlying53 Ape rfl rfl (List.all_eq_true.1 rfl) (by decide) ?_
    refine Bu [.box [.fn 112 [] [.lp 1 0, .lp 2 0], Ii6 v6.2.1], .box [Ii6 v6.2.2], .box [.sl a2.length (a2.flatMap eU8)], .arr 116 2 0 (s4.2.2.2.flatMap Dx), .arr 116 2 0 ([(Db.mk v5.1 v6.1)].flatMap Dx)] rfl ?_
    obtain ⟨hb7, h⟩ := D9 h
    refine Aif (f := Dx) (xs := s4.2.2.2) (us := [(Db.mk v5.1 v6.1)]) rfl Tryz.underlying53 Ape Avc (fun _ => rfl) rfl rfl (.one _ _ _ _ (.ls _ _ _ _ _ _ rfl (Bg (f := Dx) (fun _ => rfl) [(Db.mk v5.1 v6.1)]).symm)) rfl rfl rfl (.sl _ _ _ (Bg (f := Dx) (fun _ => rfl) _)) rfl rfl hb7 (by decide) ?_
    refine sv rfl (Ak rfl) (Lz (A1 (Ah (Ab (sv rfl (B0 rfl rfl) (sv rfl (Ag rfl) (Ar ?_)))))))
    obtain rfl := SJ h
    exact ⟨(n4, ((wI (s4.1 + 1)), v6.2.1, v6.2.2, (s4.2.2.2 ++ [(Db.mk v5.1 v6.1)]))), _, hk4, ⟨rfl, rfl, rfl, rfl, trivial⟩, rfl, Nat.lt_succ_self _⟩
   ·refine Kn (Bh (Bh (Cd (Ah ?_))))
    obtain rfl := SJ h
    obtain rfl : _ = x4 := hk4
    exact ⟨(s4.2.1, s4.2.2.1, s4.2.2.2), _, ho4, ⟨rfl, trivial⟩, rfl⟩
def Fb (a0 : Int) (a1 : Int) (a2 : List UInt8) : Option (Int × Int) :=
 (Bs a0 a1 a2).bind fun v1 => if (!decide (v1 = 0)) then (some (v1, a1)) else ((Dr a0 a1 a2).bind fun v2 => if (decide (0 < (v2.2.1.length : Int))) then (some (3, v2.2.2)) else (some (0, v2.2.2)))
theorem Qt {a0 : Int} {a1 : Int} {a2 : List UInt8} {r : Int × Int} (h : Fb a0 a1 a2 = some r) : G3 Tryz.prog 98 [.box [.fn 112 [] [.lp 1 0, .lp 2 0], Ii6 a0], .box [Ii6 a1], .box [.sl a2.length (a2.flatMap eU8)]] [.one (.lp 0 0)] (fun y m' => y = .s (.one (Ii6 r.1)) ∧ m' = [.box [.fn 112 [] [.lp 1 0, .lp 2 0], Ii6 a0], .box [Ii6 r.2], .box [.sl a2.length (a2.flatMap eU8)]]) := by
 unfold Fb at h
 refine Cv Tryz.func98 rfl (nt := 19) rfl (Nbl rfl) ?_
 intro w0 S0 X0 H0
 refine Aq (Ab (sv rfl (Ak rfl) (Ar (Aq (Aq (Ab (sv rfl (Ag rfl) ?_)))))))
 obtain ⟨v1, hv1, h⟩ := Am h
 refine C3 (x' := .s (.one (Ii6 v1))) (M' := [.box [.fn 112 [] [.lp 1 0, .lp 2 0], Ii6 a0], .box [Ii6 a1], .box [.sl a2.length (a2.flatMap eU8)]]) [0, 1, 2] rfl Ajp (.func _) (Ac rfl Al) (H7 hv1) rfl rfl (by decide) rfl rfl rfl ?_
 refine sv rfl (Ak rfl) (Ar (Aq (Ab (sv rfl (Ag rfl) (sv rfl (Ce rfl rfl) (Ar (ccI h rfl (fun h => ?_) (fun h => ?_))))))))
 ·refine Aq (Ab (sv rfl (Ag rfl) (sv rfl (Ak rfl) (Ar (Bk (Au ?_))))))
  obtain rfl := SJ h
  exact ⟨Or.inr rfl, _, [0, 1, 2], [.one (Ii6 v1)], [.box [.fn 112 [] [.lp 1 0, .lp 2 0], Ii6 a0], .box [Ii6 a1], .box [.sl a2.length (a2.flatMap eU8)]], (Ad (Bd.tmp _ _ rfl) Af), rfl, rfl, ⟨by decide, rfl⟩, rfl, rfl, ⟨rfl, rfl⟩⟩
 ·refine Bl (Ah (Aq (Aq (Ab (sv rfl (Ag rfl) ?_)))))
  obtain ⟨v2, hv2, h⟩ := Am h
  refine C3 (x' := .tup [.one (Ii6 v2.1), .one (.sl v2.2.1.length (v2.2.1.flatMap eU8))]) (M' := [.box [.fn 112 [] [.lp 1 0, .lp 2 0], Ii6 a0], .box [Ii6 v2.2.2], .box [.sl a2.length (a2.flatMap eU8)]]) [0, 1, 2] rfl Apy (.func _) (Ac rfl Al) (Mg hv2) rfl rfl (by decide) rfl rfl rfl ?_
  refine sv rfl (Gn rfl) (sv rfl (Bb rfl rfl) (sv rfl (Bb rfl rfl) (sv rfl (Ak rfl) (sv rfl (Ak rfl) (Ar (Aq (Ab (sv rfl (Ag rfl) (sv rfl (A0 Li rfl) (sv rfl (Di rfl rfl) (Ar (ccI h rfl (fun h => ?_) (fun h => ?_)))))))))))))
  ·refine Aq (Ab (sv rfl (Ak rfl) (Ar (Bk (Au ?_)))))
   obtain rfl := SJ h
   exact ⟨Or.inr rfl, _, [0, 1, 2], [.one (Ii6 3)], [.box [.fn 112 [] [.lp 1 0, .lp 2 0], Ii6 a0], .box [Ii6 v2.2.2], .box [.sl a2.length (a2.flatMap eU8)]], (Ad (Bd.tmp _ _ rfl) Af), rfl, rfl, ⟨by decide, rfl⟩, rfl, rfl, ⟨rfl, rfl⟩⟩
  ·refine Bl (Ah (Aq (Ab (sv rfl (Ak rfl) (Ar (Bk ?_))))))
   obtain rfl := SJ h
   exact ⟨Or.inr rfl, _, [0, 1, 2], [.one (Ii6 0)], [.box [.fn 112 [] [.lp 1 0, .lp 2 0], Ii6 a0], .box [Ii6 v2.2.2], .box [.sl a2.length (a2.flatMap eU8)]], (Ad (Bd.tmp _ _ rfl) Af), rfl, rfl, ⟨by decide, rfl⟩, rfl, rfl, ⟨rfl, rfl⟩⟩
def El (v1 : Int × Int × (List UInt8)) (v2 : (BitVec 64) × Int × Int) (v3 : (BitVec 64) × Int × Int) (b4 : Int) : Option (Bf × Int) :=
 (A4 1 b4 v3.2.2 v1.2.2).bind fun v5 => (A4 8 v5.2.1 v5.2.2 v1.2.2).bind fun v6 => (Fy v6.2.1 v6.2.2 v1.2.2).bind fun v7 => (Cs 32 v7.2.1 v7.2.2 v1.2.2).bind fun v8 => (Ji v8.2.1 v8.2.2 v1.2.2).bind fun v9 => (Fb v9.2.1 v9.2.2 v1.2.2).bind fun v10 => if (!decide (v10.1 = 0)) then (some (X6, v10.1)) else ((Fe (Bf.mk (wI (v2.1.toNat : Int)) (wI (v3.1.toNat : Int)) (wI (v5.1.toNat : Int)) (wI (v6.1.toNat : Int)) v7.1 v8.1 v9.1)).bind fun v11 => if (!v11) then (some (X6, 3)) else (some ((Bf.mk (wI (v2.1.toNat : Int)) (wI (v3.1.toNat : Int)) (wI (v5.1.toNat : Int)) (wI (v6.1.toNat : Int)) v7.1 v8.1 v9.1), 0)))
def Fo (a0 : List UInt8) : Option (Bf × Int) :=
 (Jl a0).bind fun v1 => (A4 1 v1.1 v1.2.1 v1.2.2).bind fun v2 => (A4 4 v2.2.1 v2.2.2 v1.2.2).bind fun v3 => if (!decide ((wI (v2.1.toNat : Int)) = 0)) then ((Hk (wI (v2.1.toNat : Int))).bind fun v12 => if (!v12) then ((Bx 3 v3.2.1 v3.2.2 v1.2.2).bind fun v13 => El v1 v2 v3 v13) else (El v1 v2 v3 v3.2.1)) else (El v1 v2 v3 v3.2.1)
theorem Tc {a0 : List UInt8} {r : Bf × Int} (h : Fo a0 = some r) : Bp Tryz.prog 78 [.one (.sl a0.length (a0.flatMap eU8))] (· = .tup [.agg (EL.el r.1), .one (Ii6 r.2)]) := by
 unfold Fo at h
 refine A2 Tryz.func78 rfl (nt := 55) rfl (Nbl rfl) ?_
 intro w0 S0
 refine Aq (Ab (B1 rfl Aks (sv rfl (Ak rfl) (Ar (Aq (Ab (sv rfl (Ag rfl) ?_)))))))
 obtain ⟨v1, hv1, h⟩ := Am h
 refine C3 (x' := .s (.one (.lp 1 0))) (M' := [.box Zbd, .box [.fn 112 [] [.lp 2 0, .lp 3 0], Ii6 v1.1], .box [Ii6 v1.2.1], .box [.sl v1.2.2.length (v1.2.2.flatMap eU8)]]) [] rfl Arb (.func _) (Ac rfl Al) (O9 hv1) rfl rfl (by decide) rfl rfl rfl ?_
 refine sv rfl (Ak rfl) (Ar (Aq (Ab (sv rfl (Ag rfl) ?_))))
 obtain ⟨v2, hv2, h⟩ := Am h
 refine C3 (x' := .s (.one (.i .u64 (v2.1.toNat : Int)))) (M' := [.box Zbd, .box [.fn 112 [] [.lp 2 0, .lp 3 0], Ii6 v2.2.1], .box [Ii6 v2.2.2], .box [.sl v1.2.2.length (v1.2.2.flatMap eU8)]]) [1, 2, 3] rfl Ah8 (.func _) (Ac rfl (Ac rfl Al)) (Cx hv2) rfl rfl (by decide) rfl rfl rfl ?_
 refine sv rfl (Fz Tryz.underlying112 Tryz.underlying3 rfl) (sv rfl (Ag rfl) ?_)
 obtain ⟨v3, hv3, h⟩ := Am h
 refine C3 (x' := .s (.one (.i .u64 (v3.1.toNat : Int)))) (M' := [.box Zbd, .box [.fn 112 [] [.lp 2 0, .lp 3 0], Ii6 v3.2.1], .box [Ii6 v3.2.2], .box [.sl v1.2.2.length (v1.2.2.flatMap eU8)]]) [1, 2, 3] rfl Ah8 (.func _) (Ac rfl (Ac rfl Al)) (Cx hv3) rfl rfl (by decide) rfl rfl rfl ?_
 refine sv rfl (Fz Tryz.underlying112 Tryz.underlying3 rfl) (sv rfl (Bj Aks Aqv (Ap rfl (Ap rfl Ba)) (.cons _ _ _ _ _ _ _ rfl rfl (Nbl rfl) (.cons _ _ _ _ _ _ _ rfl rfl (Nbl rfl) (.nil _)))) (B1 rfl Aks (Ax An5 rfl rfl rfl rfl (Nbl rfl) (Bu [.box Zbd, .box [.fn 112 [] [.lp 2 0, .lp 3 0], Ii6 v3.2.1], .box [Ii6 v3.2.2], .box [.sl v1.2.2.length (v1.2.2.flatMap eU8)], .box [Ii6 (wI (v2.1.toNat : Int)), Ii6 (wI (v3.1.toNat : Int)), Ii6 0, Ii6 0, .b false, Znl, Znl]] rfl (Ar (Aq (Aq (Lh (Int) (fun b4 => [(2, .s (.one (.lp 0 0))), (4, .s (.one (.lp 1 0))), (5, .s (.one (.lp 4 0)))]) (fun b4 => [.box Zbd, .box [.fn 112 [] [.lp 2 0, .lp 3 0], Ii6 b4], .box [Ii6 v3.2.2], .box [.sl v1.2.2.length (v1.2.2.flatMap eU8)], .box [Ii6 (wI (v2.1.toNat : Int)), Ii6 (wI (v3.1.toNat : Int)), Ii6 0, Ii6 0, .b false, Znl, Znl]]) (fun b4 => El v1 v2 v3 b4 = some r) (fun _ _ => Be rfl) (fun _ _ => Az rfl) (fun _ _ => Nbl rfl) (fun b4 h => ?_) ?_))))))))
 ·unfold El at h
  refine Aq (Ab (sv rfl (Ag rfl) ?_))
  obtain ⟨v5, hv5, h⟩ := Am h
  refine C3 (x' := .s (.one (.i .u64 (v5.1.toNat : Int)))) (M' := [.box Zbd, .box [.fn 112 [] [.lp 2 0, .lp 3 0], Ii6 v5.2.1], .box [Ii6 v5.2.2], .box [.sl v1.2.2.length (v1.2.2.flatMap eU8)], .box [Ii6 (wI (v2.1.toNat : Int)), Ii6 (wI (v3.1.toNat : Int)), Ii6 0, Ii6 0, .b false, Znl, Znl]]) [1, 2, 3] rfl Ah8 (.func _) (Ac rfl (Ac rfl Al)) (Cx hv5) rfl rfl (by decide) rfl rfl rfl ?_
  refine sv rfl (Fz Tryz.underlying112 Tryz.underlying38 rfl) (sv rfl (Aa Q7 rfl) (Ax At0 rfl rfl rfl rfl (Nbl rfl) (Bu [.box Zbd, .box [.fn 112 [] [.lp 2 0, .lp 3 0], Ii6 v5.2.1], .box [Ii6 v5.2.2], .box [.sl v1.2.2.length (v1.2.2.flatMap eU8)], .box [Ii6 (wI (v2.1.toNat : Int)), Ii6 (wI (v3.1.toNat : Int)), Ii6 (wI (v5.1.toNat : Int)), Ii6 0, .b false, Znl, Znl]] rfl (Ar (Aq (Ab (sv rfl (Ag rfl) ?_)))))))
  obtain ⟨v6, hv6, h⟩ := Am h
  refine C3 (x' := .s (.one (.i .u64 (v6.1.toNat : Int)))) (M' := [.box Zbd, .box [.fn 112 [] [.lp 2 0, .lp 3 0], Ii6 v6.2.1], .box [Ii6 v6.2.2], .box [.sl v1.2.2.length (v1.2.2.flatMap eU8)], .box [Ii6 (wI (v2.1.toNat : Int)), Ii6 (wI (v3.1.toNat : Int)), Ii6 (wI (v5.1.toNat : Int)), Ii6 0, .b false, Znl, Znl]]) [1, 2, 3] rfl Ah8 (.func _) (Ac rfl (Ac rfl Al)) (Cx hv6) rfl rfl (by decide) rfl rfl rfl ?_
  refine sv rfl (Fz Tryz.underlying112 Tryz.underlying3 rfl) (sv rfl (Aa Rc rfl) (Ax sz3 rfl rfl rfl rfl (Nbl rfl) (Bu [.box Zbd, .box [.fn 112 [] [.lp 2 0, .lp 3 0], Ii6 v6.2.1], .box [Ii6 v6.2.2], .box [.sl v1.2.2.length (v1.2.2.flatMap eU8)], .box [Ii6 (wI (v2.1.toNat : Int)), Ii6 (wI (v3.1.toNat : Int)), Ii6 (wI (v5.1.toNat : Int)), Ii6 (wI (v6.1.toNat : Int)), .b false, Znl, Znl]] rfl (Ar (Aq (Ab (sv rfl (Ag rfl) ?_)))))))
  obtain ⟨v7, hv7, h⟩ := Am h
  refine C3 (x' := .s (.one (.b v7.1))) (M' := [.box Zbd, .box [.fn 112 [] [.lp 2 0, .lp 3 0], Ii6 v7.2.1], .box [Ii6 v7.2.2], .box [.sl v1.2.2.length (v1.2.2.flatMap eU8)], .box [Ii6 (wI (v2.1.toNat : Int)), Ii6 (wI (v3.1.toNat : Int)), Ii6 (wI (v5.1.toNat : Int)), Ii6 (wI (v6.1.toNat : Int)), .b false, Znl, Znl]]) [1, 2, 3] rfl Auz (.func _) (Ac rfl Al) (Qg hv7) rfl rfl (by decide) rfl rfl rfl ?_
  refine sv rfl (Aa Aa4 rfl) (Ax sz4 rfl rfl rfl rfl (Nbl rfl) (Bu [.box Zbd, .box [.fn 112 [] [.lp 2 0, .lp 3 0], Ii6 v7.2.1], .box [Ii6 v7.2.2], .box [.sl v1.2.2.length (v1.2.2.flatMap eU8)], .box [Ii6 (wI (v2.1.toNat : Int)), Ii6 (wI (v3.1.toNat : Int)), Ii6 (wI (v5.1.toNat : Int)), Ii6 (wI (v6.1.toNat : Int)), .b v7.1, Znl, Znl]] rfl (Ar (Aq (Ab (sv rfl (Ag rfl) ?_))))))
  obtain ⟨v8, hv8, h⟩ := Am h
  refine C3 (x' := .s (.one (.sl v8.1.length (v8.1.flatMap eU8)))) (M' := [.box Zbd, .box [.fn 112 [] [.lp 2 0, .lp 3 0], Ii6 v8.2.1], .box [Ii6 v8.2.2], .box [.sl v1.2.2.length (v1.2.2.flatMap eU8)], .box [Ii6 (wI (v2.1.toNat : Int)), Ii6 (wI (v3.1.toNat : Int)), Ii6 (wI (v5.1.toNat : Int)), Ii6 (wI (v6.1.toNat : Int)), .b v7.1, Znl, Znl]]) [1, 2, 3] rfl Are (.func _) (Ac rfl (Ac rfl Al)) (Kf hv8) rfl rfl (by decide) rfl rfl rfl ?_
  refine sv rfl (Aa Z7 rfl) (Ax Aow rfl rfl rfl rfl (Nbl rfl) (Bu [.box Zbd, .box [.fn 112 [] [.lp 2 0, .lp 3 0], Ii6 v8.2.1], .box [Ii6 v8.2.2], .box [.sl v1.2.2.length (v1.2.2.flatMap eU8)], .box [Ii6 (wI (v2.1.toNat : Int)), Ii6 (wI (v3.1.toNat : Int)), Ii6 (wI (v5.1.toNat : Int)), Ii6 (wI (v6.1.toNat : Int)), .b v7.1, .sl v8.1.length (v8.1.flatMap eU8), Znl]] rfl (Ar (Aq (Ab (sv rfl (Ag rfl) ?_))))))
  obtain ⟨v9, hv9, h⟩ := Am h
  refine C3 (x' := .s (.one (.sl v9.1.length (v9.1.flatMap Dx)))) (M' := [.box Zbd, .box [.fn 112 [] [.lp 2 0, .lp 3 0], Ii6 v9.2.1], .box [Ii6 v9.2.2], .box [.sl v1.2.2.length (v1.2.2.flatMap eU8)], .box [Ii6 (wI (v2.1.toNat : Int)), Ii6 (wI (v3.1.toNat : Int)), Ii6 (wI (v5.1.toNat : Int)), Ii6 (wI (v6.1.toNat : Int)), .b v7.1, .sl v8.1.length (v8.1.flatMap eU8), Znl]]) [1, 2, 3] rfl Au2 (.func _) (Ac rfl Al) (S8 hv9) rfl rfl (by decide) rfl rfl rfl ?_
  refine sv rfl (Aa U2 rfl) (Ax Awd rfl rfl rfl rfl (Nbl rfl) (Bu [.box Zbd, .box [.fn 112 [] [.lp 2 0, .lp 3 0], Ii6 v9.2.1], .box [Ii6 v9.2.2], .box [.sl v1.2.2.length (v1.2.2.flatMap eU8)], .box [Ii6 (wI (v2.1.toNat : Int)), Ii6 (wI (v3.1.toNat : Int)), Ii6 (wI (v5.1.toNat : Int)), Ii6 (wI (v6.1.toNat : Int)), .b v7.1, .sl v8.1.length (v8.1.flatMap eU8), .sl v9.1.length (v9.1.flatMap Dx)]] rfl (Ar (Aq (Aq (Ab (sv rfl (Ag rfl) ?_)))))))
  obtain ⟨v10, hv10, h⟩ := Am h
  refine C3 (x' := .s (.one (Ii6 v10.1))) (M' := [.box Zbd, .box [.fn 112 [] [.lp 2 0, .lp 3 0], Ii6 v9.2.1], .box [Ii6 v10.2], .box [.sl v1.2.2.length (v1.2.2.flatMap eU8)], .box [Ii6 (wI (v2.1.toNat : Int)), Ii6 (wI (v3.1.toNat : Int)), Ii6 (wI (v5.1.toNat : Int)), Ii6 (wI (v6.1.toNat : Int)), .b v7.1, .sl v8.1.length (v8.1.flatMap eU8), .sl v9.1.length (v9.1.flatMap Dx)]]) [1, 2, 3] rfl Avv (.func _) (Ac rfl Al) (Qt hv10) rfl rfl (by decide) rfl rfl rfl ?_
  refine sv rfl (Ak rfl) (Ar (Aq (Ab (sv rfl (Ag rfl) (sv rfl (Ce rfl rfl) (Ar (ccI h rfl (fun h => ?_) (fun h => ?_))))))))
  ·refine Aq (Ab (sv rfl (Bj Aks Aqv Ba (.nil _)) (sv rfl (Ag rfl) (Ax An5 rfl rfl rfl rfl (Nbl rfl) (Bu [.box Zbd, .box [.fn 112 [] [.lp 2 0, .lp 3 0], Ii6 v9.2.1], .box [Ii6 v10.2], .box [.sl v1.2.2.length (v1.2.2.flatMap eU8)], .box [Ii6 (wI (v2.1.toNat : Int)), Ii6 (wI (v3.1.toNat : Int)), Ii6 (wI (v5.1.toNat : Int)), Ii6 (wI (v6.1.toNat : Int)), .b v7.1, .sl v8.1.length (v8.1.flatMap eU8), .sl v9.1.length (v9.1.flatMap Dx)]] rfl (sv rfl (Ak rfl) (Ar (Bk (Au ?_)))))))))
   obtain rfl := SJ h
   refine ⟨Or.inr rfl, _, _, _, (Ad (Bd.agg _ _ _ _ _ Acf rfl (.lp _ _ _ rfl) (Nbl rfl)) (Ad (Bd.tmp _ _ rfl) Af)), (Nt rfl), ?_⟩
   rfl
  ·refine Bl (Ah (Aq (Aq (Ab (sv rfl (Ao Acf rfl (.lp _ _ _ rfl) (Nbl rfl)) ?_)))))
   obtain ⟨v11, hv11, h⟩ := Am h
   refine A3 rfl Atx (Ac rfl Al) (Aj rfl) (Oc hv11) (sv rfl (Ca rfl) (Ar (ccI h rfl (fun h => ?_) (fun h => ?_))))
   ·refine Aq (Ab (sv rfl (Bj Aks Aqv Ba (.nil _)) (Ax An5 rfl rfl rfl rfl (Nbl rfl) (Bu [.box Zbd, .box [.fn 112 [] [.lp 2 0, .lp 3 0], Ii6 v9.2.1], .box [Ii6 v10.2], .box [.sl v1.2.2.length (v1.2.2.flatMap eU8)], .box [Ii6 (wI (v2.1.toNat : Int)), Ii6 (wI (v3.1.toNat : Int)), Ii6 (wI (v5.1.toNat : Int)), Ii6 (wI (v6.1.toNat : Int)), .b v7.1, .sl v8.1.length (v8.1.flatMap eU8), .sl v9.1.length (v9.1.flatMap Dx)]] rfl (sv rfl (Ak rfl) (Ar (Bk (Au ?_))))))))
    obtain rfl := SJ h
    refine ⟨Or.inr rfl, _, _, _, (Ad (Bd.agg _ _ _ _ _ Acf rfl (.lp _ _ _ rfl) (Nbl rfl)) (Ad (Bd.tmp _ _ rfl) Af)), (Nt rfl), ?_⟩
    rfl
   ·refine Bl (Ah (Aq (Ab (sv rfl (Ao Acf rfl (.lp _ _ _ rfl) (Nbl rfl)) (Ax An5 rfl rfl rfl rfl (Nbl rfl) (Bu [.box [Ii6 (wI (v2.1.toNat : Int)), Ii6 (wI (v3.1.toNat : Int)), Ii6 (wI (v5.1.toNat : Int)), Ii6 (wI (v6.1.toNat : Int)), .b v7.1, .sl v8.1.length (v8.1.flatMap eU8), .sl v9.1.length (v9.1.flatMap Dx)], .box [.fn 112 [] [.lp 2 0, .lp 3 0], Ii6 v9.2.1], .box [Ii6 v10.2], .box [.sl v1.2.2.length (v1.2.2.flatMap eU8)], .box [Ii6 (wI (v2.1.toNat : Int)), Ii6 (wI (v3.1.toNat : Int)), Ii6 (wI (v5.1.toNat : Int)), Ii6 (wI (v6.1.toNat : Int)), .b v7.1, .sl v8.1.length (v8.1.flatMap eU8), .sl v9.1.length (v9.1.flatMap Dx)]] rfl (sv rfl (Ak rfl) (Ar (Bk ?_)))))))))
    obtain rfl := SJ h
    refine ⟨Or.inr rfl, _, _, _, (Ad (Bd.agg _ _ _ _ _ Acf rfl (.lp _ _ _ rfl) (Nbl rfl)) (Ad (Bd.tmp _ _ rfl) Af)), (Aj rfl), ?_⟩
    rfl
 ·skip
  refine Ab (sv rfl (Aa P9 rfl) (sv rfl (Ae ti3 rfl (.lp _ _ _ rfl) rfl) (sv rfl (Ce rfl rfl) (sv rfl (Ag rfl) (Bq 19 rfl (fun hc => ?_) (fun hc => ?_))))))
  ·replace h := B2 hc h
   clear hc
   refine son rfl rfl rfl (sv rfl (Aa P9 rfl) (son rfl rfl rfl (sv rfl (Ae ti3 rfl (.lp _ _ _ rfl) rfl) (son rfl rfl rfl ?_))))
   obtain ⟨v12, hv12, h⟩ := Am h
   refine A3 rfl Aq2 (Ac rfl Al) (Aj rfl) (L8 hv12) (son rfl rfl rfl (sv rfl (Ca rfl) (sv rfl (Av rfl rfl) (Ar (ccI h rfl (fun h => ?_) (fun h => ?_))))))
   ·refine Ab (sv rfl (Ag rfl) ?_)
    obtain ⟨v13, hv13, h⟩ := Am h
    refine C3 (x' := .tup []) (M' := [.box Zbd, .box [.fn 112 [] [.lp 2 0, .lp 3 0], Ii6 v13], .box [Ii6 v3.2.2], .box [.sl v1.2.2.length (v1.2.2.flatMap eU8)], .box [Ii6 (wI (v2.1.toNat : Int)), Ii6 (wI (v3.1.toNat : Int)), Ii6 0, Ii6 0, .b false, Znl, Znl]]) [1, 2, 3] rfl Ans (.func _) (Ac rfl (Ac rfl Al)) (Dw hv13) rfl rfl (by decide) rfl rfl rfl ?_
    refine Ar ?_
    exact ⟨v13, _, h, ⟨rfl, rfl, rfl, trivial⟩, rfl⟩
   ·refine Bl (Ah ?_)
    exact ⟨v3.2.1, _, h, ⟨rfl, rfl, rfl, trivial⟩, rfl⟩
  ·replace h := B3 hc h
   clear hc
   refine Aw rfl rfl rfl rfl (Aw rfl rfl rfl rfl (Aw rfl rfl rfl rfl (Aw rfl rfl rfl rfl (sv rfl (An rfl rfl) (Ar (Hq rfl (fun hx => Bool.noConfusion hx) (fun _ => ?_)))))))
   refine Bl (Ah ?_)
   exact ⟨v3.2.1, _, h, ⟨rfl, rfl, rfl, trivial⟩, rfl⟩
def Ip (a0 : List As) : Option (List As) :=
 if (([] : List As).length + a0.length) * 40 ≤ 140737488355328 then (some (([] : List As) ++ a0)) else none
theorem Rz {a0 : List As} {r : (List As)} (h : Ip a0 = some r) : G3 Tryz.prog 106 [] [.one (.sl a0.length (a0.flatMap Ay))] (fun y m' => y = .s (.one (.ls 0 r.length)) ∧ m' = [.arr 94 3 0 (r.flatMap Ay)]) := by
 unfold Ip at h
 refine Cv Tryz.func106 rfl (nt := 8) rfl (Nbl rfl) ?_
 intro w0 S0 X0 H0
 refine Aq (Ab (sv rfl (Ak rfl) (Ar (Aq (Aq (Ab (sv rfl (Ag rfl) (Amk rfl Tryz.underlying29 rfl (fun nq hnq => ?_)))))))))
 cases nq
 ·skip
  refine Ar (Hq rfl (fun hx => Bool.noConfusion hx) (fun _ => ?_))
  refine Bl (Ah (Aq (Ab (Acl rfl Tryz.underlying29 Apx (sv rfl (Ag rfl) ?_)))))
  obtain ⟨hb1, h⟩ := D9 h
  refine Aif (f := Ay) (xs := ([] : List As)) (us := a0) rfl Tryz.underlying29 Apx Aul (fun _ => rfl) rfl rfl (.one _ _ _ _ (.id _ rfl)) rfl rfl rfl (.sl _ _ _ (Bg (f := Ay) (fun _ => rfl) _)) rfl rfl hb1 (by decide) ?_
  refine sv rfl (Ak rfl) (Ar (Bk ?_))
  obtain rfl := SJ h
  exact ⟨Or.inr rfl, _, [0], [.one (.ls 0 (([] : List As) ++ a0).length)], [.arr 94 3 0 ((([] : List As) ++ a0).flatMap Ay)], (Ad (Bd.tmp _ _ rfl) Af), rfl, rfl, ⟨by decide, rfl⟩, rfl, rfl, ⟨rfl, rfl⟩⟩
 ·obtain rfl := List.eq_nil_of_length_eq_zero (hnq rfl)
  replace h : (some ([] : List As)) = some r := by first | exact h | (rw [if_pos (by decide)] at h; exact h)
  refine Ar (Hq rfl (fun _ => ?_) (fun hx => Bool.noConfusion hx))
  refine Aq (Ab (sv rfl (Ak rfl) (Ar ?_)))
  refine O2 94 3 2 (by decide) rfl ?_
  refine Bk (Au ?_)
  obtain rfl := SJ h
  exact ⟨Or.inr rfl, _, [0], [.one (.ls 0 ([] : List As).length)], [.arr 94 3 0 (([] : List As).flatMap Ay)], (Ad (Bd.tmp _ _ rfl) Af), rfl, rfl, ⟨by decide, rfl⟩, rfl, rfl, ⟨rfl, rfl⟩⟩
def Ev (a0 : Ai) : Option Ai :=
 (cut a0.Tasks 1 (a0.Tasks.length : Int)).bind fun c1 => (Ip c1).bind fun v2 => some (Ai.mk (Cr.mk a0.Cfg.Who (Dk.mk a0.Cfg.Plan.Wait a0.Cfg.Plan.Most a0.Cfg.Plan.Tries) a0.Cfg.Attempts a0.Cfg.Budget) v2 a0.Phase a0.Epoch a0.Seq 0 a0.Sent a0.Left a0.Resets a0.Risk (A7.mk a0.St.PC (E5.mk a0.St.Regs.R0 a0.St.Regs.R1 a0.St.Regs.R2 a0.St.Regs.R3 a0.St.Regs.R4 a0.St.Regs.R5 a0.St.Regs.R6 a0.St.Regs.R7) a0.St.Stopped) (B6.mk a0.Req.Kind a0.Req.Seq a0.Req.Token a0.Req.Attempt a0.Req.RO a0.Req.Key a0.Req.Val (B9.mk a0.Req.Rng.Lo a0.Req.Rng.Hi a0.Req.Rng.Open)) (Bo.mk a0.In.Buf a0.In.Dead) a0.Out a0.Done a0.Tried)
theorem Md {a0 : Ai} {r : Ai} (h : Ev a0 = some r) : Bp Tryz.prog 80 [.agg (EL.el a0)] (· = .s (.agg (EL.el r))) := by
 unfold Ev at h
 refine A2 Tryz.func80 rfl (nt := 10) rfl (Nbl rfl) ?_
 intro w0 S0
 refine Aq (Ab (Jj rfl rfl (B1 rfl Nw (Ar (Aq (Ab (sv rfl (Aa Mz rfl) (sv rfl (Ae Zk rfl (.lp _ _ _ rfl) rfl) ?_))))))))
 obtain ⟨c1, hc1, h⟩ := Am h
 refine sv rfl (Ss (f := Ay) (lo := 1) (hi := (a0.Tasks.length : Int)) Vl (fun _ => rfl) rfl rfl rfl (Hm rfl (Kq hc1).1.1) (by exact rfl) hc1) ?_
 obtain ⟨v2, hv2, h⟩ := Am h
 refine C3 (x' := .s (.one (.ls 2 v2.length))) (M' := [.box (EL.el a0), .box Zba, .arr 94 3 0 (v2.flatMap Ay)]) [] rfl Asb (.func _) (Ac rfl Al) (Rz hv2) rfl rfl (by decide) rfl rfl rfl ?_
 refine sv rfl (Aa Mz rfl) (Ax Atm rfl rfl rfl rfl (Nbl rfl) (Bu [.box ((EL.el a0).set 6 (.ls 2 v2.length)), .box Zba, .arr 94 3 0 (v2.flatMap Ay)] rfl (Ar (Aq (Ab (sv rfl (Aa Oe rfl) (Ax sz3 rfl rfl rfl rfl (Nbl rfl) (Bu [.box ((EL.el {a0 with Attempt := 0}).set 6 (.ls 2 v2.length)), .box Zba, .arr 94 3 0 (v2.flatMap Ay)] rfl (Ar (Aq (Ab (sv rfl (Ao B8 rfl (.lp _ _ _ rfl) (Nbl rfl)) (Ax E7 rfl rfl rfl rfl (Nbl rfl) (Bu [.box ((EL.el {a0 with Attempt := 0}).set 6 (.ls 2 v2.length)), .box ((EL.el {a0 with Attempt := 0}).set 6 (.ls 2 v2.length)), .arr 94 3 0 (v2.flatMap Ay)] rfl (Ar (Bk ?_))))))))))))))))
 obtain rfl := SJ h
 refine ⟨Or.inr rfl, _, _, _, (Ad (Bd.agg _ _ _ _ _ B8 rfl (.lp _ _ _ rfl) (Nbl rfl)) Af), (by (repeat' first | exact Kb.nil _ | apply Kb.cons | apply J4.one | apply J4.agg | exact E8.nil | exact E8.ls _ _ _ _ _ _ rfl (Bg (f := Ay) (fun _ => rfl) _).symm | exact E8.id _ rfl | exact D2.nil _ | apply D2.cons)), ?_⟩
 rfl
def E0 (b2 : Ai) : Option Ai :=
 some ({b2 with Phase := 1, Epoch := (wI (b2.Epoch + 1)), Left := 0})
def Gs (a0 : Ai) (b1 : Unit) : Option Ai :=
 if (decide (a0.Phase = 9)) then ((Ev ({a0 with Resets := (if 1001 < (wI (a0.Resets + 1)) then 1001 else (wI (a0.Resets + 1))), In := (Bo.mk ([] : List UInt8) 0), Out := ([] : List UInt8)})).bind fun v3 => E0 v3) else (E0 ({a0 with Resets := (if 1001 < (wI (a0.Resets + 1)) then 1001 else (wI (a0.Resets + 1))), In := (Bo.mk ([] : List UInt8) 0), Out := ([] : List UInt8)}))
def Cq (a0 : Ai) : Option Ai :=
 if (decide (a0.Cfg.Budget < (if 1001 < (wI (a0.Resets + 1)) then 1001 else (wI (a0.Resets + 1))))) then ((Cf ({a0 with Resets := (if 1001 < (wI (a0.Resets + 1)) then 1001 else (wI (a0.Resets + 1))), In := (Bo.mk ([] : List UInt8) 0), Out := ([] : List UInt8)})).bind fun v4 => some v4) else (if (decide (65535 ≤ a0.Epoch)) then ((Cf ({a0 with Resets := (if 1001 < (wI (a0.Resets + 1)) then 1001 else (wI (a0.Resets + 1))), In := (Bo.mk ([] : List UInt8) 0), Out := ([] : List UInt8)})).bind fun v5 => some v5) else (Gs a0 ()))
theorem Fp {a0 : Ai} {r : Ai} (h : Cq a0 = some r) : Bp Tryz.prog 47 [.agg (EL.el a0)] (· = .s (.agg (EL.el r))) := by
 unfold Cq at h
 refine A2 Tryz.func47 rfl (nt := 36) rfl (Nbl rfl) ?_
 intro w0 S0
 refine Aq (Ab (Jj rfl rfl (B1 rfl Nw (Ar (Aq (Ab (sv rfl (Aa Acx rfl) (sv rfl (Ae ti3 rfl (.lp _ _ _ rfl) rfl) (sv rfl (B0 rfl rfl) (sv rfl (Tb rfl rfl) (sv rfl (Aa Acx rfl) (Ax sz3 rfl rfl rfl rfl (Nbl rfl) (Bu [.box (EL.el {a0 with Resets := if 1001 < (wI (a0.Resets + 1)) then 1001 else (wI (a0.Resets + 1))}), .box Zba] rfl (Ar (Aq (Ab (sv rfl (Aa Rf rfl) (Ax Aow rfl rfl rfl rfl (Nbl rfl) (Bu [.box ((EL.el {a0 with Resets := if 1001 < (wI (a0.Resets + 1)) then 1001 else (wI (a0.Resets + 1))}).set 37 (Znl)), .box Zba] rfl (Ar (Aq (Ab (sv rfl (Bj An7 Aqt Ba (.nil _)) (sv rfl (Aa V3 rfl) (Ax Am5 rfl rfl rfl rfl (Nbl rfl) (Bu [.box (((EL.el {a0 with Resets := if 1001 < (wI (a0.Resets + 1)) then 1001 else (wI (a0.Resets + 1)), In.Dead := 0}).set 35 (Znl)).set 37 (Znl)), .box Zba] rfl (Ar (Aq (Aq (Lh (Unit) (fun b1 => [(1, .s (.one (.lp 0 0))), (2, .s (.one (.lp 1 0)))]) (fun b1 => [.box (((EL.el {a0 with Resets := if 1001 < (wI (a0.Resets + 1)) then 1001 else (wI (a0.Resets + 1)), In.Dead := 0}).set 35 (Znl)).set 37 (Znl)), .box Zba]) (fun b1 => Gs a0 b1 = some r) (fun _ _ => Be rfl) (fun _ _ => Az rfl) (fun _ _ => Nbl rfl) (fun b1 h => ?_) ?_))))))))))))))))))))))))))))))
 ·unfold Gs at h
  refine Aq (Aq (Ab (sv rfl (Aa Hf rfl) (sv rfl (Ae ti3 rfl (.lp _ _ _ rfl) rfl) (sv rfl (Br rfl rfl) (Ar (G6 (Ai) (fun b2 => [(1, .s (.one (.lp 0 0))), (2, .s (.one (.lp 1 0)))]) (fun b2 => [.box (EL.el b2), .box Zba]) (fun b2 => E0 b2 = some r) (fun _ _ => Be rfl) (fun _ _ => Az rfl) (fun _ _ => Nbl rfl) (fun b2 h => ?_) ?_)))))))
  ·unfold E0 at h
   refine Aq (Ab (sv rfl (Aa Hf rfl) (Ax sz3 rfl rfl rfl rfl (Nbl rfl) (Bu [.box (EL.el {b2 with Phase := 1}), .box Zba] rfl (Ar (Aq (Ab (sv rfl (Aa Aax rfl) (sv rfl (Ae ti3 rfl (.lp _ _ _ rfl) rfl) (sv rfl (B0 rfl rfl) (sv rfl (Aa Aax rfl) (Ax sz3 rfl rfl rfl rfl (Nbl rfl) (Bu [.box (EL.el {b2 with Phase := 1, Epoch := wI (b2.Epoch + 1)}), .box Zba] rfl (Ar (Aq (Ab (sv rfl (Aa Q0 rfl) (Ax sz3 rfl rfl rfl rfl (Nbl rfl) (Bu [.box (EL.el {b2 with Phase := 1, Epoch := wI (b2.Epoch + 1), Left := 0}), .box Zba] rfl (Ar (Aq (Ab (sv rfl (Ao B8 rfl (.lp _ _ _ rfl) (Nbl rfl)) (Ax E7 rfl rfl rfl rfl (Nbl rfl) (Bu [.box (EL.el {b2 with Phase := 1, Epoch := wI (b2.Epoch + 1), Left := 0}), .box (EL.el {b2 with Phase := 1, Epoch := wI (b2.Epoch + 1), Left := 0})] rfl (Ar (Bk ?_)))))))))))))))))))))))))))
   obtain rfl := SJ h
   refine ⟨Or.inr rfl, _, _, _, (Ad (Bd.agg _ _ _ _ _ B8 rfl (.lp _ _ _ rfl) (Nbl rfl)) Af), (Aj rfl), ?_⟩
   rfl
  ·skip
   refine ccI h rfl (fun h => ?_) (fun h => ?_)
   ·refine Ab (sv rfl (Ao B8 rfl (.lp _ _ _ rfl) (Nbl rfl)) ?_)
    obtain ⟨v3, hv3, h⟩ := Am h
    refine A3 rfl At2 (Ac rfl Al) (Nt rfl) (Md hv3) (Ax E7 rfl rfl rfl rfl (Nbl rfl) (Bu [.box (EL.el v3), .box Zba] rfl (Ar ?_)))
    exact ⟨v3, _, h, ⟨rfl, rfl, trivial⟩, rfl⟩
   ·refine Ace 0 35 rfl rfl E8.nil rfl (Ace 0 37 rfl rfl E8.nil rfl (Bl (Ah ?_)))
    exact ⟨{a0 with Resets := (if 1001 < (wI (a0.Resets + 1)) then 1001 else (wI (a0.Resets + 1))), In := (Bo.mk ([] : List UInt8) 0), Out := ([] : List UInt8)}, _, h, ⟨rfl, rfl, trivial⟩, rfl⟩
 ·skip
  refine Ab (sv rfl (Aa Acx rfl) (sv rfl (Ae ti3 rfl (.lp _ _ _ rfl) rfl) (sv rfl (Aa Q8 rfl) (sv rfl (Aa Alj rfl) (sv rfl (Ae ti3 rfl (.lp _ _ _ rfl) rfl) (sv rfl (Di rfl rfl) (sv rfl (Ag rfl) (Bq 17 rfl (fun hc => ?_) (fun hc => ?_)))))))))
  ·replace h := B2 hc h
   clear hc
   refine Aw rfl rfl rfl rfl (Aw rfl rfl rfl rfl (Aw rfl rfl rfl rfl (sv rfl (Av rfl rfl) (Ar (Hq rfl (fun _ => ?_) (fun hx => Bool.noConfusion hx))))))
   refine Aq (Ab (sv rfl (Ao B8 rfl (.lp _ _ _ rfl) (Nbl rfl)) ?_))
   obtain ⟨v4, hv4, h⟩ := Am h
   refine A3 rfl Aml (Ac rfl Al) (Nt rfl) (Dg hv4) (Ax E7 rfl rfl rfl rfl (Nbl rfl) (Bu [.box (((EL.el {a0 with Resets := if 1001 < (wI (a0.Resets + 1)) then 1001 else (wI (a0.Resets + 1)), In.Dead := 0}).set 35 (Znl)).set 37 (Znl)), .box (EL.el v4)] rfl (Ar (Bk (Au ?_)))))
   obtain rfl := SJ h
   refine ⟨Or.inr rfl, _, _, _, (Ad (Bd.agg _ _ _ _ _ B8 rfl (.lp _ _ _ rfl) (Nbl rfl)) Af), (Aj rfl), ?_⟩
   rfl
  ·replace h := B3 hc h
   clear hc
   refine son rfl rfl rfl (sv rfl (Aa Aax rfl) (son rfl rfl rfl (sv rfl (Ae ti3 rfl (.lp _ _ _ rfl) rfl) (son rfl rfl rfl (sv rfl (Lp rfl rfl) (sv rfl (An rfl rfl) (Ar (ccI h rfl (fun h => ?_) (fun h => ?_)))))))))
   ·refine Aq (Ab (sv rfl (Ao B8 rfl (.lp _ _ _ rfl) (Nbl rfl)) ?_))
    obtain ⟨v5, hv5, h⟩ := Am h
    refine A3 rfl Aml (Ac rfl Al) (Nt rfl) (Dg hv5) (Ax E7 rfl rfl rfl rfl (Nbl rfl) (Bu [.box (((EL.el {a0 with Resets := if 1001 < (wI (a0.Resets + 1)) then 1001 else (wI (a0.Resets + 1)), In.Dead := 0}).set 35 (Znl)).set 37 (Znl)), .box (EL.el v5)] rfl (Ar (Bk (Au ?_)))))
    obtain rfl := SJ h
    refine ⟨Or.inr rfl, _, _, _, (Ad (Bd.agg _ _ _ _ _ B8 rfl (.lp _ _ _ rfl) (Nbl rfl)) Af), (Aj rfl), ?_⟩
    rfl
   ·refine Bl (Ah ?_)
    exact ⟨(), _, h, ⟨rfl, rfl, trivial⟩, rfl⟩
def Mb  : Option Unit :=
 (Co 2).bind fun v1 => if (!v1) then none else (some ())
theorem Rl  {r : Unit} (h : Mb = some r) : G3 Tryz.prog 79 [] [.one (Ii6 2)] (fun y m' => y = .s (.one (.raw (.func (.func 99) #[] #[]))) ∧ m' = []) := by
 unfold Mb at h
 refine Cv Tryz.func79 rfl (nt := 11) rfl (Nbl rfl) ?_
 intro w0 S0 X0 H0
 refine Aq (Ab (sv rfl (Ak rfl) (Ar (Aq (Ab (sv rfl (G8 Rx Sx (Ap rfl (Ap rfl (Ap rfl (Ap rfl (Ap rfl (Ap rfl (Ap rfl Ba))))))) (Ef [Nfu, Nfu, .raw (.func (.func 99) #[] #[]), Nfu, Nfu, Nfu, Nfu, Nfu, Nfu, Nfu] rfl rfl (Nbl rfl) rfl (Ef [Nfu, Nfu, .raw (.func (.func 99) #[] #[]), .raw (.func (.func 100) #[] #[]), Nfu, Nfu, Nfu, Nfu, Nfu, Nfu] rfl rfl (Nbl rfl) rfl (Ef [Nfu, Nfu, .raw (.func (.func 99) #[] #[]), .raw (.func (.func 100) #[] #[]), .raw (.func (.func 101) #[] #[]), Nfu, Nfu, Nfu, Nfu, Nfu] rfl rfl (Nbl rfl) rfl (Ef [Nfu, Nfu, .raw (.func (.func 99) #[] #[]), .raw (.func (.func 100) #[] #[]), .raw (.func (.func 101) #[] #[]), .raw (.func (.func 102) #[] #[]), Nfu, Nfu, Nfu, Nfu] rfl rfl (Nbl rfl) rfl (Ef [Nfu, Nfu, .raw (.func (.func 99) #[] #[]), .raw (.func (.func 100) #[] #[]), .raw (.func (.func 101) #[] #[]), .raw (.func (.func 102) #[] #[]), .raw (.func (.func 103) #[] #[]), Nfu, Nfu, Nfu] rfl rfl (Nbl rfl) rfl (Ef [Nfu, Nfu, .raw (.func (.func 99) #[] #[]), .raw (.func (.func 100) #[] #[]), .raw (.func (.func 101) #[] #[]), .raw (.func (.func 102) #[] #[]), .raw (.func (.func 103) #[] #[]), .raw (.func (.func 104) #[] #[]), Nfu, Nfu] rfl rfl (Nbl rfl) rfl (Ef [Nfu, Nfu, .raw (.func (.func 99) #[] #[]), .raw (.func (.func 100) #[] #[]), .raw (.func (.func 101) #[] #[]), .raw (.func (.func 102) #[] #[]), .raw (.func (.func 103) #[] #[]), .raw (.func (.func 104) #[] #[]), Nfu, .raw (.func (.func 105) #[] #[])] rfl rfl (Nbl rfl) rfl (.nil _))))))))) (B1 rfl Rx (Ax Zq rfl rfl rfl rfl (Nbl rfl) (Bu [.box [Nfu, Nfu, .raw (.func (.func 99) #[] #[]), .raw (.func (.func 100) #[] #[]), .raw (.func (.func 101) #[] #[]), .raw (.func (.func 102) #[] #[]), .raw (.func (.func 103) #[] #[]), .raw (.func (.func 104) #[] #[]), Nfu, .raw (.func (.func 105) #[] #[])]] rfl (Ar (Aq (Aq (Ab (sv rfl (Ag rfl) ?_))))))))))))))
 obtain ⟨v1, hv1, h⟩ := Am h
 refine A3 rfl Ai1 (Ac rfl Al) (Aj rfl) (D1 hv1) (sv rfl (Ca rfl) (Ar (ccI h rfl (fun h => ?_) (fun h => ?_))))
 ·refine Aq (Ab ?_)
  cases h
 ·refine Bl (Ah (Aq (Ab (sv rfl (Ag rfl) ?_))))
  refine sv rfl (O4 (o := 2) Sx rfl rfl (by decide)) ?_
  refine sv rfl (Ae Acc rfl (.lp _ _ _ rfl) rfl) (sv rfl (Ak rfl) (Ar (Bk ?_)))
  obtain rfl := SJ h
  exact ⟨Or.inr rfl, _, [], [.one (.raw (.func (.func 99) #[] #[]))], [], (Ad (Bd.tmp _ _ rfl) Af), rfl, rfl, ⟨by decide, rfl⟩, rfl, rfl, ⟨rfl, rfl⟩⟩
def Eh (a0 : Ai) (a1 : Bf) : Option Ai :=
 if (!decide (a1.Code = 0)) then ((Cq a0).bind fun v1 => some v1) else ((Dv a0).bind fun v2 => some v2)
theorem N4 {a0 : Ai} {a1 : Bf} {r : Ai} (h : Eh a0 a1 = some r) : Bp Tryz.prog 99 [.agg (EL.el a0), .agg (EL.el a1)] (· = .s (.agg (EL.el r))) := by
 unfold Eh at h
 refine A2 Tryz.func99 rfl (nt := 12) rfl (Nbl rfl) ?_
 intro w0 S0
 refine Aq (Ab (Jj rfl rfl (Jj rfl rfl (B1 rfl Nw (Ar (Aq (Aq (Ab (sv rfl (Aa Q7 rfl) (sv rfl (Ae Aba rfl (.lp _ _ _ rfl) rfl) (sv rfl (Ce rfl rfl) (Ar (ccI h rfl (fun h => ?_) (fun h => ?_))))))))))))))
 ·refine Aq (Ab (sv rfl (Ao B8 rfl (.lp _ _ _ rfl) (Nbl rfl)) ?_))
  obtain ⟨v1, hv1, h⟩ := Am h
  refine A3 rfl Ao0 (Ac rfl Al) (Aj rfl) (Fp hv1) (Ax E7 rfl rfl rfl rfl (Nbl rfl) (Bu [.box (EL.el a0), .box (EL.el a1), .box (EL.el v1)] rfl (Ar (Bk (Au ?_)))))
  obtain rfl := SJ h
  refine ⟨Or.inr rfl, _, _, _, (Ad (Bd.agg _ _ _ _ _ B8 rfl (.lp _ _ _ rfl) (Nbl rfl)) Af), (Aj rfl), ?_⟩
  rfl
 ·refine Bl (Ah (Aq (Ab (sv rfl (Ao B8 rfl (.lp _ _ _ rfl) (Nbl rfl)) ?_))))
  obtain ⟨v2, hv2, h⟩ := Am h
  refine A3 rfl Ary (Ac rfl Al) (Aj rfl) (I9 hv2) (Ax E7 rfl rfl rfl rfl (Nbl rfl) (Bu [.box (EL.el a0), .box (EL.el a1), .box (EL.el v2)] rfl (Ar (Bk ?_))))
  obtain rfl := SJ h
  refine ⟨Or.inr rfl, _, _, _, (Ad (Bd.agg _ _ _ _ _ B8 rfl (.lp _ _ _ rfl) (Nbl rfl)) Af), (Aj rfl), ?_⟩
  rfl
def Ln  : Option Unit :=
 (Co 3).bind fun v1 => if (!v1) then none else (some ())
theorem Qj  {r : Unit} (h : Ln = some r) : G3 Tryz.prog 79 [] [.one (Ii6 3)] (fun y m' => y = .s (.one (.raw (.func (.func 100) #[] #[]))) ∧ m' = []) := by
 unfold Ln at h
 refine Cv Tryz.func79 rfl (nt := 11) rfl (Nbl rfl) ?_
 intro w0 S0 X0 H0
 refine Aq (Ab (sv rfl (Ak rfl) (Ar (Aq (Ab (sv rfl (G8 Rx Sx (Ap rfl (Ap rfl (Ap rfl (Ap rfl (Ap rfl (Ap rfl (Ap rfl Ba))))))) (Ef [Nfu, Nfu, .raw (.func (.func 99) #[] #[]), Nfu, Nfu, Nfu, Nfu, Nfu, Nfu, Nfu] rfl rfl (Nbl rfl) rfl (Ef [Nfu, Nfu, .raw (.func (.func 99) #[] #[]), .raw (.func (.func 100) #[] #[]), Nfu, Nfu, Nfu, Nfu, Nfu, Nfu] rfl rfl (Nbl rfl) rfl (Ef [Nfu, Nfu, .raw (.func (.func 99) #[] #[]), .raw (.func (.func 100) #[] #[]), .raw (.func (.func 101) #[] #[]), Nfu, Nfu, Nfu, Nfu, Nfu] rfl rfl (Nbl rfl) rfl (Ef [Nfu, Nfu, .raw (.func (.func 99) #[] #[]), .raw (.func (.func 100) #[] #[]), .raw (.func (.func 101) #[] #[]), .raw (.func (.func 102) #[] #[]), Nfu, Nfu, Nfu, Nfu] rfl rfl (Nbl rfl) rfl (Ef [Nfu, Nfu, .raw (.func (.func 99) #[] #[]), .raw (.func (.func 100) #[] #[]), .raw (.func (.func 101) #[] #[]), .raw (.func (.func 102) #[] #[]), .raw (.func (.func 103) #[] #[]), Nfu, Nfu, Nfu] rfl rfl (Nbl rfl) rfl (Ef [Nfu, Nfu, .raw (.func (.func 99) #[] #[]), .raw (.func (.func 100) #[] #[]), .raw (.func (.func 101) #[] #[]), .raw (.func (.func 102) #[] #[]), .raw (.func (.func 103) #[] #[]), .raw (.func (.func 104) #[] #[]), Nfu, Nfu] rfl rfl (Nbl rfl) rfl (Ef [Nfu, Nfu, .raw (.func (.func 99) #[] #[]), .raw (.func (.func 100) #[] #[]), .raw (.func (.func 101) #[] #[]), .raw (.func (.func 102) #[] #[]), .raw (.func (.func 103) #[] #[]), .raw (.func (.func 104) #[] #[]), Nfu, .raw (.func (.func 105) #[] #[])] rfl rfl (Nbl rfl) rfl (.nil _))))))))) (B1 rfl Rx (Ax Zq rfl rfl rfl rfl (Nbl rfl) (Bu [.box [Nfu, Nfu, .raw (.func (.func 99) #[] #[]), .raw (.func (.func 100) #[] #[]), .raw (.func (.func 101) #[] #[]), .raw (.func (.func 102) #[] #[]), .raw (.func (.func 103) #[] #[]), .raw (.func (.func 104) #[] #[]), Nfu, .raw (.func (.func 105) #[] #[])]] rfl (Ar (Aq (Aq (Ab (sv rfl (Ag rfl) ?_))))))))))))))
 obtain ⟨v1, hv1, h⟩ := Am h
 refine A3 rfl Ai1 (Ac rfl Al) (Aj rfl) (D1 hv1) (sv rfl (Ca rfl) (Ar (ccI h rfl (fun h => ?_) (fun h => ?_))))
 ·refine Aq (Ab ?_)
  cases h
 ·refine Bl (Ah (Aq (Ab (sv rfl (Ag rfl) ?_))))
  refine sv rfl (O4 (o := 3) Sx rfl rfl (by decide)) ?_
  refine sv rfl (Ae Acc rfl (.lp _ _ _ rfl) rfl) (sv rfl (Ak rfl) (Ar (Bk ?_)))
  obtain rfl := SJ h
  exact ⟨Or.inr rfl, _, [], [.one (.raw (.func (.func 100) #[] #[]))], [], (Ad (Bd.tmp _ _ rfl) Af), rfl, rfl, ⟨by decide, rfl⟩, rfl, rfl, ⟨rfl, rfl⟩⟩
def Cu (a0 : Ai) (b2 : A9) : Option Ai :=
 (C5 a0 b2).bind fun v3 => (Cb ({v3 with Phase := 9, Risk := false}) (B6.mk 10 0 b2.Token 0 false ([] : List UInt8) ([] : List UInt8) Bt)).bind fun v4 => some v4
def Bv (a0 : Ai) (a1 : Int) (a2 : Int) : Option Ai :=
 (idx a0.Tasks 0).bind fun u1 => if (decide (a1 = 1)) then (Cu a0 (A9.mk u1.Token a1 a0.Attempt a2 a0.St.Regs)) else (Cu a0 (A9.mk u1.Token a1 a0.Attempt a2 (E5.mk 0 0 0 0 0 0 0 0)))
theorem Cc {a0 : Ai} {a1 : Int} {a2 : Int} {r : Ai} (h : Bv a0 a1 a2 = some r) : Bp Tryz.prog 119 [.agg (EL.el a0), .one (Ii6 a1), .one (Ii6 a2)] (· = .s (.agg (EL.el r))) := by
 unfold Bv at h
 refine A2 Tryz.func119 rfl (nt := 34) rfl (Nbl rfl) ?_
 intro w0 S0
 refine Aq (Ab (Jj rfl rfl (B1 rfl Nw (Ar (Aq (Aet ?_))))))
 obtain ⟨u1, hu1, h⟩ := Am h
 refine Ke [10, 11] [0, 1, 3, 7, 15, 0, 0, 64, 0, 511, 0, 2047] [[.box (EL.el a0), .box Zba, .hole], [.box (EL.el a0), .box Zba, .box [Ii6 0, Ii6 0, Ii6 0, Ii6 0, Ii6 0, Ii6 0, Ii6 0, Ii6 0, Ii6 0, Ii6 0, Ii6 0, Ii6 0]], [.box (EL.el a0), .box Zba, .box [Ii6 u1.Token, Ii6 a1, Ii6 a0.Attempt, Ii6 a2, Ii6 0, Ii6 0, Ii6 0, Ii6 0, Ii6 0, Ii6 0, Ii6 0, Ii6 0]]] (by kernel_rfl) Lm (by kernel_rfl) (by decide) rfl rfl rfl rfl ?_
 refine ev (B5 (md := [.box (EL.el a0), .box Zba, .dead]) ⟨⟨rfl, ⟨rfl, ⟨trivial, trivial⟩⟩⟩, ⟨⟨rfl, ⟨rfl, ⟨trivial, trivial⟩⟩⟩, ⟨⟨rfl, ⟨rfl, ⟨trivial, trivial⟩⟩⟩, trivial⟩⟩⟩) rfl rfl (Aa Mz rfl) (ev (B5 (md := [.box (EL.el a0), .box Zba, .dead]) ⟨⟨rfl, ⟨rfl, ⟨trivial, trivial⟩⟩⟩, ⟨⟨rfl, ⟨rfl, ⟨trivial, trivial⟩⟩⟩, ⟨⟨rfl, ⟨rfl, ⟨trivial, trivial⟩⟩⟩, trivial⟩⟩⟩) rfl rfl (Ae Zk rfl (.lp _ _ _ rfl) rfl) (ev (B5 (md := [.box (EL.el a0), .box Zba, .dead]) ⟨⟨rfl, ⟨rfl, ⟨trivial, trivial⟩⟩⟩, ⟨⟨rfl, ⟨rfl, ⟨trivial, trivial⟩⟩⟩, ⟨⟨rfl, ⟨rfl, ⟨trivial, trivial⟩⟩⟩, trivial⟩⟩⟩) rfl rfl (Dp (f := Ay) Vl (fun _ => rfl) rfl rfl rfl rfl hu1) ?_))
 refine ev (B5 (md := [.box (EL.el a0), .box Zba, .dead]) ⟨⟨rfl, ⟨rfl, ⟨trivial, trivial⟩⟩⟩, ⟨⟨rfl, ⟨rfl, ⟨trivial, trivial⟩⟩⟩, ⟨⟨rfl, ⟨rfl, ⟨trivial, trivial⟩⟩⟩, trivial⟩⟩⟩) rfl rfl (Bm Sf rfl) (ev (B5 (md := [.box (EL.el a0), .box Zba, .dead]) ⟨⟨rfl, ⟨rfl, ⟨trivial, trivial⟩⟩⟩, ⟨⟨rfl, ⟨rfl, ⟨trivial, trivial⟩⟩⟩, ⟨⟨rfl, ⟨rfl, ⟨trivial, trivial⟩⟩⟩, trivial⟩⟩⟩) rfl rfl (Ae ti3 rfl (.cp _) rfl) (emv rfl rfl (fun _ => Ag rfl) ?_))
 refine ev (B5 (md := [.box (EL.el a0), .box Zba, .dead]) ⟨⟨rfl, ⟨rfl, ⟨trivial, trivial⟩⟩⟩, ⟨⟨rfl, ⟨rfl, ⟨trivial, trivial⟩⟩⟩, ⟨⟨rfl, ⟨rfl, ⟨trivial, trivial⟩⟩⟩, trivial⟩⟩⟩) rfl rfl (Aa Oe rfl) (ev (B5 (md := [.box (EL.el a0), .box Zba, .dead]) ⟨⟨rfl, ⟨rfl, ⟨trivial, trivial⟩⟩⟩, ⟨⟨rfl, ⟨rfl, ⟨trivial, trivial⟩⟩⟩, ⟨⟨rfl, ⟨rfl, ⟨trivial, trivial⟩⟩⟩, trivial⟩⟩⟩) rfl rfl (Ae ti3 rfl (.lp _ _ _ rfl) rfl) (emv rfl rfl (fun _ => Ag rfl) ?_))
 refine ev (B5 (md := [.box (EL.el a0), .box Zba, .dead]) ⟨⟨rfl, ⟨rfl, ⟨trivial, trivial⟩⟩⟩, ⟨⟨rfl, ⟨rfl, ⟨trivial, trivial⟩⟩⟩, ⟨⟨rfl, ⟨rfl, ⟨trivial, trivial⟩⟩⟩, trivial⟩⟩⟩) rfl rfl (Bj Aqs Ath (Ap rfl (Ap rfl (Ap rfl (Ap rfl Ba)))) (.cons _ _ _ _ _ _ _ rfl rfl (Nbl rfl) (.cons _ _ _ _ _ _ _ rfl rfl (Nbl rfl) (.cons _ _ _ _ _ _ _ rfl rfl (Nbl rfl) (.cons _ _ _ _ _ _ _ rfl rfl (Nbl rfl) (.nil _)))))) (ee (x := .s (.one (.lp 2 0))) 0 rfl rfl rfl rfl rfl (fun ζ => ?_) ?_)
 ·refine Nk 2 rfl Aqs rfl ?_
  exact Sk
 refine ee0 1 rfl rfl rfl rfl (fun ζ => ?_) ?_
 ·refine Ax Awj rfl rfl rfl rfl (Nbl rfl) (Bu [.box (EL.el a0), .box Zba, .box [Ii6 u1.Token, Ii6 a1, Ii6 a0.Attempt, Ii6 a2, Ii6 0, Ii6 0, Ii6 0, Ii6 0, Ii6 0, Ii6 0, Ii6 0, Ii6 0]] rfl ?_)
  exact Sk
 refine Y9 (Ah (Aq (Aq (Ab (sv rfl (Ag rfl) (sv rfl (Br rfl rfl) (Ar (G6 (A9) (fun b2 => [(3, .s (.one (.lp 0 0))), (6, .s (.one (.lp 1 0))), (7, .s (.one (.lp 2 0)))]) (fun b2 => [.box (EL.el a0), .box Zba, .box (EL.el b2)]) (fun b2 => Cu a0 b2 = some r) (fun _ _ => Be rfl) (fun _ _ => Az rfl) (fun _ _ => Nbl rfl) (fun b2 h => ?_) ?_))))))))
 ·unfold Cu at h
  refine Aq (Ab (sv rfl (Ao B8 rfl (.lp _ _ _ rfl) (Nbl rfl)) (sv rfl (Ao Auk rfl (.lp _ _ _ rfl) (Nbl rfl)) ?_)))
  obtain ⟨v3, hv3, h⟩ := Am h
  refine A3 rfl Asz (Ac rfl (Ac rfl Al)) (Aj rfl) (Ib hv3) (Ax E7 rfl rfl rfl rfl (Nbl rfl) (Bu [.box (EL.el v3), .box Zba, .box (EL.el b2)] rfl (Ar (Aq (Ab (sv rfl (Aa Ye rfl) (Ax sz4 rfl rfl rfl rfl (Nbl rfl) (Bu [.box (EL.el {v3 with Risk := false}), .box Zba, .box (EL.el b2)] rfl (Ar (Aq (Ab (sv rfl (Aa Hf rfl) (Ax sz3 rfl rfl rfl rfl (Nbl rfl) (Bu [.box (EL.el {v3 with Phase := 9, Risk := false}), .box Zba, .box (EL.el b2)] rfl (Ar (Aq (Ab (sv rfl (Ao B8 rfl (.lp _ _ _ rfl) (Nbl rfl)) (sv rfl (Aa Akw rfl) (sv rfl (Ae ti3 rfl (.lp _ _ _ rfl) rfl) (sv rfl (Bj Zf Aeq (Ap rfl (Ap rfl Ba)) (.cons _ _ _ _ _ _ _ rfl rfl (Nbl rfl) (.cons _ _ _ _ _ _ _ rfl rfl (Nbl rfl) (.nil _)))) ?_)))))))))))))))))))))
  obtain ⟨v4, hv4, h⟩ := Am h
  refine A3 rfl Anw (Ac rfl (Ac rfl Al)) (Nt rfl) (C9 hv4) (Ax E7 rfl rfl rfl rfl (Nbl rfl) (Bu [.box (EL.el {v3 with Phase := 9, Risk := false}), .box (EL.el v4), .box (EL.el b2)] rfl (Ar (Bk ?_))))
  obtain rfl := SJ h
  refine ⟨Or.inr rfl, _, _, _, (Ad (Bd.agg _ _ _ _ _ B8 rfl (.lp _ _ _ rfl) (Nbl rfl)) Af), (Aj rfl), ?_⟩
  rfl
 ·skip
  refine ccI h rfl (fun h => ?_) (fun h => ?_)
  ·refine Ab (sv rfl (Aa P4 rfl) (sv rfl (Aa O3 rfl) (sv rfl (Ao Aqu rfl (.lp _ _ _ rfl) (Nbl rfl)) (sv rfl (Aa Ake rfl) (Ax Avg rfl rfl rfl rfl (Nbl rfl) (Bu [.box (EL.el a0), .box Zba, .box (EL.el (A9.mk u1.Token a1 a0.Attempt a2 a0.St.Regs))] rfl (Ar ?_)))))))
   exact ⟨(A9.mk u1.Token a1 a0.Attempt a2 a0.St.Regs), _, h, ⟨rfl, rfl, rfl, trivial⟩, rfl⟩
  ·refine Bl (Ah ?_)
   exact ⟨(A9.mk u1.Token a1 a0.Attempt a2 (E5.mk 0 0 0 0 0 0 0 0)), _, h, ⟨rfl, rfl, rfl, trivial⟩, rfl⟩
def Dm (a0 : Dk) (a1 : Int) (a2 : BitVec 64) : Option (Int × Bool) :=
 (Gx a0 a1).bind fun v1 => if (!v1.2) then (some (0, false)) else (if (BitVec.ofInt 64 (wI ((wI (v1.1.tdiv 2)) + 1))) ≠ 0 then (some ((wI (v1.1 + (wI (((((a2 + (BitVec.ofInt 64 a1)) * (11400714819323198485#64)) ^^^ (((a2 + (BitVec.ofInt 64 a1)) * (11400714819323198485#64)) >>> (32 : Int).toNat)) % (BitVec.ofInt 64 (wI ((wI (v1.1.tdiv 2)) + 1)))).toNat : Int)))), true)) else none)
theorem Ta {a0 : Dk} {a1 : Int} {a2 : BitVec 64} {r : Int × Bool} (h : Dm a0 a1 a2 = some r) : Bp Tryz.prog 129 [.agg (EL.el a0), .one (Ii6 a1), .one (.i .u64 (a2.toNat : Int))] (· = .tup [.one (Ii6 r.1), .one (.b r.2)]) := by
 unfold Dm at h
 refine A2 Tryz.func129 rfl (nt := 38) rfl (Nbl rfl) ?_
 intro w0 S0
 refine Aq (Ab (Jj rfl rfl (sv rfl (Ak rfl) (sv rfl (Ak rfl) (Ar (Aq (Ab (sv rfl (Ao Akl rfl (.lp _ _ _ rfl) (Nbl rfl)) (sv rfl (Ag rfl) ?_)))))))))
 obtain ⟨v1, hv1, h⟩ := Am h
 refine A3 rfl Aqz (Ac rfl (Ac rfl Al)) (Aj rfl) (Lg hv1) (sv rfl (Gn rfl) (sv rfl (Bb rfl rfl) (sv rfl (Bb rfl rfl) (sv rfl (Ak rfl) (sv rfl (Ak rfl) (Ar (Aq (Aq (Ab (sv rfl (Ag rfl) (sv rfl (Ca rfl) (Ar (ccI h rfl (fun h => ?_) (fun h => ?_))))))))))))))
 ·refine Aq (Ab (sv rfl (Ak rfl) (sv rfl (Ak rfl) (Ar (Bk (Au ?_))))))
  obtain rfl := SJ h
  refine ⟨Or.inr rfl, _, _, _, (Ad (Bd.tmp _ _ rfl) (Ad (Bd.tmp _ _ rfl) Af)), (Aj rfl), ?_⟩
  rfl
 ·refine Bl (Ah (Aq (Ab (sv rfl (Ag rfl) (sv rfl (Ag rfl) (sv rfl (C4 rfl Tryz.underlying3 Tryz.underlying112 rfl) (sv rfl (Abm (a := a2) (b := (BitVec.ofInt 64 a1)) rfl rfl rfl rfl) (sv rfl (Ab0 (a := (a2 + (BitVec.ofInt 64 a1))) (b := 11400714819323198485#64) rfl rfl rfl rfl) (sv rfl (Ak rfl) (Ar (Aq (Ab (sv rfl (Ag rfl) (sv rfl (Ag rfl) ?_))))))))))))))
  refine sv rfl (Wm (a := ((a2 + (BitVec.ofInt 64 a1)) * (11400714819323198485#64))) rfl rfl rfl (by decide)) ?_
  refine sv rfl (Aby (a := ((a2 + (BitVec.ofInt 64 a1)) * (11400714819323198485#64))) (b := (((a2 + (BitVec.ofInt 64 a1)) * (11400714819323198485#64)) >>> (32 : Int).toNat)) rfl rfl rfl rfl) (sv rfl (Ak rfl) (Ar (Aq (Ab (sv rfl (Ag rfl) (sv rfl (Ag rfl) (sv rfl (Ag rfl) ?_)))))))
  refine sv rfl (Ajj rfl rfl (by decide)) ?_
  refine sv rfl (B0 rfl rfl) (sv rfl (C4 rfl Tryz.underlying3 Tryz.underlying112 rfl) ?_)
  obtain ⟨hz2, h⟩ := D9 h
  refine sv rfl (Ab7 (a := (((a2 + (BitVec.ofInt 64 a1)) * (11400714819323198485#64)) ^^^ (((a2 + (BitVec.ofInt 64 a1)) * (11400714819323198485#64)) >>> (32 : Int).toNat))) (b := (BitVec.ofInt 64 (wI ((wI (v1.1.tdiv 2)) + 1)))) rfl rfl rfl rfl hz2) (sv rfl (Fz Tryz.underlying112 Tryz.underlying3 rfl) (sv rfl (B0 rfl rfl) (sv rfl (Ak rfl) (sv rfl (Ak rfl) (Ar (Bk ?_))))))
  obtain rfl := SJ h
  refine ⟨Or.inr rfl, _, _, _, (Ad (Bd.tmp _ _ rfl) (Ad (Bd.tmp _ _ rfl) Af)), (Aj rfl), ?_⟩
  rfl
def Ci (a0 : Ai) : Option Ai :=
 if (decide (a0.Cfg.Attempts ≤ a0.Attempt)) then ((Bv a0 3 0).bind fun v1 => some v1) else ((Dm a0.Cfg.Plan (if (wI (a0.Cfg.Plan.Tries - 1)) < (wI ((wI (a0.Attempt + 1)) - 1)) then (wI (a0.Cfg.Plan.Tries - 1)) else (wI ((wI (a0.Attempt + 1)) - 1))) (BitVec.ofInt 64 a0.Cfg.Who)).bind fun v2 => some ({a0 with Phase := 8, Attempt := (wI (a0.Attempt + 1)), Left := v2.1, Risk := false}))
theorem Ei {a0 : Ai} {r : Ai} (h : Ci a0 = some r) : Bp Tryz.prog 117 [.agg (EL.el a0)] (· = .s (.agg (EL.el r))) := by
 unfold Ci at h
 refine A2 Tryz.func117 rfl (nt := 41) rfl (Nbl rfl) ?_
 intro w0 S0
 refine Aq (Ab (Jj rfl rfl (B1 rfl Nw (Ar (Aq (Aq (Ab (sv rfl (Aa Oe rfl) (sv rfl (Ae ti3 rfl (.lp _ _ _ rfl) rfl) (sv rfl (Aa Q8 rfl) (sv rfl (Aa Ahq rfl) (sv rfl (Ae ti3 rfl (.lp _ _ _ rfl) rfl) (sv rfl (Lp rfl rfl) (Ar (ccI h rfl (fun h => ?_) (fun h => ?_))))))))))))))))
 ·refine Aq (Ab (sv rfl (Ao B8 rfl (.lp _ _ _ rfl) (Nbl rfl)) ?_))
  obtain ⟨v1, hv1, h⟩ := Am h
  refine A3 rfl Aan (Ac rfl (Ac rfl (Ac rfl Al))) (Aj rfl) (Cc hv1) (Ax E7 rfl rfl rfl rfl (Nbl rfl) (Bu [.box (EL.el a0), .box (EL.el v1)] rfl (Ar (Bk (Au ?_)))))
  obtain rfl := SJ h
  refine ⟨Or.inr rfl, _, _, _, (Ad (Bd.agg _ _ _ _ _ B8 rfl (.lp _ _ _ rfl) (Nbl rfl)) Af), (Aj rfl), ?_⟩
  rfl
 ·refine Bl (Ah (Aq (Ab (sv rfl (Aa Oe rfl) (sv rfl (Ae ti3 rfl (.lp _ _ _ rfl) rfl) (sv rfl (B0 rfl rfl) (sv rfl (Aa Oe rfl) (Ax sz3 rfl rfl rfl rfl (Nbl rfl) (Bu [.box (EL.el {a0 with Attempt := wI (a0.Attempt + 1)}), .box Zba] rfl (Ar (Aq (Ab (sv rfl (Aa Ye rfl) (Ax sz4 rfl rfl rfl rfl (Nbl rfl) (Bu [.box (EL.el {a0 with Attempt := wI (a0.Attempt + 1), Risk := false}), .box Zba] rfl (Ar (Aq (Ab (sv rfl (Aa Hf rfl) (Ax sz3 rfl rfl rfl rfl (Nbl rfl) (Bu [.box (EL.el {a0 with Phase := 8, Attempt := wI (a0.Attempt + 1), Risk := false}), .box Zba] rfl (Ar (Aq (Ab (sv rfl (Aa Oe rfl) (sv rfl (Ae ti3 rfl (.lp _ _ _ rfl) rfl) (sv rfl (M1 rfl rfl) (sv rfl (Aa Q8 rfl) (sv rfl (Aa Wn rfl) (sv rfl (Aa Aam rfl) (sv rfl (Ae ti3 rfl (.lp _ _ _ rfl) rfl) (sv rfl (M1 rfl rfl) (sv rfl (Tb rfl rfl) (sv rfl (Ak rfl) (Ar (Aq (Ab (sv rfl (Aa Q8 rfl) (sv rfl (Aa Wn rfl) (sv rfl (Ao Akl rfl (.lp _ _ _ rfl) (Nbl rfl)) (sv rfl (Ag rfl) (sv rfl (Aa Q8 rfl) (sv rfl (Aa Ae7 rfl) (sv rfl (Ae ti3 rfl (.lp _ _ _ rfl) rfl) (sv rfl (C4 rfl Tryz.underlying3 Tryz.underlying112 rfl) ?_)))))))))))))))))))))))))))))))))))))))))))))
  obtain ⟨v2, hv2, h⟩ := Am h
  refine A3 rfl Arx (Ac rfl (Ac rfl (Ac rfl Al))) (Aj rfl) (Ta hv2) (sv rfl (Gn rfl) (sv rfl (Bb rfl rfl) (sv rfl (Bb rfl rfl) (sv rfl (Aa Q0 rfl) (Ax sz3 rfl rfl rfl rfl (Nbl rfl) (Bu [.box (EL.el {a0 with Phase := 8, Attempt := wI (a0.Attempt + 1), Left := v2.1, Risk := false}), .box Zba] rfl (Ar (Aq (Ab (sv rfl (Ao B8 rfl (.lp _ _ _ rfl) (Nbl rfl)) (Ax E7 rfl rfl rfl rfl (Nbl rfl) (Bu [.box (EL.el {a0 with Phase := 8, Attempt := wI (a0.Attempt + 1), Left := v2.1, Risk := false}), .box (EL.el {a0 with Phase := 8, Attempt := wI (a0.Attempt + 1), Left := v2.1, Risk := false})] rfl (Ar (Bk ?_))))))))))))))
  obtain rfl := SJ h
  refine ⟨Or.inr rfl, _, _, _, (Ad (Bd.agg _ _ _ _ _ B8 rfl (.lp _ _ _ rfl) (Nbl rfl)) Af), (Aj rfl), ?_⟩
  rfl
def De (a0 : Ai) (a1 : Int) : Option Ai :=
 if (decide (a1 = 7)) then ((D4 a0).bind fun v1 => some v1) else ((Ci a0).bind fun v2 => some v2)
theorem Km {a0 : Ai} {a1 : Int} {r : Ai} (h : De a0 a1 = some r) : Bp Tryz.prog 115 [.agg (EL.el a0), .one (Ii6 a1)] (· = .s (.agg (EL.el r))) := by
 unfold De at h
 refine A2 Tryz.func115 rfl (nt := 11) rfl (Nbl rfl) ?_
 intro w0 S0
 refine Aq (Ab (Jj rfl rfl (B1 rfl Nw (Ar (Aq (Aq (Ab (sv rfl (Ag rfl) (sv rfl (Br rfl rfl) (Ar (ccI h rfl (fun h => ?_) (fun h => ?_))))))))))))
 ·refine Aq (Ab (sv rfl (Ao B8 rfl (.lp _ _ _ rfl) (Nbl rfl)) ?_))
  obtain ⟨v1, hv1, h⟩ := Am h
  refine A3 rfl As6 (Ac rfl Al) (Aj rfl) (Js hv1) (Ax E7 rfl rfl rfl rfl (Nbl rfl) (Bu [.box (EL.el a0), .box (EL.el v1)] rfl (Ar (Bk (Au ?_)))))
  obtain rfl := SJ h
  refine ⟨Or.inr rfl, _, _, _, (Ad (Bd.agg _ _ _ _ _ B8 rfl (.lp _ _ _ rfl) (Nbl rfl)) Af), (Aj rfl), ?_⟩
  rfl
 ·refine Bl (Ah (Aq (Ab (sv rfl (Ao B8 rfl (.lp _ _ _ rfl) (Nbl rfl)) ?_))))
  obtain ⟨v2, hv2, h⟩ := Am h
  refine A3 rfl Agk (Ac rfl Al) (Aj rfl) (Ei hv2) (Ax E7 rfl rfl rfl rfl (Nbl rfl) (Bu [.box (EL.el a0), .box (EL.el v2)] rfl (Ar (Bk ?_))))
  obtain rfl := SJ h
  refine ⟨Or.inr rfl, _, _, _, (Ad (Bd.agg _ _ _ _ _ B8 rfl (.lp _ _ _ rfl) (Nbl rfl)) Af), (Aj rfl), ?_⟩
  rfl
def Ka (a0 : B7) : Option Bool :=
 (Gk a0.What).bind fun v1 => some (!((v1.R0 == false) && ((v1.R1 == false) && ((v1.R2 == false) && true))))
theorem Qb {a0 : B7} {r : Bool} (h : Ka a0 = some r) : Bp Tryz.prog 130 [.agg (EL.el a0)] (· = .s (.one (.b r))) := by
 unfold Ka at h
 refine A2 Tryz.func130 rfl (nt := 8) rfl (Nbl rfl) ?_
 intro w0 S0
 refine Aq (Ab (Jj rfl rfl (sv rfl (Ak rfl) (Ar (Aq (Ab (sv rfl (Aa V5 rfl) (sv rfl (Ae ti3 rfl (.lp _ _ _ rfl) rfl) ?_))))))))
 obtain ⟨v1, hv1, h⟩ := Am h
 refine A3 rfl Aph (Ac rfl Al) (Aj rfl) (On hv1) (sv rfl (G8 Zh Acu Ba (.nil _)) (sv rfl (Ac6 Aoe rfl rfl rfl rfl rfl) (sv rfl (Ak rfl) (Ar (Bk ?_)))))
 obtain rfl := SJ h
 refine ⟨Or.inr rfl, _, _, _, (Ad (Bd.tmp _ _ rfl) Af), (Aj rfl), ?_⟩
 rfl
def N3 (a0 : Int) : Option (List UInt8) :=
 (Eg ([] : List UInt8) (BitVec.ofInt 64 a0) 4).bind fun v1 => some v1
theorem Wi {a0 : Int} {r : (List UInt8)} (h : N3 a0 = some r) : Bp Tryz.prog 140 [.one (Ii6 a0)] (· = .s (.one (.sl r.length (r.flatMap eU8)))) := by
 unfold N3 at h
 refine A2 Tryz.func140 rfl (nt := 6) rfl (Nbl rfl) ?_
 intro w0 S0
 refine Aq (Ab (sv rfl (Ak rfl) (Ar (Aq (Ab (sv rfl (Ag rfl) (sv rfl (C4 rfl Tryz.underlying3 Tryz.underlying112 rfl) ?_)))))))
 obtain ⟨v1, hv1, h⟩ := Am h
 refine A3 rfl Aa9 (Ac rfl (Ac rfl (Ac rfl Al))) (Nt rfl) (En hv1) (sv rfl (Ak rfl) (Ar (Bk ?_)))
 obtain rfl := SJ h
 refine ⟨Or.inr rfl, _, _, _, (Ad (Bd.tmp _ _ rfl) Af), (Aj rfl), ?_⟩
 rfl
def Ee (a0 : B7) (a1 : A7) : Option B6 :=
 if (decide (a0.What = 1)) then (some (B6.mk 3 0 0 0 false a0.Key ([] : List UInt8) Bt)) else (if (decide (a0.What = 2)) then (if 0 ≤ a0.B ∧ a0.B < ((8 : Nat) : Int) then ((idx [a1.Regs.R0, a1.Regs.R1, a1.Regs.R2, a1.Regs.R3, a1.Regs.R4, a1.Regs.R5, a1.Regs.R6, a1.Regs.R7] a0.B).bind fun u2 => (N3 u2).bind fun v3 => some (B6.mk 4 0 0 0 false a0.Key v3 Bt)) else none) else (if (decide (a0.What = 3)) then (some (B6.mk 5 0 0 0 false a0.Key ([] : List UInt8) Bt)) else (some (B6.mk 6 0 0 0 false ([] : List UInt8) ([] : List UInt8) a0.Rng))))
theorem S6 {a0 : B7} {a1 : A7} {r : B6} (h : Ee a0 a1 = some r) : Bp Tryz.prog 135 [.agg (EL.el a0), .agg (EL.el a1)] (· = .s (.agg (EL.el r))) := by
 unfold Ee at h
 refine A2 Tryz.func135 rfl (nt := 31) rfl (Nbl rfl) ?_
 intro w0 S0
 refine Aq (Ab (Jj rfl rfl (Jj rfl rfl (B1 rfl Zf (Ar (Aq (Aq (Ab (sv rfl (Aa V5 rfl) (sv rfl (Ae ti3 rfl (.lp _ _ _ rfl) rfl) (Ar (B4 (Aq (Ab (sv rfl (Br rfl rfl) (sv rfl (Ak rfl) (Ar (ccI h rfl (fun h => ?_) (fun h => ?_)))))))))))))))))))
 ·refine Aq (Ab (sv rfl (Aa Aa2 rfl) (sv rfl (Ae L5 rfl (.lp _ _ _ rfl) rfl) (sv rfl (Bj Zf Aeq (Ap rfl (Ap rfl Ba)) (.cons _ _ _ _ _ _ _ rfl rfl (Nbl rfl) (.cons _ _ _ _ _ _ _ rfl rfl (Nbl rfl) (.nil _)))) (Ax Aie rfl rfl rfl rfl (Nbl rfl) (Bu [.box (EL.el a0), .box (EL.el a1), .box [Ii6 3, Ii6 0, Ii6 0, Ii6 0, .b false, .sl a0.Key.length (a0.Key.flatMap eU8), Znl, Znl, Znl, .b false]] rfl (Ar (Bk (Bc (Au ?_))))))))))
  obtain rfl := SJ h
  refine ⟨Or.inr rfl, _, _, _, (Ad (Bd.agg _ _ _ _ _ Aex rfl (.lp _ _ _ rfl) (Nbl rfl)) Af), (Nt rfl), ?_⟩
  rfl
 ·refine Aq (Ab (sv rfl (Br rfl rfl) (sv rfl (Ak rfl) (Ar (ccI h rfl (fun h => ?_) (fun h => ?_))))))
  ·refine Aq ?_
   obtain ⟨hj1, h⟩ := D9 h
   obtain ⟨u2, hu2, h⟩ := Am h
   obtain ⟨v3, hv3, h⟩ := Am h
   refine Ke [9] [0, 1, 0, 4, 0, 28, 60, 124, 255, 511] [[.box (EL.el a0), .box (EL.el a1), .box Zbc], [.box (EL.el a0), .box (EL.el a1), .box [Ii6 4, Ii6 0, Ii6 0, Ii6 0, .b false, .sl a0.Key.length (a0.Key.flatMap eU8), .sl v3.length (v3.flatMap eU8), Znl, Znl, .b false]]] (by kernel_rfl) Lm (by kernel_rfl) (by decide) rfl rfl rfl rfl ?_
   refine ev (Bi 0 rfl rfl) rfl rfl (Aa Aa2 rfl) (ev (Bi 0 rfl rfl) rfl rfl (Ae L5 rfl (.lp _ _ _ rfl) rfl) (ev (Bi 0 rfl rfl) rfl rfl (Aa Xv rfl) (ev (Bi 0 rfl rfl) rfl rfl (Ae ti3 rfl (.lp _ _ _ rfl) rfl) (ev (Bi 0 rfl rfl) rfl rfl (Aa O3 rfl) (ev (Bi 0 rfl rfl) rfl rfl (L6 Ae0 rfl rfl hj1) (ev (Bi 0 rfl rfl) rfl rfl (Vv (fun x => Ii6 x) [.b a1.Stopped] ti3 rfl rfl rfl hu2) ?_))))))
   refine ed (Bi 0 rfl rfl) rfl rfl (D3 Ar7 (Ac rfl Al) rfl (Wi hv3)) (ev (Bi 0 rfl rfl) rfl rfl (Bj Zf Aeq (Ap rfl (Ap rfl (Ap rfl Ba))) (.cons _ _ _ _ _ _ _ rfl rfl (Nbl rfl) (.cons _ _ _ _ _ _ _ rfl rfl (Nbl rfl) (.cons _ _ _ _ _ _ _ rfl rfl (Nbl rfl) (.nil _))))) (ee0 0 rfl rfl rfl rfl (fun ζ => ?_) ?_))
   ·refine Ax Aie rfl rfl rfl rfl (Nbl rfl) (Bu [.box (EL.el a0), .box (EL.el a1), .box [Ii6 4, Ii6 0, Ii6 0, Ii6 0, .b false, .sl a0.Key.length (a0.Key.flatMap eU8), .sl v3.length (v3.flatMap eU8), Znl, Znl, .b false]] rfl ?_)
    exact Sk
   refine Y9 (Ah (Bk (Bc (Au ?_))))
   obtain rfl := SJ h
   refine ⟨Or.inr rfl, _, _, _, (Ad (Bd.agg _ _ _ _ _ Aex rfl (.lp _ _ _ rfl) (Nbl rfl)) Af), (Nt rfl), ?_⟩
   rfl
  ·refine Aq (Ab (sv rfl (Br rfl rfl) (sv rfl (Ak rfl) (Ar (ccI h rfl (fun h => ?_) (fun h => ?_))))))
   ·refine Aq (Ab (sv rfl (Aa Aa2 rfl) (sv rfl (Ae L5 rfl (.lp _ _ _ rfl) rfl) (sv rfl (Bj Zf Aeq (Ap rfl (Ap rfl Ba)) (.cons _ _ _ _ _ _ _ rfl rfl (Nbl rfl) (.cons _ _ _ _ _ _ _ rfl rfl (Nbl rfl) (.nil _)))) (Ax Aie rfl rfl rfl rfl (Nbl rfl) (Bu [.box (EL.el a0), .box (EL.el a1), .box [Ii6 5, Ii6 0, Ii6 0, Ii6 0, .b false, .sl a0.Key.length (a0.Key.flatMap eU8), Znl, Znl, Znl, .b false]] rfl (Ar (Bk (Bc (Au ?_))))))))))
    obtain rfl := SJ h
    refine ⟨Or.inr rfl, _, _, _, (Ad (Bd.agg _ _ _ _ _ Aex rfl (.lp _ _ _ rfl) (Nbl rfl)) Af), (Nt rfl), ?_⟩
    rfl
   ·refine Bl (A1 (Ah (Aq (Ab (sv rfl (Aa Ah4 rfl) (sv rfl (Ao Ain rfl (.lp _ _ _ rfl) (Nbl rfl)) (sv rfl (Bj Zf Aeq (Ap rfl (Ap rfl Ba)) (.cons _ _ _ _ _ _ _ rfl rfl (Nbl rfl) (.cons _ _ _ _ _ _ _ rfl rfl (Nbl rfl) (.nil _)))) (Ax Aie rfl rfl rfl rfl (Nbl rfl) (Bu [.box (EL.el a0), .box (EL.el a1), .box [Ii6 6, Ii6 0, Ii6 0, Ii6 0, .b false, Znl, Znl, .sl a0.Rng.Lo.length (a0.Rng.Lo.flatMap eU8), .sl a0.Rng.Hi.length (a0.Rng.Hi.flatMap eU8), .b a0.Rng.Open]] rfl (Ar (Bk ?_)))))))))))
    obtain rfl := SJ h
    refine ⟨Or.inr rfl, _, _, _, (Ad (Bd.agg _ _ _ _ _ Aex rfl (.lp _ _ _ rfl) (Nbl rfl)) Af), (Nt rfl), ?_⟩
    rfl
def Ic (a0 : Int) : Option Int :=
 some (wI ((BitVec.ofInt 32 a0).toNat : Int))
theorem O1 {a0 : Int} {r : Int} (h : Ic a0 = some r) : Bp Tryz.prog 138 [.one (Ii6 a0)] (· = .s (.one (Ii6 r))) := by
 unfold Ic at h
 refine A2 Tryz.func138 rfl (nt := 6) rfl (Nbl rfl) ?_
 intro w0 S0
 refine Aq (Ab (sv rfl (Ak rfl) (Ar (Aq (Ab (sv rfl (Ag rfl) (sv rfl (C4 rfl Tryz.underlying3 Tryz.underlying117 rfl) (sv rfl (Fz Tryz.underlying117 Tryz.underlying3 rfl) (sv rfl (Ak rfl) (Ar (Bk ?_)))))))))))
 obtain rfl := SJ h
 refine ⟨Or.inr rfl, _, _, _, (Ad (Bd.tmp _ _ rfl) Af), (Aj rfl), ?_⟩
 rfl
def Ky (a0 : B7) (a1 : A7) : Option A7 :=
 if (decide (a0.What = 5)) then (if 0 ≤ a0.A ∧ a0.A < ((8 : Nat) : Int) then ((Ie (E5.mk a1.Regs.R0 a1.Regs.R1 a1.Regs.R2 a1.Regs.R3 a1.Regs.R4 a1.Regs.R5 a1.Regs.R6 a1.Regs.R7) a0.A a0.N).bind fun q2 => some (A7.mk (wI (a1.PC + 1)) q2 a1.Stopped)) else none) else (if (decide (a0.What = 6)) then (if 0 ≤ a0.A ∧ a0.A < ((8 : Nat) : Int) then ((idx [a1.Regs.R0, a1.Regs.R1, a1.Regs.R2, a1.Regs.R3, a1.Regs.R4, a1.Regs.R5, a1.Regs.R6, a1.Regs.R7] a0.A).bind fun u4 => if 0 ≤ a0.B ∧ a0.B < ((8 : Nat) : Int) then ((idx [a1.Regs.R0, a1.Regs.R1, a1.Regs.R2, a1.Regs.R3, a1.Regs.R4, a1.Regs.R5, a1.Regs.R6, a1.Regs.R7] a0.B).bind fun u6 => (Ic (wI ((wI (u4 + u6)) + a0.N))).bind fun v7 => if 0 ≤ a0.A ∧ a0.A < ((8 : Nat) : Int) then ((Ie (E5.mk a1.Regs.R0 a1.Regs.R1 a1.Regs.R2 a1.Regs.R3 a1.Regs.R4 a1.Regs.R5 a1.Regs.R6 a1.Regs.R7) a0.A v7).bind fun q9 => some (A7.mk (wI (a1.PC + 1)) q9 a1.Stopped)) else none) else none) else none) else (if (decide (a0.What = 7)) then (if 0 ≤ a0.A ∧ a0.A < ((8 : Nat) : Int) then ((idx [a1.Regs.R0, a1.Regs.R1, a1.Regs.R2, a1.Regs.R3, a1.Regs.R4, a1.Regs.R5, a1.Regs.R6, a1.Regs.R7] a0.A).bind fun u11 => if (decide (u11 = 0)) then (some (A7.mk (wI ((wI (a1.PC + 1)) + a0.N)) a1.Regs a1.Stopped)) else (some (A7.mk (wI (a1.PC + 1)) a1.Regs a1.Stopped))) else none) else (if (decide (a0.What = 8)) then (some (A7.mk (wI (a1.PC + 1)) a1.Regs true)) else (some (A7.mk (wI (a1.PC + 1)) a1.Regs a1.Stopped)))))
theorem Uq {a0 : B7} {a1 : A7} {r : A7} (h : Ky a0 a1 = some r) : Bp Tryz.prog 136 [.agg (EL.el a0), .agg (EL.el a1)] (· = .s (.agg (EL.el r))) := by
 unfold Ky at h
 refine A2 Tryz.func136 rfl (nt := 58) rfl (Nbl rfl) ?_
 intro w0 S0
 refine Aq (Ab (Jj rfl rfl (Jj rfl rfl (B1 rfl Agp (Ar (Aq (Ab (sv rfl (Aa Ov rfl) (sv rfl (Ae ti3 rfl (.lp _ _ _ rfl) rfl) (sv rfl (B0 rfl rfl) (sv rfl (Aa Ov rfl) (Ax sz3 rfl rfl rfl rfl (Nbl rfl) (Bu [.box (EL.el a0), .box (EL.el {a1 with PC := wI (a1.PC + 1)}), .box Zbb] rfl (Ar (Aq (Aq (Ab (sv rfl (Aa V5 rfl) (sv rfl (Ae ti3 rfl (.lp _ _ _ rfl) rfl) (Ar (B4 (Aq (Ab (sv rfl (Br rfl rfl) (sv rfl (Ak rfl) (Ar (ccI h rfl (fun h => ?_) (fun h => ?_))))))))))))))))))))))))))))
 ·refine Ab (sv rfl (Aa U4 rfl) (sv rfl (Ae ti3 rfl (.lp _ _ _ rfl) rfl) (sv rfl (Aa Aav rfl) (sv rfl (Ae ti3 rfl (.lp _ _ _ rfl) rfl) (sv rfl (Aa O3 rfl) ?_)))))
  obtain ⟨hj1, h⟩ := D9 h
  refine sv rfl (L6 Ae0 rfl rfl hj1) ?_
  obtain ⟨q2, hq2, h⟩ := Am h
  refine Ax sz3 rfl rfl rfl rfl (Aa0 hj1 (Nbl rfl)) (Bu [.box (EL.el a0), .box [Ii6 (wI (a1.PC + 1)), Ii6 q2.R0, Ii6 q2.R1, Ii6 q2.R2, Ii6 q2.R3, Ii6 q2.R4, Ii6 q2.R5, Ii6 q2.R6, Ii6 q2.R7, .b a1.Stopped], .box Zbb] (Rd (Akk hq2 [Ii6 (wI (a1.PC + 1))] [.b a1.Stopped])) (Lz (A1 (Ah (Aq (Ab (sv rfl (Ao Si rfl (.lp _ _ _ rfl) (Nbl rfl)) (Ax Xf rfl rfl rfl rfl (Nbl rfl) (Bu [.box (EL.el a0), .box [Ii6 (wI (a1.PC + 1)), Ii6 q2.R0, Ii6 q2.R1, Ii6 q2.R2, Ii6 q2.R3, Ii6 q2.R4, Ii6 q2.R5, Ii6 q2.R6, Ii6 q2.R7, .b a1.Stopped], .box [Ii6 (wI (a1.PC + 1)), Ii6 q2.R0, Ii6 q2.R1, Ii6 q2.R2, Ii6 q2.R3, Ii6 q2.R4, Ii6 q2.R5, Ii6 q2.R6, Ii6 q2.R7, .b a1.Stopped]] rfl (Ar (Bk ?_)))))))))))
  obtain rfl := SJ h
  refine ⟨Or.inr rfl, _, _, _, (Ad (Bd.agg _ _ _ _ _ Si rfl (.lp _ _ _ rfl) (Nbl rfl)) Af), (Aj rfl), ?_⟩
  rfl
 ·refine Aq (Ab (sv rfl (Br rfl rfl) (sv rfl (Ak rfl) (Ar (ccI h rfl (fun h => ?_) (fun h => ?_))))))
  ·obtain ⟨hj3, h⟩ := D9 h
   obtain ⟨u4, hu4, h⟩ := Am h
   obtain ⟨hj5, h⟩ := D9 h
   obtain ⟨u6, hu6, h⟩ := Am h
   obtain ⟨v7, hv7, h⟩ := Am h
   obtain ⟨hj8, h⟩ := D9 h
   obtain ⟨q9, hq9, h⟩ := Am h
   refine Ke [19] [0, 1, 0, 4, 0, 28, 60, 0, 128, 0, 896, 1920, 4092, 0, 8192, 32764, 65532, 0, 262143, 524287] [[.box (EL.el a0), .box (EL.el {a1 with PC := wI (a1.PC + 1)}), .box Zbb], [.box (EL.el a0), .box [Ii6 (wI (a1.PC + 1)), Ii6 q9.R0, Ii6 q9.R1, Ii6 q9.R2, Ii6 q9.R3, Ii6 q9.R4, Ii6 q9.R5, Ii6 q9.R6, Ii6 q9.R7, .b a1.Stopped], .box Zbb]] (by kernel_rfl) Lm (by kernel_rfl) (by decide) rfl rfl rfl rfl ?_
   refine ev (Bi 0 rfl rfl) rfl rfl (Aa U4 rfl) (ev (Bi 0 rfl rfl) rfl rfl (Ae ti3 rfl (.lp _ _ _ rfl) rfl) (ev (Bi 0 rfl rfl) rfl rfl (Aa U4 rfl) (ev (Bi 0 rfl rfl) rfl rfl (Ae ti3 rfl (.lp _ _ _ rfl) rfl) (ev (Bi 0 rfl rfl) rfl rfl (Aa O3 rfl) (ev (Bi 0 rfl rfl) rfl rfl (L6 Ae0 rfl rfl hj3) (ev (Bi 0 rfl rfl) rfl rfl (Vv (fun x => Ii6 x) [.b a1.Stopped] ti3 rfl rfl rfl hu4) ?_))))))
   refine ev (Bi 0 rfl rfl) rfl rfl (Aa Xv rfl) (ev (Bi 0 rfl rfl) rfl rfl (Ae ti3 rfl (.lp _ _ _ rfl) rfl) (ev (Bi 0 rfl rfl) rfl rfl (Aa O3 rfl) (ev (Bi 0 rfl rfl) rfl rfl (L6 Ae0 rfl rfl hj5) (ev (Bi 0 rfl rfl) rfl rfl (Vv (fun x => Ii6 x) [.b a1.Stopped] ti3 rfl rfl rfl hu6) ?_))))
   refine ev (Bi 0 rfl rfl) rfl rfl (B0 rfl rfl) (ev (Bi 0 rfl rfl) rfl rfl (Aa Aav rfl) (ev (Bi 0 rfl rfl) rfl rfl (Ae ti3 rfl (.lp _ _ _ rfl) rfl) (ev (Bi 0 rfl rfl) rfl rfl (B0 rfl rfl) (ed (Bi 0 rfl rfl) rfl rfl (D3 Apa (Ac rfl Al) rfl (O1 hv7)) (ev (Bi 0 rfl rfl) rfl rfl (Aa O3 rfl) (ev (Bi 0 rfl rfl) rfl rfl (L6 Ae0 rfl rfl hj8) (ee0 0 rfl rfl rfl rfl (fun ζ => ?_) ?_)))))))
   ·refine Ax sz3 rfl rfl rfl rfl (Aa0 hj8 (Nbl rfl)) (Bu [.box (EL.el a0), .box [Ii6 (wI (a1.PC + 1)), Ii6 q9.R0, Ii6 q9.R1, Ii6 q9.R2, Ii6 q9.R3, Ii6 q9.R4, Ii6 q9.R5, Ii6 q9.R6, Ii6 q9.R7, .b a1.Stopped], .box Zbb] (Rd (Akk hq9 [Ii6 (wI (a1.PC + 1))] [.b a1.Stopped])) ?_)
    exact Sk
   refine Y9 (A1 (Ah (Aq (Ab (sv rfl (Ao Si rfl (.lp _ _ _ rfl) (Nbl rfl)) (Ax Xf rfl rfl rfl rfl (Nbl rfl) (Bu [.box (EL.el a0), .box [Ii6 (wI (a1.PC + 1)), Ii6 q9.R0, Ii6 q9.R1, Ii6 q9.R2, Ii6 q9.R3, Ii6 q9.R4, Ii6 q9.R5, Ii6 q9.R6, Ii6 q9.R7, .b a1.Stopped], .box [Ii6 (wI (a1.PC + 1)), Ii6 q9.R0, Ii6 q9.R1, Ii6 q9.R2, Ii6 q9.R3, Ii6 q9.R4, Ii6 q9.R5, Ii6 q9.R6, Ii6 q9.R7, .b a1.Stopped]] rfl (Ar (Bk ?_)))))))))
   obtain rfl := SJ h
   refine ⟨Or.inr rfl, _, _, _, (Ad (Bd.agg _ _ _ _ _ Si rfl (.lp _ _ _ rfl) (Nbl rfl)) Af), (Aj rfl), ?_⟩
   rfl
  ·refine Aq (Ab (sv rfl (Br rfl rfl) (sv rfl (Ak rfl) (Ar (ccI h rfl (fun h => ?_) (fun h => ?_))))))
   ·refine Aq (Ab (sv rfl (Aa U4 rfl) (sv rfl (Ae ti3 rfl (.lp _ _ _ rfl) rfl) (sv rfl (Aa O3 rfl) ?_))))
    obtain ⟨hj10, h⟩ := D9 h
    refine sv rfl (L6 Ae0 rfl rfl hj10) ?_
    obtain ⟨u11, hu11, h⟩ := Am h
    refine sv rfl (Vv (fun x => Ii6 x) [.b a1.Stopped] ti3 rfl rfl rfl hu11) ?_
    refine sv rfl (Br rfl rfl) (Ar (ccI h rfl (fun h => ?_) (fun h => ?_)))
    ·refine Ab (sv rfl (Aa Ov rfl) (sv rfl (Ae ti3 rfl (.lp _ _ _ rfl) rfl) (sv rfl (Aa Aav rfl) (sv rfl (Ae ti3 rfl (.lp _ _ _ rfl) rfl) (sv rfl (B0 rfl rfl) (sv rfl (Aa Ov rfl) (Ax sz3 rfl rfl rfl rfl (Nbl rfl) (Bu [.box (EL.el a0), .box (EL.el {a1 with PC := wI ((wI (a1.PC + 1)) + a0.N)}), .box Zbb] rfl (Lz (A1 (Ah (Aq (Ab (sv rfl (Ao Si rfl (.lp _ _ _ rfl) (Nbl rfl)) (Ax Xf rfl rfl rfl rfl (Nbl rfl) (Bu [.box (EL.el a0), .box (EL.el {a1 with PC := wI ((wI (a1.PC + 1)) + a0.N)}), .box (EL.el {a1 with PC := wI ((wI (a1.PC + 1)) + a0.N)})] rfl (Ar (Bk ?_))))))))))))))))))
     obtain rfl := SJ h
     refine ⟨Or.inr rfl, _, _, _, (Ad (Bd.agg _ _ _ _ _ Si rfl (.lp _ _ _ rfl) (Nbl rfl)) Af), (Aj rfl), ?_⟩
     rfl
    ·refine Bl (A1 (Ah (Aq (Ab (sv rfl (Ao Si rfl (.lp _ _ _ rfl) (Nbl rfl)) (Ax Xf rfl rfl rfl rfl (Nbl rfl) (Bu [.box (EL.el a0), .box (EL.el {a1 with PC := wI (a1.PC + 1)}), .box (EL.el {a1 with PC := wI (a1.PC + 1)})] rfl (Ar (Bk ?_)))))))))
     obtain rfl := SJ h
     refine ⟨Or.inr rfl, _, _, _, (Ad (Bd.agg _ _ _ _ _ Si rfl (.lp _ _ _ rfl) (Nbl rfl)) Af), (Aj rfl), ?_⟩
     rfl
   ·refine Aq (Ab (sv rfl (Br rfl rfl) (sv rfl (Ak rfl) (Ar (ccI h rfl (fun h => ?_) (fun h => ?_))))))
    ·refine Ab (sv rfl (Aa W5 rfl) (Ax sz4 rfl rfl rfl rfl (Nbl rfl) (Bu [.box (EL.el a0), .box (EL.el (A7.mk (wI (a1.PC + 1)) a1.Regs true)), .box Zbb] rfl (Lz (A1 (Ah (Aq (Ab (sv rfl (Ao Si rfl (.lp _ _ _ rfl) (Nbl rfl)) (Ax Xf rfl rfl rfl rfl (Nbl rfl) (Bu [.box (EL.el a0), .box (EL.el (A7.mk (wI (a1.PC + 1)) a1.Regs true)), .box (EL.el (A7.mk (wI (a1.PC + 1)) a1.Regs true))] rfl (Ar (Bk ?_)))))))))))))
     obtain rfl := SJ h
     refine ⟨Or.inr rfl, _, _, _, (Ad (Bd.agg _ _ _ _ _ Si rfl (.lp _ _ _ rfl) (Nbl rfl)) Af), (Aj rfl), ?_⟩
     rfl
    ·refine Bl (A1 (Ah (Aq (Ab (sv rfl (Ao Si rfl (.lp _ _ _ rfl) (Nbl rfl)) (Ax Xf rfl rfl rfl rfl (Nbl rfl) (Bu [.box (EL.el a0), .box (EL.el {a1 with PC := wI (a1.PC + 1)}), .box (EL.el {a1 with PC := wI (a1.PC + 1)})] rfl (Ar (Bk ?_)))))))))
     obtain rfl := SJ h
     refine ⟨Or.inr rfl, _, _, _, (Ad (Bd.agg _ _ _ _ _ Si rfl (.lp _ _ _ rfl) (Nbl rfl)) Af), (Aj rfl), ?_⟩
     rfl
def Na (a0 : Cp) (b2 : A7) : Option (B6 × A7 × Bool) :=
 some (N1, (A7.mk (if (a0.Ops.length : Int) < b2.PC then (a0.Ops.length : Int) else b2.PC) b2.Regs b2.Stopped), false)
def K8 (a0 : Cp) (s3 : A7) (b4 : Unit) : Option (LR (A7) (A7) (B6 × A7 × Bool)) :=
 (idx a0.Ops s3.PC).bind fun u5 => (Ka u5).bind fun v6 => if v6 then ((Ee u5 s3).bind fun v7 => some (.ret (v7, s3, true))) else ((Ky u5 s3).bind fun v8 => some (.cont v8))
def Gl (a0 : Cp) (s3 : A7) : Option (LR (A7) (A7) (B6 × A7 × Bool)) :=
 if (decide (s3.PC < (a0.Ops.length : Int))) then (if (!s3.Stopped) then (K8 a0 s3 ()) else (some (.brk s3))) else (some (.brk s3))
def K4 (a0 : Cp) (a1 : A7) (b1 : Unit) : Option (B6 × A7 × Bool) :=
 (Pt (Gl a0) fuel a1).bind fun x => match x with | .inl r => some r | .inr e9 => Na a0 e9
def Fq (a0 : Cp) (a1 : A7) : Option (B6 × A7 × Bool) :=
 (Dz a0).bind fun v10 => if (!v10) then (some (N1, a1, false)) else (if (decide (a1.PC < 0)) then (some (N1, a1, false)) else (K4 a0 a1 ()))
theorem Vp {a0 : Cp} {a1 : A7} {r : B6 × A7 × Bool} (h : Fq a0 a1 = some r) : Bp Tryz.prog 127 [.agg (EL.el a0), .agg (EL.el a1)] (· = .tup [.agg (EL.el r.1), .agg (EL.el r.2.1), .one (.b r.2.2)]) := by
 unfold Fq at h
 refine A2 Tryz.func127 rfl (nt := 53) rfl (Nbl rfl) ?_
 intro w0 S0
 refine Aq (Ab (Jj rfl rfl (Jj rfl rfl (B1 rfl Zf (B1 rfl Agp (sv rfl (Ak rfl) (Ar (Aq (Aq (Lh (Unit) (fun b1 => [(2, .s (.one (.lp 0 0))), (3, .s (.one (.lp 1 0))), (4, .s (.one (.lp 2 0))), (5, .s (.one (.lp 3 0)))]) (fun b1 => [.box (EL.el a0), .box (EL.el a1), .box Zbc, .box Zbb]) (fun b1 => K4 a0 a1 b1 = some r) (fun _ _ => Be rfl) (fun _ _ => Az rfl) (fun _ _ => Nbl rfl) (fun b1 h => ?_) ?_))))))))))
 ·unfold K4 at h
  refine Aq (G6 (A7) (fun b2 => [(2, .s (.one (.lp 0 0))), (3, .s (.one (.lp 1 0))), (4, .s (.one (.lp 2 0))), (5, .s (.one (.lp 3 0)))]) (fun b2 => [.box (EL.el a0), .box (EL.el b2), .box Zbc, .box Zbb]) (fun b2 => Na a0 b2 = some r) (fun _ _ => Be rfl) (fun _ _ => Az rfl) (fun _ _ => Nbl rfl) (fun b2 h => ?_) ?_)
  ·unfold Na at h
   refine Aq (Ab (sv rfl (Aa Ov rfl) (sv rfl (Ae ti3 rfl (.lp _ _ _ rfl) rfl) (sv rfl (Aa Sl rfl) (sv rfl (Ae Aim rfl (.lp _ _ _ rfl) rfl) (sv rfl (A0 Aj2 rfl) (sv rfl (Tb rfl rfl) (sv rfl (Aa Ov rfl) (Ax sz3 rfl rfl rfl rfl (Nbl rfl) (Bu [.box (EL.el a0), .box (EL.el {b2 with PC := if (a0.Ops.length : Int) < b2.PC then (a0.Ops.length : Int) else b2.PC}), .box Zbc, .box Zbb] rfl (Ar (Aq ?_))))))))))))
   refine Ke [2, 3] [0, 0, 1, 7, 15] [[.box (EL.el a0), .box (EL.el {b2 with PC := if (a0.Ops.length : Int) < b2.PC then (a0.Ops.length : Int) else b2.PC}), .box Zbc, .box Zbb], [.box (EL.el a0), .box (EL.el {b2 with PC := if (a0.Ops.length : Int) < b2.PC then (a0.Ops.length : Int) else b2.PC}), .box Zbc, .box Zbb], [.box (EL.el a0), .box (EL.el {b2 with PC := if (a0.Ops.length : Int) < b2.PC then (a0.Ops.length : Int) else b2.PC}), .box Zbc, .box (EL.el {b2 with PC := if (a0.Ops.length : Int) < b2.PC then (a0.Ops.length : Int) else b2.PC})]] (by kernel_rfl) Lm (by kernel_rfl) (by decide) rfl rfl rfl rfl ?_
   refine ev (Bi 0 rfl rfl) rfl rfl (Bj Zf Aeq Ba (.nil _)) (ev (B5 (md := [.box (EL.el a0), .box (EL.el {b2 with PC := if (a0.Ops.length : Int) < b2.PC then (a0.Ops.length : Int) else b2.PC}), .box Zbc, .dead]) ⟨⟨rfl, ⟨rfl, ⟨rfl, ⟨trivial, trivial⟩⟩⟩⟩, ⟨⟨rfl, ⟨rfl, ⟨rfl, ⟨trivial, trivial⟩⟩⟩⟩, ⟨⟨rfl, ⟨rfl, ⟨rfl, ⟨trivial, trivial⟩⟩⟩⟩, trivial⟩⟩⟩) rfl rfl (Ao Si rfl (.lp _ _ _ rfl) (Nbl rfl)) (ee0 0 rfl rfl rfl rfl (fun ζ => ?_) ?_))
   ·refine Ax Aie rfl rfl rfl rfl (Nbl rfl) (Bu [.box (EL.el a0), .box (EL.el {b2 with PC := if (a0.Ops.length : Int) < b2.PC then (a0.Ops.length : Int) else b2.PC}), .box Zbc, .box Zbb] rfl ?_)
    exact Sk
   refine ee0 1 rfl rfl rfl rfl (fun ζ => ?_) ?_
   ·refine Ax Xf rfl rfl rfl rfl (Nbl rfl) (Bu [.box (EL.el a0), .box (EL.el {b2 with PC := if (a0.Ops.length : Int) < b2.PC then (a0.Ops.length : Int) else b2.PC}), .box Zbc, .box (EL.el {b2 with PC := if (a0.Ops.length : Int) < b2.PC then (a0.Ops.length : Int) else b2.PC})] rfl ?_)
    exact Sk
   refine ev (Bi 2 rfl rfl) rfl rfl (Ak rfl) (Y9 (Ah (Bk ?_)))
   obtain rfl := SJ h
   refine ⟨Or.inr rfl, _, _, _, (Ad (Bd.agg _ _ _ _ _ Aex rfl (.lp _ _ _ rfl) (Nbl rfl)) (Ad (Bd.agg _ _ _ _ _ Si rfl (.lp _ _ _ rfl) (Nbl rfl)) (Ad (Bd.tmp _ _ rfl) Af))), (Nt rfl), ?_⟩
   rfl
  ·skip
   refine B4 ?_
   obtain ⟨x3, hx3, ho3⟩ := Am h
   refine C2 (G := Nat × (A7)) (fun g => [(2, .s (.one (.lp 0 0))), (3, .s (.one (.lp 1 0))), (4, .s (.one (.lp 2 0))), (5, .s (.one (.lp 3 0)))]) (fun g => [.box (EL.el a0), .box (EL.el g.2), .box Zbc, .box Zbb]) (fun g => Pt (Gl a0) g.1 g.2 = some x3) (fun g => g.1) (fuel, a1) hx3 ⟨rfl, rfl, rfl, rfl, trivial⟩ [] rfl (fun _ _ => Be rfl) (fun _ _ => Az rfl) (fun _ _ => Nbl rfl) ?_
   clear hx3 h
   rintro ⟨n3, s3⟩ h
   obtain ⟨n3, y3, rfl, h, hk3⟩ := Ns h
   unfold Gl at h
   refine Aq (Aq (Lh (Unit) (fun b4 => [(2, .s (.one (.lp 0 0))), (3, .s (.one (.lp 1 0))), (4, .s (.one (.lp 2 0))), (5, .s (.one (.lp 3 0)))]) (fun b4 => [.box (EL.el a0), .box (EL.el s3), .box Zbc, .box Zbb]) (fun b4 => K8 a0 s3 b4 = some y3) (fun _ _ => Be rfl) (fun _ _ => Az rfl) (fun _ _ => Nbl rfl) (fun b4 h => ?_) ?_))
   ·unfold K8 at h
    refine B4 (Aq (Ab (sv rfl (Aa Sl rfl) (sv rfl (Ae Aim rfl (.lp _ _ _ rfl) rfl) (sv rfl (Aa Ov rfl) (sv rfl (Ae ti3 rfl (.lp _ _ _ rfl) rfl) ?_))))))
    obtain ⟨u5, hu5, h⟩ := Am h
    refine sv rfl (Dp (f := Cg) Aj2 (fun _ => rfl) rfl rfl rfl rfl hu5) ?_
    refine sv rfl (C6 (ys := [Ii6 u5.What, Ii6 u5.A, Ii6 u5.B, Ii6 u5.N, .sl u5.Key.length (u5.Key.flatMap eU8), .sl u5.Rng.Lo.length (u5.Rng.Lo.flatMap eU8), .sl u5.Rng.Hi.length (u5.Rng.Hi.flatMap eU8), .b u5.Rng.Open]) Akz rfl (.cp _) rfl rfl) (B1 rfl Apo (Ax As2 rfl rfl rfl rfl (Nbl rfl) (Bu [.box (EL.el a0), .box (EL.el s3), .box Zbc, .box Zbb, .box (EL.el u5)] rfl (Ar (Aq (Aq (Ab (sv rfl (Ao Akz rfl (.lp _ _ _ rfl) (Nbl rfl)) ?_))))))))
    obtain ⟨v6, hv6, h⟩ := Am h
    refine A3 rfl Apr (Ac rfl Al) (Aj rfl) (Qb hv6) (Ar (ccI h rfl (fun h => ?_) (fun h => ?_)))
    ·refine Aq ?_
     obtain ⟨v7, hv7, h⟩ := Am h
     refine Ke [4, 5] [0, 0, 3, 0, 7, 31, 63] [[.box (EL.el a0), .box (EL.el s3), .box Zbc, .box Zbb, .box (EL.el u5)], [.box (EL.el a0), .box (EL.el s3), .box (EL.el v7), .box Zbb, .box (EL.el u5)], [.box (EL.el a0), .box (EL.el s3), .box (EL.el v7), .box (EL.el s3), .box (EL.el u5)]] (by kernel_rfl) Lm (by kernel_rfl) (by decide) rfl rfl rfl rfl ?_
     refine ev (Bi 0 rfl rfl) rfl rfl (Ao Akz rfl (.lp _ _ _ rfl) (Nbl rfl)) (ev (Bi 0 rfl rfl) rfl rfl (Ao Si rfl (.lp _ _ _ rfl) (Nbl rfl)) (ed (Bi 0 rfl rfl) rfl rfl (D3 Aq7 (Ac rfl (Ac rfl Al)) rfl (S6 hv7)) (ev (B5 (md := [.box (EL.el a0), .box (EL.el s3), .dead, .dead, .box (EL.el u5)]) ⟨⟨rfl, ⟨rfl, ⟨trivial, ⟨trivial, ⟨rfl, trivial⟩⟩⟩⟩⟩, ⟨⟨rfl, ⟨rfl, ⟨trivial, ⟨trivial, ⟨rfl, trivial⟩⟩⟩⟩⟩, ⟨⟨rfl, ⟨rfl, ⟨trivial, ⟨trivial, ⟨rfl, trivial⟩⟩⟩⟩⟩, trivial⟩⟩⟩) rfl rfl (Ao Si rfl (.lp _ _ _ rfl) (Nbl rfl)) (ee0 0 rfl rfl rfl rfl (fun ζ => ?_) ?_))))
     ·refine Ax Aie rfl rfl rfl rfl (Nbl rfl) (Bu [.box (EL.el a0), .box (EL.el s3), .box (EL.el v7), .box Zbb, .box (EL.el u5)] rfl ?_)
      exact Sk
     refine ee0 1 rfl rfl rfl rfl (fun ζ => ?_) ?_
     ·refine Ax Xf rfl rfl rfl rfl (Nbl rfl) (Bu [.box (EL.el a0), .box (EL.el s3), .box (EL.el v7), .box (EL.el s3), .box (EL.el u5)] rfl ?_)
      exact Sk
     refine ev (Bi 2 rfl rfl) rfl rfl (Ak rfl) (Y9 (Ah (Bk (Au (Bc (Au (Bc (Au ?_))))))))
     obtain rfl := SJ h
     obtain rfl : Sum.inl _ = x3 := hk3
     replace ho3 : some _ = some _ := ho3
     obtain rfl := Option.some.inj ho3
     refine ⟨Or.inr rfl, _, _, _, (Ad (Bd.agg _ _ _ _ _ Aex rfl (.lp _ _ _ rfl) (Nbl rfl)) (Ad (Bd.agg _ _ _ _ _ Si rfl (.lp _ _ _ rfl) (Nbl rfl)) (Ad (Bd.tmp _ _ rfl) Af))), (Aj rfl), ?_⟩
     rfl
    ·refine Bl (Ah (Ab (sv rfl (Ao Akz rfl (.lp _ _ _ rfl) (Nbl rfl)) (sv rfl (Ao Si rfl (.lp _ _ _ rfl) (Nbl rfl)) ?_))))
     obtain ⟨v8, hv8, h⟩ := Am h
     refine A3 rfl Atc (Ac rfl (Ac rfl Al)) (Aj rfl) (Uq hv8) (Ax Xf rfl rfl rfl rfl (Nbl rfl) (Bu [.box (EL.el a0), .box (EL.el v8), .box Zbc, .box Zbb, .box (EL.el u5)] rfl (Lz (A1 (Ah ?_)))))
     obtain rfl := SJ h
     exact ⟨(n3, v8), _, hk3, ⟨rfl, rfl, rfl, rfl, trivial⟩, rfl, Nat.lt_succ_self _⟩
   ·skip
    refine Ab (sv rfl (Aa Ov rfl) (sv rfl (Ae ti3 rfl (.lp _ _ _ rfl) rfl) (sv rfl (Aa Sl rfl) (sv rfl (Ae Aim rfl (.lp _ _ _ rfl) rfl) (sv rfl (A0 Aj2 rfl) (sv rfl (Cm rfl rfl) (sv rfl (Ag rfl) (Bq 24 rfl (fun hc => ?_) (fun hc => ?_)))))))))
    ·replace h := B2 hc h
     clear hc
     refine son rfl rfl rfl (sv rfl (Aa W5 rfl) (son rfl rfl rfl (sv rfl (Ae ti4 rfl (.lp _ _ _ rfl) rfl) (son rfl rfl rfl (sv rfl (Ca rfl) (sv rfl (Av rfl rfl) (Ar (ccI h rfl (fun h => ?_) (fun h => ?_)))))))))
     ·refine Bl (Ah ?_)
      exact ⟨(), _, h, ⟨rfl, rfl, rfl, rfl, trivial⟩, rfl⟩
     ·refine Kn (Bh (Bh (Cd (Ah ?_))))
      obtain rfl := SJ h
      obtain rfl : _ = x3 := hk3
      exact ⟨s3, _, ho3, ⟨rfl, rfl, rfl, rfl, trivial⟩, rfl⟩
    ·replace h := B3 hc h
     clear hc
     refine Aw rfl rfl rfl rfl (Aw rfl rfl rfl rfl (Aw rfl rfl rfl rfl (sv rfl (An rfl rfl) (Ar (Hq rfl (fun hx => Bool.noConfusion hx) (fun _ => ?_))))))
     refine Kn (Bh (Bh (Cd (Ah ?_))))
     obtain rfl := SJ h
     obtain rfl : _ = x3 := hk3
     exact ⟨s3, _, ho3, ⟨rfl, rfl, rfl, rfl, trivial⟩, rfl⟩
 ·skip
  refine Ab (sv rfl (Ao Am3 rfl (.lp _ _ _ rfl) (Nbl rfl)) ?_)
  obtain ⟨v10, hv10, h⟩ := Am h
  refine A3 rfl Arf (Ac rfl Al) (Aj rfl) (Ok hv10) (sv rfl (Ca rfl) (sv rfl (Ag rfl) (Bq 11 rfl (fun hc => ?_) (fun hc => ?_))))
  ·replace h := B2 hc h
   clear hc
   refine Aw rfl rfl rfl rfl (Aw rfl rfl rfl rfl (Aw rfl rfl rfl rfl (sv rfl (Av rfl rfl) (Ar (Hq rfl (fun _ => ?_) (fun hx => Bool.noConfusion hx))))))
   refine Aq ?_
   refine Ke [2, 3] [0, 0, 1, 7, 15] [[.box (EL.el a0), .box (EL.el a1), .box Zbc, .box Zbb], [.box (EL.el a0), .box (EL.el a1), .box Zbc, .box Zbb], [.box (EL.el a0), .box (EL.el a1), .box Zbc, .box (EL.el a1)]] (by kernel_rfl) Lm (by kernel_rfl) (by decide) rfl rfl rfl rfl ?_
   refine ev (Bi 0 rfl rfl) rfl rfl (Bj Zf Aeq Ba (.nil _)) (ev (B5 (md := [.box (EL.el a0), .box (EL.el a1), .box Zbc, .dead]) ⟨⟨rfl, ⟨rfl, ⟨rfl, ⟨trivial, trivial⟩⟩⟩⟩, ⟨⟨rfl, ⟨rfl, ⟨rfl, ⟨trivial, trivial⟩⟩⟩⟩, ⟨⟨rfl, ⟨rfl, ⟨rfl, ⟨trivial, trivial⟩⟩⟩⟩, trivial⟩⟩⟩) rfl rfl (Ao Si rfl (.lp _ _ _ rfl) (Nbl rfl)) (ee0 0 rfl rfl rfl rfl (fun ζ => ?_) ?_))
   ·refine Ax Aie rfl rfl rfl rfl (Nbl rfl) (Bu [.box (EL.el a0), .box (EL.el a1), .box Zbc, .box Zbb] rfl ?_)
    exact Sk
   refine ee0 1 rfl rfl rfl rfl (fun ζ => ?_) ?_
   ·refine Ax Xf rfl rfl rfl rfl (Nbl rfl) (Bu [.box (EL.el a0), .box (EL.el a1), .box Zbc, .box (EL.el a1)] rfl ?_)
    exact Sk
   refine ev (Bi 2 rfl rfl) rfl rfl (Ak rfl) (Y9 (Ah (Bk (Au ?_))))
   obtain rfl := SJ h
   refine ⟨Or.inr rfl, _, _, _, (Ad (Bd.agg _ _ _ _ _ Aex rfl (.lp _ _ _ rfl) (Nbl rfl)) (Ad (Bd.agg _ _ _ _ _ Si rfl (.lp _ _ _ rfl) (Nbl rfl)) (Ad (Bd.tmp _ _ rfl) Af))), (Nt rfl), ?_⟩
   rfl
  ·replace h := B3 hc h
   clear hc
   refine son rfl rfl rfl (sv rfl (Aa Ov rfl) (son rfl rfl rfl (sv rfl (Ae ti3 rfl (.lp _ _ _ rfl) rfl) (son rfl rfl rfl (sv rfl (Cm rfl rfl) (sv rfl (An rfl rfl) (Ar (ccI h rfl (fun h => ?_) (fun h => ?_)))))))))
   ·refine Aq ?_
    refine Ke [2, 3] [0, 0, 1, 7, 15] [[.box (EL.el a0), .box (EL.el a1), .box Zbc, .box Zbb], [.box (EL.el a0), .box (EL.el a1), .box Zbc, .box Zbb], [.box (EL.el a0), .box (EL.el a1), .box Zbc, .box (EL.el a1)]] (by kernel_rfl) Lm (by kernel_rfl) (by decide) rfl rfl rfl rfl ?_
    refine ev (Bi 0 rfl rfl) rfl rfl (Bj Zf Aeq Ba (.nil _)) (ev (B5 (md := [.box (EL.el a0), .box (EL.el a1), .box Zbc, .dead]) ⟨⟨rfl, ⟨rfl, ⟨rfl, ⟨trivial, trivial⟩⟩⟩⟩, ⟨⟨rfl, ⟨rfl, ⟨rfl, ⟨trivial, trivial⟩⟩⟩⟩, ⟨⟨rfl, ⟨rfl, ⟨rfl, ⟨trivial, trivial⟩⟩⟩⟩, trivial⟩⟩⟩) rfl rfl (Ao Si rfl (.lp _ _ _ rfl) (Nbl rfl)) (ee0 0 rfl rfl rfl rfl (fun ζ => ?_) ?_))
    ·refine Ax Aie rfl rfl rfl rfl (Nbl rfl) (Bu [.box (EL.el a0), .box (EL.el a1), .box Zbc, .box Zbb] rfl ?_)
     exact Sk
    refine ee0 1 rfl rfl rfl rfl (fun ζ => ?_) ?_
    ·refine Ax Xf rfl rfl rfl rfl (Nbl rfl) (Bu [.box (EL.el a0), .box (EL.el a1), .box Zbc, .box (EL.el a1)] rfl ?_)
     exact Sk
    refine ev (Bi 2 rfl rfl) rfl rfl (Ak rfl) (Y9 (Ah (Bk (Au ?_))))
    obtain rfl := SJ h
    refine ⟨Or.inr rfl, _, _, _, (Ad (Bd.agg _ _ _ _ _ Aex rfl (.lp _ _ _ rfl) (Nbl rfl)) (Ad (Bd.agg _ _ _ _ _ Si rfl (.lp _ _ _ rfl) (Nbl rfl)) (Ad (Bd.tmp _ _ rfl) Af))), (Nt rfl), ?_⟩
    rfl
   ·refine Bl (Ah ?_)
    exact ⟨(), _, h, ⟨rfl, rfl, rfl, rfl, trivial⟩, rfl⟩
def I0 (a0 : Int) (b1 : Unit) : Option (List A6) :=
 if (decide (0 < (wI (a0 - (wI (0 - 0)))))) then (if 0 < (wI (a0 - (wI (0 - 0)))) ∧ (wI (a0 - (wI (0 - 0)))) * ((80 : Nat) : Int) ≤ 281474976710656 then (if (0 : Int) ≤ 0 ∧ 0 ≤ ((List.replicate (wI (a0 - (wI (0 - 0)))).toNat Mj).length : Int) then (some ((List.replicate (wI (a0 - (wI (0 - 0)))).toNat Mj).take (0 : Int).toNat)) else none) else none) else (some ([] : List A6))
def I6 (a0 : Int) : Option (List A6) :=
 if (decide (a0 < 0)) then none else (I0 a0 ())
theorem S7 {a0 : Int} {r : (List A6)} (h : I6 a0 = some r) : G3 Tryz.prog 137 [] [.one (Znl), .one (Ii6 a0)] (fun y m' => y = .s (.one (.ls 0 r.length)) ∧ m' = [.arr 64 10 0 (r.flatMap A8)]) := by
 unfold I6 at h
 refine Cv Tryz.func137 rfl (nt := 27) rfl (Nbl rfl) ?_
 intro w0 S0 X0 H0
 refine Aq (Ab (sv rfl (Ak rfl) (Ar (Aq (Aq (Ab (sv rfl (Ag rfl) (sv rfl (Cm rfl rfl) (Ar (G6 (Unit) (fun b1 => [(0, .s (.one (Znl))), (1, .s (.one (Ii6 a0)))]) (fun b1 => []) (fun b1 => I0 a0 b1 = some r) (fun _ _ => Be rfl) (fun _ _ => Az rfl) (fun _ _ => Nbl rfl) (fun b1 h => ?_) ?_))))))))))
 ·unfold I0 at h
  refine Aq (Aq (Ab (sv rfl (Ag rfl) (sv rfl (Ag rfl) (sv rfl (Kt Acn rfl) (sv rfl (Ag rfl) (sv rfl (Ks Acn rfl) (sv rfl (M1 rfl rfl) (sv rfl (M1 rfl rfl) (sv rfl (Ak rfl) (Ar (Aq (Ab (sv rfl (Ag rfl) (sv rfl (Di rfl rfl) (Ar (ccI h rfl (fun h => ?_) (fun h => ?_))))))))))))))))))
  ·refine Ab (sv rfl (Ag rfl) (sv rfl (Ag rfl) (sv rfl (Kt Acn rfl) (sv rfl (N2 Acn rfl rfl) (sv rfl (Ag rfl) ?_)))))
   obtain ⟨hm2, h⟩ := D9 h
   refine Al4 (f := A8) (z := Mj) rfl Tryz.underlying42 Atg Tryz.underlying3 (fun _ => rfl) rfl rfl rfl hm2 (by decide) ?_
   refine sv rfl (Ag rfl) (sv rfl (Ks Acn rfl) ?_)
   obtain ⟨hs3, h⟩ := D9 h
   refine Adw (f := A8) rfl Acn (fun _ => rfl) rfl rfl rfl rfl rfl hs3 ?_
   refine sv rfl (Ak rfl) (Ar (Aq (Ab (sv rfl (Ag rfl) (sv rfl (Ak rfl) (Ar (Bk ?_)))))))
   obtain rfl := SJ h
   exact ⟨Or.inr rfl, _, [1], [.one (.ls 0 ((List.replicate (wI (a0 - (wI (0 - 0)))).toNat Mj).take (0 : Int).toNat).length)], [.arr 64 10 0 (((List.replicate (wI (a0 - (wI (0 - 0)))).toNat Mj).take (0 : Int).toNat).flatMap A8)], (Ad (Bd.tmp _ _ rfl) Af), rfl, rfl, ⟨by decide, rfl⟩, rfl, rfl, ⟨rfl, rfl⟩⟩
  ·refine Bl (Ah (Aq (Ab (sv rfl (Ag rfl) (sv rfl (Ak rfl) (Ar ?_))))))
   refine O2 64 10 4 (by decide) rfl ?_
   refine Bk ?_
   obtain rfl := SJ h
   exact ⟨Or.inr rfl, _, [0], [.one (.ls 0 ([] : List A6).length)], [.arr 64 10 0 (([] : List A6).flatMap A8)], (Ad (Bd.tmp _ _ rfl) Af), rfl, rfl, ⟨by decide, rfl⟩, rfl, rfl, ⟨rfl, rfl⟩⟩
 ·skip
  refine ccI h rfl (fun h => ?_) (fun h => ?_)
  ·cases h
  ·refine Bl (Ah ?_)
   exact ⟨(), _, h, ⟨rfl, rfl, trivial⟩, rfl⟩
def Kd (b3 : (List A6)) : Option (List A6) :=
 some b3
def Ex (a0 : List (List A6)) (s4 : Int × (List A6)) : Option (LB (Int × (List A6)) ((List A6))) :=
 if (decide (s4.1 < (a0.length : Int))) then ((idx a0 s4.1).bind fun u5 => if (s4.2.length + u5.length) * 80 ≤ 140737488355328 then (some (.cont ((wI (s4.1 + 1)), (s4.2 ++ u5)))) else none) else (some (.brk s4.2))
def Ia (a0 : List (List A6)) (b1 : Int) : Option (List A6) :=
 (I6 b1).bind fun v2 => (Ej (Ex a0) fuel (0, v2)).bind fun e7 => Kd e7
def Eu (a0 : List (List A6)) (s8 : Int × Int) : Option (LB (Int × Int) (Int)) :=
 if (decide (s8.2 < (a0.length : Int))) then ((idx a0 s8.2).bind fun u9 => if (decide ((wI (s8.1 + (u9.length : Int))) < 0)) then none else (some (.cont ((wI (s8.1 + (u9.length : Int))), (wI (s8.2 + 1)))))) else (some (.brk s8.1))
def Hy (a0 : List (List A6)) : Option (List A6) :=
 (Ej (Eu a0) fuel (0, 0)).bind fun e10 => Ia a0 e10
theorem Rh {a0 : List (List A6)} {r : (List A6)} (h : Hy a0 = some r) : G3 Tryz.prog 128 [] [.one (.sl a0.length (a0.flatMap (eL A8)))] (fun y m' => y = .s (.one (.ls 0 r.length)) ∧ m' = [.arr 64 10 0 (r.flatMap A8)]) := by
 unfold Hy at h
 refine Cv Tryz.func128 rfl (nt := 36) rfl (Nbl rfl) ?_
 intro w0 S0 X0 H0
 refine Aq (Ab (sv rfl (Ak rfl) (Ar (Aq (Ab (sv rfl (Ak rfl) (Ar (Aq (Aq (Ab (sv rfl (Ag rfl) (sv rfl (A0 Ajo rfl) (sv rfl (Ag rfl) (Ar (G6 (Int) (fun b1 => [(0, .s (.one (.sl a0.length (a0.flatMap (eL A8))))), (3, .s (.one (Ii6 b1)))]) (fun b1 => []) (fun b1 => Ia a0 b1 = some r) (fun _ _ => Be rfl) (fun _ _ => Az rfl) (fun _ _ => Nbl rfl) (fun b1 h => ?_) ?_)))))))))))))))
 ·unfold Ia at h
  refine Aq (Ab (sv rfl (Ag rfl) ?_))
  obtain ⟨v2, hv2, h⟩ := Am h
  refine C3 (x' := .s (.one (.ls 0 v2.length))) (M' := [.arr 64 10 0 (v2.flatMap A8)]) [] rfl Asp (.func _) (Ac rfl (Ac rfl Al)) (S7 hv2) rfl rfl (by decide) rfl rfl rfl ?_
  refine sv rfl (Ak rfl) (Ar (Aq (Aq (Ab (sv rfl (Ag rfl) (sv rfl (A0 Ajo rfl) (sv rfl (Ag rfl) (Ar (G6 ((List A6)) (fun b3 => [(6, .s (.one (.ls 0 b3.length)))]) (fun b3 => [.arr 64 10 0 (b3.flatMap A8)]) (fun b3 => Kd b3 = some r) (fun _ _ => Be rfl) (fun _ _ => Az rfl) (fun _ _ => Nbl rfl) (fun b3 h => ?_) ?_)))))))))
  ·unfold Kd at h
   refine Aq (Ab (sv rfl (Ag rfl) (sv rfl (Ak rfl) (Ar (Bk ?_)))))
   obtain rfl := SJ h
   exact ⟨Or.inr rfl, _, [0], [.one (.ls 0 b3.length)], [.arr 64 10 0 (b3.flatMap A8)], (Ad (Bd.tmp _ _ rfl) Af), rfl, rfl, ⟨by decide, rfl⟩, rfl, rfl, ⟨rfl, rfl⟩⟩
  ·skip
   refine B4 ?_
   obtain ⟨x4, hx4, ho4⟩ := Am h
   refine C2 (G := Nat × (Int × (List A6))) (fun g => [(6, .s (.one (.ls 0 g.2.2.length))), (25, .s (.one (.sl a0.length (a0.flatMap (eL A8))))), (26, .s (.one (Ii6 (a0.length : Int)))), (27, .s (.one (Ii6 g.2.1)))]) (fun g => [.arr 64 10 0 (g.2.2.flatMap A8)]) (fun g => Ej (Ex a0) g.1 g.2 = some x4) (fun g => g.1) (fuel, (0, v2)) hx4 ⟨rfl, rfl, rfl, rfl, trivial⟩ [] rfl (fun _ _ => Be rfl) (fun _ _ => Az rfl) (fun _ _ => Nbl rfl) ?_
   clear hx4 h
   rintro ⟨n4, s4⟩ h
   obtain ⟨n4, y4, rfl, h, hk4⟩ := F5 h
   unfold Ex at h
   refine Aq (Ab (sv rfl (Cm rfl rfl) (Ar (Aq (ccI h rfl (fun h => ?_) (fun h => ?_))))))
   ·refine Bl (Ah (Aq (B4 (Aq (Ab ?_)))))
    obtain ⟨u5, hu5, h⟩ := Am h
    refine sv rfl (Dp (f := (eL A8)) Ajo (fun _ => rfl) rfl rfl rfl rfl hu5) ?_
    refine sv rfl (Ae Ae6 rfl (.cp _) rfl) (sv rfl (Ak rfl) (Ar (Ab (sv rfl (Ag rfl) (sv rfl (Ag rfl) ?_)))))
    obtain ⟨hb6, h⟩ := D9 h
    refine Aif (f := A8) (xs := s4.2) (us := u5) rfl Tryz.underlying42 Atg Avn (fun _ => rfl) rfl rfl (.one _ _ _ _ (.id _ rfl)) rfl rfl rfl (.sl _ _ _ (Bg (f := A8) (fun _ => rfl) _)) rfl rfl hb6 (by decide) ?_
    refine sv rfl (Ak rfl) (Lz (A1 (Ah (Ab (sv rfl (B0 rfl rfl) (sv rfl (Ag rfl) (Ar ?_)))))))
    obtain rfl := SJ h
    exact ⟨(n4, ((wI (s4.1 + 1)), (s4.2 ++ u5))), _, hk4, ⟨rfl, rfl, rfl, rfl, trivial⟩, rfl, Nat.lt_succ_self _⟩
   ·refine Kn (Bh (Bh (Cd (Ah ?_))))
    obtain rfl := SJ h
    obtain rfl : _ = x4 := hk4
    exact ⟨s4.2, _, ho4, ⟨rfl, trivial⟩, rfl⟩
 ·skip
  refine B4 ?_
  obtain ⟨x8, hx8, ho8⟩ := Am h
  refine C2 (G := Nat × (Int × Int)) (fun g => [(0, .s (.one (.sl a0.length (a0.flatMap (eL A8))))), (3, .s (.one (Ii6 g.2.1))), (9, .s (.one (.sl a0.length (a0.flatMap (eL A8))))), (10, .s (.one (Ii6 (a0.length : Int)))), (11, .s (.one (Ii6 g.2.2)))]) (fun g => []) (fun g => Ej (Eu a0) g.1 g.2 = some x8) (fun g => g.1) (fuel, (0, 0)) hx8 ⟨rfl, rfl, rfl, rfl, rfl, trivial⟩ [] rfl (fun _ _ => Be rfl) (fun _ _ => Az rfl) (fun _ _ => Nbl rfl) ?_
  clear hx8 h
  rintro ⟨n8, s8⟩ h
  obtain ⟨n8, y8, rfl, h, hk8⟩ := F5 h
  unfold Eu at h
  refine Aq (Ab (sv rfl (Cm rfl rfl) (Ar (Aq (ccI h rfl (fun h => ?_) (fun h => ?_))))))
  ·refine Bl (Ah (Aq (B4 (Aq (Ab ?_)))))
   obtain ⟨u9, hu9, h⟩ := Am h
   refine sv rfl (Dp (f := (eL A8)) Ajo (fun _ => rfl) rfl rfl rfl rfl hu9) ?_
   refine sv rfl (Ae Ae6 rfl (.cp _) rfl) (sv rfl (Ak rfl) (Ar (Aq (Ab (sv rfl (Ag rfl) (sv rfl (Ag rfl) (sv rfl (A0 Acn rfl) (sv rfl (B0 rfl rfl) (sv rfl (Ak rfl) (Ar (Aq (Ab (sv rfl (Ag rfl) (sv rfl (Cm rfl rfl) (Ar (ccI h rfl (fun h => ?_) (fun h => ?_)))))))))))))))))
   ·cases h
   ·refine Bl (A1 (Ah (Ab (sv rfl (B0 rfl rfl) (sv rfl (Ag rfl) (Ar ?_))))))
    obtain rfl := SJ h
    exact ⟨(n8, ((wI (s8.1 + (u9.length : Int))), (wI (s8.2 + 1)))), _, hk8, ⟨rfl, rfl, rfl, rfl, rfl, trivial⟩, rfl, Nat.lt_succ_self _⟩
  ·refine Kn (Bh (Bh (Cd (Ah ?_))))
   obtain rfl := SJ h
   obtain rfl : _ = x8 := hk8
   exact ⟨s8.1, _, ho8, ⟨rfl, rfl, trivial⟩, rfl⟩
end Go.Proofs.YtbjckaahoacbfaaGreatDoor.Abs
