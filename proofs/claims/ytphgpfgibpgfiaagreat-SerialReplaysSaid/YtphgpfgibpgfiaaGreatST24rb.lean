/-
 t
-/
import Derived.Test.YtphgpfgibpgfiaaGreatST24ra
set_option linter.unusedVariables false
set_option linter.unusedSimpArgs false
namespace Go.Proofs.YtphgpfgibpgfiaaGreat.Abs
open Go.RowKit Go.Proofs
set_option maxRecDepth 100000
def Kl (a0 : Cb) : Option Cn :=
 (Cw (He a0) fuel (0, ([] : List Cz))).bind fun e5 => L9 a0 e5
theorem Ui {a0 : Cb} {r : Cn} (h : Kl a0 = some r) : Bz Tryz.prog 18 [.agg (EL.el a0)] (· = .s (.agg (EL.el r))) := by
 unfold Kl at h
 refine A8 Tryz.func18 rfl (nt := 40) rfl (Nbl rfl) ?_
 intro w0 S0
 refine csr (Kp rfl rfl (Ce rfl Aqt (Al (csr (fl Aji ti4 rfl rfl rfl rfl rfl rfl (sv rfl (Bl Aqt Asg (A1 rfl Ba) (.cons _ _ _ _ _ _ _ rfl rfl (Nbl rfl) (.nil _))) (Ce rfl Aqt (A9 Ari rfl rfl rfl rfl (Nbl rfl) (Cc [.box (EL.el a0), .box [.b false, Znl], .box [.b a0.RO, Znl]] rfl (Al (Bp (csr (rm 1 rfl (Al ?_))))))))))))))
 refine Q1 103 8 2 1 (by decide) rfl rfl ?_
 refine C4 ((List Cz)) (fun b1 => [(2, .s (.one (.lp 1 0))), (3, .s (.one (.lp 2 0)))]) (fun b1 => [.box (EL.el a0), .box [.b false, Znl], .box [.b a0.RO, .ls 3 b1.length], .arr 103 8 0 (b1.flatMap Eu)]) (fun b1 => L9 a0 b1 = some r) (fun _ _ => Az rfl) (fun _ _ => Ak rfl) (fun _ _ => Nbl rfl) (fun b1 h => ?_) ?_
 ·unfold L9 at h
  refine csr (sv rfl (Ap Aj7 rfl (.lp _ _ _ rfl) (Nbl rfl)) (A9 Ari rfl rfl rfl rfl (Nbl rfl) (Cc [.box (EL.el a0), .box [.b a0.RO, .ls 3 b1.length], .box [.b a0.RO, .ls 3 b1.length], .arr 103 8 0 (b1.flatMap Eu)] rfl (Al (Bo ?_)))))
  obtain rfl := SJ h
  refine ⟨Or.inr rfl, _, _, _, (Ai (B9.agg _ _ _ _ _ Aj7 rfl (.lp _ _ _ rfl) (Nbl rfl)) Au), (by (repeat' first | exact Ga.nil _ | apply Ga.cons | apply F5.one | apply F5.agg | exact Ci.nil | exact Ci.ls _ _ _ _ _ _ rfl (Ay (f := Eu) (fun _ => rfl) _).symm | exact Ci.id _ rfl | exact Cg.nil _ | apply Cg.cons)), ?_⟩
  rfl
 ·skip
  refine Bf ?_
  obtain ⟨x2, hx2, ho2⟩ := Ag h
  refine Bs (G := Nat × (Int × (List Cz))) (fun g => [(1, .s (.one (.lp 0 0))), (2, .s (.one (.lp 1 0))), (3, .s (.one (.lp 2 0))), (4, .s (.one (Ii6 g.2.1)))]) (fun g => [.box (EL.el a0), .box [.b false, Znl], .box [.b a0.RO, .ls 3 g.2.2.length], .arr 103 8 0 (g.2.2.flatMap Eu)]) (fun g => Cw (He a0) g.1 g.2 = some x2) (fun g => g.1) (fuel, (0, ([] : List Cz))) hx2 ⟨rfl, rfl, rfl, rfl, trivial⟩ [] rfl (fun _ _ => Az rfl) (fun _ _ => Ak rfl) (fun _ _ => Nbl rfl) ?_
  clear hx2 h
  rintro ⟨n2, s2⟩ h
  obtain ⟨n2, y2, rfl, h, hk2⟩ := Dw h
  unfold He at h
  refine Bp (csr (rm 1 rfl (fl Oa Ab5 rfl rfl rfl rfl rfl rfl (sv rfl (An Abz rfl) (sv rfl (Bi rfl rfl) (Al (ccI h rfl (fun h => ?_) (fun h => ?_))))))))
  ·refine Be (Ab (Bp (Bf (csr (fl Oa Ab5 rfl rfl rfl rfl rfl rfl (sv rfl (A3 rfl) ?_))))))
   obtain ⟨u3, hu3, h⟩ := Ag h
   refine sv rfl (Bw (f := Md) Abz (fun _ => rfl) rfl rfl rfl rfl hu3) ?_
   refine sv rfl (Bq (ys := [Ii6 u3.What, Ii6 u3.A, Ii6 u3.B, Ii6 u3.N, .sl u3.Key.length (u3.Key.flatMap eU8), .sl u3.Rng.Lo.length (u3.Rng.Lo.flatMap eU8), .sl u3.Rng.Hi.length (u3.Rng.Hi.flatMap eU8), .b u3.Rng.Open]) Aoj rfl (.cp _) rfl rfl) (Ce rfl Apu (A9 Aqg rfl rfl rfl rfl (Nbl rfl) (Cc [.box (EL.el a0), .box [.b false, Znl], .box [.b a0.RO, .ls 3 s2.2.length], .arr 103 8 0 (s2.2.flatMap Eu), .box (EL.el u3)] rfl (Al (Ax (fl Sb Ai2 rfl rfl rfl rfl rfl rfl (fl Gv ti3 rfl rfl rfl rfl rfl rfl (fl R9 ti3 rfl rfl rfl rfl rfl rfl (fl U0 ti3 rfl rfl rfl rfl rfl rfl (fl Sl ti3 rfl rfl rfl rfl rfl rfl (fl U2 E6 rfl rfl rfl rfl rfl rfl (sv rfl (Aa Si rfl) (sv rfl (Ap Vd rfl (.lp _ _ _ rfl) (Nbl rfl)) (sv rfl (Bl Aix Ap1 (A1 rfl (A1 rfl (A1 rfl (A1 rfl (A1 rfl (A1 rfl Ba)))))) (Vv [Ii6 u3.What, Ii6 0, Ii6 0, Ii6 0, Znl, Znl, Znl, .b false] rfl rfl (Nbl rfl) rfl (Vv [Ii6 u3.What, Ii6 u3.A, Ii6 0, Ii6 0, Znl, Znl, Znl, .b false] rfl rfl (Nbl rfl) rfl (Vv [Ii6 u3.What, Ii6 u3.A, Ii6 u3.B, Ii6 0, Znl, Znl, Znl, .b false] rfl rfl (Nbl rfl) rfl (Vv [Ii6 u3.What, Ii6 u3.A, Ii6 u3.B, Ii6 u3.N, Znl, Znl, Znl, .b false] rfl rfl (Nbl rfl) rfl (Vv [Ii6 u3.What, Ii6 u3.A, Ii6 u3.B, Ii6 u3.N, .sl u3.Key.length (u3.Key.flatMap eU8), Znl, Znl, .b false] rfl rfl (Nbl rfl) rfl (Vv [Ii6 u3.What, Ii6 u3.A, Ii6 u3.B, Ii6 u3.N, .sl u3.Key.length (u3.Key.flatMap eU8), .sl u3.Rng.Lo.length (u3.Rng.Lo.flatMap eU8), .sl u3.Rng.Hi.length (u3.Rng.Hi.flatMap eU8), .b u3.Rng.Open] rfl rfl (Nbl rfl) rfl (.nil _)))))))) ?_))))))))))))))
   refine Fw rfl Tryz.underlying66 Am6 rfl rfl (List.all_eq_true.1 rfl) (by decide) ?_
   refine Cc [.box (EL.el a0), .box [.b false, Znl], .box [.b a0.RO, .ls 3 s2.2.length], .arr 103 8 0 (s2.2.flatMap Eu), .box (EL.el u3), .arr 103 8 0 ([(Cz.mk u3.What u3.A u3.B u3.N u3.Key u3.Rng)].flatMap Eu)] rfl ?_
   obtain ⟨hb4, h⟩ := Cl h
   refine Wx (f := Eu) (xs := s2.2) (us := [(Cz.mk u3.What u3.A u3.B u3.N u3.Key u3.Rng)]) rfl Tryz.underlying66 Am6 Asz (fun _ => rfl) rfl rfl (.one _ _ _ _ (.ls _ _ _ _ _ _ rfl (Ay (f := Eu) (fun _ => rfl) [(Cz.mk u3.What u3.A u3.B u3.N u3.Key u3.Rng)]).symm)) rfl rfl rfl (.sl _ _ _ (Ay (f := Eu) (fun _ => rfl) _)) rfl rfl hb4 (by decide) ?_
   refine sv rfl (Aa Sb rfl) (A9 Atg rfl rfl rfl rfl (Nbl rfl) (Cc [.box (EL.el a0), .box [.b false, Znl], .box [.b a0.RO, .ls 3 (s2.2 ++ [(Cz.mk u3.What u3.A u3.B u3.N u3.Key u3.Rng)]).length], .arr 103 8 0 ((s2.2 ++ [(Cz.mk u3.What u3.A u3.B u3.N u3.Key u3.Rng)]).flatMap Eu), .box (EL.el u3), .arr 103 8 ([(Cz.mk u3.What u3.A u3.B u3.N u3.Key u3.Rng)].flatMap Eu).length ([(Cz.mk u3.What u3.A u3.B u3.N u3.Key u3.Rng)].flatMap Eu)] rfl (Hy (Am (Ab (Ax (rm 1 rfl (sv rfl (Bj rfl rfl) (rm 1 rfl (Al ?_))))))))))
   obtain rfl := SJ h
   exact ⟨(n2, ((wI (s2.1 + 1)), (s2.2 ++ [(Cz.mk u3.What u3.A u3.B u3.N u3.Key u3.Rng)]))), _, hk2, ⟨rfl, rfl, rfl, rfl, trivial⟩, rfl, Nat.lt_succ_self _⟩
  ·refine Dp (Aq (Aq (Bd (Ab ?_))))
   obtain rfl := SJ h
   obtain rfl : _ = x2 := hk2
   exact ⟨s2.2, _, ho2, ⟨rfl, rfl, trivial⟩, rfl⟩
def Ob (b1 : (List B0)) : Option (List B0) :=
 some b1
def Kh (a0 : List Ep) (s2 : Int × (List B0)) : Option (LB (Int × (List B0)) ((List B0))) :=
 if (decide (s2.1 < (a0.length : Int))) then ((idx a0 s2.1).bind fun u3 => (idx a0 s2.1).bind fun u4 => (Kl u4.Prog).bind fun v5 => (idx a0 s2.1).bind fun u6 => if (s2.2.length + ([(B0.mk (As.mk u3.Tx.Token u3.Tx.Snap u3.Tx.Ts u3.Tx.Reads u3.Tx.Writes) v5 u6.Regs)] : List B0).length) * 168 ≤ 140737488355328 then (some (.cont ((wI (s2.1 + 1)), (s2.2 ++ ([(B0.mk (As.mk u3.Tx.Token u3.Tx.Snap u3.Tx.Ts u3.Tx.Reads u3.Tx.Writes) v5 u6.Regs)] : List B0))))) else none) else (some (.brk s2.2))
def Nf (a0 : List Ep) : Option (List B0) :=
 (Cw (Kh a0) fuel (0, ([] : List B0))).bind fun e8 => Ob e8
theorem Xi {a0 : List Ep} {r : (List B0)} (h : Nf a0 = some r) : Bz Tryz.prog 8 [.one (.sl a0.length (a0.flatMap Ee))] (· = .s (.one (.sl r.length (r.flatMap Co)))) := by
 unfold Nf at h
 refine A8 Tryz.func8 rfl (nt := 44) rfl (Nbl rfl) ?_
 intro w0 S0
 refine csr (rm 1 rfl (Al (csr (rm 1 rfl (Al (Bp (csr (rm 1 rfl (Al ?_)))))))))
 refine H6 70 15 3 (by decide) rfl ?_
 refine C4 ((List B0)) (fun b1 => [(3, .s (.one (.ls 0 b1.length)))]) (fun b1 => [.arr 70 15 0 (b1.flatMap Co)]) (fun b1 => Ob b1 = some r) (fun _ _ => Az rfl) (fun _ _ => Ak rfl) (fun _ _ => Nbl rfl) (fun b1 h => ?_) ?_
 ·unfold Ob at h
  refine csr (rm 2 rfl (Al (Bo ?_)))
  obtain rfl := SJ h
  refine ⟨Or.inr rfl, _, _, _, (Ai (B9.tmp _ _ rfl) Au), (by (repeat' first | exact Ga.nil _ | apply Ga.cons | apply F5.one | apply F5.agg | exact Ci.nil | exact Ci.ls _ _ _ _ _ _ rfl (Ay (f := Co) (fun _ => rfl) _).symm | exact Ci.id _ rfl | exact Cg.nil _ | apply Cg.cons)), ?_⟩
  rfl
 ·skip
  refine Bf ?_
  obtain ⟨x2, hx2, ho2⟩ := Ag h
  refine Bs (G := Nat × (Int × (List B0))) (fun g => [(0, .s (.one (.sl a0.length (a0.flatMap Ee)))), (3, .s (.one (.ls 0 g.2.2.length))), (4, .s (.one (Ii6 g.2.1)))]) (fun g => [.arr 70 15 0 (g.2.2.flatMap Co)]) (fun g => Cw (Kh a0) g.1 g.2 = some x2) (fun g => g.1) (fuel, (0, ([] : List B0))) hx2 ⟨rfl, rfl, rfl, trivial⟩ [] rfl (fun _ _ => Az rfl) (fun _ _ => Ak rfl) (fun _ _ => Nbl rfl) ?_
  clear hx2 h
  rintro ⟨n2, s2⟩ h
  obtain ⟨n2, y2, rfl, h, hk2⟩ := Dw h
  unfold Kh at h
  refine Bp (csr (rm 2 rfl (sv rfl (An Aek rfl) (sv rfl (Bi rfl rfl) (Al (ccI h rfl (fun h => ?_) (fun h => ?_)))))))
  ·refine Be (Ab (Bp (Bf (csr (rm 1 rfl (sv rfl (A3 rfl) ?_))))))
   obtain ⟨u3, hu3, h⟩ := Ag h
   refine sv rfl (Bw (f := Ee) Aek (fun _ => rfl) rfl rfl rfl rfl hu3) ?_
   refine sv rfl (A6 Agg rfl) (sv rfl (Bq (ys := [Ii6 u3.Tx.Token, Ii6 u3.Tx.Snap, Ii6 u3.Tx.Ts, .sl u3.Tx.Reads.length (u3.Tx.Reads.flatMap A0), .sl u3.Tx.Writes.length (u3.Tx.Writes.flatMap Ac)]) Aej rfl (.cp _) rfl rfl) (Ce rfl Arq (A9 Arc rfl rfl rfl rfl (Nbl rfl) (Cc [.arr 70 15 0 (s2.2.flatMap Co), .box (EL.el u3.Tx)] rfl (Al ?_)))))
   obtain ⟨u4, hu4, h⟩ := Ag h
   obtain ⟨v5, hv5, h⟩ := Ag h
   obtain ⟨u6, hu6, h⟩ := Ag h
   obtain ⟨hb7, h⟩ := Cl h
   refine Ai6 [25] [0, 0, 2, 0, 8, 0, 32, 0, 128, 0, 512, 2046, 0, 0, 12288, 28672, 61440, 126976, 0, 0, 786432, 1835008, 3932160, 8388606, 16777214, 33554431] [[.arr 70 15 0 (s2.2.flatMap Co), .box (EL.el u3.Tx)], [.arr 70 15 0 ((s2.2 ++ ([(B0.mk (As.mk u3.Tx.Token u3.Tx.Snap u3.Tx.Ts u3.Tx.Reads u3.Tx.Writes) v5 u6.Regs)] : List B0)).flatMap Co), .box (EL.el u3.Tx)]] (by kernel_rfl) mixed (List.cons_ne_nil _ _) (by kernel_rfl) (by kernel_rfl) (by decide) rfl rfl rfl rfl ?_
   refine ev (Av 0 rfl rfl) rfl rfl (A3 rfl) (ev (Av 0 rfl rfl) rfl rfl (Aa Aaq rfl) (ev (Av 0 rfl rfl) rfl rfl (Ae ti3 rfl (.lp _ _ _ rfl) rfl) (ev (Av 0 rfl rfl) rfl rfl (Aa Tt rfl) (ev (Av 0 rfl rfl) rfl rfl (Ae ti3 rfl (.lp _ _ _ rfl) rfl) (ev (Av 0 rfl rfl) rfl rfl (Aa Qp rfl) (ev (Av 0 rfl rfl) rfl rfl (Ae ti3 rfl (.lp _ _ _ rfl) rfl) (ev (Av 0 rfl rfl) rfl rfl (Aa U5 rfl) (ev (Av 0 rfl rfl) rfl rfl (Ae Ahc rfl (.lp _ _ _ rfl) rfl) (ev (Av 0 rfl rfl) rfl rfl (Aa Qk rfl) (ev (Av 0 rfl rfl) rfl rfl (Ae Ry rfl (.lp _ _ _ rfl) rfl) (ev (Av 0 rfl rfl) rfl rfl (Bl Amf Ao9 (A1 rfl (A1 rfl (A1 rfl (A1 rfl (A1 rfl Ba))))) (Vv [Ii6 u3.Tx.Token, Ii6 0, Ii6 0, Znl, Znl] rfl rfl (Nbl rfl) rfl (Vv [Ii6 u3.Tx.Token, Ii6 u3.Tx.Snap, Ii6 0, Znl, Znl] rfl rfl (Nbl rfl) rfl (Vv [Ii6 u3.Tx.Token, Ii6 u3.Tx.Snap, Ii6 u3.Tx.Ts, Znl, Znl] rfl rfl (Nbl rfl) rfl (Vv [Ii6 u3.Tx.Token, Ii6 u3.Tx.Snap, Ii6 u3.Tx.Ts, .sl u3.Tx.Reads.length (u3.Tx.Reads.flatMap A0), Znl] rfl rfl (Nbl rfl) rfl (Vv [Ii6 u3.Tx.Token, Ii6 u3.Tx.Snap, Ii6 u3.Tx.Ts, .sl u3.Tx.Reads.length (u3.Tx.Reads.flatMap A0), .sl u3.Tx.Writes.length (u3.Tx.Writes.flatMap Ac)] rfl rfl (Nbl rfl) rfl (.nil _))))))) (ev (Av 0 rfl rfl) rfl rfl (A3 rfl) (ev (Av 0 rfl rfl) rfl rfl (A3 rfl) (ev (Av 0 rfl rfl) rfl rfl (Bw (f := Ee) Aek (fun _ => rfl) rfl rfl rfl rfl hu4) ?_))))))))))))))
   refine ev (Av 0 rfl rfl) rfl rfl (A6 Afs rfl) (ev (Av 0 rfl rfl) rfl rfl (Bq (ys := [.b u4.Prog.RO, .sl u4.Prog.Ops.length (u4.Prog.Ops.flatMap Md)]) Aj6 rfl (.cp _) rfl rfl) (ed (Av 0 rfl rfl) rfl rfl (C1 As7 (Ad rfl Aj) rfl (Ui hv5)) (ev (Av 0 rfl rfl) rfl rfl (A3 rfl) (ev (Av 0 rfl rfl) rfl rfl (A3 rfl) (ev (Av 0 rfl rfl) rfl rfl (Bw (f := Ee) Aek (fun _ => rfl) rfl rfl rfl rfl hu6) ?_)))))
   refine ev (Av 0 rfl rfl) rfl rfl (A6 Aj5 rfl) (ev (Av 0 rfl rfl) rfl rfl (Bq (ys := [Ii6 u6.Regs.R0, Ii6 u6.Regs.R1, Ii6 u6.Regs.R2, Ii6 u6.Regs.R3, Ii6 u6.Regs.R4, Ii6 u6.Regs.R5, Ii6 u6.Regs.R6, Ii6 u6.Regs.R7]) Amt rfl (.cp _) rfl rfl) (ev (Av 0 rfl rfl) rfl rfl (Bl Ars Atc (A1 rfl (A1 rfl (A1 rfl Ba))) (.cons _ _ _ _ _ _ _ rfl rfl (Nbl rfl) (.cons _ _ _ _ _ _ _ rfl rfl (Nbl rfl) (.cons _ _ _ _ _ _ _ rfl rfl (Nbl rfl) (.nil _))))) ?_))
   refine ed (Av 0 rfl rfl) rfl rfl (Acd (out := ([(B0.mk (As.mk u3.Tx.Token u3.Tx.Snap u3.Tx.Ts u3.Tx.Reads u3.Tx.Writes) v5 u6.Regs)] : List B0).flatMap Co) Tryz.underlying40 Art (A1 rfl Ba) (.cons _ _ _ _ _ _ _ rfl rfl (Nbl rfl) (.nil _)) rfl (by decide)) ?_
   refine ee (x := .s (.one (.ls 0 (s2.2 ++ ([(B0.mk (As.mk u3.Tx.Token u3.Tx.Snap u3.Tx.Ts u3.Tx.Reads u3.Tx.Writes) v5 u6.Regs)] : List B0)).length))) 0 rfl rfl rfl rfl rfl (fun ζ => ?_) ?_
   ·refine Wx (f := Co) (xs := s2.2) (us := ([(B0.mk (As.mk u3.Tx.Token u3.Tx.Snap u3.Tx.Ts u3.Tx.Reads u3.Tx.Writes) v5 u6.Regs)] : List B0)) rfl Tryz.underlying40 Art Ass (fun _ => rfl) rfl rfl (.one _ _ _ _ (.id _ rfl)) rfl rfl rfl (.sl _ _ _ (Ay (f := Co) (fun _ => rfl) _)) rfl rfl hb7 (by decide) ?_
    exact Ol
   refine Tb (rm 1 rfl (Hy (Am (Ab (Ax (rm 1 rfl (sv rfl (Bj rfl rfl) (rm 1 rfl (Al ?_)))))))))
   obtain rfl := SJ h
   exact ⟨(n2, ((wI (s2.1 + 1)), (s2.2 ++ ([(B0.mk (As.mk u3.Tx.Token u3.Tx.Snap u3.Tx.Ts u3.Tx.Reads u3.Tx.Writes) v5 u6.Regs)] : List B0)))), _, hk2, ⟨rfl, rfl, rfl, trivial⟩, rfl, Nat.lt_succ_self _⟩
  ·refine Dp (Aq (Aq (Bd (Ab ?_))))
   obtain rfl := SJ h
   obtain rfl : _ = x2 := hk2
   exact ⟨s2.2, _, ho2, ⟨rfl, trivial⟩, rfl⟩
def Lp (b1 : (List As)) : Option (List As) :=
 some b1
def Gr (a0 : List B0) (s2 : Int × (List As)) : Option (LB (Int × (List As)) ((List As))) :=
 if (decide (s2.1 < (a0.length : Int))) then ((idx a0 s2.1).bind fun u3 => if (s2.2.length + [u3.Tx].length) * 72 ≤ 140737488355328 then (some (.cont ((wI (s2.1 + 1)), (s2.2 ++ [u3.Tx])))) else none) else (some (.brk s2.2))
def Jk (a0 : List B0) : Option (List As) :=
 (Cw (Gr a0) fuel (0, ([] : List As))).bind fun e5 => Lp e5
theorem Tr {a0 : List B0} {r : (List As)} (h : Jk a0 = some r) : Bz Tryz.prog 16 [.one (.sl a0.length (a0.flatMap Co))] (· = .s (.one (.sl r.length (r.flatMap A5)))) := by
 unfold Jk at h
 refine A8 Tryz.func16 rfl (nt := 19) rfl (Nbl rfl) ?_
 intro w0 S0
 refine csr (rm 1 rfl (Al (csr (rm 1 rfl (Al (Bp (csr (rm 1 rfl (sv rfl (An Aor rfl) (rm 1 rfl (Al ?_)))))))))))
 refine H6 49 5 3 (by decide) rfl ?_
 refine C4 ((List As)) (fun b1 => [(3, .s (.one (.ls 0 b1.length)))]) (fun b1 => [.arr 49 5 0 (b1.flatMap A5)]) (fun b1 => Lp b1 = some r) (fun _ _ => Az rfl) (fun _ _ => Ak rfl) (fun _ _ => Nbl rfl) (fun b1 h => ?_) ?_
 ·unfold Lp at h
  refine csr (rm 2 rfl (Al (Bo ?_)))
  obtain rfl := SJ h
  refine ⟨Or.inr rfl, _, _, _, (Ai (B9.tmp _ _ rfl) Au), (by (repeat' first | exact Ga.nil _ | apply Ga.cons | apply F5.one | apply F5.agg | exact Ci.nil | exact Ci.ls _ _ _ _ _ _ rfl (Ay (f := A5) (fun _ => rfl) _).symm | exact Ci.id _ rfl | exact Cg.nil _ | apply Cg.cons)), ?_⟩
  rfl
 ·skip
  refine Bf ?_
  obtain ⟨x2, hx2, ho2⟩ := Ag h
  refine Bs (G := Nat × (Int × (List As))) (fun g => [(3, .s (.one (.ls 0 g.2.2.length))), (6, .s (.one (.sl a0.length (a0.flatMap Co)))), (7, .s (.one (Ii6 (a0.length : Int)))), (8, .s (.one (Ii6 g.2.1)))]) (fun g => [.arr 49 5 0 (g.2.2.flatMap A5)]) (fun g => Cw (Gr a0) g.1 g.2 = some x2) (fun g => g.1) (fuel, (0, ([] : List As))) hx2 ⟨rfl, rfl, rfl, rfl, trivial⟩ [] rfl (fun _ _ => Az rfl) (fun _ _ => Ak rfl) (fun _ _ => Nbl rfl) ?_
  clear hx2 h
  rintro ⟨n2, s2⟩ h
  obtain ⟨n2, y2, rfl, h, hk2⟩ := Dw h
  unfold Gr at h
  refine csr (sv rfl (Bi rfl rfl) (Al (Bp (ccI h rfl (fun h => ?_) (fun h => ?_)))))
  ·refine Be (Ab (Bp (Bf (Bp (Ax ?_)))))
   obtain ⟨u3, hu3, h⟩ := Ag h
   refine sv rfl (Bw (f := Co) Aor (fun _ => rfl) rfl rfl rfl rfl hu3) ?_
   refine sv rfl (Bq (ys := [Ii6 u3.Tx.Token, Ii6 u3.Tx.Snap, Ii6 u3.Tx.Ts, .sl u3.Tx.Reads.length (u3.Tx.Reads.flatMap A0), .sl u3.Tx.Writes.length (u3.Tx.Writes.flatMap Ac), .b u3.Prog.RO, .sl u3.Prog.Ops.length (u3.Prog.Ops.flatMap Eu), Ii6 u3.Regs.R0, Ii6 u3.Regs.R1, Ii6 u3.Regs.R2, Ii6 u3.Regs.R3, Ii6 u3.Regs.R4, Ii6 u3.Regs.R5, Ii6 u3.Regs.R6, Ii6 u3.Regs.R7]) Atn rfl (.cp _) rfl rfl) (Ce rfl Ars (A9 Asf rfl rfl rfl rfl (Nbl rfl) (Cc [.arr 49 5 0 (s2.2.flatMap A5), .box (EL.el u3)] rfl (Al (Ax (rm 1 rfl (sv rfl (Aa Am2 rfl) (sv rfl (Ap Uc rfl (.lp _ _ _ rfl) (Nbl rfl)) ?_))))))))
   refine Fw rfl Tryz.underlying53 Aod rfl rfl (List.all_eq_true.1 rfl) (by decide) ?_
   refine Cc [.arr 49 5 0 (s2.2.flatMap A5), .box (EL.el u3), .arr 49 5 0 ([u3.Tx].flatMap A5)] rfl ?_
   obtain ⟨hb4, h⟩ := Cl h
   refine Wx (f := A5) (xs := s2.2) (us := [u3.Tx]) rfl Tryz.underlying53 Aod Atu (fun _ => rfl) rfl rfl (.one _ _ _ _ (.ls _ _ _ _ _ _ rfl (Ay (f := A5) (fun _ => rfl) [u3.Tx]).symm)) rfl rfl rfl (.sl _ _ _ (Ay (f := A5) (fun _ => rfl) _)) rfl rfl hb4 (by decide) ?_
   refine rm 1 rfl (Hy (Am (Ab (Ax (sv rfl (Bj rfl rfl) (rm 1 rfl (Al ?_)))))))
   obtain rfl := SJ h
   exact ⟨(n2, ((wI (s2.1 + 1)), (s2.2 ++ [u3.Tx]))), _, hk2, ⟨rfl, rfl, rfl, rfl, trivial⟩, rfl, Nat.lt_succ_self _⟩
  ·refine Dp (Aq (Aq (Bd (Ab ?_))))
   obtain rfl := SJ h
   obtain rfl : _ = x2 := hk2
   exact ⟨s2.2, _, ho2, ⟨rfl, trivial⟩, rfl⟩
def D4 (a0 : Int) (a1 : Int) : Option Bool :=
 if (decide (0 ≤ a0)) then (some (decide (a0 ≤ a1))) else (some false)
theorem H9 {a0 : Int} {a1 : Int} {r : Bool} (h : D4 a0 a1 = some r) : Bz Tryz.prog 66 [.one (Ii6 a0), .one (Ii6 a1)] (· = .s (.one (.b r))) := by
 unfold D4 at h
 refine A8 Tryz.func66 rfl (nt := 12) rfl (Nbl rfl) ?_
 intro w0 S0
 refine csr (rm 1 rfl (Al (csr (rm 1 rfl (sv rfl (G6 rfl rfl) (rm 1 rfl (Bc 7 rfl (fun hc => ?_) (fun hc => ?_))))))))
 ·replace h := Bt hc h
  clear hc
  refine rm 2 rfl (son rfl rfl rfl (sv rfl (Eb rfl rfl) (rm 2 rfl (Al (Bo ?_)))))
  obtain rfl := SJ h
  exact dnT rfl rfl rfl rfl
 ·replace h := Bu hc h
  clear hc
  refine rm 5 rfl (Al (Bo ?_))
  obtain rfl := SJ h
  exact dnT rfl rfl rfl rfl
def Gn (a0 : Int) (b1 : Bool) : Option Ks :=
 if b1 then (some (Ks.mk true false true)) else (if (decide (a0 = 4)) then (some (Ks.mk false true false)) else (some (Ks.mk false false false)))
def Fv (a0 : Int) : Option Ks :=
 if (decide (a0 = 1)) then (some (Ks.mk true false false)) else (if (decide (a0 = 2)) then (Gn a0 (decide (a0 = 2))) else (Gn a0 (decide (a0 = 3))))
theorem Oo {a0 : Int} {r : Ks} (h : Fv a0 = some r) : Bz Tryz.prog 87 [.one (Ii6 a0)] (· = .s (.agg (EL.el r))) := by
 unfold Fv at h
 refine A8 Tryz.func87 rfl (nt := 15) rfl (Nbl rfl) ?_
 intro w0 S0
 refine csr (Ce rfl Aaa (Al (Bp (csr (rm 1 rfl (Al (Bf (csr (sv rfl (Bg rfl rfl) (rm 1 rfl (Al (ccI h rfl (fun h => ?_) (fun h => ?_)))))))))))))
 ·refine csr (sv rfl (Nu Aaa Ab0 (A1 rfl (A1 rfl (A1 rfl Ba))) (.cons _ _ _ _ _ _ _ rfl rfl (Nbl rfl) (.cons _ _ _ _ _ _ _ rfl rfl (Nbl rfl) (.cons _ _ _ _ _ _ _ rfl rfl (Nbl rfl) (.nil _))))) (A9 Aev rfl rfl rfl rfl (Nbl rfl) (Cc [.box [.b true, .b false, .b false]] rfl (Al (Bo (Ao (Ah ?_)))))))
  obtain rfl := SJ h
  exact dnA rfl Afg rfl (.lp _ _ _ rfl) (Nbl rfl) rfl rfl
 ·refine Bp (csr (sv rfl (Bg rfl rfl) (rm 1 rfl (Al (C4 (Bool) (fun b1 => [(2, .s (.one (.lp 0 0))), (3, .s (.one (Ii6 a0))), (7, .s (.one (.b b1)))]) (fun b1 => [.box [.b false, .b false, .b false]]) (fun b1 => Gn a0 b1 = some r) (fun _ _ => Az rfl) (fun _ _ => Ak rfl) (fun _ _ => Nbl rfl) (fun b1 h => ?_) ?_)))))
  ·unfold Gn at h
   refine ccI h rfl (fun h => ?_) (fun h => ?_)
   ·refine csr (sv rfl (Nu Aaa Ab0 (A1 rfl (A1 rfl (A1 rfl Ba))) (.cons _ _ _ _ _ _ _ rfl rfl (Nbl rfl) (.cons _ _ _ _ _ _ _ rfl rfl (Nbl rfl) (.cons _ _ _ _ _ _ _ rfl rfl (Nbl rfl) (.nil _))))) (A9 Aev rfl rfl rfl rfl (Nbl rfl) (Cc [.box [.b true, .b false, .b true]] rfl (Al (Bo (Ao (Ah ?_)))))))
    obtain rfl := SJ h
    exact dnA rfl Afg rfl (.lp _ _ _ rfl) (Nbl rfl) rfl rfl
   ·refine csr (sv rfl (Bg rfl rfl) (rm 1 rfl (Al (ccI h rfl (fun h => ?_) (fun h => ?_)))))
    ·refine csr (sv rfl (Nu Aaa Ab0 (A1 rfl (A1 rfl (A1 rfl Ba))) (.cons _ _ _ _ _ _ _ rfl rfl (Nbl rfl) (.cons _ _ _ _ _ _ _ rfl rfl (Nbl rfl) (.cons _ _ _ _ _ _ _ rfl rfl (Nbl rfl) (.nil _))))) (A9 Aev rfl rfl rfl rfl (Nbl rfl) (Cc [.box [.b false, .b true, .b false]] rfl (Al (Bo (Ao (Ah ?_)))))))
     obtain rfl := SJ h
     exact dnA rfl Afg rfl (.lp _ _ _ rfl) (Nbl rfl) rfl rfl
    ·refine Be (Am (Ab (csr (sv rfl (Nu Aaa Ab0 Ba (.nil _)) (A9 Aev rfl rfl rfl rfl (Nbl rfl) (Cc [.box [.b false, .b false, .b false]] rfl (Al (Bo ?_))))))))
     obtain rfl := SJ h
     exact dnA rfl Afg rfl (.lp _ _ _ rfl) (Nbl rfl) rfl rfl
  ·skip
   refine ccI h rfl (fun h => ?_) (fun h => ?_)
   ·refine Be (Ab ?_)
    exact ⟨(decide (a0 = 2)), _, h, ⟨rfl, rfl, rfl, trivial⟩, rfl⟩
   ·refine Ax (sv rfl (Bg rfl rfl) (rm 1 rfl (Al ?_)))
    exact ⟨(decide (a0 = 3)), _, h, ⟨rfl, rfl, rfl, trivial⟩, rfl⟩
def E7 (a0 : Ar) : Option Bool :=
 if (decide (0 < (a0.Lo.length : Int))) then (some true) else (if (decide (0 < (a0.Hi.length : Int))) then (some true) else (some a0.Open))
theorem Sn {a0 : Ar} {r : Bool} (h : E7 a0 = some r) : Bz Tryz.prog 88 [.agg (EL.el a0)] (· = .s (.one (.b r))) := by
 unfold E7 at h
 refine A8 Tryz.func88 rfl (nt := 17) rfl (Nbl rfl) ?_
 intro w0 S0
 refine csr (Kp rfl rfl (rm 1 rfl (Al (csr (fl Pm E6 rfl rfl rfl rfl rfl rfl (sv rfl (An Ku rfl) (sv rfl (B8 rfl rfl) (rm 1 rfl (Bc 7 rfl (fun hc => ?_) (fun hc => ?_))))))))))
 ·replace h := Bt hc h
  clear hc
  refine rm 10 rfl (Al (Bo ?_))
  obtain rfl := SJ h
  exact dnT rfl rfl rfl rfl
 ·replace h := Bu hc h
  clear hc
  refine son rfl rfl rfl (sv rfl (Aa Ng rfl) (son rfl rfl rfl (sv rfl (Ae E6 rfl (.lp _ _ _ rfl) rfl) (son rfl rfl rfl (sv rfl (An Ku rfl) (son rfl rfl rfl (sv rfl (B8 rfl rfl) (rm 2 rfl (Bc 13 rfl (fun hc => ?_) (fun hc => ?_))))))))))
  ·replace h := Bt hc h
   clear hc
   refine rm 4 rfl (Al (Bo ?_))
   obtain rfl := SJ h
   exact dnT rfl rfl rfl rfl
  ·replace h := Bu hc h
   clear hc
   refine son rfl rfl rfl (sv rfl (Aa U8 rfl) (son rfl rfl rfl (sv rfl (Ae ti4 rfl (.lp _ _ _ rfl) rfl) (rm 2 rfl (Al (Bo ?_))))))
   obtain rfl := SJ h
   exact dnT rfl rfl rfl rfl
def Dv (a0 : Ar) (b1 : Bool) : Option Bool :=
 if b1 then (some true) else ((Iz a0.Hi a0.Lo).bind fun v2 => some (decide (v2 ≤ 0)))
def Gu (a0 : Ar) : Option Bool :=
 if a0.Open then (some false) else (if (decide ((a0.Lo.length : Int) = 0)) then (if (decide ((a0.Hi.length : Int) = 1)) then ((idx a0.Hi 0).bind fun u3 => Dv a0 (decide ((u3.toBitVec.toNat : Int) = (0 : Int)))) else (Dv a0 false)) else (Dv a0 false))
theorem Ux {a0 : Ar} {r : Bool} (h : Gu a0 = some r) : Bz Tryz.prog 109 [.agg (EL.el a0)] (· = .s (.one (.b r))) := by
 unfold Gu at h
 refine A8 Tryz.func109 rfl (nt := 32) rfl (Nbl rfl) ?_
 intro w0 S0
 refine csr (Kp rfl rfl (rm 1 rfl (Al (Bp (csr (fl U8 ti4 rfl rfl rfl rfl rfl rfl (Al (ccI h rfl (fun h => ?_) (fun h => ?_)))))))))
 ·refine csr (rm 1 rfl (Al (Bo (Ah ?_))))
  obtain rfl := SJ h
  exact dnT rfl rfl rfl rfl
 ·refine Be (Ab (Bp (C4 (Bool) (fun b1 => [(1, .s (.one (.lp 0 0))), (3, .s (.one (.b b1)))]) (fun b1 => [.box (EL.el a0)]) (fun b1 => Dv a0 b1 = some r) (fun _ _ => Az rfl) (fun _ _ => Ak rfl) (fun _ _ => Nbl rfl) (fun b1 h => ?_) ?_)))
  ·unfold Dv at h
   refine csr (rm 2 rfl (Bc 24 rfl (fun hc => ?_) (fun hc => ?_)))
   ·replace h := Bt hc h
    clear hc
    refine rm 8 rfl (Al (Bo ?_))
    obtain rfl := SJ h
    exact dnT rfl rfl rfl rfl
   ·replace h := Bu hc h
    clear hc
    refine son rfl rfl rfl (sv rfl (Aa Ng rfl) (son rfl rfl rfl (sv rfl (Ae E6 rfl (.lp _ _ _ rfl) rfl) (son rfl rfl rfl (sv rfl (Aa Pm rfl) (son rfl rfl rfl (sv rfl (Ae E6 rfl (.lp _ _ _ rfl) rfl) (son rfl rfl rfl ?_))))))))
    obtain ⟨v2, hv2, h⟩ := Ag h
    refine Bn rfl Ane (Ad rfl (Ad rfl Aj)) (A4 rfl) (La hv2) (son rfl rfl rfl (sv rfl (Eb rfl rfl) (rm 2 rfl (Al (Bo ?_)))))
    obtain rfl := SJ h
    exact dnT rfl rfl rfl rfl
  ·skip
   refine Ax (fl Pm E6 rfl rfl rfl rfl rfl rfl (sv rfl (An Ku rfl) (sv rfl (Bg rfl rfl) (rm 1 rfl (Bc 10 rfl (fun hc => ?_) (fun hc => ?_))))))
   ·replace h := Bt hc h
    clear hc
    refine son rfl rfl rfl (sv rfl (Aa Ng rfl) (son rfl rfl rfl (sv rfl (Ae E6 rfl (.lp _ _ _ rfl) rfl) (son rfl rfl rfl (sv rfl (An Ku rfl) (son rfl rfl rfl (sv rfl (Bg rfl rfl) (rm 2 rfl (Bc 16 rfl (fun hc => ?_) (fun hc => ?_))))))))))
    ·replace h := Bt hc h
     clear hc
     refine son rfl rfl rfl (sv rfl (Aa Ng rfl) (son rfl rfl rfl (sv rfl (Ae E6 rfl (.lp _ _ _ rfl) rfl) (son rfl rfl rfl ?_))))
     obtain ⟨u3, hu3, h⟩ := Ag h
     refine sv rfl (Bw (f := eU8) Ku (fun _ => rfl) rfl rfl rfl rfl hu3) ?_
     refine son rfl rfl rfl (sv rfl (Ae ti5 rfl (.cp _) rfl) (son rfl rfl rfl (sv rfl (Bg rfl rfl) (rm 2 rfl (Al ?_)))))
     exact ⟨(decide ((u3.toBitVec.toNat : Int) = (0 : Int))), _, h, ⟨rfl, rfl, trivial⟩, rfl⟩
    ·replace h := Bu hc h
     clear hc
     refine rm 7 rfl (Al ?_)
     exact ⟨false, _, h, ⟨rfl, rfl, trivial⟩, rfl⟩
   ·replace h := Bu hc h
    clear hc
    refine rm 13 rfl (Al ?_)
    exact ⟨false, _, h, ⟨rfl, rfl, trivial⟩, rfl⟩
def Et (a0 : Ar) : Option Bool :=
 (Cd a0).bind fun v1 => if v1 then (if (decide ((a0.Lo.length : Int) ≤ 16)) then (if (decide ((a0.Hi.length : Int) ≤ 16)) then ((Gu a0).bind fun v2 => some (!v2)) else (some false)) else (some false)) else (some false)
theorem Rp {a0 : Ar} {r : Bool} (h : Et a0 = some r) : Bz Tryz.prog 90 [.agg (EL.el a0)] (· = .s (.one (.b r))) := by
 unfold Et at h
 refine A8 Tryz.func90 rfl (nt := 22) rfl (Nbl rfl) ?_
 intro w0 S0
 refine csr (Kp rfl rfl (rm 1 rfl (Al (csr (sv rfl (Ap Vd rfl (.lp _ _ _ rfl) (Nbl rfl)) ?_)))))
 obtain ⟨v1, hv1, h⟩ := Ag h
 refine Bn rfl Aq0 (Ad rfl Aj) (A4 rfl) (Nn hv1) (rm 1 rfl (Bc 5 rfl (fun hc => ?_) (fun hc => ?_)))
 ·replace h := Bt hc h
  clear hc
  refine son rfl rfl rfl (sv rfl (Aa Pm rfl) (son rfl rfl rfl (sv rfl (Ae E6 rfl (.lp _ _ _ rfl) rfl) (son rfl rfl rfl (sv rfl (An Ku rfl) (son rfl rfl rfl (sv rfl (Eb rfl rfl) (rm 2 rfl (Bc 11 rfl (fun hc => ?_) (fun hc => ?_))))))))))
  ·replace h := Bt hc h
   clear hc
   refine son rfl rfl rfl (sv rfl (Aa Ng rfl) (son rfl rfl rfl (sv rfl (Ae E6 rfl (.lp _ _ _ rfl) rfl) (son rfl rfl rfl (sv rfl (An Ku rfl) (son rfl rfl rfl (sv rfl (Eb rfl rfl) (rm 2 rfl (Bc 17 rfl (fun hc => ?_) (fun hc => ?_))))))))))
   ·replace h := Bt hc h
    clear hc
    refine son rfl rfl rfl (sv rfl (Ap Vd rfl (.lp _ _ _ rfl) (Nbl rfl)) (son rfl rfl rfl ?_))
    obtain ⟨v2, hv2, h⟩ := Ag h
    refine Bn rfl Apm (Ad rfl Aj) (A4 rfl) (Ux hv2) (son rfl rfl rfl (sv rfl (B1 rfl) (rm 2 rfl (Al (Bo ?_)))))
    obtain rfl := SJ h
    exact dnT rfl rfl rfl rfl
   ·replace h := Bu hc h
    clear hc
    refine rm 5 rfl (Al (Bo ?_))
    obtain rfl := SJ h
    exact dnT rfl rfl rfl rfl
  ·replace h := Bu hc h
   clear hc
   refine rm 11 rfl (Al (Bo ?_))
   obtain rfl := SJ h
   exact dnT rfl rfl rfl rfl
 ·replace h := Bu hc h
  clear hc
  refine rm 17 rfl (Al (Bo ?_))
  obtain rfl := SJ h
  exact dnT rfl rfl rfl rfl
def Dy (a0 : Cz) (b4 : Bool) : Option Bool :=
 if b4 then ((Dm a0.Key).bind fun v5 => some v5) else (if (decide (a0.What = 4)) then ((Et a0.Rng).bind fun v6 => some v6) else (if (decide (a0.What = 7)) then (some (decide (a0.N ≤ 24))) else (some true)))
def En (a0 : Cz) (b3 : Unit) : Option Bool :=
 if (decide (a0.What = 1)) then (Dy a0 (decide (a0.What = 1))) else (if (decide (a0.What = 2)) then (Dy a0 (decide (a0.What = 2))) else (Dy a0 (decide (a0.What = 3))))
def Ew (a0 : Cz) (a1 : Bool) (b1 : Unit) : Option Bool :=
 (Fv a0.What).bind fun v2 => (E7 a0.Rng).bind fun v7 => if (!(((decide (0 < (a0.Key.length : Int))) == v2.R0) && ((v7 == v2.R1) && ((v2.R2 == v2.R2) && true)))) then (some false) else (if a1 then (if v2.R2 then (some false) else (En a0 ())) else (En a0 ()))
def Dk (a0 : Cz) (a1 : Bool) : Option Bool :=
 (D4 (wI (a0.What - 1)) 7).bind fun v8 => if (!v8) then (some false) else ((D4 a0.A 7).bind fun v9 => if (!v9) then (some false) else ((D4 a0.B 7).bind fun v10 => if (!v10) then (some false) else ((D4 a0.N 4294967295).bind fun v11 => if (!v11) then (some false) else (Ew a0 a1 ()))))
theorem Ut {a0 : Cz} {a1 : Bool} {r : Bool} (h : Dk a0 a1 = some r) : Bz Tryz.prog 58 [.agg (EL.el a0), .one (.b a1)] (· = .s (.one (.b r))) := by
 unfold Dk at h
 refine A8 Tryz.func58 rfl (nt := 71) rfl (Nbl rfl) ?_
 intro w0 S0
 refine csr (Kp rfl rfl (rm 1 rfl (Al (Bp (Bp (I0 (Unit) (fun b1 => [(1, .s (.one (.b a1))), (2, .s (.one (.lp 0 0)))]) (fun b1 => [.box (EL.el a0)]) (fun b1 => Ew a0 a1 b1 = some r) (fun _ _ => Az rfl) (fun _ _ => Ak rfl) (fun _ _ => Nbl rfl) (fun b1 h => ?_) ?_))))))
 ·unfold Ew at h
  refine csr (sv rfl (Aa Sw rfl) (sv rfl (Ae ti3 rfl (.lp _ _ _ rfl) rfl) ?_))
  obtain ⟨v2, hv2, h⟩ := Ag h
  refine Bn rfl Aq2 (Ad rfl Aj) (A4 rfl) (Oo hv2) (Ce rfl Aaa (A9 Aev rfl rfl rfl rfl (Nbl rfl) (Cc [.box (EL.el a0), .box (EL.el v2)] rfl (Al (Bp (Ax ?_))))))
  refine sv rfl (Ahw (o := 2) Ab0 rfl rfl (by decide)) ?_
  refine sv rfl (Ae ti4 rfl (.lp _ _ _ rfl) rfl) (rm 1 rfl (Al (Bp (Bp (I0 (Unit) (fun b3 => [(2, .s (.one (.lp 0 0)))]) (fun b3 => [.box (EL.el a0), .box (EL.el v2)]) (fun b3 => En a0 b3 = some r) (fun _ _ => Az rfl) (fun _ _ => Ak rfl) (fun _ _ => Nbl rfl) (fun b3 h => ?_) ?_)))))
  ·unfold En at h
   refine Bp (csr (fl Sw ti3 rfl rfl rfl rfl rfl rfl (Al (Bf (Bp (csr (sv rfl (Bg rfl rfl) (rm 1 rfl (Al (C4 (Bool) (fun b4 => [(2, .s (.one (.lp 0 0))), (53, .s (.one (Ii6 a0.What))), (54, .s (.one (.b b4)))]) (fun b4 => [.box (EL.el a0), .box (EL.el v2)]) (fun b4 => Dy a0 b4 = some r) (fun _ _ => Az rfl) (fun _ _ => Ak rfl) (fun _ _ => Nbl rfl) (fun b4 h => ?_) ?_))))))))))
   ·unfold Dy at h
    refine ccI h rfl (fun h => ?_) (fun h => ?_)
    ·refine csr (sv rfl (Aa W0 rfl) (sv rfl (Ae E6 rfl (.lp _ _ _ rfl) rfl) ?_))
     obtain ⟨v5, hv5, h⟩ := Ag h
     refine Bn rfl Ao1 (Ad rfl Aj) (A4 rfl) (Oi hv5) (rm 1 rfl (Al (Bo (Ao (Ah ?_)))))
     obtain rfl := SJ h
     exact dnT rfl rfl rfl rfl
    ·refine csr (sv rfl (Bg rfl rfl) (rm 1 rfl (Al (ccI h rfl (fun h => ?_) (fun h => ?_)))))
     ·refine csr (sv rfl (Aa Aa9 rfl) (sv rfl (Ap Vd rfl (.lp _ _ _ rfl) (Nbl rfl)) ?_))
      obtain ⟨v6, hv6, h⟩ := Ag h
      refine Bn rfl Asl (Ad rfl Aj) (A4 rfl) (Rp hv6) (rm 1 rfl (Al (Bo (Ao (Ah ?_)))))
      obtain rfl := SJ h
      exact dnT rfl rfl rfl rfl
     ·refine csr (sv rfl (Bg rfl rfl) (rm 1 rfl (Al (ccI h rfl (fun h => ?_) (fun h => ?_)))))
      ·refine csr (fl V4 ti3 rfl rfl rfl rfl rfl rfl (sv rfl (Eb rfl rfl) (rm 1 rfl (Al (Bo (Ao (Ah ?_)))))))
       obtain rfl := SJ h
       exact dnT rfl rfl rfl rfl
      ·refine Be (Am (Ab (csr (rm 1 rfl (Al (Bo ?_))))))
       obtain rfl := SJ h
       exact dnT rfl rfl rfl rfl
   ·skip
    refine ccI h rfl (fun h => ?_) (fun h => ?_)
    ·refine Be (Ab ?_)
     exact ⟨(decide (a0.What = 1)), _, h, ⟨rfl, rfl, rfl, trivial⟩, rfl⟩
    ·refine csr (sv rfl (Bg rfl rfl) (rm 1 rfl (Al (ccI h rfl (fun h => ?_) (fun h => ?_)))))
     ·refine Be (Ab ?_)
      exact ⟨(decide (a0.What = 2)), _, h, ⟨rfl, rfl, rfl, trivial⟩, rfl⟩
     ·refine Ax (sv rfl (Bg rfl rfl) (rm 1 rfl (Al ?_)))
      exact ⟨(decide (a0.What = 3)), _, h, ⟨rfl, rfl, rfl, trivial⟩, rfl⟩
  ·skip
   refine Qc mixed (by kernel_rfl) ?_
   refine dv rfl (Aa W0 rfl) (dv rfl (Ae E6 rfl (.lp _ _ _ rfl) rfl) (dv rfl (An Ku rfl) (dv rfl (B8 rfl rfl) (dv rfl (Aa Aa9 rfl) (dv rfl (Ap Vd rfl (.lp _ _ _ rfl) (Nbl rfl)) ?_)))))
   obtain ⟨v7, hv7, h⟩ := Ag h
   refine dd rfl (C1 Atq (Ad rfl Aj) rfl (Sn hv7)) (dv rfl (A3 rfl) (dv rfl (Nu Aaa Ab0 (A1 rfl (A1 rfl (A1 rfl Ba))) (.cons _ _ _ _ _ _ _ rfl rfl (Nbl rfl) (.cons _ _ _ _ _ _ _ rfl rfl (Nbl rfl) (.cons _ _ _ _ _ _ _ rfl rfl (Nbl rfl) (.nil _))))) (dv rfl (Ap Afg rfl (.lp _ _ _ rfl) (Nbl rfl)) (dv rfl (Adb Ank rfl rfl rfl rfl rfl) (dv rfl (A3 rfl) (Mw 46 rfl (fun hc => ?_) (fun hc => ?_)))))))
   ·replace h := Bt hc h
    clear hc
    refine Dz rfl rfl rfl rfl (Dz rfl rfl rfl rfl (Jv rfl rfl rfl (Dz rfl rfl rfl rfl (dv rfl (Cs rfl rfl) (Py (Ab (Cm rfl (fun _ => ?_) (fun hx => Bool.noConfusion hx))))))))
    refine csr (rm 1 rfl (Al (Bo (Ah ?_))))
    obtain rfl := SJ h
    exact dnT rfl rfl rfl rfl
   ·replace h := Bu hc h
    clear hc
    refine dvg rfl rfl rfl (A3 rfl) (dvg rfl rfl rfl (A3 rfl) (Mw 48 rfl (fun hc => ?_) (fun hc => ?_)))
    ·replace h := Bt hc h
     clear hc
     refine dvg rfl rfl rfl (A3 rfl) (dvg rfl rfl rfl (Cs rfl rfl) (dv rfl (Cj rfl rfl) (Py (Ab (ccI h rfl (fun h => ?_) (fun h => ?_))))))
     ·refine csr (rm 1 rfl (Al (Bo (Ah ?_))))
      obtain rfl := SJ h
      exact dnT rfl rfl rfl rfl
     ·refine Be (Ab ?_)
      exact ⟨(), _, h, ⟨rfl, trivial⟩, rfl⟩
    ·replace h := Bu hc h
     clear hc
     refine Dz rfl rfl rfl rfl (dvg rfl rfl rfl (Cj rfl rfl) (dv rfl (Cj rfl rfl) (Py (Ab (Cm rfl (fun hx => Bool.noConfusion hx) (fun _ => ?_))))))
     refine Be (Ab ?_)
     exact ⟨(), _, h, ⟨rfl, trivial⟩, rfl⟩
 ·skip
  refine Ax (fl Sw ti3 rfl rfl rfl rfl rfl rfl (sv rfl (Qi rfl rfl) ?_))
  obtain ⟨v8, hv8, h⟩ := Ag h
  refine Bn rfl Amn (Ad rfl (Ad rfl Aj)) (A4 rfl) (H9 hv8) (sv rfl (B1 rfl) (rm 1 rfl (Bc 12 rfl (fun hc => ?_) (fun hc => ?_))))
  ·replace h := Bt hc h
   clear hc
   refine rm 17 rfl (Al (Cm rfl (fun _ => ?_) (fun hx => Bool.noConfusion hx)))
   refine csr (rm 1 rfl (Al (Bo (Ah ?_))))
   obtain rfl := SJ h
   exact dnT rfl rfl rfl rfl
  ·replace h := Bu hc h
   clear hc
   refine son rfl rfl rfl (sv rfl (Aa Rh rfl) (son rfl rfl rfl (sv rfl (Ae ti3 rfl (.lp _ _ _ rfl) rfl) (son rfl rfl rfl ?_))))
   obtain ⟨v9, hv9, h⟩ := Ag h
   refine Bn rfl Amn (Ad rfl (Ad rfl Aj)) (A4 rfl) (H9 hv9) (son rfl rfl rfl (sv rfl (B1 rfl) (rm 2 rfl (Bc 18 rfl (fun hc => ?_) (fun hc => ?_)))))
   ·replace h := Bt hc h
    clear hc
    refine rm 11 rfl (Al (Cm rfl (fun _ => ?_) (fun hx => Bool.noConfusion hx)))
    refine csr (rm 1 rfl (Al (Bo (Ah ?_))))
    obtain rfl := SJ h
    exact dnT rfl rfl rfl rfl
   ·replace h := Bu hc h
    clear hc
    refine son rfl rfl rfl (sv rfl (Aa Ud rfl) (son rfl rfl rfl (sv rfl (Ae ti3 rfl (.lp _ _ _ rfl) rfl) (son rfl rfl rfl ?_))))
    obtain ⟨v10, hv10, h⟩ := Ag h
    refine Bn rfl Amn (Ad rfl (Ad rfl Aj)) (A4 rfl) (H9 hv10) (son rfl rfl rfl (sv rfl (B1 rfl) (rm 2 rfl (Bc 24 rfl (fun hc => ?_) (fun hc => ?_)))))
    ·replace h := Bt hc h
     clear hc
     refine rm 5 rfl (Al (Cm rfl (fun _ => ?_) (fun hx => Bool.noConfusion hx)))
     refine csr (rm 1 rfl (Al (Bo (Ah ?_))))
     obtain rfl := SJ h
     exact dnT rfl rfl rfl rfl
    ·replace h := Bu hc h
     clear hc
     refine son rfl rfl rfl (sv rfl (Aa V4 rfl) (son rfl rfl rfl (sv rfl (Ae ti3 rfl (.lp _ _ _ rfl) rfl) (son rfl rfl rfl ?_))))
     obtain ⟨v11, hv11, h⟩ := Ag h
     refine Bn rfl Amn (Ad rfl (Ad rfl Aj)) (A4 rfl) (H9 hv11) (son rfl rfl rfl (sv rfl (B1 rfl) (rm 1 rfl (Al (ccI h rfl (fun h => ?_) (fun h => ?_))))))
     ·refine csr (rm 1 rfl (Al (Bo (Ah ?_))))
      obtain rfl := SJ h
      exact dnT rfl rfl rfl rfl
     ·refine Be (Ab ?_)
      exact ⟨(), _, h, ⟨rfl, rfl, trivial⟩, rfl⟩
def Jl (a0 : Cn) (b1 : Unit) : Option Bool :=
 some (decide ((a0.Ops.length : Int) ≤ 24))
def E5 (a0 : Cn) (s2 : Int) : Option (LR (Int) (Unit) (Bool)) :=
 if (decide (s2 < (a0.Ops.length : Int))) then ((idx a0.Ops s2).bind fun u3 => (Dk u3 a0.RO).bind fun v4 => if (!v4) then (some (.ret false)) else (some (.cont (wI (s2 + 1))))) else (some (.brk ()))
def Ev (a0 : Cn) : Option Bool :=
 (Fc (E5 a0) fuel 0).bind fun x => match x with | .inl r => some r | .inr e5 => Jl a0 e5
theorem Nz {a0 : Cn} {r : Bool} (h : Ev a0 = some r) : Bz Tryz.prog 30 [.agg (EL.el a0)] (· = .s (.one (.b r))) := by
 unfold Ev at h
 refine A8 Tryz.func30 rfl (nt := 22) rfl (Nbl rfl) ?_
 intro w0 S0
 refine csr (Kp rfl rfl (rm 1 rfl (Al (Bp (csr (fl Sb Ai2 rfl rfl rfl rfl rfl rfl (sv rfl (An Aiv rfl) (rm 1 rfl (Al (C4 (Unit) (fun b1 => [(1, .s (.one (.lp 0 0)))]) (fun b1 => [.box (EL.el a0)]) (fun b1 => Jl a0 b1 = some r) (fun _ _ => Az rfl) (fun _ _ => Ak rfl) (fun _ _ => Nbl rfl) (fun b1 h => ?_) ?_))))))))))
 ·unfold Jl at h
  refine csr (fl Sb Ai2 rfl rfl rfl rfl rfl rfl (sv rfl (An Aiv rfl) (sv rfl (Eb rfl rfl) (rm 1 rfl (Al (Bo ?_))))))
  obtain rfl := SJ h
  exact dnT rfl rfl rfl rfl
 ·skip
  refine Bf ?_
  obtain ⟨x2, hx2, ho2⟩ := Ag h
  refine Bs (G := Nat × (Int)) (fun g => [(1, .s (.one (.lp 0 0))), (6, .s (.one (.sl a0.Ops.length (a0.Ops.flatMap Eu)))), (7, .s (.one (Ii6 (a0.Ops.length : Int)))), (8, .s (.one (Ii6 g.2)))]) (fun g => [.box (EL.el a0)]) (fun g => Fc (E5 a0) g.1 g.2 = some x2) (fun g => g.1) (fuel, 0) hx2 ⟨rfl, rfl, rfl, rfl, trivial⟩ [] rfl (fun _ _ => Az rfl) (fun _ _ => Ak rfl) (fun _ _ => Nbl rfl) ?_
  clear hx2 h
  rintro ⟨n2, s2⟩ h
  obtain ⟨n2, y2, rfl, h, hk2⟩ := Dc h
  unfold E5 at h
  refine csr (sv rfl (Bi rfl rfl) (Al (Bp (ccI h rfl (fun h => ?_) (fun h => ?_)))))
  ·refine Be (Ab (Bp (Bf (Bp (Ax ?_)))))
   obtain ⟨u3, hu3, h⟩ := Ag h
   refine sv rfl (Bw (f := Eu) Aiv (fun _ => rfl) rfl rfl rfl rfl hu3) ?_
   refine sv rfl (Bq (ys := [Ii6 u3.What, Ii6 u3.A, Ii6 u3.B, Ii6 u3.N, .sl u3.Key.length (u3.Key.flatMap eU8), .sl u3.Rng.Lo.length (u3.Rng.Lo.flatMap eU8), .sl u3.Rng.Hi.length (u3.Rng.Hi.flatMap eU8), .b u3.Rng.Open]) Aad rfl (.cp _) rfl rfl) (Ce rfl Aix (A9 Akl rfl rfl rfl rfl (Nbl rfl) (Cc [.box (EL.el a0), .box (EL.el u3)] rfl (Al (csr (sv rfl (Ap Aad rfl (.lp _ _ _ rfl) (Nbl rfl)) (sv rfl (Aa Ant rfl) (sv rfl (Ae ti4 rfl (.lp _ _ _ rfl) rfl) ?_))))))))
   obtain ⟨v4, hv4, h⟩ := Ag h
   refine Bn rfl As8 (Ad rfl (Ad rfl Aj)) (A4 rfl) (Ut hv4) (sv rfl (B1 rfl) (Al (ccI h rfl (fun h => ?_) (fun h => ?_))))
   ·refine csr (rm 1 rfl (Al (Bo (Ao (Ah (Ah (Ao (Ah ?_))))))))
    obtain rfl := SJ h
    obtain rfl : Sum.inl _ = x2 := hk2
    replace ho2 : some _ = some _ := ho2
    obtain rfl := Option.some.inj ho2
    exact dnT rfl rfl rfl rfl
   ·refine Be (Am (Ab (Ax (sv rfl (Bj rfl rfl) (rm 1 rfl (Al ?_))))))
    obtain rfl := SJ h
    exact ⟨(n2, (wI (s2 + 1))), _, hk2, ⟨rfl, rfl, rfl, rfl, trivial⟩, rfl, Nat.lt_succ_self _⟩
  ·refine Dp (Aq (Aq (Bd (Ab ?_))))
   obtain rfl := SJ h
   obtain rfl : _ = x2 := hk2
   exact ⟨(), _, ho2, ⟨rfl, trivial⟩, rfl⟩
def M4 (b1 : (List (List UInt8))) : Option Bool :=
 (C5 b1).bind fun v2 => some v2
def My (a0 : List Aw) (s3 : Int × (List (List UInt8))) : Option (LB (Int × (List (List UInt8))) ((List (List UInt8)))) :=
 if (decide (s3.1 < (a0.length : Int))) then ((idx a0 s3.1).bind fun u4 => if (s3.2.length + [u4.Key].length) * 24 ≤ 140737488355328 then (some (.cont ((wI (s3.1 + 1)), (s3.2 ++ [u4.Key])))) else none) else (some (.brk s3.2))
def Lc (a0 : List Aw) : Option Bool :=
 (Cw (My a0) fuel (0, ([] : List (List UInt8)))).bind fun e6 => M4 e6
theorem Vl {a0 : List Aw} {r : Bool} (h : Lc a0 = some r) : Bz Tryz.prog 31 [.one (.sl a0.length (a0.flatMap A2))] (· = .s (.one (.b r))) := by
 unfold Lc at h
 refine A8 Tryz.func31 rfl (nt := 20) rfl (Nbl rfl) ?_
 intro w0 S0
 refine csr (rm 1 rfl (Al (csr (rm 1 rfl (Al (Bp (csr (rm 1 rfl (sv rfl (An P8 rfl) (rm 1 rfl (Al ?_)))))))))))
 refine H6 46 1 3 (by decide) rfl ?_
 refine C4 ((List (List UInt8))) (fun b1 => [(3, .s (.one (.ls 0 b1.length)))]) (fun b1 => [.arr 46 1 0 (b1.flatMap (eL eU8))]) (fun b1 => M4 b1 = some r) (fun _ _ => Az rfl) (fun _ _ => Ak rfl) (fun _ _ => Nbl rfl) (fun b1 h => ?_) ?_
 ·unfold M4 at h
  refine csr (sv rfl (A3 rfl) ?_)
  refine Vy 18 rfl (by (repeat' first | exact Ga.nil _ | apply Ga.cons | apply F5.one | apply F5.agg | exact Ci.nil | exact Ci.ls _ _ _ _ _ _ rfl (Ay (f := (eL eU8)) (fun _ => rfl) _).symm | exact Ci.id _ rfl | exact Cg.nil _ | apply Cg.cons)) ?_
  obtain ⟨v2, hv2, h⟩ := Ag h
  refine Bn rfl Aog (Ad rfl Aj) (A4 rfl) (Kw hv2) (rm 1 rfl (Al (Bo ?_)))
  obtain rfl := SJ h
  exact dnT rfl rfl rfl rfl
 ·skip
  refine Bf ?_
  obtain ⟨x3, hx3, ho3⟩ := Ag h
  refine Bs (G := Nat × (Int × (List (List UInt8)))) (fun g => [(3, .s (.one (.ls 0 g.2.2.length))), (6, .s (.one (.sl a0.length (a0.flatMap A2)))), (7, .s (.one (Ii6 (a0.length : Int)))), (8, .s (.one (Ii6 g.2.1)))]) (fun g => [.arr 46 1 0 (g.2.2.flatMap (eL eU8))]) (fun g => Cw (My a0) g.1 g.2 = some x3) (fun g => g.1) (fuel, (0, ([] : List (List UInt8)))) hx3 ⟨rfl, rfl, rfl, rfl, trivial⟩ [] rfl (fun _ _ => Az rfl) (fun _ _ => Ak rfl) (fun _ _ => Nbl rfl) ?_
  clear hx3 h
  rintro ⟨n3, s3⟩ h
  obtain ⟨n3, y3, rfl, h, hk3⟩ := Dw h
  unfold My at h
  refine csr (sv rfl (Bi rfl rfl) (Al (Bp (ccI h rfl (fun h => ?_) (fun h => ?_)))))
  ·refine Be (Ab (Bp (Bf (Bp (Ax ?_)))))
   obtain ⟨u4, hu4, h⟩ := Ag h
   refine sv rfl (Bw (f := A2) P8 (fun _ => rfl) rfl rfl rfl rfl hu4) ?_
   refine sv rfl (Bq (ys := [.sl u4.Key.length (u4.Key.flatMap eU8), .sl u4.Val.length (u4.Val.flatMap eU8)]) Ai0 rfl (.cp _) rfl rfl) (Ce rfl Ajb (A9 Ajw rfl rfl rfl rfl (Nbl rfl) (Cc [.arr 46 1 0 (s3.2.flatMap (eL eU8)), .box (EL.el u4)] rfl (Al (Ax (rm 1 rfl (sv rfl (Aa Ql rfl) (sv rfl (Ae E6 rfl (.lp _ _ _ rfl) rfl) ?_))))))))
   refine Fw rfl Tryz.underlying130 Ahb rfl rfl (List.all_eq_true.1 rfl) (by decide) ?_
   refine Cc [.arr 46 1 0 (s3.2.flatMap (eL eU8)), .box (EL.el u4), .arr 46 1 0 ([u4.Key].flatMap (eL eU8))] rfl ?_
   obtain ⟨hb5, h⟩ := Cl h
   refine Wx (f := (eL eU8)) (xs := s3.2) (us := [u4.Key]) rfl Tryz.underlying130 Ahb Ah1 (fun _ => rfl) rfl rfl (.one _ _ _ _ (.ls _ _ _ _ _ _ rfl (Ay (f := (eL eU8)) (fun _ => rfl) [u4.Key]).symm)) rfl rfl rfl (.sl _ _ _ (Ay (f := (eL eU8)) (fun _ => rfl) _)) rfl rfl hb5 (by decide) ?_
   refine rm 1 rfl (Hy (Am (Ab (Ax (sv rfl (Bj rfl rfl) (rm 1 rfl (Al ?_)))))))
   obtain rfl := SJ h
   exact ⟨(n3, ((wI (s3.1 + 1)), (s3.2 ++ [u4.Key]))), _, hk3, ⟨rfl, rfl, rfl, rfl, trivial⟩, rfl, Nat.lt_succ_self _⟩
  ·refine Dp (Aq (Aq (Bd (Ab ?_))))
   obtain rfl := SJ h
   obtain rfl : _ = x3 := hk3
   exact ⟨s3.2, _, ho3, ⟨rfl, trivial⟩, rfl⟩
def Ky (a0 : Cz) : Option Bool :=
 (Fv a0.What).bind fun v1 => some (!((v1.R0 == false) && ((v1.R1 == false) && ((v1.R2 == false) && true))))
theorem Qx {a0 : Cz} {r : Bool} (h : Ky a0 = some r) : Bz Tryz.prog 60 [.agg (EL.el a0)] (· = .s (.one (.b r))) := by
 unfold Ky at h
 refine A8 Tryz.func60 rfl (nt := 8) rfl (Nbl rfl) ?_
 intro w0 S0
 refine csr (Kp rfl rfl (rm 1 rfl (Al (csr (sv rfl (Aa Sw rfl) (sv rfl (Ae ti3 rfl (.lp _ _ _ rfl) rfl) ?_))))))
 obtain ⟨v1, hv1, h⟩ := Ag h
 refine Bn rfl Aq2 (Ad rfl Aj) (A4 rfl) (Oo hv1) (sv rfl (Nu Aaa Ab0 Ba (.nil _)) (sv rfl (Adb Ank rfl rfl rfl rfl rfl) (rm 1 rfl (Al (Bo ?_)))))
 obtain rfl := SJ h
 exact dnT rfl rfl rfl rfl
def H3 (a0 : Int) (b1 : Unit) : Option (List UInt8) :=
 if (decide (0 < (wI (a0 - (wI (0 - 0)))))) then (if 0 < (wI (a0 - (wI (0 - 0)))) ∧ (wI (a0 - (wI (0 - 0)))) * ((1 : Nat) : Int) ≤ 281474976710656 then (if (0 : Int) ≤ 0 ∧ 0 ≤ ((List.replicate (wI (a0 - (wI (0 - 0)))).toNat (0 : UInt8)).length : Int) then (some ((List.replicate (wI (a0 - (wI (0 - 0)))).toNat (0 : UInt8)).take (0 : Int).toNat)) else none) else none) else (some ([] : List UInt8))
def Iv (a0 : Int) : Option (List UInt8) :=
 if (decide (a0 < 0)) then none else (H3 a0 ())
theorem S7 {a0 : Int} {r : (List UInt8)} (h : Iv a0 = some r) : C3 Tryz.prog 114 [] [.one (Znl), .one (Ii6 a0)] (fun y m' => y = .s (.one (.ls 0 r.length)) ∧ m' = [.arr 5 1 0 (r.flatMap eU8)]) := by
 unfold Iv at h
 refine B3 Tryz.func114 rfl (nt := 27) rfl (Nbl rfl) ?_
 intro w0 S0 X0 H0
 refine csr (rm 1 rfl (Al (Bp (csr (rm 1 rfl (sv rfl (Bi rfl rfl) (Al (C4 (Unit) (fun b1 => [(0, .s (.one (Znl))), (1, .s (.one (Ii6 a0)))]) (fun b1 => []) (fun b1 => H3 a0 b1 = some r) (fun _ _ => Az rfl) (fun _ _ => Ak rfl) (fun _ _ => Nbl rfl) (fun b1 h => ?_) ?_))))))))
 ·unfold H3 at h
  refine Bp (csr (rm 2 rfl (sv rfl (Qg Ku rfl) (rm 1 rfl (sv rfl (Qe Ku rfl) (sv rfl (Qi rfl rfl) (sv rfl (Qi rfl rfl) (rm 1 rfl (Al (csr (rm 1 rfl (sv rfl (B8 rfl rfl) (Al (ccI h rfl (fun h => ?_) (fun h => ?_)))))))))))))))
  ·refine Ax (rm 2 rfl (sv rfl (Qg Ku rfl) (sv rfl (Tp Ku rfl rfl) (sv rfl (A3 rfl) ?_))))
   obtain ⟨hm2, h⟩ := Cl h
   refine Anw (f := eU8) (z := (0 : UInt8)) rfl Tryz.underlying46 ei5 Tryz.underlying3 (fun _ => rfl) rfl rfl rfl hm2 (by decide) ?_
   refine rm 1 rfl (sv rfl (Qe Ku rfl) ?_)
   obtain ⟨hs3, h⟩ := Cl h
   refine Ajn (f := eU8) rfl Ku (fun _ => rfl) rfl rfl rfl rfl rfl hs3 ?_
   refine rm 1 rfl (Al (csr (rm 2 rfl (Al (Bo ?_)))))
   obtain rfl := SJ h
   exact ⟨Or.inr rfl, _, [1], [.one (.ls 0 ((List.replicate (wI (a0 - (wI (0 - 0)))).toNat (0 : UInt8)).take (0 : Int).toNat).length)], [.arr 5 1 0 (((List.replicate (wI (a0 - (wI (0 - 0)))).toNat (0 : UInt8)).take (0 : Int).toNat).flatMap eU8)], (Ai (B9.tmp _ _ rfl) Au), rfl, rfl, ⟨by decide, rfl⟩, rfl, rfl, ⟨rfl, rfl⟩⟩
  ·refine Be (Ab (csr (rm 2 rfl (Al ?_))))
   refine H6 5 1 4 (by decide) rfl ?_
   refine Bo ?_
   obtain rfl := SJ h
   exact ⟨Or.inr rfl, _, [0], [.one (.ls 0 ([] : List UInt8).length)], [.arr 5 1 0 (([] : List UInt8).flatMap eU8)], (Ai (B9.tmp _ _ rfl) Au), rfl, rfl, ⟨by decide, rfl⟩, rfl, rfl, ⟨rfl, rfl⟩⟩
 ·skip
  refine ccI h rfl (fun h => ?_) (fun h => ?_)
  ·cases h
  ·refine Be (Ab ?_)
   exact ⟨(), _, h, ⟨rfl, rfl, trivial⟩, rfl⟩
def Ka (b3 : (List UInt8)) : Option (List UInt8) :=
 some b3
def Ed (a0 : List (List UInt8)) (s4 : Int × (List UInt8)) : Option (LB (Int × (List UInt8)) ((List UInt8))) :=
 if (decide (s4.1 < (a0.length : Int))) then ((idx a0 s4.1).bind fun u5 => if (s4.2.length + u5.length) * 1 ≤ 140737488355328 then (some (.cont ((wI (s4.1 + 1)), (s4.2 ++ u5)))) else none) else (some (.brk s4.2))
def Hh (a0 : List (List UInt8)) (b1 : Int) : Option (List UInt8) :=
 (Iv b1).bind fun v2 => (Cw (Ed a0) fuel (0, v2)).bind fun e7 => Ka e7
def Ef (a0 : List (List UInt8)) (s8 : Int × Int) : Option (LB (Int × Int) (Int)) :=
 if (decide (s8.2 < (a0.length : Int))) then ((idx a0 s8.2).bind fun u9 => if (decide ((wI (s8.1 + (u9.length : Int))) < 0)) then none else (some (.cont ((wI (s8.1 + (u9.length : Int))), (wI (s8.2 + 1)))))) else (some (.brk s8.1))
def Fu (a0 : List (List UInt8)) : Option (List UInt8) :=
 (Cw (Ef a0) fuel (0, 0)).bind fun e10 => Hh a0 e10
theorem Np {a0 : List (List UInt8)} {r : (List UInt8)} (h : Fu a0 = some r) : C3 Tryz.prog 94 [] [.one (.sl a0.length (a0.flatMap (eL eU8)))] (fun y m' => y = .s (.one (.ls 0 r.length)) ∧ m' = [.arr 5 1 0 (r.flatMap eU8)]) := by
 unfold Fu at h
 refine B3 Tryz.func94 rfl (nt := 36) rfl (Nbl rfl) ?_
 intro w0 S0 X0 H0
 refine csr (rm 1 rfl (Al (csr (rm 1 rfl (Al (Bp (csr (rm 1 rfl (sv rfl (An Wf rfl) (rm 1 rfl (Al (C4 (Int) (fun b1 => [(0, .s (.one (.sl a0.length (a0.flatMap (eL eU8))))), (3, .s (.one (Ii6 b1)))]) (fun b1 => []) (fun b1 => Hh a0 b1 = some r) (fun _ _ => Az rfl) (fun _ _ => Ak rfl) (fun _ _ => Nbl rfl) (fun b1 h => ?_) ?_))))))))))))
 ·unfold Hh at h
  refine csr (sv rfl (A3 rfl) ?_)
  obtain ⟨v2, hv2, h⟩ := Ag h
  refine Dx (x' := .s (.one (.ls 0 v2.length))) (M' := [.arr 5 1 0 (v2.flatMap eU8)]) [] rfl Ao7 (.func _) (Ad rfl (Ad rfl Aj)) (S7 hv2) rfl rfl (by decide) rfl rfl rfl ?_
  refine rm 1 rfl (Al (Bp (csr (rm 1 rfl (sv rfl (An Wf rfl) (rm 1 rfl (Al (C4 ((List UInt8)) (fun b3 => [(6, .s (.one (.ls 0 b3.length)))]) (fun b3 => [.arr 5 1 0 (b3.flatMap eU8)]) (fun b3 => Ka b3 = some r) (fun _ _ => Az rfl) (fun _ _ => Ak rfl) (fun _ _ => Nbl rfl) (fun b3 h => ?_) ?_))))))))
  ·unfold Ka at h
   refine csr (rm 2 rfl (Al (Bo ?_)))
   obtain rfl := SJ h
   exact ⟨Or.inr rfl, _, [0], [.one (.ls 0 b3.length)], [.arr 5 1 0 (b3.flatMap eU8)], (Ai (B9.tmp _ _ rfl) Au), rfl, rfl, ⟨by decide, rfl⟩, rfl, rfl, ⟨rfl, rfl⟩⟩
  ·skip
   refine Bf ?_
   obtain ⟨x4, hx4, ho4⟩ := Ag h
   refine Bs (G := Nat × (Int × (List UInt8))) (fun g => [(6, .s (.one (.ls 0 g.2.2.length))), (25, .s (.one (.sl a0.length (a0.flatMap (eL eU8))))), (26, .s (.one (Ii6 (a0.length : Int)))), (27, .s (.one (Ii6 g.2.1)))]) (fun g => [.arr 5 1 0 (g.2.2.flatMap eU8)]) (fun g => Cw (Ed a0) g.1 g.2 = some x4) (fun g => g.1) (fuel, (0, v2)) hx4 ⟨rfl, rfl, rfl, rfl, trivial⟩ [] rfl (fun _ _ => Az rfl) (fun _ _ => Ak rfl) (fun _ _ => Nbl rfl) ?_
   clear hx4 h
   rintro ⟨n4, s4⟩ h
   obtain ⟨n4, y4, rfl, h, hk4⟩ := Dw h
   unfold Ed at h
   refine csr (sv rfl (Bi rfl rfl) (Al (Bp (ccI h rfl (fun h => ?_) (fun h => ?_)))))
   ·refine Be (Ab (Bp (Bf (Bp (Ax ?_)))))
    obtain ⟨u5, hu5, h⟩ := Ag h
    refine sv rfl (Bw (f := (eL eU8)) Wf (fun _ => rfl) rfl rfl rfl rfl hu5) ?_
    refine sv rfl (Ae E6 rfl (.cp _) rfl) (rm 1 rfl (Al (Ax (rm 1 rfl (sv rfl (A3 rfl) ?_)))))
    obtain ⟨hb6, h⟩ := Cl h
    refine Wx (f := eU8) (xs := s4.2) (us := u5) rfl Tryz.underlying46 ei5 Apo (fun _ => rfl) rfl rfl (.one _ _ _ _ (.id _ rfl)) rfl rfl rfl (.sl _ _ _ (Ay (f := eU8) (fun _ => rfl) _)) rfl rfl hb6 (by decide) ?_
    refine rm 1 rfl (Hy (Am (Ab (Ax (sv rfl (Bj rfl rfl) (rm 1 rfl (Al ?_)))))))
    obtain rfl := SJ h
    exact ⟨(n4, ((wI (s4.1 + 1)), (s4.2 ++ u5))), _, hk4, ⟨rfl, rfl, rfl, rfl, trivial⟩, rfl, Nat.lt_succ_self _⟩
   ·refine Dp (Aq (Aq (Bd (Ab ?_))))
    obtain rfl := SJ h
    obtain rfl : _ = x4 := hk4
    exact ⟨s4.2, _, ho4, ⟨rfl, trivial⟩, rfl⟩
 ·skip
  refine Bf ?_
  obtain ⟨x8, hx8, ho8⟩ := Ag h
  refine Bs (G := Nat × (Int × Int)) (fun g => [(0, .s (.one (.sl a0.length (a0.flatMap (eL eU8))))), (3, .s (.one (Ii6 g.2.1))), (9, .s (.one (.sl a0.length (a0.flatMap (eL eU8))))), (10, .s (.one (Ii6 (a0.length : Int)))), (11, .s (.one (Ii6 g.2.2)))]) (fun g => []) (fun g => Cw (Ef a0) g.1 g.2 = some x8) (fun g => g.1) (fuel, (0, 0)) hx8 ⟨rfl, rfl, rfl, rfl, rfl, trivial⟩ [] rfl (fun _ _ => Az rfl) (fun _ _ => Ak rfl) (fun _ _ => Nbl rfl) ?_
  clear hx8 h
  rintro ⟨n8, s8⟩ h
  obtain ⟨n8, y8, rfl, h, hk8⟩ := Dw h
  unfold Ef at h
  refine csr (sv rfl (Bi rfl rfl) (Al (Bp (ccI h rfl (fun h => ?_) (fun h => ?_)))))
  ·refine Be (Ab (Bp (Bf (Bp (Ax ?_)))))
   obtain ⟨u9, hu9, h⟩ := Ag h
   refine sv rfl (Bw (f := (eL eU8)) Wf (fun _ => rfl) rfl rfl rfl rfl hu9) ?_
   refine sv rfl (Ae E6 rfl (.cp _) rfl) (rm 1 rfl (Al (csr (rm 2 rfl (sv rfl (An Ku rfl) (sv rfl (Bj rfl rfl) (rm 1 rfl (Al (csr (rm 1 rfl (sv rfl (Bi rfl rfl) (Al (ccI h rfl (fun h => ?_) (fun h => ?_))))))))))))))
   ·cases h
   ·refine Be (Am (Ab (Ax (sv rfl (Bj rfl rfl) (rm 1 rfl (Al ?_))))))
    obtain rfl := SJ h
    exact ⟨(n8, ((wI (s8.1 + (u9.length : Int))), (wI (s8.2 + 1)))), _, hk8, ⟨rfl, rfl, rfl, rfl, rfl, trivial⟩, rfl, Nat.lt_succ_self _⟩
  ·refine Dp (Aq (Aq (Bd (Ab ?_))))
   obtain rfl := SJ h
   obtain rfl : _ = x8 := hk8
   exact ⟨s8.1, _, ho8, ⟨rfl, rfl, trivial⟩, rfl⟩
def P5 (a0 : List UInt8) (b2 : (List UInt8)) : Option (List UInt8) :=
 (Fu [a0, b2]).bind fun v3 => some v3
def Qf (a1 : BitVec 64) (a2 : Int) (s4 : Int × (List UInt8)) : Option (LB (Int × (List UInt8)) ((List UInt8))) :=
 if (decide (s4.1 < ((List.replicate (if (if 8 < a2 then 8 else a2) > 0 then (if 8 < a2 then 8 else a2) else 0).toNat (0 : UInt8)).length : Int))) then (if 0 ≤ (wI (8 * s4.1)) then ((idx s4.2 s4.1).bind fun u6 => some (.cont ((wI (s4.1 + 1)), (s4.2.set s4.1.toNat (UInt8.ofBitVec ((a1 >>> (wI (8 * s4.1)).toNat).setWidth 8)))))) else none) else (some (.brk s4.2))
def Ul (a0 : List UInt8) (a1 : BitVec 64) (a2 : Int) : Option (List UInt8) :=
 if (0 : Int) ≤ (if (if 8 < a2 then 8 else a2) > 0 then (if 8 < a2 then 8 else a2) else 0) ∧ (if (if 8 < a2 then 8 else a2) > 0 then (if 8 < a2 then 8 else a2) else 0) ≤ (if (if 8 < a2 then 8 else a2) > 0 then (if 8 < a2 then 8 else a2) else 0) ∧ ((1 : Nat) : Int) * (if (if 8 < a2 then 8 else a2) > 0 then (if 8 < a2 then 8 else a2) else 0) ≤ 281474976710656 then ((Cw (Qf a1 a2) fuel (0, (List.replicate (if (if 8 < a2 then 8 else a2) > 0 then (if 8 < a2 then 8 else a2) else 0).toNat (0 : UInt8)))).bind fun e7 => P5 a0 e7) else none
theorem Zr {a0 : List UInt8} {a1 : BitVec 64} {a2 : Int} {r : (List UInt8)} (h : Ul a0 a1 a2 = some r) : Bz Tryz.prog 110 [.one (.sl a0.length (a0.flatMap eU8)), .one (.i .u64 (a1.toNat : Int)), .one (Ii6 a2)] (· = .s (.one (.sl r.length (r.flatMap eU8)))) := by
 unfold Ul at h
 refine A8 Tryz.func110 rfl (nt := 32) rfl (Nbl rfl) ?_
 intro w0 S0
 refine csr (rm 1 rfl (Al (csr (rm 1 rfl (sv rfl (Vz rfl rfl) (sv rfl (Aln rfl rfl) (rm 1 rfl (Al (csr (sv rfl (A3 rfl) ?_))))))))))
 obtain ⟨hm1, h⟩ := Cl h
 refine smk (f := eU8) (z := (0 : UInt8)) rfl Tryz.underlying46 ei5 (fun _ => rfl) rfl rfl rfl hm1 (by decide) ?_
 refine rm 1 rfl (Al (Bp (csr (rm 1 rfl (sv rfl (Lw Ku rfl rfl (Ay (f := eU8) (fun _ => rfl) _).symm) ?_)))))
 refine rm 1 rfl (Al (C4 ((List UInt8)) (fun b2 => [(0, .s (.one (.sl a0.length (a0.flatMap eU8)))), (7, .s (.one (.ls 0 b2.length)))]) (fun b2 => [.arr 5 1 0 (b2.flatMap eU8)]) (fun b2 => P5 a0 b2 = some r) (fun _ _ => Az rfl) (fun _ _ => Ak rfl) (fun _ _ => Nbl rfl) (fun b2 h => ?_) ?_))
 ·unfold P5 at h
  refine csr (rm 1 rfl (sv rfl (A3 rfl) ?_))
  refine Vy 29 rfl (by (repeat' first | exact Ga.nil _ | apply Ga.cons | apply F5.one | apply F5.agg | exact Ci.nil | exact Ci.ls _ _ _ _ _ _ rfl (Ay (f := eU8) (fun _ => rfl) _).symm | exact Ci.id _ rfl | exact Cg.nil _ | apply Cg.cons)) ?_
  refine W6 (out := ([a0, b2] : List (List UInt8)).flatMap (eL eU8)) rfl Tryz.underlying130 Ahb (A1 rfl (A1 rfl Ba)) (.cons _ _ _ _ _ _ _ rfl rfl (Nbl rfl) (.cons _ _ _ _ _ _ _ rfl rfl (Nbl rfl) (.nil _))) rfl (by decide) ?_
  refine Vy 30 rfl (by (repeat' first | exact Ga.nil _ | apply Ga.cons | apply F5.one | apply F5.agg | exact Ci.nil | exact Ci.ls _ _ _ _ _ _ rfl (Ay (f := (eL eU8)) (fun _ => rfl) ([a0, b2] : List (List UInt8))).symm | exact Ci.ls _ _ _ _ _ _ rfl (Ay (f := (eL eU8)) (fun _ => rfl) _).symm | exact Ci.ls _ _ _ _ _ _ rfl (Ay (f := eU8) (fun _ => rfl) _).symm | exact Ci.id _ rfl | exact Cg.nil _ | apply Cg.cons)) ?_
  obtain ⟨v3, hv3, h⟩ := Ag h
  refine Dx (x' := .s (.one (.ls 2 v3.length))) (M' := [.arr 5 1 (b2.flatMap eU8).length (b2.flatMap eU8), .arr 46 1 ([a0, b2].flatMap (eL eU8)).length ([a0, b2].flatMap (eL eU8)), .arr 5 1 0 (v3.flatMap eU8)]) [] rfl Arr (.func _) (Ad rfl Aj) (Np hv3) rfl rfl (by decide) rfl rfl rfl ?_
  refine rm 1 rfl (Al (Bo ?_))
  obtain rfl := SJ h
  refine ⟨Or.inr rfl, _, _, _, (Ai (B9.tmp _ _ rfl) Au), (by (repeat' first | exact Ga.nil _ | apply Ga.cons | apply F5.one | apply F5.agg | exact Ci.nil | exact Ci.ls _ _ _ _ _ _ rfl (Ay (f := (eL eU8)) (fun _ => rfl) _).symm | exact Ci.ls _ _ _ _ _ _ rfl (Ay (f := eU8) (fun _ => rfl) _).symm | exact Ci.id _ rfl | exact Cg.nil _ | apply Cg.cons)), ?_⟩
  rfl
 ·skip
  refine Bf ?_
  obtain ⟨x4, hx4, ho4⟩ := Ag h
  refine Bs (G := Nat × (Int × (List UInt8))) (fun g => [(0, .s (.one (.sl a0.length (a0.flatMap eU8)))), (1, .s (.one (.i .u64 (a1.toNat : Int)))), (7, .s (.one (.ls 0 g.2.2.length))), (15, .s (.one (Ii6 ((List.replicate (if (if 8 < a2 then 8 else a2) > 0 then (if 8 < a2 then 8 else a2) else 0).toNat (0 : UInt8)).length : Int)))), (16, .s (.one (Ii6 g.2.1)))]) (fun g => [.arr 5 1 0 (g.2.2.flatMap eU8)]) (fun g => Cw (Qf a1 a2) g.1 g.2 = some x4) (fun g => g.1) (fuel, (0, (List.replicate (if (if 8 < a2 then 8 else a2) > 0 then (if 8 < a2 then 8 else a2) else 0).toNat (0 : UInt8)))) hx4 ⟨rfl, rfl, rfl, rfl, rfl, trivial⟩ [] rfl (fun _ _ => Az rfl) (fun _ _ => Ak rfl) (fun _ _ => Nbl rfl) ?_
  clear hx4 h
  rintro ⟨n4, s4⟩ h
  obtain ⟨n4, y4, rfl, h, hk4⟩ := Dw h
  unfold Qf at h
  refine csr (sv rfl (Bi rfl rfl) (Al (Bp (ccI h rfl (fun h => ?_) (fun h => ?_)))))
  ·refine Be (Ab (Bp (Bf (csr (rm 2 rfl (Al (Ax (rm 4 rfl (sv rfl (Yy rfl rfl) ?_)))))))))
   obtain ⟨hz5, h⟩ := Cl h
   refine sv rfl (Abq (a := a1) rfl rfl rfl hz5) (sv rfl (M2 (k := .u64) (a := (a1 >>> (wI (8 * s4.1)).toNat)) rfl Tryz.underlying165 Tryz.underlying5 rfl rfl) ?_)
   obtain ⟨u6, hu6, h⟩ := Ag h
   refine sv rfl (V6 (f := eU8) Ku (fun _ => rfl) rfl rfl rfl rfl rfl hu6) ?_
   refine Al5 (f := eU8) (u' := (UInt8.ofBitVec ((a1 >>> (wI (8 * s4.1)).toNat).setWidth 8))) (sz := 1) 0 sz5 (fun _ => rfl) rfl rfl rfl rfl rfl rfl rfl (List.all_eq_true.1 rfl) (Sf hu6).2 (Nbl rfl) rfl ?_
   refine Abg 7 (y := .s (.one (.ls 0 s4.2.length))) (.s (.one (.ls 0 (s4.2.set s4.1.toNat (UInt8.ofBitVec ((a1 >>> (wI (8 * s4.1)).toNat).setWidth 8))).length))) rfl (congrArg (fun n => AV.s (.one (.ls 0 n))) List.length_set.symm) ?_
   refine Abg 19 (y := .s (.one (.ls 0 s4.2.length))) (.s (.one (.ls 0 (s4.2.set s4.1.toNat (UInt8.ofBitVec ((a1 >>> (wI (8 * s4.1)).toNat).setWidth 8))).length))) rfl (congrArg (fun n => AV.s (.one (.ls 0 n))) List.length_set.symm) ?_
   refine Hy (Am (Ab (Ax (sv rfl (Bj rfl rfl) (rm 1 rfl (Al ?_))))))
   obtain rfl := SJ h
   exact ⟨(n4, ((wI (s4.1 + 1)), (s4.2.set s4.1.toNat (UInt8.ofBitVec ((a1 >>> (wI (8 * s4.1)).toNat).setWidth 8))))), _, hk4, ⟨rfl, rfl, rfl, rfl, rfl, trivial⟩, rfl, Nat.lt_succ_self _⟩
  ·refine Dp (Aq (Aq (Bd (Ab ?_))))
   obtain rfl := SJ h
   obtain rfl : _ = x4 := hk4
   exact ⟨s4.2, _, ho4, ⟨rfl, rfl, trivial⟩, rfl⟩
def Ow (a0 : Int) : Option (List UInt8) :=
 (Ul ([] : List UInt8) (BitVec.ofInt 64 a0) 4).bind fun v1 => some v1
theorem Xc {a0 : Int} {r : (List UInt8)} (h : Ow a0 = some r) : Bz Tryz.prog 91 [.one (Ii6 a0)] (· = .s (.one (.sl r.length (r.flatMap eU8)))) := by
 unfold Ow at h
 refine A8 Tryz.func91 rfl (nt := 6) rfl (Nbl rfl) ?_
 intro w0 S0
 refine csr (rm 1 rfl (Al (csr (rm 1 rfl (sv rfl (On rfl Tryz.underlying3 Tryz.underlying165 rfl) ?_)))))
 obtain ⟨v1, hv1, h⟩ := Ag h
 refine Bn rfl Aqr (Ad rfl (Ad rfl (Ad rfl Aj))) (Sj rfl) (Zr hv1) (rm 1 rfl (Al (Bo ?_)))
 obtain rfl := SJ h
 exact dnT rfl rfl rfl rfl
def C6 (a0 : Cz) (a1 : Bb) : Option Hs :=
 if (decide (a0.What = 1)) then (some (Hs.mk 3 0 0 0 false a0.Key ([] : List UInt8) Nv)) else (if (decide (a0.What = 2)) then (if 0 ≤ a0.B ∧ a0.B < ((8 : Nat) : Int) then ((idx [a1.Regs.R0, a1.Regs.R1, a1.Regs.R2, a1.Regs.R3, a1.Regs.R4, a1.Regs.R5, a1.Regs.R6, a1.Regs.R7] a0.B).bind fun u2 => (Ow u2).bind fun v3 => some (Hs.mk 4 0 0 0 false a0.Key v3 Nv)) else none) else (if (decide (a0.What = 3)) then (some (Hs.mk 5 0 0 0 false a0.Key ([] : List UInt8) Nv)) else (some (Hs.mk 6 0 0 0 false ([] : List UInt8) ([] : List UInt8) a0.Rng))))
theorem Tm {a0 : Cz} {a1 : Bb} {r : Hs} (h : C6 a0 a1 = some r) : Bz Tryz.prog 61 [.agg (EL.el a0), .agg (EL.el a1)] (· = .s (.agg (EL.el r))) := by
 unfold C6 at h
 refine A8 Tryz.func61 rfl (nt := 31) rfl (Nbl rfl) ?_
 intro w0 S0
 refine csr (Kp rfl rfl (Kp rfl rfl (Ce rfl Ahe (Al (Bp (csr (fl Sw ti3 rfl rfl rfl rfl rfl rfl (Al (Bf (csr (sv rfl (Bg rfl rfl) (rm 1 rfl (Al (ccI h rfl (fun h => ?_) (fun h => ?_)))))))))))))))
 ·refine csr (fl W0 E6 rfl rfl rfl rfl rfl rfl (sv rfl (Bl Ahe Alr (A1 rfl (A1 rfl Ba)) (.cons _ _ _ _ _ _ _ rfl rfl (Nbl rfl) (.cons _ _ _ _ _ _ _ rfl rfl (Nbl rfl) (.nil _)))) (A9 Ahj rfl rfl rfl rfl (Nbl rfl) (Cc [.box (EL.el a0), .box (EL.el a1), .box [Ii6 3, Ii6 0, Ii6 0, Ii6 0, .b false, .sl a0.Key.length (a0.Key.flatMap eU8), Znl, Znl, Znl, .b false]] rfl (Al (Bo (Ao (Ah ?_))))))))
  obtain rfl := SJ h
  refine ⟨Or.inr rfl, _, _, _, (Ai (B9.agg _ _ _ _ _ Aht rfl (.lp _ _ _ rfl) (Nbl rfl)) Au), (Sj rfl), ?_⟩
  rfl
 ·refine csr (sv rfl (Bg rfl rfl) (rm 1 rfl (Al (ccI h rfl (fun h => ?_) (fun h => ?_)))))
  ·refine Bp ?_
   obtain ⟨hj1, h⟩ := Cl h
   obtain ⟨u2, hu2, h⟩ := Ag h
   obtain ⟨v3, hv3, h⟩ := Ag h
   refine Ei [9] [0, 1, 0, 4, 0, 28, 60, 124, 255, 511] [[.box (EL.el a0), .box (EL.el a1), .box Zbb], [.box (EL.el a0), .box (EL.el a1), .box [Ii6 4, Ii6 0, Ii6 0, Ii6 0, .b false, .sl a0.Key.length (a0.Key.flatMap eU8), .sl v3.length (v3.flatMap eU8), Znl, Znl, .b false]]] (by kernel_rfl) mixed (by kernel_rfl) (by decide) rfl rfl rfl rfl ?_
   refine ev (Av 0 rfl rfl) rfl rfl (Aa W0 rfl) (ev (Av 0 rfl rfl) rfl rfl (Ae E6 rfl (.lp _ _ _ rfl) rfl) (ev (Av 0 rfl rfl) rfl rfl (Aa Ud rfl) (ev (Av 0 rfl rfl) rfl rfl (Ae ti3 rfl (.lp _ _ _ rfl) rfl) (ev (Av 0 rfl rfl) rfl rfl (Aa Pv rfl) (ev (Av 0 rfl rfl) rfl rfl (Eh Vt rfl rfl hj1) (ev (Av 0 rfl rfl) rfl rfl (Ou (fun x => Ii6 x) [.b a1.Stopped] ti3 rfl rfl rfl hu2) ?_))))))
   refine ed (Av 0 rfl rfl) rfl rfl (C1 As9 (Ad rfl Aj) rfl (Xc hv3)) (ev (Av 0 rfl rfl) rfl rfl (Bl Ahe Alr (A1 rfl (A1 rfl (A1 rfl Ba))) (.cons _ _ _ _ _ _ _ rfl rfl (Nbl rfl) (.cons _ _ _ _ _ _ _ rfl rfl (Nbl rfl) (.cons _ _ _ _ _ _ _ rfl rfl (Nbl rfl) (.nil _))))) (ee0 0 rfl rfl rfl rfl (fun ζ => ?_) ?_))
   ·refine A9 Ahj rfl rfl rfl rfl (Nbl rfl) (Cc [.box (EL.el a0), .box (EL.el a1), .box [Ii6 4, Ii6 0, Ii6 0, Ii6 0, .b false, .sl a0.Key.length (a0.Key.flatMap eU8), .sl v3.length (v3.flatMap eU8), Znl, Znl, .b false]] rfl ?_)
    exact Ol
   refine Tb (Ab (Bo (Ao (Ah ?_))))
   obtain rfl := SJ h
   refine ⟨Or.inr rfl, _, _, _, (Ai (B9.agg _ _ _ _ _ Aht rfl (.lp _ _ _ rfl) (Nbl rfl)) Au), (Sj rfl), ?_⟩
   rfl
  ·refine csr (sv rfl (Bg rfl rfl) (rm 1 rfl (Al (ccI h rfl (fun h => ?_) (fun h => ?_)))))
   ·refine csr (fl W0 E6 rfl rfl rfl rfl rfl rfl (sv rfl (Bl Ahe Alr (A1 rfl (A1 rfl Ba)) (.cons _ _ _ _ _ _ _ rfl rfl (Nbl rfl) (.cons _ _ _ _ _ _ _ rfl rfl (Nbl rfl) (.nil _)))) (A9 Ahj rfl rfl rfl rfl (Nbl rfl) (Cc [.box (EL.el a0), .box (EL.el a1), .box [Ii6 5, Ii6 0, Ii6 0, Ii6 0, .b false, .sl a0.Key.length (a0.Key.flatMap eU8), Znl, Znl, Znl, .b false]] rfl (Al (Bo (Ao (Ah ?_))))))))
    obtain rfl := SJ h
    refine ⟨Or.inr rfl, _, _, _, (Ai (B9.agg _ _ _ _ _ Aht rfl (.lp _ _ _ rfl) (Nbl rfl)) Au), (Sj rfl), ?_⟩
    rfl
   ·refine Be (Am (Ab (csr (sv rfl (Aa Aa9 rfl) (sv rfl (Ap Vd rfl (.lp _ _ _ rfl) (Nbl rfl)) (sv rfl (Bl Ahe Alr (A1 rfl (A1 rfl Ba)) (.cons _ _ _ _ _ _ _ rfl rfl (Nbl rfl) (.cons _ _ _ _ _ _ _ rfl rfl (Nbl rfl) (.nil _)))) (A9 Ahj rfl rfl rfl rfl (Nbl rfl) (Cc [.box (EL.el a0), .box (EL.el a1), .box [Ii6 6, Ii6 0, Ii6 0, Ii6 0, .b false, Znl, Znl, .sl a0.Rng.Lo.length (a0.Rng.Lo.flatMap eU8), .sl a0.Rng.Hi.length (a0.Rng.Hi.flatMap eU8), .b a0.Rng.Open]] rfl (Al (Bo ?_))))))))))
    obtain rfl := SJ h
    refine ⟨Or.inr rfl, _, _, _, (Ai (B9.agg _ _ _ _ _ Aht rfl (.lp _ _ _ rfl) (Nbl rfl)) Au), (Sj rfl), ?_⟩
    rfl
def Ff (a0 : Int) : Option Int :=
 some (wI ((BitVec.ofInt 32 a0).toNat : Int))
theorem O8 {a0 : Int} {r : Int} (h : Ff a0 = some r) : Bz Tryz.prog 92 [.one (Ii6 a0)] (· = .s (.one (Ii6 r))) := by
 unfold Ff at h
 refine A8 Tryz.func92 rfl (nt := 6) rfl (Nbl rfl) ?_
 intro w0 S0
 refine csr (rm 1 rfl (Al (csr (rm 1 rfl (sv rfl (On rfl Tryz.underlying3 Tryz.underlying173 rfl) (sv rfl (Lx Tryz.underlying173 Tryz.underlying3 rfl) (rm 1 rfl (Al (Bo ?_)))))))))
 obtain rfl := SJ h
 exact dnT rfl rfl rfl rfl
def Ju (a0 : Cz) (a1 : Bb) : Option Bb :=
 if (decide (a0.What = 5)) then (if 0 ≤ a0.A ∧ a0.A < ((8 : Nat) : Int) then ((Ck (C2.mk a1.Regs.R0 a1.Regs.R1 a1.Regs.R2 a1.Regs.R3 a1.Regs.R4 a1.Regs.R5 a1.Regs.R6 a1.Regs.R7) a0.A a0.N).bind fun q2 => some (Bb.mk (wI (a1.PC + 1)) q2 a1.Stopped)) else none) else (if (decide (a0.What = 6)) then (if 0 ≤ a0.A ∧ a0.A < ((8 : Nat) : Int) then ((idx [a1.Regs.R0, a1.Regs.R1, a1.Regs.R2, a1.Regs.R3, a1.Regs.R4, a1.Regs.R5, a1.Regs.R6, a1.Regs.R7] a0.A).bind fun u4 => if 0 ≤ a0.B ∧ a0.B < ((8 : Nat) : Int) then ((idx [a1.Regs.R0, a1.Regs.R1, a1.Regs.R2, a1.Regs.R3, a1.Regs.R4, a1.Regs.R5, a1.Regs.R6, a1.Regs.R7] a0.B).bind fun u6 => (Ff (wI ((wI (u4 + u6)) + a0.N))).bind fun v7 => if 0 ≤ a0.A ∧ a0.A < ((8 : Nat) : Int) then ((Ck (C2.mk a1.Regs.R0 a1.Regs.R1 a1.Regs.R2 a1.Regs.R3 a1.Regs.R4 a1.Regs.R5 a1.Regs.R6 a1.Regs.R7) a0.A v7).bind fun q9 => some (Bb.mk (wI (a1.PC + 1)) q9 a1.Stopped)) else none) else none) else none) else (if (decide (a0.What = 7)) then (if 0 ≤ a0.A ∧ a0.A < ((8 : Nat) : Int) then ((idx [a1.Regs.R0, a1.Regs.R1, a1.Regs.R2, a1.Regs.R3, a1.Regs.R4, a1.Regs.R5, a1.Regs.R6, a1.Regs.R7] a0.A).bind fun u11 => if (decide (u11 = 0)) then (some (Bb.mk (wI ((wI (a1.PC + 1)) + a0.N)) a1.Regs a1.Stopped)) else (some (Bb.mk (wI (a1.PC + 1)) a1.Regs a1.Stopped))) else none) else (if (decide (a0.What = 8)) then (some (Bb.mk (wI (a1.PC + 1)) a1.Regs true)) else (some (Bb.mk (wI (a1.PC + 1)) a1.Regs a1.Stopped)))))
theorem Vn {a0 : Cz} {a1 : Bb} {r : Bb} (h : Ju a0 a1 = some r) : Bz Tryz.prog 62 [.agg (EL.el a0), .agg (EL.el a1)] (· = .s (.agg (EL.el r))) := by
 unfold Ju at h
 refine A8 Tryz.func62 rfl (nt := 58) rfl (Nbl rfl) ?_
 intro w0 S0
 refine csr (Kp rfl rfl (Kp rfl rfl (Ce rfl Acz (Al (csr (fl Ot ti3 rfl rfl rfl rfl rfl rfl (sv rfl (Bj rfl rfl) (sv rfl (Aa Ot rfl) (A9 sz3 rfl rfl rfl rfl (Nbl rfl) (Cc [.box (EL.el a0), .box (EL.el {a1 with PC := wI (a1.PC + 1)}), .box Zba] rfl (Al (Bp (csr (fl Sw ti3 rfl rfl rfl rfl rfl rfl (Al (Bf (csr (sv rfl (Bg rfl rfl) (rm 1 rfl (Al (ccI h rfl (fun h => ?_) (fun h => ?_))))))))))))))))))))))
 ·refine Ax (fl Rh ti3 rfl rfl rfl rfl rfl rfl (fl V4 ti3 rfl rfl rfl rfl rfl rfl (sv rfl (Aa Pv rfl) ?_)))
  obtain ⟨hj1, h⟩ := Cl h
  refine sv rfl (Eh Vt rfl rfl hj1) ?_
  obtain ⟨q2, hq2, h⟩ := Ag h
  refine A9 sz3 rfl rfl rfl rfl (Ro hj1 (Nbl rfl)) (Cc [.box (EL.el a0), .box [Ii6 (wI (a1.PC + 1)), Ii6 q2.R0, Ii6 q2.R1, Ii6 q2.R2, Ii6 q2.R3, Ii6 q2.R4, Ii6 q2.R5, Ii6 q2.R6, Ii6 q2.R7, .b a1.Stopped], .box Zba] (K0 (Aa7 hq2 [Ii6 (wI (a1.PC + 1))] [.b a1.Stopped])) (Hy (Am (Ab (csr (sv rfl (Ap Qm rfl (.lp _ _ _ rfl) (Nbl rfl)) (A9 Vm rfl rfl rfl rfl (Nbl rfl) (Cc [.box (EL.el a0), .box [Ii6 (wI (a1.PC + 1)), Ii6 q2.R0, Ii6 q2.R1, Ii6 q2.R2, Ii6 q2.R3, Ii6 q2.R4, Ii6 q2.R5, Ii6 q2.R6, Ii6 q2.R7, .b a1.Stopped], .box [Ii6 (wI (a1.PC + 1)), Ii6 q2.R0, Ii6 q2.R1, Ii6 q2.R2, Ii6 q2.R3, Ii6 q2.R4, Ii6 q2.R5, Ii6 q2.R6, Ii6 q2.R7, .b a1.Stopped]] rfl (Al (Bo ?_))))))))))
  obtain rfl := SJ h
  exact dnA rfl Qm rfl (.lp _ _ _ rfl) (Nbl rfl) rfl rfl
 ·refine csr (sv rfl (Bg rfl rfl) (rm 1 rfl (Al (ccI h rfl (fun h => ?_) (fun h => ?_)))))
  ·obtain ⟨hj3, h⟩ := Cl h
   obtain ⟨u4, hu4, h⟩ := Ag h
   obtain ⟨hj5, h⟩ := Cl h
   obtain ⟨u6, hu6, h⟩ := Ag h
   obtain ⟨v7, hv7, h⟩ := Ag h
   obtain ⟨hj8, h⟩ := Cl h
   obtain ⟨q9, hq9, h⟩ := Ag h
   refine Ei [19] [0, 1, 0, 4, 0, 28, 60, 0, 128, 0, 896, 1920, 4092, 0, 8192, 32764, 65532, 0, 262143, 524287] [[.box (EL.el a0), .box (EL.el {a1 with PC := wI (a1.PC + 1)}), .box Zba], [.box (EL.el a0), .box [Ii6 (wI (a1.PC + 1)), Ii6 q9.R0, Ii6 q9.R1, Ii6 q9.R2, Ii6 q9.R3, Ii6 q9.R4, Ii6 q9.R5, Ii6 q9.R6, Ii6 q9.R7, .b a1.Stopped], .box Zba]] (by kernel_rfl) mixed (by kernel_rfl) (by decide) rfl rfl rfl rfl ?_
   refine ev (Av 0 rfl rfl) rfl rfl (Aa Rh rfl) (ev (Av 0 rfl rfl) rfl rfl (Ae ti3 rfl (.lp _ _ _ rfl) rfl) (ev (Av 0 rfl rfl) rfl rfl (Aa Rh rfl) (ev (Av 0 rfl rfl) rfl rfl (Ae ti3 rfl (.lp _ _ _ rfl) rfl) (ev (Av 0 rfl rfl) rfl rfl (Aa Pv rfl) (ev (Av 0 rfl rfl) rfl rfl (Eh Vt rfl rfl hj3) (ev (Av 0 rfl rfl) rfl rfl (Ou (fun x => Ii6 x) [.b a1.Stopped] ti3 rfl rfl rfl hu4) ?_))))))
   refine ev (Av 0 rfl rfl) rfl rfl (Aa Ud rfl) (ev (Av 0 rfl rfl) rfl rfl (Ae ti3 rfl (.lp _ _ _ rfl) rfl) (ev (Av 0 rfl rfl) rfl rfl (Aa Pv rfl) (ev (Av 0 rfl rfl) rfl rfl (Eh Vt rfl rfl hj5) (ev (Av 0 rfl rfl) rfl rfl (Ou (fun x => Ii6 x) [.b a1.Stopped] ti3 rfl rfl rfl hu6) ?_))))
   refine ev (Av 0 rfl rfl) rfl rfl (Bj rfl rfl) (ev (Av 0 rfl rfl) rfl rfl (Aa V4 rfl) (ev (Av 0 rfl rfl) rfl rfl (Ae ti3 rfl (.lp _ _ _ rfl) rfl) (ev (Av 0 rfl rfl) rfl rfl (Bj rfl rfl) (ed (Av 0 rfl rfl) rfl rfl (C1 Arn (Ad rfl Aj) rfl (O8 hv7)) (ev (Av 0 rfl rfl) rfl rfl (Aa Pv rfl) (ev (Av 0 rfl rfl) rfl rfl (Eh Vt rfl rfl hj8) (ee0 0 rfl rfl rfl rfl (fun ζ => ?_) ?_)))))))
   ·refine A9 sz3 rfl rfl rfl rfl (Ro hj8 (Nbl rfl)) (Cc [.box (EL.el a0), .box [Ii6 (wI (a1.PC + 1)), Ii6 q9.R0, Ii6 q9.R1, Ii6 q9.R2, Ii6 q9.R3, Ii6 q9.R4, Ii6 q9.R5, Ii6 q9.R6, Ii6 q9.R7, .b a1.Stopped], .box Zba] (K0 (Aa7 hq9 [Ii6 (wI (a1.PC + 1))] [.b a1.Stopped])) ?_)
    exact Ol
   refine Tb (Am (Ab (csr (sv rfl (Ap Qm rfl (.lp _ _ _ rfl) (Nbl rfl)) (A9 Vm rfl rfl rfl rfl (Nbl rfl) (Cc [.box (EL.el a0), .box [Ii6 (wI (a1.PC + 1)), Ii6 q9.R0, Ii6 q9.R1, Ii6 q9.R2, Ii6 q9.R3, Ii6 q9.R4, Ii6 q9.R5, Ii6 q9.R6, Ii6 q9.R7, .b a1.Stopped], .box [Ii6 (wI (a1.PC + 1)), Ii6 q9.R0, Ii6 q9.R1, Ii6 q9.R2, Ii6 q9.R3, Ii6 q9.R4, Ii6 q9.R5, Ii6 q9.R6, Ii6 q9.R7, .b a1.Stopped]] rfl (Al (Bo ?_))))))))
   obtain rfl := SJ h
   exact dnA rfl Qm rfl (.lp _ _ _ rfl) (Nbl rfl) rfl rfl
  ·refine csr (sv rfl (Bg rfl rfl) (rm 1 rfl (Al (ccI h rfl (fun h => ?_) (fun h => ?_)))))
   ·refine csr (fl Rh ti3 rfl rfl rfl rfl rfl rfl (sv rfl (Aa Pv rfl) ?_))
    obtain ⟨hj10, h⟩ := Cl h
    refine sv rfl (Eh Vt rfl rfl hj10) ?_
    obtain ⟨u11, hu11, h⟩ := Ag h
    refine sv rfl (Ou (fun x => Ii6 x) [.b a1.Stopped] ti3 rfl rfl rfl hu11) ?_
    refine sv rfl (Bg rfl rfl) (Al (ccI h rfl (fun h => ?_) (fun h => ?_)))
    ·refine Ax (fl Ot ti3 rfl rfl rfl rfl rfl rfl (fl V4 ti3 rfl rfl rfl rfl rfl rfl (sv rfl (Bj rfl rfl) (sv rfl (Aa Ot rfl) (A9 sz3 rfl rfl rfl rfl (Nbl rfl) (Cc [.box (EL.el a0), .box (EL.el {a1 with PC := wI ((wI (a1.PC + 1)) + a0.N)}), .box Zba] rfl (Hy (Am (Ab (csr (sv rfl (Ap Qm rfl (.lp _ _ _ rfl) (Nbl rfl)) (A9 Vm rfl rfl rfl rfl (Nbl rfl) (Cc [.box (EL.el a0), .box (EL.el {a1 with PC := wI ((wI (a1.PC + 1)) + a0.N)}), .box (EL.el {a1 with PC := wI ((wI (a1.PC + 1)) + a0.N)})] rfl (Al (Bo ?_)))))))))))))))
     obtain rfl := SJ h
     exact dnA rfl Qm rfl (.lp _ _ _ rfl) (Nbl rfl) rfl rfl
    ·refine Be (Am (Ab (csr (sv rfl (Ap Qm rfl (.lp _ _ _ rfl) (Nbl rfl)) (A9 Vm rfl rfl rfl rfl (Nbl rfl) (Cc [.box (EL.el a0), .box (EL.el {a1 with PC := wI (a1.PC + 1)}), .box (EL.el {a1 with PC := wI (a1.PC + 1)})] rfl (Al (Bo ?_))))))))
     obtain rfl := SJ h
     exact dnA rfl Qm rfl (.lp _ _ _ rfl) (Nbl rfl) rfl rfl
   ·refine csr (sv rfl (Bg rfl rfl) (rm 1 rfl (Al (ccI h rfl (fun h => ?_) (fun h => ?_)))))
    ·refine Ax (sv rfl (Aa Agt rfl) (A9 sz4 rfl rfl rfl rfl (Nbl rfl) (Cc [.box (EL.el a0), .box (EL.el (A7.mk (wI (a1.PC + 1)) a1.Regs true)), .box Zba] rfl (Hy (Am (Ab (csr (sv rfl (Ap Qm rfl (.lp _ _ _ rfl) (Nbl rfl)) (A9 Vm rfl rfl rfl rfl (Nbl rfl) (Cc [.box (EL.el a0), .box (EL.el (A7.mk (wI (a1.PC + 1)) a1.Regs true)), .box (EL.el (A7.mk (wI (a1.PC + 1)) a1.Regs true))] rfl (Al (Bo ?_))))))))))))
     obtain rfl := SJ h
     exact dnA rfl Qm rfl (.lp _ _ _ rfl) (Nbl rfl) rfl rfl
    ·refine Be (Am (Ab (csr (sv rfl (Ap Qm rfl (.lp _ _ _ rfl) (Nbl rfl)) (A9 Vm rfl rfl rfl rfl (Nbl rfl) (Cc [.box (EL.el a0), .box (EL.el {a1 with PC := wI (a1.PC + 1)}), .box (EL.el {a1 with PC := wI (a1.PC + 1)})] rfl (Al (Bo ?_))))))))
     obtain rfl := SJ h
     exact dnA rfl Qm rfl (.lp _ _ _ rfl) (Nbl rfl) rfl rfl
def Jo (a0 : Cn) (b2 : Bb) : Option (Hs × Bb × Bool) :=
 some (Y6, (Bb.mk (if (a0.Ops.length : Int) < b2.PC then (a0.Ops.length : Int) else b2.PC) b2.Regs b2.Stopped), false)
def Jf (a0 : Cn) (s3 : Bb) (b4 : Unit) : Option (LR (Bb) (Bb) (Hs × Bb × Bool)) :=
 (idx a0.Ops s3.PC).bind fun u5 => (Ky u5).bind fun v6 => if v6 then ((C6 u5 s3).bind fun v7 => some (.ret (v7, s3, true))) else ((Ju u5 s3).bind fun v8 => some (.cont v8))
def Ea (a0 : Cn) (s3 : Bb) : Option (LR (Bb) (Bb) (Hs × Bb × Bool)) :=
 if (decide (s3.PC < (a0.Ops.length : Int))) then (if (!s3.Stopped) then (Jf a0 s3 ()) else (some (.brk s3))) else (some (.brk s3))
def Ji (a0 : Cn) (a1 : Bb) (b1 : Unit) : Option (Hs × Bb × Bool) :=
 (Fc (Ea a0) fuel a1).bind fun x => match x with | .inl r => some r | .inr e9 => Jo a0 e9
def Hk (a0 : Cn) (a1 : Bb) : Option (Hs × Bb × Bool) :=
 (Ev a0).bind fun v10 => if (!v10) then (some (Y6, a1, false)) else (if (decide (a1.PC < 0)) then (some (Y6, a1, false)) else (Ji a0 a1 ()))
theorem W4 {a0 : Cn} {a1 : Bb} {r : Hs × Bb × Bool} (h : Hk a0 a1 = some r) : Bz Tryz.prog 32 [.agg (EL.el a0), .agg (EL.el a1)] (· = .tup [.agg (EL.el r.1), .agg (EL.el r.2.1), .one (.b r.2.2)]) := by
 unfold Hk at h
 refine A8 Tryz.func32 rfl (nt := 53) rfl (Nbl rfl) ?_
 intro w0 S0
 refine csr (Kp rfl rfl (Kp rfl rfl (Ce rfl Ahe (Ce rfl Acz (rm 1 rfl (Al (Bp (Bp (I0 (Unit) (fun b1 => [(2, .s (.one (.lp 0 0))), (3, .s (.one (.lp 1 0))), (4, .s (.one (.lp 2 0))), (5, .s (.one (.lp 3 0)))]) (fun b1 => [.box (EL.el a0), .box (EL.el a1), .box Zbb, .box Zba]) (fun b1 => Ji a0 a1 b1 = some r) (fun _ _ => Az rfl) (fun _ _ => Ak rfl) (fun _ _ => Nbl rfl) (fun b1 h => ?_) ?_)))))))))
 ·unfold Ji at h
  refine Bp (C4 (Bb) (fun b2 => [(2, .s (.one (.lp 0 0))), (3, .s (.one (.lp 1 0))), (4, .s (.one (.lp 2 0))), (5, .s (.one (.lp 3 0)))]) (fun b2 => [.box (EL.el a0), .box (EL.el b2), .box Zbb, .box Zba]) (fun b2 => Jo a0 b2 = some r) (fun _ _ => Az rfl) (fun _ _ => Ak rfl) (fun _ _ => Nbl rfl) (fun b2 h => ?_) ?_)
  ·unfold Jo at h
   refine csr (fl Ot ti3 rfl rfl rfl rfl rfl rfl (fl Sb Ai2 rfl rfl rfl rfl rfl rfl (sv rfl (An Aiv rfl) (sv rfl (Vz rfl rfl) (sv rfl (Aa Ot rfl) (A9 sz3 rfl rfl rfl rfl (Nbl rfl) (Cc [.box (EL.el a0), .box (EL.el {b2 with PC := if (a0.Ops.length : Int) < b2.PC then (a0.Ops.length : Int) else b2.PC}), .box Zbb, .box Zba] rfl (Al (Bp ?_)))))))))
   refine Ei [2, 3] [0, 0, 1, 7, 15] [[.box (EL.el a0), .box (EL.el {b2 with PC := if (a0.Ops.length : Int) < b2.PC then (a0.Ops.length : Int) else b2.PC}), .box Zbb, .box Zba], [.box (EL.el a0), .box (EL.el {b2 with PC := if (a0.Ops.length : Int) < b2.PC then (a0.Ops.length : Int) else b2.PC}), .box Zbb, .box Zba], [.box (EL.el a0), .box (EL.el {b2 with PC := if (a0.Ops.length : Int) < b2.PC then (a0.Ops.length : Int) else b2.PC}), .box Zbb, .box (EL.el {b2 with PC := if (a0.Ops.length : Int) < b2.PC then (a0.Ops.length : Int) else b2.PC})]] (by kernel_rfl) mixed (by kernel_rfl) (by decide) rfl rfl rfl rfl ?_
   refine ev (Av 0 rfl rfl) rfl rfl (Bl Ahe Alr Ba (.nil _)) (ev (D9 (md := [.box (EL.el a0), .box (EL.el {b2 with PC := if (a0.Ops.length : Int) < b2.PC then (a0.Ops.length : Int) else b2.PC}), .box Zbb, .dead]) ⟨⟨rfl, ⟨rfl, ⟨rfl, ⟨trivial, trivial⟩⟩⟩⟩, ⟨⟨rfl, ⟨rfl, ⟨rfl, ⟨trivial, trivial⟩⟩⟩⟩, ⟨⟨rfl, ⟨rfl, ⟨rfl, ⟨trivial, trivial⟩⟩⟩⟩, trivial⟩⟩⟩) rfl rfl (Ap Qm rfl (.lp _ _ _ rfl) (Nbl rfl)) (ee0 0 rfl rfl rfl rfl (fun ζ => ?_) ?_))
   ·refine A9 Ahj rfl rfl rfl rfl (Nbl rfl) (Cc [.box (EL.el a0), .box (EL.el {b2 with PC := if (a0.Ops.length : Int) < b2.PC then (a0.Ops.length : Int) else b2.PC}), .box Zbb, .box Zba] rfl ?_)
    exact Ol
   refine ee0 1 rfl rfl rfl rfl (fun ζ => ?_) ?_
   ·refine A9 Vm rfl rfl rfl rfl (Nbl rfl) (Cc [.box (EL.el a0), .box (EL.el {b2 with PC := if (a0.Ops.length : Int) < b2.PC then (a0.Ops.length : Int) else b2.PC}), .box Zbb, .box (EL.el {b2 with PC := if (a0.Ops.length : Int) < b2.PC then (a0.Ops.length : Int) else b2.PC})] rfl ?_)
    exact Ol
   refine ev (Av 2 rfl rfl) rfl rfl (E8 rfl) (Tb (Ab (Bo ?_)))
   obtain rfl := SJ h
   refine ⟨Or.inr rfl, _, _, _, (Ai (B9.agg _ _ _ _ _ Aht rfl (.lp _ _ _ rfl) (Nbl rfl)) (Ai (B9.agg _ _ _ _ _ Qm rfl (.lp _ _ _ rfl) (Nbl rfl)) (Ai (B9.tmp _ _ rfl) Au))), (Sj rfl), ?_⟩
   rfl
  ·skip
   refine Bf ?_
   obtain ⟨x3, hx3, ho3⟩ := Ag h
   refine Bs (G := Nat × (Bb)) (fun g => [(2, .s (.one (.lp 0 0))), (3, .s (.one (.lp 1 0))), (4, .s (.one (.lp 2 0))), (5, .s (.one (.lp 3 0)))]) (fun g => [.box (EL.el a0), .box (EL.el g.2), .box Zbb, .box Zba]) (fun g => Fc (Ea a0) g.1 g.2 = some x3) (fun g => g.1) (fuel, a1) hx3 ⟨rfl, rfl, rfl, rfl, trivial⟩ [] rfl (fun _ _ => Az rfl) (fun _ _ => Ak rfl) (fun _ _ => Nbl rfl) ?_
   clear hx3 h
   rintro ⟨n3, s3⟩ h
   obtain ⟨n3, y3, rfl, h, hk3⟩ := Dc h
   unfold Ea at h
   refine Bp (Bp (I0 (Unit) (fun b4 => [(2, .s (.one (.lp 0 0))), (3, .s (.one (.lp 1 0))), (4, .s (.one (.lp 2 0))), (5, .s (.one (.lp 3 0)))]) (fun b4 => [.box (EL.el a0), .box (EL.el s3), .box Zbb, .box Zba]) (fun b4 => Jf a0 s3 b4 = some y3) (fun _ _ => Az rfl) (fun _ _ => Ak rfl) (fun _ _ => Nbl rfl) (fun b4 h => ?_) ?_))
   ·unfold Jf at h
    refine Bf (csr (fl Sb Ai2 rfl rfl rfl rfl rfl rfl (sv rfl (Aa Ot rfl) (sv rfl (Ae ti3 rfl (.lp _ _ _ rfl) rfl) ?_))))
    obtain ⟨u5, hu5, h⟩ := Ag h
    refine sv rfl (Bw (f := Eu) Aiv (fun _ => rfl) rfl rfl rfl rfl hu5) ?_
    refine sv rfl (Bq (ys := [Ii6 u5.What, Ii6 u5.A, Ii6 u5.B, Ii6 u5.N, .sl u5.Key.length (u5.Key.flatMap eU8), .sl u5.Rng.Lo.length (u5.Rng.Lo.flatMap eU8), .sl u5.Rng.Hi.length (u5.Rng.Hi.flatMap eU8), .b u5.Rng.Open]) Aad rfl (.cp _) rfl rfl) (Ce rfl Aix (A9 Akl rfl rfl rfl rfl (Nbl rfl) (Cc [.box (EL.el a0), .box (EL.el s3), .box Zbb, .box Zba, .box (EL.el u5)] rfl (Al (Bp (csr (sv rfl (Ap Aad rfl (.lp _ _ _ rfl) (Nbl rfl)) ?_)))))))
    obtain ⟨v6, hv6, h⟩ := Ag h
    refine Bn rfl Aqz (Ad rfl Aj) (A4 rfl) (Qx hv6) (Al (ccI h rfl (fun h => ?_) (fun h => ?_)))
    ·refine Bp ?_
     obtain ⟨v7, hv7, h⟩ := Ag h
     refine Ei [4, 5] [0, 0, 3, 0, 7, 31, 63] [[.box (EL.el a0), .box (EL.el s3), .box Zbb, .box Zba, .box (EL.el u5)], [.box (EL.el a0), .box (EL.el s3), .box (EL.el v7), .box Zba, .box (EL.el u5)], [.box (EL.el a0), .box (EL.el s3), .box (EL.el v7), .box (EL.el s3), .box (EL.el u5)]] (by kernel_rfl) mixed (by kernel_rfl) (by decide) rfl rfl rfl rfl ?_
     refine ev (Av 0 rfl rfl) rfl rfl (Ap Aad rfl (.lp _ _ _ rfl) (Nbl rfl)) (ev (Av 0 rfl rfl) rfl rfl (Ap Qm rfl (.lp _ _ _ rfl) (Nbl rfl)) (ed (Av 0 rfl rfl) rfl rfl (C1 Atd (Ad rfl (Ad rfl Aj)) rfl (Tm hv7)) (ev (D9 (md := [.box (EL.el a0), .box (EL.el s3), .dead, .dead, .box (EL.el u5)]) ⟨⟨rfl, ⟨rfl, ⟨trivial, ⟨trivial, ⟨rfl, trivial⟩⟩⟩⟩⟩, ⟨⟨rfl, ⟨rfl, ⟨trivial, ⟨trivial, ⟨rfl, trivial⟩⟩⟩⟩⟩, ⟨⟨rfl, ⟨rfl, ⟨trivial, ⟨trivial, ⟨rfl, trivial⟩⟩⟩⟩⟩, trivial⟩⟩⟩) rfl rfl (Ap Qm rfl (.lp _ _ _ rfl) (Nbl rfl)) (ee0 0 rfl rfl rfl rfl (fun ζ => ?_) ?_))))
     ·refine A9 Ahj rfl rfl rfl rfl (Nbl rfl) (Cc [.box (EL.el a0), .box (EL.el s3), .box (EL.el v7), .box Zba, .box (EL.el u5)] rfl ?_)
      exact Ol
     refine ee0 1 rfl rfl rfl rfl (fun ζ => ?_) ?_
     ·refine A9 Vm rfl rfl rfl rfl (Nbl rfl) (Cc [.box (EL.el a0), .box (EL.el s3), .box (EL.el v7), .box (EL.el s3), .box (EL.el u5)] rfl ?_)
      exact Ol
     refine ev (Av 2 rfl rfl) rfl rfl (E8 rfl) (Tb (Ab (Bo (Ah (Ao (Ah (Ao (Ah ?_))))))))
     obtain rfl := SJ h
     obtain rfl : Sum.inl _ = x3 := hk3
     replace ho3 : some _ = some _ := ho3
     obtain rfl := Option.some.inj ho3
     refine ⟨Or.inr rfl, _, _, _, (Ai (B9.agg _ _ _ _ _ Aht rfl (.lp _ _ _ rfl) (Nbl rfl)) (Ai (B9.agg _ _ _ _ _ Qm rfl (.lp _ _ _ rfl) (Nbl rfl)) (Ai (B9.tmp _ _ rfl) Au))), (A4 rfl), ?_⟩
     rfl
    ·refine Be (Ab (Ax (sv rfl (Ap Aad rfl (.lp _ _ _ rfl) (Nbl rfl)) (sv rfl (Ap Qm rfl (.lp _ _ _ rfl) (Nbl rfl)) ?_))))
     obtain ⟨v8, hv8, h⟩ := Ag h
     refine Bn rfl Ar9 (Ad rfl (Ad rfl Aj)) (A4 rfl) (Vn hv8) (A9 Vm rfl rfl rfl rfl (Nbl rfl) (Cc [.box (EL.el a0), .box (EL.el v8), .box Zbb, .box Zba, .box (EL.el u5)] rfl (Hy (Am (Ab ?_)))))
     obtain rfl := SJ h
     exact ⟨(n3, v8), _, hk3, ⟨rfl, rfl, rfl, rfl, trivial⟩, rfl, Nat.lt_succ_self _⟩
   ·skip
    refine Ax (fl Ot ti3 rfl rfl rfl rfl rfl rfl (fl Sb Ai2 rfl rfl rfl rfl rfl rfl (sv rfl (An Aiv rfl) (sv rfl (Bi rfl rfl) (rm 1 rfl (Bc 24 rfl (fun hc => ?_) (fun hc => ?_)))))))
    ·replace h := Bt hc h
     clear hc
     refine son rfl rfl rfl (sv rfl (Aa Agt rfl) (son rfl rfl rfl (sv rfl (Ae ti4 rfl (.lp _ _ _ rfl) rfl) (son rfl rfl rfl (sv rfl (B1 rfl) (rm 1 rfl (Al (ccI h rfl (fun h => ?_) (fun h => ?_)))))))))
     ·refine Be (Ab ?_)
      exact ⟨(), _, h, ⟨rfl, rfl, rfl, rfl, trivial⟩, rfl⟩
     ·refine Dp (Aq (Aq (Bd (Ab ?_))))
      obtain rfl := SJ h
      obtain rfl : _ = x3 := hk3
      exact ⟨s3, _, ho3, ⟨rfl, rfl, rfl, rfl, trivial⟩, rfl⟩
    ·replace h := Bu hc h
     clear hc
     refine rm 4 rfl (Al (Cm rfl (fun hx => Bool.noConfusion hx) (fun _ => ?_)))
     refine Dp (Aq (Aq (Bd (Ab ?_))))
     obtain rfl := SJ h
     obtain rfl : _ = x3 := hk3
     exact ⟨s3, _, ho3, ⟨rfl, rfl, rfl, rfl, trivial⟩, rfl⟩
 ·skip
  refine Ax (sv rfl (Ap Aj7 rfl (.lp _ _ _ rfl) (Nbl rfl)) ?_)
  obtain ⟨v10, hv10, h⟩ := Ag h
  refine Bn rfl Aqj (Ad rfl Aj) (A4 rfl) (Nz hv10) (sv rfl (B1 rfl) (rm 1 rfl (Bc 11 rfl (fun hc => ?_) (fun hc => ?_))))
  ·replace h := Bt hc h
   clear hc
   refine rm 4 rfl (Al (Cm rfl (fun _ => ?_) (fun hx => Bool.noConfusion hx)))
   refine Bp ?_
   refine Ei [2, 3] [0, 0, 1, 7, 15] [[.box (EL.el a0), .box (EL.el a1), .box Zbb, .box Zba], [.box (EL.el a0), .box (EL.el a1), .box Zbb, .box Zba], [.box (EL.el a0), .box (EL.el a1), .box Zbb, .box (EL.el a1)]] (by kernel_rfl) mixed (by kernel_rfl) (by decide) rfl rfl rfl rfl ?_
   refine ev (Av 0 rfl rfl) rfl rfl (Bl Ahe Alr Ba (.nil _)) (ev (D9 (md := [.box (EL.el a0), .box (EL.el a1), .box Zbb, .dead]) ⟨⟨rfl, ⟨rfl, ⟨rfl, ⟨trivial, trivial⟩⟩⟩⟩, ⟨⟨rfl, ⟨rfl, ⟨rfl, ⟨trivial, trivial⟩⟩⟩⟩, ⟨⟨rfl, ⟨rfl, ⟨rfl, ⟨trivial, trivial⟩⟩⟩⟩, trivial⟩⟩⟩) rfl rfl (Ap Qm rfl (.lp _ _ _ rfl) (Nbl rfl)) (ee0 0 rfl rfl rfl rfl (fun ζ => ?_) ?_))
   ·refine A9 Ahj rfl rfl rfl rfl (Nbl rfl) (Cc [.box (EL.el a0), .box (EL.el a1), .box Zbb, .box Zba] rfl ?_)
    exact Ol
   refine ee0 1 rfl rfl rfl rfl (fun ζ => ?_) ?_
   ·refine A9 Vm rfl rfl rfl rfl (Nbl rfl) (Cc [.box (EL.el a0), .box (EL.el a1), .box Zbb, .box (EL.el a1)] rfl ?_)
    exact Ol
   refine ev (Av 2 rfl rfl) rfl rfl (E8 rfl) (Tb (Ab (Bo (Ah ?_))))
   obtain rfl := SJ h
   refine ⟨Or.inr rfl, _, _, _, (Ai (B9.agg _ _ _ _ _ Aht rfl (.lp _ _ _ rfl) (Nbl rfl)) (Ai (B9.agg _ _ _ _ _ Qm rfl (.lp _ _ _ rfl) (Nbl rfl)) (Ai (B9.tmp _ _ rfl) Au))), (Sj rfl), ?_⟩
   rfl
  ·replace h := Bu hc h
   clear hc
   refine son rfl rfl rfl (sv rfl (Aa Ot rfl) (son rfl rfl rfl (sv rfl (Ae ti3 rfl (.lp _ _ _ rfl) rfl) (son rfl rfl rfl (sv rfl (Bi rfl rfl) (rm 1 rfl (Al (ccI h rfl (fun h => ?_) (fun h => ?_)))))))))
   ·refine Bp ?_
    refine Ei [2, 3] [0, 0, 1, 7, 15] [[.box (EL.el a0), .box (EL.el a1), .box Zbb, .box Zba], [.box (EL.el a0), .box (EL.el a1), .box Zbb, .box Zba], [.box (EL.el a0), .box (EL.el a1), .box Zbb, .box (EL.el a1)]] (by kernel_rfl) mixed (by kernel_rfl) (by decide) rfl rfl rfl rfl ?_
    refine ev (Av 0 rfl rfl) rfl rfl (Bl Ahe Alr Ba (.nil _)) (ev (D9 (md := [.box (EL.el a0), .box (EL.el a1), .box Zbb, .dead]) ⟨⟨rfl, ⟨rfl, ⟨rfl, ⟨trivial, trivial⟩⟩⟩⟩, ⟨⟨rfl, ⟨rfl, ⟨rfl, ⟨trivial, trivial⟩⟩⟩⟩, ⟨⟨rfl, ⟨rfl, ⟨rfl, ⟨trivial, trivial⟩⟩⟩⟩, trivial⟩⟩⟩) rfl rfl (Ap Qm rfl (.lp _ _ _ rfl) (Nbl rfl)) (ee0 0 rfl rfl rfl rfl (fun ζ => ?_) ?_))
    ·refine A9 Ahj rfl rfl rfl rfl (Nbl rfl) (Cc [.box (EL.el a0), .box (EL.el a1), .box Zbb, .box Zba] rfl ?_)
     exact Ol
    refine ee0 1 rfl rfl rfl rfl (fun ζ => ?_) ?_
    ·refine A9 Vm rfl rfl rfl rfl (Nbl rfl) (Cc [.box (EL.el a0), .box (EL.el a1), .box Zbb, .box (EL.el a1)] rfl ?_)
     exact Ol
    refine ev (Av 2 rfl rfl) rfl rfl (E8 rfl) (Tb (Ab (Bo (Ah ?_))))
    obtain rfl := SJ h
    refine ⟨Or.inr rfl, _, _, _, (Ai (B9.agg _ _ _ _ _ Aht rfl (.lp _ _ _ rfl) (Nbl rfl)) (Ai (B9.agg _ _ _ _ _ Qm rfl (.lp _ _ _ rfl) (Nbl rfl)) (Ai (B9.tmp _ _ rfl) Au))), (Sj rfl), ?_⟩
    rfl
   ·refine Be (Ab ?_)
    exact ⟨(), _, h, ⟨rfl, rfl, rfl, rfl, trivial⟩, rfl⟩
def Dl (a0 : Dn) (a1 : Ar) (a2 : Int) : Option (List Aw) :=
 (Kc a0.buf_ a0.base_ a1 a2).bind fun v1 => some v1
theorem Kn {a0 : Dn} {a1 : Ar} {a2 : Int} {r : (List Aw)} (h : Dl a0 a1 a2 = some r) : Bz Tryz.prog 63 [.agg (EL.el a0), .agg (EL.el a1), .one (Ii6 a2)] (· = .s (.one (.sl r.length (r.flatMap A2)))) := by
 unfold Dl at h
 refine A8 Tryz.func63 rfl (nt := 14) rfl (Nbl rfl) ?_
 intro w0 S0
 refine csr (Kp rfl rfl (Kp rfl rfl (rm 1 rfl (Al (csr (sv rfl (Aa Ac5 rfl) (sv rfl (Ap Agk rfl (.lp _ _ _ rfl) (Nbl rfl)) (fl Ajx Aja rfl rfl rfl rfl rfl rfl (sv rfl (Ap Vd rfl (.lp _ _ _ rfl) (Nbl rfl)) (sv rfl (A3 rfl) ?_))))))))))
 obtain ⟨v1, hv1, h⟩ := Ag h
 refine Bn rfl Asv (Ad rfl (Ad rfl (Ad rfl (Ad rfl Aj)))) (A4 rfl) (Ue hv1) (rm 1 rfl (Al (Bo ?_)))
 obtain rfl := SJ h
 exact dnT rfl rfl rfl rfl
def Ek (a0 : Dn) : Option (List Aw) :=
 (Dl a0 (Ar.mk ([] : List UInt8) ([] : List UInt8) true) (wI ((a0.base_.length : Int) + (a0.buf_.L.length : Int)))).bind fun v1 => some v1
theorem K4 {a0 : Dn} {r : (List Aw)} (h : Ek a0 = some r) : Bz Tryz.prog 33 [.agg (EL.el a0)] (· = .s (.one (.sl r.length (r.flatMap A2)))) := by
 unfold Ek at h
 refine A8 Tryz.func33 rfl (nt := 14) rfl (Nbl rfl) ?_
 intro w0 S0
 refine csr (Kp rfl rfl (rm 1 rfl (Al (csr (sv rfl (Ap Ahf rfl (.lp _ _ _ rfl) (Nbl rfl)) (sv rfl (Bl Aj1 Aoh (A1 rfl Ba) (.cons _ _ _ _ _ _ _ rfl rfl (Nbl rfl) (.nil _))) (fl Ajx Aja rfl rfl rfl rfl rfl rfl (sv rfl (An P8 rfl) (sv rfl (Aa Ac5 rfl) (fl X6 Ry rfl rfl rfl rfl rfl rfl (sv rfl (An Qr rfl) (sv rfl (Bj rfl rfl) ?_))))))))))))
 obtain ⟨v1, hv1, h⟩ := Ag h
 refine Bn rfl Api (Ad rfl (Ad rfl (Ad rfl Aj))) (Sj rfl) (Kn hv1) (rm 1 rfl (Al (Bo ?_)))
 obtain rfl := SJ h
 exact dnT rfl rfl rfl rfl
def Nc (a0 : List UInt8) : Option Ar :=
 (Fu [a0, [(UInt8.ofBitVec (0#8))]]).bind fun v1 => some (Ar.mk a0 v1 false)
theorem Xb {a0 : List UInt8} {r : Ar} (h : Nc a0 = some r) : Bz Tryz.prog 64 [.one (.sl a0.length (a0.flatMap eU8))] (· = .s (.agg (EL.el r))) := by
 unfold Nc at h
 refine A8 Tryz.func64 rfl (nt := 9) rfl (Nbl rfl) ?_
 intro w0 S0
 refine csr (Ce rfl Aj1 (Al (csr (rm 1 rfl (sv rfl (A3 rfl) ?_)))))
 refine Fw rfl Tryz.underlying46 ei5 rfl rfl (List.all_eq_true.1 rfl) (by decide) ?_
 refine Cc [.box [Znl, Znl, .b false], .arr 5 1 0 ([(UInt8.ofBitVec (0#8))].flatMap eU8)] rfl ?_
 refine Vy 5 rfl (by (repeat' first | exact Ga.nil _ | apply Ga.cons | apply F5.one | apply F5.agg | exact Ci.nil | exact Ci.ls _ _ _ _ _ _ rfl (Ay (f := eU8) (fun _ => rfl) ([(UInt8.ofBitVec (0#8))] : List UInt8)).symm | exact Ci.ls _ _ _ _ _ _ rfl (Ay (f := eU8) (fun _ => rfl) _).symm | exact Ci.id _ rfl | exact Cg.nil _ | apply Cg.cons)) ?_
 refine W6 (out := ([a0, [(UInt8.ofBitVec (0#8))]] : List (List UInt8)).flatMap (eL eU8)) rfl Tryz.underlying130 Ahb (A1 rfl (A1 rfl Ba)) (.cons _ _ _ _ _ _ _ rfl rfl (Nbl rfl) (.cons _ _ _ _ _ _ _ rfl rfl (Nbl rfl) (.nil _))) rfl (by decide) ?_
 refine Vy 6 rfl (by (repeat' first | exact Ga.nil _ | apply Ga.cons | apply F5.one | apply F5.agg | exact Ci.nil | exact Ci.ls _ _ _ _ _ _ rfl (Ay (f := (eL eU8)) (fun _ => rfl) ([a0, [(UInt8.ofBitVec (0#8))]] : List (List UInt8))).symm | exact Ci.ls _ _ _ _ _ _ rfl (Ay (f := (eL eU8)) (fun _ => rfl) _).symm | exact Ci.ls _ _ _ _ _ _ rfl (Ay (f := eU8) (fun _ => rfl) _).symm | exact Ci.id _ rfl | exact Cg.nil _ | apply Cg.cons)) ?_
 obtain ⟨v1, hv1, h⟩ := Ag h
 refine Dx (x' := .s (.one (.ls 3 v1.length))) (M' := [.box [Znl, Znl, .b false], .arr 5 1 ([(UInt8.ofBitVec (0#8))].flatMap eU8).length ([(UInt8.ofBitVec (0#8))].flatMap eU8), .arr 46 1 ([a0, [(UInt8.ofBitVec (0#8))]].flatMap (eL eU8)).length ([a0, [(UInt8.ofBitVec (0#8))]].flatMap (eL eU8)), .arr 5 1 0 (v1.flatMap eU8)]) [] rfl Arr (.func _) (Ad rfl Aj) (Np hv1) rfl rfl (by decide) rfl rfl rfl ?_
 refine sv rfl (Bl Aj1 Aoh (A1 rfl (A1 rfl Ba)) (.cons _ _ _ _ _ _ _ rfl rfl (Nbl rfl) (.cons _ _ _ _ _ _ _ rfl rfl (Nbl rfl) (.nil _)))) (A9 Aoi rfl rfl rfl rfl (Nbl rfl) (Cc [.box [.sl a0.length (a0.flatMap eU8), .ls 3 v1.length, .b false], .arr 5 1 ([(UInt8.ofBitVec (0#8))].flatMap eU8).length ([(UInt8.ofBitVec (0#8))].flatMap eU8), .arr 46 1 ([a0, [(UInt8.ofBitVec (0#8))]].flatMap (eL eU8)).length ([a0, [(UInt8.ofBitVec (0#8))]].flatMap (eL eU8)), .arr 5 1 0 (v1.flatMap eU8)] rfl (Al (Bo ?_))))
 obtain rfl := SJ h
 refine ⟨Or.inr rfl, _, _, _, (Ai (B9.agg _ _ _ _ _ Vd rfl (.lp _ _ _ rfl) (Nbl rfl)) Au), (by (repeat' first | exact Ga.nil _ | apply Ga.cons | apply F5.one | apply F5.agg | exact Ci.nil | exact Ci.ls _ _ _ _ _ _ rfl (Ay (f := (eL eU8)) (fun _ => rfl) _).symm | exact Ci.ls _ _ _ _ _ _ rfl (Ay (f := eU8) (fun _ => rfl) _).symm | exact Ci.id _ rfl | exact Cg.nil _ | apply Cg.cons)), ?_⟩
 rfl
def G1 (a0 : List UInt8) (a1 : List UInt8) : Option Bool :=
 (Iz a1 a0).bind fun v1 => some (decide (0 ≤ v1))
theorem Pj {a0 : List UInt8} {a1 : List UInt8} {r : Bool} (h : G1 a0 a1 = some r) : Bz Tryz.prog 116 [.one (.sl a0.length (a0.flatMap eU8)), .one (.sl a1.length (a1.flatMap eU8))] (· = .s (.one (.b r))) := by
 unfold G1 at h
 refine A8 Tryz.func116 rfl (nt := 9) rfl (Nbl rfl) ?_
 intro w0 S0
 refine csr (rm 1 rfl (Al (csr (rm 1 rfl (sv rfl (A3 rfl) ?_)))))
 obtain ⟨v1, hv1, h⟩ := Ag h
 refine Bn rfl Ane (Ad rfl (Ad rfl Aj)) (A4 rfl) (La hv1) (sv rfl (G6 rfl rfl) (rm 1 rfl (Al (Bo ?_))))
 obtain rfl := SJ h
 exact dnT rfl rfl rfl rfl
def E9 (b1 : Unit) : Option Int :=
 some (-1)
def D2 (a0 : List (List UInt8)) (a1 : List UInt8) (s2 : Int) : Option (LR (Int) (Unit) (Int)) :=
 if (decide (s2 < (a0.length : Int))) then ((idx a0 s2).bind fun u3 => (G1 a1 u3).bind fun v4 => if v4 then (some (.ret s2)) else (some (.cont (wI (s2 + 1))))) else (some (.brk ()))
def G2 (a0 : List (List UInt8)) (a1 : List UInt8) : Option Int :=
 (Fc (D2 a0 a1) fuel 0).bind fun x => match x with | .inl r => some r | .inr e5 => E9 e5
theorem Pf {a0 : List (List UInt8)} {a1 : List UInt8} {r : Int} (h : G2 a0 a1 = some r) : Bz Tryz.prog 115 [.one (.sl a0.length (a0.flatMap (eL eU8))), .one (.fn 116 [.sl a1.length (a1.flatMap eU8)] [])] (· = .s (.one (Ii6 r))) := by
 unfold G2 at h
 refine A8 Tryz.func115 rfl (nt := 19) rfl (Nbl rfl) ?_
 intro w0 S0
 refine csr (rm 1 rfl (Al (Bp (csr (rm 1 rfl (sv rfl (An Wf rfl) (rm 1 rfl (Al (C4 (Unit) (fun b1 => []) (fun b1 => []) (fun b1 => E9 b1 = some r) (fun _ _ => Az rfl) (fun _ _ => Ak rfl) (fun _ _ => Nbl rfl) (fun b1 h => ?_) ?_)))))))))
 ·unfold E9 at h
  refine csr (rm 1 rfl (Al (Bo ?_)))
  obtain rfl := SJ h
  exact dnT rfl rfl rfl rfl
 ·skip
  refine Bf ?_
  obtain ⟨x2, hx2, ho2⟩ := Ag h
  refine Bs (G := Nat × (Int)) (fun g => [(0, .s (.one (.sl a0.length (a0.flatMap (eL eU8))))), (1, .s (.one (.fn 116 [.sl a1.length (a1.flatMap eU8)] []))), (7, .s (.one (Ii6 (a0.length : Int)))), (8, .s (.one (Ii6 g.2)))]) (fun g => []) (fun g => Fc (D2 a0 a1) g.1 g.2 = some x2) (fun g => g.1) (fuel, 0) hx2 ⟨rfl, rfl, rfl, rfl, trivial⟩ [] rfl (fun _ _ => Az rfl) (fun _ _ => Ak rfl) (fun _ _ => Nbl rfl) ?_
  clear hx2 h
  rintro ⟨n2, s2⟩ h
  obtain ⟨n2, y2, rfl, h, hk2⟩ := Dc h
  unfold D2 at h
  refine csr (sv rfl (Bi rfl rfl) (Al (Bp (ccI h rfl (fun h => ?_) (fun h => ?_)))))
  ·refine Be (Ab (Bp (Bf (csr (rm 2 rfl (Al (csr (rm 2 rfl (sv rfl (A3 rfl) ?_)))))))))
   obtain ⟨u3, hu3, h⟩ := Ag h
   refine sv rfl (Bw (f := (eL eU8)) Wf (fun _ => rfl) rfl rfl rfl rfl hu3) ?_
   refine sv rfl (Ae E6 rfl (.cp _) rfl) ?_
   obtain ⟨v4, hv4, h⟩ := Ag h
   refine sd rfl (Z2 Apd (.fn _ _ _ _ rfl) (Ad rfl Aj) rfl (Pj hv4)) (Al (ccI h rfl (fun h => ?_) (fun h => ?_)))
   ·refine csr (rm 2 rfl (Al (Bo (Ao (Ah (Ah (Ao (Ah ?_))))))))
    obtain rfl := SJ h
    obtain rfl : Sum.inl _ = x2 := hk2
    replace ho2 : some _ = some _ := ho2
    obtain rfl := Option.some.inj ho2
    exact dnT rfl rfl rfl rfl
   ·refine Be (Am (Ab (Ax (sv rfl (Bj rfl rfl) (rm 1 rfl (Al ?_))))))
    obtain rfl := SJ h
    exact ⟨(n2, (wI (s2 + 1))), _, hk2, ⟨rfl, rfl, rfl, rfl, trivial⟩, rfl, Nat.lt_succ_self _⟩
  ·refine Dp (Aq (Aq (Bd (Ab ?_))))
   obtain rfl := SJ h
   obtain rfl : _ = x2 := hk2
   exact ⟨(), _, ho2, trivial, rfl⟩
def Mc (a0 : List (List UInt8)) (a1 : List UInt8) : Option (Int × Bool) :=
 (G2 a0 a1).bind fun v1 => if (decide (v1 < 0)) then (some ((a0.length : Int), false)) else ((idx a0 v1).bind fun u2 => (Gl u2 a1).bind fun v3 => some (v1, v3))
theorem Wb {a0 : List (List UInt8)} {a1 : List UInt8} {r : Int × Bool} (h : Mc a0 a1 = some r) : Bz Tryz.prog 97 [.one (.sl a0.length (a0.flatMap (eL eU8))), .one (.sl a1.length (a1.flatMap eU8))] (· = .tup [.one (Ii6 r.1), .one (.b r.2)]) := by
 unfold Mc at h
 refine A8 Tryz.func97 rfl (nt := 22) rfl (Nbl rfl) ?_
 intro w0 S0
 refine csr (rm 2 rfl (Al (csr (rm 2 rfl (sv rfl (Hf (Fy rfl rfl D1) D1) ?_)))))
 obtain ⟨v1, hv1, h⟩ := Ag h
 refine sd rfl (Z2 Apc (.func _) (Ad rfl (Ad rfl Aj)) rfl (Pf hv1)) (rm 1 rfl (Al (Bp (csr (rm 1 rfl (sv rfl (Bi rfl rfl) (Al (ccI h rfl (fun h => ?_) (fun h => ?_)))))))))
 ·refine csr (rm 1 rfl (sv rfl (An Wf rfl) (rm 2 rfl (Al (Bo (Ah ?_))))))
  obtain rfl := SJ h
  refine ⟨Or.inr rfl, _, _, _, (Ai (B9.tmp _ _ rfl) (Ai (B9.tmp _ _ rfl) Au)), (A4 rfl), ?_⟩
  rfl
 ·refine Be (Ab (csr (rm 2 rfl (sv rfl (A3 rfl) ?_))))
  obtain ⟨u2, hu2, h⟩ := Ag h
  refine sv rfl (Bw (f := (eL eU8)) Wf (fun _ => rfl) rfl rfl rfl rfl hu2) ?_
  refine sv rfl (Ae E6 rfl (.cp _) rfl) (sv rfl (A3 rfl) ?_)
  obtain ⟨v3, hv3, h⟩ := Ag h
  refine Bn rfl Arl (Ad rfl (Ad rfl Aj)) (A4 rfl) (Px hv3) (rm 2 rfl (Al (Bo ?_)))
  obtain rfl := SJ h
  refine ⟨Or.inr rfl, _, _, _, (Ai (B9.tmp _ _ rfl) (Ai (B9.tmp _ _ rfl) Au)), (A4 rfl), ?_⟩
  rfl
def Iw (a0 : List Af) : Option (List Af) :=
 if (([] : List Af).length + a0.length) * 56 ≤ 140737488355328 then (some (([] : List Af) ++ a0)) else none
theorem Sx {a0 : List Af} {r : (List Af)} (h : Iw a0 = some r) : C3 Tryz.prog 99 [] [.one (.sl a0.length (a0.flatMap Ac))] (fun y m' => y = .s (.one (.ls 0 r.length)) ∧ m' = [.arr 48 3 0 (r.flatMap Ac)]) := by
 unfold Iw at h
 refine B3 Tryz.func99 rfl (nt := 8) rfl (Nbl rfl) ?_
 intro w0 S0 X0 H0
 refine csr (rm 1 rfl (Al (Bp (csr (rm 1 rfl (Aqo rfl Tryz.underlying26 rfl (fun nq hnq => ?_)))))))
 cases nq
 ·skip
  refine Al (Cm rfl (fun hx => Bool.noConfusion hx) (fun _ => ?_))
  refine Be (Ab (csr (Ag1 rfl Tryz.underlying26 Ael (sv rfl (A3 rfl) ?_))))
  obtain ⟨hb1, h⟩ := Cl h
  refine Wx (f := Ac) (xs := ([] : List Af)) (us := a0) rfl Tryz.underlying26 Ael Aos (fun _ => rfl) rfl rfl (.one _ _ _ _ (.id _ rfl)) rfl rfl rfl (.sl _ _ _ (Ay (f := Ac) (fun _ => rfl) _)) rfl rfl hb1 (by decide) ?_
  refine rm 1 rfl (Al (Bo ?_))
  obtain rfl := SJ h
  exact ⟨Or.inr rfl, _, [0], [.one (.ls 0 (([] : List Af) ++ a0).length)], [.arr 48 3 0 ((([] : List Af) ++ a0).flatMap Ac)], (Ai (B9.tmp _ _ rfl) Au), rfl, rfl, ⟨by decide, rfl⟩, rfl, rfl, ⟨rfl, rfl⟩⟩
 ·obtain rfl := List.eq_nil_of_length_eq_zero (hnq rfl)
  replace h : (some ([] : List Af)) = some r := by first | exact h | (rw [if_pos (by decide)] at h; exact h)
  refine Al (Cm rfl (fun _ => ?_) (fun hx => Bool.noConfusion hx))
  refine csr (rm 1 rfl (Al ?_))
  refine H6 48 3 2 (by decide) rfl ?_
  refine Bo (Ah ?_)
  obtain rfl := SJ h
  exact ⟨Or.inr rfl, _, [0], [.one (.ls 0 ([] : List Af).length)], [.arr 48 3 0 (([] : List Af).flatMap Ac)], (Ai (B9.tmp _ _ rfl) Au), rfl, rfl, ⟨by decide, rfl⟩, rfl, rfl, ⟨rfl, rfl⟩⟩
section
open Go.Lib
set_option maxHeartbeats 4000000 in
theorem Ad9 (b n c vb vc : Nat) (vs : List Value) (w : World) (i0 : TypeInfo) (hi0 : Tryz.prog.info? 48 = some i0) (hs0 : i0.size = 3) (hroom : n + 1 ≤ c) (hc63 : c ≤ 9223372036854775807)
  (hvl : vs.length = 3) (hsp : ∀ j, j < 3 → (w.cell? ⟨b, n * 3 + j, none⟩).isSome = true) (hfz : ∀ j, j < 3 → w.frozen? ⟨b, n * 3 + j, none⟩ = false)
  (hvs : ∀ j v, vs[j]? = some v → w.cell? ⟨vb, j, none⟩ = some v) (h1v : ∀ v ∈ vs, v.oneCell' = true) :
  Calls Tryz.prog 100 #[.slice (some ⟨b, 0, none⟩) n c, .int .i64 n, .slice (some ⟨vb, 0, none⟩) 1 vc] w fun e w' =>
   e = .returned (.slice (some ⟨b, 0, none⟩) (n + 1) c) ∧ w' = w.setCells b (n * 3) vs := by
 have hsrc : _root_.Go.Src Tryz.prog i0.size 26 (.slice (some ⟨vb, 0, none⟩) 1 vc) 1 vs w := by
  rw [hs0]
  exact _root_.Go.Src.ofSlice w Tryz.underlying26 ⟨vb, 0, none⟩ 1 vc vs (by omega) (fun j u hj => by rw [Addr.add_lit, Nat.zero_add]; exact hvs j u hj) h1v
 go_enter Tryz.func100, Tryz.ntmps100
 go_wp2_with (at_builtin; refine wpList_append_room_src _ rfl _ _ 26 26 rfl 48 i0 Tryz.underlying26 hi0 b 0 n c rfl _ rfl 1 vs hsrc hroom (by rw [hvl, hs0, Nat.zero_add]; exact hsp) (by rw [hvl, hs0, Nat.zero_add]; exact hfz) ?_)
 go_ret
 refine ⟨rfl, ?_⟩
 first | rfl | (simp; done) | (simp [hs0]; done)
set_option maxHeartbeats 4000000 in
theorem Z4 (b n c vb vc : Nat) (cs vs : List Value) (w : World) (i0 : TypeInfo) (hi0 : Tryz.prog.info? 48 = some i0) (hz0 : i0.zero = some (.agg #[.slice none 0 0, .slice none 0 0, .bool false])) (hs0 : i0.size = 3) (hnc : n ≤ c) (hroom : c < n + 1) (hn63 : n + 1 ≤ 9223372036854775807)
  (hfit : Builtin.nextslicecap (n + 1) c * i0.bytes ≤ 281474976710656) (hcl : cs.length = n * 3) (hvl : vs.length = 3)
  (hcs : ∀ j v, cs[j]? = some v → w.cell? ⟨b, j, none⟩ = some v) (hvs : ∀ j v, vs[j]? = some v → w.cell? ⟨vb, j, none⟩ = some v) (h1v : ∀ v ∈ vs, v.oneCell' = true) :
  Calls Tryz.prog 100 #[.slice (some ⟨b, 0, none⟩) n c, .int .i64 n, .slice (some ⟨vb, 0, none⟩) 1 vc] w fun e w' =>
   e = .returned (.slice (some ⟨w.heap.size, 0, none⟩) (n + 1) (grownCap w (n + 1) c 48)) ∧
   w' = w.drew.alloc (.cells ((cs ++ vs).toArray ++ Builtin.zeroCells (Value.cells (.agg #[.slice none 0 0, .slice none 0 0, .bool false])) (grownCap w (n + 1) c 48 - (n + 1))) 48) := by
 have hsrc : _root_.Go.Src Tryz.prog i0.size 26 (.slice (some ⟨vb, 0, none⟩) 1 vc) 1 vs w := by
  rw [hs0]
  exact _root_.Go.Src.ofSlice w Tryz.underlying26 ⟨vb, 0, none⟩ 1 vc vs (by omega) (fun j u hj => by rw [Addr.add_lit, Nat.zero_add]; exact hvs j u hj) h1v
 have hold : (Builtin.firstCells i0.size n (.slice (some ⟨b, 0, none⟩) n c)).run Tryz.prog w.drew = .ok cs.toArray w.drew := by
  rw [hs0]
  exact run_firstCells_some w.drew 3 n ⟨b, 0, none⟩ n c cs (by omega) (fun j v hj => by rw [Addr.add_lit, Nat.zero_add]; exact hcs j v hj)
 have hrun : ∀ ty, (Builtin.append_ #[26, 26] ty #[.slice (some ⟨b, 0, none⟩) n c, .slice (some ⟨vb, 0, none⟩) 1 vc]).run Tryz.prog w = .ok (.slice (some ⟨w.heap.size, 0, none⟩) (n + 1) (grownCap w (n + 1) c 48)) (w.drew.alloc (.cells ((cs ++ vs).toArray ++ Builtin.zeroCells (Value.cells (.agg #[.slice none 0 0, .slice none 0 0, .bool false])) (grownCap w (n + 1) c 48 - (n + 1))) 48)) := fun ty =>
  run_append_grow_src w 26 26 ty 48 i0 _ Tryz.underlying26 hi0 hz0 (some ⟨b, 0, none⟩) n c cs hold _ 1 vs hsrc hroom (by omega) hfit
 go_enter Tryz.func100, Tryz.ntmps100
 go_wp2_with (at_builtin; refine Lib.wpList_append_run _ rfl _ _ _ _ rfl _ _ rfl rfl _ _ (hrun _) ?_)
 all_goals (go_ret; first | exact ⟨rfl, rfl⟩ | exact ⟨rfl, by simp [Value.cells]⟩)
set_option maxHeartbeats 4000000 in
theorem Aa5 (b n c i vb vc : Nat) (cs vs : List Value) (w : World) (hs0 : (Tryz.prog.info? 48).map (·.size) = some 3) (hi : i < n) (hroom : n + 1 ≤ c) (hc63 : c ≤ 9223372036854775807) (hvb : vb ≠ b)
  (hcl : cs.length = n * 3) (hvl : vs.length = 3)
  (hcs : ∀ j v, cs[j]? = some v → w.cell? ⟨b, j, none⟩ = some v) (hsp : ∀ j, j < (n + 1) * 3 → (w.cell? ⟨b, j, none⟩).isSome = true) (hfz : ∀ j, j < (n + 1) * 3 → w.frozen? ⟨b, j, none⟩ = false)
  (hvs : ∀ j v, vs[j]? = some v → w.cell? ⟨vb, j, none⟩ = some v) (h1c : ∀ v ∈ cs, v.oneCell' = true) (h1v : ∀ v ∈ vs, v.oneCell' = true)
  (tA tB : TypeId) (kA kB : Nat) (hsa : w.shape? vb = some (tA, kA)) (hsb : w.shape? b = some (tB, kB)) (hkB : kB ≠ 0) (hfa : w.frozen? ⟨vb, 0, none⟩ = false) (hfe : w.frozen? ⟨vb, kA, none⟩ = false) :
  Calls Tryz.prog 100 #[.slice (some ⟨b, 0, none⟩) n c, .int .i64 i, .slice (some ⟨vb, 0, none⟩) 1 vc] w fun e w' =>
   e = .returned (.slice (some ⟨b, 0, none⟩) (n + 1) c) ∧ w' = (w.drew.setCells b ((i + 1) * 3) (cs.drop ((i) * 3))).setCells b ((i) * 3) vs := by
 have hz2 : ¬ ((i : Int) = (n : Int)) := by omega
 have hz3 : ¬ ((c : Int) < (n : Int) + 1) := by omega
 have mixed : Tryz.prog.follows .mixedOrders = true := by kernel_rfl
 have hov : ∀ lb cb, (callFunc 117 #[.slice (some ⟨vb, 0, none⟩) 1 vc, .slice (some ⟨b, (i + 1) * 3, none⟩) lb cb]).run Tryz.prog w = .ok (.value (.bool false)) w := fun lb cb => by
  rw [run_callFunc_extern Tryz.func117 (by kernel_rfl) (by kernel_rfl) (by kernel_rfl) (e := Extern.SlicesOverlaps.overlaps #[26, 26] #[4]) (by kernel_rfl),
   Lib.run_overlaps_apart w 26 4 48 Tryz.underlying26 3 (fun w => C0 hs0 w) ⟨vb, 0, none⟩ ⟨b, (i + 1) * 3, none⟩ 1 vc lb cb hvb tA tB kA kB hsa hsb hkB hfa hfe]
  rfl
 have hdl : (cs.drop ((i) * 3)).length = (n - i) * 3 := by rw [List.length_drop, hcl]; omega
 have hw1 : IntKind.i64.wrap ((i : Int) + 1) = (i : Int) + 1 := by rw [IntKind.wrap_i64]; omega
 have hb1 : (0 : Int) ≤ (i : Int) + 1 := by omega
 have hin : i ≤ n := by omega
 have htn : ((i : Int) + 1).toNat = i + 1 := by omega
 have hb2 : ¬ (c = i + 1) := by omega
 have hb3 : (i : Int) ≤ (n : Int) + 1 := by omega
 have hb4 : ¬ (c = i) := by omega
 have hcp1 : ∀ ty dc sc, (Builtin.copy_ #[26, 26] ty #[.slice (some ⟨b, (i + 1) * 3, none⟩) (n - i) dc, .slice (some ⟨b, (i) * 3, none⟩) (n + 1 - i) sc]).run Tryz.prog w.drew = .ok (goInt (n - i : Nat)) (w.drew.setCells b ((i + 1) * 3) (cs.drop ((i) * 3))) := fun ty dc sc =>
  Ri w.drew _ _ ty 48 b ((i + 1) * 3) (n - i) dc ⟨b, (i) * 3, none⟩ (n + 1 - i) sc 3 (n - i) (cs.drop ((i) * 3)) Tryz.underlying26 hs0 (by simp only [Nat.min_def]; split <;> omega) hdl
   (fun j v hj => by rw [Addr.add_lit]; exact hcs ((i) * 3 + j) v (by rwa [List.getElem?_drop] at hj))
   (fun j hj => hsp _ (by rw [hdl] at hj; omega)) (fun j hj => hfz _ (by rw [hdl] at hj; omega)) (fun v hv => h1c v (List.mem_of_mem_drop hv))
 obtain ⟨W1, hW1⟩ : ∃ W1, W1 = w.drew.setCells b ((i + 1) * 3) (cs.drop ((i) * 3)) := ⟨_, rfl⟩
 have hsp1 : ∀ k, k < (n + 1) * 3 → (W1.cell? ⟨b, k, none⟩).isSome = true := fun k hk => by
  rw [hW1]
  exact isSome_setCells b (cs.drop ((i) * 3)) ((i + 1) * 3) w.drew (fun j hj => hsp _ (by rw [hdl] at hj; omega)) _ (hsp k hk)
 have hcp2 : ∀ (W : World), (∀ x, W.cell? x = W1.cell? x) → (∀ x, W.frozen? x = W1.frozen? x) → ∀ ty dc, (Builtin.copy_ #[26, 26] ty #[.slice (some ⟨b, (i) * 3, none⟩) (n + 1 - i) dc, .slice (some ⟨vb, 0, none⟩) 1 vc]).run Tryz.prog W = .ok (goInt (1 : Nat)) (W.setCells b ((i) * 3) vs) := fun W hWc hWf ty dc =>
  Ri W _ _ ty 48 b ((i) * 3) (n + 1 - i) dc ⟨vb, 0, none⟩ 1 vc 3 1 vs Tryz.underlying26 hs0 (by simp only [Nat.min_def]; split <;> omega) (by omega)
   (fun j v hj => by
    rw [Addr.add_lit, hWc, hW1, Nat.zero_add, World.cell?_setCells_out b _ _ _ _ (fun h _ => absurd h hvb)]
    exact hvs j v hj)
   (fun j hj => by rw [hWc]; exact hsp1 _ (by omega)) (fun j hj => by rw [hWf, hW1, World.frozen?_setCells]; exact hfz _ (by omega)) h1v
 rw [← hW1] at hcp1
 go_enter Tryz.func100, Tryz.ntmps100
 go_wp2_with (simp only [hov])
 go_region_law_o (refine step_copy_runI rfl _ _ 26 26 rfl _ _ (by simp [Act.eval, Act.put]) (by simp [Act.eval, Act.put]) (hcp1 _ _ _) ?_)
 go_wp2_with (at_builtin; refine wpList_copy_runI _ rfl _ _ 26 26 rfl _ _ rfl rfl (hcp2 _ (fun _ => rfl) (fun _ => rfl) _ _) ?_)
 go_ret
 first | exact ⟨rfl, rfl⟩ | exact ⟨rfl, by rw [hW1]⟩
set_option maxHeartbeats 4000000 in
theorem Abb (b n c i vb vc : Nat) (cs vs : List Value) (w : World) (i0 : TypeInfo) (hi0 : Tryz.prog.info? 48 = some i0) (hz0 : i0.zero = some (.agg #[.slice none 0 0, .slice none 0 0, .bool false])) (hs0 : i0.size = 3) (hi : i < n) (hnc : n ≤ c) (hroom : c < n + 1) (hn63 : n + 1 ≤ 4611686018427387904)
  (hb48 : (n + 1) * i0.bytes ≤ 281474976710656) (hfit : Builtin.nextslicecap (n + 1) c * i0.bytes ≤ 281474976710656) (hcl : cs.length = n * 3) (hvl : vs.length = 3)
  (hcs : ∀ j v, cs[j]? = some v → w.cell? ⟨b, j, none⟩ = some v) (hvs : ∀ j v, vs[j]? = some v → w.cell? ⟨vb, j, none⟩ = some v) (h1c : ∀ v ∈ cs, v.oneCell' = true) (h1v : ∀ v ∈ vs, v.oneCell' = true) :
  Calls Tryz.prog 100 #[.slice (some ⟨b, 0, none⟩) n c, .int .i64 i, .slice (some ⟨vb, 0, none⟩) 1 vc] w fun e w' =>
   e = .returned (.slice (some ⟨w.heap.size, 0, none⟩) (n + 1) (grownCap w (n + 1) c 48)) ∧
   w' = (((w.alloc (.cells ((cs.take ((i) * 3)).toArray ++ Builtin.zeroCells (Value.cells (.agg #[.slice none 0 0, .slice none 0 0, .bool false])) (n + 1 - i) ++ Builtin.zeroCells (Value.cells (.agg #[.slice none 0 0, .slice none 0 0, .bool false])) (grownCap w (n + 1) c 48 - (n + 1))) 48)).drew.setCells w.heap.size ((i) * 3) vs).drew).setCells w.heap.size ((i + 1) * 3) (cs.drop ((i) * 3)) := by
 have mixed : Tryz.prog.follows .mixedOrders = true := by kernel_rfl
 have hz2 : ¬ ((i : Int) = (n : Int)) := by omega
 have hz3 : (c : Int) < (n : Int) + 1 := by omega
 have hsz : (Tryz.prog.info? 48).map (·.size) = some 3 := by rw [hi0]; simp [hs0]
 have hbw : b < w.heap.size := block_lt_of_cell (hcs 0 _ (List.getElem?_eq_getElem (by omega)))
 have hvw : vb < w.heap.size := block_lt_of_cell (hvs 0 _ (List.getElem?_eq_getElem (by omega)))
 have hkk : (n : Int) + 1 - (i : Int) = ((n + 1 - i : Nat) : Int) := by omega
 have hik : i + (n + 1 - i) = n + 1 := by omega
 have htl : (cs.take ((i) * 3)).length = i * 3 := by rw [List.length_take]; omega
 have hold : (Builtin.firstCells i0.size i (.slice (some ⟨b, 0, none⟩) i c)).run Tryz.prog w.drew = .ok (cs.take ((i) * 3)).toArray w.drew := by
  rw [hs0]
  exact run_firstCells_some w.drew 3 i ⟨b, 0, none⟩ i c (cs.take ((i) * 3)) htl (fun j v hj => by
   rw [Addr.add_lit, Nat.zero_add]
   rw [List.getElem?_take] at hj
   split at hj
   ·exact hcs j v hj
   ·cases hj)
 have hrz : ∀ ty, (Builtin.append_ #[26, 3] ty #[.slice (some ⟨b, 0, none⟩) i c, .int .i64 ((n : Int) + 1 - (i : Int))]).run Tryz.prog w =
   .ok (.slice (some ⟨w.heap.size, 0, none⟩) (n + 1) (grownCap w (n + 1) c 48)) (w.drew.alloc (.cells ((cs.take ((i) * 3)).toArray ++ Builtin.zeroCells (Value.cells (.agg #[.slice none 0 0, .slice none 0 0, .bool false])) (n + 1 - i) ++ Builtin.zeroCells (Value.cells (.agg #[.slice none 0 0, .slice none 0 0, .bool false])) (grownCap w (n + 1) c 48 - (n + 1))) 48)) := fun ty => by
  have h := Lib.run_append_grow_zeros w 26 3 ty 48 i0 _ .i64 .i64 Tryz.underlying26 Tryz.underlying3 hi0 hz0 (some ⟨b, 0, none⟩) i c (cs.take ((i) * 3)) hold (n + 1 - i) (by omega) (by omega) (by omega) (by omega) (Nat.le_trans (Nat.mul_le_mul_right _ (by omega)) hb48) (by rw [hik]; exact hfit)
  rw [hik] at h
  rw [hkk]
  exact h
 obtain ⟨G, hG⟩ : ∃ G, G = grownCap w (n + 1) c 48 := ⟨_, rfl⟩
 obtain ⟨ROW, hROW⟩ : ∃ ROW : Array Value, ROW = (cs.take ((i) * 3)).toArray ++ Builtin.zeroCells (Value.cells (.agg #[.slice none 0 0, .slice none 0 0, .bool false])) (n + 1 - i) ++ Builtin.zeroCells (Value.cells (.agg #[.slice none 0 0, .slice none 0 0, .bool false])) (G - (n + 1)) := ⟨_, rfl⟩
 rw [← hG] at hrz ⊢
 rw [← hROW] at hrz ⊢
 have hzc : ∀ k, (Builtin.zeroCells (Value.cells (.agg #[.slice none 0 0, .slice none 0 0, .bool false])) k).size = k * 3 := fun k => by simp [Builtin.zeroCells, Value.cells]
 have hRl : (n + 1) * 3 ≤ ROW.size := by
  rw [hROW, Array.size_append, Array.size_append, hzc, hzc, List.size_toArray, htl]
  omega
 obtain ⟨W1, hW1⟩ : ∃ W1, W1 = w.drew.alloc (.cells ROW 48) := ⟨_, rfl⟩
 rw [← hW1] at hrz
 have hN : ∀ j, j < (n + 1) * 3 → (W1.cell? ⟨w.heap.size, j, none⟩).isSome = true := fun j hj => by
  rw [hW1, World.cell?_alloc_at (w := w.drew) ROW _ w.heap.size j rfl, Array.getElem?_eq_getElem (by omega)]; rfl
 have hNf : ∀ j, W1.frozen? ⟨w.heap.size, j, none⟩ = false := fun j => by rw [hW1]; exact World.frozen?_alloc_at (w := w.drew) ROW _ w.heap.size j rfl
 have hOb : ∀ j v, w.cell? ⟨b, j, none⟩ = some v → W1.cell? ⟨b, j, none⟩ = some v := fun j v h => by rw [hW1, World.cell?_alloc_past (w := w.drew) _ b j hbw]; exact h
 have hOv : ∀ j v, w.cell? ⟨vb, j, none⟩ = some v → W1.cell? ⟨vb, j, none⟩ = some v := fun j v h => by rw [hW1, World.cell?_alloc_past (w := w.drew) _ vb j hvw]; exact h
 have hcpA : ∀ (W : World), (∀ x, W.cell? x = W1.cell? x) → (∀ x, W.frozen? x = W1.frozen? x) → ∀ ty dc, (Builtin.copy_ #[26, 26] ty #[.slice (some ⟨w.heap.size, (i) * 3, none⟩) (n + 1 - i) dc, .slice (some ⟨vb, 0, none⟩) 1 vc]).run Tryz.prog W = .ok (goInt (1 : Nat)) (W.setCells w.heap.size ((i) * 3) vs) := fun W hWc hWf ty dc =>
  Ri W _ _ ty 48 w.heap.size ((i) * 3) (n + 1 - i) dc ⟨vb, 0, none⟩ 1 vc 3 1 vs Tryz.underlying26 hsz (by simp only [Nat.min_def]; split <;> omega) (by omega)
   (fun j v hj => by rw [Addr.add_lit, hWc, Nat.zero_add]; exact hOv _ v (hvs j v hj))
   (fun j hj => by rw [hWc]; exact hN _ (by omega)) (fun j hj => by rw [hWf]; exact hNf _) h1v
 have hGn : n + 1 ≤ G := by rw [hG]; exact grownCap_ge w _ _ _
 have hG63 : G ≤ 9223372036854775807 := by
  have := grownCap_le_maxLen w (n + 1) c 48 (by unfold maxLen; omega)
  rw [← hG] at this
  unfold maxLen at this
  omega
 have hGi : ¬ (G = i) := by omega
 have hGim : ¬ (G = i + 1) := by omega
 have hci : ¬ (c = i) := by omega
 have hbN : b ≠ w.heap.size := by omega
 have hdl : (cs.drop ((i) * 3)).length = (n - i) * 3 := by rw [List.length_drop, hcl]; omega
 have hcpB : ∀ (W : World), (∀ x, W.cell? x = (W1.setCells w.heap.size ((i) * 3) vs).cell? x) → (∀ x, W.frozen? x = (W1.setCells w.heap.size ((i) * 3) vs).frozen? x) → ∀ ty dc sc, (Builtin.copy_ #[26, 26] ty #[.slice (some ⟨w.heap.size, (i + 1) * 3, none⟩) (n - i) dc, .slice (some ⟨b, (i) * 3, none⟩) (n - i) sc]).run Tryz.prog W = .ok (goInt (n - i : Nat)) (W.setCells w.heap.size ((i + 1) * 3) (cs.drop ((i) * 3))) := fun W hWc hWf ty dc sc =>
  Ri W _ _ ty 48 w.heap.size ((i + 1) * 3) (n - i) dc ⟨b, (i) * 3, none⟩ (n - i) sc 3 (n - i) (cs.drop ((i) * 3)) Tryz.underlying26 hsz (by simp only [Nat.min_def]; split <;> omega) hdl
   (fun j v hj => by
    rw [Addr.add_lit, hWc, World.cell?_setCells_out _ _ _ _ _ (fun h _ => absurd h hbN)]
    exact hOb _ v (hcs ((i) * 3 + j) v (by rwa [List.getElem?_drop] at hj)))
   (fun j hj => by rw [hWc]; exact isSome_setCells w.heap.size vs ((i) * 3) W1 (fun t ht => hN _ (by omega)) _ (hN _ (by rw [hdl] at hj; omega)))
   (fun j hj => by rw [hWf, World.frozen?_setCells]; exact hNf _) (fun v hv => h1c v (List.mem_of_mem_drop hv))
 subst hW1
 have hE1 : ∀ x, ((w.alloc (.cells ROW 48)).drew).cell? x = (w.drew.alloc (.cells ROW 48)).cell? x := fun x => rfl
 have hE2 : ∀ x, ((w.alloc (.cells ROW 48)).drew).frozen? x = (w.drew.alloc (.cells ROW 48)).frozen? x := fun x => rfl
 have hF1 : ∀ x, (((w.alloc (.cells ROW 48)).drew.setCells w.heap.size ((i) * 3) vs).drew).cell? x = ((w.drew.alloc (.cells ROW 48)).setCells w.heap.size ((i) * 3) vs).cell? x := fun x => rfl
 have hF2 : ∀ x, (((w.alloc (.cells ROW 48)).drew.setCells w.heap.size ((i) * 3) vs).drew).frozen? x = ((w.drew.alloc (.cells ROW 48)).setCells w.heap.size ((i) * 3) vs).frozen? x := fun x => rfl
 have hw1 : IntKind.i64.wrap ((i : Int) + 1) = (i : Int) + 1 := by rw [IntKind.wrap_i64]; omega
 have hb1 : (0 : Int) ≤ (i : Int) + 1 := by omega
 have hin : i ≤ n := by omega
 have htn : ((i : Int) + 1).toNat = i + 1 := by omega
 have hb3 : (i : Int) ≤ (n : Int) := by omega
 clear hkk hik hold hROW hG hRl htl hzc
 go_enter Tryz.func100, Tryz.ntmps100
 go_wp2_with (first
  | (at_builtin; refine Lib.wpList_append_run _ rfl _ _ _ _ rfl _ _ rfl rfl _ _ (hrz _) ?_)
  | (at_builtin; refine wpList_copy_runI _ rfl _ _ 26 26 rfl _ _ rfl rfl (hcpA _ hE1 hE2 _ _) ?_)
  | (at_builtin; refine wpList_copy_runI _ rfl _ _ 26 26 rfl _ _ rfl rfl (hcpB _ (fun _ => rfl) (fun _ => rfl) _ _ _) ?_))
 go_region_law_o (refine step_copy_runI rfl _ _ 26 26 rfl (.slice (some ⟨w.heap.size, (i + 1) * 3, none⟩) (n - i) (G - (i + 1))) (.slice (some ⟨b, (i) * 3, none⟩) (n - i) (c - i)) (by simp [Act.eval, Act.put]) (by simp [Act.eval, Act.put]) (hcpB _ hF1 hF2 3 (G - (i + 1)) (c - i)) ?_)
 go_wp2
 go_ret
 exact ⟨rfl, rfl⟩
set_option maxHeartbeats 4000000 in
theorem Aed (vb vc : Nat) (vs : List Value) (w : World) (i0 : TypeInfo) (hi0 : Tryz.prog.info? 48 = some i0) (hz0 : i0.zero = some (.agg #[.slice none 0 0, .slice none 0 0, .bool false])) (hs0 : i0.size = 3)
  (hfit : Builtin.nextslicecap (0 + 1) 0 * i0.bytes ≤ 281474976710656) (hvl : vs.length = 3)
  (hvs : ∀ j v, vs[j]? = some v → w.cell? ⟨vb, j, none⟩ = some v) (h1v : ∀ v ∈ vs, v.oneCell' = true) :
  Calls Tryz.prog 100 #[.slice none 0 0, .int .i64 ((0 : Nat) : Int), .slice (some ⟨vb, 0, none⟩) 1 vc] w fun e w' =>
   e = .returned (.slice (some ⟨w.heap.size, 0, none⟩) (0 + 1) (grownCap w (0 + 1) 0 48)) ∧
   w' = w.drew.alloc (.cells (([] ++ vs).toArray ++ Builtin.zeroCells (Value.cells (.agg #[.slice none 0 0, .slice none 0 0, .bool false])) (grownCap w (0 + 1) 0 48 - (0 + 1))) 48) := by
 have hsrc : _root_.Go.Src Tryz.prog i0.size 26 (.slice (some ⟨vb, 0, none⟩) 1 vc) 1 vs w := by
  rw [hs0]
  exact _root_.Go.Src.ofSlice w Tryz.underlying26 ⟨vb, 0, none⟩ 1 vc vs (by omega) (fun j u hj => by rw [Addr.add_lit, Nat.zero_add]; exact hvs j u hj) h1v
 have hold : (Builtin.firstCells i0.size 0 (.slice none 0 0)).run Tryz.prog w.drew = .ok ([] : List Value).toArray w.drew := by
  rw [hs0]
  exact run_firstCells_none w.drew 3 0 0 0
 have hrun : ∀ ty, (Builtin.append_ #[26, 26] ty #[.slice none 0 0, .slice (some ⟨vb, 0, none⟩) 1 vc]).run Tryz.prog w = .ok (.slice (some ⟨w.heap.size, 0, none⟩) (0 + 1) (grownCap w (0 + 1) 0 48)) (w.drew.alloc (.cells (([] ++ vs).toArray ++ Builtin.zeroCells (Value.cells (.agg #[.slice none 0 0, .slice none 0 0, .bool false])) (grownCap w (0 + 1) 0 48 - (0 + 1))) 48)) := fun ty =>
  run_append_grow_src w 26 26 ty 48 i0 _ Tryz.underlying26 hi0 hz0 none 0 0 [] hold _ 1 vs hsrc (by omega) (by omega) hfit
 go_enter Tryz.func100, Tryz.ntmps100
 go_wp2_with (at_builtin; refine Lib.wpList_append_run _ rfl _ _ _ _ rfl _ _ rfl rfl _ _ (hrun _) ?_)
 all_goals (go_ret; first | exact ⟨rfl, rfl⟩ | exact ⟨rfl, by simp [Value.cells]⟩)
theorem Ack : (Tryz.prog.info? 48).map (fun i => (i.zero, i.size, i.bytes)) = some (some (.agg #[.slice none 0 0, .slice none 0 0, .bool false]), 3, 56) := by kernel_rfl
theorem Ahq {cs vs : List Lf} {n i : Nat} (hcl : cs.length = n * 3) (hvl : vs.length = 3) (hi : i ≤ n) (hn : (n + 1) * 56 ≤ 140737488355328) :
  C3 Tryz.prog 100 [.arr 48 3 0 cs, .arr 48 3 0 vs] [.one (.ls 0 n), .one (Ii6 (i : Int)), .one (.ls 1 1)] (fun y m' => y = .s (.one (.ls 0 (n + 1))) ∧ m' = [.arr 48 3 0 (cs.take (i * 3) ++ vs ++ cs.drop (i * 3)), .dead]) := by
 refine Ady (by decide) hcl hvl (fun w v1 vb vc cur2 xs ys hown hg2 hcell hyl hne hx1 hy1 => ?_)
 obtain ⟨i0, hi0, hz0, hs0, hb0⟩ := info_parts Ack
 have hxl := hown.1
 have hfitG : ∀ {old}, old < n + 1 → Builtin.nextslicecap (n + 1) old * i0.bytes ≤ 281474976710656 := fun h => growslice_fits h (by rw [hb0]; exact hn)
 have hsz' : (Tryz.prog.info? 48).map (·.size) = some 3 := by rw [hi0]; simp [hs0]
 have hzc : ∀ k, (Builtin.zeroCells (Value.cells (.agg #[.slice none 0 0, .slice none 0 0, .bool false])) k).size = k * 3 := fun k => by simp [Builtin.zeroCells, Value.cells]
 have hg63 : ∀ c, grownCap w (n + 1) c 48 ≤ maxLen := fun c => grownCap_le_maxLen w (n + 1) c 48 (by unfold maxLen; omega)
 have hgge : ∀ c, n + 1 ≤ grownCap w (n + 1) c 48 := fun c => grownCap_ge w _ _ _
 rcases hown.2 with ⟨rfl, h0⟩ | ⟨g, cap, cur, rfl, _, hg, hnc, hcm, hcs, hct⟩
 ·subst h0
  have hi0' : i = 0 := by omega
  subst hi0'
  have hx0 : xs = [] := List.length_eq_zero_iff.1 (hxl.trans (Nat.zero_mul _))
  subst hx0
  refine (Aed vb vc ys w i0 hi0 hz0 hs0 (hfitG (by omega)) hyl hcell hy1).mono ?_
  rintro e w' ⟨rfl, rfl⟩
  refine ⟨_, w.heap.size, rfl, Wp (hgge 0) (hg63 0) ?_ ?_, .inr (Nat.le_refl _)⟩
  ·have := hgge 0
   rw [Array.size_append, hzc, List.size_toArray, List.nil_append, hyl]; omega
  ·rw [Array.toList_append, List.toList_toArray, List.take_left' (by rw [List.nil_append, hyl])]
   simp
 ·have hcur : cur.toList.length = cap * 3 := by rw [Array.length_toList]; exact hcs
  have hcell1 : ∀ j v, xs[j]? = some v → w.cell? ⟨g, j, none⟩ = some v := fun j v hj => by
   unfold World.cell?
   rw [hg]
   rw [← hct, List.getElem?_take] at hj
   split at hj
   ·simpa using hj
   ·cases hj
  have hc63 : cap ≤ 9223372036854775807 := by unfold maxLen at hcm; exact hcm
  have hsome : ∀ j, j < cap * 3 → (w.cell? ⟨g, j, none⟩).isSome = true := fun j hj => by
   unfold World.cell?
   rw [hg]
   show (cur[j]?).isSome = true
   rw [Array.getElem?_eq_getElem (by omega)]; rfl
  have hfrz : ∀ j, w.frozen? ⟨g, j, none⟩ = false := fun j => by
   unfold World.frozen?
   rw [hg]
   show (decide (0 ≤ j) && decide (j < 0)) = false
   rw [decide_eq_false (Nat.not_lt_zero j), Bool.and_false]
  have hfrz2 : ∀ j, w.frozen? ⟨vb, j, none⟩ = false := fun j => by
   unfold World.frozen?
   rw [hg2]
   show (decide (0 ≤ j) && decide (j < 0)) = false
   rw [decide_eq_false (Nat.not_lt_zero j), Bool.and_false]
  have hvb : vb ≠ g := fun e => hne (by rw [e]; rfl)
  rcases Nat.lt_or_eq_of_le hi with hlt | rfl
  ·rcases Nat.lt_or_ge cap (n + 1) with hroom | hroom
   ·refine (Abb g n cap i vb vc xs ys w i0 hi0 hz0 hs0 hlt hnc hroom (by omega) (by rw [hb0]; omega) (hfitG hroom) hxl hyl hcell1 hcell hx1 hy1).mono ?_
    rintro e w' ⟨rfl, rfl⟩
    have hge := hgge cap
    have htl : (xs.take (i * 3)).length = i * 3 := by rw [List.length_take]; omega
    have := Aav (E := 48) (sz := 3) (w := w) (row := (xs.take (i * 3)).toArray ++ Builtin.zeroCells (Value.cells (.agg #[.slice none 0 0, .slice none 0 0, .bool false])) (n + 1 - i) ++ Builtin.zeroCells (Value.cells (.agg #[.slice none 0 0, .slice none 0 0, .bool false])) (grownCap w (n + 1) cap 48 - (n + 1))) (xs := xs.take (i * 3)) (vs := ys) (D := xs.drop (i * 3)) hlt hge (hg63 cap)
     (by rw [Array.size_append, Array.size_append, hzc, hzc, List.size_toArray, htl]; omega) hyl (by rw [List.length_drop, hxl]; omega)
     (by rw [Array.toList_append, Array.toList_append, List.toList_toArray, List.append_assoc, List.take_left' htl])
    refine ⟨_, w.heap.size, rfl, ?_, .inr (Nat.le_refl _)⟩
    first | exact this | simpa only [Nat.mul_one] using this
   ·refine (Aa5 g n cap i vb vc xs ys w hsz' hlt hroom hc63 hvb hxl hyl hcell1 (fun j hj => hsome j (by omega)) (fun j _ => hfrz j) hcell hx1 hy1 48 48 cur2.size cur.size (by unfold World.shape?; rw [hg2]) (by unfold World.shape?; rw [hg]) (by omega) (hfrz2 _) (hfrz2 _)).mono ?_
    rintro e w' ⟨rfl, rfl⟩
    have := Zb (E := 48) (sz := 3) (b := g) (vs := ys) hg hlt hroom hcm hcs hyl
    rw [hct] at this
    refine ⟨_, g, rfl, ?_, .inl rfl⟩
    first | exact this | simpa only [Nat.mul_one] using this
  ·have hxe : xs.take (i * 3) ++ ys ++ xs.drop (i * 3) = xs ++ ys := by
    rw [List.take_of_length_le (by omega), List.drop_of_length_le (by omega), List.append_nil]
   rw [hxe]
   rcases Nat.lt_or_ge cap (i + 1) with hroom | hroom
   ·refine (Z4 g i cap vb vc xs ys w i0 hi0 hz0 hs0 hnc hroom (by omega) (hfitG hroom) hxl hyl hcell1 hcell hy1).mono ?_
    rintro e w' ⟨rfl, rfl⟩
    have hge := hgge cap
    refine ⟨_, w.heap.size, rfl, Wp hge (hg63 cap) ?_ ?_, .inr (Nat.le_refl _)⟩
    ·rw [Array.size_append, hzc, List.size_toArray, List.length_append, hxl, hyl]; omega
    ·rw [Array.toList_append, List.toList_toArray, List.take_left' (by rw [List.length_append, hxl, hyl]; omega)]
   ·refine (Ad9 g i cap vb vc ys w i0 hi0 hs0 hroom hc63 hyl (fun j hj => hsome _ (by omega)) (fun j _ => hfrz _) hcell hy1).mono ?_
    rintro e w' ⟨rfl, rfl⟩
    have := Aci (E := 48) (sz := 3) (n := i) (b := g) (vs := ys) hg hroom hcm hcs hyl
    rw [hct] at this
    exact ⟨_, g, rfl, this, .inl rfl⟩
end
def L8 (a0 : List Af) (a1 : Int) (a2 : List Af) : Option (List Af) := Aoc 56 a0 a1 a2
theorem Ru {a0 : List Af} {a1 : Int} {a2 r : List Af} (h : L8 a0 a1 a2 = some r) : C3 Tryz.prog 100 [.arr 48 3 0 (a0.flatMap Ac), .arr 48 3 0 (a2.flatMap Ac)] [.one (.ls 0 a0.length), .one (Ii6 a1), .one (.ls 1 a2.length)] (fun y m' => y = .s (.one (.ls 0 r.length)) ∧ m' = [.arr 48 3 0 (r.flatMap Ac), .dead]) :=
 Am0 (f := Ac) (fun _ => rfl) Ahq h
def Ia (a0 : B2) (a1 : Af) (b1 : Unit) : Option (B2 × Int) :=
 (Gg a0).bind fun v2 => (Mc v2 a1.Key).bind fun v3 => (Iw a0.L).bind fun v4 => if v3.2 then ((idx v4 v3.1).bind fun u5 => some ((B2.mk (v4.set v3.1.toNat a1)), 0)) else (if (decide (16 ≤ (v4.length : Int))) then (some ((B2.mk ([] : List Af)), 8)) else ((L8 v4 v3.1 [a1]).bind fun v6 => some ((B2.mk v6), 0)))
def D6 (a0 : B2) (a1 : Af) : Option (B2 × Int) :=
 (H8 (B2.mk a0.L)).bind fun v7 => if (!v7) then (some ((B2.mk ([] : List Af)), 1)) else ((B7 (Af.mk a1.Key a1.Val a1.Del)).bind fun v8 => if (!v8) then (some ((B2.mk ([] : List Af)), 1)) else (Ia a0 a1 ()))
theorem Vf {a0 : B2} {a1 : Af} {r : B2 × Int} (h : D6 a0 a1 = some r) : Bz Tryz.prog 65 [.agg [.sl a0.L.length (a0.L.flatMap Ac)], .agg (EL.el a1)] (· = .tup [.agg [.sl r.1.L.length (r.1.L.flatMap Ac)], .one (Ii6 r.2)]) := by
 unfold D6 at h
 refine A8 Tryz.func65 rfl (nt := 46) rfl (Nbl rfl) ?_
 intro w0 S0
 refine csr (Kp rfl rfl (Kp rfl rfl (Ce rfl Amc (rm 1 rfl (Al (Bp (Bp (I0 (Unit) (fun b1 => [(2, .s (.one (.lp 0 0))), (3, .s (.one (.lp 1 0))), (4, .s (.one (.lp 2 0)))]) (fun b1 => [.box [.sl a0.L.length (a0.L.flatMap Ac)], .box (EL.el a1), .box [Znl]]) (fun b1 => Ia a0 a1 b1 = some r) (fun _ _ => Az rfl) (fun _ _ => Ak rfl) (fun _ _ => Nbl rfl) (fun b1 h => ?_) ?_))))))))
 ·unfold Ia at h
  refine Bp ?_
  obtain ⟨v2, hv2, h⟩ := Ag h
  obtain ⟨v3, hv3, h⟩ := Ag h
  refine Ei [] [0, 1, 0, 4, 15, 31, 63, 63, 127, 511] [[.box [.sl a0.L.length (a0.L.flatMap Ac)], .box (EL.el a1), .box [Znl]]] (by kernel_rfl) mixed (by kernel_rfl) (by decide) rfl rfl rfl rfl ?_
  refine ev (Av 0 rfl rfl) rfl rfl (Ap Agk rfl (.lp _ _ _ rfl) (Nbl rfl)) (ed (Av 0 rfl rfl) rfl rfl (C1 Aqy (Ad rfl Aj) rfl (Oh hv2)) (ev (Av 0 rfl rfl) rfl rfl (Aa J3 rfl) (ev (Av 0 rfl rfl) rfl rfl (Ae E6 rfl (.lp _ _ _ rfl) rfl) (ed (Av 0 rfl rfl) rfl rfl (C1 Atw (Ad rfl (Ad rfl Aj)) rfl (Wb hv3)) (ev (Av 0 rfl rfl) rfl rfl (Jx rfl) (ev (Av 0 rfl rfl) rfl rfl (Bm rfl rfl) (ev (Av 0 rfl rfl) rfl rfl (Bm rfl rfl) (ev (Av 0 rfl rfl) rfl rfl (E8 rfl) (ev (Av 0 rfl rfl) rfl rfl (E8 rfl) (Tb (Ab (csr (sv rfl (Aa X6 rfl) (sv rfl (Ae Ry rfl (.lp _ _ _ rfl) rfl) ?_))))))))))))))
  obtain ⟨v4, hv4, h⟩ := Ag h
  refine Dx (x' := .s (.one (.ls 3 v4.length))) (M' := [.box [.sl a0.L.length (a0.L.flatMap Ac)], .box (EL.el a1), .box [Znl], .arr 48 3 0 (v4.flatMap Ac)]) [] rfl Att (.func _) (Ad rfl Aj) (Sx hv4) rfl rfl (by decide) rfl rfl rfl ?_
  refine rm 1 rfl (Al (Bp (csr (rm 1 rfl (Al (ccI h rfl (fun h => ?_) (fun h => ?_)))))))
  ·refine csr (rm 2 rfl (sv rfl (Ap Aas rfl (.lp _ _ _ rfl) (Nbl rfl)) ?_))
   obtain ⟨u5, hu5, h⟩ := Ag h
   refine sv rfl (V6 (f := Ac) Qr (fun _ => rfl) rfl rfl rfl rfl rfl hu5) ?_
   refine Al5 (f := Ac) (u' := a1) (sz := 3) 0 Amh (fun _ => rfl) rfl rfl rfl rfl rfl rfl rfl (List.all_eq_true.1 rfl) (Sf hu5).2 (Nbl rfl) rfl ?_
   refine Abg 28 (y := .s (.one (.ls 3 v4.length))) (.s (.one (.ls 3 (v4.set v3.1.toNat a1).length))) rfl (congrArg (fun n => AV.s (.one (.ls 3 n))) List.length_set.symm) ?_
   refine Abg 8 (y := .s (.one (.ls 3 v4.length))) (.s (.one (.ls 3 (v4.set v3.1.toNat a1).length))) rfl (congrArg (fun n => AV.s (.one (.ls 3 n))) List.length_set.symm) ?_
   refine Abg 30 (y := .s (.one (.ls 3 v4.length))) (.s (.one (.ls 3 (v4.set v3.1.toNat a1).length))) rfl (congrArg (fun n => AV.s (.one (.ls 3 n))) List.length_set.symm) ?_
   refine Al (csr (rm 1 rfl (sv rfl (Bl Amc Ams (A1 rfl Ba) (.cons _ _ _ _ _ _ _ rfl rfl (Nbl rfl) (.nil _))) (A9 Ami rfl rfl rfl rfl (Nbl rfl) (Cc [.box [.sl a0.L.length (a0.L.flatMap Ac)], .box (EL.el a1), .box [.ls 3 (v4.set v3.1.toNat a1).length], .arr 48 3 0 ((v4.set v3.1.toNat a1).flatMap Ac)] rfl (rm 1 rfl (Al (Bo (Ah ?_)))))))))
   obtain rfl := SJ h
   refine ⟨Or.inr rfl, _, _, _, (Ai (B9.agg _ _ _ _ _ Agk rfl (.lp _ _ _ rfl) (Nbl rfl)) (Ai (B9.tmp _ _ rfl) Au)), (by (repeat' first | exact Ga.nil _ | apply Ga.cons | apply F5.one | apply F5.agg | exact Ci.nil | exact Ci.ls _ _ _ _ _ _ rfl (Ay (f := Ac) (fun _ => rfl) _).symm | exact Ci.id _ rfl | exact Cg.nil _ | apply Cg.cons)), ?_⟩
   rfl
  ·refine Be (Ab (Bp (csr (rm 1 rfl (sv rfl (Lw Qr rfl rfl (Ay (f := Ac) (fun _ => rfl) _).symm) ?_)))))
   refine sv rfl (G6 rfl rfl) (Al (ccI h rfl (fun h => ?_) (fun h => ?_)))
   ·refine csr (sv rfl (Bl Amc Ams Ba (.nil _)) (A9 Ami rfl rfl rfl rfl (Nbl rfl) (Cc [.box [.sl a0.L.length (a0.L.flatMap Ac)], .box (EL.el a1), .box [Znl], .arr 48 3 0 (v4.flatMap Ac)] rfl (rm 1 rfl (Al (Bo (Ah ?_)))))))
    obtain rfl := SJ h
    refine ⟨Or.inr rfl, _, _, _, (Ai (B9.agg _ _ _ _ _ Agk rfl (.lp _ _ _ rfl) (Nbl rfl)) (Ai (B9.tmp _ _ rfl) Au)), (Sj rfl), ?_⟩
    rfl
   ·refine Be (Ab (csr (rm 2 rfl (sv rfl (Ap Aas rfl (.lp _ _ _ rfl) (Nbl rfl)) ?_))))
    refine Fw rfl Tryz.underlying26 Ael rfl rfl (List.all_eq_true.1 rfl) (by decide) ?_
    refine Cc [.box [.sl a0.L.length (a0.L.flatMap Ac)], .box (EL.el a1), .box [Znl], .arr 48 3 0 (v4.flatMap Ac), .arr 48 3 0 ([a1].flatMap Ac)] rfl ?_
    obtain ⟨v6, hv6, h⟩ := Ag h
    refine Dx (x' := .s (.one (.ls 3 v6.length))) (M' := [.box [.sl a0.L.length (a0.L.flatMap Ac)], .box (EL.el a1), .box [Znl], .arr 48 3 0 (v6.flatMap Ac), .dead]) [3, 4] rfl Aps (.func _) (Ad rfl (Ad rfl (Ad rfl Aj))) (Ru hv6) rfl rfl (by decide) rfl rfl rfl ?_
    refine sv rfl (Bl Amc Ams (A1 rfl Ba) (.cons _ _ _ _ _ _ _ rfl rfl (Nbl rfl) (.nil _))) (A9 Ami rfl rfl rfl rfl (Nbl rfl) (Cc [.box [.sl a0.L.length (a0.L.flatMap Ac)], .box (EL.el a1), .box [.ls 3 v6.length], .arr 48 3 0 (v6.flatMap Ac), .dead] rfl (rm 1 rfl (Al (Bo ?_)))))
    obtain rfl := SJ h
    refine ⟨Or.inr rfl, _, _, _, (Ai (B9.agg _ _ _ _ _ Agk rfl (.lp _ _ _ rfl) (Nbl rfl)) (Ai (B9.tmp _ _ rfl) Au)), (by (repeat' first | exact Ga.nil _ | apply Ga.cons | apply F5.one | apply F5.agg | exact Ci.nil | exact Ci.ls _ _ _ _ _ _ rfl (Ay (f := Ac) (fun _ => rfl) _).symm | exact Ci.id _ rfl | exact Cg.nil _ | apply Cg.cons)), ?_⟩
    rfl
 ·skip
  refine Ax (sv rfl (Ap Agk rfl (.lp _ _ _ rfl) (Nbl rfl)) ?_)
  obtain ⟨v7, hv7, h⟩ := Ag h
  refine Bn rfl Arb (Ad rfl Aj) (A4 rfl) (Ps hv7) (sv rfl (B1 rfl) (rm 1 rfl (Bc 12 rfl (fun hc => ?_) (fun hc => ?_))))
  ·replace h := Bt hc h
   clear hc
   refine rm 4 rfl (Al (Cm rfl (fun _ => ?_) (fun hx => Bool.noConfusion hx)))
   refine csr (sv rfl (Bl Amc Ams Ba (.nil _)) (A9 Ami rfl rfl rfl rfl (Nbl rfl) (Cc [.box [.sl a0.L.length (a0.L.flatMap Ac)], .box (EL.el a1), .box [Znl]] rfl (rm 1 rfl (Al (Bo (Ah ?_)))))))
   obtain rfl := SJ h
   refine ⟨Or.inr rfl, _, _, _, (Ai (B9.agg _ _ _ _ _ Agk rfl (.lp _ _ _ rfl) (Nbl rfl)) (Ai (B9.tmp _ _ rfl) Au)), (Sj rfl), ?_⟩
   rfl
  ·replace h := Bu hc h
   clear hc
   refine son rfl rfl rfl (sv rfl (Ap Aas rfl (.lp _ _ _ rfl) (Nbl rfl)) (son rfl rfl rfl ?_))
   obtain ⟨v8, hv8, h⟩ := Ag h
   refine Bn rfl Aq3 (Ad rfl Aj) (A4 rfl) (Mv hv8) (son rfl rfl rfl (sv rfl (B1 rfl) (rm 1 rfl (Al (ccI h rfl (fun h => ?_) (fun h => ?_))))))
   ·refine csr (sv rfl (Bl Amc Ams Ba (.nil _)) (A9 Ami rfl rfl rfl rfl (Nbl rfl) (Cc [.box [.sl a0.L.length (a0.L.flatMap Ac)], .box (EL.el a1), .box [Znl]] rfl (rm 1 rfl (Al (Bo (Ah ?_)))))))
    obtain rfl := SJ h
    refine ⟨Or.inr rfl, _, _, _, (Ai (B9.agg _ _ _ _ _ Agk rfl (.lp _ _ _ rfl) (Nbl rfl)) (Ai (B9.tmp _ _ rfl) Au)), (Sj rfl), ?_⟩
    rfl
   ·refine Be (Ab ?_)
    exact ⟨(), _, h, ⟨rfl, rfl, rfl, trivial⟩, rfl⟩
def Cr (a0 : Dn) (b1 : Int × (List Af) × Bool × (List UInt8) × (List Aw)) : Option (Dn × Jb × Int) :=
 some ((Dn.mk a0.base_ (B2.mk b1.2.1)), (Jb.mk 0 0 0 0 b1.2.2.1 b1.2.2.2.1 b1.2.2.2.2), b1.1)
def Di (a0 : Dn) (a1 : Hs) (b6 : Bool) : Option (Dn × Jb × Int) :=
 if b6 then ((D6 a0.buf_ (Af.mk a1.Key a1.Val (decide (a1.Kind = 5)))).bind fun v7 => Cr a0 (v7.2, v7.1.L, false, ([] : List UInt8), ([] : List Aw))) else (Cr a0 (0, a0.buf_.L, false, ([] : List UInt8), ([] : List Aw)))
def Dj (a0 : Dn) (a1 : Hs) : Option (Dn × Jb × Int) :=
 if (decide (a1.Kind = 3)) then ((Nc a1.Key).bind fun v2 => (Dl a0 v2 1).bind fun v3 => if (decide (0 < (v3.length : Int))) then ((idx v3 0).bind fun u4 => Cr a0 (0, a0.buf_.L, true, u4.Val, ([] : List Aw))) else (Cr a0 (0, a0.buf_.L, false, ([] : List UInt8), ([] : List Aw)))) else (if (decide (a1.Kind = 6)) then ((Dl a0 a1.Rng 8).bind fun v5 => Cr a0 (0, a0.buf_.L, false, ([] : List UInt8), v5)) else (if (decide (a1.Kind = 4)) then (Di a0 a1 (decide (a1.Kind = 4))) else (Di a0 a1 (decide (a1.Kind = 5)))))
theorem Pz {a0 : Dn} {a1 : Hs} {r : Dn × Jb × Int} (h : Dj a0 a1 = some r) : Bz Tryz.prog 34 [.agg (EL.el a0), .agg (EL.el a1)] (· = .tup [.agg (EL.el r.1), .agg (EL.el r.2.1), .one (Ii6 r.2.2)]) := by
 unfold Dj at h
 refine A8 Tryz.func34 rfl (nt := 57) rfl (Nbl rfl) ?_
 intro w0 S0
 refine csr (Kp rfl rfl (Kp rfl rfl (Ce rfl Aoe (Ce rfl Aoq (rm 1 rfl (Al (csr (rm 1 rfl (Al (csr (sv rfl (Bl Aoq Asr Ba (.nil _)) (Ce rfl Aoq (A9 Apq rfl rfl rfl rfl (Nbl rfl) (Cc [.box (EL.el a0), .box (EL.el a1), .box [Znl, Znl], .box Zbc, .box Zbc] rfl (Al (Bp (csr (fl Ajk ti3 rfl rfl rfl rfl rfl rfl (Al (C4 (Int × (List Af) × Bool × (List UInt8) × (List Aw)) (fun b1 => [(2, .s (.one (.lp 0 0))), (4, .s (.one (.lp 2 0))), (5, .s (.one (.lp 3 0))), (7, .s (.one (Ii6 b1.1))), (8, .s (.one (.lp 4 0)))]) (fun b1 => [.box (EL.el {a0 with buf_.L := b1.2.1}), .box (EL.el a1), .box [Znl, Znl], .box Zbc, .box [Ii6 0, Ii6 0, Ii6 0, Ii6 0, .b b1.2.2.1, .sl b1.2.2.2.1.length (b1.2.2.2.1.flatMap eU8), .sl b1.2.2.2.2.length (b1.2.2.2.2.flatMap A2)]]) (fun b1 => Cr a0 b1 = some r) (fun _ _ => Az rfl) (fun _ _ => Ak rfl) (fun _ _ => Nbl rfl) (fun b1 h => ?_) ?_))))))))))))))))))))
 ·unfold Cr at h
  refine Bp ?_
  refine Ei [3, 4] [0, 0, 0, 1, 11, 31] [[.box (EL.el {a0 with buf_.L := b1.2.1}), .box (EL.el a1), .box [Znl, Znl], .box Zbc, .box [Ii6 0, Ii6 0, Ii6 0, Ii6 0, .b b1.2.2.1, .sl b1.2.2.2.1.length (b1.2.2.2.1.flatMap eU8), .sl b1.2.2.2.2.length (b1.2.2.2.2.flatMap A2)]], [.box (EL.el {a0 with buf_.L := b1.2.1}), .box (EL.el a1), .box (EL.el {a0 with buf_.L := b1.2.1}), .box Zbc, .box [Ii6 0, Ii6 0, Ii6 0, Ii6 0, .b b1.2.2.1, .sl b1.2.2.2.1.length (b1.2.2.2.1.flatMap eU8), .sl b1.2.2.2.2.length (b1.2.2.2.2.flatMap A2)]], [.box (EL.el {a0 with buf_.L := b1.2.1}), .box (EL.el a1), .box (EL.el {a0 with buf_.L := b1.2.1}), .box [Ii6 0, Ii6 0, Ii6 0, Ii6 0, .b b1.2.2.1, .sl b1.2.2.2.1.length (b1.2.2.2.1.flatMap eU8), .sl b1.2.2.2.2.length (b1.2.2.2.2.flatMap A2)], .box [Ii6 0, Ii6 0, Ii6 0, Ii6 0, .b b1.2.2.1, .sl b1.2.2.2.1.length (b1.2.2.2.1.flatMap eU8), .sl b1.2.2.2.2.length (b1.2.2.2.2.flatMap A2)]]] (by kernel_rfl) mixed (by kernel_rfl) (by decide) rfl rfl rfl rfl ?_
  refine ev (Av 0 rfl rfl) rfl rfl (Ap Ahf rfl (.lp _ _ _ rfl) (Nbl rfl)) (ev (D9 (md := [.box (EL.el {a0 with buf_.L := b1.2.1}), .box (EL.el a1), .dead, .dead, .box [Ii6 0, Ii6 0, Ii6 0, Ii6 0, .b b1.2.2.1, .sl b1.2.2.2.1.length (b1.2.2.2.1.flatMap eU8), .sl b1.2.2.2.2.length (b1.2.2.2.2.flatMap A2)]]) ⟨⟨rfl, ⟨rfl, ⟨trivial, ⟨trivial, ⟨rfl, trivial⟩⟩⟩⟩⟩, ⟨⟨rfl, ⟨rfl, ⟨trivial, ⟨trivial, ⟨rfl, trivial⟩⟩⟩⟩⟩, ⟨⟨rfl, ⟨rfl, ⟨trivial, ⟨trivial, ⟨rfl, trivial⟩⟩⟩⟩⟩, trivial⟩⟩⟩) rfl rfl (Ap Aoz rfl (.lp _ _ _ rfl) (Nbl rfl)) (emv rfl rfl (fun _ => A3 rfl) ?_))
  refine ee0 0 rfl rfl rfl rfl (fun ζ => ?_) ?_
  ·refine A9 Aof rfl rfl rfl rfl (Nbl rfl) (Cc [.box (EL.el {a0 with buf_.L := b1.2.1}), .box (EL.el a1), .box (EL.el {a0 with buf_.L := b1.2.1}), .box Zbc, .box [Ii6 0, Ii6 0, Ii6 0, Ii6 0, .b b1.2.2.1, .sl b1.2.2.2.1.length (b1.2.2.2.1.flatMap eU8), .sl b1.2.2.2.2.length (b1.2.2.2.2.flatMap A2)]] rfl ?_)
   exact Ol
  refine ee0 1 rfl rfl rfl rfl (fun ζ => ?_) ?_
  ·refine A9 Apq rfl rfl rfl rfl (Nbl rfl) (Cc [.box (EL.el {a0 with buf_.L := b1.2.1}), .box (EL.el a1), .box (EL.el {a0 with buf_.L := b1.2.1}), .box [Ii6 0, Ii6 0, Ii6 0, Ii6 0, .b b1.2.2.1, .sl b1.2.2.2.1.length (b1.2.2.2.1.flatMap eU8), .sl b1.2.2.2.2.length (b1.2.2.2.2.flatMap A2)], .box [Ii6 0, Ii6 0, Ii6 0, Ii6 0, .b b1.2.2.1, .sl b1.2.2.2.1.length (b1.2.2.2.1.flatMap eU8), .sl b1.2.2.2.2.length (b1.2.2.2.2.flatMap A2)]] rfl ?_)
   exact Ol
  refine ev (Av 2 rfl rfl) rfl rfl (E8 rfl) (Tb (Ab (Bo ?_)))
  obtain rfl := SJ h
  refine ⟨Or.inr rfl, _, _, _, (Ai (B9.agg _ _ _ _ _ Ahf rfl (.lp _ _ _ rfl) (Nbl rfl)) (Ai (B9.agg _ _ _ _ _ Aoz rfl (.lp _ _ _ rfl) (Nbl rfl)) (Ai (B9.tmp _ _ rfl) Au))), (A4 rfl), ?_⟩
  rfl
 ·skip
  refine Bf (csr (sv rfl (Bg rfl rfl) (rm 1 rfl (Al (ccI h rfl (fun h => ?_) (fun h => ?_))))))
  ·refine Bp ?_
   refine Qc mixed (by kernel_rfl) ?_
   refine dv rfl (Ap Ahf rfl (.lp _ _ _ rfl) (Nbl rfl)) (dv rfl (Aa Akd rfl) (dv rfl (Ae E6 rfl (.lp _ _ _ rfl) rfl) ?_))
   obtain ⟨v2, hv2, h⟩ := Ag h
   refine dd rfl (C1 Asp (Ad rfl Aj) rfl (Xb hv2)) ?_
   obtain ⟨v3, hv3, h⟩ := Ag h
   refine dd rfl (C1 Api (Ad rfl (Ad rfl (Ad rfl Aj))) rfl (Kn hv3)) (dv rfl (E8 rfl) (Py (Ab (csr (rm 1 rfl (sv rfl (An P8 rfl) (sv rfl (B8 rfl rfl) (Al (ccI h rfl (fun h => ?_) (fun h => ?_))))))))))
   ·refine O5 4 5 rfl rfl Ci.nil rfl (O5 4 6 rfl rfl Ci.nil rfl ?_)
    obtain ⟨u4, hu4, h⟩ := Ag h
    refine Ei [5, 7] [0, 1, 3, 7, 0, 16, 63, 127] [[.box (EL.el a0), .box (EL.el a1), .box [Znl, Znl], .box Zbc, .box [Ii6 0, Ii6 0, Ii6 0, Ii6 0, .b false, .sl ([] : List UInt8).length (([] : List UInt8).flatMap eU8), .sl ([] : List Aw).length (([] : List Aw).flatMap A2)]], [.box (EL.el a0), .box (EL.el a1), .box [Znl, Znl], .box Zbc, .box [Ii6 0, Ii6 0, Ii6 0, Ii6 0, .b true, .sl ([] : List UInt8).length (([] : List UInt8).flatMap eU8), .sl ([] : List Aw).length (([] : List Aw).flatMap A2)]], [.box (EL.el a0), .box (EL.el a1), .box [Znl, Znl], .box Zbc, .box [Ii6 0, Ii6 0, Ii6 0, Ii6 0, .b true, .sl u4.Val.length (u4.Val.flatMap eU8), .sl ([] : List Aw).length (([] : List Aw).flatMap A2)]]] (by kernel_rfl) mixed (by kernel_rfl) (by decide) rfl rfl rfl rfl ?_
    refine emv rfl rfl (fun _ => A3 rfl) ?_
    refine ev (D9 (md := [.box (EL.el a0), .box (EL.el a1), .box [Znl, Znl], .box Zbc, .dead]) ⟨⟨rfl, ⟨rfl, ⟨rfl, ⟨rfl, ⟨trivial, trivial⟩⟩⟩⟩⟩, ⟨⟨rfl, ⟨rfl, ⟨rfl, ⟨rfl, ⟨trivial, trivial⟩⟩⟩⟩⟩, ⟨⟨rfl, ⟨rfl, ⟨rfl, ⟨rfl, ⟨trivial, trivial⟩⟩⟩⟩⟩, trivial⟩⟩⟩) rfl rfl (Bw (f := A2) P8 (fun _ => rfl) rfl rfl rfl rfl hu4) ?_
    refine evs (md := [.box (EL.el a0), .box (EL.el a1), .box [Znl, Znl], .box Zbc, .dead]) (fun hS => ev (D9 hS) rfl rfl (A6 Ya rfl) (ev (D9 hS) rfl rfl (Ae E6 rfl (.cp _) rfl) (ev (Av 0 rfl rfl) rfl rfl (Aa Akb rfl) (ee0 0 rfl rfl rfl rfl (fun ζ => ?_) ?_)))) ⟨⟨rfl, ⟨rfl, ⟨rfl, ⟨rfl, ⟨trivial, trivial⟩⟩⟩⟩⟩, ⟨⟨rfl, ⟨rfl, ⟨rfl, ⟨rfl, ⟨trivial, trivial⟩⟩⟩⟩⟩, ⟨⟨rfl, ⟨rfl, ⟨rfl, ⟨rfl, ⟨trivial, trivial⟩⟩⟩⟩⟩, trivial⟩⟩⟩
    ·refine A9 sz4 rfl rfl rfl rfl (Nbl rfl) (Cc [.box (EL.el a0), .box (EL.el a1), .box [Znl, Znl], .box Zbc, .box [Ii6 0, Ii6 0, Ii6 0, Ii6 0, .b true, .sl ([] : List UInt8).length (([] : List UInt8).flatMap eU8), .sl ([] : List Aw).length (([] : List Aw).flatMap A2)]] rfl ?_)
     exact Ol
    refine ev (Av 1 rfl rfl) rfl rfl (Aa Aj0 rfl) (ee0 1 rfl rfl rfl rfl (fun ζ => ?_) ?_)
    ·refine A9 Arm rfl rfl rfl rfl (Nbl rfl) (Cc [.box (EL.el a0), .box (EL.el a1), .box [Znl, Znl], .box Zbc, .box [Ii6 0, Ii6 0, Ii6 0, Ii6 0, .b true, .sl u4.Val.length (u4.Val.flatMap eU8), .sl ([] : List Aw).length (([] : List Aw).flatMap A2)]] rfl ?_)
     exact Ol
    refine Tb (Am (Ab ?_))
    exact ⟨(0, a0.buf_.L, true, u4.Val, ([] : List Aw)), _, h, ⟨rfl, rfl, rfl, rfl, rfl, trivial⟩, rfl⟩
   ·refine O5 4 5 rfl rfl Ci.nil rfl (O5 4 6 rfl rfl Ci.nil rfl (Be (Am (Ab ?_))))
    exact ⟨(0, a0.buf_.L, false, ([] : List UInt8), ([] : List Aw)), _, h, ⟨rfl, rfl, rfl, rfl, rfl, trivial⟩, rfl⟩
  ·refine csr (sv rfl (Bg rfl rfl) (rm 1 rfl (Al (ccI h rfl (fun h => ?_) (fun h => ?_)))))
   ·refine Ax (sv rfl (Ap Ahf rfl (.lp _ _ _ rfl) (Nbl rfl)) (sv rfl (Aa Anm rfl) (sv rfl (Ap Vd rfl (.lp _ _ _ rfl) (Nbl rfl)) ?_)))
    obtain ⟨v5, hv5, h⟩ := Ag h
    refine Bn rfl Api (Ad rfl (Ad rfl (Ad rfl Aj))) (A4 rfl) (Kn hv5) (sv rfl (Aa Ae3 rfl) (A9 Arh rfl rfl rfl rfl (Nbl rfl) (Cc [.box (EL.el a0), .box (EL.el a1), .box [Znl, Znl], .box Zbc, .box [Ii6 0, Ii6 0, Ii6 0, Ii6 0, .b false, Znl, .sl v5.length (v5.flatMap A2)]] rfl (Ab4 4 5 rfl rfl Ci.nil rfl (Hy (Am (Ab ?_)))))))
    exact ⟨(0, a0.buf_.L, false, ([] : List UInt8), v5), _, h, ⟨rfl, rfl, rfl, rfl, rfl, trivial⟩, rfl⟩
   ·refine Bp (csr (sv rfl (Bg rfl rfl) (rm 1 rfl (Al (C4 (Bool) (fun b6 => [(2, .s (.one (.lp 0 0))), (3, .s (.one (.lp 1 0))), (4, .s (.one (.lp 2 0))), (5, .s (.one (.lp 3 0))), (7, .s (.one (Ii6 0))), (8, .s (.one (.lp 4 0))), (36, .s (.one (.b b6)))]) (fun b6 => [.box (EL.el a0), .box (EL.el a1), .box [Znl, Znl], .box Zbc, .box Zbc]) (fun b6 => Di a0 a1 b6 = some r) (fun _ _ => Az rfl) (fun _ _ => Ak rfl) (fun _ _ => Nbl rfl) (fun b6 h => ?_) ?_)))))
    ·unfold Di at h
     refine ccI h rfl (fun h => ?_) (fun h => ?_)
     ·refine Ax (sv rfl (Aa Ac5 rfl) (sv rfl (Ap Agk rfl (.lp _ _ _ rfl) (Nbl rfl)) (fl Akd E6 rfl rfl rfl rfl rfl rfl (fl Anx E6 rfl rfl rfl rfl rfl rfl (fl Ajk ti3 rfl rfl rfl rfl rfl rfl (sv rfl (Bg rfl rfl) (sv rfl (Bl Ag9 Amx (A1 rfl (A1 rfl (A1 rfl Ba))) (.cons _ _ _ _ _ _ _ rfl rfl (Nbl rfl) (.cons _ _ _ _ _ _ _ rfl rfl (Nbl rfl) (.cons _ _ _ _ _ _ _ rfl rfl (Nbl rfl) (.nil _))))) ?_)))))))
      obtain ⟨v7, hv7, h⟩ := Ag h
      refine Bn rfl Atk (Ad rfl (Ad rfl Aj)) (A4 rfl) (Vf hv7) (sv rfl (Jx rfl) (sv rfl (Bm rfl rfl) (sv rfl (Bm rfl rfl) (sv rfl (Aa Ac5 rfl) (A9 Ami rfl rfl rfl rfl (Nbl rfl) (Cc [.box (EL.el (Dn.mk a0.base_ v7.1)), .box (EL.el a1), .box [Znl, Znl], .box Zbc, .box Zbc] rfl (rm 1 rfl (Ab4 4 5 rfl rfl Ci.nil rfl (Ab4 4 6 rfl rfl Ci.nil rfl (Hy (Am (Ab ?_))))))))))))
      exact ⟨(v7.2, v7.1.L, false, ([] : List UInt8), ([] : List Aw)), _, h, ⟨rfl, rfl, rfl, rfl, rfl, trivial⟩, rfl⟩
     ·refine O5 4 5 rfl rfl Ci.nil rfl (O5 4 6 rfl rfl Ci.nil rfl (Be (Am (Ab ?_))))
      exact ⟨(0, a0.buf_.L, false, ([] : List UInt8), ([] : List Aw)), _, h, ⟨rfl, rfl, rfl, rfl, rfl, trivial⟩, rfl⟩
    ·skip
     refine ccI h rfl (fun h => ?_) (fun h => ?_)
     ·refine Be (Ab ?_)
      exact ⟨(decide (a1.Kind = 4)), _, h, ⟨rfl, rfl, rfl, rfl, rfl, rfl, rfl, trivial⟩, rfl⟩
     ·refine Ax (sv rfl (Bg rfl rfl) (rm 1 rfl (Al ?_)))
      exact ⟨(decide (a1.Kind = 5)), _, h, ⟨rfl, rfl, rfl, rfl, rfl, rfl, rfl, trivial⟩, rfl⟩
def Ns (a0 : List UInt8) : Option (Int × Int × (List UInt8)) :=
 some (0, 0, a0)
theorem Wr {a0 : List UInt8} {r : Int × Int × (List UInt8)} (h : Ns a0 = some r) : C3 Tryz.prog 101 [] [.one (.sl a0.length (a0.flatMap eU8))] (fun y m' => y = .s (.one (.lp 0 0)) ∧ m' = [.box [.fn 119 [] [.lp 1 0, .lp 2 0], Ii6 r.1], .box [Ii6 r.2.1], .box [.sl r.2.2.length (r.2.2.flatMap eU8)]]) := by
 unfold Ns at h
 refine B3 Tryz.func101 rfl (nt := 7) rfl (Nbl rfl) ?_
 intro w0 S0 X0 H0
 refine csr (Kp rfl rfl (rm 1 rfl (Al (csr (Ce rfl zi3 (A9 sz3 rfl rfl rfl rfl (Nbl rfl) (Cc [.box [.sl a0.length (a0.flatMap eU8)], .box [Ii6 0]] rfl (Al (csr (sv rfl (Hf D1 (Fy rfl rfl (Fy rfl rfl D1))) (sv rfl (Bl Ao2 Ao3 (A1 rfl Ba) (.cons _ _ _ _ _ _ _ rfl rfl (Nbl rfl) (.nil _))) (Kp rfl rfl (rm 1 rfl (Al (Bo ?_)))))))))))))))
 obtain rfl := SJ h
 exact ⟨Or.inr rfl, _, [2, 1, 0], [.one (.lp 0 0)], [.box [.fn 119 [] [.lp 1 0, .lp 2 0], Ii6 0], .box [Ii6 0], .box [.sl a0.length (a0.flatMap eU8)]], (Ai (B9.tmp _ _ rfl) Au), rfl, rfl, ⟨by decide, rfl⟩, rfl, rfl, ⟨rfl, rfl⟩⟩
def H5 (a0 : Int) (a1 : Int) (a2 : List UInt8) : Option Int :=
 some a0
theorem Qs {a0 : Int} {a1 : Int} {a2 : List UInt8} {r : Int} (h : H5 a0 a1 a2 = some r) : C3 Tryz.prog 120 [.box [.fn 119 [] [.lp 1 0, .lp 2 0], Ii6 a0], .box [Ii6 a1], .box [.sl a2.length (a2.flatMap eU8)]] [.one (.lp 0 0)] (fun y m' => y = .s (.one (Ii6 r)) ∧ m' = [.box [.fn 119 [] [.lp 1 0, .lp 2 0], Ii6 a0], .box [Ii6 a1], .box [.sl a2.length (a2.flatMap eU8)]]) := by
 unfold H5 at h
 refine B3 Tryz.func120 rfl (nt := 9) rfl (Nbl rfl) ?_
 intro w0 S0 X0 H0
 refine csr (rm 1 rfl (Al (Bp (csr (rm 1 rfl (sv rfl (Vb Tryz.underlying166 rfl) (Al (Cm rfl (fun hx => Bool.noConfusion hx) (fun _ => ?_)))))))))
 refine Be (Ab (csr (sv rfl (A3 rfl) ?_)))
 refine sv rfl (L2 rfl rfl (fun _ _ _ h => by cases h)) ?_
 refine fl Ab6 Aro rfl rfl rfl rfl rfl rfl (rm 1 rfl (Al (Bo ?_)))
 obtain rfl := SJ h
 exact ⟨Or.inr rfl, _, [0, 1, 2], [.one (Ii6 a0)], [.box [.fn 119 [] [.lp 1 0, .lp 2 0], Ii6 a0], .box [Ii6 a1], .box [.sl a2.length (a2.flatMap eU8)]], (Ai (B9.tmp _ _ rfl) Au), rfl, rfl, ⟨by decide, rfl⟩, rfl, rfl, ⟨rfl, rfl⟩⟩
def Fg (a0 : Int) (a1 : Int) (a2 : Int) (a3 : List UInt8) : Option Int :=
 if (decide (a1 = 0)) then (some a0) else (some a1)
theorem I4 {a0 : Int} {a1 : Int} {a2 : Int} {a3 : List UInt8} {r : Int} (h : Fg a0 a1 a2 a3 = some r) : C3 Tryz.prog 121 [.box [.fn 119 [] [.lp 1 0, .lp 2 0], Ii6 a1], .box [Ii6 a2], .box [.sl a3.length (a3.flatMap eU8)]] [.one (.lp 0 0), .one (Ii6 a0)] (fun y m' => y = .tup [] ∧ m' = [.box [.fn 119 [] [.lp 1 0, .lp 2 0], Ii6 r], .box [Ii6 a2], .box [.sl a3.length (a3.flatMap eU8)]]) := by
 unfold Fg at h
 refine B3 Tryz.func121 rfl (nt := 17) rfl (Nbl rfl) ?_
 intro w0 S0 X0 H0
 refine csr (rm 1 rfl (sv rfl (Aaw Tryz.underlying166 rfl) (rm 2 rfl (son rfl rfl rfl ?_))))
 refine sv rfl (L2 rfl rfl (fun _ _ _ h => by cases h)) ?_
 refine son rfl rfl rfl (sv rfl (Aa Ab6 rfl) (son rfl rfl rfl (sv rfl (Ae Aro rfl (.lp _ _ _ rfl) rfl) (son rfl rfl rfl (sv rfl (Bg rfl rfl) (rm 1 rfl (Al (ccI h rfl (fun h => ?_) (fun h => ?_)))))))))
 ·refine Ax (rm 1 rfl (sv rfl (A3 rfl) ?_))
  refine sv rfl (L2 rfl rfl (fun _ _ _ h => by cases h)) ?_
  refine sv rfl (Aa Ab6 rfl) (A9 Asn rfl rfl rfl rfl (Nbl rfl) (Cc [.box [.fn 119 [] [.lp 1 0, .lp 2 0], Ii6 a0], .box [Ii6 a2], .box [.sl a3.length (a3.flatMap eU8)]] rfl (Hy ?_)))
  obtain rfl := SJ h
  exact ⟨Or.inl rfl, _, [0, 1, 2], [], [.box [.fn 119 [] [.lp 1 0, .lp 2 0], Ii6 a0], .box [Ii6 a2], .box [.sl a3.length (a3.flatMap eU8)]], Au, rfl, rfl, ⟨by decide, rfl⟩, rfl, rfl, ⟨rfl, rfl⟩⟩
 ·refine Be ?_
  obtain rfl := SJ h
  exact ⟨Or.inl rfl, _, [0, 1, 2], [], [.box [.fn 119 [] [.lp 1 0, .lp 2 0], Ii6 a1], .box [Ii6 a2], .box [.sl a3.length (a3.flatMap eU8)]], Au, rfl, rfl, ⟨by decide, rfl⟩, rfl, rfl, ⟨rfl, rfl⟩⟩
def Ki (a0 : Int) (a1 : Int) (a2 : List UInt8) : Option (Int × (List UInt8) × Int) :=
 (cut a2 (wI (a1 + a0)) (a2.length : Int)).bind fun c1 => some ((wI (a1 + a0)), c1, (wI (a1 + a0)))
theorem Pi {a0 : Int} {a1 : Int} {a2 : List UInt8} {r : Int × (List UInt8) × Int} (h : Ki a0 a1 a2 = some r) : C3 Tryz.prog 119 [.box [Ii6 a1], .box [.sl a2.length (a2.flatMap eU8)]] [.one (Ii6 a0), .one (.lp 0 0), .one (.lp 1 0)] (fun y m' => y = .tup [.one (Ii6 r.1), .one (.sl r.2.1.length (r.2.1.flatMap eU8))] ∧ m' = [.box [Ii6 r.2.2], .box [.sl a2.length (a2.flatMap eU8)]]) := by
 unfold Ki at h
 refine B3 Tryz.func119 rfl (nt := 13) rfl (Nbl rfl) ?_
 intro w0 S0 X0 H0
 refine csr (rm 2 rfl (Al (csr (sv rfl (Ae ti3 rfl (.lp _ _ _ rfl) rfl) (rm 1 rfl (sv rfl (Bj rfl rfl) (A9 sz3 rfl rfl rfl rfl (Nbl rfl) (Cc [.box [Ii6 (wI (a1 + a0))], .box [.sl a2.length (a2.flatMap eU8)]] rfl (Al (Bp ?_))))))))))
 refine Qc mixed (by kernel_rfl) ?_
 refine dv rfl (Ae ti3 rfl (.lp _ _ _ rfl) rfl) (dv rfl (Ae E6 rfl (.lp _ _ _ rfl) rfl) (dv rfl (Ae ti3 rfl (.lp _ _ _ rfl) rfl) ?_))
 obtain ⟨c1, hc1, h⟩ := Ag h
 refine dv rfl (S4 (f := eU8) (lo := (wI (a1 + a0))) (hi := (a2.length : Int)) Ku (fun _ => rfl) rfl rfl rfl (Mz rfl (Pg hc1).1.1) (by exact rfl) hc1) ?_
 refine dv rfl (E8 rfl) (dv rfl (E8 rfl) (Py (Ab (Bo ?_))))
 obtain rfl := SJ h
 exact ⟨Or.inr rfl, _, [0, 1], [.one (Ii6 (wI (a1 + a0))), .one (.sl c1.length (c1.flatMap eU8))], [.box [Ii6 (wI (a1 + a0))], .box [.sl a2.length (a2.flatMap eU8)]], (Ai (B9.tmp _ _ rfl) (Ai (B9.tmp _ _ rfl) Au)), rfl, rfl, ⟨by decide, rfl⟩, rfl, rfl, ⟨rfl, rfl⟩⟩
def Fa (a1 : Int) (a2 : List UInt8) (b1 : Unit) : Option (Int × (List UInt8) × Int) :=
 (Ki 0 a1 a2).bind fun v2 => some (v2.1, v2.2.1, v2.2.2)
def Gz (a0 : Int) (a1 : Int) (a2 : List UInt8) : Option (Int × (List UInt8) × Int) :=
 Fa a1 a2 ()
theorem Pn {a0 : Int} {a1 : Int} {a2 : List UInt8} {r : Int × (List UInt8) × Int} (h : Gz a0 a1 a2 = some r) : C3 Tryz.prog 127 [.box [.fn 119 [] [.lp 1 0, .lp 2 0], Ii6 a0], .box [Ii6 a1], .box [.sl a2.length (a2.flatMap eU8)]] [.one (.lp 0 0)] (fun y m' => y = .tup [.one (Ii6 r.1), .one (.sl r.2.1.length (r.2.1.flatMap eU8))] ∧ m' = [.box [.fn 119 [] [.lp 1 0, .lp 2 0], Ii6 a0], .box [Ii6 r.2.2], .box [.sl a2.length (a2.flatMap eU8)]]) := by
 unfold Gz at h
 refine B3 Tryz.func127 rfl (nt := 20) rfl (Nbl rfl) ?_
 intro w0 S0 X0 H0
 refine csr (rm 2 rfl (Al (Bp (Bp (I0 (Unit) (fun b1 => [(0, .s (.one (.lp 0 0)))]) (fun b1 => [.box [.fn 119 [] [.lp 1 0, .lp 2 0], Ii6 a0], .box [Ii6 a1], .box [.sl a2.length (a2.flatMap eU8)]]) (fun b1 => Fa a1 a2 b1 = some r) (fun _ _ => Az rfl) (fun _ _ => Ak rfl) (fun _ _ => Nbl rfl) (fun b1 h => ?_) ?_)))))
 ·unfold Fa at h
  refine csr (sv rfl (A3 rfl) ?_)
  refine sv rfl (L2 rfl rfl (fun _ _ _ h => by cases h)) ?_
  refine sv rfl (Aa Abl rfl) (sv rfl (Ae Alu rfl (.lp _ _ _ rfl) rfl) ?_)
  obtain ⟨v2, hv2, h⟩ := Ag h
  refine Dx (x' := .tup [.one (Ii6 v2.1), .one (.sl v2.2.1.length (v2.2.1.flatMap eU8))]) (M' := [.box [.fn 119 [] [.lp 1 0, .lp 2 0], Ii6 a0], .box [Ii6 v2.2.2], .box [.sl a2.length (a2.flatMap eU8)]]) [1, 2] rfl Am1 (.fn _ _ _ _ rfl) (Ad rfl Aj) (Pi hv2) rfl rfl (by decide) rfl rfl rfl ?_
  refine sv rfl (Bm rfl rfl) (sv rfl (Bm rfl rfl) (rm 2 rfl (Al (Bo ?_))))
  obtain rfl := SJ h
  exact ⟨Or.inr rfl, _, [0, 1, 2], [.one (Ii6 v2.1), .one (.sl v2.2.1.length (v2.2.1.flatMap eU8))], [.box [.fn 119 [] [.lp 1 0, .lp 2 0], Ii6 a0], .box [Ii6 v2.2.2], .box [.sl a2.length (a2.flatMap eU8)]], (Ai (B9.tmp _ _ rfl) (Ai (B9.tmp _ _ rfl) Au)), rfl, rfl, ⟨by decide, rfl⟩, rfl, rfl, ⟨rfl, rfl⟩⟩
 ·skip
  refine Ax (rm 1 rfl (sv rfl (Vb Tryz.underlying166 rfl) (rm 2 rfl (son rfl rfl rfl ?_))))
  refine sv rfl (L2 rfl rfl (fun _ _ _ h => by cases h)) ?_
  refine son rfl rfl rfl (sv rfl (Aa Abl rfl) (son rfl rfl rfl (sv rfl (Ae Alu rfl (.lp _ _ _ rfl) rfl) (son rfl rfl rfl (sv rfl (Aa0 Tryz.underlying181 rfl rfl) (rm 1 rfl (Al (Cm rfl (fun hx => Bool.noConfusion hx) (fun _ => ?_)))))))))
  refine Be (Ab ?_)
  exact ⟨(), _, h, ⟨rfl, trivial⟩, rfl⟩
def Ec (a0 : Int) (a1 : Int) (v1 : Int × (List UInt8) × Int) (b3 : Int) : Option ((List UInt8) × Int × Int) :=
 (cut v1.2.1 0 a0).bind fun c4 => some (c4, a1, b3)
def Hl (a0 : Int) (a1 : Int) (a2 : Int) (a3 : List UInt8) : Option ((List UInt8) × Int × Int) :=
 (Gz a1 a2 a3).bind fun v1 => if (decide ((v1.2.1.length : Int) < a0)) then ((Fg 2 a1 v1.2.2 a3).bind fun v2 => some (([] : List UInt8), v2, v1.2.2)) else (if (decide (0 < a0)) then ((Ki a0 v1.2.2 a3).bind fun v5 => Ec a0 a1 v1 v5.2.2) else (Ec a0 a1 v1 v1.2.2))
theorem Qh {a0 : Int} {a1 : Int} {a2 : Int} {a3 : List UInt8} {r : (List UInt8) × Int × Int} (h : Hl a0 a1 a2 a3 = some r) : C3 Tryz.prog 122 [.box [.fn 119 [] [.lp 1 0, .lp 2 0], Ii6 a1], .box [Ii6 a2], .box [.sl a3.length (a3.flatMap eU8)]] [.one (.lp 0 0), .one (Ii6 a0)] (fun y m' => y = .s (.one (.sl r.1.length (r.1.flatMap eU8))) ∧ m' = [.box [.fn 119 [] [.lp 1 0, .lp 2 0], Ii6 r.2.1], .box [Ii6 r.2.2], .box [.sl a3.length (a3.flatMap eU8)]]) := by
 unfold Hl at h
 refine B3 Tryz.func122 rfl (nt := 29) rfl (Nbl rfl) ?_
 intro w0 S0 X0 H0
 refine csr (rm 1 rfl (Al (csr (sv rfl (A3 rfl) ?_))))
 obtain ⟨v1, hv1, h⟩ := Ag h
 refine Dx (x' := .tup [.one (Ii6 v1.1), .one (.sl v1.2.1.length (v1.2.1.flatMap eU8))]) (M' := [.box [.fn 119 [] [.lp 1 0, .lp 2 0], Ii6 a1], .box [Ii6 v1.2.2], .box [.sl a3.length (a3.flatMap eU8)]]) [0, 1, 2] rfl Apg (.func _) (Ad rfl Aj) (Pn hv1) rfl rfl (by decide) rfl rfl rfl ?_
 refine sv rfl (Jx rfl) (sv rfl (Bm rfl rfl) (sv rfl (Bm rfl rfl) (rm 2 rfl (Al (Bp (csr (rm 1 rfl (sv rfl (An Ku rfl) (rm 1 rfl (sv rfl (Bi rfl rfl) (Al (ccI h rfl (fun h => ?_) (fun h => ?_)))))))))))))
 ·refine csr (sv rfl (A3 rfl) ?_)
  obtain ⟨v2, hv2, h⟩ := Ag h
  refine Dx (x' := .tup []) (M' := [.box [.fn 119 [] [.lp 1 0, .lp 2 0], Ii6 v2], .box [Ii6 v1.2.2], .box [.sl a3.length (a3.flatMap eU8)]]) [0, 1, 2] rfl Akw (.func _) (Ad rfl (Ad rfl Aj)) (I4 hv2) rfl rfl (by decide) rfl rfl rfl ?_
  refine Al (csr (rm 1 rfl (Al ?_)))
  refine Apv 4 rfl (by (repeat' first | exact Ga.nil _ | apply Ga.cons | apply F5.one | apply F5.agg | exact Ci.nil | exact Ci.id _ rfl | exact Cg.nil _ | apply Cg.cons)) ?_
  refine Bo (Ah ?_)
  obtain rfl := SJ h
  exact ⟨Or.inr rfl, _, [0, 1, 2], [.one (.sl ([] : List UInt8).length (([] : List UInt8).flatMap eU8))], [.box [.fn 119 [] [.lp 1 0, .lp 2 0], Ii6 v2], .box [Ii6 v1.2.2], .box [.sl a3.length (a3.flatMap eU8)]], (Ai (B9.tmp _ _ rfl) Au), rfl, rfl, ⟨by decide, rfl⟩, rfl, rfl, ⟨rfl, rfl⟩⟩
 ·refine Be (Ab (Bp (csr (rm 1 rfl (sv rfl (B8 rfl rfl) (Al (C4 (Int) (fun b3 => [(1, .s (.one (Ii6 a0))), (6, .s (.one (.sl v1.2.1.length (v1.2.1.flatMap eU8))))]) (fun b3 => [.box [.fn 119 [] [.lp 1 0, .lp 2 0], Ii6 a1], .box [Ii6 b3], .box [.sl a3.length (a3.flatMap eU8)]]) (fun b3 => Ec a0 a1 v1 b3 = some r) (fun _ _ => Az rfl) (fun _ _ => Ak rfl) (fun _ _ => Nbl rfl) (fun b3 h => ?_) ?_)))))))
  ·unfold Ec at h
   refine csr (rm 1 rfl (sv rfl (A3 rfl) ?_))
   obtain ⟨c4, hc4, h⟩ := Ag h
   refine sv rfl (S4 (f := eU8) (lo := 0) (hi := a0) Ku (fun _ => rfl) rfl rfl rfl Pq (Mz rfl (Int.le_trans (Pg hc4).1.1 (Pg hc4).1.2.1)) hc4) ?_
   refine rm 1 rfl (Al (Bo ?_))
   obtain rfl := SJ h
   exact ⟨Or.inr rfl, _, [0, 1, 2], [.one (.sl c4.length (c4.flatMap eU8))], [.box [.fn 119 [] [.lp 1 0, .lp 2 0], Ii6 a1], .box [Ii6 b3], .box [.sl a3.length (a3.flatMap eU8)]], (Ai (B9.tmp _ _ rfl) Au), rfl, rfl, ⟨by decide, rfl⟩, rfl, rfl, ⟨rfl, rfl⟩⟩
  ·skip
   refine ccI h rfl (fun h => ?_) (fun h => ?_)
   ·refine Ax (sv rfl (A3 rfl) ?_)
    refine sv rfl (L2 rfl rfl (fun _ _ _ h => by cases h)) ?_
    refine fl Abl Alu rfl rfl rfl rfl rfl rfl (sv rfl (A3 rfl) ?_)
    obtain ⟨v5, hv5, h⟩ := Ag h
    refine Dx (x' := .tup [.one (Ii6 v5.1), .one (.sl v5.2.1.length (v5.2.1.flatMap eU8))]) (M' := [.box [.fn 119 [] [.lp 1 0, .lp 2 0], Ii6 a1], .box [Ii6 v5.2.2], .box [.sl a3.length (a3.flatMap eU8)]]) [1, 2] rfl Am1 (.fn _ _ _ _ rfl) (Ad rfl Aj) (Pi hv5) rfl rfl (by decide) rfl rfl rfl ?_
    refine Al ?_
    exact ⟨v5.2.2, _, h, ⟨rfl, rfl, trivial⟩, rfl⟩
   ·refine Be (Ab ?_)
    exact ⟨v1.2.2, _, h, ⟨rfl, rfl, trivial⟩, rfl⟩
def J5 (v3 : (List UInt8) × Int × Int) (b4 : (BitVec 64)) : Option ((BitVec 64) × Int × Int) :=
 some (b4, v3.2.1, v3.2.2)
def Fl (v3 : (List UInt8) × Int × Int) (s5 : (BitVec 64) × Int) : Option (LB ((BitVec 64) × Int) ((BitVec 64))) :=
 if (decide (s5.2 < (v3.1.length : Int))) then ((idx v3.1 s5.2).bind fun u6 => if 0 ≤ (wI (8 * s5.2)) then (some (.cont ((s5.1 ||| ((u6.toBitVec.setWidth 64) <<< (wI (8 * s5.2)).toNat)), (wI (s5.2 + 1))))) else none) else (some (.brk s5.1))
def Hj (a0 : Int) (a1 : Int) (a2 : Int) (a3 : List UInt8) (b2 : Unit) : Option ((BitVec 64) × Int × Int) :=
 (Hl a0 a1 a2 a3).bind fun v3 => (Cw (Fl v3) fuel (0#64, 0)).bind fun e8 => J5 v3 e8
def Hb (a0 : Int) (a1 : Int) (a2 : Int) (a3 : List UInt8) : Option ((BitVec 64) × Int × Int) :=
 (H5 a1 a2 a3).bind fun v1 => if (!decide (v1 = 0)) then (some (0#64, a1, a2)) else (if (decide (a0 < 1)) then ((Fg 1 a1 a2 a3).bind fun v9 => some (0#64, v9, a2)) else (if (decide (8 < a0)) then ((Fg 1 a1 a2 a3).bind fun v10 => some (0#64, v10, a2)) else (Hj a0 a1 a2 a3 ())))
theorem Rx {a0 : Int} {a1 : Int} {a2 : Int} {a3 : List UInt8} {r : (BitVec 64) × Int × Int} (h : Hb a0 a1 a2 a3 = some r) : C3 Tryz.prog 102 [.box [.fn 119 [] [.lp 1 0, .lp 2 0], Ii6 a1], .box [Ii6 a2], .box [.sl a3.length (a3.flatMap eU8)]] [.one (.lp 0 0), .one (Ii6 a0)] (fun y m' => y = .s (.one (.i .u64 (r.1.toNat : Int))) ∧ m' = [.box [.fn 119 [] [.lp 1 0, .lp 2 0], Ii6 r.2.1], .box [Ii6 r.2.2], .box [.sl a3.length (a3.flatMap eU8)]]) := by
 unfold Hb at h
 refine B3 Tryz.func102 rfl (nt := 37) rfl (Nbl rfl) ?_
 intro w0 S0 X0 H0
 refine csr (rm 1 rfl (Al (Bp (csr (sv rfl (A3 rfl) ?_)))))
 obtain ⟨v1, hv1, h⟩ := Ag h
 refine Dx (x' := .s (.one (Ii6 v1))) (M' := [.box [.fn 119 [] [.lp 1 0, .lp 2 0], Ii6 a1], .box [Ii6 a2], .box [.sl a3.length (a3.flatMap eU8)]]) [0, 1, 2] rfl Ap4 (.func _) (Ad rfl Aj) (Qs hv1) rfl rfl (by decide) rfl rfl rfl ?_
 refine sv rfl (P4 rfl rfl) (Al (ccI h rfl (fun h => ?_) (fun h => ?_)))
 ·refine csr (rm 1 rfl (Al (Bo (Ah ?_))))
  obtain rfl := SJ h
  exact ⟨Or.inr rfl, _, [0, 1, 2], [.one (.i .u64 ((0#64).toNat : Int))], [.box [.fn 119 [] [.lp 1 0, .lp 2 0], Ii6 a1], .box [Ii6 a2], .box [.sl a3.length (a3.flatMap eU8)]], (Ai (B9.tmp _ _ rfl) Au), rfl, rfl, ⟨by decide, rfl⟩, rfl, rfl, ⟨rfl, rfl⟩⟩
 ·refine Be (Ab (Bp (Bp (I0 (Unit) (fun b2 => [(0, .s (.one (.lp 0 0))), (1, .s (.one (Ii6 a0)))]) (fun b2 => [.box [.fn 119 [] [.lp 1 0, .lp 2 0], Ii6 a1], .box [Ii6 a2], .box [.sl a3.length (a3.flatMap eU8)]]) (fun b2 => Hj a0 a1 a2 a3 b2 = some r) (fun _ _ => Az rfl) (fun _ _ => Ak rfl) (fun _ _ => Nbl rfl) (fun b2 h => ?_) ?_))))
  ·unfold Hj at h
   refine csr (rm 1 rfl (Al (Bp (csr (rm 1 rfl (sv rfl (A3 rfl) ?_))))))
   obtain ⟨v3, hv3, h⟩ := Ag h
   refine Dx (x' := .s (.one (.sl v3.1.length (v3.1.flatMap eU8)))) (M' := [.box [.fn 119 [] [.lp 1 0, .lp 2 0], Ii6 v3.2.1], .box [Ii6 v3.2.2], .box [.sl a3.length (a3.flatMap eU8)]]) [0, 1, 2] rfl Ap3 (.func _) (Ad rfl (Ad rfl Aj)) (Qh hv3) rfl rfl (by decide) rfl rfl rfl ?_
   refine sv rfl (An Ku rfl) (rm 1 rfl (Al (C4 ((BitVec 64)) (fun b4 => [(5, .s (.one (.i .u64 (b4.toNat : Int))))]) (fun b4 => [.box [.fn 119 [] [.lp 1 0, .lp 2 0], Ii6 v3.2.1], .box [Ii6 v3.2.2], .box [.sl a3.length (a3.flatMap eU8)]]) (fun b4 => J5 v3 b4 = some r) (fun _ _ => Az rfl) (fun _ _ => Ak rfl) (fun _ _ => Nbl rfl) (fun b4 h => ?_) ?_)))
   ·unfold J5 at h
    refine csr (rm 2 rfl (Al (Bo ?_)))
    obtain rfl := SJ h
    exact ⟨Or.inr rfl, _, [0, 1, 2], [.one (.i .u64 (b4.toNat : Int))], [.box [.fn 119 [] [.lp 1 0, .lp 2 0], Ii6 v3.2.1], .box [Ii6 v3.2.2], .box [.sl a3.length (a3.flatMap eU8)]], (Ai (B9.tmp _ _ rfl) Au), rfl, rfl, ⟨by decide, rfl⟩, rfl, rfl, ⟨rfl, rfl⟩⟩
   ·skip
    refine Bf ?_
    obtain ⟨x5, hx5, ho5⟩ := Ag h
    refine Bs (G := Nat × ((BitVec 64) × Int)) (fun g => [(5, .s (.one (.i .u64 (g.2.1.toNat : Int)))), (21, .s (.one (.sl v3.1.length (v3.1.flatMap eU8)))), (22, .s (.one (Ii6 (v3.1.length : Int)))), (23, .s (.one (Ii6 g.2.2)))]) (fun g => [.box [.fn 119 [] [.lp 1 0, .lp 2 0], Ii6 v3.2.1], .box [Ii6 v3.2.2], .box [.sl a3.length (a3.flatMap eU8)]]) (fun g => Cw (Fl v3) g.1 g.2 = some x5) (fun g => g.1) (fuel, (0#64, 0)) hx5 ⟨rfl, rfl, rfl, rfl, trivial⟩ [] rfl (fun _ _ => Az rfl) (fun _ _ => Ak rfl) (fun _ _ => Nbl rfl) ?_
    clear hx5 h
    rintro ⟨n5, s5⟩ h
    obtain ⟨n5, y5, rfl, h, hk5⟩ := Dw h
    unfold Fl at h
    refine csr (sv rfl (Bi rfl rfl) (Al (Bp (ccI h rfl (fun h => ?_) (fun h => ?_)))))
    ·refine Be (Ab (Bp (Bf (csr (sv rfl (A3 rfl) ?_)))))
     obtain ⟨u6, hu6, h⟩ := Ag h
     refine sv rfl (Bw (f := eU8) Ku (fun _ => rfl) rfl rfl rfl rfl hu6) ?_
     refine sv rfl (Ae ti5 rfl (.cp _) rfl) (rm 2 rfl (Al (Ax (rm 2 rfl (sv rfl (M2 (k := .u8) (a := u6.toBitVec) rfl Tryz.underlying5 Tryz.underlying165 rfl rfl) (rm 1 rfl (sv rfl (Yy rfl rfl) ?_)))))))
     obtain ⟨hz7, h⟩ := Cl h
     refine sv rfl (Abm (a := (u6.toBitVec.setWidth 64)) rfl rfl rfl hz7) (sv rfl (Aef (a := s5.1) (b := ((u6.toBitVec.setWidth 64) <<< (wI (8 * s5.2)).toNat)) rfl rfl rfl rfl) (rm 1 rfl (Hy (Am (Ab (Ax (sv rfl (Bj rfl rfl) (rm 1 rfl (Al ?_)))))))))
     obtain rfl := SJ h
     exact ⟨(n5, ((s5.1 ||| ((u6.toBitVec.setWidth 64) <<< (wI (8 * s5.2)).toNat)), (wI (s5.2 + 1)))), _, hk5, ⟨rfl, rfl, rfl, rfl, trivial⟩, rfl, Nat.lt_succ_self _⟩
    ·refine Dp (Aq (Aq (Bd (Ab ?_))))
     obtain rfl := SJ h
     obtain rfl : _ = x5 := hk5
     exact ⟨s5.1, _, ho5, ⟨rfl, trivial⟩, rfl⟩
  ·skip
   refine Ax (rm 1 rfl (sv rfl (Bi rfl rfl) (rm 1 rfl (Bc 13 rfl (fun hc => ?_) (fun hc => ?_)))))
   ·replace h := Bt hc h
    clear hc
    refine rm 3 rfl (Al (Cm rfl (fun _ => ?_) (fun hx => Bool.noConfusion hx)))
    refine csr (sv rfl (A3 rfl) ?_)
    obtain ⟨v9, hv9, h⟩ := Ag h
    refine Dx (x' := .tup []) (M' := [.box [.fn 119 [] [.lp 1 0, .lp 2 0], Ii6 v9], .box [Ii6 a2], .box [.sl a3.length (a3.flatMap eU8)]]) [0, 1, 2] rfl Akw (.func _) (Ad rfl (Ad rfl Aj)) (I4 hv9) rfl rfl (by decide) rfl rfl rfl ?_
    refine Al (csr (rm 1 rfl (Al (Bo (Ah ?_)))))
    obtain rfl := SJ h
    exact ⟨Or.inr rfl, _, [0, 1, 2], [.one (.i .u64 ((0#64).toNat : Int))], [.box [.fn 119 [] [.lp 1 0, .lp 2 0], Ii6 v9], .box [Ii6 a2], .box [.sl a3.length (a3.flatMap eU8)]], (Ai (B9.tmp _ _ rfl) Au), rfl, rfl, ⟨by decide, rfl⟩, rfl, rfl, ⟨rfl, rfl⟩⟩
   ·replace h := Bu hc h
    clear hc
    refine rm 1 rfl (son rfl rfl rfl (sv rfl (B8 rfl rfl) (rm 1 rfl (Al (ccI h rfl (fun h => ?_) (fun h => ?_))))))
    ·refine csr (sv rfl (A3 rfl) ?_)
     obtain ⟨v10, hv10, h⟩ := Ag h
     refine Dx (x' := .tup []) (M' := [.box [.fn 119 [] [.lp 1 0, .lp 2 0], Ii6 v10], .box [Ii6 a2], .box [.sl a3.length (a3.flatMap eU8)]]) [0, 1, 2] rfl Akw (.func _) (Ad rfl (Ad rfl Aj)) (I4 hv10) rfl rfl (by decide) rfl rfl rfl ?_
     refine Al (csr (rm 1 rfl (Al (Bo (Ah ?_)))))
     obtain rfl := SJ h
     exact ⟨Or.inr rfl, _, [0, 1, 2], [.one (.i .u64 ((0#64).toNat : Int))], [.box [.fn 119 [] [.lp 1 0, .lp 2 0], Ii6 v10], .box [Ii6 a2], .box [.sl a3.length (a3.flatMap eU8)]], (Ai (B9.tmp _ _ rfl) Au), rfl, rfl, ⟨by decide, rfl⟩, rfl, rfl, ⟨rfl, rfl⟩⟩
    ·refine Be (Ab ?_)
     exact ⟨(), _, h, ⟨rfl, rfl, trivial⟩, rfl⟩
def Lu (a0 : List UInt8) : Option Int :=
 (cut a0 0 (if 4 < (a0.length : Int) then 4 else (a0.length : Int))).bind fun c1 => (Ns c1).bind fun v2 => (Hb (c1.length : Int) v2.1 v2.2.1 v2.2.2).bind fun v3 => some (wI (v3.1.toNat : Int))
theorem Sk {a0 : List UInt8} {r : Int} (h : Lu a0 = some r) : Bz Tryz.prog 67 [.one (.sl a0.length (a0.flatMap eU8))] (· = .s (.one (Ii6 r))) := by
 unfold Lu at h
 refine A8 Tryz.func67 rfl (nt := 14) rfl (Nbl rfl) ?_
 intro w0 S0
 refine csr (rm 1 rfl (Al (csr (rm 2 rfl (sv rfl (An Ku rfl) (sv rfl (Vz rfl rfl) ?_))))))
 obtain ⟨c1, hc1, h⟩ := Ag h
 refine sv rfl (S4 (f := eU8) (lo := 0) (hi := (if 4 < (a0.length : Int) then 4 else (a0.length : Int))) Ku (fun _ => rfl) rfl rfl rfl Pq (Mz rfl (Int.le_trans (Pg hc1).1.1 (Pg hc1).1.2.1)) hc1) ?_
 refine rm 1 rfl (Al (csr (sv rfl (A3 rfl) ?_)))
 obtain ⟨v2, hv2, h⟩ := Ag h
 refine Dx (x' := .s (.one (.lp 0 0))) (M' := [.box [.fn 119 [] [.lp 1 0, .lp 2 0], Ii6 v2.1], .box [Ii6 v2.2.1], .box [.sl v2.2.2.length (v2.2.2.flatMap eU8)]]) [] rfl Aow (.func _) (Ad rfl Aj) (Wr hv2) rfl rfl (by decide) rfl rfl rfl ?_
 refine rm 1 rfl (sv rfl (An Ku rfl) ?_)
 obtain ⟨v3, hv3, h⟩ := Ag h
 refine Dx (x' := .s (.one (.i .u64 (v3.1.toNat : Int)))) (M' := [.box [.fn 119 [] [.lp 1 0, .lp 2 0], Ii6 v3.2.1], .box [Ii6 v3.2.2], .box [.sl v2.2.2.length (v2.2.2.flatMap eU8)]]) [0, 1, 2] rfl Aph (.func _) (Ad rfl (Ad rfl Aj)) (Rx hv3) rfl rfl (by decide) rfl rfl rfl ?_
 refine sv rfl (Lx Tryz.underlying165 Tryz.underlying3 rfl) (rm 1 rfl (Al (Bo ?_)))
 obtain rfl := SJ h
 exact dnT rfl rfl rfl rfl
def Nx (b1 : Int) : Option Int :=
 some b1
def Fh (a0 : List Aw) (s2 : Int × Int) : Option (LB (Int × Int) (Int)) :=
 if (decide (s2.2 < (a0.length : Int))) then ((idx a0 s2.2).bind fun u3 => (Lu u3.Val).bind fun v4 => (Ff (wI (s2.1 + v4))).bind fun v5 => some (.cont (v5, (wI (s2.2 + 1))))) else (some (.brk s2.1))
def Kd (a0 : List Aw) : Option Int :=
 (Cw (Fh a0) fuel (0, 0)).bind fun e6 => Nx e6
theorem Xh {a0 : List Aw} {r : Int} (h : Kd a0 = some r) : Bz Tryz.prog 68 [.one (.sl a0.length (a0.flatMap A2))] (· = .s (.one (Ii6 r))) := by
 unfold Kd at h
 refine A8 Tryz.func68 rfl (nt := 20) rfl (Nbl rfl) ?_
 intro w0 S0
 refine csr (rm 1 rfl (Al (csr (rm 1 rfl (Al (Bp (csr (rm 1 rfl (sv rfl (An P8 rfl) (rm 1 rfl (Al (C4 (Int) (fun b1 => [(3, .s (.one (Ii6 b1)))]) (fun b1 => []) (fun b1 => Nx b1 = some r) (fun _ _ => Az rfl) (fun _ _ => Ak rfl) (fun _ _ => Nbl rfl) (fun b1 h => ?_) ?_))))))))))))
 ·unfold Nx at h
  refine csr (rm 2 rfl (Al (Bo ?_)))
  obtain rfl := SJ h
  exact dnT rfl rfl rfl rfl
 ·skip
  refine Bf ?_
  obtain ⟨x2, hx2, ho2⟩ := Ag h
  refine Bs (G := Nat × (Int × Int)) (fun g => [(3, .s (.one (Ii6 g.2.1))), (6, .s (.one (.sl a0.length (a0.flatMap A2)))), (7, .s (.one (Ii6 (a0.length : Int)))), (8, .s (.one (Ii6 g.2.2)))]) (fun g => []) (fun g => Cw (Fh a0) g.1 g.2 = some x2) (fun g => g.1) (fuel, (0, 0)) hx2 ⟨rfl, rfl, rfl, rfl, trivial⟩ [] rfl (fun _ _ => Az rfl) (fun _ _ => Ak rfl) (fun _ _ => Nbl rfl) ?_
  clear hx2 h
  rintro ⟨n2, s2⟩ h
  obtain ⟨n2, y2, rfl, h, hk2⟩ := Dw h
  unfold Fh at h
  refine csr (sv rfl (Bi rfl rfl) (Al (Bp (ccI h rfl (fun h => ?_) (fun h => ?_)))))
  ·refine Be (Ab (Bp (Bf (Bp (Ax ?_)))))
   obtain ⟨u3, hu3, h⟩ := Ag h
   refine sv rfl (Bw (f := A2) P8 (fun _ => rfl) rfl rfl rfl rfl hu3) ?_
   refine sv rfl (Bq (ys := [.sl u3.Key.length (u3.Key.flatMap eU8), .sl u3.Val.length (u3.Val.flatMap eU8)]) Ai0 rfl (.cp _) rfl rfl) (Ce rfl Ajb (A9 Ajw rfl rfl rfl rfl (Nbl rfl) (Cc [.box (EL.el u3)] rfl (Al (Ax (rm 1 rfl (sv rfl (Aa Ya rfl) (sv rfl (Ae E6 rfl (.lp _ _ _ rfl) rfl) ?_))))))))
   obtain ⟨v4, hv4, h⟩ := Ag h
   refine Bn rfl Aq4 (Ad rfl Aj) (A4 rfl) (Sk hv4) (sv rfl (Bj rfl rfl) ?_)
   obtain ⟨v5, hv5, h⟩ := Ag h
   refine Bn rfl Arn (Ad rfl Aj) (A4 rfl) (O8 hv5) (rm 1 rfl (Hy (Am (Ab (Ax (sv rfl (Bj rfl rfl) (rm 1 rfl (Al ?_))))))))
   obtain rfl := SJ h
   exact ⟨(n2, (v5, (wI (s2.2 + 1)))), _, hk2, ⟨rfl, rfl, rfl, rfl, trivial⟩, rfl, Nat.lt_succ_self _⟩
  ·refine Dp (Aq (Aq (Bd (Ab ?_))))
   obtain rfl := SJ h
   obtain rfl : _ = x2 := hk2
   exact ⟨s2.1, _, ho2, ⟨rfl, trivial⟩, rfl⟩
def D8 (b4 : Bb) : Option (Bb × Int) :=
 some (b4, 0)
def Je (a0 : Cn) (a1 : Bb) (a2 : Jb) (b2 : Unit) : Option (Bb × Int) :=
 (idx a0.Ops a1.PC).bind fun u3 => if (decide (u3.What = 1)) then (if 0 ≤ u3.B ∧ u3.B < ((8 : Nat) : Int) then ((Ck (C2.mk a1.Regs.R0 a1.Regs.R1 a1.Regs.R2 a1.Regs.R3 a1.Regs.R4 a1.Regs.R5 a1.Regs.R6 a1.Regs.R7) u3.B 0).bind fun q6 => if 0 ≤ u3.A ∧ u3.A < ((8 : Nat) : Int) then ((Ck (C2.mk q6.R0 q6.R1 q6.R2 q6.R3 q6.R4 q6.R5 q6.R6 q6.R7) u3.A 0).bind fun q8 => if a2.Found then (if 0 ≤ u3.B ∧ u3.B < ((8 : Nat) : Int) then ((Ck (C2.mk q8.R0 q8.R1 q8.R2 q8.R3 q8.R4 q8.R5 q8.R6 q8.R7) u3.B 1).bind fun q10 => (Lu a2.Val).bind fun v11 => if 0 ≤ u3.A ∧ u3.A < ((8 : Nat) : Int) then ((Ck (C2.mk q10.R0 q10.R1 q10.R2 q10.R3 q10.R4 q10.R5 q10.R6 q10.R7) u3.A v11).bind fun q13 => D8 (Bb.mk (wI (a1.PC + 1)) q13 a1.Stopped)) else none) else none) else (D8 (Bb.mk (wI (a1.PC + 1)) q8 a1.Stopped))) else none) else none) else (if (decide (u3.What = 4)) then ((Kd a2.List).bind fun v14 => if 0 ≤ u3.B ∧ u3.B < ((8 : Nat) : Int) then ((Ck (C2.mk a1.Regs.R0 a1.Regs.R1 a1.Regs.R2 a1.Regs.R3 a1.Regs.R4 a1.Regs.R5 a1.Regs.R6 a1.Regs.R7) u3.B v14).bind fun q16 => if 0 ≤ u3.A ∧ u3.A < ((8 : Nat) : Int) then ((Ck (C2.mk q16.R0 q16.R1 q16.R2 q16.R3 q16.R4 q16.R5 q16.R6 q16.R7) u3.A (a2.List.length : Int)).bind fun q18 => D8 (Bb.mk (wI (a1.PC + 1)) q18 a1.Stopped)) else none) else none) else (D8 (Bb.mk (wI (a1.PC + 1)) a1.Regs a1.Stopped)))
def I6 (a0 : Cn) (a1 : Bb) (a2 : Jb) : Option (Bb × Int) :=
 (Ev a0).bind fun v1 => if (!v1) then (some (I8, 1)) else ((D4 a1.PC (wI ((a0.Ops.length : Int) - 1))).bind fun v19 => if (!v19) then (some (I8, 7)) else (if a1.Stopped then (some (I8, 7)) else ((idx a0.Ops a1.PC).bind fun u20 => (Ky u20).bind fun v21 => if (!v21) then (some (I8, 7)) else (Je a0 a1 a2 ()))))
theorem Wi {a0 : Cn} {a1 : Bb} {a2 : Jb} {r : Bb × Int} (h : I6 a0 a1 a2 = some r) : Bz Tryz.prog 35 [.agg (EL.el a0), .agg (EL.el a1), .agg (EL.el a2)] (· = .tup [.agg (EL.el r.1), .one (Ii6 r.2)]) := by
 unfold I6 at h
 refine A8 Tryz.func35 rfl (nt := 88) rfl (Nbl rfl) ?_
 intro w0 S0
 refine csr (Kp rfl rfl (Kp rfl rfl (Kp rfl rfl (Ce rfl Acz (rm 1 rfl (Al (Bp (csr (sv rfl (Ap Aj7 rfl (.lp _ _ _ rfl) (Nbl rfl)) ?_)))))))))
 obtain ⟨v1, hv1, h⟩ := Ag h
 refine Bn rfl Aqj (Ad rfl Aj) (A4 rfl) (Nz hv1) (sv rfl (B1 rfl) (Al (ccI h rfl (fun h => ?_) (fun h => ?_))))
 ·refine csr (sv rfl (Bl Acz Als Ba (.nil _)) (A9 Vm rfl rfl rfl rfl (Nbl rfl) (Cc [.box (EL.el a0), .box (EL.el a1), .box (EL.el a2), .box Zba] rfl (rm 1 rfl (Al (Bo (Ah ?_)))))))
  obtain rfl := SJ h
  refine ⟨Or.inr rfl, _, _, _, (Ai (B9.agg _ _ _ _ _ Qm rfl (.lp _ _ _ rfl) (Nbl rfl)) (Ai (B9.tmp _ _ rfl) Au)), (A4 rfl), ?_⟩
  rfl
 ·refine Be (Ab (Bp (Bp (I0 (Unit) (fun b2 => [(3, .s (.one (.lp 0 0))), (4, .s (.one (.lp 1 0))), (5, .s (.one (.lp 2 0))), (6, .s (.one (.lp 3 0)))]) (fun b2 => [.box (EL.el a0), .box (EL.el a1), .box (EL.el a2), .box Zba]) (fun b2 => Je a0 a1 a2 b2 = some r) (fun _ _ => Az rfl) (fun _ _ => Ak rfl) (fun _ _ => Nbl rfl) (fun b2 h => ?_) ?_))))
  ·unfold Je at h
   refine csr (fl Sb Ai2 rfl rfl rfl rfl rfl rfl (sv rfl (Aa Ot rfl) (sv rfl (Ae ti3 rfl (.lp _ _ _ rfl) rfl) ?_)))
   obtain ⟨u3, hu3, h⟩ := Ag h
   refine sv rfl (Bw (f := Eu) Aiv (fun _ => rfl) rfl rfl rfl rfl hu3) ?_
   refine sv rfl (Bq (ys := [Ii6 u3.What, Ii6 u3.A, Ii6 u3.B, Ii6 u3.N, .sl u3.Key.length (u3.Key.flatMap eU8), .sl u3.Rng.Lo.length (u3.Rng.Lo.flatMap eU8), .sl u3.Rng.Hi.length (u3.Rng.Hi.flatMap eU8), .b u3.Rng.Open]) Aad rfl (.cp _) rfl rfl) (Ce rfl Aix (A9 Akl rfl rfl rfl rfl (Nbl rfl) (Cc [.box (EL.el a0), .box (EL.el a1), .box (EL.el a2), .box Zba, .box (EL.el u3)] rfl (Al (csr (fl Ot ti3 rfl rfl rfl rfl rfl rfl (sv rfl (Bj rfl rfl) (sv rfl (Aa Ot rfl) (A9 sz3 rfl rfl rfl rfl (Nbl rfl) (Cc [.box (EL.el a0), .box (EL.el {a1 with PC := wI (a1.PC + 1)}), .box (EL.el a2), .box Zba, .box (EL.el u3)] rfl (Al (Bp (csr (fl Sw ti3 rfl rfl rfl rfl rfl rfl (Al (C4 (Bb) (fun b4 => [(4, .s (.one (.lp 1 0))), (6, .s (.one (.lp 3 0)))]) (fun b4 => [.box (EL.el a0), .box (EL.el b4), .box (EL.el a2), .box Zba, .box (EL.el u3)]) (fun b4 => D8 b4 = some r) (fun _ _ => Az rfl) (fun _ _ => Ak rfl) (fun _ _ => Nbl rfl) (fun b4 h => ?_) ?_))))))))))))))))
   ·unfold D8 at h
    refine csr (sv rfl (Ap Qm rfl (.lp _ _ _ rfl) (Nbl rfl)) (A9 Vm rfl rfl rfl rfl (Nbl rfl) (Cc [.box (EL.el a0), .box (EL.el b4), .box (EL.el a2), .box (EL.el b4), .box (EL.el u3)] rfl (rm 1 rfl (Al (Bo ?_))))))
    obtain rfl := SJ h
    refine ⟨Or.inr rfl, _, _, _, (Ai (B9.agg _ _ _ _ _ Qm rfl (.lp _ _ _ rfl) (Nbl rfl)) (Ai (B9.tmp _ _ rfl) Au)), (A4 rfl), ?_⟩
    rfl
   ·skip
    refine Bf (csr (sv rfl (Bg rfl rfl) (rm 1 rfl (Al (ccI h rfl (fun h => ?_) (fun h => ?_))))))
    ·refine Bp ?_
     obtain ⟨hj5, h⟩ := Cl h
     obtain ⟨q6, hq6, h⟩ := Ag h
     obtain ⟨hj7, h⟩ := Cl h
     obtain ⟨q8, hq8, h⟩ := Ag h
     refine Ei [6, 9] [0, 1, 0, 4, 0, 19, 51, 0, 255, 511] [[.box (EL.el a0), .box (EL.el {a1 with PC := wI (a1.PC + 1)}), .box (EL.el a2), .box Zba, .box (EL.el u3)], [.box (EL.el a0), .box [Ii6 (wI (a1.PC + 1)), Ii6 q6.R0, Ii6 q6.R1, Ii6 q6.R2, Ii6 q6.R3, Ii6 q6.R4, Ii6 q6.R5, Ii6 q6.R6, Ii6 q6.R7, .b a1.Stopped], .box (EL.el a2), .box Zba, .box (EL.el u3)], [.box (EL.el a0), .box [Ii6 (wI (a1.PC + 1)), Ii6 q8.R0, Ii6 q8.R1, Ii6 q8.R2, Ii6 q8.R3, Ii6 q8.R4, Ii6 q8.R5, Ii6 q8.R6, Ii6 q8.R7, .b a1.Stopped], .box (EL.el a2), .box Zba, .box (EL.el u3)]] (by kernel_rfl) mixed (by kernel_rfl) (by decide) rfl rfl rfl rfl ?_
     refine evs (md := [.box (EL.el a0), .dead, .box (EL.el a2), .box Zba, .box (EL.el u3)]) (fun hS => ev (Av 0 rfl rfl) rfl rfl (Aa Ud rfl) (ev (Av 0 rfl rfl) rfl rfl (Ae ti3 rfl (.lp _ _ _ rfl) rfl) (ev (D9 hS) rfl rfl (Aa Rh rfl) (ev (D9 hS) rfl rfl (Ae ti3 rfl (.lp _ _ _ rfl) rfl) (ev (Av 0 rfl rfl) rfl rfl (Aa Pv rfl) (ev (Av 0 rfl rfl) rfl rfl (Eh Vt rfl rfl hj5) (ee0 0 rfl rfl rfl rfl (fun ζ => ?_) ?_))))))) ⟨⟨rfl, ⟨trivial, ⟨rfl, ⟨rfl, ⟨rfl, trivial⟩⟩⟩⟩⟩, ⟨⟨rfl, ⟨trivial, ⟨rfl, ⟨rfl, ⟨rfl, trivial⟩⟩⟩⟩⟩, ⟨⟨rfl, ⟨trivial, ⟨rfl, ⟨rfl, ⟨rfl, trivial⟩⟩⟩⟩⟩, trivial⟩⟩⟩
     ·refine A9 sz3 rfl rfl rfl rfl (Ro hj5 (Nbl rfl)) (Cc [.box (EL.el a0), .box [Ii6 (wI (a1.PC + 1)), Ii6 q6.R0, Ii6 q6.R1, Ii6 q6.R2, Ii6 q6.R3, Ii6 q6.R4, Ii6 q6.R5, Ii6 q6.R6, Ii6 q6.R7, .b a1.Stopped], .box (EL.el a2), .box Zba, .box (EL.el u3)] (K0 (Aa7 hq6 [Ii6 (wI (a1.PC + 1))] [.b a1.Stopped])) ?_)
      exact Ol
     refine ev (D9 (md := [.box (EL.el a0), .dead, .box (EL.el a2), .box Zba, .box (EL.el u3)]) ⟨⟨rfl, ⟨trivial, ⟨rfl, ⟨rfl, ⟨rfl, trivial⟩⟩⟩⟩⟩, ⟨⟨rfl, ⟨trivial, ⟨rfl, ⟨rfl, ⟨rfl, trivial⟩⟩⟩⟩⟩, ⟨⟨rfl, ⟨trivial, ⟨rfl, ⟨rfl, ⟨rfl, trivial⟩⟩⟩⟩⟩, trivial⟩⟩⟩) rfl rfl (Aa Pv rfl) (ev (Av 1 rfl rfl) rfl rfl (Eh Vt rfl rfl hj7) (ee0 1 rfl rfl rfl rfl (fun ζ => ?_) ?_))
     ·refine A9 sz3 rfl rfl rfl rfl (Ro hj7 (Nbl rfl)) (Cc [.box (EL.el a0), .box [Ii6 (wI (a1.PC + 1)), Ii6 q8.R0, Ii6 q8.R1, Ii6 q8.R2, Ii6 q8.R3, Ii6 q8.R4, Ii6 q8.R5, Ii6 q8.R6, Ii6 q8.R7, .b a1.Stopped], .box (EL.el a2), .box Zba, .box (EL.el u3)] (K0 (Aa7 hq8 [Ii6 (wI (a1.PC + 1))] [.b a1.Stopped])) ?_)
      exact Ol
     refine Tb (Ab (csr (fl Akb ti4 rfl rfl rfl rfl rfl rfl (Al (ccI h rfl (fun h => ?_) (fun h => ?_))))))
     ·refine csr (fl Ud ti3 rfl rfl rfl rfl rfl rfl (sv rfl (Aa Pv rfl) ?_))
      obtain ⟨hj9, h⟩ := Cl h
      refine sv rfl (Eh Vt rfl rfl hj9) ?_
      obtain ⟨q10, hq10, h⟩ := Ag h
      refine A9 sz3 rfl rfl rfl rfl (Ro hj9 (Nbl rfl)) (Cc [.box (EL.el a0), .box [Ii6 (wI (a1.PC + 1)), Ii6 q10.R0, Ii6 q10.R1, Ii6 q10.R2, Ii6 q10.R3, Ii6 q10.R4, Ii6 q10.R5, Ii6 q10.R6, Ii6 q10.R7, .b a1.Stopped], .box (EL.el a2), .box Zba, .box (EL.el u3)] (K0 (Aa7 hq10 [Ii6 (wI (a1.PC + 1))] [.b a1.Stopped])) (Al ?_))
      obtain ⟨v11, hv11, h⟩ := Ag h
      obtain ⟨hj12, h⟩ := Cl h
      obtain ⟨q13, hq13, h⟩ := Ag h
      refine Ei [7] [0, 1, 0, 4, 12, 0, 63, 127] [[.box (EL.el a0), .box [Ii6 (wI (a1.PC + 1)), Ii6 q10.R0, Ii6 q10.R1, Ii6 q10.R2, Ii6 q10.R3, Ii6 q10.R4, Ii6 q10.R5, Ii6 q10.R6, Ii6 q10.R7, .b a1.Stopped], .box (EL.el a2), .box Zba, .box (EL.el u3)], [.box (EL.el a0), .box [Ii6 (wI (a1.PC + 1)), Ii6 q13.R0, Ii6 q13.R1, Ii6 q13.R2, Ii6 q13.R3, Ii6 q13.R4, Ii6 q13.R5, Ii6 q13.R6, Ii6 q13.R7, .b a1.Stopped], .box (EL.el a2), .box Zba, .box (EL.el u3)]] (by kernel_rfl) mixed (by kernel_rfl) (by decide) rfl rfl rfl rfl ?_
      refine ev (Av 0 rfl rfl) rfl rfl (Aa Rh rfl) (ev (Av 0 rfl rfl) rfl rfl (Ae ti3 rfl (.lp _ _ _ rfl) rfl) (ev (Av 0 rfl rfl) rfl rfl (Aa Aj0 rfl) (ev (Av 0 rfl rfl) rfl rfl (Ae E6 rfl (.lp _ _ _ rfl) rfl) (ed (Av 0 rfl rfl) rfl rfl (C1 Aq4 (Ad rfl Aj) rfl (Sk hv11)) (ev (Av 0 rfl rfl) rfl rfl (Aa Pv rfl) (ev (Av 0 rfl rfl) rfl rfl (Eh Vt rfl rfl hj12) (ee0 0 rfl rfl rfl rfl (fun ζ => ?_) ?_)))))))
      ·refine A9 sz3 rfl rfl rfl rfl (Ro hj12 (Nbl rfl)) (Cc [.box (EL.el a0), .box [Ii6 (wI (a1.PC + 1)), Ii6 q13.R0, Ii6 q13.R1, Ii6 q13.R2, Ii6 q13.R3, Ii6 q13.R4, Ii6 q13.R5, Ii6 q13.R6, Ii6 q13.R7, .b a1.Stopped], .box (EL.el a2), .box Zba, .box (EL.el u3)] (K0 (Aa7 hq13 [Ii6 (wI (a1.PC + 1))] [.b a1.Stopped])) ?_)
       exact Ol
      refine Tb (Am (Ab ?_))
      exact ⟨(Bb.mk (wI (a1.PC + 1)) q13 a1.Stopped), _, h, ⟨rfl, rfl, trivial⟩, rfl⟩
     ·refine Be (Am (Ab ?_))
      exact ⟨(Bb.mk (wI (a1.PC + 1)) q8 a1.Stopped), _, h, ⟨rfl, rfl, trivial⟩, rfl⟩
    ·refine csr (sv rfl (Bg rfl rfl) (rm 1 rfl (Al (ccI h rfl (fun h => ?_) (fun h => ?_)))))
     ·refine Bp ?_
      obtain ⟨v14, hv14, h⟩ := Ag h
      obtain ⟨hj15, h⟩ := Cl h
      obtain ⟨q16, hq16, h⟩ := Ag h
      refine Ei [7] [0, 1, 0, 4, 12, 0, 63, 127] [[.box (EL.el a0), .box (EL.el {a1 with PC := wI (a1.PC + 1)}), .box (EL.el a2), .box Zba, .box (EL.el u3)], [.box (EL.el a0), .box [Ii6 (wI (a1.PC + 1)), Ii6 q16.R0, Ii6 q16.R1, Ii6 q16.R2, Ii6 q16.R3, Ii6 q16.R4, Ii6 q16.R5, Ii6 q16.R6, Ii6 q16.R7, .b a1.Stopped], .box (EL.el a2), .box Zba, .box (EL.el u3)]] (by kernel_rfl) mixed (by kernel_rfl) (by decide) rfl rfl rfl rfl ?_
      refine ev (Av 0 rfl rfl) rfl rfl (Aa Ud rfl) (ev (Av 0 rfl rfl) rfl rfl (Ae ti3 rfl (.lp _ _ _ rfl) rfl) (ev (Av 0 rfl rfl) rfl rfl (Aa Ae3 rfl) (ev (Av 0 rfl rfl) rfl rfl (Ae Aja rfl (.lp _ _ _ rfl) rfl) (ed (Av 0 rfl rfl) rfl rfl (C1 Arz (Ad rfl Aj) rfl (Xh hv14)) (ev (Av 0 rfl rfl) rfl rfl (Aa Pv rfl) (ev (Av 0 rfl rfl) rfl rfl (Eh Vt rfl rfl hj15) (ee0 0 rfl rfl rfl rfl (fun ζ => ?_) ?_)))))))
      ·refine A9 sz3 rfl rfl rfl rfl (Ro hj15 (Nbl rfl)) (Cc [.box (EL.el a0), .box [Ii6 (wI (a1.PC + 1)), Ii6 q16.R0, Ii6 q16.R1, Ii6 q16.R2, Ii6 q16.R3, Ii6 q16.R4, Ii6 q16.R5, Ii6 q16.R6, Ii6 q16.R7, .b a1.Stopped], .box (EL.el a2), .box Zba, .box (EL.el u3)] (K0 (Aa7 hq16 [Ii6 (wI (a1.PC + 1))] [.b a1.Stopped])) ?_)
       exact Ol
      refine Tb (Ab (Ax (fl Rh ti3 rfl rfl rfl rfl rfl rfl (fl Ae3 Aja rfl rfl rfl rfl rfl rfl (sv rfl (An P8 rfl) (sv rfl (Aa Pv rfl) ?_))))))
      obtain ⟨hj17, h⟩ := Cl h
      refine sv rfl (Eh Vt rfl rfl hj17) ?_
      obtain ⟨q18, hq18, h⟩ := Ag h
      refine A9 sz3 rfl rfl rfl rfl (Ro hj17 (Nbl rfl)) (Cc [.box (EL.el a0), .box [Ii6 (wI (a1.PC + 1)), Ii6 q18.R0, Ii6 q18.R1, Ii6 q18.R2, Ii6 q18.R3, Ii6 q18.R4, Ii6 q18.R5, Ii6 q18.R6, Ii6 q18.R7, .b a1.Stopped], .box (EL.el a2), .box Zba, .box (EL.el u3)] (K0 (Aa7 hq18 [Ii6 (wI (a1.PC + 1))] [.b a1.Stopped])) (Hy (Am (Ab ?_))))
      exact ⟨(Bb.mk (wI (a1.PC + 1)) q18 a1.Stopped), _, h, ⟨rfl, rfl, trivial⟩, rfl⟩
     ·refine Be (Am (Ab ?_))
      exact ⟨(Bb.mk (wI (a1.PC + 1)) a1.Regs a1.Stopped), _, h, ⟨rfl, rfl, trivial⟩, rfl⟩
  ·skip
   refine Ax (fl Ot ti3 rfl rfl rfl rfl rfl rfl (fl Sb Ai2 rfl rfl rfl rfl rfl rfl (sv rfl (An Aiv rfl) (sv rfl (Qi rfl rfl) ?_))))
   obtain ⟨v19, hv19, h⟩ := Ag h
   refine Bn rfl Amn (Ad rfl (Ad rfl Aj)) (A4 rfl) (H9 hv19) (sv rfl (B1 rfl) (rm 1 rfl (Bc 21 rfl (fun hc => ?_) (fun hc => ?_))))
   ·replace h := Bt hc h
    clear hc
    refine rm 13 rfl (Al (Cm rfl (fun _ => ?_) (fun hx => Bool.noConfusion hx)))
    refine csr (sv rfl (Bl Acz Als Ba (.nil _)) (A9 Vm rfl rfl rfl rfl (Nbl rfl) (Cc [.box (EL.el a0), .box (EL.el a1), .box (EL.el a2), .box Zba] rfl (rm 1 rfl (Al (Bo (Ah ?_)))))))
    obtain rfl := SJ h
    refine ⟨Or.inr rfl, _, _, _, (Ai (B9.agg _ _ _ _ _ Qm rfl (.lp _ _ _ rfl) (Nbl rfl)) (Ai (B9.tmp _ _ rfl) Au)), (A4 rfl), ?_⟩
    rfl
   ·replace h := Bu hc h
    clear hc
    refine son rfl rfl rfl (sv rfl (Aa Agt rfl) (son rfl rfl rfl (sv rfl (Ae ti4 rfl (.lp _ _ _ rfl) rfl) (rm 2 rfl (Bc 25 rfl (fun hc => ?_) (fun hc => ?_))))))
    ·replace h := Bt hc h
     clear hc
     refine rm 9 rfl (Al (Cm rfl (fun _ => ?_) (fun hx => Bool.noConfusion hx)))
     refine csr (sv rfl (Bl Acz Als Ba (.nil _)) (A9 Vm rfl rfl rfl rfl (Nbl rfl) (Cc [.box (EL.el a0), .box (EL.el a1), .box (EL.el a2), .box Zba] rfl (rm 1 rfl (Al (Bo (Ah ?_)))))))
     obtain rfl := SJ h
     refine ⟨Or.inr rfl, _, _, _, (Ai (B9.agg _ _ _ _ _ Qm rfl (.lp _ _ _ rfl) (Nbl rfl)) (Ai (B9.tmp _ _ rfl) Au)), (A4 rfl), ?_⟩
     rfl
    ·replace h := Bu hc h
     clear hc
     refine son rfl rfl rfl (sv rfl (Aa Sb rfl) (son rfl rfl rfl (sv rfl (Ae Ai2 rfl (.lp _ _ _ rfl) rfl) (son rfl rfl rfl (sv rfl (Aa Ot rfl) (son rfl rfl rfl (sv rfl (Ae ti3 rfl (.lp _ _ _ rfl) rfl) (son rfl rfl rfl ?_))))))))
     obtain ⟨u20, hu20, h⟩ := Ag h
     refine sv rfl (Bw (f := Eu) Aiv (fun _ => rfl) rfl rfl rfl rfl hu20) ?_
     refine son rfl rfl rfl (sv rfl (Bq (ys := [Ii6 u20.What, Ii6 u20.A, Ii6 u20.B, Ii6 u20.N, .sl u20.Key.length (u20.Key.flatMap eU8), .sl u20.Rng.Lo.length (u20.Rng.Lo.flatMap eU8), .sl u20.Rng.Hi.length (u20.Rng.Hi.flatMap eU8), .b u20.Rng.Open]) Aad rfl (.cp _) rfl rfl) (son rfl rfl rfl ?_))
     obtain ⟨v21, hv21, h⟩ := Ag h
     refine Bn rfl Aqz (Ad rfl Aj) (A4 rfl) (Qx hv21) (son rfl rfl rfl (sv rfl (B1 rfl) (rm 1 rfl (Al (ccI h rfl (fun h => ?_) (fun h => ?_))))))
     ·refine csr (sv rfl (Bl Acz Als Ba (.nil _)) (A9 Vm rfl rfl rfl rfl (Nbl rfl) (Cc [.box (EL.el a0), .box (EL.el a1), .box (EL.el a2), .box Zba] rfl (rm 1 rfl (Al (Bo (Ah ?_)))))))
      obtain rfl := SJ h
      refine ⟨Or.inr rfl, _, _, _, (Ai (B9.agg _ _ _ _ _ Qm rfl (.lp _ _ _ rfl) (Nbl rfl)) (Ai (B9.tmp _ _ rfl) Au)), (A4 rfl), ?_⟩
      rfl
     ·refine Be (Ab ?_)
      exact ⟨(), _, h, ⟨rfl, rfl, rfl, rfl, trivial⟩, rfl⟩
def Iu (a0 : Cn) (s2 : (List Aw) × (List Af) × Bb) : Option (LR ((List Aw) × (List Af) × Bb) (Unit) ((List Aw) × Bb)) :=
 (Hk a0 s2.2.2).bind fun v3 => if (!v3.2.2) then ((Ek (Dn.mk s2.1 (B2.mk s2.2.1))).bind fun v4 => some (.ret (v4, v3.2.1))) else ((Dj (Dn.mk s2.1 (B2.mk s2.2.1)) v3.1).bind fun v5 => if (!decide (v5.2.2 = 0)) then ((Ek (Dn.mk s2.1 (B2.mk s2.2.1))).bind fun v6 => some (.ret (v6, v3.2.1))) else ((I6 a0 v3.2.1 v5.2.1).bind fun v7 => if (!decide (v7.2 = 0)) then ((Ek v5.1).bind fun v8 => some (.ret (v8, v3.2.1))) else (some (.cont (v5.1.base_, v5.1.buf_.L, v7.1)))))
def Mm (a0 : Cn) (a1 : List Aw) (b1 : Unit) : Option ((List Aw) × Bb) :=
 (Fc (Iu a0) fuel (a1, ([] : List Af), I8)).bind fun x => match x with | .inl r => some r | .inr _ => none
def Nb (a0 : Cn) (a1 : List Aw) : Option ((List Aw) × Bb) :=
 (Ev a0).bind fun v9 => if (!v9) then (some (a1, I8)) else ((Lc a1).bind fun v10 => if (!v10) then (some (a1, I8)) else (Mm a0 a1 ()))
theorem Xm {a0 : Cn} {a1 : List Aw} {r : (List Aw) × Bb} (h : Nb a0 a1 = some r) : Bz Tryz.prog 17 [.agg (EL.el a0), .one (.sl a1.length (a1.flatMap A2))] (· = .tup [.one (.sl r.1.length (r.1.flatMap A2)), .agg (EL.el r.2)]) := by
 unfold Nb at h
 refine A8 Tryz.func17 rfl (nt := 64) rfl (Nbl rfl) ?_
 intro w0 S0
 refine csr (Kp rfl rfl (rm 1 rfl (Ce rfl Acz (Al (Bp (Bp (I0 (Unit) (fun b1 => [(1, .s (.one (.sl a1.length (a1.flatMap A2)))), (2, .s (.one (.lp 0 0))), (5, .s (.one (.lp 1 0)))]) (fun b1 => [.box (EL.el a0), .box Zba]) (fun b1 => Mm a0 a1 b1 = some r) (fun _ _ => Az rfl) (fun _ _ => Ak rfl) (fun _ _ => Nbl rfl) (fun b1 h => ?_) ?_)))))))
 ·unfold Mm at h
  refine csr (rm 1 rfl (sv rfl (Bl Aoe Atl (A1 rfl Ba) (.cons _ _ _ _ _ _ _ rfl rfl (Nbl rfl) (.nil _))) (sv rfl (Bl Acz Als Ba (.nil _)) (Ce rfl Aoe (Ce rfl Acz (A9 Aof rfl rfl rfl rfl (Nbl rfl) (Cc [.box (EL.el a0), .box Zba, .box [.sl a1.length (a1.flatMap A2), Znl], .box Zba] rfl (A9 Vm rfl rfl rfl rfl (Nbl rfl) (Cc [.box (EL.el a0), .box Zba, .box [.sl a1.length (a1.flatMap A2), Znl], .box Zba] rfl (Al (Bf (O5 2 1 rfl rfl Ci.nil rfl ?_))))))))))))
  obtain ⟨x2, hx2, ho2⟩ := Ag h
  refine Bs (G := Nat × ((List Aw) × (List Af) × Bb)) (fun g => [(2, .s (.one (.lp 0 0))), (5, .s (.one (.lp 1 0))), (6, .s (.one (.lp 2 0))), (7, .s (.one (.lp 3 0)))]) (fun g => [.box (EL.el a0), .box Zba, .box [.sl g.2.1.length (g.2.1.flatMap A2), .sl g.2.2.1.length (g.2.2.1.flatMap Ac)], .box (EL.el g.2.2.2)]) (fun g => Fc (Iu a0) g.1 g.2 = some x2) (fun g => g.1) (fuel, (a1, ([] : List Af), I8)) hx2 ⟨rfl, rfl, rfl, rfl, trivial⟩ [] rfl (fun _ _ => Az rfl) (fun _ _ => Ak rfl) (fun _ _ => Nbl rfl) ?_
  clear hx2 h
  rintro ⟨n2, s2⟩ h
  obtain ⟨n2, y2, rfl, h, hk2⟩ := Dc h
  unfold Iu at h
  refine Bf (csr (sv rfl (Ap Aj7 rfl (.lp _ _ _ rfl) (Nbl rfl)) (sv rfl (Ap Qm rfl (.lp _ _ _ rfl) (Nbl rfl)) ?_)))
  obtain ⟨v3, hv3, h⟩ := Ag h
  refine Bn rfl Asb (Ad rfl (Ad rfl Aj)) (A4 rfl) (W4 hv3) (sv rfl (Jx rfl) (sv rfl (Bm rfl rfl) (sv rfl (Bm rfl rfl) (sv rfl (Bm rfl rfl) (Ce rfl Ahe (Ce rfl Acz (A9 Ahj rfl rfl rfl rfl (Nbl rfl) (Cc [.box (EL.el a0), .box Zba, .box [.sl s2.1.length (s2.1.flatMap A2), .sl s2.2.1.length (s2.2.1.flatMap Ac)], .box (EL.el s2.2.2), .box (EL.el v3.1), .box Zba] rfl (A9 Vm rfl rfl rfl rfl (Nbl rfl) (Cc [.box (EL.el a0), .box Zba, .box [.sl s2.1.length (s2.1.flatMap A2), .sl s2.2.1.length (s2.2.1.flatMap Ac)], .box (EL.el s2.2.2), .box (EL.el v3.1), .box (EL.el v3.2.1)] rfl (rm 1 rfl (Al (Bp (csr (rm 1 rfl (sv rfl (B1 rfl) (Al (ccI h rfl (fun h => ?_) (fun h => ?_)))))))))))))))))))
  ·refine Bp ?_
   obtain ⟨v4, hv4, h⟩ := Ag h
   refine Ei [4] [0, 1, 0, 3, 15] [[.box (EL.el a0), .box Zba, .box [.sl s2.1.length (s2.1.flatMap A2), .sl s2.2.1.length (s2.2.1.flatMap Ac)], .box (EL.el s2.2.2), .box (EL.el v3.1), .box (EL.el v3.2.1)], [.box (EL.el a0), .box (EL.el v3.2.1), .box [.sl s2.1.length (s2.1.flatMap A2), .sl s2.2.1.length (s2.2.1.flatMap Ac)], .box (EL.el s2.2.2), .box (EL.el v3.1), .box (EL.el v3.2.1)]] (by kernel_rfl) mixed (by kernel_rfl) (by decide) rfl rfl rfl rfl ?_
   refine ev (Av 0 rfl rfl) rfl rfl (Ap Ahf rfl (.lp _ _ _ rfl) (Nbl rfl)) (ed (Av 0 rfl rfl) rfl rfl (C1 Aou (Ad rfl Aj) rfl (K4 hv4)) (ev (Av 0 rfl rfl) rfl rfl (Ap Qm rfl (.lp _ _ _ rfl) (Nbl rfl)) (ev (Av 0 rfl rfl) rfl rfl (E8 rfl) (ee0 0 rfl rfl rfl rfl (fun ζ => ?_) ?_))))
   ·refine A9 Vm rfl rfl rfl rfl (Nbl rfl) (Cc [.box (EL.el a0), .box (EL.el v3.2.1), .box [.sl s2.1.length (s2.1.flatMap A2), .sl s2.2.1.length (s2.2.1.flatMap Ac)], .box (EL.el s2.2.2), .box (EL.el v3.1), .box (EL.el v3.2.1)] rfl ?_)
    exact Ol
   refine Tb (Ab (Bo (Ah (Ao (Ah (Ao ?_))))))
   obtain rfl := SJ h
   obtain rfl : Sum.inl _ = x2 := hk2
   replace ho2 : some _ = some _ := ho2
   obtain rfl := Option.some.inj ho2
   refine ⟨Or.inr rfl, _, _, _, (Ai (B9.tmp _ _ rfl) (Ai (B9.agg _ _ _ _ _ Qm rfl (.lp _ _ _ rfl) (Nbl rfl)) Au)), (A4 rfl), ?_⟩
   rfl
  ·refine Be (Ab (csr (sv rfl (Ap Ahf rfl (.lp _ _ _ rfl) (Nbl rfl)) (sv rfl (Ap Aht rfl (.lp _ _ _ rfl) (Nbl rfl)) ?_))))
   obtain ⟨v5, hv5, h⟩ := Ag h
   refine Bn rfl Ar8 (Ad rfl (Ad rfl Aj)) (A4 rfl) (Pz hv5) (sv rfl (Jx rfl) (sv rfl (Bm rfl rfl) (sv rfl (Bm rfl rfl) (sv rfl (Bm rfl rfl) (Ce rfl Aoe (Ce rfl Aoq (A9 Aof rfl rfl rfl rfl (Nbl rfl) (Cc [.box (EL.el a0), .box Zba, .box [.sl s2.1.length (s2.1.flatMap A2), .sl s2.2.1.length (s2.2.1.flatMap Ac)], .box (EL.el s2.2.2), .box (EL.el v3.1), .box (EL.el v3.2.1), .box (EL.el v5.1), .box Zbc] rfl (A9 Apq rfl rfl rfl rfl (Nbl rfl) (Cc [.box (EL.el a0), .box Zba, .box [.sl s2.1.length (s2.1.flatMap A2), .sl s2.2.1.length (s2.2.1.flatMap Ac)], .box (EL.el s2.2.2), .box (EL.el v3.1), .box (EL.el v3.2.1), .box (EL.el v5.1), .box (EL.el v5.2.1)] rfl (rm 1 rfl (Al (Bp (csr (rm 1 rfl (sv rfl (P4 rfl rfl) (Al (ccI h rfl (fun h => ?_) (fun h => ?_)))))))))))))))))))
   ·refine Bp ?_
    obtain ⟨v6, hv6, h⟩ := Ag h
    refine Ei [4] [0, 1, 0, 3, 15] [[.box (EL.el a0), .box Zba, .box [.sl s2.1.length (s2.1.flatMap A2), .sl s2.2.1.length (s2.2.1.flatMap Ac)], .box (EL.el s2.2.2), .box (EL.el v3.1), .box (EL.el v3.2.1), .box (EL.el v5.1), .box (EL.el v5.2.1)], [.box (EL.el a0), .box (EL.el v3.2.1), .box [.sl s2.1.length (s2.1.flatMap A2), .sl s2.2.1.length (s2.2.1.flatMap Ac)], .box (EL.el s2.2.2), .box (EL.el v3.1), .box (EL.el v3.2.1), .box (EL.el v5.1), .box (EL.el v5.2.1)]] (by kernel_rfl) mixed (by kernel_rfl) (by decide) rfl rfl rfl rfl ?_
    refine ev (Av 0 rfl rfl) rfl rfl (Ap Ahf rfl (.lp _ _ _ rfl) (Nbl rfl)) (ed (Av 0 rfl rfl) rfl rfl (C1 Aou (Ad rfl Aj) rfl (K4 hv6)) (ev (Av 0 rfl rfl) rfl rfl (Ap Qm rfl (.lp _ _ _ rfl) (Nbl rfl)) (ev (Av 0 rfl rfl) rfl rfl (E8 rfl) (ee0 0 rfl rfl rfl rfl (fun ζ => ?_) ?_))))
    ·refine A9 Vm rfl rfl rfl rfl (Nbl rfl) (Cc [.box (EL.el a0), .box (EL.el v3.2.1), .box [.sl s2.1.length (s2.1.flatMap A2), .sl s2.2.1.length (s2.2.1.flatMap Ac)], .box (EL.el s2.2.2), .box (EL.el v3.1), .box (EL.el v3.2.1), .box (EL.el v5.1), .box (EL.el v5.2.1)] rfl ?_)
     exact Ol
    refine Tb (Ab (Bo (Ah (Ao (Ah (Ao ?_))))))
    obtain rfl := SJ h
    obtain rfl : Sum.inl _ = x2 := hk2
    replace ho2 : some _ = some _ := ho2
    obtain rfl := Option.some.inj ho2
    refine ⟨Or.inr rfl, _, _, _, (Ai (B9.tmp _ _ rfl) (Ai (B9.agg _ _ _ _ _ Qm rfl (.lp _ _ _ rfl) (Nbl rfl)) Au)), (A4 rfl), ?_⟩
    rfl
   ·refine Be (Ab (csr (sv rfl (Ap Ahf rfl (.lp _ _ _ rfl) (Nbl rfl)) (A9 Aof rfl rfl rfl rfl (Nbl rfl) (Cc [.box (EL.el a0), .box Zba, .box (EL.el v5.1), .box (EL.el s2.2.2), .box (EL.el v3.1), .box (EL.el v3.2.1), .box (EL.el v5.1), .box (EL.el v5.2.1)] rfl (Al (csr (sv rfl (Ap Aj7 rfl (.lp _ _ _ rfl) (Nbl rfl)) (sv rfl (Ap Qm rfl (.lp _ _ _ rfl) (Nbl rfl)) (sv rfl (Ap Aoz rfl (.lp _ _ _ rfl) (Nbl rfl)) ?_))))))))))
    obtain ⟨v7, hv7, h⟩ := Ag h
    refine Bn rfl As5 (Ad rfl (Ad rfl (Ad rfl Aj))) (A4 rfl) (Wi hv7) (sv rfl (Jx rfl) (sv rfl (Bm rfl rfl) (sv rfl (Bm rfl rfl) (A9 Vm rfl rfl rfl rfl (Nbl rfl) (Cc [.box (EL.el a0), .box Zba, .box (EL.el v5.1), .box (EL.el v7.1), .box (EL.el v3.1), .box (EL.el v3.2.1), .box (EL.el v5.1), .box (EL.el v5.2.1)] rfl (rm 1 rfl (Al (csr (rm 1 rfl (sv rfl (P4 rfl rfl) (Al (ccI h rfl (fun h => ?_) (fun h => ?_)))))))))))))
    ·refine Bp ?_
     obtain ⟨v8, hv8, h⟩ := Ag h
     refine Ei [4] [0, 1, 0, 3, 15] [[.box (EL.el a0), .box Zba, .box (EL.el v5.1), .box (EL.el v7.1), .box (EL.el v3.1), .box (EL.el v3.2.1), .box (EL.el v5.1), .box (EL.el v5.2.1)], [.box (EL.el a0), .box (EL.el v3.2.1), .box (EL.el v5.1), .box (EL.el v7.1), .box (EL.el v3.1), .box (EL.el v3.2.1), .box (EL.el v5.1), .box (EL.el v5.2.1)]] (by kernel_rfl) mixed (by kernel_rfl) (by decide) rfl rfl rfl rfl ?_
     refine ev (Av 0 rfl rfl) rfl rfl (Ap Ahf rfl (.lp _ _ _ rfl) (Nbl rfl)) (ed (Av 0 rfl rfl) rfl rfl (C1 Aou (Ad rfl Aj) rfl (K4 hv8)) (ev (Av 0 rfl rfl) rfl rfl (Ap Qm rfl (.lp _ _ _ rfl) (Nbl rfl)) (ev (Av 0 rfl rfl) rfl rfl (E8 rfl) (ee0 0 rfl rfl rfl rfl (fun ζ => ?_) ?_))))
     ·refine A9 Vm rfl rfl rfl rfl (Nbl rfl) (Cc [.box (EL.el a0), .box (EL.el v3.2.1), .box (EL.el v5.1), .box (EL.el v7.1), .box (EL.el v3.1), .box (EL.el v3.2.1), .box (EL.el v5.1), .box (EL.el v5.2.1)] rfl ?_)
      exact Ol
     refine Tb (Ab (Bo (Ao (Ah (Ao ?_)))))
     obtain rfl := SJ h
     obtain rfl : Sum.inl _ = x2 := hk2
     replace ho2 : some _ = some _ := ho2
     obtain rfl := Option.some.inj ho2
     refine ⟨Or.inr rfl, _, _, _, (Ai (B9.tmp _ _ rfl) (Ai (B9.agg _ _ _ _ _ Qm rfl (.lp _ _ _ rfl) (Nbl rfl)) Au)), (A4 rfl), ?_⟩
     rfl
    ·refine Be (Am (Ab ?_))
     obtain rfl := SJ h
     exact ⟨(n2, (v5.1.base_, v5.1.buf_.L, v7.1)), _, hk2, ⟨rfl, rfl, rfl, rfl, trivial⟩, rfl, Nat.lt_succ_self _⟩
 ·skip
  refine Ax (sv rfl (Ap Aj7 rfl (.lp _ _ _ rfl) (Nbl rfl)) ?_)
  obtain ⟨v9, hv9, h⟩ := Ag h
  refine Bn rfl Aqj (Ad rfl Aj) (A4 rfl) (Nz hv9) (sv rfl (B1 rfl) (rm 1 rfl (Bc 17 rfl (fun hc => ?_) (fun hc => ?_))))
  ·replace h := Bt hc h
   clear hc
   refine rm 4 rfl (Al (Cm rfl (fun _ => ?_) (fun hx => Bool.noConfusion hx)))
   refine csr (rm 1 rfl (sv rfl (Bl Acz Als Ba (.nil _)) (rm 1 rfl (A9 Vm rfl rfl rfl rfl (Nbl rfl) (Cc [.box (EL.el a0), .box Zba] rfl (Al (Bo (Ah ?_))))))))
   obtain rfl := SJ h
   refine ⟨Or.inr rfl, _, _, _, (Ai (B9.tmp _ _ rfl) (Ai (B9.agg _ _ _ _ _ Qm rfl (.lp _ _ _ rfl) (Nbl rfl)) Au)), (A4 rfl), ?_⟩
   rfl
  ·replace h := Bu hc h
   clear hc
   refine rm 1 rfl (son rfl rfl rfl ?_)
   obtain ⟨v10, hv10, h⟩ := Ag h
   refine Bn rfl Atr (Ad rfl Aj) (A4 rfl) (Vl hv10) (son rfl rfl rfl (sv rfl (B1 rfl) (rm 1 rfl (Al (ccI h rfl (fun h => ?_) (fun h => ?_))))))
   ·refine csr (rm 1 rfl (sv rfl (Bl Acz Als Ba (.nil _)) (rm 1 rfl (A9 Vm rfl rfl rfl rfl (Nbl rfl) (Cc [.box (EL.el a0), .box Zba] rfl (Al (Bo (Ah ?_))))))))
    obtain rfl := SJ h
    refine ⟨Or.inr rfl, _, _, _, (Ai (B9.tmp _ _ rfl) (Ai (B9.agg _ _ _ _ _ Qm rfl (.lp _ _ _ rfl) (Nbl rfl)) Au)), (A4 rfl), ?_⟩
    rfl
   ·refine Be (Ab ?_)
    exact ⟨(), _, h, ⟨rfl, rfl, rfl, trivial⟩, rfl⟩
def Lr (b3 : (List Aw) × Bool) : Option ((List Aw) × Bool) :=
 some (b3.1, b3.2)
def Gm (a0 : List B0) (v2 : (List Int) × Bool) (s4 : (List Aw) × Bool × Int) : Option (LB ((List Aw) × Bool × Int) ((List Aw) × Bool)) :=
 if (decide (s4.2.2 < (v2.1.length : Int))) then ((idx v2.1 s4.2.2).bind fun u5 => (idx a0 u5).bind fun u6 => (Nb u6.Prog s4.1).bind fun v7 => if s4.2.1 then ((idx a0 u5).bind fun u8 => some (.cont (v7.1, ((decide (v7.2.Regs.R0 = u8.Regs.R0)) && ((decide (v7.2.Regs.R1 = u8.Regs.R1)) && ((decide (v7.2.Regs.R2 = u8.Regs.R2)) && ((decide (v7.2.Regs.R3 = u8.Regs.R3)) && ((decide (v7.2.Regs.R4 = u8.Regs.R4)) && ((decide (v7.2.Regs.R5 = u8.Regs.R5)) && ((decide (v7.2.Regs.R6 = u8.Regs.R6)) && ((decide (v7.2.Regs.R7 = u8.Regs.R7)) && true)))))))), (wI (s4.2.2 + 1))))) else (some (.cont (v7.1, false, (wI (s4.2.2 + 1)))))) else (some (.brk (s4.1, s4.2.1)))
def Jg (a0 : List B0) : Option ((List Aw) × Bool) :=
 (Jk a0).bind fun v1 => (D7 v1).bind fun v2 => if (!v2.2) then (some (([] : List Aw), false)) else ((Cw (Gm a0 v2) fuel (([] : List Aw), true, 0)).bind fun e9 => Lr e9)
theorem T0 {a0 : List B0} {r : (List Aw) × Bool} (h : Jg a0 = some r) : Bz Tryz.prog 7 [.one (.sl a0.length (a0.flatMap Co))] (· = .tup [.one (.sl r.1.length (r.1.flatMap A2)), .one (.b r.2)]) := by
 unfold Jg at h
 refine A8 Tryz.func7 rfl (nt := 51) rfl (Nbl rfl) ?_
 intro w0 S0
 refine csr (rm 2 rfl (Al (csr (sv rfl (A3 rfl) ?_))))
 obtain ⟨v1, hv1, h⟩ := Ag h
 refine Bn rfl Aru (Ad rfl Aj) (A4 rfl) (Tr hv1) ?_
 obtain ⟨v2, hv2, h⟩ := Ag h
 refine Bn rfl Apt (Ad rfl Aj) (A4 rfl) (Mb hv2) (sv rfl (Jx rfl) (sv rfl (Bm rfl rfl) (sv rfl (Bm rfl rfl) (rm 2 rfl (Al (Bp (csr (rm 1 rfl (sv rfl (B1 rfl) (Al (ccI h rfl (fun h => ?_) (fun h => ?_))))))))))))
 ·refine csr (rm 2 rfl (Al (Bo (Ah ?_))))
  obtain rfl := SJ h
  refine ⟨Or.inr rfl, _, _, _, (Ai (B9.tmp _ _ rfl) (Ai (B9.tmp _ _ rfl) Au)), (Sj rfl), ?_⟩
  rfl
 ·refine Be (Ab (csr (rm 1 rfl (Al (csr (rm 1 rfl (Al (Bp (csr (rm 1 rfl (sv rfl (An Ajd rfl) (rm 1 rfl (Al (C4 ((List Aw) × Bool) (fun b3 => [(6, .s (.one (.sl b3.1.length (b3.1.flatMap A2)))), (7, .s (.one (.b b3.2)))]) (fun b3 => []) (fun b3 => Lr b3 = some r) (fun _ _ => Az rfl) (fun _ _ => Ak rfl) (fun _ _ => Nbl rfl) (fun b3 h => ?_) ?_))))))))))))))
  ·unfold Lr at h
   refine csr (rm 4 rfl (Al (Bo ?_)))
   obtain rfl := SJ h
   refine ⟨Or.inr rfl, _, _, _, (Ai (B9.tmp _ _ rfl) (Ai (B9.tmp _ _ rfl) Au)), (A4 rfl), ?_⟩
   rfl
  ·skip
   refine Bf ?_
   refine Apv 6 rfl (by (repeat' first | exact Ga.nil _ | apply Ga.cons | apply F5.one | apply F5.agg | exact Ci.nil | exact Ci.id _ rfl | exact Cg.nil _ | apply Cg.cons)) ?_
   obtain ⟨x4, hx4, ho4⟩ := Ag h
   refine Bs (G := Nat × ((List Aw) × Bool × Int)) (fun g => [(0, .s (.one (.sl a0.length (a0.flatMap Co)))), (6, .s (.one (.sl g.2.1.length (g.2.1.flatMap A2)))), (7, .s (.one (.b g.2.2.1))), (20, .s (.one (.sl v2.1.length (v2.1.flatMap eI)))), (21, .s (.one (Ii6 (v2.1.length : Int)))), (22, .s (.one (Ii6 g.2.2.2)))]) (fun g => []) (fun g => Cw (Gm a0 v2) g.1 g.2 = some x4) (fun g => g.1) (fuel, (([] : List Aw), true, 0)) hx4 ⟨rfl, rfl, rfl, rfl, rfl, rfl, trivial⟩ [] rfl (fun _ _ => Az rfl) (fun _ _ => Ak rfl) (fun _ _ => Nbl rfl) ?_
   clear hx4 h
   rintro ⟨n4, s4⟩ h
   obtain ⟨n4, y4, rfl, h, hk4⟩ := Dw h
   unfold Gm at h
   refine csr (sv rfl (Bi rfl rfl) (Al (Bp (ccI h rfl (fun h => ?_) (fun h => ?_)))))
   ·refine Be (Ab (Bp (Bf (Bp (Ax ?_)))))
    obtain ⟨u5, hu5, h⟩ := Ag h
    refine sv rfl (Bw (f := eI) Ajd (fun _ => rfl) rfl rfl rfl rfl hu5) ?_
    refine sv rfl (Ae ti3 rfl (.cp _) rfl) (rm 1 rfl (Al (csr (rm 1 rfl (sv rfl (A3 rfl) ?_)))))
    obtain ⟨u6, hu6, h⟩ := Ag h
    refine sv rfl (Bw (f := Co) Aor (fun _ => rfl) rfl rfl rfl rfl hu6) ?_
    refine sv rfl (A6 An2 rfl) (sv rfl (Bq (ys := [.b u6.Prog.RO, .sl u6.Prog.Ops.length (u6.Prog.Ops.flatMap Eu)]) Aj7 rfl (.cp _) rfl rfl) (sv rfl (A3 rfl) ?_))
    obtain ⟨v7, hv7, h⟩ := Ag h
    refine Bn rfl Atf (Ad rfl (Ad rfl Aj)) (A4 rfl) (Xm hv7) (sv rfl (Jx rfl) (sv rfl (Bm rfl rfl) (sv rfl (Bm rfl rfl) (Ce rfl Acz (rm 1 rfl (A9 Vm rfl rfl rfl rfl (Nbl rfl) (Cc [.box (EL.el v7.2)] rfl (Al (csr (rm 2 rfl (Al ?_)))))))))))
    refine Afh mixed (by kernel_rfl) ?_
    refine dv rfl (A3 rfl) (dv rfl (A3 rfl) (Mw 38 rfl (fun hc => ?_) (fun hc => ?_)))
    ·replace h := Bt hc h
     clear hc
     refine dvg rfl rfl rfl (Aa Pv rfl) (dvg rfl rfl rfl (Ap Amt rfl (.lp _ _ _ rfl) (Nbl rfl)) (dvg rfl rfl rfl (A3 rfl) (dvg rfl rfl rfl (A3 rfl) ?_)))
     obtain ⟨u8, hu8, h⟩ := Ag h
     refine dvg rfl rfl rfl (Bw (f := Co) Aor (fun _ => rfl) rfl rfl rfl rfl hu8) ?_
     refine dvg rfl rfl rfl (A6 Amp rfl) (dvg rfl rfl rfl (Bq (ys := [Ii6 u8.Regs.R0, Ii6 u8.Regs.R1, Ii6 u8.Regs.R2, Ii6 u8.Regs.R3, Ii6 u8.Regs.R4, Ii6 u8.Regs.R5, Ii6 u8.Regs.R6, Ii6 u8.Regs.R7]) Amt rfl (.cp _) rfl rfl) (dvg rfl rfl rfl (Adi Ark rfl rfl rfl rfl rfl) (dv rfl (Cs rfl rfl) (dv rfl (E8 rfl) (Py (Am (Ab (Ax (sv rfl (Bj rfl rfl) (rm 1 rfl (Al ?_)))))))))))
     obtain rfl := SJ h
     exact ⟨(n4, (v7.1, ((decide (v7.2.Regs.R0 = u8.Regs.R0)) && ((decide (v7.2.Regs.R1 = u8.Regs.R1)) && ((decide (v7.2.Regs.R2 = u8.Regs.R2)) && ((decide (v7.2.Regs.R3 = u8.Regs.R3)) && ((decide (v7.2.Regs.R4 = u8.Regs.R4)) && ((decide (v7.2.Regs.R5 = u8.Regs.R5)) && ((decide (v7.2.Regs.R6 = u8.Regs.R6)) && ((decide (v7.2.Regs.R7 = u8.Regs.R7)) && true)))))))), (wI (s4.2.2 + 1)))), _, hk4, ⟨rfl, rfl, rfl, rfl, rfl, rfl, trivial⟩, rfl, Nat.lt_succ_self _⟩
    ·replace h := Bu hc h
     clear hc
     refine Dz rfl rfl rfl rfl (Dz rfl rfl rfl rfl (Dz rfl rfl rfl rfl (Dz rfl rfl rfl rfl (Dz rfl rfl rfl rfl (Dz rfl rfl rfl rfl (Dz rfl rfl rfl rfl (Dz rfl rfl rfl rfl (dv rfl (Cj rfl rfl) (dv rfl (E8 rfl) (Py (Am (Ab (Ax (sv rfl (Bj rfl rfl) (rm 1 rfl (Al ?_))))))))))))))))
     obtain rfl := SJ h
     exact ⟨(n4, (v7.1, false, (wI (s4.2.2 + 1)))), _, hk4, ⟨rfl, rfl, rfl, rfl, rfl, rfl, trivial⟩, rfl, Nat.lt_succ_self _⟩
   ·refine Dp (Aq (Aq (Bd (Ab ?_))))
    obtain rfl := SJ h
    obtain rfl : _ = x4 := hk4
    exact ⟨(s4.1, s4.2.1), _, ho4, ⟨rfl, rfl, trivial⟩, rfl⟩
def I1 (a0 : List UInt8) : Option Bool :=
 if (decide (1 ≤ (a0.length : Int))) then (some (decide ((a0.length : Int) ≤ 16))) else (some false)
theorem Q9 {a0 : List UInt8} {r : Bool} (h : I1 a0 = some r) : Bz Tryz.prog 103 [.one (.sl a0.length (a0.flatMap eU8))] (· = .s (.one (.b r))) := by
 unfold I1 at h
 refine A8 Tryz.func103 rfl (nt := 11) rfl (Nbl rfl) ?_
 intro w0 S0
 refine csr (rm 1 rfl (Al (csr (rm 1 rfl (sv rfl (An Ku rfl) (sv rfl (G6 rfl rfl) (rm 1 rfl (Bc 6 rfl (fun hc => ?_) (fun hc => ?_)))))))))
 ·replace h := Bt hc h
  clear hc
  refine rm 1 rfl (son rfl rfl rfl (sv rfl (An Ku rfl) (son rfl rfl rfl (sv rfl (Eb rfl rfl) (rm 2 rfl (Al (Bo ?_)))))))
  obtain rfl := SJ h
  exact dnT rfl rfl rfl rfl
 ·replace h := Bu hc h
  clear hc
  refine rm 5 rfl (Al (Bo ?_))
  obtain rfl := SJ h
  exact dnT rfl rfl rfl rfl
def M9 (a0 : List UInt8) (a1 : List UInt8) (b1 : Unit) : Option Int :=
 if (decide ((a0.length : Int) < (a1.length : Int))) then (some (-1)) else (if (decide ((a1.length : Int) < (a0.length : Int))) then (some 1) else (some 0))
def M7 (a0 : List UInt8) (a1 : List UInt8) (s2 : Int) (b3 : Unit) : Option (LR (Int) (Unit) (Int)) :=
 (idx a0 s2).bind fun u4 => (idx a1 s2).bind fun u5 => if (decide ((u4.toBitVec.toNat : Int) < (u5.toBitVec.toNat : Int))) then (some (.ret (-1))) else ((idx a0 s2).bind fun u6 => (idx a1 s2).bind fun u7 => if (decide ((u7.toBitVec.toNat : Int) < (u6.toBitVec.toNat : Int))) then (some (.ret 1)) else (some (.cont (wI (s2 + 1)))))
def Lb (a0 : List UInt8) (a1 : List UInt8) (s2 : Int) : Option (LR (Int) (Unit) (Int)) :=
 if (decide (s2 < (a0.length : Int))) then (if (decide (s2 < (a1.length : Int))) then (M7 a0 a1 s2 ()) else (some (.brk ()))) else (some (.brk ()))
def Gp (a0 : List UInt8) (a1 : List UInt8) : Option Int :=
 (Fc (Lb a0 a1) fuel 0).bind fun x => match x with | .inl r => some r | .inr e8 => M9 a0 a1 e8
theorem I3 {a0 : List UInt8} {a1 : List UInt8} {r : Int} (h : Gp a0 a1 = some r) : Bz Tryz.prog 74 [.one (.sl a0.length (a0.flatMap eU8)), .one (.sl a1.length (a1.flatMap eU8))] (· = .s (.one (Ii6 r))) := by
 unfold Gp at h
 refine A8 Tryz.func74 rfl (nt := 46) rfl (Nbl rfl) ?_
 intro w0 S0
 refine csr (rm 1 rfl (Al (Bp (csr (rm 1 rfl (Al (C4 (Unit) (fun b1 => [(0, .s (.one (.sl a0.length (a0.flatMap eU8)))), (1, .s (.one (.sl a1.length (a1.flatMap eU8))))]) (fun b1 => []) (fun b1 => M9 a0 a1 b1 = some r) (fun _ _ => Az rfl) (fun _ _ => Ak rfl) (fun _ _ => Nbl rfl) (fun b1 h => ?_) ?_)))))))
 ·unfold M9 at h
  refine Bp (csr (rm 1 rfl (sv rfl (An Ku rfl) (rm 1 rfl (sv rfl (An Ku rfl) (sv rfl (Bi rfl rfl) (Al (ccI h rfl (fun h => ?_) (fun h => ?_)))))))))
  ·refine csr (rm 1 rfl (Al (Bo (Ah ?_))))
   obtain rfl := SJ h
   exact dnT rfl rfl rfl rfl
  ·refine Be (Ab (Bp (csr (rm 1 rfl (sv rfl (An Ku rfl) (rm 1 rfl (sv rfl (An Ku rfl) (sv rfl (B8 rfl rfl) (Al (ccI h rfl (fun h => ?_) (fun h => ?_)))))))))))
   ·refine csr (rm 1 rfl (Al (Bo (Ah ?_))))
    obtain rfl := SJ h
    exact dnT rfl rfl rfl rfl
   ·refine Be (Ab (csr (rm 1 rfl (Al (Bo ?_)))))
    obtain rfl := SJ h
    exact dnT rfl rfl rfl rfl
 ·skip
  refine Bf ?_
  obtain ⟨x2, hx2, ho2⟩ := Ag h
  refine Bs (G := Nat × (Int)) (fun g => [(0, .s (.one (.sl a0.length (a0.flatMap eU8)))), (1, .s (.one (.sl a1.length (a1.flatMap eU8)))), (5, .s (.one (Ii6 g.2)))]) (fun g => []) (fun g => Fc (Lb a0 a1) g.1 g.2 = some x2) (fun g => g.1) (fuel, 0) hx2 ⟨rfl, rfl, rfl, trivial⟩ [] rfl (fun _ _ => Az rfl) (fun _ _ => Ak rfl) (fun _ _ => Nbl rfl) ?_
  clear hx2 h
  rintro ⟨n2, s2⟩ h
  obtain ⟨n2, y2, rfl, h, hk2⟩ := Dc h
  unfold Lb at h
  refine Bp (Bp (I0 (Unit) (fun b3 => [(0, .s (.one (.sl a0.length (a0.flatMap eU8)))), (1, .s (.one (.sl a1.length (a1.flatMap eU8)))), (5, .s (.one (Ii6 s2)))]) (fun b3 => []) (fun b3 => M7 a0 a1 s2 b3 = some y2) (fun _ _ => Az rfl) (fun _ _ => Ak rfl) (fun _ _ => Nbl rfl) (fun b3 h => ?_) ?_))
  ·unfold M7 at h
   refine Bp (Bf (Bp (Bp ?_)))
   refine Qc mixed (by kernel_rfl) ?_
   refine dv rfl (A3 rfl) (dv rfl (A3 rfl) ?_)
   obtain ⟨u4, hu4, h⟩ := Ag h
   refine dv rfl (Bw (f := eU8) Ku (fun _ => rfl) rfl rfl rfl rfl hu4) ?_
   refine dv rfl (Ae ti5 rfl (.cp _) rfl) (dv rfl (A3 rfl) (dv rfl (A3 rfl) ?_))
   obtain ⟨u5, hu5, h⟩ := Ag h
   refine dv rfl (Bw (f := eU8) Ku (fun _ => rfl) rfl rfl rfl rfl hu5) ?_
   refine dv rfl (Ae ti5 rfl (.cp _) rfl) (dv rfl (Bi rfl rfl) (Py (Ab (ccI h rfl (fun h => ?_) (fun h => ?_)))))
   ·refine csr (rm 1 rfl (Al (Bo (Ah (Ao (Ah (Ah (Ao (Ah ?_)))))))))
    obtain rfl := SJ h
    obtain rfl : Sum.inl _ = x2 := hk2
    replace ho2 : some _ = some _ := ho2
    obtain rfl := Option.some.inj ho2
    exact dnT rfl rfl rfl rfl
   ·refine Be (Ab (Bp ?_))
    refine Qc mixed (by kernel_rfl) ?_
    refine dv rfl (A3 rfl) (dv rfl (A3 rfl) ?_)
    obtain ⟨u6, hu6, h⟩ := Ag h
    refine dv rfl (Bw (f := eU8) Ku (fun _ => rfl) rfl rfl rfl rfl hu6) ?_
    refine dv rfl (Ae ti5 rfl (.cp _) rfl) (dv rfl (A3 rfl) (dv rfl (A3 rfl) ?_))
    obtain ⟨u7, hu7, h⟩ := Ag h
    refine dv rfl (Bw (f := eU8) Ku (fun _ => rfl) rfl rfl rfl rfl hu7) ?_
    refine dv rfl (Ae ti5 rfl (.cp _) rfl) (dv rfl (B8 rfl rfl) (Py (Ab (ccI h rfl (fun h => ?_) (fun h => ?_)))))
    ·refine csr (rm 1 rfl (Al (Bo (Ao (Ah (Ah (Ao (Ah ?_))))))))
     obtain rfl := SJ h
     obtain rfl : Sum.inl _ = x2 := hk2
     replace ho2 : some _ = some _ := ho2
     obtain rfl := Option.some.inj ho2
     exact dnT rfl rfl rfl rfl
    ·refine Be (Am (Ab (Ax (rm 1 rfl (sv rfl (Bj rfl rfl) (rm 1 rfl (Al ?_)))))))
     obtain rfl := SJ h
     exact ⟨(n2, (wI (s2 + 1))), _, hk2, ⟨rfl, rfl, rfl, trivial⟩, rfl, Nat.lt_succ_self _⟩
  ·skip
   refine Ax (rm 2 rfl (sv rfl (An Ku rfl) (sv rfl (Bi rfl rfl) (rm 1 rfl (Bc 10 rfl (fun hc => ?_) (fun hc => ?_))))))
   ·replace h := Bt hc h
    clear hc
    refine rm 2 rfl (son rfl rfl rfl (sv rfl (An Ku rfl) (son rfl rfl rfl (sv rfl (Bi rfl rfl) (rm 1 rfl (Al (ccI h rfl (fun h => ?_) (fun h => ?_))))))))
    ·refine Be (Ab ?_)
     exact ⟨(), _, h, ⟨rfl, rfl, rfl, trivial⟩, rfl⟩
    ·refine Dp (Aq (Aq (Bd (Ab ?_))))
     obtain rfl := SJ h
     obtain rfl : _ = x2 := hk2
     exact ⟨(), _, ho2, ⟨rfl, rfl, trivial⟩, rfl⟩
   ·replace h := Bu hc h
    clear hc
    refine rm 5 rfl (Al (Cm rfl (fun hx => Bool.noConfusion hx) (fun _ => ?_)))
    refine Dp (Aq (Aq (Bd (Ab ?_))))
    obtain rfl := SJ h
    obtain rfl : _ = x2 := hk2
    exact ⟨(), _, ho2, ⟨rfl, rfl, trivial⟩, rfl⟩
def M0 (b1 : Unit) : Option Bool :=
 some true
def Gk (a0 : List Af) (s2 : Int) : Option (LR (Int) (Unit) (Bool)) :=
 if (decide (s2 < (a0.length : Int))) then ((idx a0 s2).bind fun u3 => (I1 u3.Key).bind fun v4 => if (!v4) then (some (.ret false)) else (if (decide (0 < s2)) then ((idx a0 (wI (s2 - 1))).bind fun u5 => (Gp u5.Key u3.Key).bind fun v6 => if (decide (0 ≤ v6)) then (some (.ret false)) else (if (decide (32 < (u3.Val.length : Int))) then (some (.ret false)) else (if u3.Del then (if (decide (0 < (u3.Val.length : Int))) then (some (.ret false)) else (some (.cont (wI (s2 + 1))))) else (some (.cont (wI (s2 + 1))))))) else (if (decide (32 < (u3.Val.length : Int))) then (some (.ret false)) else (if u3.Del then (if (decide (0 < (u3.Val.length : Int))) then (some (.ret false)) else (some (.cont (wI (s2 + 1))))) else (some (.cont (wI (s2 + 1)))))))) else (some (.brk ()))
def Gb (a0 : List Af) : Option Bool :=
 (Fc (Gk a0) fuel 0).bind fun x => match x with | .inl r => some r | .inr e7 => M0 e7
theorem Nl {a0 : List Af} {r : Bool} (h : Gb a0 = some r) : Bz Tryz.prog 69 [.one (.sl a0.length (a0.flatMap Ac))] (· = .s (.one (.b r))) := by
 unfold Gb at h
 refine A8 Tryz.func69 rfl (nt := 51) rfl (Nbl rfl) ?_
 intro w0 S0
 refine csr (rm 1 rfl (Al (Bp (csr (rm 1 rfl (Al (C4 (Unit) (fun b1 => []) (fun b1 => []) (fun b1 => M0 b1 = some r) (fun _ _ => Az rfl) (fun _ _ => Ak rfl) (fun _ _ => Nbl rfl) (fun b1 h => ?_) ?_)))))))
 ·unfold M0 at h
  refine csr (rm 1 rfl (Al (Bo ?_)))
  obtain rfl := SJ h
  exact dnT rfl rfl rfl rfl
 ·skip
  refine Bf ?_
  obtain ⟨x2, hx2, ho2⟩ := Ag h
  refine Bs (G := Nat × (Int)) (fun g => [(0, .s (.one (.sl a0.length (a0.flatMap Ac)))), (3, .s (.one (Ii6 g.2)))]) (fun g => []) (fun g => Fc (Gk a0) g.1 g.2 = some x2) (fun g => g.1) (fuel, 0) hx2 ⟨rfl, rfl, trivial⟩ [] rfl (fun _ _ => Az rfl) (fun _ _ => Ak rfl) (fun _ _ => Nbl rfl) ?_
  clear hx2 h
  rintro ⟨n2, s2⟩ h
  obtain ⟨n2, y2, rfl, h, hk2⟩ := Dc h
  unfold Gk at h
  refine Bp (csr (rm 2 rfl (sv rfl (An Qr rfl) (sv rfl (Bi rfl rfl) (Al (ccI h rfl (fun h => ?_) (fun h => ?_)))))))
  ·refine Be (Ab (Bp (Bf (csr (rm 1 rfl (sv rfl (A3 rfl) ?_))))))
   obtain ⟨u3, hu3, h⟩ := Ag h
   refine sv rfl (Bw (f := Ac) Qr (fun _ => rfl) rfl rfl rfl rfl hu3) ?_
   refine sv rfl (Bq (ys := [.sl u3.Key.length (u3.Key.flatMap eU8), .sl u3.Val.length (u3.Val.flatMap eU8), .b u3.Del]) Aas rfl (.cp _) rfl rfl) (Ce rfl Ag9 (A9 Amh rfl rfl rfl rfl (Nbl rfl) (Cc [.box (EL.el u3)] rfl (Al (Bp ?_)))))
   refine Qc mixed (by kernel_rfl) ?_
   refine dv rfl (Aa J3 rfl) (dv rfl (Ae E6 rfl (.lp _ _ _ rfl) rfl) ?_)
   obtain ⟨v4, hv4, h⟩ := Ag h
   refine dd rfl (C1 Anc (Ad rfl Aj) rfl (Q9 hv4)) (dv rfl (B1 rfl) (dv rfl (A3 rfl) (Mw 19 rfl (fun hc => ?_) (fun hc => ?_))))
   ·replace h := Bt hc h
    clear hc
    refine Dz rfl rfl rfl rfl (Dz rfl rfl rfl rfl (Dz rfl rfl rfl rfl (Jv rfl rfl rfl (Jv rfl rfl rfl (Jv rfl rfl rfl (Jv rfl rfl rfl (Jv rfl rfl rfl (Jv rfl rfl rfl (Jv rfl rfl rfl (Jv rfl rfl rfl (Jv rfl rfl rfl (Jv rfl rfl rfl (Dz rfl rfl rfl rfl (dv rfl (Cs rfl rfl) (dv rfl (A3 rfl) (Dz rfl rfl rfl rfl (Dz rfl rfl rfl rfl (Dz rfl rfl rfl rfl (Dz rfl rfl rfl rfl (dv rfl (Cs rfl rfl) (dv rfl (A3 rfl) (Dz rfl rfl rfl rfl (Dz rfl rfl rfl rfl (Dz rfl rfl rfl rfl (Jv rfl rfl rfl (Jv rfl rfl rfl (Jv rfl rfl rfl (Jv rfl rfl rfl (Dz rfl rfl rfl rfl (dv rfl (Cs rfl rfl) (Py (Ab (Cm rfl (fun _ => ?_) (fun hx => Bool.noConfusion hx))))))))))))))))))))))))))))))))))
    refine csr (rm 1 rfl (Al (Bo (Ao (Ah (Ah (Ao (Ah ?_))))))))
    obtain rfl := SJ h
    obtain rfl : Sum.inl _ = x2 := hk2
    replace ho2 : some _ = some _ := ho2
    obtain rfl := Option.some.inj ho2
    exact dnT rfl rfl rfl rfl
   ·replace h := Bu hc h
    clear hc
    refine dvg rfl rfl rfl (A3 rfl) (dvg rfl rfl rfl (B8 rfl rfl) (dvg rfl rfl rfl (A3 rfl) (Mw 22 rfl (fun hc => ?_) (fun hc => ?_))))
    ·replace h := Bt hc h
     clear hc
     refine dvg rfl rfl rfl (A3 rfl) (dvg rfl rfl rfl (A3 rfl) (dvg rfl rfl rfl (Qi rfl rfl) ?_))
     obtain ⟨u5, hu5, h⟩ := Ag h
     refine dvg rfl rfl rfl (Bw (f := Ac) Qr (fun _ => rfl) rfl rfl rfl rfl hu5) ?_
     refine dvg rfl rfl rfl (A6 J3 rfl) (dvg rfl rfl rfl (Ae E6 rfl (.cp _) rfl) (dvg rfl rfl rfl (Aa J3 rfl) (dvg rfl rfl rfl (Ae E6 rfl (.lp _ _ _ rfl) rfl) ?_)))
     obtain ⟨v6, hv6, h⟩ := Ag h
     refine ddg rfl rfl rfl (C1 Akj (Ad rfl (Ad rfl Aj)) rfl (I3 hv6)) (dvg rfl rfl rfl (G6 rfl rfl) (dvg rfl rfl rfl (Cs rfl rfl) (dv rfl (Cj rfl rfl) (dv rfl (A3 rfl) (Mw 35 rfl (fun hc => ?_) (fun hc => ?_))))))
     ·replace h := Bt hc h
      clear hc
      refine Dz rfl rfl rfl rfl (Dz rfl rfl rfl rfl (Dz rfl rfl rfl rfl (Dz rfl rfl rfl rfl (dv rfl (Cs rfl rfl) (dv rfl (A3 rfl) (Dz rfl rfl rfl rfl (Dz rfl rfl rfl rfl (Dz rfl rfl rfl rfl (Jv rfl rfl rfl (Jv rfl rfl rfl (Jv rfl rfl rfl (Jv rfl rfl rfl (Dz rfl rfl rfl rfl (dv rfl (Cs rfl rfl) (Py (Ab (Cm rfl (fun _ => ?_) (fun hx => Bool.noConfusion hx))))))))))))))))))
      refine csr (rm 1 rfl (Al (Bo (Ao (Ah (Ah (Ao (Ah ?_))))))))
      obtain rfl := SJ h
      obtain rfl : Sum.inl _ = x2 := hk2
      replace ho2 : some _ = some _ := ho2
      obtain rfl := Option.some.inj ho2
      exact dnT rfl rfl rfl rfl
     ·replace h := Bu hc h
      clear hc
      refine dvg rfl rfl rfl (Aa Q3 rfl) (dvg rfl rfl rfl (Ae E6 rfl (.lp _ _ _ rfl) rfl) (dvg rfl rfl rfl (An Ku rfl) (dvg rfl rfl rfl (B8 rfl rfl) (dv rfl (Cj rfl rfl) (dv rfl (A3 rfl) (Mw 41 rfl (fun hc => ?_) (fun hc => ?_)))))))
      ·replace h := Bt hc h
       clear hc
       refine Dz rfl rfl rfl rfl (Dz rfl rfl rfl rfl (Dz rfl rfl rfl rfl (Jv rfl rfl rfl (Jv rfl rfl rfl (Jv rfl rfl rfl (Jv rfl rfl rfl (Dz rfl rfl rfl rfl (dv rfl (Cs rfl rfl) (Py (Ab (Cm rfl (fun _ => ?_) (fun hx => Bool.noConfusion hx))))))))))))
       refine csr (rm 1 rfl (Al (Bo (Ao (Ah (Ah (Ao (Ah ?_))))))))
       obtain rfl := SJ h
       obtain rfl : Sum.inl _ = x2 := hk2
       replace ho2 : some _ = some _ := ho2
       obtain rfl := Option.some.inj ho2
       exact dnT rfl rfl rfl rfl
      ·replace h := Bu hc h
       clear hc
       refine dvg rfl rfl rfl (Aa Xq rfl) (dvg rfl rfl rfl (Ae ti4 rfl (.lp _ _ _ rfl) rfl) (dvg rfl rfl rfl (A3 rfl) (Mw 44 rfl (fun hc => ?_) (fun hc => ?_))))
       ·replace h := Bt hc h
        clear hc
        refine dvg rfl rfl rfl (Aa Q3 rfl) (dvg rfl rfl rfl (Ae E6 rfl (.lp _ _ _ rfl) rfl) (dvg rfl rfl rfl (An Ku rfl) (dvg rfl rfl rfl (B8 rfl rfl) (dvg rfl rfl rfl (Cs rfl rfl) (dv rfl (Cj rfl rfl) (Py (Ab (ccI h rfl (fun h => ?_) (fun h => ?_)))))))))
        ·refine csr (rm 1 rfl (Al (Bo (Ao (Ah (Ah (Ao (Ah ?_))))))))
         obtain rfl := SJ h
         obtain rfl : Sum.inl _ = x2 := hk2
         replace ho2 : some _ = some _ := ho2
         obtain rfl := Option.some.inj ho2
         exact dnT rfl rfl rfl rfl
        ·refine Be (Am (Ab (Ax (rm 1 rfl (sv rfl (Bj rfl rfl) (rm 1 rfl (Al ?_)))))))
         obtain rfl := SJ h
         exact ⟨(n2, (wI (s2 + 1))), _, hk2, ⟨rfl, rfl, trivial⟩, rfl, Nat.lt_succ_self _⟩
       ·replace h := Bu hc h
        clear hc
        refine Dz rfl rfl rfl rfl (Dz rfl rfl rfl rfl (Dz rfl rfl rfl rfl (Dz rfl rfl rfl rfl (dvg rfl rfl rfl (Cj rfl rfl) (dv rfl (Cj rfl rfl) (Py (Ab (Cm rfl (fun hx => Bool.noConfusion hx) (fun _ => ?_)))))))))
        refine Be (Am (Ab (Ax (rm 1 rfl (sv rfl (Bj rfl rfl) (rm 1 rfl (Al ?_)))))))
        obtain rfl := SJ h
        exact ⟨(n2, (wI (s2 + 1))), _, hk2, ⟨rfl, rfl, trivial⟩, rfl, Nat.lt_succ_self _⟩
    ·replace h := Bu hc h
     clear hc
     refine Dz rfl rfl rfl rfl (Dz rfl rfl rfl rfl (Dz rfl rfl rfl rfl (Dz rfl rfl rfl rfl (Dz rfl rfl rfl rfl (Dz rfl rfl rfl rfl (Dz rfl rfl rfl rfl (Dz rfl rfl rfl rfl (Dz rfl rfl rfl rfl (Dz rfl rfl rfl rfl (dvg rfl rfl rfl (Cj rfl rfl) (dv rfl (Cj rfl rfl) (dv rfl (A3 rfl) (dvg rfl rfl rfl (Aa Q3 rfl) (dvg rfl rfl rfl (Ae E6 rfl (.lp _ _ _ rfl) rfl) (dvg rfl rfl rfl (An Ku rfl) (dvg rfl rfl rfl (B8 rfl rfl) (dv rfl (Cj rfl rfl) (dv rfl (A3 rfl) (Mw 41 rfl (fun hc => ?_) (fun hc => ?_))))))))))))))))))))
     ·replace h := Bt hc h
      clear hc
      refine Dz rfl rfl rfl rfl (Dz rfl rfl rfl rfl (Dz rfl rfl rfl rfl (Jv rfl rfl rfl (Jv rfl rfl rfl (Jv rfl rfl rfl (Jv rfl rfl rfl (Dz rfl rfl rfl rfl (dv rfl (Cs rfl rfl) (Py (Ab (Cm rfl (fun _ => ?_) (fun hx => Bool.noConfusion hx))))))))))))
      refine csr (rm 1 rfl (Al (Bo (Ao (Ah (Ah (Ao (Ah ?_))))))))
      obtain rfl := SJ h
      obtain rfl : Sum.inl _ = x2 := hk2
      replace ho2 : some _ = some _ := ho2
      obtain rfl := Option.some.inj ho2
      exact dnT rfl rfl rfl rfl
     ·replace h := Bu hc h
      clear hc
      refine dvg rfl rfl rfl (Aa Xq rfl) (dvg rfl rfl rfl (Ae ti4 rfl (.lp _ _ _ rfl) rfl) (dvg rfl rfl rfl (A3 rfl) (Mw 44 rfl (fun hc => ?_) (fun hc => ?_))))
      ·replace h := Bt hc h
       clear hc
       refine dvg rfl rfl rfl (Aa Q3 rfl) (dvg rfl rfl rfl (Ae E6 rfl (.lp _ _ _ rfl) rfl) (dvg rfl rfl rfl (An Ku rfl) (dvg rfl rfl rfl (B8 rfl rfl) (dvg rfl rfl rfl (Cs rfl rfl) (dv rfl (Cj rfl rfl) (Py (Ab (ccI h rfl (fun h => ?_) (fun h => ?_)))))))))
       ·refine csr (rm 1 rfl (Al (Bo (Ao (Ah (Ah (Ao (Ah ?_))))))))
        obtain rfl := SJ h
        obtain rfl : Sum.inl _ = x2 := hk2
        replace ho2 : some _ = some _ := ho2
        obtain rfl := Option.some.inj ho2
        exact dnT rfl rfl rfl rfl
       ·refine Be (Am (Ab (Ax (rm 1 rfl (sv rfl (Bj rfl rfl) (rm 1 rfl (Al ?_)))))))
        obtain rfl := SJ h
        exact ⟨(n2, (wI (s2 + 1))), _, hk2, ⟨rfl, rfl, trivial⟩, rfl, Nat.lt_succ_self _⟩
      ·replace h := Bu hc h
       clear hc
       refine Dz rfl rfl rfl rfl (Dz rfl rfl rfl rfl (Dz rfl rfl rfl rfl (Dz rfl rfl rfl rfl (dvg rfl rfl rfl (Cj rfl rfl) (dv rfl (Cj rfl rfl) (Py (Ab (Cm rfl (fun hx => Bool.noConfusion hx) (fun _ => ?_)))))))))
       refine Be (Am (Ab (Ax (rm 1 rfl (sv rfl (Bj rfl rfl) (rm 1 rfl (Al ?_)))))))
       obtain rfl := SJ h
       exact ⟨(n2, (wI (s2 + 1))), _, hk2, ⟨rfl, rfl, trivial⟩, rfl, Nat.lt_succ_self _⟩
  ·refine Dp (Aq (Aq (Bd (Ab ?_))))
   obtain rfl := SJ h
   obtain rfl : _ = x2 := hk2
   exact ⟨(), _, ho2, trivial, rfl⟩
def Gj (a0 : Ar) : Option Bool :=
 if (decide ((a0.Lo.length : Int) ≤ 17)) then (if (decide ((a0.Hi.length : Int) ≤ 17)) then (if (!a0.Open) then (some true) else (some (decide ((a0.Hi.length : Int) = 0)))) else (some false)) else (some false)
theorem N0 {a0 : Ar} {r : Bool} (h : Gj a0 = some r) : Bz Tryz.prog 70 [.agg (EL.el a0)] (· = .s (.one (.b r))) := by
 unfold Gj at h
 refine A8 Tryz.func70 rfl (nt := 24) rfl (Nbl rfl) ?_
 intro w0 S0
 refine csr (Kp rfl rfl (rm 1 rfl (Al (csr (fl Pm E6 rfl rfl rfl rfl rfl rfl (sv rfl (An Ku rfl) (sv rfl (Eb rfl rfl) (rm 1 rfl (Bc 7 rfl (fun hc => ?_) (fun hc => ?_))))))))))
 ·replace h := Bt hc h
  clear hc
  refine son rfl rfl rfl (sv rfl (Aa Ng rfl) (son rfl rfl rfl (sv rfl (Ae E6 rfl (.lp _ _ _ rfl) rfl) (son rfl rfl rfl (sv rfl (An Ku rfl) (son rfl rfl rfl (sv rfl (Eb rfl rfl) (rm 2 rfl (Bc 13 rfl (fun hc => ?_) (fun hc => ?_))))))))))
  ·replace h := Bt hc h
   clear hc
   refine son rfl rfl rfl (sv rfl (Aa U8 rfl) (son rfl rfl rfl (sv rfl (Ae ti4 rfl (.lp _ _ _ rfl) rfl) (son rfl rfl rfl (sv rfl (B1 rfl) (rm 1 rfl (Bc 17 rfl (fun hc => ?_) (fun hc => ?_))))))))
   ·replace h := Bt hc h
    clear hc
    refine rm 7 rfl (Al (Bo ?_))
    obtain rfl := SJ h
    exact dnT rfl rfl rfl rfl
   ·replace h := Bu hc h
    clear hc
    refine son rfl rfl rfl (sv rfl (Aa Ng rfl) (son rfl rfl rfl (sv rfl (Ae E6 rfl (.lp _ _ _ rfl) rfl) (son rfl rfl rfl (sv rfl (An Ku rfl) (son rfl rfl rfl (sv rfl (Bg rfl rfl) (rm 3 rfl (Al (Bo ?_))))))))))
    obtain rfl := SJ h
    exact dnT rfl rfl rfl rfl
  ·replace h := Bu hc h
   clear hc
   refine rm 4 rfl (Bh rfl rfl rfl (Bh rfl rfl rfl (Bh rfl rfl rfl (Bh rfl rfl rfl (rm 3 rfl (Al (Bo ?_)))))))
   obtain rfl := SJ h
   exact dnT rfl rfl rfl rfl
 ·replace h := Bu hc h
  clear hc
  refine rm 10 rfl (Bh rfl rfl rfl (Bh rfl rfl rfl (Bh rfl rfl rfl (Bh rfl rfl rfl (rm 3 rfl (Al (Bo ?_)))))))
  obtain rfl := SJ h
  exact dnT rfl rfl rfl rfl
def Oc (a0 : List Ca) (b1 : Unit) : Option Bool :=
 some (decide ((a0.length : Int) ≤ 64))
def J4 (s2 : Int) (b6 : Unit) : Option (LR (Int) (Unit) (Bool)) :=
 some (.cont (wI (s2 + 1)))
def Ie (a0 : List Ca) (s2 : Int) (u3 : Ca) (s7 : Int) : Option (LR (Int) (Unit) (Bool)) :=
 if (decide (s7 < s2)) then ((idx a0 s7).bind fun u8 => if (decide (u8.Token = u3.Token)) then (some (.ret false)) else ((idx a0 s7).bind fun u9 => if (decide (u9.Ts = u3.Ts)) then (some (.ret false)) else (some (.cont (wI (s7 + 1)))))) else (some (.brk ()))
def Jz (a0 : List Ca) (s2 : Int) (u3 : Ca) (b5 : Unit) : Option (LR (Int) (Unit) (Bool)) :=
 (Fc (Ie a0 s2 u3) fuel 0).bind fun x => match x with | .inl r => some (.ret r) | .inr e10 => J4 s2 e10
def G7 (u3 : Ca) (s11 : Int) : Option (LR (Int) (Unit) (Bool)) :=
 if (decide (s11 < (u3.Reads.length : Int))) then ((idx u3.Reads s11).bind fun u12 => (Gj u12).bind fun v13 => if (!v13) then (some (.ret false)) else (some (.cont (wI (s11 + 1))))) else (some (.brk ()))
def Mo (a0 : List Ca) (s2 : Int) (u3 : Ca) (b4 : Unit) : Option (LR (Int) (Unit) (Bool)) :=
 (Fc (G7 u3) fuel 0).bind fun x => match x with | .inl r => some (.ret r) | .inr e14 => Jz a0 s2 u3 e14
def Ir (a0 : List Ca) (s2 : Int) : Option (LR (Int) (Unit) (Bool)) :=
 if (decide (s2 < (a0.length : Int))) then ((idx a0 s2).bind fun u3 => if (decide (u3.Snap < 0)) then (some (.ret false)) else (if (decide (u3.Ts ≤ u3.Snap)) then (some (.ret false)) else ((Gb u3.Writes).bind fun v15 => if (!v15) then (some (.ret false)) else (Mo a0 s2 u3 ())))) else (some (.brk ()))
end Go.Proofs.YtphgpfgibpgfiaaGreat.Abs
