/-
 t
-/
import Derived.Test.YtkblaobhhoebaaaGreatOT14a
set_option linter.unusedVariables false
set_option linter.unusedSimpArgs false
namespace Go.Proofs.YtkblaobhhoebaaaGreat.Abs
open Go.RowKit Go.Proofs
set_option maxRecDepth 100000
def Jl (a0:Int):Option (List A2) :=
 if (decide (a0<0)) then none else (Jf a0 ())
theorem Uw {a0:Int} {r:(List A2)} (h:Jl a0=some r):De Tryz.prog 198 [] [.one (Znl),.one (Ii6 a0)] (fun y m'=>y=.s (.one (.ls 0 r.length))∧m'=[.arr 139 8 0 (r.flatMap Be)]):=by
 unfold Jl at h
 refine Da Tryz.func198 R (nt:=27) R (Nbl R) ?_
 intro w0 S0 X0 H0
 refine csr (rm 1 R (Ai (Br (csr (rm 1 R (sv R (Bw R R) (Ai (Dt (Unit) (fun b1=>[(0,.s (.one (Znl))),(1,.s (.one (Ii6 a0)))]) (fun b1=>[]) (fun b1=>Jf a0 b1=some r) (fun _ _=>A5 R) (fun _ _=>Ap R) (fun _ _=>Nbl R) (fun b1 h=>?_) ?_))))))))
 ·unfold Jf at h
  refine Br (csr (rm 2 R (sv R (Gj P7 R) (rm 1 R (sv R (Fp P7 R) (sv R (Nh R R) (sv R (Nh R R) (rm 1 R (Ai (csr (rm 1 R (sv R (C7 R R) (Ai (ccI h R (fun h=>?_) (fun h=>?_)))))))))))))))
  ·refine As (rm 2 R (sv R (Gj P7 R) (sv R (Mj P7 R R) (sv R (Bc R) ?_))))
   obtain ⟨hm2,h⟩:=Cy h
   refine Ahj (f:=Be) (z:=W8) R Tryz.underlying29 Afs Tryz.underlying3 (fun _=>R) R R R hm2 (by decide) ?_
   refine rm 1 R (sv R (Fp P7 R) ?_)
   obtain ⟨hs3,h⟩:=Cy h
   refine Aau (f:=Be) R P7 (fun _=>R) R R R R R hs3 ?_
   refine rm 1 R (Ai (csr (rm 2 R (Ai (Bv ?_)))))
   obtain rfl:=SJ h
   exact ⟨Or.inr R,_,[1],[.one (.ls 0 ((List.replicate (wI (a0-(wI (0-0)))).toNat W8).take (0:Int).toNat).length)],[.arr 139 8 0 (((List.replicate (wI (a0-(wI (0-0)))).toNat W8).take (0:Int).toNat).flatMap Be)],(Ad (rt R) Ah),R,R,⟨by decide,R⟩,R,R,⟨R,R⟩⟩
  ·refine Bj (Ab (csr (rm 2 R (Ai ?_))))
   refine D1 139 8 4 (by decide) R ?_
   refine Bv ?_
   obtain rfl:=SJ h
   exact ⟨Or.inr R,_,[0],[.one (.ls 0 ([]:List A2).length)],[.arr 139 8 0 (([]:List A2).flatMap Be)],(Ad (rt R) Ah),R,R,⟨by decide,R⟩,R,R,⟨R,R⟩⟩
 ·skip
  refine ccI h R (fun h=>?_) (fun h=>?_)
  ·cases h
  ·refine Bj (Ab ?_)
   exact ⟨(),_,h,⟨R,R,trivial⟩,R⟩
def Lw (b3:(List A2)):Option (List A2) :=
 some b3
def Et (a0:List (List A2)) (s4:Int × (List A2)):Option (LB (Int × (List A2)) ((List A2))) :=
 if (decide (s4.1<(a0.length:Int))) then ((idx a0 s4.1).bind fun u5=>if (s4.2.length+u5.length)*64≤140737488355328 then (some (.cont ((wI (s4.1+1)),(s4.2++u5)))) else none) else (some (.brk s4.2))
def Iq (a0:List (List A2)) (b1:Int):Option (List A2) :=
 (Jl b1).bind fun v2=>(C5 (Et a0) fuel (0,v2)).bind fun e7=>Lw e7
def Ek (a0:List (List A2)) (s8:Int × Int):Option (LB (Int × Int) (Int)) :=
 if (decide (s8.2<(a0.length:Int))) then ((idx a0 s8.2).bind fun u9=>if (decide ((wI (s8.1+(u9.length:Int)))<0)) then none else (some (.cont ((wI (s8.1+(u9.length:Int))),(wI (s8.2+1)))))) else (some (.brk s8.1))
def Ih (a0:List (List A2)):Option (List A2) :=
 (C5 (Ek a0) fuel (0,0)).bind fun e10=>Iq a0 e10
theorem Ud {a0:List (List A2)} {r:(List A2)} (h:Ih a0=some r):Bt Tryz.prog 133 [.one (.sl a0.length (a0.flatMap (eL Be)))] (·=.s (.one (.sl r.length (r.flatMap Be)))):=by
 unfold Ih at h
 refine A4 Tryz.func133 R (nt:=36) R (Nbl R) ?_
 intro w0 S0
 refine csr (rm 1 R (Ai (csr (rm 1 R (Ai (Br (csr (rm 1 R (sv R (Ax Aoa R) (rm 1 R (Ai (Dt (Int) (fun b1=>[(0,.s (.one (.sl a0.length (a0.flatMap (eL Be))))),(3,.s (.one (Ii6 b1)))]) (fun b1=>[]) (fun b1=>Iq a0 b1=some r) (fun _ _=>A5 R) (fun _ _=>Ap R) (fun _ _=>Nbl R) (fun b1 h=>?_) ?_))))))))))))
 ·unfold Iq at h
  refine csr (sv R (Bc R) ?_)
  obtain ⟨v2,hv2,h⟩:=Ae h
  refine Ho (x':=.s (.one (.ls 0 v2.length))) (M':=[.arr 139 8 0 (v2.flatMap Be)]) [] R Axf (.func _) (Aa R (Aa R Af)) (Uw hv2) R R (by decide) R R R ?_
  refine rm 1 R (Ai (Br (csr (rm 1 R (sv R (Ax Aoa R) (rm 1 R (Ai (Dt ((List A2)) (fun b3=>[(6,.s (.one (.ls 0 b3.length)))]) (fun b3=>[.arr 139 8 0 (b3.flatMap Be)]) (fun b3=>Lw b3=some r) (fun _ _=>A5 R) (fun _ _=>Ap R) (fun _ _=>Nbl R) (fun b3 h=>?_) ?_))))))))
  ·unfold Lw at h
   refine csr (rm 2 R (Ai (Bv ?_)))
   obtain rfl:=SJ h
   refine ⟨Or.inr R,_,_,_,(Ad (rt R) Ah),(by (repeat' first | exact J7.nil _ | apply J7.cons | apply Jm.one | apply Jm.agg | exact Dm.nil | exact Dm.ls _ _ _ _ _ _ R (A1 (f:=Be) (fun _=>R) _).symm | exact Dm.id _ R | exact Cw.nil _ | apply Cw.cons)),?_⟩
   rfl
  ·skip
   refine Bu ?_
   obtain ⟨x4,hx4,ho4⟩:=Ae h
   refine B6 (G:=Nat × (Int × (List A2))) (fun g=>[(6,.s (.one (.ls 0 g.2.2.length))),(25,.s (.one (.sl a0.length (a0.flatMap (eL Be))))),(26,.s (.one (Ii6 (a0.length:Int)))),(27,.s (.one (Ii6 g.2.1)))]) (fun g=>[.arr 139 8 0 (g.2.2.flatMap Be)]) (fun g=>C5 (Et a0) g.1 g.2=some x4) (fun g=>g.1) (fuel,(0,v2)) hx4 ⟨R,R,R,R,trivial⟩ [] R (fun _ _=>A5 R) (fun _ _=>Ap R) (fun _ _=>Nbl R) ?_
   clear hx4 h
   rintro ⟨n4,s4⟩ h
   obtain ⟨n4,y4,rfl,h,hk4⟩:=C8 h
   unfold Et at h
   refine csr (sv R (Bw R R) (Ai (Br (ccI h R (fun h=>?_) (fun h=>?_)))))
   ·refine Bj (Ab (Br (Bu (Br (As ?_)))))
    obtain ⟨u5,hu5,h⟩:=Ae h
    refine sv R (Cb (f:=(eL Be)) Aoa (fun _=>R) R R R R hu5) ?_
    refine sv R (Ak Aaa R (.cp _) R) (rm 1 R (Ai (As (rm 1 R (sv R (Bc R) ?_)))))
    obtain ⟨hb6,h⟩:=Cy h
    refine Wb (f:=Be) (xs:=s4.2) (us:=u5) R Tryz.underlying29 Afs Awu (fun _=>R) R R (.one _ _ _ _ (.id _ R)) R R R (.sl _ _ _ (A1 (f:=Be) (fun _=>R) _)) R R hb6 (by decide) ?_
    refine rm 1 R (Ks (Ar (Ab (As (sv R (Bs R R) (rm 1 R (Ai ?_)))))))
    obtain rfl:=SJ h
    exact ⟨(n4,((wI (s4.1+1)),(s4.2++u5))),_,hk4,⟨R,R,R,R,trivial⟩,R,Nat.lt_succ_self _⟩
   ·refine Di (Au (Au (Bn (Ab ?_))))
    obtain rfl:=SJ h
    obtain rfl:_=x4:=hk4
    exact ⟨s4.2,_,ho4,⟨R,trivial⟩,R⟩
 ·skip
  refine Bu ?_
  obtain ⟨x8,hx8,ho8⟩:=Ae h
  refine B6 (G:=Nat × (Int × Int)) (fun g=>[(0,.s (.one (.sl a0.length (a0.flatMap (eL Be))))),(3,.s (.one (Ii6 g.2.1))),(9,.s (.one (.sl a0.length (a0.flatMap (eL Be))))),(10,.s (.one (Ii6 (a0.length:Int)))),(11,.s (.one (Ii6 g.2.2)))]) (fun g=>[]) (fun g=>C5 (Ek a0) g.1 g.2=some x8) (fun g=>g.1) (fuel,(0,0)) hx8 ⟨R,R,R,R,R,trivial⟩ [] R (fun _ _=>A5 R) (fun _ _=>Ap R) (fun _ _=>Nbl R) ?_
  clear hx8 h
  rintro ⟨n8,s8⟩ h
  obtain ⟨n8,y8,rfl,h,hk8⟩:=C8 h
  unfold Ek at h
  refine csr (sv R (Bw R R) (Ai (Br (ccI h R (fun h=>?_) (fun h=>?_)))))
  ·refine Bj (Ab (Br (Bu (Br (As ?_)))))
   obtain ⟨u9,hu9,h⟩:=Ae h
   refine sv R (Cb (f:=(eL Be)) Aoa (fun _=>R) R R R R hu9) ?_
   refine sv R (Ak Aaa R (.cp _) R) (rm 1 R (Ai (csr (rm 2 R (sv R (Ax P7 R) (sv R (Bs R R) (rm 1 R (Ai (csr (rm 1 R (sv R (Bw R R) (Ai (ccI h R (fun h=>?_) (fun h=>?_))))))))))))))
   ·cases h
   ·refine Bj (Ar (Ab (As (sv R (Bs R R) (rm 1 R (Ai ?_))))))
    obtain rfl:=SJ h
    exact ⟨(n8,((wI (s8.1+(u9.length:Int))),(wI (s8.2+1)))),_,hk8,⟨R,R,R,R,R,trivial⟩,R,Nat.lt_succ_self _⟩
  ·refine Di (Au (Au (Bn (Ab ?_))))
   obtain rfl:=SJ h
   obtain rfl:_=x8:=hk8
   exact ⟨s8.1,_,ho8,⟨R,R,trivial⟩,R⟩
def H2 (a0:Bh) (a1:Int) (a2:Int) (a3:Bool):Option (Bh × Int) :=
 (J9 a0).bind fun v1=>if (!v1) then (some (Ip,1)) else ((Ju (A2.mk a1 a2 0 1 false false a3 ([]:List (List UInt8)))).bind fun v2=>if (!v2) then (some (Ip,1)) else ((Gz a0 a1).bind fun v3=>if (decide (0≤v3)) then (some (Ip,7)) else (if (decide (64≤(a0.Txs.length:Int))) then (some (Ip,8)) else ((Ih ([a0.Txs,([(A2.mk a1 a2 0 1 false false a3 ([]:List (List UInt8)))]:List A2)]:List (List A2))).bind fun v4=>some ((Bh.mk v4 a0.Reads),0)))))
theorem Zt {a0:Bh} {a1:Int} {a2:Int} {a3:Bool} {r:Bh × Int} (h:H2 a0 a1 a2 a3=some r):Bt Tryz.prog 59 [.agg (EL.el a0),.one (Ii6 a1),.one (Ii6 a2),.one (.b a3)] (·=.tup [.agg (EL.el r.1),.one (Ii6 r.2)]):=by
 unfold H2 at h
 refine A4 Tryz.func59 R (nt:=46) R (Nbl R) ?_
 intro w0 S0
 refine csr (F0 R R (Bq R Wq (rm 1 R (Ai (csr (rm 3 R (sv R (A6 Sj Asj (Av R (Av R (Av R (Av R Az)))) (.cons _ _ _ _ _ _ _ R R (Nbl R) (.cons _ _ _ _ _ _ _ R R (Nbl R) (.cons _ _ _ _ _ _ _ R R (Nbl R) (.cons _ _ _ _ _ _ _ R R (Nbl R) (.nil _)))))) (Bq R Sj (sst Rx R R R R R (Ai (Br (Bu (csr (sv R (Bf P9 R (.lp _ _ _ R) (Nbl R)) ?_))))))))))))))
 obtain ⟨v1,hv1,h⟩:=Ae h
 refine Bb R Au7 (Aa R Af) (Ao R) (O4 hv1) (sv R (B2 R) (rm 1 R (ssI 19 h R (fun h=>?_) (fun h=>?_))))
 ·refine rm 5 R (Ai (Cp R (fun _=>?_) (fun hx=>Bool.noConfusion hx)))
  refine csr (sv R (A6 Wq Ab8 Az (.nil _)) (sst Ws R R R R R (rm 1 R (Ai (Bv (Ay (Ag ?_)))))))
  obtain rfl:=SJ h
  exact dn (Ad (ra P9 R R R) (Ad (rt R) Ah)) (Iz R) R
 ·refine son R R R (ld I6 R R R R (son R R R ?_))
  obtain ⟨v2,hv2,h⟩:=Ae h
  refine Bb R Auf (Aa R Af) (Iz R) (Rc hv2) (son R R R (sv R (B2 R) (rm 2 R (Ai (ccI h R (fun h=>?_) (fun h=>?_))))))
  ·refine csr (sv R (A6 Wq Ab8 Az (.nil _)) (sst Ws R R R R R (rm 1 R (Ai (Bv (Ay (Ag ?_)))))))
   obtain rfl:=SJ h
   exact dn (Ad (ra P9 R R R) (Ad (rt R) Ah)) (Iz R) R
  ·refine csr (ld P9 R R R R (sv R (Bc R) ?_))
   obtain ⟨v3,hv3,h⟩:=Ae h
   refine Bb R Aqe (Aa R (Aa R Af)) (Ao R) (Pm hv3) (sv R (He R R) (rm 1 R (Ai (ccI h R (fun h=>?_) (fun h=>?_)))))
   ·refine csr (sv R (A6 Wq Ab8 Az (.nil _)) (sst Ws R R R R R (rm 1 R (Ai (Bv (Ay (Ag ?_)))))))
    obtain rfl:=SJ h
    exact dn (Ad (ra P9 R R R) (Ad (rt R) Ah)) (Iz R) R
   ·refine csr (fl Of Aaa R R R R R R (sv R (Ax P7 R) (sv R (He R R) (rm 1 R (Ai (ccI h R (fun h=>?_) (fun h=>?_)))))))
    ·refine csr (sv R (A6 Wq Ab8 Az (.nil _)) (sst Ws R R R R R (rm 1 R (Ai (Bv (Ay (Ag ?_)))))))
     obtain rfl:=SJ h
     exact dn (Ad (ra P9 R R R) (Ad (rt R) Ah)) (Iz R) R
    ·refine Bj (Ar (Ab (Br ?_)))
     obtain ⟨v4,hv4,h⟩:=Ae h
     refine Ki [9] [0,1,0,4,15,31,0,64,255,511,1023] [[.box (EL.el a0),.box [Znl,Znl],.box [Ii6 a1,Ii6 a2,Ii6 0,Ii6 1,.b false,.b false,.b a3,Znl]],[.box (EL.el a0),.box (EL.el (Bh.mk v4 a0.Reads)),.box [Ii6 a1,Ii6 a2,Ii6 0,Ii6 1,.b false,.b false,.b a3,Znl]]] (by kernel_rfl) mixed (by kernel_rfl) (by decide) R R R R ?_
     refine ev (Bg 0 R R) R R (Ac Of R) (ev (Bg 0 R R) R R (Ak Aaa R (.lp _ _ _ R) R) (ev (Bg 0 R R) R R (Bf I6 R (.lp _ _ _ R) (Nbl R)) ?_))
     refine ed (Bg 0 R R) R R (Ag8 (out':=([(A2.mk a1 a2 0 1 false false a3 ([]:List (List UInt8)))]:List A2).flatMap Be) Tryz.underlying29 Afs (Av R Az) (.cons _ _ _ _ _ _ _ R R (Nbl R) (.nil _)) R (by decide) R) ?_
     refine ed (Bg 0 R R) R R (Abj (out:=([a0.Txs,([(A2.mk a1 a2 0 1 false false a3 ([]:List (List UInt8)))]:List A2)]:List (List A2)).flatMap (eL Be)) Tryz.underlying312 Ayt (Av R (Av R Az)) (.cons _ _ _ _ _ _ _ R R (Nbl R) (.cons _ _ _ _ _ _ _ R R (Nbl R) (.nil _))) R (by decide)) ?_
     refine ed (Bg 0 R R) R R (C9 Avn (Aa R Af) R (Ud hv4)) (ev (Bg 0 R R) R R (Ac Zm R) (ev (Bg 0 R R) R R (Bf Ab7 R (.lp _ _ _ R) (Nbl R)) (ev (Bg 0 R R) R R (A6 Wq Ab8 (Av R (Av R Az)) (.cons _ _ _ _ _ _ _ R R (Nbl R) (.cons _ _ _ _ _ _ _ R R (Nbl R) (.nil _)))) (ee0 0 R R R R (fun ζ=>?_) ?_))))
     ·refine sst Ws R R R R R (P4 [.box (EL.el a0),.box (EL.el (Bh.mk v4 a0.Reads)),.box [Ii6 a1,Ii6 a2,Ii6 0,Ii6 1,.b false,.b false,.b a3,Znl]] R ?_)
      exact Ta
     refine ev (Bg 1 R R) R R (Ko R) (Abk (Ab (Bv ?_)))
     obtain rfl:=SJ h
     exact dn (Ad (ra P9 R R R) (Ad (rt R) Ah)) (Ao R) R
def Jc (a0:Int) (b1:Unit):Option (List Bl) :=
 if (decide (0<(wI (a0-(wI (0-0)))))) then (if 0<(wI (a0-(wI (0-0))))∧(wI (a0-(wI (0-0))))*((64:Nat):Int)≤281474976710656 then (if (0:Int)≤0∧0≤((List.replicate (wI (a0-(wI (0-0)))).toNat Pf).length:Int) then (some ((List.replicate (wI (a0-(wI (0-0)))).toNat Pf).take (0:Int).toNat)) else none) else none) else (some ([]:List Bl))
def Jq (a0:Int):Option (List Bl) :=
 if (decide (a0<0)) then none else (Jc a0 ())
theorem U7 {a0:Int} {r:(List Bl)} (h:Jq a0=some r):De Tryz.prog 134 [] [.one (Znl),.one (Ii6 a0)] (fun y m'=>y=.s (.one (.ls 0 r.length))∧m'=[.arr 88 6 0 (r.flatMap Bo)]):=by
 unfold Jq at h
 refine Da Tryz.func134 R (nt:=27) R (Nbl R) ?_
 intro w0 S0 X0 H0
 refine csr (rm 1 R (Ai (Br (csr (rm 1 R (sv R (Bw R R) (Ai (Dt (Unit) (fun b1=>[(0,.s (.one (Znl))),(1,.s (.one (Ii6 a0)))]) (fun b1=>[]) (fun b1=>Jc a0 b1=some r) (fun _ _=>A5 R) (fun _ _=>Ap R) (fun _ _=>Nbl R) (fun b1 h=>?_) ?_))))))))
 ·unfold Jc at h
  refine Br (csr (rm 2 R (sv R (Gj Yl R) (rm 1 R (sv R (Fp Yl R) (sv R (Nh R R) (sv R (Nh R R) (rm 1 R (Ai (csr (rm 1 R (sv R (C7 R R) (Ai (ccI h R (fun h=>?_) (fun h=>?_)))))))))))))))
  ·refine As (rm 2 R (sv R (Gj Yl R) (sv R (Mj Yl R R) (sv R (Bc R) ?_))))
   obtain ⟨hm2,h⟩:=Cy h
   refine Ahj (f:=Bo) (z:=Pf) R Tryz.underlying38 Arj Tryz.underlying3 (fun _=>R) R R R hm2 (by decide) ?_
   refine rm 1 R (sv R (Fp Yl R) ?_)
   obtain ⟨hs3,h⟩:=Cy h
   refine Aau (f:=Bo) R Yl (fun _=>R) R R R R R hs3 ?_
   refine rm 1 R (Ai (csr (rm 2 R (Ai (Bv ?_)))))
   obtain rfl:=SJ h
   exact ⟨Or.inr R,_,[1],[.one (.ls 0 ((List.replicate (wI (a0-(wI (0-0)))).toNat Pf).take (0:Int).toNat).length)],[.arr 88 6 0 (((List.replicate (wI (a0-(wI (0-0)))).toNat Pf).take (0:Int).toNat).flatMap Bo)],(Ad (rt R) Ah),R,R,⟨by decide,R⟩,R,R,⟨R,R⟩⟩
  ·refine Bj (Ab (csr (rm 2 R (Ai ?_))))
   refine D1 88 6 4 (by decide) R ?_
   refine Bv ?_
   obtain rfl:=SJ h
   exact ⟨Or.inr R,_,[0],[.one (.ls 0 ([]:List Bl).length)],[.arr 88 6 0 (([]:List Bl).flatMap Bo)],(Ad (rt R) Ah),R,R,⟨by decide,R⟩,R,R,⟨R,R⟩⟩
 ·skip
  refine ccI h R (fun h=>?_) (fun h=>?_)
  ·cases h
  ·refine Bj (Ab ?_)
   exact ⟨(),_,h,⟨R,R,trivial⟩,R⟩
def Mv (b3:(List Bl)):Option (List Bl) :=
 some b3
def E7 (a0:List (List Bl)) (s4:Int × (List Bl)):Option (LB (Int × (List Bl)) ((List Bl))) :=
 if (decide (s4.1<(a0.length:Int))) then ((idx a0 s4.1).bind fun u5=>if (s4.2.length+u5.length)*64≤140737488355328 then (some (.cont ((wI (s4.1+1)),(s4.2++u5)))) else none) else (some (.brk s4.2))
def Je (a0:List (List Bl)) (b1:Int):Option (List Bl) :=
 (Jq b1).bind fun v2=>(C5 (E7 a0) fuel (0,v2)).bind fun e7=>Mv e7
def E4 (a0:List (List Bl)) (s8:Int × Int):Option (LB (Int × Int) (Int)) :=
 if (decide (s8.2<(a0.length:Int))) then ((idx a0 s8.2).bind fun u9=>if (decide ((wI (s8.1+(u9.length:Int)))<0)) then none else (some (.cont ((wI (s8.1+(u9.length:Int))),(wI (s8.2+1)))))) else (some (.brk s8.1))
def Jt (a0:List (List Bl)):Option (List Bl) :=
 (C5 (E4 a0) fuel (0,0)).bind fun e10=>Je a0 e10
theorem Vk {a0:List (List Bl)} {r:(List Bl)} (h:Jt a0=some r):Bt Tryz.prog 60 [.one (.sl a0.length (a0.flatMap (eL Bo)))] (·=.s (.one (.sl r.length (r.flatMap Bo)))):=by
 unfold Jt at h
 refine A4 Tryz.func60 R (nt:=36) R (Nbl R) ?_
 intro w0 S0
 refine csr (rm 1 R (Ai (csr (rm 1 R (Ai (Br (csr (rm 1 R (sv R (Ax Aom R) (rm 1 R (Ai (Dt (Int) (fun b1=>[(0,.s (.one (.sl a0.length (a0.flatMap (eL Bo))))),(3,.s (.one (Ii6 b1)))]) (fun b1=>[]) (fun b1=>Je a0 b1=some r) (fun _ _=>A5 R) (fun _ _=>Ap R) (fun _ _=>Nbl R) (fun b1 h=>?_) ?_))))))))))))
 ·unfold Je at h
  refine csr (sv R (Bc R) ?_)
  obtain ⟨v2,hv2,h⟩:=Ae h
  refine Ho (x':=.s (.one (.ls 0 v2.length))) (M':=[.arr 88 6 0 (v2.flatMap Bo)]) [] R Awt (.func _) (Aa R (Aa R Af)) (U7 hv2) R R (by decide) R R R ?_
  refine rm 1 R (Ai (Br (csr (rm 1 R (sv R (Ax Aom R) (rm 1 R (Ai (Dt ((List Bl)) (fun b3=>[(6,.s (.one (.ls 0 b3.length)))]) (fun b3=>[.arr 88 6 0 (b3.flatMap Bo)]) (fun b3=>Mv b3=some r) (fun _ _=>A5 R) (fun _ _=>Ap R) (fun _ _=>Nbl R) (fun b3 h=>?_) ?_))))))))
  ·unfold Mv at h
   refine csr (rm 2 R (Ai (Bv ?_)))
   obtain rfl:=SJ h
   refine ⟨Or.inr R,_,_,_,(Ad (rt R) Ah),(by (repeat' first | exact J7.nil _ | apply J7.cons | apply Jm.one | apply Jm.agg | exact Dm.nil | exact Dm.ls _ _ _ _ _ _ R (A1 (f:=Bo) (fun _=>R) _).symm | exact Dm.id _ R | exact Cw.nil _ | apply Cw.cons)),?_⟩
   rfl
  ·skip
   refine Bu ?_
   obtain ⟨x4,hx4,ho4⟩:=Ae h
   refine B6 (G:=Nat × (Int × (List Bl))) (fun g=>[(6,.s (.one (.ls 0 g.2.2.length))),(25,.s (.one (.sl a0.length (a0.flatMap (eL Bo))))),(26,.s (.one (Ii6 (a0.length:Int)))),(27,.s (.one (Ii6 g.2.1)))]) (fun g=>[.arr 88 6 0 (g.2.2.flatMap Bo)]) (fun g=>C5 (E7 a0) g.1 g.2=some x4) (fun g=>g.1) (fuel,(0,v2)) hx4 ⟨R,R,R,R,trivial⟩ [] R (fun _ _=>A5 R) (fun _ _=>Ap R) (fun _ _=>Nbl R) ?_
   clear hx4 h
   rintro ⟨n4,s4⟩ h
   obtain ⟨n4,y4,rfl,h,hk4⟩:=C8 h
   unfold E7 at h
   refine csr (sv R (Bw R R) (Ai (Br (ccI h R (fun h=>?_) (fun h=>?_)))))
   ·refine Bj (Ab (Br (Bu (Br (As ?_)))))
    obtain ⟨u5,hu5,h⟩:=Ae h
    refine sv R (Cb (f:=(eL Bo)) Aom (fun _=>R) R R R R hu5) ?_
    refine sv R (Ak Ai1 R (.cp _) R) (rm 1 R (Ai (As (rm 1 R (sv R (Bc R) ?_)))))
    obtain ⟨hb6,h⟩:=Cy h
    refine Wb (f:=Bo) (xs:=s4.2) (us:=u5) R Tryz.underlying38 Arj Avu (fun _=>R) R R (.one _ _ _ _ (.id _ R)) R R R (.sl _ _ _ (A1 (f:=Bo) (fun _=>R) _)) R R hb6 (by decide) ?_
    refine rm 1 R (Ks (Ar (Ab (As (sv R (Bs R R) (rm 1 R (Ai ?_)))))))
    obtain rfl:=SJ h
    exact ⟨(n4,((wI (s4.1+1)),(s4.2++u5))),_,hk4,⟨R,R,R,R,trivial⟩,R,Nat.lt_succ_self _⟩
   ·refine Di (Au (Au (Bn (Ab ?_))))
    obtain rfl:=SJ h
    obtain rfl:_=x4:=hk4
    exact ⟨s4.2,_,ho4,⟨R,trivial⟩,R⟩
 ·skip
  refine Bu ?_
  obtain ⟨x8,hx8,ho8⟩:=Ae h
  refine B6 (G:=Nat × (Int × Int)) (fun g=>[(0,.s (.one (.sl a0.length (a0.flatMap (eL Bo))))),(3,.s (.one (Ii6 g.2.1))),(9,.s (.one (.sl a0.length (a0.flatMap (eL Bo))))),(10,.s (.one (Ii6 (a0.length:Int)))),(11,.s (.one (Ii6 g.2.2)))]) (fun g=>[]) (fun g=>C5 (E4 a0) g.1 g.2=some x8) (fun g=>g.1) (fuel,(0,0)) hx8 ⟨R,R,R,R,R,trivial⟩ [] R (fun _ _=>A5 R) (fun _ _=>Ap R) (fun _ _=>Nbl R) ?_
  clear hx8 h
  rintro ⟨n8,s8⟩ h
  obtain ⟨n8,y8,rfl,h,hk8⟩:=C8 h
  unfold E4 at h
  refine csr (sv R (Bw R R) (Ai (Br (ccI h R (fun h=>?_) (fun h=>?_)))))
  ·refine Bj (Ab (Br (Bu (Br (As ?_)))))
   obtain ⟨u9,hu9,h⟩:=Ae h
   refine sv R (Cb (f:=(eL Bo)) Aom (fun _=>R) R R R R hu9) ?_
   refine sv R (Ak Ai1 R (.cp _) R) (rm 1 R (Ai (csr (rm 2 R (sv R (Ax Yl R) (sv R (Bs R R) (rm 1 R (Ai (csr (rm 1 R (sv R (Bw R R) (Ai (ccI h R (fun h=>?_) (fun h=>?_))))))))))))))
   ·cases h
   ·refine Bj (Ar (Ab (As (sv R (Bs R R) (rm 1 R (Ai ?_))))))
    obtain rfl:=SJ h
    exact ⟨(n8,((wI (s8.1+(u9.length:Int))),(wI (s8.2+1)))),_,hk8,⟨R,R,R,R,R,trivial⟩,R,Nat.lt_succ_self _⟩
  ·refine Di (Au (Au (Bn (Ab ?_))))
   obtain rfl:=SJ h
   obtain rfl:_=x8:=hk8
   exact ⟨s8.1,_,ho8,⟨R,R,trivial⟩,R⟩
def Gl (a1:Int) (a2:Int) (a3:Bool) (b3:Am):Option (Am × Int × Int) :=
 if (decide (1099511627776≤b3.Next)) then (some (b3,0,11)) else (if (decide (16≤(b3.Open.length:Int))) then (some (b3,0,8)) else ((Gm b3.Toks a1 a2).bind fun v4=>if (!decide (v4.2=0)) then (some (b3,0,v4.2)) else ((H2 b3.Cert b3.Next b3.Store.Ts a3).bind fun v5=>if (!decide (v5.2=0)) then (some (b3,0,v5.2)) else ((Jt ([b3.Open,([(Bl.mk b3.Next a1 a2 b3.Store.Ts a3 (B4.mk ([]:List A8)))]:List Bl)]:List (List Bl))).bind fun v6=>some ((Am.mk b3.Store v5.1 v4.1 v6 (wI (b3.Next+1))),b3.Next,0)))))
def Kl (a0:Am) (a1:Int) (a2:Int) (a3:Bool):Option (Am × Int × Int) :=
 (Iv a0).bind fun v1=>if (!v1) then (some (Fi,0,1)) else ((Jw a0 a1).bind fun v2=>if v2.2 then (if (decide (v2.1.Attempt<a2)) then ((Dn a0 v2.1).bind fun v7=>Gl a1 a2 a3 v7) else (Gl a1 a2 a3 a0)) else (Gl a1 a2 a3 a0))
theorem Qh {a0:Am} {a1:Int} {a2:Int} {a3:Bool} {r:Am × Int × Int} (h:Kl a0 a1 a2 a3=some r):Bt Tryz.prog 23 [.agg (EL.el a0),.one (Ii6 a1),.one (Ii6 a2),.one (.b a3)] (·=.tup [.agg (EL.el r.1),.one (Ii6 r.2.1),.one (Ii6 r.2.2)]):=by
 unfold Kl at h
 refine A4 Tryz.func23 R (nt:=101) R (Nbl R) ?_
 intro w0 S0
 refine csr (F0 R R (Bq R Q8 (rm 2 R (Ai (Br (csr (sv R (Bf Dh R (.lp _ _ _ R) (Nbl R)) ?_)))))))
 obtain ⟨v1,hv1,h⟩:=Ae h
 refine Bb R At6 (Aa R Af) (Ao R) (M2 hv1) (sv R (B2 R) (Ai (ccI h R (fun h=>?_) (fun h=>?_))))
 ·refine csr (sv R (A6 Q8 Aj8 Az (.nil _)) (sst J8 R R R R R (rm 2 R (Ai (Bv (Ag ?_))))))
  obtain rfl:=SJ h
  exact dn (Ad (ra Dh R R R) (Ad (rt R) (Ad (rt R) Ah))) (Iz R) R
 ·refine Bj (Ab (Br (csr (ld Dh R R R R (sv R (Bc R) ?_)))))
  obtain ⟨v2,hv2,h⟩:=Ae h
  refine Bb R Ax4 (Aa R (Aa R Af)) (Ao R) (Rh hv2) (sv R (Cd R) (sv R (Aj R R) (sv R (Aj R R) (Bq R Zv (sst Zx R R R R R (rm 1 R (Ai (Br (Hp (Am) (fun b3=>[(1,.s (.one (Ii6 a1))),(2,.s (.one (Ii6 a2))),(3,.s (.one (.b a3))),(4,.s (.one (.lp 0 0))),(8,.s (.one (.lp 1 0)))]) (fun b3=>[.box (EL.el b3),.box Zba,.box (EL.el v2.1)]) (fun b3=>Gl a1 a2 a3 b3=some r) (fun _ _=>A5 R) (fun _ _=>Ap R) (fun _ _=>Nbl R) (fun b3 h=>?_) ?_)))))))))
  ·unfold Gl at h
   refine Br (csr (fl Ui ti3 R R R R R R (sv R (He R R) (Ai (ccI h R (fun h=>?_) (fun h=>?_))))))
   ·refine csr (ld Dh R R R R (sst J8 R R R R R (rm 2 R (Ai (Bv (Ag ?_))))))
    obtain rfl:=SJ h
    exact dn (Ad (ra Dh R R R) (Ad (rt R) (Ad (rt R) Ah))) (Ao R) R
   ·refine Bj (Ab (Br (csr (fl Ro Ai1 R R R R R R (sv R (Ax Yl R) (sv R (He R R) (Ai (ccI h R (fun h=>?_) (fun h=>?_)))))))))
    ·refine csr (ld Dh R R R R (sst J8 R R R R R (rm 2 R (Ai (Bv (Ag ?_))))))
     obtain rfl:=SJ h
     exact dn (Ad (ra Dh R R R) (Ad (rt R) (Ad (rt R) Ah))) (Ao R) R
    ·refine Bj (Ab (csr (sv R (Ac Uj R) (ld Nz R R R R (rm 1 R (sv R (Bc R) ?_))))))
     obtain ⟨v4,hv4,h⟩:=Ae h
     refine Bb R Ayk (Aa R (Aa R (Aa R Af))) (Ao R) (Wc hv4) (sv R (Cd R) (sv R (Aj R R) (sv R (Aj R R) (Bq R U0 (sst Sf R R R R R (rm 1 R (Ai (Br (csr (rm 1 R (sv R (Dy R R) (Ai (ccI h R (fun h=>?_) (fun h=>?_))))))))))))))
     ·refine csr (ld Dh R R R R (rm 1 R (sst J8 R R R R R (rm 2 R (Ai (Bv (Ag ?_)))))))
      obtain rfl:=SJ h
      exact dn (Ad (ra Dh R R R) (Ad (rt R) (Ad (rt R) Ah))) (Ao R) R
     ·refine Bj (Ab (csr (sv R (Ac Sz R) (ld P9 R R R R (fl Ui ti3 R R R R R R (sv R (Ac Tl R) (fl Sb ti3 R R R R R R (sv R (Bc R) ?_))))))))
      obtain ⟨v5,hv5,h⟩:=Ae h
      refine Bb R Aza (Aa R (Aa R (Aa R (Aa R Af)))) (Ao R) (Zt hv5) (sv R (Cd R) (sv R (Aj R R) (sv R (Aj R R) (Bq R Wq (sst Ws R R R R R (rm 1 R (Ai (Br (csr (rm 1 R (sv R (Dy R R) (Ai (ccI h R (fun h=>?_) (fun h=>?_))))))))))))))
      ·refine csr (ld Dh R R R R (rm 1 R (sst J8 R R R R R (rm 2 R (Ai (Bv (Ag ?_)))))))
       obtain rfl:=SJ h
       exact dn (Ad (ra Dh R R R) (Ad (rt R) (Ad (rt R) Ah))) (Ao R) R
      ·refine Bj (Ab (csr (fl Ui ti3 R R R R R R (rm 2 R (sv R (Ac Tl R) (fl Sb ti3 R R R R R R (rm 1 R (sv R (A6 Zv Au5 (Av R (Av R (Av R (Av R (Av R Az))))) (Aae [Ii6 b3.Next,Ii6 0,Ii6 0,Ii6 0,.b false,Znl] R R (Nbl R) R (Aae [Ii6 b3.Next,Ii6 a1,Ii6 0,Ii6 0,.b false,Znl] R R (Nbl R) R (Aae [Ii6 b3.Next,Ii6 a1,Ii6 a2,Ii6 0,.b false,Znl] R R (Nbl R) R (Aae [Ii6 b3.Next,Ii6 a1,Ii6 a2,Ii6 b3.Store.Ts,.b false,Znl] R R (Nbl R) R (Aae [Ii6 b3.Next,Ii6 a1,Ii6 a2,Ii6 b3.Store.Ts,.b a3,Znl] R R (Nbl R) R (.nil _))))))) (Bq R Zv (sst Zx R R R R R (Ai (Br (Z0 ?_)))))))))))))
       obtain ⟨v6,hv6,h⟩:=Ae h
       refine Ki [14,15] [0,1,0,0,0,16,0,64,240,496,0,1024,3072,8191,0,32767] [[.box (EL.el b3),.box Zba,.box (EL.el v2.1),.box [.sl v4.1.L.length (v4.1.L.flatMap Al)],.box (EL.el v5.1),.box [Ii6 b3.Next,Ii6 a1,Ii6 a2,Ii6 b3.Store.Ts,.b a3,Znl],.hole],[.box (EL.el b3),.box Zba,.box (EL.el v2.1),.box [.sl v4.1.L.length (v4.1.L.flatMap Al)],.box (EL.el v5.1),.box [Ii6 b3.Next,Ii6 a1,Ii6 a2,Ii6 b3.Store.Ts,.b a3,Znl],.box Zba],[.box (EL.el b3),.box Zba,.box (EL.el v2.1),.box [.sl v4.1.L.length (v4.1.L.flatMap Al)],.box (EL.el v5.1),.box [Ii6 b3.Next,Ii6 a1,Ii6 a2,Ii6 b3.Store.Ts,.b a3,Znl],.box [.sl b3.Store.Keys.length (b3.Store.Keys.flatMap (eL eU8)),.sl b3.Store.Chains.length (b3.Store.Chains.flatMap Aw),Ii6 b3.Store.Ts,.sl v5.1.Txs.length (v5.1.Txs.flatMap Be),.sl v5.1.Reads.L.length (v5.1.Reads.L.flatMap Aq),.sl v4.1.L.length (v4.1.L.flatMap Al),.sl v6.length (v6.flatMap Bo),Ii6 (wI (b3.Next+1))]]] (by kernel_rfl) mixed (by kernel_rfl) (by decide) R R R R ?_
       refine evs (md:=[.box (EL.el b3),.box Zba,.box (EL.el v2.1),.box [.sl v4.1.L.length (v4.1.L.flatMap Al)],.box (EL.el v5.1),.box [Ii6 b3.Next,Ii6 a1,Ii6 a2,Ii6 b3.Store.Ts,.b a3,Znl],.dead]) (fun hS=>ev (Ca hS) R R (Ac Tl R) (ev (Ca hS) R R (Bf Xk R (.lp _ _ _ R) (Nbl R)) (ev (Ca hS) R R (Bf P9 R (.lp _ _ _ R) (Nbl R)) (ev (Ca hS) R R (Bf Nz R (.lp _ _ _ R) (Nbl R)) (ev (Ca hS) R R (Ac Ro R) (ev (Ca hS) R R (Ak Ai1 R (.lp _ _ _ R) R) (ev (Ca hS) R R (Bf Vv R (.lp _ _ _ R) (Nbl R)) ?_))))))) ⟨⟨R,⟨R,⟨R,⟨R,⟨R,⟨R,⟨trivial,trivial⟩⟩⟩⟩⟩⟩⟩,⟨⟨R,⟨R,⟨R,⟨R,⟨R,⟨R,⟨trivial,trivial⟩⟩⟩⟩⟩⟩⟩,⟨⟨R,⟨R,⟨R,⟨R,⟨R,⟨R,⟨trivial,trivial⟩⟩⟩⟩⟩⟩⟩,trivial⟩⟩⟩
       refine ed (Ca (md:=[.box (EL.el b3),.box Zba,.box (EL.el v2.1),.box [.sl v4.1.L.length (v4.1.L.flatMap Al)],.box (EL.el v5.1),.box [Ii6 b3.Next,Ii6 a1,Ii6 a2,Ii6 b3.Store.Ts,.b a3,Znl],.dead]) ⟨⟨R,⟨R,⟨R,⟨R,⟨R,⟨R,⟨trivial,trivial⟩⟩⟩⟩⟩⟩⟩,⟨⟨R,⟨R,⟨R,⟨R,⟨R,⟨R,⟨trivial,trivial⟩⟩⟩⟩⟩⟩⟩,⟨⟨R,⟨R,⟨R,⟨R,⟨R,⟨R,⟨trivial,trivial⟩⟩⟩⟩⟩⟩⟩,trivial⟩⟩⟩) R R (Ag8 (out':=([(Bl.mk b3.Next a1 a2 b3.Store.Ts a3 (B4.mk ([]:List A8)))]:List Bl).flatMap Bo) Tryz.underlying38 Arj (Av R Az) (.cons _ _ _ _ _ _ _ R R (Nbl R) (.nil _)) R (by decide) R) ?_
       refine ed (Ca (md:=[.box (EL.el b3),.box Zba,.box (EL.el v2.1),.box [.sl v4.1.L.length (v4.1.L.flatMap Al)],.box (EL.el v5.1),.box [Ii6 b3.Next,Ii6 a1,Ii6 a2,Ii6 b3.Store.Ts,.b a3,Znl],.dead]) ⟨⟨R,⟨R,⟨R,⟨R,⟨R,⟨R,⟨trivial,trivial⟩⟩⟩⟩⟩⟩⟩,⟨⟨R,⟨R,⟨R,⟨R,⟨R,⟨R,⟨trivial,trivial⟩⟩⟩⟩⟩⟩⟩,⟨⟨R,⟨R,⟨R,⟨R,⟨R,⟨R,⟨trivial,trivial⟩⟩⟩⟩⟩⟩⟩,trivial⟩⟩⟩) R R (Abj (out:=([b3.Open,([(Bl.mk b3.Next a1 a2 b3.Store.Ts a3 (B4.mk ([]:List A8)))]:List Bl)]:List (List Bl)).flatMap (eL Bo)) Tryz.underlying246 Ayh (Av R (Av R Az)) (.cons _ _ _ _ _ _ _ R R (Nbl R) (.cons _ _ _ _ _ _ _ R R (Nbl R) (.nil _))) R (by decide)) ?_
       refine ed (Ca (md:=[.box (EL.el b3),.box Zba,.box (EL.el v2.1),.box [.sl v4.1.L.length (v4.1.L.flatMap Al)],.box (EL.el v5.1),.box [Ii6 b3.Next,Ii6 a1,Ii6 a2,Ii6 b3.Store.Ts,.b a3,Znl],.dead]) ⟨⟨R,⟨R,⟨R,⟨R,⟨R,⟨R,⟨trivial,trivial⟩⟩⟩⟩⟩⟩⟩,⟨⟨R,⟨R,⟨R,⟨R,⟨R,⟨R,⟨trivial,trivial⟩⟩⟩⟩⟩⟩⟩,⟨⟨R,⟨R,⟨R,⟨R,⟨R,⟨R,⟨trivial,trivial⟩⟩⟩⟩⟩⟩⟩,trivial⟩⟩⟩) R R (C9 Aym (Aa R Af) R (Vk hv6)) (ev (Ca (md:=[.box (EL.el b3),.box Zba,.box (EL.el v2.1),.box [.sl v4.1.L.length (v4.1.L.flatMap Al)],.box (EL.el v5.1),.box [Ii6 b3.Next,Ii6 a1,Ii6 a2,Ii6 b3.Store.Ts,.b a3,Znl],.dead]) ⟨⟨R,⟨R,⟨R,⟨R,⟨R,⟨R,⟨trivial,trivial⟩⟩⟩⟩⟩⟩⟩,⟨⟨R,⟨R,⟨R,⟨R,⟨R,⟨R,⟨trivial,trivial⟩⟩⟩⟩⟩⟩⟩,⟨⟨R,⟨R,⟨R,⟨R,⟨R,⟨R,⟨trivial,trivial⟩⟩⟩⟩⟩⟩⟩,trivial⟩⟩⟩) R R (Ac Ui R) (ev (Ca (md:=[.box (EL.el b3),.box Zba,.box (EL.el v2.1),.box [.sl v4.1.L.length (v4.1.L.flatMap Al)],.box (EL.el v5.1),.box [Ii6 b3.Next,Ii6 a1,Ii6 a2,Ii6 b3.Store.Ts,.b a3,Znl],.dead]) ⟨⟨R,⟨R,⟨R,⟨R,⟨R,⟨R,⟨trivial,trivial⟩⟩⟩⟩⟩⟩⟩,⟨⟨R,⟨R,⟨R,⟨R,⟨R,⟨R,⟨trivial,trivial⟩⟩⟩⟩⟩⟩⟩,⟨⟨R,⟨R,⟨R,⟨R,⟨R,⟨R,⟨trivial,trivial⟩⟩⟩⟩⟩⟩⟩,trivial⟩⟩⟩) R R (Ak ti3 R (.lp _ _ _ R) R) (ev (Ca (md:=[.box (EL.el b3),.box Zba,.box (EL.el v2.1),.box [.sl v4.1.L.length (v4.1.L.flatMap Al)],.box (EL.el v5.1),.box [Ii6 b3.Next,Ii6 a1,Ii6 a2,Ii6 b3.Store.Ts,.b a3,Znl],.dead]) ⟨⟨R,⟨R,⟨R,⟨R,⟨R,⟨R,⟨trivial,trivial⟩⟩⟩⟩⟩⟩⟩,⟨⟨R,⟨R,⟨R,⟨R,⟨R,⟨R,⟨trivial,trivial⟩⟩⟩⟩⟩⟩⟩,⟨⟨R,⟨R,⟨R,⟨R,⟨R,⟨R,⟨trivial,trivial⟩⟩⟩⟩⟩⟩⟩,trivial⟩⟩⟩) R R (Bs R R) (ev (Ca (md:=[.box (EL.el b3),.box Zba,.box (EL.el v2.1),.box [.sl v4.1.L.length (v4.1.L.flatMap Al)],.box (EL.el v5.1),.box [Ii6 b3.Next,Ii6 a1,Ii6 a2,Ii6 b3.Store.Ts,.b a3,Znl],.dead]) ⟨⟨R,⟨R,⟨R,⟨R,⟨R,⟨R,⟨trivial,trivial⟩⟩⟩⟩⟩⟩⟩,⟨⟨R,⟨R,⟨R,⟨R,⟨R,⟨R,⟨trivial,trivial⟩⟩⟩⟩⟩⟩⟩,⟨⟨R,⟨R,⟨R,⟨R,⟨R,⟨R,⟨trivial,trivial⟩⟩⟩⟩⟩⟩⟩,trivial⟩⟩⟩) R R (A6 Q8 Aj8 (Av R (Av R (Av R (Av R (Av R Az))))) (Aae [.sl b3.Store.Keys.length (b3.Store.Keys.flatMap (eL eU8)),.sl b3.Store.Chains.length (b3.Store.Chains.flatMap Aw),Ii6 b3.Store.Ts,Znl,Znl,Znl,Znl,Ii6 0] R R (Nbl R) R (Aae [.sl b3.Store.Keys.length (b3.Store.Keys.flatMap (eL eU8)),.sl b3.Store.Chains.length (b3.Store.Chains.flatMap Aw),Ii6 b3.Store.Ts,.sl v5.1.Txs.length (v5.1.Txs.flatMap Be),.sl v5.1.Reads.L.length (v5.1.Reads.L.flatMap Aq),Znl,Znl,Ii6 0] R R (Nbl R) R (Aae [.sl b3.Store.Keys.length (b3.Store.Keys.flatMap (eL eU8)),.sl b3.Store.Chains.length (b3.Store.Chains.flatMap Aw),Ii6 b3.Store.Ts,.sl v5.1.Txs.length (v5.1.Txs.flatMap Be),.sl v5.1.Reads.L.length (v5.1.Reads.L.flatMap Aq),.sl v4.1.L.length (v4.1.L.flatMap Al),Znl,Ii6 0] R R (Nbl R) R (Aae [.sl b3.Store.Keys.length (b3.Store.Keys.flatMap (eL eU8)),.sl b3.Store.Chains.length (b3.Store.Chains.flatMap Aw),Ii6 b3.Store.Ts,.sl v5.1.Txs.length (v5.1.Txs.flatMap Be),.sl v5.1.Reads.L.length (v5.1.Reads.L.flatMap Aq),.sl v4.1.L.length (v4.1.L.flatMap Al),.sl v6.length (v6.flatMap Bo),Ii6 0] R R (Nbl R) R (Aae [.sl b3.Store.Keys.length (b3.Store.Keys.flatMap (eL eU8)),.sl b3.Store.Chains.length (b3.Store.Chains.flatMap Aw),Ii6 b3.Store.Ts,.sl v5.1.Txs.length (v5.1.Txs.flatMap Be),.sl v5.1.Reads.L.length (v5.1.Reads.L.flatMap Aq),.sl v4.1.L.length (v4.1.L.flatMap Al),.sl v6.length (v6.flatMap Bo),Ii6 (wI (b3.Next+1))] R R (Nbl R) R (.nil _))))))) (ee (x:=.s (.one (.lp 6 0))) 0 R R R R R (fun ζ=>?_) ?_)))))
       ·refine M8 6 R Q8 R ?_
        exact Ta
       refine ee0 1 R R R R (fun ζ=>?_) ?_
       ·refine sst J8 R R R R R (P4 [.box (EL.el b3),.box Zba,.box (EL.el v2.1),.box [.sl v4.1.L.length (v4.1.L.flatMap Al)],.box (EL.el v5.1),.box [Ii6 b3.Next,Ii6 a1,Ii6 a2,Ii6 b3.Store.Ts,.b a3,Znl],.box [.sl b3.Store.Keys.length (b3.Store.Keys.flatMap (eL eU8)),.sl b3.Store.Chains.length (b3.Store.Chains.flatMap Aw),Ii6 b3.Store.Ts,.sl v5.1.Txs.length (v5.1.Txs.flatMap Be),.sl v5.1.Reads.L.length (v5.1.Reads.L.flatMap Aq),.sl v4.1.L.length (v4.1.L.flatMap Al),.sl v6.length (v6.flatMap Bo),Ii6 (wI (b3.Next+1))]] R ?_)
        exact Ta
       refine Abk (Ab (Br ?_))
       refine Ki [3] [0,0,2,1,15,31] [[.box (EL.el b3),.box Zba,.box (EL.el v2.1),.box [.sl v4.1.L.length (v4.1.L.flatMap Al)],.box (EL.el v5.1),.box [Ii6 b3.Next,Ii6 a1,Ii6 a2,Ii6 b3.Store.Ts,.b a3,Znl],.box [.sl b3.Store.Keys.length (b3.Store.Keys.flatMap (eL eU8)),.sl b3.Store.Chains.length (b3.Store.Chains.flatMap Aw),Ii6 b3.Store.Ts,.sl v5.1.Txs.length (v5.1.Txs.flatMap Be),.sl v5.1.Reads.L.length (v5.1.Reads.L.flatMap Aq),.sl v4.1.L.length (v4.1.L.flatMap Al),.sl v6.length (v6.flatMap Bo),Ii6 (wI (b3.Next+1))]],[.box (EL.el b3),.box [.sl b3.Store.Keys.length (b3.Store.Keys.flatMap (eL eU8)),.sl b3.Store.Chains.length (b3.Store.Chains.flatMap Aw),Ii6 b3.Store.Ts,.sl v5.1.Txs.length (v5.1.Txs.flatMap Be),.sl v5.1.Reads.L.length (v5.1.Reads.L.flatMap Aq),.sl v4.1.L.length (v4.1.L.flatMap Al),.sl v6.length (v6.flatMap Bo),Ii6 (wI (b3.Next+1))],.box (EL.el v2.1),.box [.sl v4.1.L.length (v4.1.L.flatMap Al)],.box (EL.el v5.1),.box [Ii6 b3.Next,Ii6 a1,Ii6 a2,Ii6 b3.Store.Ts,.b a3,Znl],.box [.sl b3.Store.Keys.length (b3.Store.Keys.flatMap (eL eU8)),.sl b3.Store.Chains.length (b3.Store.Chains.flatMap Aw),Ii6 b3.Store.Ts,.sl v5.1.Txs.length (v5.1.Txs.flatMap Be),.sl v5.1.Reads.L.length (v5.1.Reads.L.flatMap Aq),.sl v4.1.L.length (v4.1.L.flatMap Al),.sl v6.length (v6.flatMap Bo),Ii6 (wI (b3.Next+1))]]] (by kernel_rfl) mixed (by kernel_rfl) (by decide) R R R R ?_
       refine evs (md:=[.box (EL.el b3),.dead,.box (EL.el v2.1),.box [.sl v4.1.L.length (v4.1.L.flatMap Al)],.box (EL.el v5.1),.box [Ii6 b3.Next,Ii6 a1,Ii6 a2,Ii6 b3.Store.Ts,.b a3,Znl],.box [.sl b3.Store.Keys.length (b3.Store.Keys.flatMap (eL eU8)),.sl b3.Store.Chains.length (b3.Store.Chains.flatMap Aw),Ii6 b3.Store.Ts,.sl v5.1.Txs.length (v5.1.Txs.flatMap Be),.sl v5.1.Reads.L.length (v5.1.Reads.L.flatMap Aq),.sl v4.1.L.length (v4.1.L.flatMap Al),.sl v6.length (v6.flatMap Bo),Ii6 (wI (b3.Next+1))]]) (fun hS=>ev (Bg 0 R R) R R (Bf Dh R (.lp _ _ _ R) (Nbl R)) (ev (Ca hS) R R (Ac Ri R) (ev (Ca hS) R R (Ak ti3 R (.lp _ _ _ R) R) (ee0 0 R R R R (fun ζ=>?_) ?_)))) ⟨⟨R,⟨trivial,⟨R,⟨R,⟨R,⟨R,⟨R,trivial⟩⟩⟩⟩⟩⟩⟩,⟨⟨R,⟨trivial,⟨R,⟨R,⟨R,⟨R,⟨R,trivial⟩⟩⟩⟩⟩⟩⟩,trivial⟩⟩
       ·refine sst J8 R R R R R (P4 [.box (EL.el b3),.box [.sl b3.Store.Keys.length (b3.Store.Keys.flatMap (eL eU8)),.sl b3.Store.Chains.length (b3.Store.Chains.flatMap Aw),Ii6 b3.Store.Ts,.sl v5.1.Txs.length (v5.1.Txs.flatMap Be),.sl v5.1.Reads.L.length (v5.1.Reads.L.flatMap Aq),.sl v4.1.L.length (v4.1.L.flatMap Al),.sl v6.length (v6.flatMap Bo),Ii6 (wI (b3.Next+1))],.box (EL.el v2.1),.box [.sl v4.1.L.length (v4.1.L.flatMap Al)],.box (EL.el v5.1),.box [Ii6 b3.Next,Ii6 a1,Ii6 a2,Ii6 b3.Store.Ts,.b a3,Znl],.box [.sl b3.Store.Keys.length (b3.Store.Keys.flatMap (eL eU8)),.sl b3.Store.Chains.length (b3.Store.Chains.flatMap Aw),Ii6 b3.Store.Ts,.sl v5.1.Txs.length (v5.1.Txs.flatMap Be),.sl v5.1.Reads.L.length (v5.1.Reads.L.flatMap Aq),.sl v4.1.L.length (v4.1.L.flatMap Al),.sl v6.length (v6.flatMap Bo),Ii6 (wI (b3.Next+1))]] R ?_)
        exact Ta
       refine ev (Bg 1 R R) R R (Ko R) (ev (Bg 1 R R) R R (Ko R) (Abk (Ab (Bv ?_))))
       obtain rfl:=SJ h
       exact dn (Ad (ra Dh R R R) (Ad (rt R) (Ad (rt R) Ah))) (Ao R) R
  ·skip
   refine As (rm 2 R (ssI 29 h R (fun h=>?_) (fun h=>?_)))
   ·refine son R R R (sv R (Ac Ac6 R) (son R R R (sv R (Ak ti3 R (.lp _ _ _ R) R) (rm 1 R (son R R R (sv R (Bw R R) (rm 1 R (Ai (ccI h R (fun h=>?_) (fun h=>?_))))))))))
    ·refine As (ld Dh R R R R (sv R (Bf Vv R (.lp _ _ _ R) (Nbl R)) ?_))
     obtain ⟨v7,hv7,h⟩:=Ae h
     refine Bb R Ash (Aa R (Aa R Af)) (Ao R) (Ht hv7) (sst J8 R R R R R (Ai ?_))
     exact ⟨v7,_,h,⟨R,R,R,R,R,trivial⟩,R⟩
    ·refine Bj (Ab ?_)
     exact ⟨a0,_,h,⟨R,R,R,R,R,trivial⟩,R⟩
   ·refine rm 5 R (Ai (Cp R (fun hx=>Bool.noConfusion hx) (fun _=>?_)))
    refine Bj (Ab ?_)
    exact ⟨a0,_,h,⟨R,R,R,R,R,trivial⟩,R⟩
def Fc (a0:Am) (a1:Int):Option (Bl × Int) :=
 (Iv a0).bind fun v1=>if (!v1) then (some (Pf,1)) else ((Fy a0 a1).bind fun v2=>if (decide (v2<0)) then (some (Pf,7)) else ((idx a0.Open v2).bind fun u3=>some (u3,0)))
theorem Kz {a0:Am} {a1:Int} {r:Bl × Int} (h:Fc a0 a1=some r):Bt Tryz.prog 55 [.agg (EL.el a0),.one (Ii6 a1)] (·=.tup [.agg (EL.el r.1),.one (Ii6 r.2)]):=by
 unfold Fc at h
 refine A4 Tryz.func55 R (nt:=22) R (Nbl R) ?_
 intro w0 S0
 refine csr (F0 R R (Bq R Zv (rm 1 R (Ai (Br (csr (sv R (Bf Dh R (.lp _ _ _ R) (Nbl R)) ?_)))))))
 obtain ⟨v1,hv1,h⟩:=Ae h
 refine Bb R At6 (Aa R Af) (Ao R) (M2 hv1) (sv R (B2 R) (Ai (ccI h R (fun h=>?_) (fun h=>?_))))
 ·refine csr (sv R (A6 Zv Au5 Az (.nil _)) (sst Zx R R R R R (rm 1 R (Ai (Bv (Ag ?_))))))
  obtain rfl:=SJ h
  exact dn (Ad (ra Vv R R R) (Ad (rt R) Ah)) (Iz R) R
 ·refine Bj (Ab (csr (ld Dh R R R R (sv R (Bc R) ?_))))
  obtain ⟨v2,hv2,h⟩:=Ae h
  refine Bb R Avx (Aa R (Aa R Af)) (Ao R) (Qk hv2) (rm 1 R (Ai (Br (csr (rm 1 R (sv R (Bw R R) (Ai (ccI h R (fun h=>?_) (fun h=>?_)))))))))
  ·refine csr (sv R (A6 Zv Au5 Az (.nil _)) (sst Zx R R R R R (rm 1 R (Ai (Bv (Ag ?_))))))
   obtain rfl:=SJ h
   exact dn (Ad (ra Vv R R R) (Ad (rt R) Ah)) (Iz R) R
  ·refine Bj (Ab (csr (fl Ro Ai1 R R R R R R (sv R (Bc R) ?_))))
   obtain ⟨u3,hu3,h⟩:=Ae h
   refine sv R (Cb (f:=Bo) Yl (fun _=>R) R R R R hu3) ?_
   refine sv R (B3 (ys:=[Ii6 u3.ID,Ii6 u3.Token,Ii6 u3.Attempt,Ii6 u3.Snap,.b u3.RO,.sl u3.Buf.L.length (u3.Buf.L.flatMap Ba)]) Vv R (.cp _) R R) (sst Zx R R R R R (rm 1 R (Ai (Bv ?_))))
   obtain rfl:=SJ h
   exact dn (Ad (ra Vv R R R) (Ad (rt R) Ah)) (Ao R) R
def F3 (a0:Am) (a1:Int):Option Am :=
 if (decide (a1=1)) then (some Fi) else (some a0)
theorem I5 {a0:Am} {a1:Int} {r:Am} (h:F3 a0 a1=some r):Bt Tryz.prog 61 [.agg (EL.el a0),.one (Ii6 a1)] (·=.s (.agg (EL.el r))):=by
 unfold F3 at h
 refine A4 Tryz.func61 R (nt:=9) R (Nbl R) ?_
 intro w0 S0
 refine csr (F0 R R (Bq R Q8 (Ai (Br (csr (rm 1 R (sv R (B5 R R) (Ai (ccI h R (fun h=>?_) (fun h=>?_))))))))))
 ·refine csr (sv R (A6 Q8 Aj8 Az (.nil _)) (sst J8 R R R R R (Ai (Bv (Ag ?_)))))
  obtain rfl:=SJ h
  exact dn (Ad (ra Dh R R R) Ah) (Iz R) R
 ·refine Bj (Ab (csr (ld Dh R R R R (sst J8 R R R R R (Ai (Bv ?_))))))
  obtain rfl:=SJ h
  exact dnA R Dh R (.lp _ _ _ R) (Nbl R) R R
def Dl (a0:List UInt8) (a1:List UInt8):Option Bool :=
 some (a0 == a1)
theorem Nx {a0:List UInt8} {a1:List UInt8} {r:Bool} (h:Dl a0 a1=some r):Bt Tryz.prog 135 [.one (.sl a0.length (a0.flatMap eU8)),.one (.sl a1.length (a1.flatMap eU8))] (·=.s (.one (.b r))):=by
 unfold Dl at h
 refine A4 Tryz.func135 R (nt:=10) R (Nbl R) ?_
 intro w0 S0
 refine csr (rm 1 R (Ai (csr (rm 1 R (sv R (Yn (l:=a0) Tryz.underlying56 Tryz.underlying5 Tryz.underlying9 R R R) (rm 1 R (sv R (Yn (l:=a1) Tryz.underlying56 Tryz.underlying5 Tryz.underlying9 R R R) (sv R (Aj0 R R) (rm 1 R (Ai (Bv ?_)))))))))))
 obtain rfl:=SJ h
 exact dnT R R R R
def Oy (b1:Unit):Option (A8 × Bool) :=
 some ((A8.mk ([]:List UInt8) ([]:List UInt8) false),false)
def Js (a0:B4) (a1:List UInt8) (s2:Int):Option (LR (Int) (Unit) (A8 × Bool)) :=
 if (decide (s2<(a0.L.length:Int))) then ((idx a0.L s2).bind fun u3=>(Dl u3.Key a1).bind fun v4=>if v4 then (some (.ret (u3,true))) else (some (.cont (wI (s2+1))))) else (some (.brk ()))
def M3 (a0:B4) (a1:List UInt8):Option (A8 × Bool) :=
 (Lj (Js a0 a1) fuel 0).bind fun x=>match x with | .inl r=>some r | .inr e5=>Oy e5
theorem Xt {a0:B4} {a1:List UInt8} {r:A8 × Bool} (h:M3 a0 a1=some r):Bt Tryz.prog 63 [.agg [.sl a0.L.length (a0.L.flatMap Ba)],.one (.sl a1.length (a1.flatMap eU8))] (·=.tup [.agg (EL.el r.1),.one (.b r.2)]):=by
 unfold M3 at h
 refine A4 Tryz.func63 R (nt:=22) R (Nbl R) ?_
 intro w0 S0
 refine csr (F0 R R (Bq R Ai2 (rm 1 R (Ai (Br (csr (fl V2 Ani R R R R R R (sv R (Ax Ab9 R) (rm 1 R (Ai (Dt (Unit) (fun b1=>[(4,.s (.one (.lp 1 0)))]) (fun b1=>[.box [.sl a0.L.length (a0.L.flatMap Ba)],.box [Znl,Znl,.b false]]) (fun b1=>Oy b1=some r) (fun _ _=>A5 R) (fun _ _=>Ap R) (fun _ _=>Nbl R) (fun b1 h=>?_) ?_)))))))))))
 ·unfold Oy at h
  refine csr (sv R (A6 Ai2 Au8 Az (.nil _)) (sst Ajm R R R R R (rm 1 R (Ai (Bv ?_)))))
  obtain rfl:=SJ h
  exact dn (Ad (ra Aea R R R) (Ad (rt R) Ah)) (Iz R) R
 ·skip
  refine Bu ?_
  obtain ⟨x2,hx2,ho2⟩:=Ae h
  refine B6 (G:=Nat × (Int)) (fun g=>[(1,.s (.one (.sl a1.length (a1.flatMap eU8)))),(4,.s (.one (.lp 1 0))),(9,.s (.one (.sl a0.L.length (a0.L.flatMap Ba)))),(10,.s (.one (Ii6 (a0.L.length:Int)))),(11,.s (.one (Ii6 g.2)))]) (fun g=>[.box [.sl a0.L.length (a0.L.flatMap Ba)],.box [Znl,Znl,.b false]]) (fun g=>Lj (Js a0 a1) g.1 g.2=some x2) (fun g=>g.1) (fuel,0) hx2 ⟨R,R,R,R,R,trivial⟩ [] R (fun _ _=>A5 R) (fun _ _=>Ap R) (fun _ _=>Nbl R) ?_
  clear hx2 h
  rintro ⟨n2,s2⟩ h
  obtain ⟨n2,y2,rfl,h,hk2⟩:=Ff h
  unfold Js at h
  refine csr (sv R (Bw R R) (Ai (Br (ccI h R (fun h=>?_) (fun h=>?_)))))
  ·refine Bj (Ab (Br (Bu (Br (As ?_)))))
   obtain ⟨u3,hu3,h⟩:=Ae h
   refine sv R (Cb (f:=Ba) Ab9 (fun _=>R) R R R R hu3) ?_
   refine sv R (B3 (ys:=[.sl u3.Key.length (u3.Key.flatMap eU8),.sl u3.Val.length (u3.Val.flatMap eU8),.b u3.Del]) Aea R (.cp _) R R) (Bq R Ai2 (sst Ajm R R R R R (Ai (csr (fl Sa Nr R R R R R R (sv R (Bc R) ?_))))))
   obtain ⟨v4,hv4,h⟩:=Ae h
   refine Bb R Art (Aa R (Aa R Af)) (Ao R) (Nx hv4) (Ai (ccI h R (fun h=>?_) (fun h=>?_)))
   ·refine csr (ld Aea R R R R (sst Ajm R R R R R (rm 1 R (Ai (Bv (Ay (Ag (Ag (Ay (Ag ?_))))))))))
    obtain rfl:=SJ h
    obtain rfl:Sum.inl _=x2:=hk2
    replace ho2:some _=some _:=ho2
    obtain rfl:=Option.some.inj ho2
    exact dn (Ad (ra Aea R R R) (Ad (rt R) Ah)) (Ao R) R
   ·refine Bj (Ar (Ab (As (sv R (Bs R R) (rm 1 R (Ai ?_))))))
    obtain rfl:=SJ h
    exact ⟨(n2,(wI (s2+1))),_,hk2,⟨R,R,R,R,R,trivial⟩,R,Nat.lt_succ_self _⟩
  ·refine Di (Au (Au (Bn (Ab ?_))))
   obtain rfl:=SJ h
   obtain rfl:_=x2:=hk2
   exact ⟨(),_,ho2,⟨R,trivial⟩,R⟩
def I8 (a0:Int) (b1:Unit):Option (List UInt8) :=
 if (decide (0<(wI (a0-(wI (0-0)))))) then (if 0<(wI (a0-(wI (0-0))))∧(wI (a0-(wI (0-0))))*((1:Nat):Int)≤281474976710656 then (if (0:Int)≤0∧0≤((List.replicate (wI (a0-(wI (0-0)))).toNat (0:UInt8)).length:Int) then (some ((List.replicate (wI (a0-(wI (0-0)))).toNat (0:UInt8)).take (0:Int).toNat)) else none) else none) else (some ([]:List UInt8))
def Jh (a0:Int):Option (List UInt8) :=
 if (decide (a0<0)) then none else (I8 a0 ())
theorem U9 {a0:Int} {r:(List UInt8)} (h:Jh a0=some r):De Tryz.prog 206 [] [.one (Znl),.one (Ii6 a0)] (fun y m'=>y=.s (.one (.ls 0 r.length))∧m'=[.arr 5 1 0 (r.flatMap eU8)]):=by
 unfold Jh at h
 refine Da Tryz.func206 R (nt:=27) R (Nbl R) ?_
 intro w0 S0 X0 H0
 refine csr (rm 1 R (Ai (Br (csr (rm 1 R (sv R (Bw R R) (Ai (Dt (Unit) (fun b1=>[(0,.s (.one (Znl))),(1,.s (.one (Ii6 a0)))]) (fun b1=>[]) (fun b1=>I8 a0 b1=some r) (fun _ _=>A5 R) (fun _ _=>Ap R) (fun _ _=>Nbl R) (fun b1 h=>?_) ?_))))))))
 ·unfold I8 at h
  refine Br (csr (rm 2 R (sv R (Gj X9 R) (rm 1 R (sv R (Fp X9 R) (sv R (Nh R R) (sv R (Nh R R) (rm 1 R (Ai (csr (rm 1 R (sv R (C7 R R) (Ai (ccI h R (fun h=>?_) (fun h=>?_)))))))))))))))
  ·refine As (rm 2 R (sv R (Gj X9 R) (sv R (Mj X9 R R) (sv R (Bc R) ?_))))
   obtain ⟨hm2,h⟩:=Cy h
   refine Asq (f:=eU8) (z:=(0:UInt8)) R Tryz.underlying56 ei5 Tryz.underlying3 (fun _=>R) R R R hm2 (by decide) ?_
   refine rm 1 R (sv R (Fp X9 R) ?_)
   obtain ⟨hs3,h⟩:=Cy h
   refine Aau (f:=eU8) R X9 (fun _=>R) R R R R R hs3 ?_
   refine rm 1 R (Ai (csr (rm 2 R (Ai (Bv ?_)))))
   obtain rfl:=SJ h
   exact ⟨Or.inr R,_,[1],[.one (.ls 0 ((List.replicate (wI (a0-(wI (0-0)))).toNat (0:UInt8)).take (0:Int).toNat).length)],[.arr 5 1 0 (((List.replicate (wI (a0-(wI (0-0)))).toNat (0:UInt8)).take (0:Int).toNat).flatMap eU8)],(Ad (rt R) Ah),R,R,⟨by decide,R⟩,R,R,⟨R,R⟩⟩
  ·refine Bj (Ab (csr (rm 2 R (Ai ?_))))
   refine D1 5 1 4 (by decide) R ?_
   refine Bv ?_
   obtain rfl:=SJ h
   exact ⟨Or.inr R,_,[0],[.one (.ls 0 ([]:List UInt8).length)],[.arr 5 1 0 (([]:List UInt8).flatMap eU8)],(Ad (rt R) Ah),R,R,⟨by decide,R⟩,R,R,⟨R,R⟩⟩
 ·skip
  refine ccI h R (fun h=>?_) (fun h=>?_)
  ·cases h
  ·refine Bj (Ab ?_)
   exact ⟨(),_,h,⟨R,R,trivial⟩,R⟩
def K0 (b3:(List UInt8)):Option (List UInt8) :=
 some b3
def D5 (a0:List (List UInt8)) (s4:Int × (List UInt8)):Option (LB (Int × (List UInt8)) ((List UInt8))) :=
 if (decide (s4.1<(a0.length:Int))) then ((idx a0 s4.1).bind fun u5=>if (s4.2.length+u5.length)*1≤140737488355328 then (some (.cont ((wI (s4.1+1)),(s4.2++u5)))) else none) else (some (.brk s4.2))
def Hk (a0:List (List UInt8)) (b1:Int):Option (List UInt8) :=
 (Jh b1).bind fun v2=>(C5 (D5 a0) fuel (0,v2)).bind fun e7=>K0 e7
def Ea (a0:List (List UInt8)) (s8:Int × Int):Option (LB (Int × Int) (Int)) :=
 if (decide (s8.2<(a0.length:Int))) then ((idx a0 s8.2).bind fun u9=>if (decide ((wI (s8.1+(u9.length:Int)))<0)) then none else (some (.cont ((wI (s8.1+(u9.length:Int))),(wI (s8.2+1)))))) else (some (.brk s8.1))
def Hj (a0:List (List UInt8)):Option (List UInt8) :=
 (C5 (Ea a0) fuel (0,0)).bind fun e10=>Hk a0 e10
theorem Su {a0:List (List UInt8)} {r:(List UInt8)} (h:Hj a0=some r):De Tryz.prog 137 [] [.one (.sl a0.length (a0.flatMap (eL eU8)))] (fun y m'=>y=.s (.one (.ls 0 r.length))∧m'=[.arr 5 1 0 (r.flatMap eU8)]):=by
 unfold Hj at h
 refine Da Tryz.func137 R (nt:=36) R (Nbl R) ?_
 intro w0 S0 X0 H0
 refine csr (rm 1 R (Ai (csr (rm 1 R (Ai (Br (csr (rm 1 R (sv R (Ax Sn R) (rm 1 R (Ai (Dt (Int) (fun b1=>[(0,.s (.one (.sl a0.length (a0.flatMap (eL eU8))))),(3,.s (.one (Ii6 b1)))]) (fun b1=>[]) (fun b1=>Hk a0 b1=some r) (fun _ _=>A5 R) (fun _ _=>Ap R) (fun _ _=>Nbl R) (fun b1 h=>?_) ?_))))))))))))
 ·unfold Hk at h
  refine csr (sv R (Bc R) ?_)
  obtain ⟨v2,hv2,h⟩:=Ae h
  refine Ho (x':=.s (.one (.ls 0 v2.length))) (M':=[.arr 5 1 0 (v2.flatMap eU8)]) [] R Avt (.func _) (Aa R (Aa R Af)) (U9 hv2) R R (by decide) R R R ?_
  refine rm 1 R (Ai (Br (csr (rm 1 R (sv R (Ax Sn R) (rm 1 R (Ai (Dt ((List UInt8)) (fun b3=>[(6,.s (.one (.ls 0 b3.length)))]) (fun b3=>[.arr 5 1 0 (b3.flatMap eU8)]) (fun b3=>K0 b3=some r) (fun _ _=>A5 R) (fun _ _=>Ap R) (fun _ _=>Nbl R) (fun b3 h=>?_) ?_))))))))
  ·unfold K0 at h
   refine csr (rm 2 R (Ai (Bv ?_)))
   obtain rfl:=SJ h
   exact ⟨Or.inr R,_,[0],[.one (.ls 0 b3.length)],[.arr 5 1 0 (b3.flatMap eU8)],(Ad (rt R) Ah),R,R,⟨by decide,R⟩,R,R,⟨R,R⟩⟩
  ·skip
   refine Bu ?_
   obtain ⟨x4,hx4,ho4⟩:=Ae h
   refine B6 (G:=Nat × (Int × (List UInt8))) (fun g=>[(6,.s (.one (.ls 0 g.2.2.length))),(25,.s (.one (.sl a0.length (a0.flatMap (eL eU8))))),(26,.s (.one (Ii6 (a0.length:Int)))),(27,.s (.one (Ii6 g.2.1)))]) (fun g=>[.arr 5 1 0 (g.2.2.flatMap eU8)]) (fun g=>C5 (D5 a0) g.1 g.2=some x4) (fun g=>g.1) (fuel,(0,v2)) hx4 ⟨R,R,R,R,trivial⟩ [] R (fun _ _=>A5 R) (fun _ _=>Ap R) (fun _ _=>Nbl R) ?_
   clear hx4 h
   rintro ⟨n4,s4⟩ h
   obtain ⟨n4,y4,rfl,h,hk4⟩:=C8 h
   unfold D5 at h
   refine csr (sv R (Bw R R) (Ai (Br (ccI h R (fun h=>?_) (fun h=>?_)))))
   ·refine Bj (Ab (Br (Bu (Br (As ?_)))))
    obtain ⟨u5,hu5,h⟩:=Ae h
    refine sv R (Cb (f:=(eL eU8)) Sn (fun _=>R) R R R R hu5) ?_
    refine sv R (Ak Nr R (.cp _) R) (rm 1 R (Ai (As (rm 1 R (sv R (Bc R) ?_)))))
    obtain ⟨hb6,h⟩:=Cy h
    refine Wb (f:=eU8) (xs:=s4.2) (us:=u5) R Tryz.underlying56 ei5 Ayg (fun _=>R) R R (.one _ _ _ _ (.id _ R)) R R R (.sl _ _ _ (A1 (f:=eU8) (fun _=>R) _)) R R hb6 (by decide) ?_
    refine rm 1 R (Ks (Ar (Ab (As (sv R (Bs R R) (rm 1 R (Ai ?_)))))))
    obtain rfl:=SJ h
    exact ⟨(n4,((wI (s4.1+1)),(s4.2++u5))),_,hk4,⟨R,R,R,R,trivial⟩,R,Nat.lt_succ_self _⟩
   ·refine Di (Au (Au (Bn (Ab ?_))))
    obtain rfl:=SJ h
    obtain rfl:_=x4:=hk4
    exact ⟨s4.2,_,ho4,⟨R,trivial⟩,R⟩
 ·skip
  refine Bu ?_
  obtain ⟨x8,hx8,ho8⟩:=Ae h
  refine B6 (G:=Nat × (Int × Int)) (fun g=>[(0,.s (.one (.sl a0.length (a0.flatMap (eL eU8))))),(3,.s (.one (Ii6 g.2.1))),(9,.s (.one (.sl a0.length (a0.flatMap (eL eU8))))),(10,.s (.one (Ii6 (a0.length:Int)))),(11,.s (.one (Ii6 g.2.2)))]) (fun g=>[]) (fun g=>C5 (Ea a0) g.1 g.2=some x8) (fun g=>g.1) (fuel,(0,0)) hx8 ⟨R,R,R,R,R,trivial⟩ [] R (fun _ _=>A5 R) (fun _ _=>Ap R) (fun _ _=>Nbl R) ?_
  clear hx8 h
  rintro ⟨n8,s8⟩ h
  obtain ⟨n8,y8,rfl,h,hk8⟩:=C8 h
  unfold Ea at h
  refine csr (sv R (Bw R R) (Ai (Br (ccI h R (fun h=>?_) (fun h=>?_)))))
  ·refine Bj (Ab (Br (Bu (Br (As ?_)))))
   obtain ⟨u9,hu9,h⟩:=Ae h
   refine sv R (Cb (f:=(eL eU8)) Sn (fun _=>R) R R R R hu9) ?_
   refine sv R (Ak Nr R (.cp _) R) (rm 1 R (Ai (csr (rm 2 R (sv R (Ax X9 R) (sv R (Bs R R) (rm 1 R (Ai (csr (rm 1 R (sv R (Bw R R) (Ai (ccI h R (fun h=>?_) (fun h=>?_))))))))))))))
   ·cases h
   ·refine Bj (Ar (Ab (As (sv R (Bs R R) (rm 1 R (Ai ?_))))))
    obtain rfl:=SJ h
    exact ⟨(n8,((wI (s8.1+(u9.length:Int))),(wI (s8.2+1)))),_,hk8,⟨R,R,R,R,R,trivial⟩,R,Nat.lt_succ_self _⟩
  ·refine Di (Au (Au (Bn (Ab ?_))))
   obtain rfl:=SJ h
   obtain rfl:_=x8:=hk8
   exact ⟨s8.1,_,ho8,⟨R,R,trivial⟩,R⟩
def Pg (a0:List UInt8):Option Bi :=
 (Hj [a0,[(UInt8.ofBitVec (0#8))]]).bind fun v1=>some (Bi.mk a0 v1 false)
theorem Zz {a0:List UInt8} {r:Bi} (h:Pg a0=some r):Bt Tryz.prog 65 [.one (.sl a0.length (a0.flatMap eU8))] (·=.s (.agg (EL.el r))):=by
 unfold Pg at h
 refine A4 Tryz.func65 R (nt:=9) R (Nbl R) ?_
 intro w0 S0
 refine csr (Bq R Ax0 (Ai (csr (rm 1 R (sv R (Bc R) ?_)))))
 refine Gk R Tryz.underlying56 ei5 R R (List.all_eq_true.1 R) (by decide) ?_
 refine P4 [.box [Znl,Znl,.b false],.arr 5 1 0 ([(UInt8.ofBitVec (0#8))].flatMap eU8)] R ?_
 refine Aii 5 R (by (repeat' first | exact J7.nil _ | apply J7.cons | apply Jm.one | apply Jm.agg | exact Dm.nil | exact Dm.ls _ _ _ _ _ _ R (A1 (f:=eU8) (fun _=>R) ([(UInt8.ofBitVec (0#8))]:List UInt8)).symm | exact Dm.ls _ _ _ _ _ _ R (A1 (f:=eU8) (fun _=>R) _).symm | exact Dm.id _ R | exact Cw.nil _ | apply Cw.cons)) ?_
 refine Afh (out:=([a0,[(UInt8.ofBitVec (0#8))]]:List (List UInt8)).flatMap (eL eU8)) R Tryz.underlying25 Ahl (Av R (Av R Az)) (.cons _ _ _ _ _ _ _ R R (Nbl R) (.cons _ _ _ _ _ _ _ R R (Nbl R) (.nil _))) R (by decide) ?_
 refine Aii 6 R (by (repeat' first | exact J7.nil _ | apply J7.cons | apply Jm.one | apply Jm.agg | exact Dm.nil | exact Dm.ls _ _ _ _ _ _ R (A1 (f:=(eL eU8)) (fun _=>R) ([a0,[(UInt8.ofBitVec (0#8))]]:List (List UInt8))).symm | exact Dm.ls _ _ _ _ _ _ R (A1 (f:=(eL eU8)) (fun _=>R) _).symm | exact Dm.ls _ _ _ _ _ _ R (A1 (f:=eU8) (fun _=>R) _).symm | exact Dm.id _ R | exact Cw.nil _ | apply Cw.cons)) ?_
 obtain ⟨v1,hv1,h⟩:=Ae h
 refine Ho (x':=.s (.one (.ls 3 v1.length))) (M':=[.box [Znl,Znl,.b false],.arr 5 1 ([(UInt8.ofBitVec (0#8))].flatMap eU8).length ([(UInt8.ofBitVec (0#8))].flatMap eU8),.arr 56 1 ([a0,[(UInt8.ofBitVec (0#8))]].flatMap (eL eU8)).length ([a0,[(UInt8.ofBitVec (0#8))]].flatMap (eL eU8)),.arr 5 1 0 (v1.flatMap eU8)]) [] R Axe (.func _) (Aa R Af) (Su hv1) R R (by decide) R R R ?_
 refine sv R (A6 Ax0 Ayr (Av R (Av R Az)) (.cons _ _ _ _ _ _ _ R R (Nbl R) (.cons _ _ _ _ _ _ _ R R (Nbl R) (.nil _)))) (sst Ay2 R R R R R (Ai (Bv ?_)))
 obtain rfl:=SJ h
 refine ⟨Or.inr R,_,_,_,(Ad (ra Abw R R R) Ah),(by (repeat' first | exact J7.nil _ | apply J7.cons | apply Jm.one | apply Jm.agg | exact Dm.nil | exact Dm.ls _ _ _ _ _ _ R (A1 (f:=(eL eU8)) (fun _=>R) _).symm | exact Dm.ls _ _ _ _ _ _ R (A1 (f:=eU8) (fun _=>R) _).symm | exact Dm.id _ R | exact Cw.nil _ | apply Cw.cons)),?_⟩
 rfl
def I7 (a0:Int) (b1:Unit):Option (List A0) :=
 if (decide (0<(wI (a0-(wI (0-0)))))) then (if 0<(wI (a0-(wI (0-0))))∧(wI (a0-(wI (0-0))))*((64:Nat):Int)≤281474976710656 then (if (0:Int)≤0∧0≤((List.replicate (wI (a0-(wI (0-0)))).toNat Qd).length:Int) then (some ((List.replicate (wI (a0-(wI (0-0)))).toNat Qd).take (0:Int).toNat)) else none) else none) else (some ([]:List A0))
def Jy (a0:Int):Option (List A0) :=
 if (decide (a0<0)) then none else (I7 a0 ())
theorem Vg {a0:Int} {r:(List A0)} (h:Jy a0=some r):De Tryz.prog 268 [] [.one (Znl),.one (Ii6 a0)] (fun y m'=>y=.s (.one (.ls 0 r.length))∧m'=[.arr 142 4 0 (r.flatMap Aq)]):=by
 unfold Jy at h
 refine Da Tryz.func268 R (nt:=27) R (Nbl R) ?_
 intro w0 S0 X0 H0
 refine csr (rm 1 R (Ai (Br (csr (rm 1 R (sv R (Bw R R) (Ai (Dt (Unit) (fun b1=>[(0,.s (.one (Znl))),(1,.s (.one (Ii6 a0)))]) (fun b1=>[]) (fun b1=>I7 a0 b1=some r) (fun _ _=>A5 R) (fun _ _=>Ap R) (fun _ _=>Nbl R) (fun b1 h=>?_) ?_))))))))
 ·unfold I7 at h
  refine Br (csr (rm 2 R (sv R (Gj Aat R) (rm 1 R (sv R (Fp Aat R) (sv R (Nh R R) (sv R (Nh R R) (rm 1 R (Ai (csr (rm 1 R (sv R (C7 R R) (Ai (ccI h R (fun h=>?_) (fun h=>?_)))))))))))))))
  ·refine As (rm 2 R (sv R (Gj Aat R) (sv R (Mj Aat R R) (sv R (Bc R) ?_))))
   obtain ⟨hm2,h⟩:=Cy h
   refine Ahj (f:=Aq) (z:=Qd) R Tryz.underlying30 Akk Tryz.underlying3 (fun _=>R) R R R hm2 (by decide) ?_
   refine rm 1 R (sv R (Fp Aat R) ?_)
   obtain ⟨hs3,h⟩:=Cy h
   refine Aau (f:=Aq) R Aat (fun _=>R) R R R R R hs3 ?_
   refine rm 1 R (Ai (csr (rm 2 R (Ai (Bv ?_)))))
   obtain rfl:=SJ h
   exact ⟨Or.inr R,_,[1],[.one (.ls 0 ((List.replicate (wI (a0-(wI (0-0)))).toNat Qd).take (0:Int).toNat).length)],[.arr 142 4 0 (((List.replicate (wI (a0-(wI (0-0)))).toNat Qd).take (0:Int).toNat).flatMap Aq)],(Ad (rt R) Ah),R,R,⟨by decide,R⟩,R,R,⟨R,R⟩⟩
  ·refine Bj (Ab (csr (rm 2 R (Ai ?_))))
   refine D1 142 4 4 (by decide) R ?_
   refine Bv ?_
   obtain rfl:=SJ h
   exact ⟨Or.inr R,_,[0],[.one (.ls 0 ([]:List A0).length)],[.arr 142 4 0 (([]:List A0).flatMap Aq)],(Ad (rt R) Ah),R,R,⟨by decide,R⟩,R,R,⟨R,R⟩⟩
 ·skip
  refine ccI h R (fun h=>?_) (fun h=>?_)
  ·cases h
  ·refine Bj (Ab ?_)
   exact ⟨(),_,h,⟨R,R,trivial⟩,R⟩
def K5 (b3:(List A0)):Option (List A0) :=
 some b3
def D6 (a0:List (List A0)) (s4:Int × (List A0)):Option (LB (Int × (List A0)) ((List A0))) :=
 if (decide (s4.1<(a0.length:Int))) then ((idx a0 s4.1).bind fun u5=>if (s4.2.length+u5.length)*64≤140737488355328 then (some (.cont ((wI (s4.1+1)),(s4.2++u5)))) else none) else (some (.brk s4.2))
def Hl (a0:List (List A0)) (b1:Int):Option (List A0) :=
 (Jy b1).bind fun v2=>(C5 (D6 a0) fuel (0,v2)).bind fun e7=>K5 e7
def D8 (a0:List (List A0)) (s8:Int × Int):Option (LB (Int × Int) (Int)) :=
 if (decide (s8.2<(a0.length:Int))) then ((idx a0 s8.2).bind fun u9=>if (decide ((wI (s8.1+(u9.length:Int)))<0)) then none else (some (.cont ((wI (s8.1+(u9.length:Int))),(wI (s8.2+1)))))) else (some (.brk s8.1))
def Fo (a0:List (List A0)):Option (List A0) :=
 (C5 (D8 a0) fuel (0,0)).bind fun e10=>Hl a0 e10
theorem Tf {a0:List (List A0)} {r:(List A0)} (h:Fo a0=some r):De Tryz.prog 250 [] [.one (.sl a0.length (a0.flatMap (eL Aq)))] (fun y m'=>y=.s (.one (.ls 0 r.length))∧m'=[.arr 142 4 0 (r.flatMap Aq)]):=by
 unfold Fo at h
 refine Da Tryz.func250 R (nt:=36) R (Nbl R) ?_
 intro w0 S0 X0 H0
 refine csr (rm 1 R (Ai (csr (rm 1 R (Ai (Br (csr (rm 1 R (sv R (Ax Amv R) (rm 1 R (Ai (Dt (Int) (fun b1=>[(0,.s (.one (.sl a0.length (a0.flatMap (eL Aq))))),(3,.s (.one (Ii6 b1)))]) (fun b1=>[]) (fun b1=>Hl a0 b1=some r) (fun _ _=>A5 R) (fun _ _=>Ap R) (fun _ _=>Nbl R) (fun b1 h=>?_) ?_))))))))))))
 ·unfold Hl at h
  refine csr (sv R (Bc R) ?_)
  obtain ⟨v2,hv2,h⟩:=Ae h
  refine Ho (x':=.s (.one (.ls 0 v2.length))) (M':=[.arr 142 4 0 (v2.flatMap Aq)]) [] R Avd (.func _) (Aa R (Aa R Af)) (Vg hv2) R R (by decide) R R R ?_
  refine rm 1 R (Ai (Br (csr (rm 1 R (sv R (Ax Amv R) (rm 1 R (Ai (Dt ((List A0)) (fun b3=>[(6,.s (.one (.ls 0 b3.length)))]) (fun b3=>[.arr 142 4 0 (b3.flatMap Aq)]) (fun b3=>K5 b3=some r) (fun _ _=>A5 R) (fun _ _=>Ap R) (fun _ _=>Nbl R) (fun b3 h=>?_) ?_))))))))
  ·unfold K5 at h
   refine csr (rm 2 R (Ai (Bv ?_)))
   obtain rfl:=SJ h
   exact ⟨Or.inr R,_,[0],[.one (.ls 0 b3.length)],[.arr 142 4 0 (b3.flatMap Aq)],(Ad (rt R) Ah),R,R,⟨by decide,R⟩,R,R,⟨R,R⟩⟩
  ·skip
   refine Bu ?_
   obtain ⟨x4,hx4,ho4⟩:=Ae h
   refine B6 (G:=Nat × (Int × (List A0))) (fun g=>[(6,.s (.one (.ls 0 g.2.2.length))),(25,.s (.one (.sl a0.length (a0.flatMap (eL Aq))))),(26,.s (.one (Ii6 (a0.length:Int)))),(27,.s (.one (Ii6 g.2.1)))]) (fun g=>[.arr 142 4 0 (g.2.2.flatMap Aq)]) (fun g=>C5 (D6 a0) g.1 g.2=some x4) (fun g=>g.1) (fuel,(0,v2)) hx4 ⟨R,R,R,R,trivial⟩ [] R (fun _ _=>A5 R) (fun _ _=>Ap R) (fun _ _=>Nbl R) ?_
   clear hx4 h
   rintro ⟨n4,s4⟩ h
   obtain ⟨n4,y4,rfl,h,hk4⟩:=C8 h
   unfold D6 at h
   refine csr (sv R (Bw R R) (Ai (Br (ccI h R (fun h=>?_) (fun h=>?_)))))
   ·refine Bj (Ab (Br (Bu (Br (As ?_)))))
    obtain ⟨u5,hu5,h⟩:=Ae h
    refine sv R (Cb (f:=(eL Aq)) Amv (fun _=>R) R R R R hu5) ?_
    refine sv R (Ak Ah6 R (.cp _) R) (rm 1 R (Ai (As (rm 1 R (sv R (Bc R) ?_)))))
    obtain ⟨hb6,h⟩:=Cy h
    refine Wb (f:=Aq) (xs:=s4.2) (us:=u5) R Tryz.underlying30 Akk Ax3 (fun _=>R) R R (.one _ _ _ _ (.id _ R)) R R R (.sl _ _ _ (A1 (f:=Aq) (fun _=>R) _)) R R hb6 (by decide) ?_
    refine rm 1 R (Ks (Ar (Ab (As (sv R (Bs R R) (rm 1 R (Ai ?_)))))))
    obtain rfl:=SJ h
    exact ⟨(n4,((wI (s4.1+1)),(s4.2++u5))),_,hk4,⟨R,R,R,R,trivial⟩,R,Nat.lt_succ_self _⟩
   ·refine Di (Au (Au (Bn (Ab ?_))))
    obtain rfl:=SJ h
    obtain rfl:_=x4:=hk4
    exact ⟨s4.2,_,ho4,⟨R,trivial⟩,R⟩
 ·skip
  refine Bu ?_
  obtain ⟨x8,hx8,ho8⟩:=Ae h
  refine B6 (G:=Nat × (Int × Int)) (fun g=>[(0,.s (.one (.sl a0.length (a0.flatMap (eL Aq))))),(3,.s (.one (Ii6 g.2.1))),(9,.s (.one (.sl a0.length (a0.flatMap (eL Aq))))),(10,.s (.one (Ii6 (a0.length:Int)))),(11,.s (.one (Ii6 g.2.2)))]) (fun g=>[]) (fun g=>C5 (D8 a0) g.1 g.2=some x8) (fun g=>g.1) (fuel,(0,0)) hx8 ⟨R,R,R,R,R,trivial⟩ [] R (fun _ _=>A5 R) (fun _ _=>Ap R) (fun _ _=>Nbl R) ?_
  clear hx8 h
  rintro ⟨n8,s8⟩ h
  obtain ⟨n8,y8,rfl,h,hk8⟩:=C8 h
  unfold D8 at h
  refine csr (sv R (Bw R R) (Ai (Br (ccI h R (fun h=>?_) (fun h=>?_)))))
  ·refine Bj (Ab (Br (Bu (Br (As ?_)))))
   obtain ⟨u9,hu9,h⟩:=Ae h
   refine sv R (Cb (f:=(eL Aq)) Amv (fun _=>R) R R R R hu9) ?_
   refine sv R (Ak Ah6 R (.cp _) R) (rm 1 R (Ai (csr (rm 2 R (sv R (Ax Aat R) (sv R (Bs R R) (rm 1 R (Ai (csr (rm 1 R (sv R (Bw R R) (Ai (ccI h R (fun h=>?_) (fun h=>?_))))))))))))))
   ·cases h
   ·refine Bj (Ar (Ab (As (sv R (Bs R R) (rm 1 R (Ai ?_))))))
    obtain rfl:=SJ h
    exact ⟨(n8,((wI (s8.1+(u9.length:Int))),(wI (s8.2+1)))),_,hk8,⟨R,R,R,R,R,trivial⟩,R,Nat.lt_succ_self _⟩
  ·refine Di (Au (Au (Bn (Ab ?_))))
   obtain rfl:=SJ h
   obtain rfl:_=x8:=hk8
   exact ⟨s8.1,_,ho8,⟨R,R,trivial⟩,R⟩
def Ml (a0:Bz) (a1:Int) (a2:Bi) (b1:Unit):Option (Bz × Int) :=
 (G2 a0.L).bind fun v2=>(Ia (A0.mk a1 a2)).bind fun v3=>if (Adu v2 v3) then (some ((Bz.mk a0.L),0)) else (if (decide (128≤(a0.L.length:Int))) then (some ((Bz.mk ([]:List A0)),8)) else ((Fo [a0.L,[(A0.mk a1 a2)]]).bind fun v4=>some ((Bz.mk v4),0)))
def G0 (a0:Bz) (a1:Int) (a2:Bi):Option (Bz × Int) :=
 (F1 (Bz.mk a0.L)).bind fun v5=>if (!v5) then (some ((Bz.mk ([]:List A0)),1)) else ((Df (A0.mk a1 a2)).bind fun v6=>if (!v6) then (some ((Bz.mk ([]:List A0)),1)) else (Ml a0 a1 a2 ()))
theorem Xu {a0:Bz} {a1:Int} {a2:Bi} {r:Bz × Int} (h:G0 a0 a1 a2=some r):Bt Tryz.prog 199 [.agg [.sl a0.L.length (a0.L.flatMap Aq)],.one (Ii6 a1),.agg (EL.el a2)] (·=.tup [.agg [.sl r.1.L.length (r.1.L.flatMap Aq)],.one (Ii6 r.2)]):=by
 unfold G0 at h
 refine A4 Tryz.func199 R (nt:=46) R (Nbl R) ?_
 intro w0 S0
 refine csr (F0 R R (F0 R R (Bq R Aou (rm 1 R (Ai (csr (rm 1 R (ld Abw R R R R (sv R (A6 Ail Awf (Av R (Av R Az)) (.cons _ _ _ _ _ _ _ R R (Nbl R) (.cons _ _ _ _ _ _ _ R R (Nbl R) (.nil _)))) (Bq R Ail (sst Aj1 R R R R R (Ai (Br (Br (Hp (Unit) (fun b1=>[(3,.s (.one (.lp 0 0))),(6,.s (.one (.lp 2 0))),(8,.s (.one (.lp 3 0)))]) (fun b1=>[.box [.sl a0.L.length (a0.L.flatMap Aq)],.box (EL.el a2),.box [Znl],.box [Ii6 a1,.sl a2.Lo.length (a2.Lo.flatMap eU8),.sl a2.Hi.length (a2.Hi.flatMap eU8),.b a2.Open]]) (fun b1=>Ml a0 a1 a2 b1=some r) (fun _ _=>A5 R) (fun _ _=>Ap R) (fun _ _=>Nbl R) (fun b1 h=>?_) ?_)))))))))))))))
 ·unfold Ml at h
  refine Br (Br (Z0 ?_))
  obtain ⟨v2,hv2,h⟩:=Ae h
  obtain ⟨v3,hv3,h⟩:=Ae h
  refine Ki [2] [0,1,3,0,15,31,63,127,127,255,1023] [[.box [.sl a0.L.length (a0.L.flatMap Aq)],.box (EL.el a2),.box [Znl],.box [Ii6 a1,.sl a2.Lo.length (a2.Lo.flatMap eU8),.sl a2.Hi.length (a2.Hi.flatMap eU8),.b a2.Open],.hole],[.box [.sl a0.L.length (a0.L.flatMap Aq)],.box (EL.el a2),.box [Znl],.box [Ii6 a1,.sl a2.Lo.length (a2.Lo.flatMap eU8),.sl a2.Hi.length (a2.Hi.flatMap eU8),.b a2.Open],T4 D3 v2]] (by kernel_rfl) mixed (by kernel_rfl) (by decide) R R R R ?_
  refine ev (Bg 0 R R) R R (Ac Un R) (ev (Bg 0 R R) R R (Ak Ah6 R (.lp _ _ _ R) R) (ee (x:=.s (.one (.mp 0 4))) 0 R R R R R (fun ζ=>?_) ?_))
  ·refine Acd 4 R Aub (.func _) (Aa R Af) (Qq hv2) R R R ?_
   exact Ta
  refine ev (Ca (md:=[.box [.sl a0.L.length (a0.L.flatMap Aq)],.box (EL.el a2),.box [Znl],.box [Ii6 a1,.sl a2.Lo.length (a2.Lo.flatMap eU8),.sl a2.Hi.length (a2.Hi.flatMap eU8),.b a2.Open],.dead]) ⟨⟨R,⟨R,⟨R,⟨R,⟨trivial,trivial⟩⟩⟩⟩⟩,⟨⟨R,⟨R,⟨R,⟨R,⟨trivial,trivial⟩⟩⟩⟩⟩,trivial⟩⟩) R R (Bf Aah R (.lp _ _ _ R) (Nbl R)) (ed (Bg 1 R R) R R (C9 Aug (Aa R Af) R (Py hv3)) (ev (Bg 1 R R) R R (Aib (M:=v2) (k:=v3) Asr Tryz.underlying299 zv3 R R R) (ev (Bg 1 R R) R R (Cd R) (ev (Bg 1 R R) R R (Aj R R) (ev (Bg 1 R R) R R (Aj R R) (ev (Bg 1 R R) R R (Ko R) (ev (Bg 1 R R) R R (Ko R) (Abk (Ab (csr (rm 1 R (Ai (ccI h R (fun h=>?_) (fun h=>?_))))))))))))))
  ·refine csr (ld Ab7 R R R R (sst Ape R R R R R (rm 1 R (Ai (Bv (Ag ?_))))))
   obtain rfl:=SJ h
   exact dn (Ad (ra Ab7 R R R) (Ad (rt R) Ah)) (Ao R) R
  ·refine Bj (Ab (Br (csr (fl Un Ah6 R R R R R R (sv R (Ax Aat R) (sv R (He R R) (Ai (ccI h R (fun h=>?_) (fun h=>?_)))))))))
   ·refine csr (sv R (A6 Aou Ato Az (.nil _)) (sst Ape R R R R R (rm 1 R (Ai (Bv (Ag ?_))))))
    obtain rfl:=SJ h
    exact dn (Ad (ra Ab7 R R R) (Ad (rt R) Ah)) (Iz R) R
   ·refine Bj (Ab (csr (fl Un Ah6 R R R R R R (sv R (Bf Aah R (.lp _ _ _ R) (Nbl R)) ?_))))
    refine Gk R Tryz.underlying30 Akk R R (List.all_eq_true.1 R) (by decide) ?_
    refine P4 [.box [.sl a0.L.length (a0.L.flatMap Aq)],.box (EL.el a2),.box [Znl],.box [Ii6 a1,.sl a2.Lo.length (a2.Lo.flatMap eU8),.sl a2.Hi.length (a2.Hi.flatMap eU8),.b a2.Open],T4 D3 v2,.arr 142 4 0 ([(A0.mk a1 a2)].flatMap Aq)] R ?_
    refine Aii 42 R (by (repeat' first | exact J7.nil _ | apply J7.cons | apply Jm.one | apply Jm.agg | exact Dm.nil | exact Dm.ls _ _ _ _ _ _ R (A1 (f:=Aq) (fun _=>R) ([(A0.mk a1 a2)]:List A0)).symm | exact Dm.ls _ _ _ _ _ _ R (A1 (f:=Aq) (fun _=>R) _).symm | exact Dm.id _ R | exact Cw.nil _ | apply Cw.cons)) ?_
    refine Afh (out:=([a0.L,[(A0.mk a1 a2)]]:List (List A0)).flatMap (eL Aq)) R Tryz.underlying396 Ay8 (Av R (Av R Az)) (.cons _ _ _ _ _ _ _ R R (Nbl R) (.cons _ _ _ _ _ _ _ R R (Nbl R) (.nil _))) R (by decide) ?_
    refine Aii 43 R (by (repeat' first | exact J7.nil _ | apply J7.cons | apply Jm.one | apply Jm.agg | exact Dm.nil | exact Dm.ls _ _ _ _ _ _ R (A1 (f:=(eL Aq)) (fun _=>R) ([a0.L,[(A0.mk a1 a2)]]:List (List A0))).symm | exact Dm.ls _ _ _ _ _ _ R (A1 (f:=(eL Aq)) (fun _=>R) _).symm | exact Dm.ls _ _ _ _ _ _ R (A1 (f:=Aq) (fun _=>R) _).symm | exact Dm.id _ R | exact Cw.nil _ | apply Cw.cons)) ?_
    obtain ⟨v4,hv4,h⟩:=Ae h
    refine Ho (x':=.s (.one (.ls 7 v4.length))) (M':=[.box [.sl a0.L.length (a0.L.flatMap Aq)],.box (EL.el a2),.box [Znl],.box [Ii6 a1,.sl a2.Lo.length (a2.Lo.flatMap eU8),.sl a2.Hi.length (a2.Hi.flatMap eU8),.b a2.Open],T4 D3 v2,.arr 142 4 ([(A0.mk a1 a2)].flatMap Aq).length ([(A0.mk a1 a2)].flatMap Aq),.arr 30 1 ([a0.L,[(A0.mk a1 a2)]].flatMap (eL Aq)).length ([a0.L,[(A0.mk a1 a2)]].flatMap (eL Aq)),.arr 142 4 0 (v4.flatMap Aq)]) [] R Aws (.func _) (Aa R Af) (Tf hv4) R R (by decide) R R R ?_
    refine sv R (A6 Aou Ato (Av R Az) (.cons _ _ _ _ _ _ _ R R (Nbl R) (.nil _))) (sst Ape R R R R R (rm 1 R (Ai (Bv ?_))))
    obtain rfl:=SJ h
    refine ⟨Or.inr R,_,_,_,(Ad (ra Ab7 R R R) (Ad (rt R) Ah)),(by (repeat' first | exact J7.nil _ | apply J7.cons | apply Jm.one | apply Jm.agg | exact Dm.nil | exact Dm.ls _ _ _ _ _ _ R (A1 (f:=(eL Aq)) (fun _=>R) _).symm | exact Dm.ls _ _ _ _ _ _ R (A1 (f:=Aq) (fun _=>R) _).symm | exact Dm.id _ R | exact Cw.nil _ | apply Cw.cons)),?_⟩
    rfl
 ·skip
  refine As (sv R (Bf Ab7 R (.lp _ _ _ R) (Nbl R)) ?_)
  obtain ⟨v5,hv5,h⟩:=Ae h
  refine Bb R At8 (Aa R Af) (Ao R) (Rm hv5) (sv R (B2 R) (rm 1 R (ssI 17 h R (fun h=>?_) (fun h=>?_))))
  ·refine rm 4 R (Ai (Cp R (fun _=>?_) (fun hx=>Bool.noConfusion hx)))
   refine csr (sv R (A6 Aou Ato Az (.nil _)) (sst Ape R R R R R (rm 1 R (Ai (Bv (Ag ?_))))))
   obtain rfl:=SJ h
   exact dn (Ad (ra Ab7 R R R) (Ad (rt R) Ah)) (Iz R) R
  ·refine son R R R (ld Aah R R R R (son R R R ?_))
   obtain ⟨v6,hv6,h⟩:=Ae h
   refine Bb R As9 (Aa R Af) (Ao R) (O7 hv6) (son R R R (sv R (B2 R) (rm 1 R (Ai (ccI h R (fun h=>?_) (fun h=>?_))))))
   ·refine csr (sv R (A6 Aou Ato Az (.nil _)) (sst Ape R R R R R (rm 1 R (Ai (Bv (Ag ?_))))))
    obtain rfl:=SJ h
    exact dn (Ad (ra Ab7 R R R) (Ad (rt R) Ah)) (Iz R) R
   ·refine Bj (Ab ?_)
    exact ⟨(),_,h,⟨R,R,R,trivial⟩,R⟩
def D4 (a0:List A2):Option (List A2) :=
 if (([]:List A2).length+a0.length)*64≤140737488355328 then (some (([]:List A2)++a0)) else none
theorem Ps {a0:List A2} {r:(List A2)} (h:D4 a0=some r):De Tryz.prog 200 [] [.one (.sl a0.length (a0.flatMap Be))] (fun y m'=>y=.s (.one (.ls 0 r.length))∧m'=[.arr 139 8 0 (r.flatMap Be)]):=by
 unfold D4 at h
 refine Da Tryz.func200 R (nt:=8) R (Nbl R) ?_
 intro w0 S0 X0 H0
 refine csr (rm 1 R (Ai (Br (csr (rm 1 R (Afw R Tryz.underlying29 R (fun nq hnq=>?_)))))))
 cases nq
 ·skip
  refine Ai (Cp R (fun hx=>Bool.noConfusion hx) (fun _=>?_))
  refine Bj (Ab (csr (U5 R Tryz.underlying29 Afs (sv R (Bc R) ?_))))
  obtain ⟨hb1,h⟩:=Cy h
  refine Wb (f:=Be) (xs:=([]:List A2)) (us:=a0) R Tryz.underlying29 Afs Awu (fun _=>R) R R (.one _ _ _ _ (.id _ R)) R R R (.sl _ _ _ (A1 (f:=Be) (fun _=>R) _)) R R hb1 (by decide) ?_
  refine rm 1 R (Ai (Bv ?_))
  obtain rfl:=SJ h
  exact ⟨Or.inr R,_,[0],[.one (.ls 0 (([]:List A2)++a0).length)],[.arr 139 8 0 ((([]:List A2)++a0).flatMap Be)],(Ad (rt R) Ah),R,R,⟨by decide,R⟩,R,R,⟨R,R⟩⟩
 ·obtain rfl:=List.eq_nil_of_length_eq_zero (hnq rfl)
  replace h:(some ([]:List A2))=some r:=by first | exact h | (rw [if_pos (by decide)] at h;exact h)
  refine Ai (Cp R (fun _=>?_) (fun hx=>Bool.noConfusion hx))
  refine csr (rm 1 R (Ai ?_))
  refine D1 139 8 2 (by decide) R ?_
  refine Bv (Ag ?_)
  obtain rfl:=SJ h
  exact ⟨Or.inr R,_,[0],[.one (.ls 0 ([]:List A2).length)],[.arr 139 8 0 (([]:List A2).flatMap Be)],(Ad (rt R) Ah),R,R,⟨by decide,R⟩,R,R,⟨R,R⟩⟩
def Kw (a0:A2) (a1:A2):Option Bool :=
 if (decide (a0.State=2)) then (some (decide (a0.End≤a1.Begin))) else (some false)
theorem Sc {a0:A2} {a1:A2} {r:Bool} (h:Kw a0 a1=some r):Bt Tryz.prog 251 [.agg (EL.el a0),.agg (EL.el a1)] (·=.s (.one (.b r))):=by
 unfold Kw at h
 refine A4 Tryz.func251 R (nt:=15) R (Nbl R) ?_
 intro w0 S0
 refine csr (F0 R R (F0 R R (rm 1 R (Ai (csr (fl Oo ti3 R R R R R R (sv R (B5 R R) (rm 1 R (ssI 8 h R (fun h=>?_) (fun h=>?_))))))))))
 ·refine son R R R (sv R (Ac Qg R) (son R R R (sv R (Ak ti3 R (.lp _ _ _ R) R) (son R R R (sv R (Ac Ux R) (son R R R (sv R (Ak ti3 R (.lp _ _ _ R) R) (son R R R (sv R (Dj R R) (rm 2 R (Ai (Bv ?_))))))))))))
  obtain rfl:=SJ h
  exact dnT R R R R
 ·refine rm 7 R (Ai (Bv ?_))
  obtain rfl:=SJ h
  exact dnT R R R R
def Ez (a0:A2) (a1:A2):Option Bool :=
 (Kw a0 a1).bind fun v1=>if (!v1) then ((Kw a1 a0).bind fun v2=>some (!v2)) else (some false)
theorem Oz {a0:A2} {a1:A2} {r:Bool} (h:Ez a0 a1=some r):Bt Tryz.prog 201 [.agg (EL.el a0),.agg (EL.el a1)] (·=.s (.one (.b r))):=by
 unfold Ez at h
 refine A4 Tryz.func201 R (nt:=15) R (Nbl R) ?_
 intro w0 S0
 refine csr (F0 R R (F0 R R (rm 1 R (Ai (csr (ld I6 R R R R (sv R (Bf I6 R (.lp _ _ _ R) (Nbl R)) ?_)))))))
 obtain ⟨v1,hv1,h⟩:=Ae h
 refine Bb R Auj (Aa R (Aa R Af)) (Ao R) (Sc hv1) (sv R (B2 R) (rm 1 R (ssI 9 h R (fun h=>?_) (fun h=>?_))))
 ·refine son R R R (ld I6 R R R R (son R R R (ld I6 R R R R (son R R R ?_))))
  obtain ⟨v2,hv2,h⟩:=Ae h
  refine Bb R Auj (Aa R (Aa R Af)) (Ao R) (Sc hv2) (son R R R (sv R (B2 R) (rm 2 R (Ai (Bv ?_)))))
  obtain rfl:=SJ h
  exact dnT R R R R
 ·refine rm 6 R (Ai (Bv ?_))
  obtain rfl:=SJ h
  exact dnT R R R R
def Ng (b1:Unit):Option Bool :=
 some false
def Fq (a0:A2) (a1:Bi) (s2:Int):Option (LR (Int) (Unit) (Bool)) :=
 if (decide (s2<(a0.Keys.length:Int))) then ((idx a0.Keys s2).bind fun u3=>(Dq a1 u3).bind fun v4=>if v4 then (some (.ret true)) else (some (.cont (wI (s2+1))))) else (some (.brk ()))
def Kr (a0:A2) (a1:Bi):Option Bool :=
 (Lj (Fq a0 a1) fuel 0).bind fun x=>match x with | .inl r=>some r | .inr e5=>Ng e5
theorem Vw {a0:A2} {a1:Bi} {r:Bool} (h:Kr a0 a1=some r):Bt Tryz.prog 202 [.agg (EL.el a0),.agg (EL.el a1)] (·=.s (.one (.b r))):=by
 unfold Kr at h
 refine A4 Tryz.func202 R (nt:=18) R (Nbl R) ?_
 intro w0 S0
 refine csr (F0 R R (F0 R R (rm 1 R (Ai (Br (csr (fl Sy Abm R R R R R R (sv R (Ax Sn R) (rm 1 R (Ai (Dt (Unit) (fun b1=>[]) (fun b1=>[.box (EL.el a0),.box (EL.el a1)]) (fun b1=>Ng b1=some r) (fun _ _=>A5 R) (fun _ _=>Ap R) (fun _ _=>Nbl R) (fun b1 h=>?_) ?_)))))))))))
 ·unfold Ng at h
  refine csr (rm 1 R (Ai (Bv ?_)))
  obtain rfl:=SJ h
  exact dnT R R R R
 ·skip
  refine Bu ?_
  obtain ⟨x2,hx2,ho2⟩:=Ae h
  refine B6 (G:=Nat × (Int)) (fun g=>[(3,.s (.one (.lp 1 0))),(8,.s (.one (.sl a0.Keys.length (a0.Keys.flatMap (eL eU8))))),(9,.s (.one (Ii6 (a0.Keys.length:Int)))),(10,.s (.one (Ii6 g.2)))]) (fun g=>[.box (EL.el a0),.box (EL.el a1)]) (fun g=>Lj (Fq a0 a1) g.1 g.2=some x2) (fun g=>g.1) (fuel,0) hx2 ⟨R,R,R,R,trivial⟩ [] R (fun _ _=>A5 R) (fun _ _=>Ap R) (fun _ _=>Nbl R) ?_
  clear hx2 h
  rintro ⟨n2,s2⟩ h
  obtain ⟨n2,y2,rfl,h,hk2⟩:=Ff h
  unfold Fq at h
  refine csr (sv R (Bw R R) (Ai (Br (ccI h R (fun h=>?_) (fun h=>?_)))))
  ·refine Bj (Ab (Br (Bu (Br (As ?_)))))
   obtain ⟨u3,hu3,h⟩:=Ae h
   refine sv R (Cb (f:=(eL eU8)) Sn (fun _=>R) R R R R hu3) ?_
   refine sv R (Ak Nr R (.cp _) R) (rm 1 R (Ai (csr (ld Abw R R R R (sv R (Bc R) ?_)))))
   obtain ⟨v4,hv4,h⟩:=Ae h
   refine Bb R Akc (Aa R (Aa R Af)) (Ao R) (L0 hv4) (Ai (ccI h R (fun h=>?_) (fun h=>?_)))
   ·refine csr (rm 1 R (Ai (Bv (Ay (Ag (Ag (Ay (Ag ?_))))))))
    obtain rfl:=SJ h
    obtain rfl:Sum.inl _=x2:=hk2
    replace ho2:some _=some _:=ho2
    obtain rfl:=Option.some.inj ho2
    exact dnT R R R R
   ·refine Bj (Ar (Ab (As (sv R (Bs R R) (rm 1 R (Ai ?_))))))
    obtain rfl:=SJ h
    exact ⟨(n2,(wI (s2+1))),_,hk2,⟨R,R,R,R,trivial⟩,R,Nat.lt_succ_self _⟩
  ·refine Di (Au (Au (Bn (Ab ?_))))
   obtain rfl:=SJ h
   obtain rfl:_=x2:=hk2
   exact ⟨(),_,ho2,trivial,R⟩
def G6  : Option Unit :=
 some ()
theorem Qm  {r:Unit} (h:G6=some r):De Tryz.prog 203 [] [] (fun y m'=>y=.s (.agg [.raw (.func (.func 252) #[] #[]),.raw (.func (.func 253) #[] #[])])∧m'=[]):=by
 unfold G6 at h
 refine Da Tryz.func203 R (nt:=2) R (Nbl R) ?_
 intro w0 S0 X0 H0
 refine csr (Bq R Auh (Ai (csr (sv R (A6 Auh Aww (Av R (Av R Az)) (.cons _ _ _ _ _ _ _ R R (Nbl R) (.cons _ _ _ _ _ _ _ R R (Nbl R) (.nil _)))) (sst Awp R R R R R (Ai (Bv ?_)))))))
 obtain rfl:=SJ h
 exact ⟨Or.inr R,_,[],[.agg [.raw (.func (.func 252) #[] #[]),.raw (.func (.func 253) #[] #[])]],[],(Ad (ra Avl R R R) Ah),R,R,⟨by decide,R⟩,R,R,⟨R,R⟩⟩
def Ka (a0:A2):Option A2 :=
 some ({a0 with Out:=true})
theorem Tb {a0:A2} {r:A2} (h:Ka a0=some r):Bt Tryz.prog 252 [.agg (EL.el a0)] (·=.s (.agg (EL.el r))):=by
 unfold Ka at h
 refine A4 Tryz.func252 R (nt:=5) R (Nbl R) ?_
 intro w0 S0
 refine csr (F0 R R (Bq R Sj (Ai (csr (sv R (Ac Ake R) (sst sz4 R R R R R (Ai (csr (ld I6 R R R R (sst Rx R R R R R (Ai (Bv ?_))))))))))))
 obtain rfl:=SJ h
 exact dnA R I6 R (.lp _ _ _ R) (Nbl R) R R
def Kf (a0:A2):Option A2 :=
 some ({a0 with In:=true})
theorem Ss {a0:A2} {r:A2} (h:Kf a0=some r):Bt Tryz.prog 253 [.agg (EL.el a0)] (·=.s (.agg (EL.el r))):=by
 unfold Kf at h
 refine A4 Tryz.func253 R (nt:=5) R (Nbl R) ?_
 intro w0 S0
 refine csr (F0 R R (Bq R Sj (Ai (csr (sv R (Ac Ak1 R) (sst sz4 R R R R R (Ai (csr (ld I6 R R R R (sst Rx R R R R R (Ai (Bv ?_))))))))))))
 obtain rfl:=SJ h
 exact dnA R I6 R (.lp _ _ _ R) (Nbl R) R R
def Fj (a0:List A2) (a1:Int) (a2:Int):Option (List A2) :=
 (idx a0 a1).bind fun u1=>(Ka u1).bind fun v2=>(idx a0 a1).bind fun u3=>(idx (a0.set a1.toNat v2) a2).bind fun u4=>(Kf u4).bind fun v5=>(idx (a0.set a1.toNat v2) a2).bind fun u6=>some ((a0.set a1.toNat v2).set a2.toNat v5)
theorem O5 {a0:List A2} {a1:Int} {a2:Int} {r:(List A2)} (h:Fj a0 a1 a2=some r):De Tryz.prog 204 [.arr 139 8 0 (a0.flatMap Be)] [.agg [.raw (.func (.func 252) #[] #[]),.raw (.func (.func 253) #[] #[])],.one (.ls 0 a0.length),.one (Ii6 a1),.one (Ii6 a2)] (fun y m'=>y=.tup []∧m'=[.arr 139 8 0 (r.flatMap Be)]):=by
 unfold Fj at h
 refine Da Tryz.func204 R (nt:=28) R (Nbl R) ?_
 intro w0 S0 X0 H0
 refine csr (F0 R R (Ai (Br ?_)))
 obtain ⟨u1,hu1,h⟩:=Ae h
 obtain ⟨v2,hv2,h⟩:=Ae h
 obtain ⟨u3,hu3,h⟩:=Ae h
 refine Ki [10] [0,0,0,4,0,0,48,112,252,511,1023] [[.arr 139 8 0 (a0.flatMap Be),.box [.raw (.func (.func 252) #[] #[]),.raw (.func (.func 253) #[] #[])]],[.arr 139 8 0 ((a0.set a1.toNat v2).flatMap Be),.box [.raw (.func (.func 252) #[] #[]),.raw (.func (.func 253) #[] #[])]]] (by kernel_rfl) mixed (by kernel_rfl) (by decide) R R R R ?_
 refine ev (Bg 0 R R) R R (Bc R) (ev (Bg 0 R R) R R (Bc R) (ev (Bg 0 R R) R R (Ac Arl R) (ev (Bg 0 R R) R R (Ak Asu R (.lp _ _ _ R) R) (ev (Bg 0 R R) R R (Bc R) (ev (Bg 0 R R) R R (Bc R) ?_)))))
 refine ev (Bg 0 rfl rfl) rfl rfl (I4 (f:=Be) P7 (fun _=>rfl) rfl rfl rfl (by first | rfl | exact List.length_set.symm) rfl hu1) ?_
 refine ev (Bg 0 R R) R R (O1 (f:=Be) (sz:=8) 0 I6 (fun _=>R) R R R R (L6 hu1).2 (Nbl R) R) ?_
 refine ed (Bg 0 R R) R R (Sq Awm (.raw _ _ R) (Aa R Af) R (Tb hv2)) ?_
 refine ev (Bg 0 rfl rfl) rfl rfl (I4 (f:=Be) P7 (fun _=>rfl) rfl rfl rfl (by first | rfl | exact List.length_set.symm) rfl hu3) ?_
 refine ee0 0 R R R R (fun ζ=>?_) ?_
 ·refine Abd (f:=Be) (u':=v2) (sz:=8) 0 Rx (fun _=>rfl) rfl rfl rfl rfl (by first | rfl | exact List.length_set.symm) rfl rfl (List.all_eq_true.1 rfl) (L6 hu3).2 (Nbl rfl) rfl ?_
  exact Ta
 refine Abk (Ab (Wx 1 (y:=.s (.one (.ls 0 a0.length))) (.s (.one (.ls 0 (a0.set a1.toNat v2).length))) R (congrArg (fun n=>AV.s (.one (.ls 0 n))) List.length_set.symm) ?_))
 refine Wx 8 (y:=.s (.one (.ls 0 a0.length))) (.s (.one (.ls 0 (a0.set a1.toNat v2).length))) R (congrArg (fun n=>AV.s (.one (.ls 0 n))) List.length_set.symm) ?_
 refine Wx 12 (y:=.s (.one (.ls 0 a0.length))) (.s (.one (.ls 0 (a0.set a1.toNat v2).length))) R (congrArg (fun n=>AV.s (.one (.ls 0 n))) List.length_set.symm) ?_
 obtain ⟨u4,hu4,h⟩:=Ae h
 obtain ⟨v5,hv5,h⟩:=Ae h
 obtain ⟨u6,hu6,h⟩:=Ae h
 refine Ki [10] [0,0,0,4,0,0,48,112,252,511,1023] [[.arr 139 8 0 ((a0.set a1.toNat v2).flatMap Be),.box [.raw (.func (.func 252) #[] #[]),.raw (.func (.func 253) #[] #[])]],[.arr 139 8 0 (((a0.set a1.toNat v2).set a2.toNat v5).flatMap Be),.box [.raw (.func (.func 252) #[] #[]),.raw (.func (.func 253) #[] #[])]]] (by kernel_rfl) mixed (by kernel_rfl) (by decide) R R R R ?_
 refine ev (Bg 0 R R) R R (Bc R) (ev (Bg 0 R R) R R (Bc R) (ev (Bg 0 R R) R R (Ac Arm R) (ev (Bg 0 R R) R R (Ak Asu R (.lp _ _ _ R) R) (ev (Bg 0 R R) R R (Bc R) (ev (Bg 0 R R) R R (Bc R) ?_)))))
 refine ev (Bg 0 rfl rfl) rfl rfl (I4 (f:=Be) P7 (fun _=>rfl) rfl rfl rfl (by first | rfl | exact List.length_set.symm) rfl hu4) ?_
 refine ev (Bg 0 R R) R R (O1 (f:=Be) (sz:=8) 0 I6 (fun _=>R) R R R R (L6 hu4).2 (Nbl R) R) ?_
 refine ed (Bg 0 R R) R R (Sq Awk (.raw _ _ R) (Aa R Af) R (Ss hv5)) ?_
 refine ev (Bg 0 rfl rfl) rfl rfl (I4 (f:=Be) P7 (fun _=>rfl) rfl rfl rfl (by first | rfl | exact List.length_set.symm) rfl hu6) ?_
 refine ee0 0 R R R R (fun ζ=>?_) ?_
 ·refine Abd (f:=Be) (u':=v5) (sz:=8) 0 Rx (fun _=>rfl) rfl rfl rfl rfl (by first | rfl | exact List.length_set.symm) rfl rfl (List.all_eq_true.1 rfl) (L6 hu6).2 (Nbl rfl) rfl ?_
  exact Ta
 refine Abk ?_
 obtain rfl:=SJ h
 exact ⟨Or.inl R,_,[0],[],[.arr 139 8 0 (((a0.set a1.toNat v2).set a2.toNat v5).flatMap Be)],Ah,R,R,⟨by decide,R⟩,R,R,⟨R,R⟩⟩
def I2 (a0:A2):Option Bool :=
 if a0.In then (some a0.Out) else (some false)
theorem Pp {a0:A2} {r:Bool} (h:I2 a0=some r):Bt Tryz.prog 205 [.agg (EL.el a0)] (·=.s (.one (.b r))):=by
 unfold I2 at h
 refine A4 Tryz.func205 R (nt:=9) R (Nbl R) ?_
 intro w0 S0
 refine csr (F0 R R (rm 1 R (Ai (csr (fl Ak1 ti4 R R R R R R (rm 1 R (ssI 5 h R (fun h=>?_) (fun h=>?_))))))))
 ·refine son R R R (sv R (Ac Ake R) (son R R R (sv R (Ak ti4 R (.lp _ _ _ R) R) (rm 2 R (Ai (Bv ?_))))))
  obtain rfl:=SJ h
  exact dnT R R R R
 ·refine rm 4 R (Ai (Bv ?_))
  obtain rfl:=SJ h
  exact dnT R R R R
def Ku (v3:Bz × Int) (b5:(List A2)):Option (Bh × Int) :=
 some ((Bh.mk b5 v3.1),0)
def Nc (v2:Int) (s6:Int × (List A2)) (b8:Unit):Option (LR (Int × (List A2)) ((List A2)) (Bh × Int)) :=
 (G6).bind fun v9=>(Fj s6.2 v2 s6.1).bind fun v10=>if v10.length=s6.2.length then ((idx v10 s6.1).bind fun u12=>(I2 u12).bind fun v13=>if v13 then (some (.ret (Ip,10))) else (some (.cont ((wI (s6.1+1)),v10)))) else none
def Fb (a2:Bi) (v2:Int) (v4:(List A2)) (s6:Int × (List A2)):Option (LR (Int × (List A2)) ((List A2)) (Bh × Int)) :=
 if (decide (s6.1<(v4.length:Int))) then ((idx s6.2 s6.1).bind fun u7=>if (!decide (u7.State=2)) then (some (.cont ((wI (s6.1+1)),s6.2))) else ((idx s6.2 v2).bind fun u14=>(Ez u7 u14).bind fun v15=>if (!v15) then (some (.cont ((wI (s6.1+1)),s6.2))) else ((Kr u7 (Bi.mk a2.Lo a2.Hi a2.Open)).bind fun v16=>if (!v16) then (some (.cont ((wI (s6.1+1)),s6.2))) else (Nc v2 s6 ())))) else (some (.brk s6.2))
def Gy (a0:Bh) (a1:Int) (a2:Bi):Option (Bh × Int) :=
 (J9 a0).bind fun v1=>if (!v1) then (some (Ip,1)) else ((F5 a0 a1).bind fun v2=>if (decide (v2<0)) then (some (Ip,7)) else ((G0 a0.Reads a1 a2).bind fun v3=>if (!decide (v3.2=0)) then (some (Ip,v3.2)) else ((D4 a0.Txs).bind fun v4=>(Lj (Fb a2 v2 v4) fuel (0,v4)).bind fun x=>match x with | .inl r=>some r | .inr e17=>Ku v3 e17)))
theorem Zh {a0:Bh} {a1:Int} {a2:Bi} {r:Bh × Int} (h:Gy a0 a1 a2=some r):Bt Tryz.prog 136 [.agg (EL.el a0),.one (Ii6 a1),.agg (EL.el a2)] (·=.tup [.agg (EL.el r.1),.one (Ii6 r.2)]):=by
 unfold Gy at h
 refine A4 Tryz.func136 R (nt:=79) R (Nbl R) ?_
 intro w0 S0
 refine csr (F0 R R (F0 R R (Bq R Wq (rm 1 R (Ai (Br (csr (sv R (Bf P9 R (.lp _ _ _ R) (Nbl R)) ?_))))))))
 obtain ⟨v1,hv1,h⟩:=Ae h
 refine Bb R Au7 (Aa R Af) (Ao R) (O4 hv1) (sv R (B2 R) (Ai (ccI h R (fun h=>?_) (fun h=>?_))))
 ·refine csr (sv R (A6 Wq Ab8 Az (.nil _)) (sst Ws R R R R R (rm 1 R (Ai (Bv (Ag ?_))))))
  obtain rfl:=SJ h
  exact dn (Ad (ra P9 R R R) (Ad (rt R) Ah)) (Iz R) R
 ·refine Bj (Ab (csr (ld P9 R R R R (sv R (Bc R) ?_))))
  obtain ⟨v2,hv2,h⟩:=Ae h
  refine Bb R Arz (Aa R (Aa R Af)) (Ao R) (On hv2) (rm 1 R (Ai (Br (csr (rm 1 R (sv R (Bw R R) (Ai (ccI h R (fun h=>?_) (fun h=>?_)))))))))
  ·refine csr (sv R (A6 Wq Ab8 Az (.nil _)) (sst Ws R R R R R (rm 1 R (Ai (Bv (Ag ?_))))))
   obtain rfl:=SJ h
   exact dn (Ad (ra P9 R R R) (Ad (rt R) Ah)) (Iz R) R
  ·refine Bj (Ab (csr (sv R (Ac Zm R) (ld Ab7 R R R R (rm 1 R (sv R (Bf Abw R (.lp _ _ _ R) (Nbl R)) ?_))))))
   obtain ⟨v3,hv3,h⟩:=Ae h
   refine Bb R Awr (Aa R (Aa R (Aa R Af))) (Ao R) (Xu hv3) (sv R (Cd R) (sv R (Aj R R) (sv R (Aj R R) (Bq R Aou (sst Ape R R R R R (rm 1 R (Ai (Br (csr (rm 1 R (sv R (Dy R R) (Ai (ccI h R (fun h=>?_) (fun h=>?_))))))))))))))
   ·refine csr (sv R (A6 Wq Ab8 Az (.nil _)) (rm 1 R (sst Ws R R R R R (rm 1 R (Ai (Bv (Ag ?_)))))))
    obtain rfl:=SJ h
    exact dn (Ad (ra P9 R R R) (Ad (rt R) Ah)) (Iz R) R
   ·refine Bj (Ab (csr (sv R (Ac Of R) (sv R (Ak Aaa R (.lp _ _ _ R) R) ?_))))
    obtain ⟨v4,hv4,h⟩:=Ae h
    refine Ho (x':=.s (.one (.ls 4 v4.length))) (M':=[.box (EL.el a0),.box (EL.el a2),.box [Znl,Znl],.box [.sl v3.1.L.length (v3.1.L.flatMap Aq)],.arr 139 8 0 (v4.flatMap Be)]) [] R At9 (.func _) (Aa R Af) (Ps hv4) R R (by decide) R R R ?_
    refine rm 1 R (Ai (Br (csr (rm 1 R (sv R (Mf P7 R R (A1 (f:=Be) (fun _=>R) _).symm) ?_)))))
    refine rm 1 R (Ai (Dt ((List A2)) (fun b5=>[(6,.s (.one (.lp 2 0))),(9,.s (.one (.lp 3 0))),(11,.s (.one (.ls 4 b5.length)))]) (fun b5=>[.box (EL.el a0),.box (EL.el a2),.box [Znl,Znl],.box [.sl v3.1.L.length (v3.1.L.flatMap Aq)],.arr 139 8 0 (b5.flatMap Be)]) (fun b5=>Ku v3 b5=some r) (fun _ _=>A5 R) (fun _ _=>Ap R) (fun _ _=>Nbl R) (fun b5 h=>?_) ?_))
    ·unfold Ku at h
     refine csr (rm 1 R (ld Ab7 R R R R (sv R (A6 Wq Ab8 (Av R (Av R Az)) (.cons _ _ _ _ _ _ _ R R (Nbl R) (.cons _ _ _ _ _ _ _ R R (Nbl R) (.nil _)))) (sst Ws R R R R R (rm 1 R (Ai (Bv ?_)))))))
     obtain rfl:=SJ h
     refine ⟨Or.inr R,_,_,_,(Ad (ra P9 R R R) (Ad (rt R) Ah)),(by (repeat' first | exact J7.nil _ | apply J7.cons | apply Jm.one | apply Jm.agg | exact Dm.nil | exact Dm.ls _ _ _ _ _ _ R (A1 (f:=Be) (fun _=>R) _).symm | exact Dm.id _ R | exact Cw.nil _ | apply Cw.cons)),?_⟩
     rfl
    ·skip
     refine Bu ?_
     obtain ⟨x6,hx6,ho6⟩:=Ae h
     refine B6 (G:=Nat × (Int × (List A2))) (fun g=>[(5,.s (.one (.lp 1 0))),(6,.s (.one (.lp 2 0))),(8,.s (.one (Ii6 v2))),(9,.s (.one (.lp 3 0))),(11,.s (.one (.ls 4 g.2.2.length))),(39,.s (.one (.ls 4 g.2.2.length))),(40,.s (.one (Ii6 (v4.length:Int)))),(41,.s (.one (Ii6 g.2.1)))]) (fun g=>[.box (EL.el a0),.box (EL.el a2),.box [Znl,Znl],.box [.sl v3.1.L.length (v3.1.L.flatMap Aq)],.arr 139 8 0 (g.2.2.flatMap Be)]) (fun g=>Lj (Fb a2 v2 v4) g.1 g.2=some x6) (fun g=>g.1) (fuel,(0,v4)) hx6 ⟨R,R,R,R,R,R,R,R,trivial⟩ [] R (fun _ _=>A5 R) (fun _ _=>Ap R) (fun _ _=>Nbl R) ?_
     clear hx6 h
     rintro ⟨n6,s6⟩ h
     obtain ⟨n6,y6,rfl,h,hk6⟩:=Ff h
     unfold Fb at h
     refine csr (sv R (Bw R R) (Ai (Br (ccI h R (fun h=>?_) (fun h=>?_)))))
     ·refine Bj (Ab (Br (Bu (csr (sv R (Bc R) ?_)))))
      obtain ⟨u7,hu7,h⟩:=Ae h
      refine sv R (I4 (f:=Be) P7 (fun _=>R) R R R R R hu7) ?_
      refine sv R (O1 (f:=Be) (sz:=8) 0 I6 (fun _=>R) R R R R (L6 hu7).2 (Nbl R) R) ?_
      refine Bq R Sj (rm 1 R (sst Rx R R R R R (Ai (Br (Br (Hp (Unit) (fun b8=>[(5,.s (.one (.lp 1 0))),(6,.s (.one (.lp 2 0))),(8,.s (.one (Ii6 v2))),(9,.s (.one (.lp 3 0))),(11,.s (.one (.ls 4 s6.2.length))),(12,.s (.one (Ii6 s6.1))),(39,.s (.one (.ls 4 s6.2.length))),(40,.s (.one (Ii6 (v4.length:Int)))),(41,.s (.one (Ii6 s6.1)))]) (fun b8=>[.box (EL.el a0),.box (EL.el a2),.box [Znl,Znl],.box [.sl v3.1.L.length (v3.1.L.flatMap Aq)],.arr 139 8 0 (s6.2.flatMap Be),.box (EL.el u7)]) (fun b8=>Nc v2 s6 b8=some y6) (fun _ _=>A5 R) (fun _ _=>Ap R) (fun _ _=>Nbl R) (fun b8 h=>?_) ?_))))))
      ·unfold Nc at h
       refine Br (As ?_)
       obtain ⟨v9,hv9,h⟩:=Ae h
       refine Ho (x':=.s (.agg [.raw (.func (.func 252) #[] #[]),.raw (.func (.func 253) #[] #[])])) (M':=[.box (EL.el a0),.box (EL.el a2),.box [Znl,Znl],.box [.sl v3.1.L.length (v3.1.L.flatMap Aq)],.arr 139 8 0 (s6.2.flatMap Be),.box (EL.el u7)]) [] R Aua (.func _) Af (Qm hv9) R R (by decide) R R R ?_
       refine rm 2 R (sv R (Bc R) ?_)
       obtain ⟨v10,hv10,h⟩:=Ae h
       refine Ho (x':=.tup []) (M':=[.box (EL.el a0),.box (EL.el a2),.box [Znl,Znl],.box [.sl v3.1.L.length (v3.1.L.flatMap Aq)],.arr 139 8 0 (v10.flatMap Be),.box (EL.el u7)]) [4] R Auc (.func _) (Aa R (Aa R (Aa R (Aa R Af)))) (O5 hv10) R R (by decide) R R R ?_
       obtain ⟨hl11,h⟩:=Cy h
       refine M0 11 (y:=.s (.one (.ls 4 s6.2.length))) (.s (.one (.ls 4 v10.length))) R (congrArg (fun n=>AV.s (.one (.ls 4 n))) hl11.symm) ?_
       refine M0 39 (y:=.s (.one (.ls 4 s6.2.length))) (.s (.one (.ls 4 v10.length))) R (congrArg (fun n=>AV.s (.one (.ls 4 n))) hl11.symm) ?_
       refine M0 65 (y:=.s (.one (.ls 4 s6.2.length))) (.s (.one (.ls 4 v10.length))) R (congrArg (fun n=>AV.s (.one (.ls 4 n))) hl11.symm) ?_
       refine Ai (csr (rm 1 R (sv R (Bc R) ?_)))
       obtain ⟨u12,hu12,h⟩:=Ae h
       refine sv R (I4 (f:=Be) P7 (fun _=>R) R R R R R hu12) ?_
       refine sv R (O1 (f:=Be) (sz:=8) 0 I6 (fun _=>R) R R R R (L6 hu12).2 (Nbl R) R) ?_
       obtain ⟨v13,hv13,h⟩:=Ae h
       refine Bb R Ap5 (Aa R Af) (Ao R) (Pp hv13) (Ai (ccI h R (fun h=>?_) (fun h=>?_)))
       ·refine csr (sv R (A6 Wq Ab8 Az (.nil _)) (sst Ws R R R R R (rm 1 R (Ai (Bv (Ay (Ag (Ag (Ay (Ag ?_))))))))))
        obtain rfl:=SJ h
        obtain rfl:Sum.inl _=x6:=hk6
        replace ho6:some _=some _:=ho6
        obtain rfl:=Option.some.inj ho6
        exact dn (Ad (ra P9 R R R) (Ad (rt R) Ah)) (Iz R) R
       ·refine Bj (Ar (Ab (As (sv R (Bs R R) (rm 1 R (Ai ?_))))))
        obtain rfl:=SJ h
        exact ⟨(n6,((wI (s6.1+1)),v10)),_,hk6,⟨R,R,R,R,R,R,R,R,trivial⟩,R,Nat.lt_succ_self _⟩
      ·skip
       refine Z9 mixed (by kernel_rfl) ?_
       refine dv R (Ac Oo R) (dv R (Ak ti3 R (.lp _ _ _ R) R) (dv R (Dy R R) (dv R (Bc R) (Y1 49 R (fun hc=>?_) (fun hc=>?_)))))
       ·replace h:=Va hc h
        clear hc
        refine O2 R R R R (O2 R R R R (O2 R R R R (O2 R R R R (O2 R R R R (O2 R R R R (O2 R R R R (dv R (Hv R R) (dv R (Bc R) (O2 R R R R (O2 R R R R (O2 R R R R (O2 R R R R (dv R (Hv R R) (Adw (Ab (Cp R (fun _=>?_) (fun hx=>Bool.noConfusion hx)))))))))))))))))
        refine Di (Au (Bn (Ab (As (sv R (Bs R R) (rm 1 R (Ai ?_)))))))
        obtain rfl:=SJ h
        exact ⟨(n6,((wI (s6.1+1)),s6.2)),_,hk6,⟨R,R,R,R,R,R,R,R,trivial⟩,R,Nat.lt_succ_self _⟩
       ·replace h:=Vr hc h
        clear hc
        refine dvg R R R (Bf I6 R (.lp _ _ _ R) (Nbl R)) (dvg R R R (Bc R) (dvg R R R (Bc R) ?_))
        obtain ⟨u14,hu14,h⟩:=Ae h
        refine dvg R R R (I4 (f:=Be) P7 (fun _=>R) R R R R R hu14) ?_
        refine dvg R R R (O1 (f:=Be) (sz:=8) 0 I6 (fun _=>R) R R R R (L6 hu14).2 (Nbl R) R) ?_
        obtain ⟨v15,hv15,h⟩:=Ae h
        refine ddg R R R (C9 Aqv (Aa R (Aa R Af)) R (Oz hv15)) (dvg R R R (B2 R) (dv R (Mg R R) (dv R (Bc R) (Y1 58 R (fun hc=>?_) (fun hc=>?_)))))
        ·replace h:=Va hc h
         clear hc
         refine O2 R R R R (O2 R R R R (O2 R R R R (O2 R R R R (dv R (Hv R R) (Adw (Ab (Cp R (fun _=>?_) (fun hx=>Bool.noConfusion hx))))))))
         refine Di (Au (Bn (Ab (As (sv R (Bs R R) (rm 1 R (Ai ?_)))))))
         obtain rfl:=SJ h
         exact ⟨(n6,((wI (s6.1+1)),s6.2)),_,hk6,⟨R,R,R,R,R,R,R,R,trivial⟩,R,Nat.lt_succ_self _⟩
        ·replace h:=Vr hc h
         clear hc
         refine dvg R R R (Bf I6 R (.lp _ _ _ R) (Nbl R)) (dvg R R R (Bf Abw R (.lp _ _ _ R) (Nbl R)) ?_)
         obtain ⟨v16,hv16,h⟩:=Ae h
         refine ddg R R R (C9 Avg (Aa R (Aa R Af)) R (Vw hv16)) (dvg R R R (B2 R) (dv R (Mg R R) (Adw (Ab (ccI h R (fun h=>?_) (fun h=>?_))))))
         ·refine Di (Au (Bn (Ab (As (sv R (Bs R R) (rm 1 R (Ai ?_)))))))
          obtain rfl:=SJ h
          exact ⟨(n6,((wI (s6.1+1)),s6.2)),_,hk6,⟨R,R,R,R,R,R,R,R,trivial⟩,R,Nat.lt_succ_self _⟩
         ·refine Bj (Ab ?_)
          exact ⟨(),_,h,⟨R,R,R,R,R,R,R,R,R,trivial⟩,R⟩
     ·refine Di (Au (Au (Bn (Ab ?_))))
      obtain rfl:=SJ h
      obtain rfl:_=x6:=hk6
      exact ⟨s6.2,_,ho6,⟨R,R,R,trivial⟩,R⟩
def Nl (a0:Am) (a1:Bl) (a2:Bi):Option (Am × Int) :=
 (Gy a0.Cert a1.ID a2).bind fun v1=>if (!decide (v1.2=0)) then ((Dn a0 a1).bind fun v2=>some (v2,v1.2)) else (some ({a0 with Cert:=v1.1},0))
theorem Ul {a0:Am} {a1:Bl} {a2:Bi} {r:Am × Int} (h:Nl a0 a1 a2=some r):Bt Tryz.prog 64 [.agg (EL.el a0),.agg (EL.el a1),.agg (EL.el a2)] (·=.tup [.agg (EL.el r.1),.one (Ii6 r.2)]):=by
 unfold Nl at h
 refine A4 Tryz.func64 R (nt:=28) R (Nbl R) ?_
 intro w0 S0
 refine csr (F0 R R (F0 R R (F0 R R (Bq R Q8 (rm 1 R (Ai (csr (sv R (Ac Sz R) (ld P9 R R R R (fl Ri ti3 R R R R R R (sv R (Bf Abw R (.lp _ _ _ R) (Nbl R)) ?_)))))))))))
 obtain ⟨v1,hv1,h⟩:=Ae h
 refine Bb R Awj (Aa R (Aa R (Aa R Af))) (Ao R) (Zh hv1) (sv R (Cd R) (sv R (Aj R R) (sv R (Aj R R) (Bq R Wq (sst Ws R R R R R (rm 1 R (Ai (Br (csr (rm 1 R (sv R (Dy R R) (Ai (ccI h R (fun h=>?_) (fun h=>?_))))))))))))))
 ·refine csr (ld Dh R R R R (sv R (Bf Vv R (.lp _ _ _ R) (Nbl R)) ?_))
  obtain ⟨v2,hv2,h⟩:=Ae h
  refine Bb R Ash (Aa R (Aa R Af)) (Ao R) (Ht hv2) (rm 1 R (sst J8 R R R R R (rm 1 R (Ai (Bv (Ag ?_))))))
  obtain rfl:=SJ h
  exact dn (Ad (ra Dh R R R) (Ad (rt R) Ah)) (Ao R) R
 ·refine Bj (Ab (csr (ld P9 R R R R (sv R (Ac Sz R) (sst Ws R R R R R (Ai (csr (ld Dh R R R R (sst J8 R R R R R (rm 1 R (Ai (Bv ?_))))))))))))
  obtain rfl:=SJ h
  exact dn (Ad (ra Dh R R R) (Ad (rt R) Ah)) (Ao R) R
def Cs (a0:List UInt8) (a1:List UInt8):Option Bool :=
 (Fw a1 a0).bind fun v1=>some (decide (0≤v1))
theorem Nm {a0:List UInt8} {a1:List UInt8} {r:Bool} (h:Cs a0 a1=some r):Bt Tryz.prog 148 [.one (.sl a0.length (a0.flatMap eU8)),.one (.sl a1.length (a1.flatMap eU8))] (·=.s (.one (.b r))):=by
 unfold Cs at h
 refine A4 Tryz.func148 R (nt:=9) R (Nbl R) ?_
 intro w0 S0
 refine csr (rm 1 R (Ai (csr (rm 1 R (sv R (Bc R) ?_)))))
 obtain ⟨v1,hv1,h⟩:=Ae h
 refine Bb R Amg (Aa R (Aa R Af)) (Ao R) (Md hv1) (sv R (He R R) (rm 1 R (Ai (Bv ?_))))
 obtain rfl:=SJ h
 exact dnT R R R R
def C4 (b1:Unit):Option Int :=
 some (-1)
def Cf (a0:List (List UInt8)) (a1:List UInt8) (s2:Int):Option (LR (Int) (Unit) (Int)) :=
 if (decide (s2<(a0.length:Int))) then ((idx a0 s2).bind fun u3=>(Cs a1 u3).bind fun v4=>if v4 then (some (.ret s2)) else (some (.cont (wI (s2+1))))) else (some (.brk ()))
def Ec (a0:List (List UInt8)) (a1:List UInt8):Option Int :=
 (Lj (Cf a0 a1) fuel 0).bind fun x=>match x with | .inl r=>some r | .inr e5=>C4 e5
theorem Rs {a0:List (List UInt8)} {a1:List UInt8} {r:Int} (h:Ec a0 a1=some r):Bt Tryz.prog 147 [.one (.sl a0.length (a0.flatMap (eL eU8))),.one (.fn 148 [.sl a1.length (a1.flatMap eU8)] [])] (·=.s (.one (Ii6 r))):=by
 unfold Ec at h
 refine A4 Tryz.func147 R (nt:=19) R (Nbl R) ?_
 intro w0 S0
 refine csr (rm 1 R (Ai (Br (csr (rm 1 R (sv R (Ax Sn R) (rm 1 R (Ai (Dt (Unit) (fun b1=>[]) (fun b1=>[]) (fun b1=>C4 b1=some r) (fun _ _=>A5 R) (fun _ _=>Ap R) (fun _ _=>Nbl R) (fun b1 h=>?_) ?_)))))))))
 ·unfold C4 at h
  refine csr (rm 1 R (Ai (Bv ?_)))
  obtain rfl:=SJ h
  exact dnT R R R R
 ·skip
  refine Bu ?_
  obtain ⟨x2,hx2,ho2⟩:=Ae h
  refine B6 (G:=Nat × (Int)) (fun g=>[(0,.s (.one (.sl a0.length (a0.flatMap (eL eU8))))),(1,.s (.one (.fn 148 [.sl a1.length (a1.flatMap eU8)] []))),(7,.s (.one (Ii6 (a0.length:Int)))),(8,.s (.one (Ii6 g.2)))]) (fun g=>[]) (fun g=>Lj (Cf a0 a1) g.1 g.2=some x2) (fun g=>g.1) (fuel,0) hx2 ⟨R,R,R,R,trivial⟩ [] R (fun _ _=>A5 R) (fun _ _=>Ap R) (fun _ _=>Nbl R) ?_
  clear hx2 h
  rintro ⟨n2,s2⟩ h
  obtain ⟨n2,y2,rfl,h,hk2⟩:=Ff h
  unfold Cf at h
  refine csr (sv R (Bw R R) (Ai (Br (ccI h R (fun h=>?_) (fun h=>?_)))))
  ·refine Bj (Ab (Br (Bu (csr (rm 2 R (Ai (csr (rm 2 R (sv R (Bc R) ?_)))))))))
   obtain ⟨u3,hu3,h⟩:=Ae h
   refine sv R (Cb (f:=(eL eU8)) Sn (fun _=>R) R R R R hu3) ?_
   refine sv R (Ak Nr R (.cp _) R) ?_
   obtain ⟨v4,hv4,h⟩:=Ae h
   refine sd R (Sq As5 (.fn _ _ _ _ R) (Aa R Af) R (Nm hv4)) (Ai (ccI h R (fun h=>?_) (fun h=>?_)))
   ·refine csr (rm 2 R (Ai (Bv (Ay (Ag (Ag (Ay (Ag ?_))))))))
    obtain rfl:=SJ h
    obtain rfl:Sum.inl _=x2:=hk2
    replace ho2:some _=some _:=ho2
    obtain rfl:=Option.some.inj ho2
    exact dnT R R R R
   ·refine Bj (Ar (Ab (As (sv R (Bs R R) (rm 1 R (Ai ?_))))))
    obtain rfl:=SJ h
    exact ⟨(n2,(wI (s2+1))),_,hk2,⟨R,R,R,R,trivial⟩,R,Nat.lt_succ_self _⟩
  ·refine Di (Au (Au (Bn (Ab ?_))))
   obtain rfl:=SJ h
   obtain rfl:_=x2:=hk2
   exact ⟨(),_,ho2,trivial,R⟩
def Eu (a0:List (List UInt8)) (a1:List UInt8):Option (Int × Bool) :=
 (Ec a0 a1).bind fun v1=>if (decide (v1<0)) then (some ((a0.length:Int),false)) else ((idx a0 v1).bind fun u2=>(Dl u2 a1).bind fun v3=>some (v1,v3))
theorem Qi {a0:List (List UInt8)} {a1:List UInt8} {r:Int × Bool} (h:Eu a0 a1=some r):Bt Tryz.prog 69 [.one (.sl a0.length (a0.flatMap (eL eU8))),.one (.sl a1.length (a1.flatMap eU8))] (·=.tup [.one (Ii6 r.1),.one (.b r.2)]):=by
 unfold Eu at h
 refine A4 Tryz.func69 R (nt:=22) R (Nbl R) ?_
 intro w0 S0
 refine csr (rm 2 R (Ai (csr (rm 2 R (sv R (S8 (Uq R R P5) P5) ?_)))))
 obtain ⟨v1,hv1,h⟩:=Ae h
 refine sd R (Sq At0 (.func _) (Aa R (Aa R Af)) R (Rs hv1)) (rm 1 R (Ai (Br (csr (rm 1 R (sv R (Bw R R) (Ai (ccI h R (fun h=>?_) (fun h=>?_)))))))))
 ·refine csr (rm 1 R (sv R (Ax Sn R) (rm 2 R (Ai (Bv (Ag ?_))))))
  obtain rfl:=SJ h
  exact dn (Ad (rt R) (Ad (rt R) Ah)) (Ao R) R
 ·refine Bj (Ab (csr (rm 2 R (sv R (Bc R) ?_))))
  obtain ⟨u2,hu2,h⟩:=Ae h
  refine sv R (Cb (f:=(eL eU8)) Sn (fun _=>R) R R R R hu2) ?_
  refine sv R (Ak Nr R (.cp _) R) (sv R (Bc R) ?_)
  obtain ⟨v3,hv3,h⟩:=Ae h
  refine Bb R Art (Aa R (Aa R Af)) (Ao R) (Nx hv3) (rm 2 R (Ai (Bv ?_)))
  obtain rfl:=SJ h
  exact dn (Ad (rt R) (Ad (rt R) Ah)) (Ao R) R
def Hw (a1:Int) (s1:Int) (x1:Int × A3):Option ((Int) ⊕ (Nat × (Int))) :=
 if (decide (x1.2.Ts≤a1)) then (some (.inr (0,x1.1))) else (some (.inl s1))
def La (s2:Int):Option Int :=
 some (-1)
def Ld (s3:Int):Option Int :=
 some s3
def J3 (a0:An) (a1:Int):Option Int :=
 (Ais a0).bind fun L1=>(Qv (Hw a1) L1 0).bind fun e=>Acu La Ld (fun _ _=>none) e
theorem Rp {a0:An} {a1:Int} {r:Int} (h:J3 a0 a1=some r):Bt Tryz.prog 218 [.agg [.sl a0.L.length (a0.L.flatMap A7)],.one (Ii6 a1)] (·=.s (.one (Ii6 r))):=by
 unfold J3 at h
 refine Wj Tryz.func218 R (nt:=16) R (Nbl R) ?_
 intro w0 S0
 refine Z5 (I1 R (fun w0 S0 X0 m0 H0=>?_))
 refine Akg R R R (Akg R R R (Bq R zi3 (Ai (Z5 (Z5 (I1 R (fun w0 S0 X0 m0 H0=>?_)))))))
 refine sv R (B3 (ys:=[.sl a0.L.length (a0.L.flatMap A7)]) Oh R (.cp _) R R) (Bb R Aq2 (Aa R Af) (Ao R) Ln (Ai (Aa2 ?_)))
 obtain ⟨L1,hL1,h⟩:=Ae h
 obtain ⟨e1,he1,h⟩:=Ae h
 refine Aef (Hw a1) L1 (fun x1=>.one (Ii6 x1.1)) (fun x1=>.agg (EL.el x1.2)) (fun s1=>[.box [Ii6 s1]]) 0 he1 R Aqt R (Aep hL1) R R R (fun _=>R) (fun _=>Ap R) ?_ ?_ ?_ ?_
 ·clear h
  intro x1 s1 y1 l h w0 S0 X0 H0
  unfold Hw at h
  refine Z5 (I1 R (fun w0 S0 X0 m0 H0=>?_))
  refine rm 1 R (Ai (I1 R (fun w0 S0 X0 m0 H0=>?_)))
  refine Bq R Afj (sst Ah3 R R R R R (Ai (fun w0 S0 X0 H0=>?_)))
  refine Aa2 (Z5 (I1 R (fun w0 S0 X0 m0 H0=>?_)))
  refine fl Vq ti3 R R R R R R (sv R (Ak ti3 R (.cp _) R) (sv R (Dj R R) (Ai (Aqs R (fun hc=>?_) (fun hc=>?_)))))
  ·replace h:=Va hc h
   clear hc
   refine Z5 (I1 R (fun w0 S0 X0 m0 H0=>?_))
   refine rm 1 R (sst sz3 R R R R R (Ai (Arh (Ay ?_))))
   obtain rfl:=SJ h
   exact ⟨x1.1,_,R,R⟩
  ·replace h:=Vr hc h
   clear hc
   refine Asn (Ar ?_)
   obtain rfl:=SJ h
   exact ⟨s1,_,R,R⟩
 ·intro s2 hs
  obtain rfl:=hs
  replace h:La s2=some r:=h
  unfold La at h
  refine Ar (Ab (Z5 (I1 R (fun w0 S0 X0 m0 H0=>?_))))
  refine sst sz3 R R R R R (Ai (Arh ?_))
  obtain rfl:=SJ h
  exact dn (Ad (Ag6.one _ _ _ _ _ ti3 R (.lp _ _ _ R) R) Ah) (Ao R) R
 ·intro s3 hs
  obtain rfl:=hs
  replace h:Ld s3=some r:=h
  unfold Ld at h
  refine Ay (Ag ?_)
  obtain rfl:=SJ h
  exact dn (Ad (Ag6.one _ _ _ _ _ ti3 R (.lp _ _ _ R) R) Ah) (Ao R) R
 ·intro id s hs
  obtain rfl:=hs
  replace h:none=some r:=h
  cases h
def Fv (a0:An) (a1:Int):Option (A3 × Bool) :=
 (J3 a0 a1).bind fun v1=>if (decide (v1<0)) then (some ((A3.mk 0 ([]:List UInt8) false),false)) else ((idx a0.L v1).bind fun u2=>some (u2,true))
theorem Yp {a0:An} {a1:Int} {r:A3 × Bool} (h:Fv a0 a1=some r):Bt Tryz.prog 149 [.agg [.sl a0.L.length (a0.L.flatMap A7)],.one (Ii6 a1)] (·=.tup [.agg (EL.el r.1),.one (.b r.2)]):=by
 unfold Fv at h
 refine A4 Tryz.func149 R (nt:=18) R (Nbl R) ?_
 intro w0 S0
 refine csr (F0 R R (Bq R Afj (rm 1 R (Ai (csr (ld Oh R R R R (sv R (Bc R) ?_)))))))
 obtain ⟨v1,hv1,h⟩:=Ae h
 refine Bb R Atx (Aa R (Aa R Af)) (Ao R) (Rp hv1) (rm 1 R (Ai (Br (csr (rm 1 R (sv R (Bw R R) (Ai (ccI h R (fun h=>?_) (fun h=>?_)))))))))
 ·refine csr (sv R (A6 Afj Aum Az (.nil _)) (sst Ah3 R R R R R (rm 1 R (Ai (Bv (Ag ?_))))))
  obtain rfl:=SJ h
  exact dn (Ad (ra Aek R R R) (Ad (rt R) Ah)) (Iz R) R
 ·refine Bj (Ab (csr (fl Sx Z4 R R R R R R (sv R (Bc R) ?_))))
  obtain ⟨u2,hu2,h⟩:=Ae h
  refine sv R (Cb (f:=A7) Vy (fun _=>R) R R R R hu2) ?_
  refine sv R (B3 (ys:=[Ii6 u2.Ts,.sl u2.Val.length (u2.Val.flatMap eU8),.b u2.Del]) Aek R (.cp _) R R) (sst Ah3 R R R R R (rm 1 R (Ai (Bv ?_))))
  obtain rfl:=SJ h
  exact dn (Ad (ra Aek R R R) (Ad (rt R) Ah)) (Ao R) R
def Lh (v1:A3 × Bool) (b2:Unit):Option ((List UInt8) × Bool) :=
 some (v1.1.Val,true)
def Hb (a0:An) (a1:Int):Option ((List UInt8) × Bool) :=
 (Fv a0 a1).bind fun v1=>if (!v1.2) then (some (([]:List UInt8),false)) else (if v1.1.Del then (some (([]:List UInt8),false)) else (Lh v1 ()))
theorem Ru {a0:An} {a1:Int} {r:(List UInt8) × Bool} (h:Hb a0 a1=some r):Bt Tryz.prog 70 [.agg [.sl a0.L.length (a0.L.flatMap A7)],.one (Ii6 a1)] (·=.tup [.one (.sl r.1.length (r.1.flatMap eU8)),.one (.b r.2)]):=by
 unfold Hb at h
 refine A4 Tryz.func70 R (nt:=22) R (Nbl R) ?_
 intro w0 S0
 refine csr (F0 R R (rm 2 R (Ai (csr (ld Oh R R R R (sv R (Bc R) ?_))))))
 obtain ⟨v1,hv1,h⟩:=Ae h
 refine Bb R Avv (Aa R (Aa R Af)) (Ao R) (Yp hv1) (sv R (Cd R) (sv R (Aj R R) (sv R (Aj R R) (Bq R Afj (sst Ah3 R R R R R (rm 1 R (Ai (Br (Br (Hp (Unit) (fun b2=>[(6,.s (.one (.lp 1 0)))]) (fun b2=>[.box [.sl a0.L.length (a0.L.flatMap A7)],.box (EL.el v1.1)]) (fun b2=>Lh v1 b2=some r) (fun _ _=>A5 R) (fun _ _=>Ap R) (fun _ _=>Nbl R) (fun b2 h=>?_) ?_))))))))))
 ·unfold Lh at h
  refine csr (fl Aen Nr R R R R R R (rm 2 R (Ai (Bv ?_))))
  obtain rfl:=SJ h
  exact dn (Ad (rt R) (Ad (rt R) Ah)) (Ao R) R
 ·skip
  refine As (rm 1 R (sv R (B2 R) (rm 1 R (ssI 16 h R (fun h=>?_) (fun h=>?_)))))
  ·refine rm 3 R (Ai (Cp R (fun _=>?_) (fun hx=>Bool.noConfusion hx)))
   refine csr (rm 2 R (Ai (Bv (Ag ?_))))
   obtain rfl:=SJ h
   exact dn (Ad (rt R) (Ad (rt R) Ah)) (Iz R) R
  ·refine son R R R (sv R (Ac Ae8 R) (son R R R (sv R (Ak ti4 R (.lp _ _ _ R) R) (rm 1 R (Ai (ccI h R (fun h=>?_) (fun h=>?_)))))))
   ·refine csr (rm 2 R (Ai (Bv (Ag ?_))))
    obtain rfl:=SJ h
    exact dn (Ad (rt R) (Ad (rt R) Ah)) (Iz R) R
   ·refine Bj (Ab ?_)
    exact ⟨(),_,h,⟨R,trivial⟩,R⟩
def Na (a0:B1) (a2:Int) (v1:Int × Bool) (b2:Unit):Option ((List UInt8) × Bool) :=
 (idx a0.Chains v1.1).bind fun u3=>(Hb u3 a2).bind fun v4=>some (v4.1,v4.2)
def Kb (a0:B1) (a1:List UInt8) (a2:Int):Option ((List UInt8) × Bool) :=
 (Eu a0.Keys a1).bind fun v1=>if (!v1.2) then (some (([]:List UInt8),false)) else ((C3 a0).bind fun v5=>if (!v5) then (some (([]:List UInt8),false)) else (Na a0 a2 v1 ()))
theorem Yq {a0:B1} {a1:List UInt8} {a2:Int} {r:(List UInt8) × Bool} (h:Kb a0 a1 a2=some r):Bt Tryz.prog 28 [.agg (EL.el a0),.one (.sl a1.length (a1.flatMap eU8)),.one (Ii6 a2)] (·=.tup [.one (.sl r.1.length (r.1.flatMap eU8)),.one (.b r.2)]):=by
 unfold Kb at h
 refine A4 Tryz.func28 R (nt:=33) R (Nbl R) ?_
 intro w0 S0
 refine csr (F0 R R (rm 2 R (Ai (csr (fl Q4 Abm R R R R R R (sv R (Bc R) ?_))))))
 obtain ⟨v1,hv1,h⟩:=Ae h
 refine Bb R Ava (Aa R (Aa R Af)) (Ao R) (Qi hv1) (sv R (Cd R) (sv R (Aj R R) (sv R (Aj R R) (rm 2 R (Ai (Br (Br (Hp (Unit) (fun b2=>[(2,.s (.one (Ii6 a2))),(3,.s (.one (.lp 0 0))),(8,.s (.one (Ii6 v1.1)))]) (fun b2=>[.box (EL.el a0)]) (fun b2=>Na a0 a2 v1 b2=some r) (fun _ _=>A5 R) (fun _ _=>Ap R) (fun _ _=>Nbl R) (fun b2 h=>?_) ?_))))))))
 ·unfold Na at h
  refine csr (fl Qj Ahz R R R R R R (sv R (Bc R) ?_))
  obtain ⟨u3,hu3,h⟩:=Ae h
  refine sv R (Cb (f:=Aw) Am4 (fun _=>R) R R R R hu3) ?_
  refine sv R (B3 (ys:=[.sl u3.L.length (u3.L.flatMap A7)]) Oh R (.cp _) R R) (sv R (Bc R) ?_)
  obtain ⟨v4,hv4,h⟩:=Ae h
  refine Bb R Axv (Aa R (Aa R Af)) (Ao R) (Ru hv4) (sv R (Aj R R) (sv R (Aj R R) (rm 2 R (Ai (Bv ?_)))))
  obtain rfl:=SJ h
  exact dn (Ad (rt R) (Ad (rt R) Ah)) (Ao R) R
 ·skip
  refine As (rm 1 R (sv R (B2 R) (rm 1 R (ssI 19 h R (fun h=>?_) (fun h=>?_)))))
  ·refine rm 4 R (Ai (Cp R (fun _=>?_) (fun hx=>Bool.noConfusion hx)))
   refine csr (rm 2 R (Ai (Bv (Ag ?_))))
   obtain rfl:=SJ h
   exact dn (Ad (rt R) (Ad (rt R) Ah)) (Iz R) R
  ·refine son R R R (ld Xk R R R R (son R R R ?_))
   obtain ⟨v5,hv5,h⟩:=Ae h
   refine Bb R At2 (Aa R Af) (Ao R) (Kv hv5) (son R R R (sv R (B2 R) (rm 1 R (Ai (ccI h R (fun h=>?_) (fun h=>?_))))))
   ·refine csr (rm 2 R (Ai (Bv (Ag ?_))))
    obtain rfl:=SJ h
    exact dn (Ad (rt R) (Ad (rt R) Ah)) (Iz R) R
   ·refine Bj (Ab ?_)
    exact ⟨(),_,h,⟨R,R,R,trivial⟩,R⟩
def Nj (a0:Am) (a1:Int) (a2:List UInt8):Option (Am × (List UInt8) × Bool × Int) :=
 (Fc a0 a1).bind fun v1=>if (!decide (v1.2=0)) then ((F3 a0 v1.2).bind fun v2=>some (v2,([]:List UInt8),false,v1.2)) else ((Dp a2).bind fun v3=>if (!v3) then (some (a0,([]:List UInt8),false,1)) else ((M3 v1.1.Buf a2).bind fun v4=>if v4.2 then (some (a0,v4.1.Val,(!v4.1.Del),0)) else ((Pg a2).bind fun v5=>(Nl a0 v1.1 v5).bind fun v6=>if (!decide (v6.2=0)) then (some (v6.1,([]:List UInt8),false,v6.2)) else ((Kb v6.1.Store a2 v1.1.Snap).bind fun v7=>some (v6.1,v7.1,v7.2,0)))))
theorem Ry {a0:Am} {a1:Int} {a2:List UInt8} {r:Am × (List UInt8) × Bool × Int} (h:Nj a0 a1 a2=some r):Bt Tryz.prog 24 [.agg (EL.el a0),.one (Ii6 a1),.one (.sl a2.length (a2.flatMap eU8))] (·=.tup [.agg (EL.el r.1),.one (.sl r.2.1.length (r.2.1.flatMap eU8)),.one (.b r.2.2.1),.one (Ii6 r.2.2.2)]):=by
 unfold Nj at h
 refine A4 Tryz.func24 R (nt:=70) R (Nbl R) ?_
 intro w0 S0
 refine csr (F0 R R (Bq R Q8 (rm 3 R (Ai (csr (ld Dh R R R R (sv R (Bc R) ?_)))))))
 obtain ⟨v1,hv1,h⟩:=Ae h
 refine Bb R Asb (Aa R (Aa R Af)) (Ao R) (Kz hv1) (sv R (Cd R) (sv R (Aj R R) (sv R (Aj R R) (Bq R Zv (sst Zx R R R R R (rm 1 R (Ai (Br (csr (rm 1 R (sv R (Dy R R) (Ai (ccI h R (fun h=>?_) (fun h=>?_))))))))))))))
 ·refine csr (ld Dh R R R R (sv R (Bc R) ?_))
  obtain ⟨v2,hv2,h⟩:=Ae h
  refine Bb R Arr (Aa R (Aa R Af)) (Ao R) (I5 hv2) (rm 1 R (sst J8 R R R R R (rm 3 R (Ai (Bv (Ag ?_))))))
  obtain rfl:=SJ h
  exact dn (Ad (ra Dh R R R) (Ad (rt R) (Ad (rt R) (Ad (rt R) Ah)))) (Iz R) R
 ·refine Bj (Ab (Br (csr (sv R (Bc R) ?_))))
  obtain ⟨v3,hv3,h⟩:=Ae h
  refine Bb R Au4 (Aa R Af) (Ao R) (Nv hv3) (sv R (B2 R) (Ai (ccI h R (fun h=>?_) (fun h=>?_))))
  ·refine csr (ld Dh R R R R (sst J8 R R R R R (rm 3 R (Ai (Bv (Ag ?_))))))
   obtain rfl:=SJ h
   exact dn (Ad (ra Dh R R R) (Ad (rt R) (Ad (rt R) (Ad (rt R) Ah)))) (Iz R) R
  ·refine Bj (Ab (Br (csr (sv R (Ac Xj R) (ld Af3 R R R R (sv R (Bc R) ?_))))))
   obtain ⟨v4,hv4,h⟩:=Ae h
   refine Bb R Ayn (Aa R (Aa R Af)) (Ao R) (Xt hv4) (sv R (Cd R) (sv R (Aj R R) (sv R (Aj R R) (Bq R Ai2 (sst Ajm R R R R R (rm 1 R (Ai (csr (rm 1 R (Ai (ccI h R (fun h=>?_) (fun h=>?_))))))))))))
   ·refine Br ?_
    refine Ki [6] [0,0,2,0,8,24,1,71,255,511] [[.box (EL.el a0),.box Zba,.box (EL.el v1.1),.box (EL.el v4.1)],[.box (EL.el a0),.box (EL.el a0),.box (EL.el v1.1),.box (EL.el v4.1)]] (by kernel_rfl) mixed (by kernel_rfl) (by decide) R R R R ?_
    refine evs (md:=[.box (EL.el a0),.dead,.box (EL.el v1.1),.box (EL.el v4.1)]) (fun hS=>ev (Bg 0 R R) R R (Bf Dh R (.lp _ _ _ R) (Nbl R)) (ev (Ca hS) R R (Ac Za R) (ev (Ca hS) R R (Ak Nr R (.lp _ _ _ R) R) (ev (Ca hS) R R (Ac Adq R) (ev (Ca hS) R R (Ak ti4 R (.lp _ _ _ R) R) (ev (Ca hS) R R (B2 R) (ee0 0 R R R R (fun ζ=>?_) ?_))))))) ⟨⟨R,⟨trivial,⟨R,⟨R,trivial⟩⟩⟩⟩,⟨⟨R,⟨trivial,⟨R,⟨R,trivial⟩⟩⟩⟩,trivial⟩⟩
    ·refine sst J8 R R R R R (P4 [.box (EL.el a0),.box (EL.el a0),.box (EL.el v1.1),.box (EL.el v4.1)] R ?_)
     exact Ta
    refine ev (Bg 1 R R) R R (Ko R) (ev (Bg 1 R R) R R (Ko R) (ev (Bg 1 R R) R R (Ko R) (Abk (Ab (Bv (Ag ?_))))))
    obtain rfl:=SJ h
    exact dn (Ad (ra Dh R R R) (Ad (rt R) (Ad (rt R) (Ad (rt R) Ah)))) (Ao R) R
   ·refine Bj (Ab (Br ?_))
    obtain ⟨v5,hv5,h⟩:=Ae h
    obtain ⟨v6,hv6,h⟩:=Ae h
    refine Ki [8] [0,0,0,4,15,31,63,63,127,511] [[.box (EL.el a0),.box Zba,.box (EL.el v1.1),.box (EL.el v4.1)],[.box (EL.el v6.1),.box Zba,.box (EL.el v1.1),.box (EL.el v4.1)]] (by kernel_rfl) mixed (by kernel_rfl) (by decide) R R R R ?_
    refine ev (Bg 0 R R) R R (Bf Dh R (.lp _ _ _ R) (Nbl R)) (ev (Bg 0 R R) R R (Bf Vv R (.lp _ _ _ R) (Nbl R)) (ev (Bg 0 R R) R R (Bc R) (ed (Bg 0 R R) R R (C9 Ayd (Aa R Af) R (Zz hv5)) (ed (Bg 0 R R) R R (C9 Axw (Aa R (Aa R (Aa R Af))) R (Ul hv6)) (ev (Bg 0 R R) R R (Cd R) (ev (Bg 0 R R) R R (Aj R R) (ev (Ca (md:=[.dead,.box Zba,.box (EL.el v1.1),.box (EL.el v4.1)]) ⟨⟨trivial,⟨R,⟨R,⟨R,trivial⟩⟩⟩⟩,⟨⟨trivial,⟨R,⟨R,⟨R,trivial⟩⟩⟩⟩,trivial⟩⟩) R R (Aj R R) (ee0 0 R R R R (fun ζ=>?_) ?_))))))))
    ·refine sst J8 R R R R R (P4 [.box (EL.el v6.1),.box Zba,.box (EL.el v1.1),.box (EL.el v4.1)] R ?_)
     exact Ta
    refine ev (Bg 1 R R) R R (Ko R) (Abk (Ab (Br (csr (rm 1 R (sv R (Dy R R) (Ai (ccI h R (fun h=>?_) (fun h=>?_)))))))))
    ·refine csr (ld Dh R R R R (rm 1 R (sst J8 R R R R R (rm 3 R (Ai (Bv (Ag ?_)))))))
     obtain rfl:=SJ h
     exact dn (Ad (ra Dh R R R) (Ad (rt R) (Ad (rt R) (Ad (rt R) Ah)))) (Iz R) R
    ·refine Bj (Ab (csr (sv R (Ac Tl R) (ld Xk R R R R (rm 1 R (sv R (Ac Agk R) (sv R (Ak ti3 R (.lp _ _ _ R) R) ?_)))))))
     obtain ⟨v7,hv7,h⟩:=Ae h
     refine Bb R Ayp (Aa R (Aa R (Aa R Af))) (Ao R) (Yq hv7) (sv R (Cd R) (sv R (Aj R R) (sv R (Aj R R) (rm 2 R (Ai (csr (ld Dh R R R R (rm 2 R (sst J8 R R R R R (rm 3 R (Ai (Bv ?_))))))))))))
     obtain rfl:=SJ h
     exact dn (Ad (ra Dh R R R) (Ad (rt R) (Ad (rt R) (Ad (rt R) Ah)))) (Ao R) R
def Ic (a0:List A8):Option (List A8) :=
 if (([]:List A8).length+a0.length)*56≤140737488355328 then (some (([]:List A8)++a0)) else none
theorem T0 {a0:List A8} {r:(List A8)} (h:Ic a0=some r):De Tryz.prog 126 [] [.one (.sl a0.length (a0.flatMap Ba))] (fun y m'=>y=.s (.one (.ls 0 r.length))∧m'=[.arr 99 3 0 (r.flatMap Ba)]):=by
 unfold Ic at h
 refine Da Tryz.func126 R (nt:=8) R (Nbl R) ?_
 intro w0 S0 X0 H0
 refine csr (rm 1 R (Ai (Br (csr (rm 1 R (Afw R Tryz.underlying84 R (fun nq hnq=>?_)))))))
 cases nq
 ·skip
  refine Ai (Cp R (fun hx=>Bool.noConfusion hx) (fun _=>?_))
  refine Bj (Ab (csr (U5 R Tryz.underlying84 Avi (sv R (Bc R) ?_))))
  obtain ⟨hb1,h⟩:=Cy h
  refine Wb (f:=Ba) (xs:=([]:List A8)) (us:=a0) R Tryz.underlying84 Avi Ayw (fun _=>R) R R (.one _ _ _ _ (.id _ R)) R R R (.sl _ _ _ (A1 (f:=Ba) (fun _=>R) _)) R R hb1 (by decide) ?_
  refine rm 1 R (Ai (Bv ?_))
  obtain rfl:=SJ h
  exact ⟨Or.inr R,_,[0],[.one (.ls 0 (([]:List A8)++a0).length)],[.arr 99 3 0 ((([]:List A8)++a0).flatMap Ba)],(Ad (rt R) Ah),R,R,⟨by decide,R⟩,R,R,⟨R,R⟩⟩
 ·obtain rfl:=List.eq_nil_of_length_eq_zero (hnq rfl)
  replace h:(some ([]:List A8))=some r:=by first | exact h | (rw [if_pos (by decide)] at h;exact h)
  refine Ai (Cp R (fun _=>?_) (fun hx=>Bool.noConfusion hx))
  refine csr (rm 1 R (Ai ?_))
  refine D1 99 3 2 (by decide) R ?_
  refine Bv (Ag ?_)
  obtain rfl:=SJ h
  exact ⟨Or.inr R,_,[0],[.one (.ls 0 ([]:List A8).length)],[.arr 99 3 0 (([]:List A8).flatMap Ba)],(Ad (rt R) Ah),R,R,⟨by decide,R⟩,R,R,⟨R,R⟩⟩
section
open Go.Lib
set_option maxHeartbeats 4000000 in
theorem Ait (b n c vb vc:Nat) (vs:List Value) (w:World) (i0:TypeInfo) (hi0:Tryz.prog.info? 99=some i0) (hs0:i0.size=3) (hroom:n+1≤c) (hc63:c≤9223372036854775807)
  (hvl:vs.length=3) (hsp:∀ j,j<3→(w.cell? ⟨b,n*3+j,none⟩).isSome=true) (hfz:∀ j,j<3→w.frozen? ⟨b,n*3+j,none⟩=false)
  (hvs:∀ j v,vs[j]? = some v→w.cell? ⟨vb,j,none⟩=some v) (h1v:∀ v ∈ vs,v.oneCell'=true) :
  Calls Tryz.prog 127 #[.slice (some ⟨b,0,none⟩) n c,.int .i64 n,.slice (some ⟨vb,0,none⟩) 1 vc] w fun e w' =>
   e=.returned (.slice (some ⟨b,0,none⟩) (n+1) c)∧w'=w.setCells b (n*3) vs:=by
 have hsrc:_root_.Go.Src Tryz.prog i0.size 84 (.slice (some ⟨vb,0,none⟩) 1 vc) 1 vs w:=by
  rw [hs0]
  exact _root_.Go.Src.ofSlice w Tryz.underlying84 ⟨vb,0,none⟩ 1 vc vs (by omega) (fun j u hj=>by rw [Addr.add_lit,Nat.zero_add];exact hvs j u hj) h1v
 go_enter Tryz.func127,Tryz.ntmps127
 go_wp2_with (at_builtin;refine wpList_append_room_src _ rfl _ _ 84 84 rfl 99 i0 Tryz.underlying84 hi0 b 0 n c rfl _ rfl 1 vs hsrc hroom (by rw [hvl,hs0,Nat.zero_add];exact hsp) (by rw [hvl,hs0,Nat.zero_add];exact hfz) ?_)
 go_ret
 refine ⟨R,?_⟩
 first | rfl | (simp;done) | (simp [hs0];done)
set_option maxHeartbeats 4000000 in
theorem Acr (b n c vb vc:Nat) (cs vs:List Value) (w:World) (i0:TypeInfo) (hi0:Tryz.prog.info? 99=some i0) (hz0:i0.zero=some (.agg #[.slice none 0 0,.slice none 0 0,.bool false])) (hs0:i0.size=3) (hnc:n≤c) (hroom:c<n+1) (hn63:n+1≤9223372036854775807)
  (hfit:Builtin.nextslicecap (n+1) c*i0.bytes≤281474976710656) (hcl:cs.length=n*3) (hvl:vs.length=3)
  (hcs:∀ j v,cs[j]? = some v→w.cell? ⟨b,j,none⟩=some v) (hvs:∀ j v,vs[j]? = some v→w.cell? ⟨vb,j,none⟩=some v) (h1v:∀ v ∈ vs,v.oneCell'=true) :
  Calls Tryz.prog 127 #[.slice (some ⟨b,0,none⟩) n c,.int .i64 n,.slice (some ⟨vb,0,none⟩) 1 vc] w fun e w' =>
   e=.returned (.slice (some ⟨w.heap.size,0,none⟩) (n+1) (grownCap w (n+1) c 99)) ∧
   w'=w.drew.alloc (.cells ((cs++vs).toArray++Builtin.zeroCells (Value.cells (.agg #[.slice none 0 0,.slice none 0 0,.bool false])) (grownCap w (n+1) c 99-(n+1))) 99):=by
 have hsrc:_root_.Go.Src Tryz.prog i0.size 84 (.slice (some ⟨vb,0,none⟩) 1 vc) 1 vs w:=by
  rw [hs0]
  exact _root_.Go.Src.ofSlice w Tryz.underlying84 ⟨vb,0,none⟩ 1 vc vs (by omega) (fun j u hj=>by rw [Addr.add_lit,Nat.zero_add];exact hvs j u hj) h1v
 have hold:(Builtin.firstCells i0.size n (.slice (some ⟨b,0,none⟩) n c)).run Tryz.prog w.drew=.ok cs.toArray w.drew:=by
  rw [hs0]
  exact run_firstCells_some w.drew 3 n ⟨b,0,none⟩ n c cs (by omega) (fun j v hj=>by rw [Addr.add_lit,Nat.zero_add];exact hcs j v hj)
 have hrun:∀ ty,(Builtin.append_ #[84,84] ty #[.slice (some ⟨b,0,none⟩) n c,.slice (some ⟨vb,0,none⟩) 1 vc]).run Tryz.prog w=.ok (.slice (some ⟨w.heap.size,0,none⟩) (n+1) (grownCap w (n+1) c 99)) (w.drew.alloc (.cells ((cs++vs).toArray++Builtin.zeroCells (Value.cells (.agg #[.slice none 0 0,.slice none 0 0,.bool false])) (grownCap w (n+1) c 99-(n+1))) 99)):=fun ty =>
  run_append_grow_src w 84 84 ty 99 i0 _ Tryz.underlying84 hi0 hz0 (some ⟨b,0,none⟩) n c cs hold _ 1 vs hsrc hroom (by omega) hfit
 go_enter Tryz.func127,Tryz.ntmps127
 go_wp2_with (at_builtin;refine Lib.wpList_append_run _ rfl _ _ _ _ rfl _ _ rfl rfl _ _ (hrun _) ?_)
 all_goals (go_ret;first | exact ⟨rfl,rfl⟩ | exact ⟨rfl,by simp [Value.cells]⟩)
set_option maxHeartbeats 4000000 in
theorem Ad0 (b n c i vb vc:Nat) (cs vs:List Value) (w:World) (hs0:(Tryz.prog.info? 99).map (·.size)=some 3) (hi:i<n) (hroom:n+1≤c) (hc63:c≤9223372036854775807) (hvb:vb≠b)
  (hcl:cs.length=n*3) (hvl:vs.length=3)
  (hcs:∀ j v,cs[j]? = some v→w.cell? ⟨b,j,none⟩=some v) (hsp:∀ j,j<(n+1)*3→(w.cell? ⟨b,j,none⟩).isSome=true) (hfz:∀ j,j<(n+1)*3→w.frozen? ⟨b,j,none⟩=false)
  (hvs:∀ j v,vs[j]? = some v→w.cell? ⟨vb,j,none⟩=some v) (h1c:∀ v ∈ cs,v.oneCell'=true) (h1v:∀ v ∈ vs,v.oneCell'=true)
  (tA tB:TypeId) (kA kB:Nat) (hsa:w.shape? vb=some (tA,kA)) (hsb:w.shape? b=some (tB,kB)) (hkB:kB≠0) (hfa:w.frozen? ⟨vb,0,none⟩=false) (hfe:w.frozen? ⟨vb,kA,none⟩=false) :
  Calls Tryz.prog 127 #[.slice (some ⟨b,0,none⟩) n c,.int .i64 i,.slice (some ⟨vb,0,none⟩) 1 vc] w fun e w' =>
   e=.returned (.slice (some ⟨b,0,none⟩) (n+1) c)∧w'=(w.drew.setCells b ((i+1)*3) (cs.drop ((i)*3))).setCells b ((i)*3) vs:=by
 have hz2:¬ ((i:Int)=(n:Int)):=by omega
 have hz3:¬ ((c:Int)<(n:Int)+1):=by omega
 have mixed:Tryz.prog.follows .mixedOrders=true:=by kernel_rfl
 have hov:∀ lb cb,(callFunc 192 #[.slice (some ⟨vb,0,none⟩) 1 vc,.slice (some ⟨b,(i+1)*3,none⟩) lb cb]).run Tryz.prog w=.ok (.value (.bool false)) w:=fun lb cb=>by
  rw [run_callFunc_extern Tryz.func192 (by kernel_rfl) (by kernel_rfl) (by kernel_rfl) (e:=Extern.SlicesOverlaps.overlaps #[84,84] #[4]) (by kernel_rfl),
   Lib.run_overlaps_apart w 84 4 99 Tryz.underlying84 3 (fun w=>C6 hs0 w) ⟨vb,0,none⟩ ⟨b,(i+1)*3,none⟩ 1 vc lb cb hvb tA tB kA kB hsa hsb hkB hfa hfe]
  rfl
 have hdl:(cs.drop ((i)*3)).length=(n-i)*3:=by rw [List.length_drop,hcl];omega
 have hw1:IntKind.i64.wrap ((i:Int)+1)=(i:Int)+1:=by rw [IntKind.wrap_i64];omega
 have hb1:(0:Int)≤(i:Int)+1:=by omega
 have hin:i≤n:=by omega
 have htn:((i:Int)+1).toNat=i+1:=by omega
 have hb2:¬ (c=i+1):=by omega
 have hb3:(i:Int)≤(n:Int)+1:=by omega
 have hb4:¬ (c=i):=by omega
 have hcp1:∀ ty dc sc,(Builtin.copy_ #[84,84] ty #[.slice (some ⟨b,(i+1)*3,none⟩) (n-i) dc,.slice (some ⟨b,(i)*3,none⟩) (n+1-i) sc]).run Tryz.prog w.drew=.ok (goInt (n-i:Nat)) (w.drew.setCells b ((i+1)*3) (cs.drop ((i)*3))):=fun ty dc sc =>
  Hu w.drew _ _ ty 99 b ((i+1)*3) (n-i) dc ⟨b,(i)*3,none⟩ (n+1-i) sc 3 (n-i) (cs.drop ((i)*3)) Tryz.underlying84 hs0 (by simp only [Nat.min_def];split <;> omega) hdl
   (fun j v hj=>by rw [Addr.add_lit];exact hcs ((i)*3+j) v (by rwa [List.getElem?_drop] at hj))
   (fun j hj=>hsp _ (by rw [hdl] at hj;omega)) (fun j hj=>hfz _ (by rw [hdl] at hj;omega)) (fun v hv=>h1c v (List.mem_of_mem_drop hv))
 obtain ⟨W1,hW1⟩:∃ W1,W1=w.drew.setCells b ((i+1)*3) (cs.drop ((i)*3)):=⟨_,rfl⟩
 have hsp1:∀ k,k<(n+1)*3→(W1.cell? ⟨b,k,none⟩).isSome=true:=fun k hk=>by
  rw [hW1]
  exact isSome_setCells b (cs.drop ((i)*3)) ((i+1)*3) w.drew (fun j hj=>hsp _ (by rw [hdl] at hj;omega)) _ (hsp k hk)
 have hcp2:∀ (W:World),(∀ x,W.cell? x=W1.cell? x)→(∀ x,W.frozen? x=W1.frozen? x)→∀ ty dc,(Builtin.copy_ #[84,84] ty #[.slice (some ⟨b,(i)*3,none⟩) (n+1-i) dc,.slice (some ⟨vb,0,none⟩) 1 vc]).run Tryz.prog W=.ok (goInt (1:Nat)) (W.setCells b ((i)*3) vs):=fun W hWc hWf ty dc =>
  Hu W _ _ ty 99 b ((i)*3) (n+1-i) dc ⟨vb,0,none⟩ 1 vc 3 1 vs Tryz.underlying84 hs0 (by simp only [Nat.min_def];split <;> omega) (by omega)
   (fun j v hj=>by
    rw [Addr.add_lit,hWc,hW1,Nat.zero_add,World.cell?_setCells_out b _ _ _ _ (fun h _=>absurd h hvb)]
    exact hvs j v hj)
   (fun j hj=>by rw [hWc];exact hsp1 _ (by omega)) (fun j hj=>by rw [hWf,hW1,World.frozen?_setCells];exact hfz _ (by omega)) h1v
 rw [← hW1] at hcp1
 go_enter Tryz.func127,Tryz.ntmps127
 go_wp2_with (simp only [hov])
 go_region_law_o (refine step_copy_runI rfl _ _ 84 84 rfl _ _ (by simp [Act.eval,Act.put]) (by simp [Act.eval,Act.put]) (hcp1 _ _ _) ?_)
 go_wp2_with (at_builtin;refine wpList_copy_runI _ rfl _ _ 84 84 rfl _ _ rfl rfl (hcp2 _ (fun _=>rfl) (fun _=>rfl) _ _) ?_)
 go_ret
 first | exact ⟨rfl,rfl⟩ | exact ⟨rfl,by rw [hW1]⟩
set_option maxHeartbeats 4000000 in
theorem Afq (b n c i vb vc:Nat) (cs vs:List Value) (w:World) (i0:TypeInfo) (hi0:Tryz.prog.info? 99=some i0) (hz0:i0.zero=some (.agg #[.slice none 0 0,.slice none 0 0,.bool false])) (hs0:i0.size=3) (hi:i<n) (hnc:n≤c) (hroom:c<n+1) (hn63:n+1≤4611686018427387904)
  (hb48:(n+1)*i0.bytes≤281474976710656) (hfit:Builtin.nextslicecap (n+1) c*i0.bytes≤281474976710656) (hcl:cs.length=n*3) (hvl:vs.length=3)
  (hcs:∀ j v,cs[j]? = some v→w.cell? ⟨b,j,none⟩=some v) (hvs:∀ j v,vs[j]? = some v→w.cell? ⟨vb,j,none⟩=some v) (h1c:∀ v ∈ cs,v.oneCell'=true) (h1v:∀ v ∈ vs,v.oneCell'=true) :
  Calls Tryz.prog 127 #[.slice (some ⟨b,0,none⟩) n c,.int .i64 i,.slice (some ⟨vb,0,none⟩) 1 vc] w fun e w' =>
   e=.returned (.slice (some ⟨w.heap.size,0,none⟩) (n+1) (grownCap w (n+1) c 99)) ∧
   w'=(((w.alloc (.cells ((cs.take ((i)*3)).toArray++Builtin.zeroCells (Value.cells (.agg #[.slice none 0 0,.slice none 0 0,.bool false])) (n+1-i)++Builtin.zeroCells (Value.cells (.agg #[.slice none 0 0,.slice none 0 0,.bool false])) (grownCap w (n+1) c 99-(n+1))) 99)).drew.setCells w.heap.size ((i)*3) vs).drew).setCells w.heap.size ((i+1)*3) (cs.drop ((i)*3)):=by
 have mixed:Tryz.prog.follows .mixedOrders=true:=by kernel_rfl
 have hz2:¬ ((i:Int)=(n:Int)):=by omega
 have hz3:(c:Int)<(n:Int)+1:=by omega
 have hsz:(Tryz.prog.info? 99).map (·.size)=some 3:=by rw [hi0];simp [hs0]
 have hbw:b<w.heap.size:=block_lt_of_cell (hcs 0 _ (List.getElem?_eq_getElem (by omega)))
 have hvw:vb<w.heap.size:=block_lt_of_cell (hvs 0 _ (List.getElem?_eq_getElem (by omega)))
 have hkk:(n:Int)+1-(i:Int)=((n+1-i:Nat):Int):=by omega
 have hik:i+(n+1-i)=n+1:=by omega
 have htl:(cs.take ((i)*3)).length=i*3:=by rw [List.length_take];omega
 have hold:(Builtin.firstCells i0.size i (.slice (some ⟨b,0,none⟩) i c)).run Tryz.prog w.drew=.ok (cs.take ((i)*3)).toArray w.drew:=by
  rw [hs0]
  exact run_firstCells_some w.drew 3 i ⟨b,0,none⟩ i c (cs.take ((i)*3)) htl (fun j v hj=>by
   rw [Addr.add_lit,Nat.zero_add]
   rw [List.getElem?_take] at hj
   split at hj
   ·exact hcs j v hj
   ·cases hj)
 have hrz:∀ ty,(Builtin.append_ #[84,3] ty #[.slice (some ⟨b,0,none⟩) i c,.int .i64 ((n:Int)+1-(i:Int))]).run Tryz.prog w =
   .ok (.slice (some ⟨w.heap.size,0,none⟩) (n+1) (grownCap w (n+1) c 99)) (w.drew.alloc (.cells ((cs.take ((i)*3)).toArray++Builtin.zeroCells (Value.cells (.agg #[.slice none 0 0,.slice none 0 0,.bool false])) (n+1-i)++Builtin.zeroCells (Value.cells (.agg #[.slice none 0 0,.slice none 0 0,.bool false])) (grownCap w (n+1) c 99-(n+1))) 99)):=fun ty=>by
  have h:=Lib.run_append_grow_zeros w 84 3 ty 99 i0 _ .i64 .i64 Tryz.underlying84 Tryz.underlying3 hi0 hz0 (some ⟨b,0,none⟩) i c (cs.take ((i)*3)) hold (n+1-i) (by omega) (by omega) (by omega) (by omega) (Nat.le_trans (Nat.mul_le_mul_right _ (by omega)) hb48) (by rw [hik];exact hfit)
  rw [hik] at h
  rw [hkk]
  exact h
 obtain ⟨G,hG⟩:∃ G,G=grownCap w (n+1) c 99:=⟨_,rfl⟩
 obtain ⟨ROW,hROW⟩:∃ ROW:Array Value,ROW=(cs.take ((i)*3)).toArray++Builtin.zeroCells (Value.cells (.agg #[.slice none 0 0,.slice none 0 0,.bool false])) (n+1-i)++Builtin.zeroCells (Value.cells (.agg #[.slice none 0 0,.slice none 0 0,.bool false])) (G-(n+1)):=⟨_,rfl⟩
 rw [← hG] at hrz ⊢
 rw [← hROW] at hrz ⊢
 have hzc:∀ k,(Builtin.zeroCells (Value.cells (.agg #[.slice none 0 0,.slice none 0 0,.bool false])) k).size=k*3:=fun k=>by simp [Builtin.zeroCells,Value.cells]
 have hRl:(n+1)*3≤ROW.size:=by
  rw [hROW,Array.size_append,Array.size_append,hzc,hzc,List.size_toArray,htl]
  omega
 obtain ⟨W1,hW1⟩:∃ W1,W1=w.drew.alloc (.cells ROW 99):=⟨_,rfl⟩
 rw [← hW1] at hrz
 have hN:∀ j,j<(n+1)*3→(W1.cell? ⟨w.heap.size,j,none⟩).isSome=true:=fun j hj=>by
  rw [hW1,World.cell?_alloc_at (w:=w.drew) ROW _ w.heap.size j rfl,Array.getElem?_eq_getElem (by omega)];rfl
 have hNf:∀ j,W1.frozen? ⟨w.heap.size,j,none⟩=false:=fun j=>by rw [hW1];exact World.frozen?_alloc_at (w:=w.drew) ROW _ w.heap.size j rfl
 have hOb:∀ j v,w.cell? ⟨b,j,none⟩=some v→W1.cell? ⟨b,j,none⟩=some v:=fun j v h=>by rw [hW1,World.cell?_alloc_past (w:=w.drew) _ b j hbw];exact h
 have hOv:∀ j v,w.cell? ⟨vb,j,none⟩=some v→W1.cell? ⟨vb,j,none⟩=some v:=fun j v h=>by rw [hW1,World.cell?_alloc_past (w:=w.drew) _ vb j hvw];exact h
 have hcpA:∀ (W:World),(∀ x,W.cell? x=W1.cell? x)→(∀ x,W.frozen? x=W1.frozen? x)→∀ ty dc,(Builtin.copy_ #[84,84] ty #[.slice (some ⟨w.heap.size,(i)*3,none⟩) (n+1-i) dc,.slice (some ⟨vb,0,none⟩) 1 vc]).run Tryz.prog W=.ok (goInt (1:Nat)) (W.setCells w.heap.size ((i)*3) vs):=fun W hWc hWf ty dc =>
  Hu W _ _ ty 99 w.heap.size ((i)*3) (n+1-i) dc ⟨vb,0,none⟩ 1 vc 3 1 vs Tryz.underlying84 hsz (by simp only [Nat.min_def];split <;> omega) (by omega)
   (fun j v hj=>by rw [Addr.add_lit,hWc,Nat.zero_add];exact hOv _ v (hvs j v hj))
   (fun j hj=>by rw [hWc];exact hN _ (by omega)) (fun j hj=>by rw [hWf];exact hNf _) h1v
 have hGn:n+1≤G:=by rw [hG];exact grownCap_ge w _ _ _
 have hG63:G≤9223372036854775807:=by
  have:=grownCap_le_maxLen w (n+1) c 99 (by unfold maxLen;omega)
  rw [← hG] at this
  unfold maxLen at this
  omega
 have hGi:¬ (G=i):=by omega
 have hGim:¬ (G=i+1):=by omega
 have hci:¬ (c=i):=by omega
 have hbN:b≠w.heap.size:=by omega
 have hdl:(cs.drop ((i)*3)).length=(n-i)*3:=by rw [List.length_drop,hcl];omega
 have hcpB:∀ (W:World),(∀ x,W.cell? x=(W1.setCells w.heap.size ((i)*3) vs).cell? x)→(∀ x,W.frozen? x=(W1.setCells w.heap.size ((i)*3) vs).frozen? x)→∀ ty dc sc,(Builtin.copy_ #[84,84] ty #[.slice (some ⟨w.heap.size,(i+1)*3,none⟩) (n-i) dc,.slice (some ⟨b,(i)*3,none⟩) (n-i) sc]).run Tryz.prog W=.ok (goInt (n-i:Nat)) (W.setCells w.heap.size ((i+1)*3) (cs.drop ((i)*3))):=fun W hWc hWf ty dc sc =>
  Hu W _ _ ty 99 w.heap.size ((i+1)*3) (n-i) dc ⟨b,(i)*3,none⟩ (n-i) sc 3 (n-i) (cs.drop ((i)*3)) Tryz.underlying84 hsz (by simp only [Nat.min_def];split <;> omega) hdl
   (fun j v hj=>by
    rw [Addr.add_lit,hWc,World.cell?_setCells_out _ _ _ _ _ (fun h _=>absurd h hbN)]
    exact hOb _ v (hcs ((i)*3+j) v (by rwa [List.getElem?_drop] at hj)))
   (fun j hj=>by rw [hWc];exact isSome_setCells w.heap.size vs ((i)*3) W1 (fun t ht=>hN _ (by omega)) _ (hN _ (by rw [hdl] at hj;omega)))
   (fun j hj=>by rw [hWf,World.frozen?_setCells];exact hNf _) (fun v hv=>h1c v (List.mem_of_mem_drop hv))
 subst hW1
 have hE1:∀ x,((w.alloc (.cells ROW 99)).drew).cell? x=(w.drew.alloc (.cells ROW 99)).cell? x:=fun x=>rfl
 have hE2:∀ x,((w.alloc (.cells ROW 99)).drew).frozen? x=(w.drew.alloc (.cells ROW 99)).frozen? x:=fun x=>rfl
 have hF1:∀ x,(((w.alloc (.cells ROW 99)).drew.setCells w.heap.size ((i)*3) vs).drew).cell? x=((w.drew.alloc (.cells ROW 99)).setCells w.heap.size ((i)*3) vs).cell? x:=fun x=>rfl
 have hF2:∀ x,(((w.alloc (.cells ROW 99)).drew.setCells w.heap.size ((i)*3) vs).drew).frozen? x=((w.drew.alloc (.cells ROW 99)).setCells w.heap.size ((i)*3) vs).frozen? x:=fun x=>rfl
 have hw1:IntKind.i64.wrap ((i:Int)+1)=(i:Int)+1:=by rw [IntKind.wrap_i64];omega
 have hb1:(0:Int)≤(i:Int)+1:=by omega
 have hin:i≤n:=by omega
 have htn:((i:Int)+1).toNat=i+1:=by omega
 have hb3:(i:Int)≤(n:Int):=by omega
 clear hkk hik hold hROW hG hRl htl hzc
 go_enter Tryz.func127,Tryz.ntmps127
 go_wp2_with (first
  | (at_builtin;refine Lib.wpList_append_run _ rfl _ _ _ _ rfl _ _ rfl rfl _ _ (hrz _) ?_)
  | (at_builtin;refine wpList_copy_runI _ rfl _ _ 84 84 rfl _ _ rfl rfl (hcpA _ hE1 hE2 _ _) ?_)
  | (at_builtin;refine wpList_copy_runI _ rfl _ _ 84 84 rfl _ _ rfl rfl (hcpB _ (fun _=>rfl) (fun _=>rfl) _ _ _) ?_))
 go_region_law_o (refine step_copy_runI rfl _ _ 84 84 rfl (.slice (some ⟨w.heap.size,(i+1)*3,none⟩) (n-i) (G-(i+1))) (.slice (some ⟨b,(i)*3,none⟩) (n-i) (c-i)) (by simp [Act.eval,Act.put]) (by simp [Act.eval,Act.put]) (hcpB _ hF1 hF2 3 (G-(i+1)) (c-i)) ?_)
 go_wp2
 go_ret
 exact ⟨R,R⟩
set_option maxHeartbeats 4000000 in
theorem Ai9 (vb vc:Nat) (vs:List Value) (w:World) (i0:TypeInfo) (hi0:Tryz.prog.info? 99=some i0) (hz0:i0.zero=some (.agg #[.slice none 0 0,.slice none 0 0,.bool false])) (hs0:i0.size=3)
  (hfit:Builtin.nextslicecap (0+1) 0*i0.bytes≤281474976710656) (hvl:vs.length=3)
  (hvs:∀ j v,vs[j]? = some v→w.cell? ⟨vb,j,none⟩=some v) (h1v:∀ v ∈ vs,v.oneCell'=true) :
  Calls Tryz.prog 127 #[.slice none 0 0,.int .i64 ((0:Nat):Int),.slice (some ⟨vb,0,none⟩) 1 vc] w fun e w' =>
   e=.returned (.slice (some ⟨w.heap.size,0,none⟩) (0+1) (grownCap w (0+1) 0 99)) ∧
   w'=w.drew.alloc (.cells (([]++vs).toArray++Builtin.zeroCells (Value.cells (.agg #[.slice none 0 0,.slice none 0 0,.bool false])) (grownCap w (0+1) 0 99-(0+1))) 99):=by
 have hsrc:_root_.Go.Src Tryz.prog i0.size 84 (.slice (some ⟨vb,0,none⟩) 1 vc) 1 vs w:=by
  rw [hs0]
  exact _root_.Go.Src.ofSlice w Tryz.underlying84 ⟨vb,0,none⟩ 1 vc vs (by omega) (fun j u hj=>by rw [Addr.add_lit,Nat.zero_add];exact hvs j u hj) h1v
 have hold:(Builtin.firstCells i0.size 0 (.slice none 0 0)).run Tryz.prog w.drew=.ok ([]:List Value).toArray w.drew:=by
  rw [hs0]
  exact run_firstCells_none w.drew 3 0 0 0
 have hrun:∀ ty,(Builtin.append_ #[84,84] ty #[.slice none 0 0,.slice (some ⟨vb,0,none⟩) 1 vc]).run Tryz.prog w=.ok (.slice (some ⟨w.heap.size,0,none⟩) (0+1) (grownCap w (0+1) 0 99)) (w.drew.alloc (.cells (([]++vs).toArray++Builtin.zeroCells (Value.cells (.agg #[.slice none 0 0,.slice none 0 0,.bool false])) (grownCap w (0+1) 0 99-(0+1))) 99)):=fun ty =>
  run_append_grow_src w 84 84 ty 99 i0 _ Tryz.underlying84 hi0 hz0 none 0 0 [] hold _ 1 vs hsrc (by omega) (by omega) hfit
 go_enter Tryz.func127,Tryz.ntmps127
 go_wp2_with (at_builtin;refine Lib.wpList_append_run _ rfl _ _ _ _ rfl _ _ rfl rfl _ _ (hrun _) ?_)
 all_goals (go_ret;first | exact ⟨rfl,rfl⟩ | exact ⟨rfl,by simp [Value.cells]⟩)
theorem Afr:(Tryz.prog.info? 99).map (fun i=>(i.zero,i.size,i.bytes))=some (some (.agg #[.slice none 0 0,.slice none 0 0,.bool false]),3,56):=by kernel_rfl
theorem Anq {cs vs:List Lf} {n i:Nat} (hcl:cs.length=n*3) (hvl:vs.length=3) (hi:i≤n) (hn:(n+1)*56≤140737488355328) :
  De Tryz.prog 127 [.arr 99 3 0 cs,.arr 99 3 0 vs] [.one (.ls 0 n),.one (Ii6 (i:Int)),.one (.ls 1 1)] (fun y m'=>y=.s (.one (.ls 0 (n+1)))∧m'=[.arr 99 3 0 (cs.take (i*3)++vs++cs.drop (i*3)),.dead]):=by
 refine Wv (by decide) hcl hvl (fun w v1 vb vc cur2 xs ys hown hg2 hcell hyl hne hx1 hy1=>?_)
 obtain ⟨i0,hi0,hz0,hs0,hb0⟩:=info_parts Afr
 have hxl:=hown.1
 have hfitG:∀ {old},old<n+1→Builtin.nextslicecap (n+1) old*i0.bytes≤281474976710656:=fun h=>growslice_fits h (by rw [hb0];exact hn)
 have hsz':(Tryz.prog.info? 99).map (·.size)=some 3:=by rw [hi0];simp [hs0]
 have hzc:∀ k,(Builtin.zeroCells (Value.cells (.agg #[.slice none 0 0,.slice none 0 0,.bool false])) k).size=k*3:=fun k=>by simp [Builtin.zeroCells,Value.cells]
 have hg63:∀ c,grownCap w (n+1) c 99≤maxLen:=fun c=>grownCap_le_maxLen w (n+1) c 99 (by unfold maxLen;omega)
 have hgge:∀ c,n+1≤grownCap w (n+1) c 99:=fun c=>grownCap_ge w _ _ _
 rcases hown.2 with ⟨rfl,h0⟩ | ⟨g,cap,cur,rfl,_,hg,hnc,hcm,hcs,hct⟩
 ·subst h0
  have hi0':i=0:=by omega
  subst hi0'
  have hx0:xs=[]:=List.length_eq_zero_iff.1 (hxl.trans (Nat.zero_mul _))
  subst hx0
  refine (Ai9 vb vc ys w i0 hi0 hz0 hs0 (hfitG (by omega)) hyl hcell hy1).mono ?_
  rintro e w' ⟨rfl,rfl⟩
  refine ⟨_,w.heap.size,R,Ot (hgge 0) (hg63 0) ?_ ?_,.inr (Nat.le_refl _)⟩
  ·have:=hgge 0
   rw [Array.size_append,hzc,List.size_toArray,List.nil_append,hyl];omega
  ·rw [Array.toList_append,List.toList_toArray,List.take_left' (by rw [List.nil_append,hyl])]
   simp
 ·have hcur:cur.toList.length=cap*3:=by rw [Array.length_toList];exact hcs
  have hcell1:∀ j v,xs[j]? = some v→w.cell? ⟨g,j,none⟩=some v:=fun j v hj=>by
   unfold World.cell?
   rw [hg]
   rw [← hct,List.getElem?_take] at hj
   split at hj
   ·simpa using hj
   ·cases hj
  have hc63:cap≤9223372036854775807:=by unfold maxLen at hcm;exact hcm
  have hsome:∀ j,j<cap*3→(w.cell? ⟨g,j,none⟩).isSome=true:=fun j hj=>by
   unfold World.cell?
   rw [hg]
   show (cur[j]?).isSome=true
   rw [Array.getElem?_eq_getElem (by omega)];rfl
  have hfrz:∀ j,w.frozen? ⟨g,j,none⟩=false:=fun j=>by
   unfold World.frozen?
   rw [hg]
   show (decide (0≤j) && decide (j<0))=false
   rw [decide_eq_false (Nat.not_lt_zero j),Bool.and_false]
  have hfrz2:∀ j,w.frozen? ⟨vb,j,none⟩=false:=fun j=>by
   unfold World.frozen?
   rw [hg2]
   show (decide (0≤j) && decide (j<0))=false
   rw [decide_eq_false (Nat.not_lt_zero j),Bool.and_false]
  have hvb:vb≠g:=fun e=>hne (by rw [e];rfl)
  rcases Nat.lt_or_eq_of_le hi with hlt | rfl
  ·rcases Nat.lt_or_ge cap (n+1) with hroom | hroom
   ·refine (Afq g n cap i vb vc xs ys w i0 hi0 hz0 hs0 hlt hnc hroom (by omega) (by rw [hb0];omega) (hfitG hroom) hxl hyl hcell1 hcell hx1 hy1).mono ?_
    rintro e w' ⟨rfl,rfl⟩
    have hge:=hgge cap
    have htl:(xs.take (i*3)).length=i*3:=by rw [List.length_take];omega
    have:=Tn (E:=99) (sz:=3) (w:=w) (row:=(xs.take (i*3)).toArray++Builtin.zeroCells (Value.cells (.agg #[.slice none 0 0,.slice none 0 0,.bool false])) (n+1-i)++Builtin.zeroCells (Value.cells (.agg #[.slice none 0 0,.slice none 0 0,.bool false])) (grownCap w (n+1) cap 99-(n+1))) (xs:=xs.take (i*3)) (vs:=ys) (D:=xs.drop (i*3)) hlt hge (hg63 cap)
     (by rw [Array.size_append,Array.size_append,hzc,hzc,List.size_toArray,htl];omega) hyl (by rw [List.length_drop,hxl];omega)
     (by rw [Array.toList_append,Array.toList_append,List.toList_toArray,List.append_assoc,List.take_left' htl])
    refine ⟨_,w.heap.size,R,?_,.inr (Nat.le_refl _)⟩
    first | exact this | simpa only [Nat.mul_one] using this
   ·refine (Ad0 g n cap i vb vc xs ys w hsz' hlt hroom hc63 hvb hxl hyl hcell1 (fun j hj=>hsome j (by omega)) (fun j _=>hfrz j) hcell hx1 hy1 99 99 cur2.size cur.size (by unfold World.shape?;rw [hg2]) (by unfold World.shape?;rw [hg]) (by omega) (hfrz2 _) (hfrz2 _)).mono ?_
    rintro e w' ⟨rfl,rfl⟩
    have:=Rz (E:=99) (sz:=3) (b:=g) (vs:=ys) hg hlt hroom hcm hcs hyl
    rw [hct] at this
    refine ⟨_,g,R,?_,.inl R⟩
    first | exact this | simpa only [Nat.mul_one] using this
  ·have hxe:xs.take (i*3)++ys++xs.drop (i*3)=xs++ys:=by
    rw [List.take_of_length_le (by omega),List.drop_of_length_le (by omega),List.append_nil]
   rw [hxe]
   rcases Nat.lt_or_ge cap (i+1) with hroom | hroom
   ·refine (Acr g i cap vb vc xs ys w i0 hi0 hz0 hs0 hnc hroom (by omega) (hfitG hroom) hxl hyl hcell1 hcell hy1).mono ?_
    rintro e w' ⟨rfl,rfl⟩
    have hge:=hgge cap
    refine ⟨_,w.heap.size,R,Ot hge (hg63 cap) ?_ ?_,.inr (Nat.le_refl _)⟩
    ·rw [Array.size_append,hzc,List.size_toArray,List.length_append,hxl,hyl];omega
    ·rw [Array.toList_append,List.toList_toArray,List.take_left' (by rw [List.length_append,hxl,hyl];omega)]
   ·refine (Ait g i cap vb vc ys w i0 hi0 hs0 hroom hc63 hyl (fun j hj=>hsome _ (by omega)) (fun j _=>hfrz _) hcell hy1).mono ?_
    rintro e w' ⟨rfl,rfl⟩
    have:=U4 (E:=99) (sz:=3) (n:=i) (b:=g) (vs:=ys) hg hroom hcm hcs hyl
    rw [hct] at this
    exact ⟨_,g,R,this,.inl R⟩
end
def Nt (a0:List A8) (a1:Int) (a2:List A8):Option (List A8):=Amr 56 a0 a1 a2
theorem T6 {a0:List A8} {a1:Int} {a2 r:List A8} (h:Nt a0 a1 a2=some r):De Tryz.prog 127 [.arr 99 3 0 (a0.flatMap Ba),.arr 99 3 0 (a2.flatMap Ba)] [.one (.ls 0 a0.length),.one (Ii6 a1),.one (.ls 1 a2.length)] (fun y m'=>y=.s (.one (.ls 0 r.length))∧m'=[.arr 99 3 0 (r.flatMap Ba),.dead]) :=
 Alg (f:=Ba) (fun _=>rfl) Anq h
def Jz (a0:B4) (a1:A8) (b1:Unit):Option (B4 × Int) :=
 (E1 a0).bind fun v2=>(Eu v2 a1.Key).bind fun v3=>(Ic a0.L).bind fun v4=>if v3.2 then ((idx v4 v3.1).bind fun u5=>some ((B4.mk (v4.set v3.1.toNat a1)),0)) else (if (decide (16≤(v4.length:Int))) then (some ((B4.mk ([]:List A8)),8)) else ((Nt v4 v3.1 [a1]).bind fun v6=>some ((B4.mk v6),0)))
def Ef (a0:B4) (a1:A8):Option (B4 × Int) :=
 (Fe (B4.mk a0.L)).bind fun v7=>if (!v7) then (some ((B4.mk ([]:List A8)),1)) else ((Cv (A8.mk a1.Key a1.Val a1.Del)).bind fun v8=>if (!v8) then (some ((B4.mk ([]:List A8)),1)) else (Jz a0 a1 ()))
theorem X4 {a0:B4} {a1:A8} {r:B4 × Int} (h:Ef a0 a1=some r):Bt Tryz.prog 53 [.agg [.sl a0.L.length (a0.L.flatMap Ba)],.agg (EL.el a1)] (·=.tup [.agg [.sl r.1.L.length (r.1.L.flatMap Ba)],.one (Ii6 r.2)]):=by
 unfold Ef at h
 refine A4 Tryz.func53 R (nt:=46) R (Nbl R) ?_
 intro w0 S0
 refine csr (F0 R R (F0 R R (Bq R Aqf (rm 1 R (Ai (Br (Br (Hp (Unit) (fun b1=>[(2,.s (.one (.lp 0 0))),(3,.s (.one (.lp 1 0))),(4,.s (.one (.lp 2 0)))]) (fun b1=>[.box [.sl a0.L.length (a0.L.flatMap Ba)],.box (EL.el a1),.box [Znl]]) (fun b1=>Jz a0 a1 b1=some r) (fun _ _=>A5 R) (fun _ _=>Ap R) (fun _ _=>Nbl R) (fun b1 h=>?_) ?_))))))))
 ·unfold Jz at h
  refine Br ?_
  obtain ⟨v2,hv2,h⟩:=Ae h
  obtain ⟨v3,hv3,h⟩:=Ae h
  refine Ki [] [0,1,0,4,15,31,63,63,127,511] [[.box [.sl a0.L.length (a0.L.flatMap Ba)],.box (EL.el a1),.box [Znl]]] (by kernel_rfl) mixed (by kernel_rfl) (by decide) R R R R ?_
  refine ev (Bg 0 R R) R R (Bf Af3 R (.lp _ _ _ R) (Nbl R)) (ed (Bg 0 R R) R R (C9 As7 (Aa R Af) R (Pt hv2)) (ev (Bg 0 R R) R R (Ac Sa R) (ev (Bg 0 R R) R R (Ak Nr R (.lp _ _ _ R) R) (ed (Bg 0 R R) R R (C9 Ava (Aa R (Aa R Af)) R (Qi hv3)) (ev (Bg 0 R R) R R (Cd R) (ev (Bg 0 R R) R R (Aj R R) (ev (Bg 0 R R) R R (Aj R R) (ev (Bg 0 R R) R R (Ko R) (ev (Bg 0 R R) R R (Ko R) (Abk (Ab (csr (sv R (Ac V2 R) (sv R (Ak Ani R (.lp _ _ _ R) R) ?_))))))))))))))
  obtain ⟨v4,hv4,h⟩:=Ae h
  refine Ho (x':=.s (.one (.ls 3 v4.length))) (M':=[.box [.sl a0.L.length (a0.L.flatMap Ba)],.box (EL.el a1),.box [Znl],.arr 99 3 0 (v4.flatMap Ba)]) [] R Awy (.func _) (Aa R Af) (T0 hv4) R R (by decide) R R R ?_
  refine rm 1 R (Ai (Br (csr (rm 1 R (Ai (ccI h R (fun h=>?_) (fun h=>?_)))))))
  ·refine csr (rm 2 R (sv R (Bf Aea R (.lp _ _ _ R) (Nbl R)) ?_))
   obtain ⟨u5,hu5,h⟩:=Ae h
   refine sv R (I4 (f:=Ba) Ab9 (fun _=>R) R R R R R hu5) ?_
   refine Abd (f:=Ba) (u':=a1) (sz:=3) 0 Ajm (fun _=>R) R R R R R R R (List.all_eq_true.1 R) (L6 hu5).2 (Nbl R) R ?_
   refine M0 28 (y:=.s (.one (.ls 3 v4.length))) (.s (.one (.ls 3 (v4.set v3.1.toNat a1).length))) R (congrArg (fun n=>AV.s (.one (.ls 3 n))) List.length_set.symm) ?_
   refine M0 8 (y:=.s (.one (.ls 3 v4.length))) (.s (.one (.ls 3 (v4.set v3.1.toNat a1).length))) R (congrArg (fun n=>AV.s (.one (.ls 3 n))) List.length_set.symm) ?_
   refine M0 30 (y:=.s (.one (.ls 3 v4.length))) (.s (.one (.ls 3 (v4.set v3.1.toNat a1).length))) R (congrArg (fun n=>AV.s (.one (.ls 3 n))) List.length_set.symm) ?_
   refine Ai (csr (rm 1 R (sv R (A6 Aqf Atw (Av R Az) (.cons _ _ _ _ _ _ _ R R (Nbl R) (.nil _))) (sst Aqw R R R R R (rm 1 R (Ai (Bv (Ag ?_))))))))
   obtain rfl:=SJ h
   refine ⟨Or.inr R,_,_,_,(Ad (ra Af3 R R R) (Ad (rt R) Ah)),(by (repeat' first | exact J7.nil _ | apply J7.cons | apply Jm.one | apply Jm.agg | exact Dm.nil | exact Dm.ls _ _ _ _ _ _ R (A1 (f:=Ba) (fun _=>R) _).symm | exact Dm.id _ R | exact Cw.nil _ | apply Cw.cons)),?_⟩
   rfl
  ·refine Bj (Ab (Br (csr (rm 1 R (sv R (Mf Ab9 R R (A1 (f:=Ba) (fun _=>R) _).symm) ?_)))))
   refine sv R (He R R) (Ai (ccI h R (fun h=>?_) (fun h=>?_)))
   ·refine csr (sv R (A6 Aqf Atw Az (.nil _)) (sst Aqw R R R R R (rm 1 R (Ai (Bv (Ag ?_))))))
    obtain rfl:=SJ h
    exact dn (Ad (ra Af3 R R R) (Ad (rt R) Ah)) (Iz R) R
   ·refine Bj (Ab (csr (rm 2 R (sv R (Bf Aea R (.lp _ _ _ R) (Nbl R)) ?_))))
    refine Gk R Tryz.underlying84 Avi R R (List.all_eq_true.1 R) (by decide) ?_
    refine P4 [.box [.sl a0.L.length (a0.L.flatMap Ba)],.box (EL.el a1),.box [Znl],.arr 99 3 0 (v4.flatMap Ba),.arr 99 3 0 ([a1].flatMap Ba)] R ?_
    obtain ⟨v6,hv6,h⟩:=Ae h
    refine Ho (x':=.s (.one (.ls 3 v6.length))) (M':=[.box [.sl a0.L.length (a0.L.flatMap Ba)],.box (EL.el a1),.box [Znl],.arr 99 3 0 (v6.flatMap Ba),.dead]) [3,4] R Aw7 (.func _) (Aa R (Aa R (Aa R Af))) (T6 hv6) R R (by decide) R R R ?_
    refine sv R (A6 Aqf Atw (Av R Az) (.cons _ _ _ _ _ _ _ R R (Nbl R) (.nil _))) (sst Aqw R R R R R (rm 1 R (Ai (Bv ?_))))
    obtain rfl:=SJ h
    refine ⟨Or.inr R,_,_,_,(Ad (ra Af3 R R R) (Ad (rt R) Ah)),(by (repeat' first | exact J7.nil _ | apply J7.cons | apply Jm.one | apply Jm.agg | exact Dm.nil | exact Dm.ls _ _ _ _ _ _ R (A1 (f:=Ba) (fun _=>R) _).symm | exact Dm.id _ R | exact Cw.nil _ | apply Cw.cons)),?_⟩
    rfl
 ·skip
  refine As (sv R (Bf Af3 R (.lp _ _ _ R) (Nbl R)) ?_)
  obtain ⟨v7,hv7,h⟩:=Ae h
  refine Bb R Aqn (Aa R Af) (Ao R) (Oe hv7) (sv R (B2 R) (rm 1 R (ssI 12 h R (fun h=>?_) (fun h=>?_))))
  ·refine rm 4 R (Ai (Cp R (fun _=>?_) (fun hx=>Bool.noConfusion hx)))
   refine csr (sv R (A6 Aqf Atw Az (.nil _)) (sst Aqw R R R R R (rm 1 R (Ai (Bv (Ag ?_))))))
   obtain rfl:=SJ h
   exact dn (Ad (ra Af3 R R R) (Ad (rt R) Ah)) (Iz R) R
  ·refine son R R R (ld Aea R R R R (son R R R ?_))
   obtain ⟨v8,hv8,h⟩:=Ae h
   refine Bb R Aur (Aa R Af) (Ao R) (N6 hv8) (son R R R (sv R (B2 R) (rm 1 R (Ai (ccI h R (fun h=>?_) (fun h=>?_))))))
   ·refine csr (sv R (A6 Aqf Atw Az (.nil _)) (sst Aqw R R R R R (rm 1 R (Ai (Bv (Ag ?_))))))
    obtain rfl:=SJ h
    exact dn (Ad (ra Af3 R R R) (Ad (rt R) Ah)) (Iz R) R
   ·refine Bj (Ab ?_)
    exact ⟨(),_,h,⟨R,R,R,trivial⟩,R⟩
def P3 (a0:Am) (a1:Bl) (a2:Int):Option Am :=
 (Q5 a2 1).bind fun v1=>if v1 then (some a0) else ((Dn a0 a1).bind fun v2=>some v2)
theorem Ym {a0:Am} {a1:Bl} {a2:Int} {r:Am} (h:P3 a0 a1 a2=some r):Bt Tryz.prog 66 [.agg (EL.el a0),.agg (EL.el a1),.one (.raw (.iface 62 (.int .i64 a2)))] (·=.s (.agg (EL.el r))):=by
 unfold P3 at h
 refine A4 Tryz.func66 R (nt:=14) R (Nbl R) ?_
 intro w0 S0
 refine csr (F0 R R (F0 R R (Bq R Q8 (Ai (Br (csr (rm 1 R (sv R (Agf Tryz.underlying62 R) ?_))))))))
 obtain ⟨v1,hv1,h⟩:=Ae h
 refine Bb R Av2 (Aa R (Aa R Af)) (Ao R) (Xx hv1) (Ai (ccI h R (fun h=>?_) (fun h=>?_)))
 ·refine csr (ld Dh R R R R (sst J8 R R R R R (Ai (Bv (Ag ?_)))))
  obtain rfl:=SJ h
  exact dnA R Dh R (.lp _ _ _ R) (Nbl R) R R
 ·refine Bj (Ab (csr (ld Dh R R R R (sv R (Bf Vv R (.lp _ _ _ R) (Nbl R)) ?_))))
  obtain ⟨v2,hv2,h⟩:=Ae h
  refine Bb R Ash (Aa R (Aa R Af)) (Ao R) (Ht hv2) (sst J8 R R R R R (Ai (Bv ?_)))
  obtain rfl:=SJ h
  exact dnA R Dh R (.lp _ _ _ R) (Nbl R) R R
def Im (a0:List Bl):Option (List Bl) :=
 if (([]:List Bl).length+a0.length)*64≤140737488355328 then (some (([]:List Bl)++a0)) else none
theorem Ue {a0:List Bl} {r:(List Bl)} (h:Im a0=some r):De Tryz.prog 139 [] [.one (.sl a0.length (a0.flatMap Bo))] (fun y m'=>y=.s (.one (.ls 0 r.length))∧m'=[.arr 88 6 0 (r.flatMap Bo)]):=by
 unfold Im at h
 refine Da Tryz.func139 R (nt:=8) R (Nbl R) ?_
 intro w0 S0 X0 H0
 refine csr (rm 1 R (Ai (Br (csr (rm 1 R (Afw R Tryz.underlying38 R (fun nq hnq=>?_)))))))
 cases nq
 ·skip
  refine Ai (Cp R (fun hx=>Bool.noConfusion hx) (fun _=>?_))
  refine Bj (Ab (csr (U5 R Tryz.underlying38 Arj (sv R (Bc R) ?_))))
  obtain ⟨hb1,h⟩:=Cy h
  refine Wb (f:=Bo) (xs:=([]:List Bl)) (us:=a0) R Tryz.underlying38 Arj Avu (fun _=>R) R R (.one _ _ _ _ (.id _ R)) R R R (.sl _ _ _ (A1 (f:=Bo) (fun _=>R) _)) R R hb1 (by decide) ?_
  refine rm 1 R (Ai (Bv ?_))
  obtain rfl:=SJ h
  exact ⟨Or.inr R,_,[0],[.one (.ls 0 (([]:List Bl)++a0).length)],[.arr 88 6 0 ((([]:List Bl)++a0).flatMap Bo)],(Ad (rt R) Ah),R,R,⟨by decide,R⟩,R,R,⟨R,R⟩⟩
 ·obtain rfl:=List.eq_nil_of_length_eq_zero (hnq rfl)
  replace h:(some ([]:List Bl))=some r:=by first | exact h | (rw [if_pos (by decide)] at h;exact h)
  refine Ai (Cp R (fun _=>?_) (fun hx=>Bool.noConfusion hx))
  refine csr (rm 1 R (Ai ?_))
  refine D1 88 6 2 (by decide) R ?_
  refine Bv (Ag ?_)
  obtain rfl:=SJ h
  exact ⟨Or.inr R,_,[0],[.one (.ls 0 ([]:List Bl).length)],[.arr 88 6 0 (([]:List Bl).flatMap Bo)],(Ad (rt R) Ah),R,R,⟨by decide,R⟩,R,R,⟨R,R⟩⟩
def M9 (a0:Am) (a1:Bl):Option Am :=
 (Im a0.Open).bind fun v1=>(Fy (Am.mk (B1.mk a0.Store.Keys a0.Store.Chains a0.Store.Ts) (Bh.mk a0.Cert.Txs (Bz.mk a0.Cert.Reads.L)) (Bm.mk a0.Toks.L) a0.Open a0.Next) a1.ID).bind fun v2=>(idx v1 v2).bind fun u3=>some (Am.mk (B1.mk a0.Store.Keys a0.Store.Chains a0.Store.Ts) (Bh.mk a0.Cert.Txs (Bz.mk a0.Cert.Reads.L)) (Bm.mk a0.Toks.L) (v1.set v2.toNat a1) a0.Next)
theorem V3 {a0:Am} {a1:Bl} {r:Am} (h:M9 a0 a1=some r):Bt Tryz.prog 67 [.agg (EL.el a0),.agg (EL.el a1)] (·=.s (.agg (EL.el r))):=by
 unfold M9 at h
 refine A4 Tryz.func67 R (nt:=19) R (Nbl R) ?_
 intro w0 S0
 refine csr (F0 R R (F0 R R (Bq R Q8 (Ai (csr (sv R (Ac Ro R) (sv R (Ak Ai1 R (.lp _ _ _ R) R) ?_)))))))
 obtain ⟨v1,hv1,h⟩:=Ae h
 refine Ho (x':=.s (.one (.ls 3 v1.length))) (M':=[.box (EL.el a0),.box (EL.el a1),.box Zba,.arr 88 6 0 (v1.flatMap Bo)]) [] R Awz (.func _) (Aa R Af) (Ue hv1) R R (by decide) R R R ?_
 refine rm 1 R (Ai (Br ?_))
 obtain ⟨v2,hv2,h⟩:=Ae h
 obtain ⟨u3,hu3,h⟩:=Ae h
 refine Ki [7] [0,0,0,4,14,0,63,127] [[.box (EL.el a0),.box (EL.el a1),.box Zba,.arr 88 6 0 (v1.flatMap Bo)],[.box (EL.el a0),.box (EL.el a1),.box Zba,.arr 88 6 0 ((v1.set v2.toNat a1).flatMap Bo)]] (by kernel_rfl) mixed (by kernel_rfl) (by decide) R R R R ?_
 refine ev (Bg 0 R R) R R (Bc R) (ev (Bg 0 R R) R R (Bf Dh R (.lp _ _ _ R) (Nbl R)) (ev (Bg 0 R R) R R (Ac Ri R) (ev (Bg 0 R R) R R (Ak ti3 R (.lp _ _ _ R) R) (ed (Bg 0 R R) R R (C9 Avx (Aa R (Aa R Af)) R (Qk hv2)) (ev (Bg 0 R R) R R (Bf Vv R (.lp _ _ _ R) (Nbl R)) ?_)))))
 refine ev (Bg 0 rfl rfl) rfl rfl (I4 (f:=Bo) Yl (fun _=>rfl) rfl rfl rfl (by first | rfl | exact List.length_set.symm) rfl hu3) ?_
 refine ee0 0 R R R R (fun ζ=>?_) ?_
 ·refine Abd (f:=Bo) (u':=a1) (sz:=6) 0 Zx (fun _=>rfl) rfl rfl rfl rfl (by first | rfl | exact List.length_set.symm) rfl rfl (List.all_eq_true.1 rfl) (L6 hu3).2 (Nbl rfl) rfl ?_
  exact Ta
 refine Abk (Ab (Wx 8 (y:=.s (.one (.ls 3 v1.length))) (.s (.one (.ls 3 (v1.set v2.toNat a1).length))) R (congrArg (fun n=>AV.s (.one (.ls 3 n))) List.length_set.symm) ?_))
 refine Wx 5 (y:=.s (.one (.ls 3 v1.length))) (.s (.one (.ls 3 (v1.set v2.toNat a1).length))) R (congrArg (fun n=>AV.s (.one (.ls 3 n))) List.length_set.symm) ?_
 refine Wx 9 (y:=.s (.one (.ls 3 v1.length))) (.s (.one (.ls 3 (v1.set v2.toNat a1).length))) R (congrArg (fun n=>AV.s (.one (.ls 3 n))) List.length_set.symm) ?_
 refine csr (rm 1 R (sv R (Ac Ro R) (sst Axz R R R R R (Ai (csr (ld Dh R R R R (sst J8 R R R R R (Ai (Bv ?_)))))))))
 obtain rfl:=SJ h
 refine ⟨Or.inr R,_,_,_,(Ad (ra Dh R R R) Ah),(by (repeat' first | exact J7.nil _ | apply J7.cons | apply Jm.one | apply Jm.agg | exact Dm.nil | exact Dm.ls _ _ _ _ _ _ R (A1 (f:=Bo) (fun _=>R) _).symm | exact Dm.id _ R | exact Cw.nil _ | apply Cw.cons)),?_⟩
 rfl
def Nk (a0:Am) (a1:Int) (a2:A8):Option (Am × Int) :=
 (Fc a0 a1).bind fun v1=>if (!decide (v1.2=0)) then ((F3 a0 v1.2).bind fun v2=>some (v2,v1.2)) else (if v1.1.RO then (some (a0,7)) else ((Ef v1.1.Buf a2).bind fun v3=>if (!decide (v3.2=0)) then ((P3 a0 v1.1 v3.2).bind fun v4=>some (v4,v3.2)) else ((M9 a0 ({v1.1 with Buf:=v3.1})).bind fun v5=>some (v5,0))))
theorem R3 {a0:Am} {a1:Int} {a2:A8} {r:Am × Int} (h:Nk a0 a1 a2=some r):Bt Tryz.prog 25 [.agg (EL.el a0),.one (Ii6 a1),.agg (EL.el a2)] (·=.tup [.agg (EL.el r.1),.one (Ii6 r.2)]):=by
 unfold Nk at h
 refine A4 Tryz.func25 R (nt:=46) R (Nbl R) ?_
 intro w0 S0
 refine csr (F0 R R (F0 R R (Bq R Q8 (rm 1 R (Ai (csr (ld Dh R R R R (sv R (Bc R) ?_))))))))
 obtain ⟨v1,hv1,h⟩:=Ae h
 refine Bb R Asb (Aa R (Aa R Af)) (Ao R) (Kz hv1) (sv R (Cd R) (sv R (Aj R R) (sv R (Aj R R) (Bq R Zv (sst Zx R R R R R (rm 1 R (Ai (Br (csr (rm 1 R (sv R (Dy R R) (Ai (ccI h R (fun h=>?_) (fun h=>?_))))))))))))))
 ·refine csr (ld Dh R R R R (sv R (Bc R) ?_))
  obtain ⟨v2,hv2,h⟩:=Ae h
  refine Bb R Arr (Aa R (Aa R Af)) (Ao R) (I5 hv2) (rm 1 R (sst J8 R R R R R (rm 1 R (Ai (Bv (Ag ?_))))))
  obtain rfl:=SJ h
  exact dn (Ad (ra Dh R R R) (Ad (rt R) Ah)) (Ao R) R
 ·refine Bj (Ab (Br (csr (fl Aj3 ti4 R R R R R R (Ai (ccI h R (fun h=>?_) (fun h=>?_)))))))
  ·refine csr (ld Dh R R R R (sst J8 R R R R R (rm 1 R (Ai (Bv (Ag ?_))))))
   obtain rfl:=SJ h
   exact dn (Ad (ra Dh R R R) (Ad (rt R) Ah)) (Ao R) R
  ·refine Bj (Ab (csr (sv R (Ac Xj R) (ld Af3 R R R R (sv R (Bf Aea R (.lp _ _ _ R) (Nbl R)) ?_)))))
   obtain ⟨v3,hv3,h⟩:=Ae h
   refine Bb R Ays (Aa R (Aa R Af)) (Ao R) (X4 hv3) (sv R (Cd R) (sv R (Aj R R) (sv R (Aj R R) (Bq R Aqf (sst Aqw R R R R R (rm 1 R (Ai (Br (csr (rm 1 R (sv R (Dy R R) (Ai (ccI h R (fun h=>?_) (fun h=>?_))))))))))))))
   ·refine csr (ld Dh R R R R (ld Vv R R R R (rm 1 R (sv R (Agf Tryz.underlying62 R) ?_))))
    obtain ⟨v4,hv4,h⟩:=Ae h
    refine Bb R Ay0 (Aa R (Aa R (Aa R Af))) (Ao R) (Ym hv4) (rm 1 R (sst J8 R R R R R (rm 1 R (Ai (Bv (Ag ?_))))))
    obtain rfl:=SJ h
    exact dn (Ad (ra Dh R R R) (Ad (rt R) Ah)) (Ao R) R
   ·refine Bj (Ab (csr (ld Af3 R R R R (sv R (Ac Xj R) (sst Aqw R R R R R (Ai (csr (ld Dh R R R R (sv R (Bf Vv R (.lp _ _ _ R) (Nbl R)) ?_)))))))))
    obtain ⟨v5,hv5,h⟩:=Ae h
    refine Bb R Ay7 (Aa R (Aa R Af)) (Ao R) (V3 hv5) (sst J8 R R R R R (rm 1 R (Ai (Bv ?_))))
    obtain rfl:=SJ h
    exact dn (Ad (ra Dh R R R) (Ad (rt R) Ah)) (Ao R) R
def Ns (b1:(List (List UInt8))):Option (List (List UInt8)) :=
 some b1
def N5 (a0:B4) (s2:Int × (List (List UInt8))):Option (LB (Int × (List (List UInt8))) ((List (List UInt8)))) :=
 if (decide (s2.1<(a0.L.length:Int))) then ((idx a0.L s2.1).bind fun u3=>if (s2.2.length+[u3.Key].length)*24≤140737488355328 then (some (.cont ((wI (s2.1+1)),(s2.2++[u3.Key])))) else none) else (some (.brk s2.2))
def Lv (a0:B4):Option (List (List UInt8)) :=
 (C5 (N5 a0) fuel (0,([]:List (List UInt8)))).bind fun e5=>Ns e5
theorem Wr {a0:B4} {r:(List (List UInt8))} (h:Lv a0=some r):Bt Tryz.prog 141 [.agg [.sl a0.L.length (a0.L.flatMap Ba)]] (·=.s (.one (.sl r.length (r.flatMap (eL eU8))))):=by
 unfold Lv at h
 refine A4 Tryz.func141 R (nt:=20) R (Nbl R) ?_
 intro w0 S0
 refine csr (F0 R R (rm 1 R (Ai (csr (rm 1 R (Ai (Br (csr (fl V2 Ani R R R R R R (sv R (Ax Ab9 R) (rm 1 R (Ai ?_))))))))))))
 refine D1 56 1 3 (by decide) R ?_
 refine Dt ((List (List UInt8))) (fun b1=>[(3,.s (.one (.ls 1 b1.length)))]) (fun b1=>[.box [.sl a0.L.length (a0.L.flatMap Ba)],.arr 56 1 0 (b1.flatMap (eL eU8))]) (fun b1=>Ns b1=some r) (fun _ _=>A5 R) (fun _ _=>Ap R) (fun _ _=>Nbl R) (fun b1 h=>?_) ?_
 ·unfold Ns at h
  refine csr (rm 2 R (Ai (Bv ?_)))
  obtain rfl:=SJ h
  refine ⟨Or.inr R,_,_,_,(Ad (rt R) Ah),(by (repeat' first | exact J7.nil _ | apply J7.cons | apply Jm.one | apply Jm.agg | exact Dm.nil | exact Dm.ls _ _ _ _ _ _ R (A1 (f:=(eL eU8)) (fun _=>R) _).symm | exact Dm.id _ R | exact Cw.nil _ | apply Cw.cons)),?_⟩
  rfl
 ·skip
  refine Bu ?_
  obtain ⟨x2,hx2,ho2⟩:=Ae h
  refine B6 (G:=Nat × (Int × (List (List UInt8)))) (fun g=>[(3,.s (.one (.ls 1 g.2.2.length))),(7,.s (.one (.sl a0.L.length (a0.L.flatMap Ba)))),(8,.s (.one (Ii6 (a0.L.length:Int)))),(9,.s (.one (Ii6 g.2.1)))]) (fun g=>[.box [.sl a0.L.length (a0.L.flatMap Ba)],.arr 56 1 0 (g.2.2.flatMap (eL eU8))]) (fun g=>C5 (N5 a0) g.1 g.2=some x2) (fun g=>g.1) (fuel,(0,([]:List (List UInt8)))) hx2 ⟨R,R,R,R,trivial⟩ [] R (fun _ _=>A5 R) (fun _ _=>Ap R) (fun _ _=>Nbl R) ?_
  clear hx2 h
  rintro ⟨n2,s2⟩ h
  obtain ⟨n2,y2,rfl,h,hk2⟩:=C8 h
  unfold N5 at h
  refine csr (sv R (Bw R R) (Ai (Br (ccI h R (fun h=>?_) (fun h=>?_)))))
  ·refine Bj (Ab (Br (Bu (Br (As ?_)))))
   obtain ⟨u3,hu3,h⟩:=Ae h
   refine sv R (Cb (f:=Ba) Ab9 (fun _=>R) R R R R hu3) ?_
   refine sv R (B3 (ys:=[.sl u3.Key.length (u3.Key.flatMap eU8),.sl u3.Val.length (u3.Val.flatMap eU8),.b u3.Del]) Aea R (.cp _) R R) (Bq R Ai2 (sst Ajm R R R R R (Ai (As (rm 1 R (sv R (Ac Sa R) (sv R (Ak Nr R (.lp _ _ _ R) R) ?_)))))))
   refine Gk R Tryz.underlying25 Ahl R R (List.all_eq_true.1 R) (by decide) ?_
   refine P4 [.box [.sl a0.L.length (a0.L.flatMap Ba)],.arr 56 1 0 (s2.2.flatMap (eL eU8)),.box (EL.el u3),.arr 56 1 0 ([u3.Key].flatMap (eL eU8))] R ?_
   obtain ⟨hb4,h⟩:=Cy h
   refine Wb (f:=(eL eU8)) (xs:=s2.2) (us:=[u3.Key]) R Tryz.underlying25 Ahl Asa (fun _=>R) R R (.one _ _ _ _ (.ls _ _ _ _ _ _ R (A1 (f:=(eL eU8)) (fun _=>R) [u3.Key]).symm)) R R R (.sl _ _ _ (A1 (f:=(eL eU8)) (fun _=>R) _)) R R hb4 (by decide) ?_
   refine rm 1 R (Ks (Ar (Ab (As (sv R (Bs R R) (rm 1 R (Ai ?_)))))))
   obtain rfl:=SJ h
   exact ⟨(n2,((wI (s2.1+1)),(s2.2++[u3.Key]))),_,hk2,⟨R,R,R,R,trivial⟩,R,Nat.lt_succ_self _⟩
  ·refine Di (Au (Au (Bn (Ab ?_))))
   obtain rfl:=SJ h
   obtain rfl:_=x2:=hk2
   exact ⟨s2.2,_,ho2,⟨R,trivial⟩,R⟩
def Og (b2:Unit):Option Bool :=
 some true
def Gc (a0:Bh) (a2:Int) (s3:Int):Option (LR (Int) (Unit) (Bool)) :=
 if (decide (s3<(a0.Txs.length:Int))) then ((idx a0.Txs s3).bind fun u4=>if (decide (a2≤u4.End)) then (some (.ret false)) else (some (.cont (wI (s3+1))))) else (some (.brk ()))
def Gh (a0:Bh) (a2:Int) (b1:Unit):Option Bool :=
 (Lj (Gc a0 a2) fuel 0).bind fun x=>match x with | .inl r=>some r | .inr e5=>Og e5
def Lp (a0:Bh) (a1:A2) (a2:Int) (a3:List (List UInt8)):Option Bool :=
 if (decide (a2≤a1.Begin)) then (some false) else (if (decide (1099511627776<a2)) then (some false) else ((G9 a3).bind fun v6=>if (!v6) then (some false) else (if a1.RO then (if (decide (0<(a3.length:Int))) then (some false) else (Gh a0 a2 ())) else (Gh a0 a2 ()))))
theorem Wp {a0:Bh} {a1:A2} {a2:Int} {a3:List (List UInt8)} {r:Bool} (h:Lp a0 a1 a2 a3=some r):Bt Tryz.prog 209 [.agg (EL.el a0),.agg (EL.el a1),.one (Ii6 a2),.one (.sl a3.length (a3.flatMap (eL eU8)))] (·=.s (.one (.b r))):=by
 unfold Lp at h
 refine A4 Tryz.func209 R (nt:=45) R (Nbl R) ?_
 intro w0 S0
 refine csr (F0 R R (F0 R R (rm 1 R (Ai (Br (Br (Hp (Unit) (fun b1=>[(2,.s (.one (Ii6 a2))),(4,.s (.one (.lp 0 0)))]) (fun b1=>[.box (EL.el a0),.box (EL.el a1)]) (fun b1=>Gh a0 a2 b1=some r) (fun _ _=>A5 R) (fun _ _=>Ap R) (fun _ _=>Nbl R) (fun b1 h=>?_) ?_)))))))
 ·unfold Gh at h
  refine Br (csr (fl Of Aaa R R R R R R (sv R (Ax P7 R) (rm 1 R (Ai (Dt (Unit) (fun b2=>[]) (fun b2=>[.box (EL.el a0),.box (EL.el a1)]) (fun b2=>Og b2=some r) (fun _ _=>A5 R) (fun _ _=>Ap R) (fun _ _=>Nbl R) (fun b2 h=>?_) ?_))))))
  ·unfold Og at h
   refine csr (rm 1 R (Ai (Bv ?_)))
   obtain rfl:=SJ h
   exact dnT R R R R
  ·skip
   refine Bu ?_
   obtain ⟨x3,hx3,ho3⟩:=Ae h
   refine B6 (G:=Nat × (Int)) (fun g=>[(2,.s (.one (Ii6 a2))),(34,.s (.one (.sl a0.Txs.length (a0.Txs.flatMap Be)))),(35,.s (.one (Ii6 (a0.Txs.length:Int)))),(36,.s (.one (Ii6 g.2)))]) (fun g=>[.box (EL.el a0),.box (EL.el a1)]) (fun g=>Lj (Gc a0 a2) g.1 g.2=some x3) (fun g=>g.1) (fuel,0) hx3 ⟨R,R,R,R,trivial⟩ [] R (fun _ _=>A5 R) (fun _ _=>Ap R) (fun _ _=>Nbl R) ?_
   clear hx3 h
   rintro ⟨n3,s3⟩ h
   obtain ⟨n3,y3,rfl,h,hk3⟩:=Ff h
   unfold Gc at h
   refine csr (sv R (Bw R R) (Ai (Br (ccI h R (fun h=>?_) (fun h=>?_)))))
   ·refine Bj (Ab (Br (Bu (Br (As ?_)))))
    obtain ⟨u4,hu4,h⟩:=Ae h
    refine sv R (Cb (f:=Be) P7 (fun _=>R) R R R R hu4) ?_
    refine sv R (B3 (ys:=[Ii6 u4.ID,Ii6 u4.Begin,Ii6 u4.End,Ii6 u4.State,.b u4.In,.b u4.Out,.b u4.RO,.sl u4.Keys.length (u4.Keys.flatMap (eL eU8))]) I6 R (.cp _) R R) (Bq R Sj (sst Rx R R R R R (Ai (csr (rm 1 R (fl Qg ti3 R R R R R R (sv R (Dj R R) (Ai (ccI h R (fun h=>?_) (fun h=>?_))))))))))
    ·refine csr (rm 1 R (Ai (Bv (Ay (Ag (Ag (Ay (Ag ?_))))))))
     obtain rfl:=SJ h
     obtain rfl:Sum.inl _=x3:=hk3
     replace ho3:some _=some _:=ho3
     obtain rfl:=Option.some.inj ho3
     exact dnT R R R R
    ·refine Bj (Ar (Ab (As (sv R (Bs R R) (rm 1 R (Ai ?_))))))
     obtain rfl:=SJ h
     exact ⟨(n3,(wI (s3+1))),_,hk3,⟨R,R,R,R,trivial⟩,R,Nat.lt_succ_self _⟩
   ·refine Di (Au (Au (Bn (Ab ?_))))
    obtain rfl:=SJ h
    obtain rfl:_=x3:=hk3
    exact ⟨(),_,ho3,trivial,R⟩
 ·skip
  refine As (rm 1 R (fl Ux ti3 R R R R R R (sv R (Dj R R) (rm 1 R (ssI 15 h R (fun h=>?_) (fun h=>?_))))))
  ·refine rm 12 R (Cl R R R (Cl R R R (Cl R R R (rm 2 R (Ai (Cp R (fun _=>?_) (fun hx=>Bool.noConfusion hx)))))))
   refine csr (rm 1 R (Ai (Bv (Ag ?_))))
   obtain rfl:=SJ h
   exact dnT R R R R
  ·refine rm 1 R (son R R R (sv R (C7 R R) (rm 2 R (ssI 19 h R (fun h=>?_) (fun h=>?_)))))
   ·refine rm 8 R (Cl R R R (Cl R R R (Cl R R R (rm 2 R (Ai (Cp R (fun _=>?_) (fun hx=>Bool.noConfusion hx)))))))
    refine csr (rm 1 R (Ai (Bv (Ag ?_))))
    obtain rfl:=SJ h
    exact dnT R R R R
   ·refine rm 1 R (son R R R ?_)
    obtain ⟨v6,hv6,h⟩:=Ae h
    refine Bb R Aus (Aa R Af) (Ao R) (Qc hv6) (son R R R (sv R (B2 R) (rm 2 R (ssI 24 h R (fun h=>?_) (fun h=>?_)))))
    ·refine rm 3 R (Cl R R R (Cl R R R (Cl R R R (rm 2 R (Ai (Cp R (fun _=>?_) (fun hx=>Bool.noConfusion hx)))))))
     refine csr (rm 1 R (Ai (Bv (Ag ?_))))
     obtain rfl:=SJ h
     exact dnT R R R R
    ·refine son R R R (sv R (Ac Aei R) (son R R R (sv R (Ak ti4 R (.lp _ _ _ R) R) (rm 1 R (ssI 27 h R (fun h=>?_) (fun h=>?_))))))
     ·refine rm 1 R (son R R R (sv R (Ax Sn R) (son R R R (sv R (C7 R R) (rm 2 R (Ai (ccI h R (fun h=>?_) (fun h=>?_))))))))
      ·refine csr (rm 1 R (Ai (Bv (Ag ?_))))
       obtain rfl:=SJ h
       exact dnT R R R R
      ·refine Bj (Ab ?_)
       exact ⟨(),_,h,⟨R,R,trivial⟩,R⟩
     ·refine rm 5 R (Ai (Cp R (fun hx=>Bool.noConfusion hx) (fun _=>?_)))
      refine Bj (Ab ?_)
      exact ⟨(),_,h,⟨R,R,trivial⟩,R⟩
def Mt (b1:Unit):Option Bool :=
 some false
def Gr (s2:Int) (b5:Unit):Option (LR (Int) (Unit) (Bool)) :=
 some (.cont (wI (s2+1)))
def E9 (a2:List (List UInt8)) (u3:A2) (s6:Int):Option (LR (Int) (Unit) (Bool)) :=
 if (decide (s6<(a2.length:Int))) then ((idx a2 s6).bind fun u7=>(Eu u3.Keys u7).bind fun v8=>if v8.2 then (some (.ret true)) else (some (.cont (wI (s6+1))))) else (some (.brk ()))
def Jd (a2:List (List UInt8)) (s2:Int) (u3:A2) (b4:Unit):Option (LR (Int) (Unit) (Bool)) :=
 (Lj (E9 a2 u3) fuel 0).bind fun x=>match x with | .inl r=>some (.ret r) | .inr e9=>Gr s2 e9
def E5 (a0:Bh) (a1:A2) (a2:List (List UInt8)) (s2:Int):Option (LR (Int) (Unit) (Bool)) :=
 if (decide (s2<(a0.Txs.length:Int))) then ((idx a0.Txs s2).bind fun u3=>if (!decide (u3.State=2)) then (some (.cont (wI (s2+1)))) else ((Ez a1 u3).bind fun v10=>if (!v10) then (some (.cont (wI (s2+1)))) else (Jd a2 s2 u3 ()))) else (some (.brk ()))
def G3 (a0:Bh) (a1:A2) (a2:List (List UInt8)):Option Bool :=
 (Lj (E5 a0 a1 a2) fuel 0).bind fun x=>match x with | .inl r=>some r | .inr e11=>Mt e11
theorem Ur {a0:Bh} {a1:A2} {a2:List (List UInt8)} {r:Bool} (h:G3 a0 a1 a2=some r):Bt Tryz.prog 210 [.agg (EL.el a0),.agg (EL.el a1),.one (.sl a2.length (a2.flatMap (eL eU8)))] (·=.s (.one (.b r))):=by
 unfold G3 at h
 refine A4 Tryz.func210 R (nt:=45) R (Nbl R) ?_
 intro w0 S0
 refine csr (F0 R R (F0 R R (rm 1 R (Ai (Br (csr (fl Of Aaa R R R R R R (sv R (Ax P7 R) (rm 1 R (Ai (Dt (Unit) (fun b1=>[]) (fun b1=>[.box (EL.el a0),.box (EL.el a1)]) (fun b1=>Mt b1=some r) (fun _ _=>A5 R) (fun _ _=>Ap R) (fun _ _=>Nbl R) (fun b1 h=>?_) ?_)))))))))))
 ·unfold Mt at h
  refine csr (rm 1 R (Ai (Bv ?_)))
  obtain rfl:=SJ h
  exact dnT R R R R
 ·skip
  refine Bu ?_
  obtain ⟨x2,hx2,ho2⟩:=Ae h
  refine B6 (G:=Nat × (Int)) (fun g=>[(2,.s (.one (.sl a2.length (a2.flatMap (eL eU8))))),(4,.s (.one (.lp 1 0))),(14,.s (.one (.sl a0.Txs.length (a0.Txs.flatMap Be)))),(15,.s (.one (Ii6 (a0.Txs.length:Int)))),(16,.s (.one (Ii6 g.2)))]) (fun g=>[.box (EL.el a0),.box (EL.el a1)]) (fun g=>Lj (E5 a0 a1 a2) g.1 g.2=some x2) (fun g=>g.1) (fuel,0) hx2 ⟨R,R,R,R,R,trivial⟩ [] R (fun _ _=>A5 R) (fun _ _=>Ap R) (fun _ _=>Nbl R) ?_
  clear hx2 h
  rintro ⟨n2,s2⟩ h
  obtain ⟨n2,y2,rfl,h,hk2⟩:=Ff h
  unfold E5 at h
  refine csr (sv R (Bw R R) (Ai (Br (ccI h R (fun h=>?_) (fun h=>?_)))))
  ·refine Bj (Ab (Br (Bu (Br (As ?_)))))
   obtain ⟨u3,hu3,h⟩:=Ae h
   refine sv R (Cb (f:=Be) P7 (fun _=>R) R R R R hu3) ?_
   refine sv R (B3 (ys:=[Ii6 u3.ID,Ii6 u3.Begin,Ii6 u3.End,Ii6 u3.State,.b u3.In,.b u3.Out,.b u3.RO,.sl u3.Keys.length (u3.Keys.flatMap (eL eU8))]) I6 R (.cp _) R R) (Bq R Sj (sst Rx R R R R R (Ai (Br (Br (Hp (Unit) (fun b4=>[(2,.s (.one (.sl a2.length (a2.flatMap (eL eU8))))),(4,.s (.one (.lp 1 0))),(8,.s (.one (.lp 2 0))),(14,.s (.one (.sl a0.Txs.length (a0.Txs.flatMap Be)))),(15,.s (.one (Ii6 (a0.Txs.length:Int)))),(16,.s (.one (Ii6 s2)))]) (fun b4=>[.box (EL.el a0),.box (EL.el a1),.box (EL.el u3)]) (fun b4=>Jd a2 s2 u3 b4=some y2) (fun _ _=>A5 R) (fun _ _=>Ap R) (fun _ _=>Nbl R) (fun b4 h=>?_) ?_))))))
   ·unfold Jd at h
    refine csr (rm 1 R (sv R (Ax Sn R) (rm 1 R (Ai (Aps (Unit) (fun b5=>[(2,.s (.one (.sl a2.length (a2.flatMap (eL eU8))))),(4,.s (.one (.lp 1 0))),(14,.s (.one (.sl a0.Txs.length (a0.Txs.flatMap Be)))),(15,.s (.one (Ii6 (a0.Txs.length:Int)))),(16,.s (.one (Ii6 s2)))]) (fun b5=>[.box (EL.el a0),.box (EL.el a1),.box (EL.el u3)]) (fun b5=>Gr s2 b5=some y2) (fun _ _=>A5 R) (fun _ _=>Ap R) (fun _ _=>Nbl R) (fun b5 h=>?_) ?_)))))
    ·unfold Gr at h
     refine As (sv R (Bs R R) (rm 1 R (Ai ?_)))
     obtain rfl:=SJ h
     exact ⟨(n2,(wI (s2+1))),_,hk2,⟨R,R,R,R,R,trivial⟩,R,Nat.lt_succ_self _⟩
    ·skip
     refine Bu ?_
     obtain ⟨x6,hx6,ho6⟩:=Ae h
     refine B6 (G:=Nat × (Int)) (fun g=>[(2,.s (.one (.sl a2.length (a2.flatMap (eL eU8))))),(4,.s (.one (.lp 1 0))),(8,.s (.one (.lp 2 0))),(14,.s (.one (.sl a0.Txs.length (a0.Txs.flatMap Be)))),(15,.s (.one (Ii6 (a0.Txs.length:Int)))),(16,.s (.one (Ii6 s2))),(29,.s (.one (.sl a2.length (a2.flatMap (eL eU8))))),(30,.s (.one (Ii6 (a2.length:Int)))),(31,.s (.one (Ii6 g.2)))]) (fun g=>[.box (EL.el a0),.box (EL.el a1),.box (EL.el u3)]) (fun g=>Lj (E9 a2 u3) g.1 g.2=some x6) (fun g=>g.1) (fuel,0) hx6 ⟨R,R,R,R,R,R,R,R,R,trivial⟩ [] R (fun _ _=>A5 R) (fun _ _=>Ap R) (fun _ _=>Nbl R) ?_
     clear hx6 h
     rintro ⟨n6,s6⟩ h
     obtain ⟨n6,y6,rfl,h,hk6⟩:=Ff h
     unfold E9 at h
     refine csr (sv R (Bw R R) (Ai (Br (ccI h R (fun h=>?_) (fun h=>?_)))))
     ·refine Bj (Ab (Br (Bu (Br (As ?_)))))
      obtain ⟨u7,hu7,h⟩:=Ae h
      refine sv R (Cb (f:=(eL eU8)) Sn (fun _=>R) R R R R hu7) ?_
      refine sv R (Ak Nr R (.cp _) R) (rm 1 R (Ai (csr (fl Sy Abm R R R R R R (sv R (Bc R) ?_)))))
      obtain ⟨v8,hv8,h⟩:=Ae h
      refine Bb R Ava (Aa R (Aa R Af)) (Ao R) (Qi hv8) (sv R (Cd R) (sv R (Aj R R) (sv R (Aj R R) (rm 2 R (Ai (csr (rm 1 R (Ai (ccI h R (fun h=>?_) (fun h=>?_))))))))))
      ·refine csr (rm 1 R (Ai (Bv (Ay (Ag (Ag (Ay (Ay (Ag (Ag (Ay (Ag ?_))))))))))))
       obtain rfl:=SJ h
       obtain rfl:Sum.inl _=x6:=hk6
       replace ho6:some _=some _:=ho6
       obtain rfl:=Option.some.inj ho6
       obtain rfl:Sum.inl _=x2:=hk2
       replace ho2:some _=some _:=ho2
       obtain rfl:=Option.some.inj ho2
       exact dnT R R R R
      ·refine Bj (Ar (Ab (As (sv R (Bs R R) (rm 1 R (Ai ?_))))))
       obtain rfl:=SJ h
       exact ⟨(n6,(wI (s6+1))),_,hk6,⟨R,R,R,R,R,R,R,R,R,trivial⟩,R,Nat.lt_succ_self _⟩
     ·refine Di (Au (Au (Bn (Ar (Ab ?_)))))
      obtain rfl:=SJ h
      obtain rfl:_=x6:=hk6
      exact ⟨(),_,ho6,⟨R,R,R,R,R,trivial⟩,R⟩
   ·skip
    refine As (fl Oo ti3 R R R R R R (sv R (Dy R R) (rm 1 R (ssI 23 h R (fun h=>?_) (fun h=>?_)))))
    ·refine rm 5 R (Ai (Cp R (fun _=>?_) (fun hx=>Bool.noConfusion hx)))
     refine Di (Au (Bn (Ab (As (sv R (Bs R R) (rm 1 R (Ai ?_)))))))
     obtain rfl:=SJ h
     exact ⟨(n2,(wI (s2+1))),_,hk2,⟨R,R,R,R,R,trivial⟩,R,Nat.lt_succ_self _⟩
    ·refine son R R R (ld I6 R R R R (son R R R (ld I6 R R R R (son R R R ?_))))
     obtain ⟨v10,hv10,h⟩:=Ae h
     refine Bb R Aqv (Aa R (Aa R Af)) (Ao R) (Oz hv10) (son R R R (sv R (B2 R) (rm 1 R (Ai (ccI h R (fun h=>?_) (fun h=>?_))))))
     ·refine Di (Au (Bn (Ab (As (sv R (Bs R R) (rm 1 R (Ai ?_)))))))
      obtain rfl:=SJ h
      exact ⟨(n2,(wI (s2+1))),_,hk2,⟨R,R,R,R,R,trivial⟩,R,Nat.lt_succ_self _⟩
     ·refine Bj (Ab ?_)
      exact ⟨(),_,h,⟨R,R,R,R,R,R,trivial⟩,R⟩
  ·refine Di (Au (Au (Bn (Ab ?_))))
   obtain rfl:=SJ h
   obtain rfl:_=x2:=hk2
   exact ⟨(),_,ho2,trivial,R⟩
def Aie:Go.Shelf.Ren:=⟨fun | 5=>269 | 8=>191 | 7=>278 | 19=>246 | 20=>247 | 10=>282 | 11=>283 | 12=>284 | 13=>285 | 14=>286 | 15=>287 | 16=>288 | 17=>289 | 18=>290 | 30=>293 | 31=>263 | 32=>264 | 33=>294 | 34=>295 | 35=>296 | 40=>297 | n=>n,fun | 23=>225 | 25=>3 | 3=>3 | 32=>307 | 22=>225 | 0=>0 | 44=>365 | 46=>367 | 4=>4 | 36=>359 | 35=>358 | 41=>177 | 5=>5 | 9=>9 | 53=>389 | 57=>393 | 63=>404 | 64=>405 | n=>n,fun | n=>n⟩
theorem Aux:Go.Proofs.SlLaysM.n5 Tryz.prog Aie:={
 mixed:=by kernel_rfl,
 f5 :=⟨ "slices.Sort[[]int,int]", by decide, Tryz.func269.trans (congrArg some (by kernel_rfl))⟩,
 f7 :=⟨ "slices.pdqsortOrdered[int]", by decide, Tryz.func278.trans (congrArg some (by kernel_rfl))⟩,
 f8:=Tryz.func191.trans (congrArg some (by kernel_rfl)),
 f10 :=⟨ "slices.insertionSortOrdered[int]", by decide, Tryz.func282.trans (congrArg some (by kernel_rfl))⟩,
 f11 :=⟨ "slices.heapSortOrdered[int]", by decide, Tryz.func283.trans (congrArg some (by kernel_rfl))⟩,
 f12 :=⟨ "slices.breakPatternsOrdered[int]", by decide, Tryz.func284.trans (congrArg some (by kernel_rfl))⟩,
 f13 :=⟨ "slices.choosePivotOrdered[int]", by decide, Tryz.func285.trans (congrArg some (by kernel_rfl))⟩,
 f14 :=⟨ "slices.reverseRangeOrdered[int]", by decide, Tryz.func286.trans (congrArg some (by kernel_rfl))⟩,
 f15 :=⟨ "slices.partialInsertionSortOrdered[int]", by decide, Tryz.func287.trans (congrArg some (by kernel_rfl))⟩,
 f16 :=⟨ "cmp.Less[int]", by decide, Tryz.func288.trans (congrArg some (by kernel_rfl))⟩,
 f17 :=⟨ "slices.partitionEqualOrdered[int]", by decide, Tryz.func289.trans (congrArg some (by kernel_rfl))⟩,
 f18 :=⟨ "slices.partitionOrdered[int]", by decide, Tryz.func290.trans (congrArg some (by kernel_rfl))⟩,
 f19:=Tryz.func246.trans (congrArg some (by kernel_rfl)),
 f20:=Tryz.func247.trans (congrArg some (by kernel_rfl)),
 f30 :=⟨ "slices.siftDownOrdered[int]", by decide, Tryz.func293.trans (congrArg some (by kernel_rfl))⟩,
 f31:=Tryz.func263.trans (congrArg some (by kernel_rfl)),
 f32:=Tryz.func264.trans (congrArg some (by kernel_rfl)),
 f33 :=⟨ "slices.medianAdjacentOrdered[int]", by decide, Tryz.func294.trans (congrArg some (by kernel_rfl))⟩,
 f34 :=⟨ "slices.medianOrdered[int]", by decide, Tryz.func295.trans (congrArg some (by kernel_rfl))⟩,
 f35 :=⟨ "cmp.isNaN[int]", by decide, Tryz.func296.trans (congrArg some (by kernel_rfl))⟩,
 f40 :=⟨ "slices.order2Ordered[int]", by decide, Tryz.func297.trans (congrArg some (by kernel_rfl))⟩,
 t0:=Tryz.underlying0,
 a0:=Tryz.isAgg0,
 z0:=Tryz.sizeOf0,
 v0:=Tryz.zeroValue0,
 t3:=Tryz.underlying3,
 a3:=Tryz.isAgg3,
 z3:=Tryz.sizeOf3,
 v3:=Tryz.zeroValue3,
 t4:=Tryz.underlying4,
 a4:=Tryz.isAgg4,
 z4:=Tryz.sizeOf4,
 v4:=Tryz.zeroValue4,
 t5:=Tryz.underlying5,
 a5:=Tryz.isAgg5,
 z5:=Tryz.sizeOf5,
 v5:=Tryz.zeroValue5,
 t9:=Tryz.underlying9,
 a9:=Tryz.isAgg9,
 z9:=Tryz.sizeOf9,
 v9:=Tryz.zeroValue9,
 t22:=Tryz.underlying225,
 a22:=Tryz.isAgg225,
 z22:=Tryz.sizeOf225,
 v22:=Tryz.zeroValue225,
 t23:=Tryz.underlying225,
 a23:=Tryz.isAgg225,
 z23:=Tryz.sizeOf225,
 v23:=Tryz.zeroValue225,
 t25:=Tryz.underlying3,
 a25:=Tryz.isAgg3,
 z25:=Tryz.sizeOf3,
 v25:=Tryz.zeroValue3,
 t32:=Tryz.underlying307,
 a32:=Tryz.isAgg307,
 z32:=Tryz.sizeOf307,
 v32:=Tryz.zeroValue307,
 t35:=Tryz.underlying358,
 a35:=Tryz.isAgg358,
 z35:=Tryz.sizeOf358,
 v35:=Tryz.zeroValue358,
 t36:=Tryz.underlying359,
 a36:=Tryz.isAgg359,
 z36:=Tryz.sizeOf359,
 v36:=Tryz.zeroValue359,
 t41:=Tryz.underlying177,
 a41:=Tryz.isAgg177,
 z41:=Tryz.sizeOf177,
 v41:=Tryz.zeroValue177,
 t44:=Tryz.underlying365,
 a44:=Tryz.isAgg365,
 z44:=Tryz.sizeOf365,
 v44:=Tryz.zeroValue365,
 t46:=Tryz.underlying367,
 a46:=Tryz.isAgg367,
 z46:=Tryz.sizeOf367,
 v46:=Tryz.zeroValue367,
 t53:=Tryz.underlying389,
 a53:=Tryz.isAgg389,
 z53:=Tryz.sizeOf389,
 v53:=Tryz.zeroValue389,
 t57:=Tryz.underlying393,
 a57:=Tryz.isAgg393,
 z57:=Tryz.sizeOf393,
 v57:=Tryz.zeroValue393,
 t63:=Tryz.underlying404,
 a63:=Tryz.isAgg404,
 z63:=Tryz.sizeOf404,
 v63:=Tryz.zeroValue404,
 t64:=Tryz.underlying405,
 a64:=Tryz.isAgg405,
 z64:=Tryz.sizeOf405,
 v64:=Tryz.zeroValue405 }
def Nb (a0:List Int):Option (List Int):=if a0.length≤1000000000000000000 then some (a0.mergeSort fun x y=>decide (x≤y)) else none
theorem V4 {a0 r:List Int} (h:Nb a0=some r):De Tryz.prog 269 [.arr 3 1 0 (a0.flatMap eI)] [.one (.ls 0 a0.length)] (fun y m'=>y=.tup []∧m'=[.arr 3 1 0 (r.flatMap eI)]):=by
 unfold Nb at h
 obtain ⟨hn,h⟩:=Cy h
 obtain rfl:=SJ h
 exact Arb Aux hn
def Aid:Go.Shelf.Ren:=⟨fun | 43=>270 | n=>n,fun | 22=>225 | 23=>3 | 3=>3 | 4=>4 | 0=>0 | n=>n,fun | n=>n⟩
theorem At7:Go.Proofs.SlLaysE.n43 Tryz.prog Aid:={
 mixed:=by kernel_rfl,
 f43 :=⟨ "slices.Compact[[]int,int]", by decide, Tryz.func270.trans (congrArg some (by kernel_rfl))⟩,
 t0:=Tryz.underlying0,
 a0:=Tryz.isAgg0,
 z0:=Tryz.sizeOf0,
 v0:=Tryz.zeroValue0,
 t3:=Tryz.underlying3,
 a3:=Tryz.isAgg3,
 z3:=Tryz.sizeOf3,
 v3:=Tryz.zeroValue3,
 t4:=Tryz.underlying4,
 a4:=Tryz.isAgg4,
 z4:=Tryz.sizeOf4,
 v4:=Tryz.zeroValue4,
 t22:=Tryz.underlying225,
 a22:=Tryz.isAgg225,
 z22:=Tryz.sizeOf225,
 v22:=Tryz.zeroValue225,
 a23:=Tryz.isAgg3,
 z23:=Tryz.sizeOf3 }
theorem Ah0:Bt Tryz.prog 270 [.one (Znl)] (·=.s (.one (Znl))):=by
 refine A4 Tryz.func270 R (nt:=61) R (Nbl R) ?_
 intro w0 S0
 refine csr (rm 1 R (Ai (Br (csr (rm 1 R (sv R (Fp Aql R) (sv R (Bw R R) (Ai ?_))))))))
 refine Cp R (fun _=>?_) (fun hx=>absurd hx (by decide))
 refine csr (rm 2 R (Ai (Bv (Ag (⟨Or.inr R,_,_,_,(Ad (rt R) Ah),(Ao R),?_⟩)))))
 rfl
def Ke (a0:List Int):Option (List Int):=if a0.length≤1000000000000000000 then some (Ajk a0) else none
theorem S9 {a0 r:List Int} (h:Ke a0=some r):De Tryz.prog 270 [.arr 3 1 0 (a0.flatMap eI)] [.one (.ls 0 a0.length)] (fun y m'=>y=.s (.one (.ls 1 r.length))∧m'=[.dead,.arr 3 1 0 (r.flatMap eI)]):=by
 unfold Ke at h
 obtain ⟨hn,h⟩:=Cy h
 obtain rfl:=SJ h
 exact Arx At7 hn (Go.Proofs.EqlAt.intD _ _ .i64) (Go.Proofs.NeqAt.intD _ _ .i64) Tryz.zeroValue3 Ah0
def Hy (b1:(List Int)):Option (List Int) :=
 (Nb b1).bind fun v2=>if v2.length=b1.length then ((Ke v2).bind fun v4=>some v4) else none
def Gb (a0:Bz) (a1:List UInt8) (s5:Int × (List Int)):Option (LB (Int × (List Int)) ((List Int))) :=
 if (decide (s5.1<(a0.L.length:Int))) then ((idx a0.L s5.1).bind fun u6=>(Dq u6.Rng a1).bind fun v7=>if v7 then (if (s5.2.length+[u6.Tx].length)*8≤140737488355328 then (some (.cont ((wI (s5.1+1)),(s5.2++[u6.Tx])))) else none) else (some (.cont ((wI (s5.1+1)),s5.2)))) else (some (.brk s5.2))
def Lz (a0:Bz) (a1:List UInt8):Option (List Int) :=
 (C5 (Gb a0 a1) fuel (0,([]:List Int))).bind fun e9=>Hy e9
theorem Wl {a0:Bz} {a1:List UInt8} {r:(List Int)} (h:Lz a0 a1=some r):Bt Tryz.prog 254 [.agg [.sl a0.L.length (a0.L.flatMap Aq)],.one (.sl a1.length (a1.flatMap eU8))] (·=.s (.one (.sl r.length (r.flatMap eI)))):=by
 unfold Lz at h
 refine A4 Tryz.func254 R (nt:=29) R (Nbl R) ?_
 intro w0 S0
 refine csr (F0 R R (rm 1 R (Ai (csr (rm 1 R (Ai (Br (csr (fl Un Ah6 R R R R R R (sv R (Ax Aat R) (rm 1 R (Ai ?_))))))))))))
 refine D1 3 1 5 (by decide) R ?_
 refine Dt ((List Int)) (fun b1=>[(5,.s (.one (.ls 1 b1.length)))]) (fun b1=>[.box [.sl a0.L.length (a0.L.flatMap Aq)],.arr 3 1 0 (b1.flatMap eI)]) (fun b1=>Hy b1=some r) (fun _ _=>A5 R) (fun _ _=>Ap R) (fun _ _=>Nbl R) (fun b1 h=>?_) ?_
 ·unfold Hy at h
  refine csr (sv R (Bc R) ?_)
  obtain ⟨v2,hv2,h⟩:=Ae h
  refine Ho (x':=.tup []) (M':=[.box [.sl a0.L.length (a0.L.flatMap Aq)],.arr 3 1 0 (v2.flatMap eI)]) [1] R Av3 (.func _) (Aa R Af) (V4 hv2) R R (by decide) R R R ?_
  obtain ⟨hl3,h⟩:=Cy h
  refine M0 5 (y:=.s (.one (.ls 1 b1.length))) (.s (.one (.ls 1 v2.length))) R (congrArg (fun n=>AV.s (.one (.ls 1 n))) hl3.symm) ?_
  refine M0 25 (y:=.s (.one (.ls 1 b1.length))) (.s (.one (.ls 1 v2.length))) R (congrArg (fun n=>AV.s (.one (.ls 1 n))) hl3.symm) ?_
  refine Ai (csr (sv R (Bc R) ?_))
  obtain ⟨v4,hv4,h⟩:=Ae h
  refine Ho (x':=.s (.one (.ls 2 v4.length))) (M':=[.box [.sl a0.L.length (a0.L.flatMap Aq)],.dead,.arr 3 1 0 (v4.flatMap eI)]) [1] R Av4 (.func _) (Aa R Af) (S9 hv4) R R (by decide) R R R ?_
  refine rm 1 R (Ai (Bv ?_))
  obtain rfl:=SJ h
  refine ⟨Or.inr R,_,_,_,(Ad (rt R) Ah),(by (repeat' first | exact J7.nil _ | apply J7.cons | apply Jm.one | apply Jm.agg | exact Dm.nil | exact Dm.ls _ _ _ _ _ _ R (A1 (f:=eI) (fun _=>R) _).symm | exact Dm.id _ R | exact Cw.nil _ | apply Cw.cons)),?_⟩
  rfl
 ·skip
  refine Bu ?_
  obtain ⟨x5,hx5,ho5⟩:=Ae h
  refine B6 (G:=Nat × (Int × (List Int))) (fun g=>[(1,.s (.one (.sl a1.length (a1.flatMap eU8)))),(5,.s (.one (.ls 1 g.2.2.length))),(9,.s (.one (.sl a0.L.length (a0.L.flatMap Aq)))),(10,.s (.one (Ii6 (a0.L.length:Int)))),(11,.s (.one (Ii6 g.2.1)))]) (fun g=>[.box [.sl a0.L.length (a0.L.flatMap Aq)],.arr 3 1 0 (g.2.2.flatMap eI)]) (fun g=>C5 (Gb a0 a1) g.1 g.2=some x5) (fun g=>g.1) (fuel,(0,([]:List Int))) hx5 ⟨R,R,R,R,R,trivial⟩ [] R (fun _ _=>A5 R) (fun _ _=>Ap R) (fun _ _=>Nbl R) ?_
  clear hx5 h
  rintro ⟨n5,s5⟩ h
  obtain ⟨n5,y5,rfl,h,hk5⟩:=C8 h
  unfold Gb at h
  refine csr (sv R (Bw R R) (Ai (Br (ccI h R (fun h=>?_) (fun h=>?_)))))
  ·refine Bj (Ab (Br (Bu (Br (As ?_)))))
   obtain ⟨u6,hu6,h⟩:=Ae h
   refine sv R (Cb (f:=Aq) Aat (fun _=>R) R R R R hu6) ?_
   refine sv R (B3 (ys:=[Ii6 u6.Tx,.sl u6.Rng.Lo.length (u6.Rng.Lo.flatMap eU8),.sl u6.Rng.Hi.length (u6.Rng.Hi.flatMap eU8),.b u6.Rng.Open]) Aah R (.cp _) R R) (Bq R Ail (sst Aj1 R R R R R (Ai (csr (sv R (Ac W4 R) (ld Abw R R R R (sv R (Bc R) ?_)))))))
   obtain ⟨v7,hv7,h⟩:=Ae h
   refine Bb R Akc (Aa R (Aa R Af)) (Ao R) (L0 hv7) (Ai (ccI h R (fun h=>?_) (fun h=>?_)))
   ·refine As (rm 1 R (sv R (Ac Abc R) (sv R (Ak ti3 R (.lp _ _ _ R) R) ?_)))
    refine Gk R Tryz.underlying225 ei3 R R (List.all_eq_true.1 R) (by decide) ?_
    refine P4 [.box [.sl a0.L.length (a0.L.flatMap Aq)],.arr 3 1 0 (s5.2.flatMap eI),.box (EL.el u6),.arr 3 1 0 ([u6.Tx].flatMap eI)] R ?_
    obtain ⟨hb8,h⟩:=Cy h
    refine Wb (f:=eI) (xs:=s5.2) (us:=[u6.Tx]) R Tryz.underlying225 ei3 Anw (fun _=>R) R R (.one _ _ _ _ (.ls _ _ _ _ _ _ R (A1 (f:=eI) (fun _=>R) [u6.Tx]).symm)) R R R (.sl _ _ _ (A1 (f:=eI) (fun _=>R) _)) R R hb8 (by decide) ?_
    refine rm 1 R (Ks (Ar (Ab (As (sv R (Bs R R) (rm 1 R (Ai ?_)))))))
    obtain rfl:=SJ h
    exact ⟨(n5,((wI (s5.1+1)),(s5.2++[u6.Tx]))),_,hk5,⟨R,R,R,R,R,trivial⟩,R,Nat.lt_succ_self _⟩
   ·refine Bj (Ar (Ab (As (sv R (Bs R R) (rm 1 R (Ai ?_))))))
    obtain rfl:=SJ h
    exact ⟨(n5,((wI (s5.1+1)),s5.2)),_,hk5,⟨R,R,R,R,R,trivial⟩,R,Nat.lt_succ_self _⟩
  ·refine Di (Au (Au (Bn (Ab ?_))))
   obtain rfl:=SJ h
   obtain rfl:_=x5:=hk5
   exact ⟨s5.2,_,ho5,⟨R,trivial⟩,R⟩
def K7 (b1:(List Int)):Option (List Int) :=
 some b1
def Eb (a0:Bh) (a1:List (List UInt8)) (s2:Int × (List Int)):Option (LB (Int × (List Int)) ((List Int))) :=
 if (decide (s2.1<(a1.length:Int))) then ((idx a1 s2.1).bind fun u3=>(Lz a0.Reads u3).bind fun v4=>if (s2.2.length+v4.length)*8≤140737488355328 then (some (.cont ((wI (s2.1+1)),(s2.2++v4)))) else none) else (some (.brk s2.2))
def Hh (a0:Bh) (a1:List (List UInt8)):Option (List Int) :=
 (C5 (Eb a0 a1) fuel (0,([]:List Int))).bind fun e6=>K7 e6
theorem S6 {a0:Bh} {a1:List (List UInt8)} {r:(List Int)} (h:Hh a0 a1=some r):De Tryz.prog 212 [] [.agg (EL.el a0),.one (.sl a1.length (a1.flatMap (eL eU8)))] (fun y m'=>y=.s (.one (.ls 0 r.length))∧m'=[.arr 3 1 0 (r.flatMap eI)]):=by
 unfold Hh at h
 refine Da Tryz.func212 R (nt:=22) R (Nbl R) ?_
 intro w0 S0 X0 H0
 refine csr (F0 R R (rm 1 R (Ai (csr (rm 1 R (Ai (Br (csr (rm 1 R (sv R (Ax Sn R) (rm 1 R (Ai ?_))))))))))))
 refine D1 3 1 5 (by decide) R ?_
 refine Dt ((List Int)) (fun b1=>[(5,.s (.one (.ls 1 b1.length)))]) (fun b1=>[.box (EL.el a0),.arr 3 1 0 (b1.flatMap eI)]) (fun b1=>K7 b1=some r) (fun _ _=>A5 R) (fun _ _=>Ap R) (fun _ _=>Nbl R) (fun b1 h=>?_) ?_
 ·unfold K7 at h
  refine csr (rm 2 R (Ai (Bv ?_)))
  obtain rfl:=SJ h
  exact ⟨Or.inr R,_,[1],[.one (.ls 0 b1.length)],[.arr 3 1 0 (b1.flatMap eI)],(Ad (rt R) Ah),R,R,⟨by decide,R⟩,R,R,⟨R,R⟩⟩
 ·skip
  refine Bu ?_
  obtain ⟨x2,hx2,ho2⟩:=Ae h
  refine B6 (G:=Nat × (Int × (List Int))) (fun g=>[(2,.s (.one (.lp 0 0))),(5,.s (.one (.ls 1 g.2.2.length))),(8,.s (.one (.sl a1.length (a1.flatMap (eL eU8))))),(9,.s (.one (Ii6 (a1.length:Int)))),(10,.s (.one (Ii6 g.2.1)))]) (fun g=>[.box (EL.el a0),.arr 3 1 0 (g.2.2.flatMap eI)]) (fun g=>C5 (Eb a0 a1) g.1 g.2=some x2) (fun g=>g.1) (fuel,(0,([]:List Int))) hx2 ⟨R,R,R,R,R,trivial⟩ [] R (fun _ _=>A5 R) (fun _ _=>Ap R) (fun _ _=>Nbl R) ?_
  clear hx2 h
  rintro ⟨n2,s2⟩ h
  obtain ⟨n2,y2,rfl,h,hk2⟩:=C8 h
  unfold Eb at h
  refine csr (sv R (Bw R R) (Ai (Br (ccI h R (fun h=>?_) (fun h=>?_)))))
  ·refine Bj (Ab (Br (Bu (Br (As ?_)))))
   obtain ⟨u3,hu3,h⟩:=Ae h
   refine sv R (Cb (f:=(eL eU8)) Sn (fun _=>R) R R R R hu3) ?_
   refine sv R (Ak Nr R (.cp _) R) (rm 1 R (Ai (As (rm 1 R (sv R (Ac Zm R) (ld Ab7 R R R R (sv R (Bc R) ?_)))))))
   obtain ⟨v4,hv4,h⟩:=Ae h
   refine Bb R Av6 (Aa R (Aa R Af)) (Ao R) (Wl hv4) ?_
   obtain ⟨hb5,h⟩:=Cy h
   refine Wb (f:=eI) (xs:=s2.2) (us:=v4) R Tryz.underlying225 ei3 Anw (fun _=>R) R R (.one _ _ _ _ (.id _ R)) R R R (.sl _ _ _ (A1 (f:=eI) (fun _=>R) _)) R R hb5 (by decide) ?_
   refine rm 1 R (Ks (Ar (Ab (As (sv R (Bs R R) (rm 1 R (Ai ?_)))))))
   obtain rfl:=SJ h
   exact ⟨(n2,((wI (s2.1+1)),(s2.2++v4))),_,hk2,⟨R,R,R,R,R,trivial⟩,R,Nat.lt_succ_self _⟩
  ·refine Di (Au (Au (Bn (Ab ?_))))
   obtain rfl:=SJ h
   obtain rfl:_=x2:=hk2
   exact ⟨s2.2,_,ho2,⟨R,trivial⟩,R⟩
def Nf (b1:(List A2)):Option (Bool × (List A2)) :=
 some (true,b1)
def Kj (a1:Int) (s2:Int × (List A2)) (u3:A2) (b4:Unit):Option (LR (Int × (List A2)) ((List A2)) (Bool × (List A2))) :=
 (G6).bind fun v5=>(Fj s2.2 s2.1 a1).bind fun v6=>if v6.length=s2.2.length then (if (decide (u3.State=2)) then ((idx v6 s2.1).bind fun u8=>(I2 u8).bind fun v9=>if v9 then (some (.ret (false,v6))) else (some (.cont ((wI (s2.1+1)),v6)))) else (some (.cont ((wI (s2.1+1)),v6)))) else none
def Fs (a0:List A2) (a1:Int) (a2:List Int) (s2:Int × (List A2)):Option (LR (Int × (List A2)) ((List A2)) (Bool × (List A2))) :=
 if (decide (s2.1<(a0.length:Int))) then ((idx s2.2 s2.1).bind fun u3=>if (decide (s2.1=a1)) then (some (.cont ((wI (s2.1+1)),s2.2))) else ((Dw a2 u3.ID).bind fun v10=>if (!v10) then (some (.cont ((wI (s2.1+1)),s2.2))) else ((idx s2.2 a1).bind fun u11=>(Ez u3 u11).bind fun v12=>if (!v12) then (some (.cont ((wI (s2.1+1)),s2.2))) else (Kj a1 s2 u3 ())))) else (some (.brk s2.2))
def Km (a0:List A2) (a1:Int) (a2:List Int):Option (Bool × (List A2)) :=
 (Lj (Fs a0 a1 a2) fuel (0,a0)).bind fun x=>match x with | .inl r=>some r | .inr e13=>Nf e13
theorem V0 {a0:List A2} {a1:Int} {a2:List Int} {r:Bool × (List A2)} (h:Km a0 a1 a2=some r):De Tryz.prog 211 [.arr 139 8 0 (a0.flatMap Be)] [.one (.ls 0 a0.length),.one (Ii6 a1),.one (.sl a2.length (a2.flatMap eI))] (fun y m'=>y=.s (.one (.b r.1))∧m'=[.arr 139 8 0 (r.2.flatMap Be)]):=by
 unfold Km at h
 refine Da Tryz.func211 R (nt:=51) R (Nbl R) ?_
 intro w0 S0 X0 H0
 refine csr (rm 1 R (Ai (Br (csr (rm 1 R (sv R (Mf P7 R R (A1 (f:=Be) (fun _=>R) _).symm) ?_))))))
 refine rm 1 R (Ai (Dt ((List A2)) (fun b1=>[]) (fun b1=>[.arr 139 8 0 (b1.flatMap Be)]) (fun b1=>Nf b1=some r) (fun _ _=>A5 R) (fun _ _=>Ap R) (fun _ _=>Nbl R) (fun b1 h=>?_) ?_))
 ·unfold Nf at h
  refine csr (rm 1 R (Ai (Bv ?_)))
  obtain rfl:=SJ h
  exact ⟨Or.inr R,_,[0],[.one (.b true)],[.arr 139 8 0 (b1.flatMap Be)],(Ad (rt R) Ah),R,R,⟨by decide,R⟩,R,R,⟨R,R⟩⟩
 ·skip
  refine Bu ?_
  obtain ⟨x2,hx2,ho2⟩:=Ae h
  refine B6 (G:=Nat × (Int × (List A2))) (fun g=>[(0,.s (.one (.ls 0 g.2.2.length))),(1,.s (.one (Ii6 a1))),(2,.s (.one (.sl a2.length (a2.flatMap eI)))),(9,.s (.one (.ls 0 g.2.2.length))),(10,.s (.one (Ii6 (a0.length:Int)))),(11,.s (.one (Ii6 g.2.1)))]) (fun g=>[.arr 139 8 0 (g.2.2.flatMap Be)]) (fun g=>Lj (Fs a0 a1 a2) g.1 g.2=some x2) (fun g=>g.1) (fuel,(0,a0)) hx2 ⟨R,R,R,R,R,R,trivial⟩ [] R (fun _ _=>A5 R) (fun _ _=>Ap R) (fun _ _=>Nbl R) ?_
  clear hx2 h
  rintro ⟨n2,s2⟩ h
  obtain ⟨n2,y2,rfl,h,hk2⟩:=Ff h
  unfold Fs at h
  refine csr (sv R (Bw R R) (Ai (Br (ccI h R (fun h=>?_) (fun h=>?_)))))
  ·refine Bj (Ab (Br (Bu (csr (sv R (Bc R) ?_)))))
   obtain ⟨u3,hu3,h⟩:=Ae h
   refine sv R (I4 (f:=Be) P7 (fun _=>R) R R R R R hu3) ?_
   refine sv R (O1 (f:=Be) (sz:=8) 0 I6 (fun _=>R) R R R R (L6 hu3).2 (Nbl R) R) ?_
   refine Bq R Sj (rm 1 R (sst Rx R R R R R (Ai (Br (Br (Hp (Unit) (fun b4=>[(0,.s (.one (.ls 0 s2.2.length))),(1,.s (.one (Ii6 a1))),(2,.s (.one (.sl a2.length (a2.flatMap eI)))),(7,.s (.one (Ii6 s2.1))),(8,.s (.one (.lp 1 0))),(9,.s (.one (.ls 0 s2.2.length))),(10,.s (.one (Ii6 (a0.length:Int)))),(11,.s (.one (Ii6 s2.1)))]) (fun b4=>[.arr 139 8 0 (s2.2.flatMap Be),.box (EL.el u3)]) (fun b4=>Kj a1 s2 u3 b4=some y2) (fun _ _=>A5 R) (fun _ _=>Ap R) (fun _ _=>Nbl R) (fun b4 h=>?_) ?_))))))
   ·unfold Kj at h
    refine Br (As ?_)
    obtain ⟨v5,hv5,h⟩:=Ae h
    refine Ho (x':=.s (.agg [.raw (.func (.func 252) #[] #[]),.raw (.func (.func 253) #[] #[])])) (M':=[.arr 139 8 0 (s2.2.flatMap Be),.box (EL.el u3)]) [] R Aua (.func _) Af (Qm hv5) R R (by decide) R R R ?_
    refine rm 2 R (sv R (Bc R) ?_)
    obtain ⟨v6,hv6,h⟩:=Ae h
    refine Ho (x':=.tup []) (M':=[.arr 139 8 0 (v6.flatMap Be),.box (EL.el u3)]) [0] R Auc (.func _) (Aa R (Aa R (Aa R (Aa R Af)))) (O5 hv6) R R (by decide) R R R ?_
    obtain ⟨hl7,h⟩:=Cy h
    refine M0 0 (y:=.s (.one (.ls 0 s2.2.length))) (.s (.one (.ls 0 v6.length))) R (congrArg (fun n=>AV.s (.one (.ls 0 n))) hl7.symm) ?_
    refine M0 9 (y:=.s (.one (.ls 0 s2.2.length))) (.s (.one (.ls 0 v6.length))) R (congrArg (fun n=>AV.s (.one (.ls 0 n))) hl7.symm) ?_
    refine M0 36 (y:=.s (.one (.ls 0 s2.2.length))) (.s (.one (.ls 0 v6.length))) R (congrArg (fun n=>AV.s (.one (.ls 0 n))) hl7.symm) ?_
    refine Ai (csr (fl Oo ti3 R R R R R R (sv R (B5 R R) (rm 1 R (ssI 43 h R (fun h=>?_) (fun h=>?_))))))
    ·refine rm 2 R (son R R R ?_)
     obtain ⟨u8,hu8,h⟩:=Ae h
     refine sv R (I4 (f:=Be) P7 (fun _=>R) R R R R R hu8) ?_
     refine son R R R (sv R (O1 (f:=Be) (sz:=8) 0 I6 (fun _=>R) R R R R (L6 hu8).2 (Nbl R) R) ?_)
     refine son R R R ?_
     obtain ⟨v9,hv9,h⟩:=Ae h
     refine Bb R Ap5 (Aa R Af) (Ao R) (Pp hv9) (rm 1 R (Ai (ccI h R (fun h=>?_) (fun h=>?_))))
     ·refine csr (rm 1 R (Ai (Bv (Ay (Ag (Ag (Ay (Ag ?_))))))))
      obtain rfl:=SJ h
      obtain rfl:Sum.inl _=x2:=hk2
      replace ho2:some _=some _:=ho2
      obtain rfl:=Option.some.inj ho2
      exact ⟨Or.inr R,_,[0],[.one (.b false)],[.arr 139 8 0 (v6.flatMap Be)],(Ad (rt R) Ah),R,R,⟨by decide,R⟩,R,R,⟨R,R⟩⟩
     ·refine Bj (Ar (Ab (As (sv R (Bs R R) (rm 1 R (Ai ?_))))))
      obtain rfl:=SJ h
      exact ⟨(n2,((wI (s2.1+1)),v6)),_,hk2,⟨R,R,R,R,R,R,trivial⟩,R,Nat.lt_succ_self _⟩
    ·refine rm 6 R (Ai (Cp R (fun hx=>Bool.noConfusion hx) (fun _=>?_)))
     refine Bj (Ar (Ab (As (sv R (Bs R R) (rm 1 R (Ai ?_))))))
     obtain rfl:=SJ h
     exact ⟨(n2,((wI (s2.1+1)),v6)),_,hk2,⟨R,R,R,R,R,R,trivial⟩,R,Nat.lt_succ_self _⟩
   ·skip
    refine Z9 mixed (by kernel_rfl) ?_
    refine dv R (Bc R) (dv R (Bc R) (dv R (B5 R R) (dv R (Bc R) (Y1 19 R (fun hc=>?_) (fun hc=>?_)))))
    ·replace h:=Va hc h
     clear hc
     refine O2 R R R R (O2 R R R R (O2 R R R R (O2 R R R R (O2 R R R R (dv R (Hv R R) (dv R (Bc R) (O2 R R R R (O2 R R R R (O2 R R R R (O2 R R R R (O2 R R R R (O2 R R R R (O2 R R R R (dv R (Hv R R) (Adw (Ab (Cp R (fun _=>?_) (fun hx=>Bool.noConfusion hx))))))))))))))))))
     refine Di (Au (Bn (Ab (As (sv R (Bs R R) (rm 1 R (Ai ?_)))))))
     obtain rfl:=SJ h
     exact ⟨(n2,((wI (s2.1+1)),s2.2)),_,hk2,⟨R,R,R,R,R,R,trivial⟩,R,Nat.lt_succ_self _⟩
    ·replace h:=Vr hc h
     clear hc
     refine dvg R R R (Bc R) (dvg R R R (Ac Sv R) (dvg R R R (Ak ti3 R (.lp _ _ _ R) R) ?_))
     obtain ⟨v10,hv10,h⟩:=Ae h
     refine ddg R R R (C9 Aq7 (Aa R (Aa R Af)) R (K8 hv10)) (dvg R R R (B2 R) (dv R (Mg R R) (dv R (Bc R) (Y1 26 R (fun hc=>?_) (fun hc=>?_)))))
     ·replace h:=Va hc h
      clear hc
      refine O2 R R R R (O2 R R R R (O2 R R R R (O2 R R R R (O2 R R R R (O2 R R R R (O2 R R R R (dv R (Hv R R) (Adw (Ab (Cp R (fun _=>?_) (fun hx=>Bool.noConfusion hx)))))))))))
      refine Di (Au (Bn (Ab (As (sv R (Bs R R) (rm 1 R (Ai ?_)))))))
      obtain rfl:=SJ h
      exact ⟨(n2,((wI (s2.1+1)),s2.2)),_,hk2,⟨R,R,R,R,R,R,trivial⟩,R,Nat.lt_succ_self _⟩
     ·replace h:=Vr hc h
      clear hc
      refine dvg R R R (Bf I6 R (.lp _ _ _ R) (Nbl R)) (dvg R R R (Bc R) (dvg R R R (Bc R) ?_))
      obtain ⟨u11,hu11,h⟩:=Ae h
      refine dvg R R R (I4 (f:=Be) P7 (fun _=>R) R R R R R hu11) ?_
      refine dvg R R R (O1 (f:=Be) (sz:=8) 0 I6 (fun _=>R) R R R R (L6 hu11).2 (Nbl R) R) ?_
      obtain ⟨v12,hv12,h⟩:=Ae h
      refine ddg R R R (C9 Aqv (Aa R (Aa R Af)) R (Oz hv12)) (dvg R R R (B2 R) (dv R (Mg R R) (Adw (Ab (ccI h R (fun h=>?_) (fun h=>?_))))))
      ·refine Di (Au (Bn (Ab (As (sv R (Bs R R) (rm 1 R (Ai ?_)))))))
       obtain rfl:=SJ h
       exact ⟨(n2,((wI (s2.1+1)),s2.2)),_,hk2,⟨R,R,R,R,R,R,trivial⟩,R,Nat.lt_succ_self _⟩
      ·refine Bj (Ab ?_)
       exact ⟨(),_,h,⟨R,R,R,R,R,R,R,R,trivial⟩,R⟩
  ·refine Di (Au (Au (Bn (Ab ?_))))
   obtain rfl:=SJ h
   obtain rfl:_=x2:=hk2
   exact ⟨s2.2,_,ho2,trivial,R⟩
def Li (a0:Bh) (a2:Int) (a3:List (List UInt8)) (v2:Int) (b8:(List A2)):Option (Bh × Int) :=
 (idx b8 v2).bind fun u9=>(idx (b8.set v2.toNat ({u9 with State:=2})) v2).bind fun u10=>(idx ((b8.set v2.toNat ({u9 with State:=2})).set v2.toNat ({u10 with End:=a2})) v2).bind fun u11=>some ((Bh.mk (((b8.set v2.toNat ({u9 with State:=2})).set v2.toNat ({u10 with End:=a2})).set v2.toNat ({u11 with Keys:=a3})) (Bz.mk a0.Reads.L)),0)
def Eh (a0:Bh) (a1:Int) (a2:Int) (a3:List (List UInt8)):Option (Bh × Int) :=
 (J9 a0).bind fun v1=>if (!v1) then (some (Ip,1)) else ((F5 a0 a1).bind fun v2=>if (decide (v2<0)) then (some (Ip,7)) else ((idx a0.Txs v2).bind fun u3=>(Lp a0 u3 a2 a3).bind fun v4=>if (!v4) then (some (Ip,1)) else ((idx a0.Txs v2).bind fun u5=>(G3 a0 u5 a3).bind fun v6=>if v6 then (some (Ip,9)) else ((D4 a0.Txs).bind fun v7=>(Hh (Bh.mk a0.Txs (Bz.mk a0.Reads.L)) a3).bind fun v12=>(Km v7 v2 v12).bind fun v13=>if v13.2.length=v7.length then (if (!v13.1) then (some (Ip,10)) else ((idx v13.2 v2).bind fun u15=>(I2 u15).bind fun v16=>if v16 then (some (Ip,10)) else (Li a0 a2 a3 v2 v13.2))) else none))))
theorem Wi {a0:Bh} {a1:Int} {a2:Int} {a3:List (List UInt8)} {r:Bh × Int} (h:Eh a0 a1 a2 a3=some r):Bt Tryz.prog 140 [.agg (EL.el a0),.one (Ii6 a1),.one (Ii6 a2),.one (.sl a3.length (a3.flatMap (eL eU8)))] (·=.tup [.agg (EL.el r.1),.one (Ii6 r.2)]):=by
 unfold Eh at h
 refine A4 Tryz.func140 R (nt:=81) R (Nbl R) ?_
 intro w0 S0
 refine csr (F0 R R (Bq R Wq (rm 1 R (Ai (Br (csr (sv R (Bf P9 R (.lp _ _ _ R) (Nbl R)) ?_)))))))
 obtain ⟨v1,hv1,h⟩:=Ae h
 refine Bb R Au7 (Aa R Af) (Ao R) (O4 hv1) (sv R (B2 R) (Ai (ccI h R (fun h=>?_) (fun h=>?_))))
 ·refine csr (sv R (A6 Wq Ab8 Az (.nil _)) (sst Ws R R R R R (rm 1 R (Ai (Bv (Ag ?_))))))
  obtain rfl:=SJ h
  exact dn (Ad (ra P9 R R R) (Ad (rt R) Ah)) (Iz R) R
 ·refine Bj (Ab (csr (ld P9 R R R R (sv R (Bc R) ?_))))
  obtain ⟨v2,hv2,h⟩:=Ae h
  refine Bb R Arz (Aa R (Aa R Af)) (Ao R) (On hv2) (rm 1 R (Ai (Br (Bu (csr (rm 1 R (sv R (Bw R R) (rm 1 R (Ai (ccI h R (fun h=>?_) (fun h=>?_)))))))))))
  ·refine csr (sv R (A6 Wq Ab8 Az (.nil _)) (sst Ws R R R R R (rm 1 R (Ai (Bv (Ay (Ag ?_)))))))
   obtain rfl:=SJ h
   exact dn (Ad (ra P9 R R R) (Ad (rt R) Ah)) (Iz R) R
  ·refine Br ?_
   refine Z9 mixed (by kernel_rfl) ?_
   refine dv R (Bf P9 R (.lp _ _ _ R) (Nbl R)) (dv R (Ac Of R) (dv R (Ak Aaa R (.lp _ _ _ R) R) (dv R (Bc R) ?_)))
   obtain ⟨u3,hu3,h⟩:=Ae h
   refine dv R (Cb (f:=Be) P7 (fun _=>R) R R R R hu3) ?_
   refine dv R (B3 (ys:=[Ii6 u3.ID,Ii6 u3.Begin,Ii6 u3.End,Ii6 u3.State,.b u3.In,.b u3.Out,.b u3.RO,.sl u3.Keys.length (u3.Keys.flatMap (eL eU8))]) I6 R (.cp _) R R) (dv R (Bc R) (dv R (Bc R) ?_))
   obtain ⟨v4,hv4,h⟩:=Ae h
   refine dd R (C9 Axb (Aa R (Aa R (Aa R (Aa R Af)))) R (Wp hv4)) (dv R (B2 R) (dv R (Ko R) (Adw (Ab (ccI h R (fun h=>?_) (fun h=>?_))))))
   ·refine csr (sv R (A6 Wq Ab8 Az (.nil _)) (sst Ws R R R R R (rm 1 R (Ai (Bv (Ay (Ag ?_)))))))
    obtain rfl:=SJ h
    exact dn (Ad (ra P9 R R R) (Ad (rt R) Ah)) (Iz R) R
   ·refine Br ?_
    refine Z9 mixed (by kernel_rfl) ?_
    refine dv R (Bf P9 R (.lp _ _ _ R) (Nbl R)) (dv R (Ac Of R) (dv R (Ak Aaa R (.lp _ _ _ R) R) (dv R (Bc R) ?_)))
    obtain ⟨u5,hu5,h⟩:=Ae h
    refine dv R (Cb (f:=Be) P7 (fun _=>R) R R R R hu5) ?_
    refine dv R (B3 (ys:=[Ii6 u5.ID,Ii6 u5.Begin,Ii6 u5.End,Ii6 u5.State,.b u5.In,.b u5.Out,.b u5.RO,.sl u5.Keys.length (u5.Keys.flatMap (eL eU8))]) I6 R (.cp _) R R) (dv R (Bc R) ?_)
    obtain ⟨v6,hv6,h⟩:=Ae h
    refine dd R (C9 Aw2 (Aa R (Aa R (Aa R Af))) R (Ur hv6)) (dv R (Ko R) (Adw (Ab (ccI h R (fun h=>?_) (fun h=>?_)))))
    ·refine csr (sv R (A6 Wq Ab8 Az (.nil _)) (sst Ws R R R R R (rm 1 R (Ai (Bv (Ay (Ag ?_)))))))
     obtain rfl:=SJ h
     exact dn (Ad (ra P9 R R R) (Ad (rt R) Ah)) (Iz R) R
    ·refine Bj (Ar (Ab (csr (sv R (Ac Of R) (sv R (Ak Aaa R (.lp _ _ _ R) R) ?_)))))
     obtain ⟨v7,hv7,h⟩:=Ae h
     refine Ho (x':=.s (.one (.ls 2 v7.length))) (M':=[.box (EL.el a0),.box [Znl,Znl],.arr 139 8 0 (v7.flatMap Be)]) [] R At9 (.func _) (Aa R Af) (Ps hv7) R R (by decide) R R R ?_
     refine rm 1 R (Ai (Br (Br (Hp ((List A2)) (fun b8=>[(2,.s (.one (Ii6 a2))),(3,.s (.one (.sl a3.length (a3.flatMap (eL eU8))))),(4,.s (.one (.lp 0 0))),(8,.s (.one (.lp 1 0))),(10,.s (.one (Ii6 v2))),(11,.s (.one (.ls 2 b8.length)))]) (fun b8=>[.box (EL.el a0),.box [Znl,Znl],.arr 139 8 0 (b8.flatMap Be)]) (fun b8=>Li a0 a2 a3 v2 b8=some r) (fun _ _=>A5 R) (fun _ _=>Ap R) (fun _ _=>Nbl R) (fun b8 h=>?_) ?_))))
     ·unfold Li at h
      refine csr (rm 7 R (sv R (Bc R) ?_))
      obtain ⟨u9,hu9,h⟩:=Ae h
      refine sv R (I4 (f:=Be) P7 (fun _=>R) R R R R R hu9) ?_
      refine sv R (Pj Oo R R (A1 (f:=Be) (fun _=>R) _).symm) ?_
      refine Abd (f:=Be) (u':={u9 with State:=2}) (sz:=8) 3 sz3 (fun _=>R) R R R R R R R (List.all_eq_true.1 R) (L6 hu9).2 (Nbl R) R ?_
      refine M0 11 (y:=.s (.one (.ls 2 b8.length))) (.s (.one (.ls 2 (b8.set v2.toNat ({u9 with State:=2})).length))) R (congrArg (fun n=>AV.s (.one (.ls 2 n))) List.length_set.symm) ?_
      refine M0 63 (y:=.s (.one (.ls 2 b8.length))) (.s (.one (.ls 2 (b8.set v2.toNat ({u9 with State:=2})).length))) R (congrArg (fun n=>AV.s (.one (.ls 2 n))) List.length_set.symm) ?_
      refine M0 65 (y:=.s (.one (.ls 2 b8.length))) (.s (.one (.ls 2 (b8.set v2.toNat ({u9 with State:=2})).length))) R (congrArg (fun n=>AV.s (.one (.ls 2 n))) List.length_set.symm) ?_
      refine M0 67 (y:=.s (.one (.ls 2 b8.length))) (.s (.one (.ls 2 (b8.set v2.toNat ({u9 with State:=2})).length))) R (congrArg (fun n=>AV.s (.one (.ls 2 n))) List.length_set.symm) ?_
      obtain ⟨u10,hu10,h⟩:=Ae h
      refine sv R (I4 (f:=Be) P7 (fun _=>R) R R R R R hu10) ?_
      refine sv R (Pj Qg R R (A1 (f:=Be) (fun _=>R) _).symm) ?_
      refine Abd (f:=Be) (u':={u10 with End:=a2}) (sz:=8) 2 sz3 (fun _=>R) R R R R R R R (List.all_eq_true.1 R) (L6 hu10).2 (Nbl R) R ?_
      refine M0 11 (y:=.s (.one (.ls 2 (b8.set v2.toNat ({u9 with State:=2})).length))) (.s (.one (.ls 2 ((b8.set v2.toNat ({u9 with State:=2})).set v2.toNat ({u10 with End:=a2})).length))) R (congrArg (fun n=>AV.s (.one (.ls 2 n))) List.length_set.symm) ?_
      refine M0 63 (y:=.s (.one (.ls 2 (b8.set v2.toNat ({u9 with State:=2})).length))) (.s (.one (.ls 2 ((b8.set v2.toNat ({u9 with State:=2})).set v2.toNat ({u10 with End:=a2})).length))) R (congrArg (fun n=>AV.s (.one (.ls 2 n))) List.length_set.symm) ?_
      refine M0 65 (y:=.s (.one (.ls 2 (b8.set v2.toNat ({u9 with State:=2})).length))) (.s (.one (.ls 2 ((b8.set v2.toNat ({u9 with State:=2})).set v2.toNat ({u10 with End:=a2})).length))) R (congrArg (fun n=>AV.s (.one (.ls 2 n))) List.length_set.symm) ?_
      refine M0 67 (y:=.s (.one (.ls 2 (b8.set v2.toNat ({u9 with State:=2})).length))) (.s (.one (.ls 2 ((b8.set v2.toNat ({u9 with State:=2})).set v2.toNat ({u10 with End:=a2})).length))) R (congrArg (fun n=>AV.s (.one (.ls 2 n))) List.length_set.symm) ?_
      obtain ⟨u11,hu11,h⟩:=Ae h
      refine sv R (I4 (f:=Be) P7 (fun _=>R) R R R R R hu11) ?_
      refine sv R (Pj Sy R R (A1 (f:=Be) (fun _=>R) _).symm) ?_
      refine Abd (f:=Be) (u':={u11 with Keys:=a3}) (sz:=8) 7 Avh (fun _=>R) R R R R R R R (List.all_eq_true.1 R) (L6 hu11).2 (Nbl R) R ?_
      refine M0 11 (y:=.s (.one (.ls 2 ((b8.set v2.toNat ({u9 with State:=2})).set v2.toNat ({u10 with End:=a2})).length))) (.s (.one (.ls 2 (((b8.set v2.toNat ({u9 with State:=2})).set v2.toNat ({u10 with End:=a2})).set v2.toNat ({u11 with Keys:=a3})).length))) R (congrArg (fun n=>AV.s (.one (.ls 2 n))) List.length_set.symm) ?_
      refine M0 63 (y:=.s (.one (.ls 2 ((b8.set v2.toNat ({u9 with State:=2})).set v2.toNat ({u10 with End:=a2})).length))) (.s (.one (.ls 2 (((b8.set v2.toNat ({u9 with State:=2})).set v2.toNat ({u10 with End:=a2})).set v2.toNat ({u11 with Keys:=a3})).length))) R (congrArg (fun n=>AV.s (.one (.ls 2 n))) List.length_set.symm) ?_
      refine M0 65 (y:=.s (.one (.ls 2 ((b8.set v2.toNat ({u9 with State:=2})).set v2.toNat ({u10 with End:=a2})).length))) (.s (.one (.ls 2 (((b8.set v2.toNat ({u9 with State:=2})).set v2.toNat ({u10 with End:=a2})).set v2.toNat ({u11 with Keys:=a3})).length))) R (congrArg (fun n=>AV.s (.one (.ls 2 n))) List.length_set.symm) ?_
      refine M0 67 (y:=.s (.one (.ls 2 ((b8.set v2.toNat ({u9 with State:=2})).set v2.toNat ({u10 with End:=a2})).length))) (.s (.one (.ls 2 (((b8.set v2.toNat ({u9 with State:=2})).set v2.toNat ({u10 with End:=a2})).set v2.toNat ({u11 with Keys:=a3})).length))) R (congrArg (fun n=>AV.s (.one (.ls 2 n))) List.length_set.symm) ?_
      refine Ai (csr (rm 1 R (sv R (Ac Zm R) (ld Ab7 R R R R (sv R (A6 Wq Ab8 (Av R (Av R Az)) (.cons _ _ _ _ _ _ _ R R (Nbl R) (.cons _ _ _ _ _ _ _ R R (Nbl R) (.nil _)))) (sst Ws R R R R R (rm 1 R (Ai (Bv ?_)))))))))
      obtain rfl:=SJ h
      refine ⟨Or.inr R,_,_,_,(Ad (ra P9 R R R) (Ad (rt R) Ah)),(by (repeat' first | exact J7.nil _ | apply J7.cons | apply Jm.one | apply Jm.agg | exact Dm.nil | exact Dm.ls _ _ _ _ _ _ R (A1 (f:=Be) (fun _=>R) _).symm | exact Dm.id _ R | exact Cw.nil _ | apply Cw.cons)),?_⟩
      rfl
     ·skip
      refine As (rm 2 R (ld P9 R R R R (sv R (Bc R) ?_)))
      obtain ⟨v12,hv12,h⟩:=Ae h
      refine Ho (x':=.s (.one (.ls 3 v12.length))) (M':=[.box (EL.el a0),.box [Znl,Znl],.arr 139 8 0 (v7.flatMap Be),.arr 3 1 0 (v12.flatMap eI)]) [] R Avj (.func _) (Aa R (Aa R Af)) (S6 hv12) R R (by decide) R R R ?_
      refine Aii 52 R (by (repeat' first | exact J7.nil _ | apply J7.cons | apply Jm.one | apply Jm.agg | exact Dm.nil | exact Dm.ls _ _ _ _ _ _ R (A1 (f:=Be) (fun _=>R) _).symm | exact Dm.ls _ _ _ _ _ _ R (A1 (f:=eI) (fun _=>R) _).symm | exact Dm.id _ R | exact Cw.nil _ | apply Cw.cons)) ?_
      obtain ⟨v13,hv13,h⟩:=Ae h
      refine Ho (x':=.s (.one (.b v13.1))) (M':=[.box (EL.el a0),.box [Znl,Znl],.arr 139 8 0 (v13.2.flatMap Be),.arr 3 1 (v12.flatMap eI).length (v12.flatMap eI)]) [2] R Aw4 (.func _) (Aa R (Aa R (Aa R Af))) (V0 hv13) R R (by decide) R R R ?_
      obtain ⟨hl14,h⟩:=Cy h
      refine M0 47 (y:=.s (.one (.ls 2 v7.length))) (.s (.one (.ls 2 v13.2.length))) R (congrArg (fun n=>AV.s (.one (.ls 2 n))) hl14.symm) ?_
      refine M0 11 (y:=.s (.one (.ls 2 v7.length))) (.s (.one (.ls 2 v13.2.length))) R (congrArg (fun n=>AV.s (.one (.ls 2 n))) hl14.symm) ?_
      refine M0 48 (y:=.s (.one (.ls 2 v7.length))) (.s (.one (.ls 2 v13.2.length))) R (congrArg (fun n=>AV.s (.one (.ls 2 n))) hl14.symm) ?_
      refine sv R (B2 R) (rm 1 R (ssI 55 h R (fun h=>?_) (fun h=>?_)))
      ·refine rm 6 R (Ai (Cp R (fun _=>?_) (fun hx=>Bool.noConfusion hx)))
       refine csr (sv R (A6 Wq Ab8 Az (.nil _)) (sst Ws R R R R R (rm 1 R (Ai (Bv (Ag ?_))))))
       obtain rfl:=SJ h
       exact dn (Ad (ra P9 R R R) (Ad (rt R) Ah)) (Iz R) R
      ·refine rm 2 R (son R R R ?_)
       obtain ⟨u15,hu15,h⟩:=Ae h
       refine sv R (I4 (f:=Be) P7 (fun _=>R) R R R R R hu15) ?_
       refine son R R R (sv R (O1 (f:=Be) (sz:=8) 0 I6 (fun _=>R) R R R R (L6 hu15).2 (Nbl R) R) ?_)
       refine son R R R ?_
       obtain ⟨v16,hv16,h⟩:=Ae h
       refine Bb R Ap5 (Aa R Af) (Ao R) (Pp hv16) (rm 1 R (Ai (ccI h R (fun h=>?_) (fun h=>?_))))
       ·refine csr (sv R (A6 Wq Ab8 Az (.nil _)) (sst Ws R R R R R (rm 1 R (Ai (Bv (Ag ?_))))))
        obtain rfl:=SJ h
        exact dn (Ad (ra P9 R R R) (Ad (rt R) Ah)) (Iz R) R
       ·refine Bj (Ab ?_)
        exact ⟨v13.2,_,h,⟨R,R,R,R,R,R,trivial⟩,R⟩
def Ie (a0:Bm) (a1:Int) (a2:Int) (a3:Int) (b1:Unit):Option (Bm × Int) :=
 (Eg a0 a1).bind fun v2=>if (decide (v2.1.State=2)) then (some (Cm,7)) else (if (!decide (v2.1.State=1)) then (some (Cm,14)) else (if (!decide (v2.1.Attempt=a2)) then (some (Cm,14)) else ((C0 a0 (A9.mk a1 a2 2 a3)).bind fun v3=>some (v3.1,v3.2))))
def Ex (a0:Bm) (a1:Int) (a2:Int) (a3:Int):Option (Bm × Int) :=
 (Dd a0).bind fun v4=>if (!v4) then (some (Cm,1)) else ((Co a1 a2).bind fun v5=>if (!v5) then (some (Cm,1)) else ((Gg a3).bind fun v6=>if (!v6) then (some (Cm,1)) else (Ie a0 a1 a2 a3 ())))
theorem T5 {a0:Bm} {a1:Int} {a2:Int} {a3:Int} {r:Bm × Int} (h:Ex a0 a1 a2 a3=some r):Bt Tryz.prog 142 [.agg [.sl a0.L.length (a0.L.flatMap Al)],.one (Ii6 a1),.one (Ii6 a2),.one (Ii6 a3)] (·=.tup [.agg [.sl r.1.L.length (r.1.L.flatMap Al)],.one (Ii6 r.2)]):=by
 unfold Ex at h
 refine A4 Tryz.func142 R (nt:=57) R (Nbl R) ?_
 intro w0 S0
 refine csr (F0 R R (Bq R U0 (rm 1 R (Ai (Br (Br (Hp (Unit) (fun b1=>[(1,.s (.one (Ii6 a1))),(2,.s (.one (Ii6 a2))),(3,.s (.one (Ii6 a3))),(4,.s (.one (.lp 0 0))),(8,.s (.one (.lp 1 0)))]) (fun b1=>[.box [.sl a0.L.length (a0.L.flatMap Al)],.box [Znl]]) (fun b1=>Ie a0 a1 a2 a3 b1=some r) (fun _ _=>A5 R) (fun _ _=>Ap R) (fun _ _=>Nbl R) (fun b1 h=>?_) ?_)))))))
 ·unfold Ie at h
  refine csr (ld Nz R R R R (sv R (Bc R) ?_))
  obtain ⟨v2,hv2,h⟩:=Ae h
  refine Bb R Aue (Aa R (Aa R Af)) (Ao R) (J1 hv2) (sv R (Cd R) (sv R (Aj R R) (sv R (Aj R R) (Bq R Vj (sst Aac R R R R R (rm 1 R (Ai (Br (Bu (csr (fl Uy ti3 R R R R R R (sv R (B5 R R) (rm 1 R (Ai (ccI h R (fun h=>?_) (fun h=>?_))))))))))))))))
  ·refine csr (sv R (A6 U0 Aa5 Az (.nil _)) (sst Sf R R R R R (rm 1 R (Ai (Bv (Ay (Ag ?_)))))))
   obtain rfl:=SJ h
   exact dn (Ad (ra Nz R R R) (Ad (rt R) Ah)) (Iz R) R
  ·refine csr (fl Uy ti3 R R R R R R (sv R (Dy R R) (rm 1 R (ssI 42 h R (fun h=>?_) (fun h=>?_)))))
   ·refine rm 6 R (Ai (Cp R (fun _=>?_) (fun hx=>Bool.noConfusion hx)))
    refine csr (sv R (A6 U0 Aa5 Az (.nil _)) (sst Sf R R R R R (rm 1 R (Ai (Bv (Ay (Ag ?_)))))))
    obtain rfl:=SJ h
    exact dn (Ad (ra Nz R R R) (Ad (rt R) Ah)) (Iz R) R
   ·refine son R R R (sv R (Ac Uz R) (son R R R (sv R (Ak ti3 R (.lp _ _ _ R) R) (rm 1 R (son R R R (sv R (Dy R R) (rm 2 R (Ai (ccI h R (fun h=>?_) (fun h=>?_))))))))))
    ·refine csr (sv R (A6 U0 Aa5 Az (.nil _)) (sst Sf R R R R R (rm 1 R (Ai (Bv (Ay (Ag ?_)))))))
     obtain rfl:=SJ h
     exact dn (Ad (ra Nz R R R) (Ad (rt R) Ah)) (Iz R) R
    ·refine Bj (Ar (Ab (csr (ld Nz R R R R (rm 3 R (sv R (A6 Vj Ae9 (Av R (Av R (Av R (Av R Az)))) (.cons _ _ _ _ _ _ _ R R (Nbl R) (.cons _ _ _ _ _ _ _ R R (Nbl R) (.cons _ _ _ _ _ _ _ R R (Nbl R) (.cons _ _ _ _ _ _ _ R R (Nbl R) (.nil _)))))) ?_))))))
     obtain ⟨v3,hv3,h⟩:=Ae h
     refine Bb R Ah8 (Aa R (Aa R Af)) (Ao R) (G5 hv3) (sv R (Aj R R) (sv R (Aj R R) (sst Sf R R R R R (rm 1 R (Ai (Bv ?_))))))
     obtain rfl:=SJ h
     exact dn (Ad (ra Nz R R R) (Ad (rt R) Ah)) (Ao R) R
 ·skip
  refine As (sv R (Bf Nz R (.lp _ _ _ R) (Nbl R)) ?_)
  obtain ⟨v4,hv4,h⟩:=Ae h
  refine Bb R At3 (Aa R Af) (Ao R) (Ji hv4) (sv R (B2 R) (rm 1 R (ssI 15 h R (fun h=>?_) (fun h=>?_))))
  ·refine rm 10 R (Ai (Cp R (fun _=>?_) (fun hx=>Bool.noConfusion hx)))
   refine csr (sv R (A6 U0 Aa5 Az (.nil _)) (sst Sf R R R R R (rm 1 R (Ai (Bv (Ag ?_))))))
   obtain rfl:=SJ h
   exact dn (Ad (ra Nz R R R) (Ad (rt R) Ah)) (Iz R) R
  ·refine rm 2 R (son R R R ?_)
   obtain ⟨v5,hv5,h⟩:=Ae h
   refine Bb R Ain (Aa R (Aa R Af)) (Ao R) (D7 hv5) (son R R R (sv R (B2 R) (rm 2 R (ssI 21 h R (fun h=>?_) (fun h=>?_)))))
   ·refine rm 4 R (Ai (Cp R (fun _=>?_) (fun hx=>Bool.noConfusion hx)))
    refine csr (sv R (A6 U0 Aa5 Az (.nil _)) (sst Sf R R R R R (rm 1 R (Ai (Bv (Ag ?_))))))
    obtain rfl:=SJ h
    exact dn (Ad (ra Nz R R R) (Ad (rt R) Ah)) (Iz R) R
   ·refine rm 1 R (son R R R ?_)
    obtain ⟨v6,hv6,h⟩:=Ae h
    refine Bb R At5 (Aa R Af) (Ao R) (Px hv6) (son R R R (sv R (B2 R) (rm 1 R (Ai (ccI h R (fun h=>?_) (fun h=>?_))))))
    ·refine csr (sv R (A6 U0 Aa5 Az (.nil _)) (sst Sf R R R R R (rm 1 R (Ai (Bv (Ag ?_))))))
     obtain rfl:=SJ h
     exact dn (Ad (ra Nz R R R) (Ad (rt R) Ah)) (Iz R) R
    ·refine Bj (Ab ?_)
     exact ⟨(),_,h,⟨R,R,R,R,R,trivial⟩,R⟩
def Eo (b1:(List (List UInt8))):Option Bool :=
 (Ei b1).bind fun v2=>some v2
def Db (s3:Int × (List (List UInt8))) (u4:A8) (b5:Unit):Option (LR (Int × (List (List UInt8))) ((List (List UInt8))) (Bool)) :=
 if (s3.2.length+[u4.Key].length)*24≤140737488355328 then (some (.cont ((wI (s3.1+1)),(s3.2++[u4.Key])))) else none
def Es (a0:List A8) (s3:Int × (List (List UInt8))):Option (LR (Int × (List (List UInt8))) ((List (List UInt8))) (Bool)) :=
 if (decide (s3.1<(a0.length:Int))) then ((idx a0 s3.1).bind fun u4=>if (decide (32<(u4.Val.length:Int))) then (some (.ret false)) else (if u4.Del then (if (decide (0<(u4.Val.length:Int))) then (some (.ret false)) else (Db s3 u4 ())) else (Db s3 u4 ()))) else (some (.brk s3.2))
def F2 (a0:List A8):Option Bool :=
 (Lj (Es a0) fuel (0,([]:List (List UInt8)))).bind fun x=>match x with | .inl r=>some r | .inr e7=>Eo e7
theorem R1 {a0:List A8} {r:Bool} (h:F2 a0=some r):Bt Tryz.prog 213 [.one (.sl a0.length (a0.flatMap Ba))] (·=.s (.one (.b r))):=by
 unfold F2 at h
 refine A4 Tryz.func213 R (nt:=34) R (Nbl R) ?_
 intro w0 S0
 refine csr (rm 1 R (Ai (csr (rm 1 R (Ai (Br (csr (rm 1 R (sv R (Ax Ab9 R) (rm 1 R (Ai ?_)))))))))))
 refine D1 56 1 3 (by decide) R ?_
 refine Dt ((List (List UInt8))) (fun b1=>[(3,.s (.one (.ls 0 b1.length)))]) (fun b1=>[.arr 56 1 0 (b1.flatMap (eL eU8))]) (fun b1=>Eo b1=some r) (fun _ _=>A5 R) (fun _ _=>Ap R) (fun _ _=>Nbl R) (fun b1 h=>?_) ?_
 ·unfold Eo at h
  refine csr (sv R (Bc R) ?_)
  refine Aii 32 R (by (repeat' first | exact J7.nil _ | apply J7.cons | apply Jm.one | apply Jm.agg | exact Dm.nil | exact Dm.ls _ _ _ _ _ _ R (A1 (f:=(eL eU8)) (fun _=>R) _).symm | exact Dm.id _ R | exact Cw.nil _ | apply Cw.cons)) ?_
  obtain ⟨v2,hv2,h⟩:=Ae h
  refine Bb R Atf (Aa R Af) (Ao R) (O9 hv2) (rm 1 R (Ai (Bv ?_)))
  obtain rfl:=SJ h
  exact dnT R R R R
 ·skip
  refine Bu ?_
  obtain ⟨x3,hx3,ho3⟩:=Ae h
  refine B6 (G:=Nat × (Int × (List (List UInt8)))) (fun g=>[(3,.s (.one (.ls 0 g.2.2.length))),(6,.s (.one (.sl a0.length (a0.flatMap Ba)))),(7,.s (.one (Ii6 (a0.length:Int)))),(8,.s (.one (Ii6 g.2.1)))]) (fun g=>[.arr 56 1 0 (g.2.2.flatMap (eL eU8))]) (fun g=>Lj (Es a0) g.1 g.2=some x3) (fun g=>g.1) (fuel,(0,([]:List (List UInt8)))) hx3 ⟨R,R,R,R,trivial⟩ [] R (fun _ _=>A5 R) (fun _ _=>Ap R) (fun _ _=>Nbl R) ?_
  clear hx3 h
  rintro ⟨n3,s3⟩ h
  obtain ⟨n3,y3,rfl,h,hk3⟩:=Ff h
  unfold Es at h
  refine csr (sv R (Bw R R) (Ai (Br (ccI h R (fun h=>?_) (fun h=>?_)))))
  ·refine Bj (Ab (Br (Bu (Br (As ?_)))))
   obtain ⟨u4,hu4,h⟩:=Ae h
   refine sv R (Cb (f:=Ba) Ab9 (fun _=>R) R R R R hu4) ?_
   refine sv R (B3 (ys:=[.sl u4.Key.length (u4.Key.flatMap eU8),.sl u4.Val.length (u4.Val.flatMap eU8),.b u4.Del]) Aea R (.cp _) R R) (Bq R Ai2 (sst Ajm R R R R R (Ai (Br (Br (Hp (Unit) (fun b5=>[(3,.s (.one (.ls 0 s3.2.length))),(5,.s (.one (.lp 1 0))),(6,.s (.one (.sl a0.length (a0.flatMap Ba)))),(7,.s (.one (Ii6 (a0.length:Int)))),(8,.s (.one (Ii6 s3.1)))]) (fun b5=>[.arr 56 1 0 (s3.2.flatMap (eL eU8)),.box (EL.el u4)]) (fun b5=>Db s3 u4 b5=some y3) (fun _ _=>A5 R) (fun _ _=>Ap R) (fun _ _=>Nbl R) (fun b5 h=>?_) ?_))))))
   ·unfold Db at h
    refine As (rm 1 R (sv R (Ac Sa R) (sv R (Ak Nr R (.lp _ _ _ R) R) ?_)))
    refine Gk R Tryz.underlying25 Ahl R R (List.all_eq_true.1 R) (by decide) ?_
    refine P4 [.arr 56 1 0 (s3.2.flatMap (eL eU8)),.box (EL.el u4),.arr 56 1 0 ([u4.Key].flatMap (eL eU8))] R ?_
    obtain ⟨hb6,h⟩:=Cy h
    refine Wb (f:=(eL eU8)) (xs:=s3.2) (us:=[u4.Key]) R Tryz.underlying25 Ahl Asa (fun _=>R) R R (.one _ _ _ _ (.ls _ _ _ _ _ _ R (A1 (f:=(eL eU8)) (fun _=>R) [u4.Key]).symm)) R R R (.sl _ _ _ (A1 (f:=(eL eU8)) (fun _=>R) _)) R R hb6 (by decide) ?_
    refine rm 1 R (Ks (Ar (Ab (As (sv R (Bs R R) (rm 1 R (Ai ?_)))))))
    obtain rfl:=SJ h
    exact ⟨(n3,((wI (s3.1+1)),(s3.2++[u4.Key]))),_,hk3,⟨R,R,R,R,trivial⟩,R,Nat.lt_succ_self _⟩
   ·skip
    refine As (fl Za Nr R R R R R R (sv R (Ax X9 R) (sv R (C7 R R) (rm 1 R (ssI 16 h R (fun h=>?_) (fun h=>?_))))))
    ·refine rm 3 R (Cl R R R (Cl R R R (Cl R R R (Cl R R R (rm 2 R (Ai (Cp R (fun _=>?_) (fun hx=>Bool.noConfusion hx))))))))
     refine csr (rm 1 R (Ai (Bv (Ag (Ay (Ag (Ag (Ay (Ag ?_)))))))))
     obtain rfl:=SJ h
     obtain rfl:Sum.inl _=x3:=hk3
     replace ho3:some _=some _:=ho3
     obtain rfl:=Option.some.inj ho3
     exact dnT R R R R
    ·refine son R R R (sv R (Ac Adq R) (son R R R (sv R (Ak ti4 R (.lp _ _ _ R) R) (rm 1 R (ssI 19 h R (fun h=>?_) (fun h=>?_))))))
     ·refine son R R R (sv R (Ac Za R) (son R R R (sv R (Ak Nr R (.lp _ _ _ R) R) (son R R R (sv R (Ax X9 R) (son R R R (sv R (C7 R R) (rm 2 R (Ai (ccI h R (fun h=>?_) (fun h=>?_)))))))))))
      ·refine csr (rm 1 R (Ai (Bv (Ag (Ay (Ag (Ag (Ay (Ag ?_)))))))))
       obtain rfl:=SJ h
       obtain rfl:Sum.inl _=x3:=hk3
       replace ho3:some _=some _:=ho3
       obtain rfl:=Option.some.inj ho3
       exact dnT R R R R
      ·refine Bj (Ab ?_)
       exact ⟨(),_,h,⟨R,R,R,R,R,trivial⟩,R⟩
     ·refine rm 6 R (Ai (Cp R (fun hx=>Bool.noConfusion hx) (fun _=>?_)))
      refine Bj (Ab ?_)
      exact ⟨(),_,h,⟨R,R,R,R,R,trivial⟩,R⟩
  ·refine Di (Au (Au (Bn (Ab ?_))))
   obtain rfl:=SJ h
   obtain rfl:_=x3:=hk3
   exact ⟨s3.2,_,ho3,⟨R,trivial⟩,R⟩
def H9 (a0:List (List UInt8)):Option (List (List UInt8)) :=
 if (([]:List (List UInt8)).length+a0.length)*24≤140737488355328 then (some (([]:List (List UInt8))++a0)) else none
theorem Pu {a0:List (List UInt8)} {r:(List (List UInt8))} (h:H9 a0=some r):De Tryz.prog 214 [] [.one (.sl a0.length (a0.flatMap (eL eU8)))] (fun y m'=>y=.s (.one (.ls 0 r.length))∧m'=[.arr 56 1 0 (r.flatMap (eL eU8))]):=by
 unfold H9 at h
 refine Da Tryz.func214 R (nt:=8) R (Nbl R) ?_
 intro w0 S0 X0 H0
 refine csr (rm 1 R (Ai (Br (csr (rm 1 R (Afw R Tryz.underlying25 R (fun nq hnq=>?_)))))))
 cases nq
 ·skip
  refine Ai (Cp R (fun hx=>Bool.noConfusion hx) (fun _=>?_))
  refine Bj (Ab (csr (U5 R Tryz.underlying25 Ahl (sv R (Bc R) ?_))))
  obtain ⟨hb1,h⟩:=Cy h
  refine Wb (f:=(eL eU8)) (xs:=([]:List (List UInt8))) (us:=a0) R Tryz.underlying25 Ahl Asa (fun _=>R) R R (.one _ _ _ _ (.id _ R)) R R R (.sl _ _ _ (A1 (f:=(eL eU8)) (fun _=>R) _)) R R hb1 (by decide) ?_
  refine rm 1 R (Ai (Bv ?_))
  obtain rfl:=SJ h
  exact ⟨Or.inr R,_,[0],[.one (.ls 0 (([]:List (List UInt8))++a0).length)],[.arr 56 1 0 ((([]:List (List UInt8))++a0).flatMap (eL eU8))],(Ad (rt R) Ah),R,R,⟨by decide,R⟩,R,R,⟨R,R⟩⟩
 ·obtain rfl:=List.eq_nil_of_length_eq_zero (hnq rfl)
  replace h:(some ([]:List (List UInt8)))=some r:=by first | exact h | (rw [if_pos (by decide)] at h;exact h)
  refine Ai (Cp R (fun _=>?_) (fun hx=>Bool.noConfusion hx))
  refine csr (rm 1 R (Ai ?_))
  refine D1 56 1 2 (by decide) R ?_
  refine Bv (Ag ?_)
  obtain rfl:=SJ h
  exact ⟨Or.inr R,_,[0],[.one (.ls 0 ([]:List (List UInt8)).length)],[.arr 56 1 0 (([]:List (List UInt8)).flatMap (eL eU8))],(Ad (rt R) Ah),R,R,⟨by decide,R⟩,R,R,⟨R,R⟩⟩
def Il (a0:List An):Option (List An) :=
 if (([]:List An).length+a0.length)*24≤140737488355328 then (some (([]:List An)++a0)) else none
theorem Pz {a0:List An} {r:(List An)} (h:Il a0=some r):De Tryz.prog 215 [] [.one (.sl a0.length (a0.flatMap Aw))] (fun y m'=>y=.s (.one (.ls 0 r.length))∧m'=[.arr 134 1 0 (r.flatMap Aw)]):=by
 unfold Il at h
 refine Da Tryz.func215 R (nt:=8) R (Nbl R) ?_
 intro w0 S0 X0 H0
 refine csr (rm 1 R (Ai (Br (csr (rm 1 R (Afw R Tryz.underlying26 R (fun nq hnq=>?_)))))))
 cases nq
 ·skip
  refine Ai (Cp R (fun hx=>Bool.noConfusion hx) (fun _=>?_))
  refine Bj (Ab (csr (U5 R Tryz.underlying26 Alm (sv R (Bc R) ?_))))
  obtain ⟨hb1,h⟩:=Cy h
  refine Wb (f:=Aw) (xs:=([]:List An)) (us:=a0) R Tryz.underlying26 Alm Axt (fun _=>R) R R (.one _ _ _ _ (.id _ R)) R R R (.sl _ _ _ (A1 (f:=Aw) (fun _=>R) _)) R R hb1 (by decide) ?_
  refine rm 1 R (Ai (Bv ?_))
  obtain rfl:=SJ h
  exact ⟨Or.inr R,_,[0],[.one (.ls 0 (([]:List An)++a0).length)],[.arr 134 1 0 ((([]:List An)++a0).flatMap Aw)],(Ad (rt R) Ah),R,R,⟨by decide,R⟩,R,R,⟨R,R⟩⟩
 ·obtain rfl:=List.eq_nil_of_length_eq_zero (hnq rfl)
  replace h:(some ([]:List An))=some r:=by first | exact h | (rw [if_pos (by decide)] at h;exact h)
  refine Ai (Cp R (fun _=>?_) (fun hx=>Bool.noConfusion hx))
  refine csr (rm 1 R (Ai ?_))
  refine D1 134 1 2 (by decide) R ?_
  refine Bv (Ag ?_)
  obtain rfl:=SJ h
  exact ⟨Or.inr R,_,[0],[.one (.ls 0 ([]:List An).length)],[.arr 134 1 0 (([]:List An).flatMap Aw)],(Ad (rt R) Ah),R,R,⟨by decide,R⟩,R,R,⟨R,R⟩⟩
def Fg (b1:Unit):Option Int :=
 some (-1)
def Dr (a0:List (List UInt8)) (a1:List UInt8) (s2:Int):Option (LR (Int) (Unit) (Int)) :=
 if (decide (s2<(a0.length:Int))) then ((idx a0 s2).bind fun u3=>(Cs a1 u3).bind fun v4=>if v4 then (some (.ret s2)) else (some (.cont (wI (s2+1))))) else (some (.brk ()))
end Go.Proofs.YtkblaobhhoebaaaGreat.Abs
