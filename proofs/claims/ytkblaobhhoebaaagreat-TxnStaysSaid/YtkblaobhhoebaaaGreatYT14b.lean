/-
 t
-/
import Derived.Test.YtkblaobhhoebaaaGreatYT14a
set_option linter.unusedVariables false
set_option linter.unusedSimpArgs false
namespace Go.Proofs.YtkblaobhhoebaaaGreat.Abs
open Go.RowKit Go.Proofs
set_option maxRecDepth 100000
def Ja (a0:List (List A1)):Option (List A1) :=
 (Cw (Er a0) fuel (0,0)).bind fun e10=>I7 a0 e10
theorem Ur {a0:List (List A1)} {r:(List A1)} (h:Ja a0=some r):Br Tryz.prog 133 [.one (.sl a0.length (a0.flatMap (eL Bb)))] (·=.s (.one (.sl r.length (r.flatMap Bb)))):=by
 unfold Ja at h
 refine A2 Tryz.func133 R (nt:=36) R (Nbl R) ?_
 intro w0 S0
 refine csr (rm 1 R (Ak (csr (rm 1 R (Ak (Bn (csr (rm 1 R (sv R (Au Aqe R) (rm 1 R (Ak (cj (Int) (fun b1=>[(0,.s (.one (.sl a0.length (a0.flatMap (eL Bb))))),(3,.s (.one (Ii6 b1)))]) (fun b1=>[]) (fun b1=>I7 a0 b1=some r) (fun _=>R) (fun b1 h=>?_) ?_))))))))))))
 ·unfold I7 at h
  refine csr (sv R (A4 R) ?_)
  obtain ⟨v2,hv2,h⟩:=Ae h
  refine H7 (x':=.s (.one (.ls 0 v2.length))) (M':=[.arr 139 8 0 (v2.flatMap Bb)]) [] R Axl (.func _) (Aa R (Aa R Af)) (Vu hv2) R R (by decide) R R R ?_
  refine rm 1 R (Ak (Bn (csr (rm 1 R (sv R (Au Aqe R) (rm 1 R (Ak (cj ((List A1)) (fun b3=>[(6,.s (.one (.ls 0 b3.length)))]) (fun b3=>[.arr 139 8 0 (b3.flatMap Bb)]) (fun b3=>Mb b3=some r) (fun _=>R) (fun b3 h=>?_) ?_))))))))
  ·unfold Mb at h
   refine csr (rm 2 R (Ak (Bs ?_)))
   obtain rfl:=SJ h
   refine ⟨Or.inr R,_,_,_,(Ad (rt R) Aj),(by (repeat' first | exact H6.nil _ | apply H6.cons | apply Hy.one | apply Hy.agg | exact C7.nil | exact C7.ls _ _ _ _ _ _ R (Aw (f:=Bb) (fun _=>R) _).symm | exact C7.id _ R | exact Cs.nil _ | apply Cs.cons)),?_⟩
   rfl
  ·skip
   refine Bq ?_
   obtain ⟨x4,hx4,ho4⟩:=Ae h
   refine lpo (G:=Nat × (Int × (List A1))) (fun g=>[(6,.s (.one (.ls 0 g.2.2.length))),(25,.s (.one (.sl a0.length (a0.flatMap (eL Bb))))),(26,.s (.one (Ii6 (a0.length:Int)))),(27,.s (.one (Ii6 g.2.1)))]) (fun g=>[.arr 139 8 0 (g.2.2.flatMap Bb)]) (fun g=>Cw (Ek a0) g.1 g.2=some x4) (fun g=>g.1) (fuel,(0,v2)) hx4 ⟨R,R,R,R,trivial⟩ [] R (fun _=>R) ?_
   clear hx4 h
   rintro ⟨n4,s4⟩ h
   obtain ⟨n4,y4,rfl,h,hk4⟩:=Cy h
   unfold Ek at h
   refine csr (sv R (Bt R R) (Ak (Bn (ccI h R (fun h=>?_) (fun h=>?_)))))
   ·refine Bf (Ab (Bn (Bq (Bn (Ap ?_)))))
    obtain ⟨u5,hu5,h⟩:=Ae h
    refine sv R (Cb (f:=(eL Bb)) Aqe (fun _=>R) R R R R hu5) ?_
    refine sv R (B6 Aaj R (.cp _) R) (rm 1 R (Ak (Ap (rm 1 R (sv R (A4 R) ?_)))))
    obtain ⟨hb6,h⟩:=Cr h
    refine Ub (f:=Bb) (xs:=s4.2) (us:=u5) R Tryz.underlying29 Ahh Azk (fun _=>R) R R (.one _ _ _ _ (.id _ R)) R R R (.sl _ _ _ (Aw (f:=Bb) (fun _=>R) _)) R R hb6 (by decide) ?_
    refine rm 1 R (Ki (Ao (Ab (Ap (sv R (Bm R R) (rm 1 R (Ak ?_)))))))
    obtain rfl:=SJ h
    exact ⟨(n4,((wI (s4.1+1)),(s4.2++u5))),_,hk4,⟨R,R,R,R,trivial⟩,R,zH _⟩
   ·refine Dd (Ar (Ar (Bj (Ab ?_))))
    obtain rfl:=SJ h
    obtain rfl:_=x4:=hk4
    exact ⟨s4.2,_,ho4,⟨R,trivial⟩,R⟩
 ·skip
  refine Bq ?_
  obtain ⟨x8,hx8,ho8⟩:=Ae h
  refine lpo (G:=Nat × (Int × Int)) (fun g=>[(0,.s (.one (.sl a0.length (a0.flatMap (eL Bb))))),(3,.s (.one (Ii6 g.2.1))),(9,.s (.one (.sl a0.length (a0.flatMap (eL Bb))))),(10,.s (.one (Ii6 (a0.length:Int)))),(11,.s (.one (Ii6 g.2.2)))]) (fun g=>[]) (fun g=>Cw (Er a0) g.1 g.2=some x8) (fun g=>g.1) (fuel,(0,0)) hx8 ⟨R,R,R,R,R,trivial⟩ [] R (fun _=>R) ?_
  clear hx8 h
  rintro ⟨n8,s8⟩ h
  obtain ⟨n8,y8,rfl,h,hk8⟩:=Cy h
  unfold Er at h
  refine csr (sv R (Bt R R) (Ak (Bn (ccI h R (fun h=>?_) (fun h=>?_)))))
  ·refine Bf (Ab (Bn (Bq (Bn (Ap ?_)))))
   obtain ⟨u9,hu9,h⟩:=Ae h
   refine sv R (Cb (f:=(eL Bb)) Aqe (fun _=>R) R R R R hu9) ?_
   refine sv R (B6 Aaj R (.cp _) R) (rm 1 R (Ak (csr (rm 2 R (sv R (Au Qd R) (sv R (Bm R R) (rm 1 R (Ak (csr (rm 1 R (sv R (Bt R R) (Ak (ccI h R (fun h=>?_) (fun h=>?_))))))))))))))
   ·cases h
   ·refine Bf (Ao (Ab (Ap (sv R (Bm R R) (rm 1 R (Ak ?_))))))
    obtain rfl:=SJ h
    exact ⟨(n8,((wI (s8.1+(u9.length:Int))),(wI (s8.2+1)))),_,hk8,⟨R,R,R,R,R,trivial⟩,R,zH _⟩
  ·refine Dd (Ar (Ar (Bj (Ab ?_))))
   obtain rfl:=SJ h
   obtain rfl:_=x8:=hk8
   exact ⟨s8.1,_,ho8,⟨R,R,trivial⟩,R⟩
def Ip (a0:Be) (a1:Int) (a2:Int) (a3:Bool):Option (Be × Int) :=
 (Kw a0).bind fun v1=>if (!v1) then (some (Jf,1)) else ((Kf (A1.mk a1 a2 0 1 false false a3 ([]:List (List UInt8)))).bind fun v2=>if (!v2) then (some (Jf,1)) else ((G8 a0 a1).bind fun v3=>if (decide (0≤v3)) then (some (Jf,7)) else (if (decide (64≤(a0.Txs.length:Int))) then (some (Jf,8)) else ((Ja ([a0.Txs,([(A1.mk a1 a2 0 1 false false a3 ([]:List (List UInt8)))]:List A1)]:List (List A1))).bind fun v4=>some ((Be.mk v4 a0.Reads),0)))))
theorem Zy {a0:Be} {a1:Int} {a2:Int} {a3:Bool} {r:Be × Int} (h:Ip a0 a1 a2 a3=some r):Br Tryz.prog 59 [.agg (EL.el a0),.one (Ii6 a1),.one (Ii6 a2),.one (.b a3)] (·=.tup [.agg (EL.el r.1),.one (Ii6 r.2)]):=by
 unfold Ip at h
 refine A2 Tryz.func59 R (nt:=46) R (Nbl R) ?_
 intro w0 S0
 refine csr (F2 R R (Bo R Wy (rm 1 R (Ak (csr (rm 3 R (sv R (A3 S8 Awc (Av R (Av R (Av R (Av R Ay)))) (.cons _ _ _ _ _ _ _ R R (Nbl R) (.cons _ _ _ _ _ _ _ R R (Nbl R) (.cons _ _ _ _ _ _ _ R R (Nbl R) (.cons _ _ _ _ _ _ _ R R (Nbl R) (.nil _)))))) (Bo R S8 (sst Si R R R R R (Ak (Bn (Bq (csr (sv R (lo Qq R R R) ?_))))))))))))))
 obtain ⟨v1,hv1,h⟩:=Ae h
 refine A8 R Awz (Aa R Af) (An R) (Pg hv1) (sv R (B1 R) (rm 1 R (ssI 19 h R (fun h=>?_) (fun h=>?_))))
 ·refine rm 5 R (Ak (Ck R (fun _=>?_) (fun hx=>Bool.noConfusion hx)))
  refine csr (sv R (A3 Wy Ac2 Ay (.nil _)) (sst Xw R R R R R (rm 1 R (Ak (Bs (A0 (Ag ?_)))))))
  obtain rfl:=SJ h
  exact dn (Ad (ra Qq R R R) (Ad (rt R) Aj)) (I8 R) R
 ·refine son R R R (ld Jr R R R R (son R R R ?_))
  obtain ⟨v2,hv2,h⟩:=Ae h
  refine A8 R Av1 (Aa R Af) (I8 R) (Rp hv2) (son R R R (sv R (B1 R) (rm 2 R (Ak (ccI h R (fun h=>?_) (fun h=>?_))))))
  ·refine csr (sv R (A3 Wy Ac2 Ay (.nil _)) (sst Xw R R R R R (rm 1 R (Ak (Bs (A0 (Ag ?_)))))))
   obtain rfl:=SJ h
   exact dn (Ad (ra Qq R R R) (Ad (rt R) Aj)) (I8 R) R
  ·refine csr (ld Qq R R R R (sv R (A4 R) ?_))
   obtain ⟨v3,hv3,h⟩:=Ae h
   refine A8 R Atd (Aa R (Aa R Af)) (An R) (P0 hv3) (sv R (Hn R R) (rm 1 R (Ak (ccI h R (fun h=>?_) (fun h=>?_)))))
   ·refine csr (sv R (A3 Wy Ac2 Ay (.nil _)) (sst Xw R R R R R (rm 1 R (Ak (Bs (A0 (Ag ?_)))))))
    obtain rfl:=SJ h
    exact dn (Ad (ra Qq R R R) (Ad (rt R) Aj)) (I8 R) R
   ·refine csr (fl N0 Aaj R R R R R R (sv R (Au Qd R) (sv R (Hn R R) (rm 1 R (Ak (ccI h R (fun h=>?_) (fun h=>?_)))))))
    ·refine csr (sv R (A3 Wy Ac2 Ay (.nil _)) (sst Xw R R R R R (rm 1 R (Ak (Bs (A0 (Ag ?_)))))))
     obtain rfl:=SJ h
     exact dn (Ad (ra Qq R R R) (Ad (rt R) Aj)) (I8 R) R
    ·refine Bf (Ao (Ab (Bn ?_)))
     obtain ⟨v4,hv4,h⟩:=Ae h
     refine Ku [9] [0,1,0,4,15,31,0,64,255,511,1023] [[.box (EL.el a0),.box [Znl,Znl],.box [Ii6 a1,Ii6 a2,Ii6 0,Ii6 1,.b false,.b false,.b a3,Znl]],[.box (EL.el a0),.box (EL.el (Be.mk v4 a0.Reads)),.box [Ii6 a1,Ii6 a2,Ii6 0,Ii6 1,.b false,.b false,.b a3,Znl]]] (by kernel_rfl) mixed (by kernel_rfl) (by decide) R R R R ?_
     refine ev (A9 0 R R) R R (Ac N0 R) (ev (A9 0 R R) R R (l1 Aaj R R R) (ev (A9 0 R R) R R (lo Jr R R R) ?_))
     refine ed (A9 0 R R) R R (Ain (out':=([(A1.mk a1 a2 0 1 false false a3 ([]:List (List UInt8)))]:List A1).flatMap Bb) Tryz.underlying29 Ahh (Av R Ay) (.cons _ _ _ _ _ _ _ R R (Nbl R) (.nil _)) R (by decide) R) ?_
     refine ed (A9 0 R R) R R (Zl (out:=([a0.Txs,([(A1.mk a1 a2 0 1 false false a3 ([]:List (List UInt8)))]:List A1)]:List (List A1)).flatMap (eL Bb)) Tryz.underlying312 A00 (Av R (Av R Ay)) (.cons _ _ _ _ _ _ _ R R (Nbl R) (.cons _ _ _ _ _ _ _ R R (Nbl R) (.nil _))) R (by decide)) ?_
     refine ed (A9 0 R R) R R (Db Azl (Aa R Af) R (Ur hv4)) (ev (A9 0 R R) R R (Ac X6 R) (ev (A9 0 R R) R R (lo Ab5 R R R) (ev (A9 0 R R) R R (A3 Wy Ac2 (Av R (Av R Ay)) (.cons _ _ _ _ _ _ _ R R (Nbl R) (.cons _ _ _ _ _ _ _ R R (Nbl R) (.nil _)))) (ee0 0 R R R R (fun ζ=>?_) ?_))))
     ·refine sst Xw R R R R R (Pq [.box (EL.el a0),.box (EL.el (Be.mk v4 a0.Reads)),.box [Ii6 a1,Ii6 a2,Ii6 0,Ii6 1,.b false,.b false,.b a3,Znl]] R ?_)
      exact Rk
     refine ev (A9 1 R R) R R (Lh R) (Abf (Ab (Bs ?_)))
     obtain rfl:=SJ h
     exact dn (Ad (ra Qq R R R) (Ad (rt R) Aj)) (An R) R
def J2 (a0:Int) (b1:Unit):Option (List Bc) :=
 if (decide (0<(wI (a0-(wI (0-0)))))) then (if 0<(wI (a0-(wI (0-0))))∧(wI (a0-(wI (0-0))))*((64:Nat):Int)≤281474976710656 then (if (0:Int)≤0∧0≤((List.replicate (wI (a0-(wI (0-0)))).toNat Ps).length:Int) then (some ((List.replicate (wI (a0-(wI (0-0)))).toNat Ps).take (0:Int).toNat)) else none) else none) else (some ([]:List Bc))
def Kr (a0:Int):Option (List Bc) :=
 if (decide (a0<0)) then none else (J2 a0 ())
theorem Vm {a0:Int} {r:(List Bc)} (h:Kr a0=some r):Dn Tryz.prog 134 [] [.one (Znl),.one (Ii6 a0)] (fun y m'=>y=.s (.one (.ls 0 r.length))∧m'=[.arr 88 6 0 (r.flatMap Bl)]):=by
 unfold Kr at h
 refine Dk Tryz.func134 R (nt:=27) R (Nbl R) ?_
 intro w0 S0 X0 H0
 refine csr (rm 1 R (Ak (Bn (csr (rm 1 R (sv R (Bt R R) (Ak (cj (Unit) (fun b1=>[(0,.s (.one (Znl))),(1,.s (.one (Ii6 a0)))]) (fun b1=>[]) (fun b1=>J2 a0 b1=some r) (fun _=>R) (fun b1 h=>?_) ?_))))))))
 ·unfold J2 at h
  refine Bn (csr (rm 2 R (sv R (Gs Y4 R) (rm 1 R (sv R (Fu Y4 R) (sv R (Nt R R) (sv R (Nt R R) (rm 1 R (Ak (csr (rm 1 R (sv R (C9 R R) (Ak (ccI h R (fun h=>?_) (fun h=>?_)))))))))))))))
  ·refine Ap (rm 2 R (sv R (Gs Y4 R) (sv R (M0 Y4 R R) (sv R (A4 R) ?_))))
   obtain ⟨hm2,h⟩:=Cr h
   refine Ai1 (f:=Bl) (z:=Ps) R Tryz.underlying38 As3 Tryz.underlying3 (fun _=>R) R R R hm2 (by decide) ?_
   refine rm 1 R (sv R (Fu Y4 R) ?_)
   obtain ⟨hs3,h⟩:=Cr h
   refine Aa4 (f:=Bl) R Y4 (fun _=>R) R R R R R hs3 ?_
   refine rm 1 R (Ak (csr (rm 2 R (Ak (Bs ?_)))))
   obtain rfl:=SJ h
   exact ⟨Or.inr R,_,[1],[.one (.ls 0 ((List.replicate (wI (a0-(wI (0-0)))).toNat Ps).take (0:Int).toNat).length)],[.arr 88 6 0 (((List.replicate (wI (a0-(wI (0-0)))).toNat Ps).take (0:Int).toNat).flatMap Bl)],(Ad (rt R) Aj),R,R,⟨by decide,R⟩,R,R,⟨R,R⟩⟩
  ·refine Bf (Ab (csr (rm 2 R (Ak ?_))))
   refine Dh 88 6 4 (by decide) R ?_
   refine Bs ?_
   obtain rfl:=SJ h
   exact ⟨Or.inr R,_,[0],[.one (.ls 0 ([]:List Bc).length)],[.arr 88 6 0 (([]:List Bc).flatMap Bl)],(Ad (rt R) Aj),R,R,⟨by decide,R⟩,R,R,⟨R,R⟩⟩
 ·skip
  refine ccI h R (fun h=>?_) (fun h=>?_)
  ·cases h
  ·refine Bf (Ab ?_)
   exact ⟨(),_,h,⟨R,R,trivial⟩,R⟩
def Ng (b3:(List Bc)):Option (List Bc) :=
 some b3
def Fb (a0:List (List Bc)) (s4:Int × (List Bc)):Option (LB (Int × (List Bc)) ((List Bc))) :=
 if (decide (s4.1<(a0.length:Int))) then ((idx a0 s4.1).bind fun u5=>if (s4.2.length+u5.length)*64≤140737488355328 then (some (.cont ((wI (s4.1+1)),(s4.2++u5)))) else none) else (some (.brk s4.2))
def Jw (a0:List (List Bc)) (b1:Int):Option (List Bc) :=
 (Kr b1).bind fun v2=>(Cw (Fb a0) fuel (0,v2)).bind fun e7=>Ng e7
def E5 (a0:List (List Bc)) (s8:Int × Int):Option (LB (Int × Int) (Int)) :=
 if (decide (s8.2<(a0.length:Int))) then ((idx a0 s8.2).bind fun u9=>if (decide ((wI (s8.1+(u9.length:Int)))<0)) then none else (some (.cont ((wI (s8.1+(u9.length:Int))),(wI (s8.2+1)))))) else (some (.brk s8.1))
def J9 (a0:List (List Bc)):Option (List Bc) :=
 (Cw (E5 a0) fuel (0,0)).bind fun e10=>Jw a0 e10
theorem V8 {a0:List (List Bc)} {r:(List Bc)} (h:J9 a0=some r):Br Tryz.prog 60 [.one (.sl a0.length (a0.flatMap (eL Bl)))] (·=.s (.one (.sl r.length (r.flatMap Bl)))):=by
 unfold J9 at h
 refine A2 Tryz.func60 R (nt:=36) R (Nbl R) ?_
 intro w0 S0
 refine csr (rm 1 R (Ak (csr (rm 1 R (Ak (Bn (csr (rm 1 R (sv R (Au Aow R) (rm 1 R (Ak (cj (Int) (fun b1=>[(0,.s (.one (.sl a0.length (a0.flatMap (eL Bl))))),(3,.s (.one (Ii6 b1)))]) (fun b1=>[]) (fun b1=>Jw a0 b1=some r) (fun _=>R) (fun b1 h=>?_) ?_))))))))))))
 ·unfold Jw at h
  refine csr (sv R (A4 R) ?_)
  obtain ⟨v2,hv2,h⟩:=Ae h
  refine H7 (x':=.s (.one (.ls 0 v2.length))) (M':=[.arr 88 6 0 (v2.flatMap Bl)]) [] R Axg (.func _) (Aa R (Aa R Af)) (Vm hv2) R R (by decide) R R R ?_
  refine rm 1 R (Ak (Bn (csr (rm 1 R (sv R (Au Aow R) (rm 1 R (Ak (cj ((List Bc)) (fun b3=>[(6,.s (.one (.ls 0 b3.length)))]) (fun b3=>[.arr 88 6 0 (b3.flatMap Bl)]) (fun b3=>Ng b3=some r) (fun _=>R) (fun b3 h=>?_) ?_))))))))
  ·unfold Ng at h
   refine csr (rm 2 R (Ak (Bs ?_)))
   obtain rfl:=SJ h
   refine ⟨Or.inr R,_,_,_,(Ad (rt R) Aj),(by (repeat' first | exact H6.nil _ | apply H6.cons | apply Hy.one | apply Hy.agg | exact C7.nil | exact C7.ls _ _ _ _ _ _ R (Aw (f:=Bl) (fun _=>R) _).symm | exact C7.id _ R | exact Cs.nil _ | apply Cs.cons)),?_⟩
   rfl
  ·skip
   refine Bq ?_
   obtain ⟨x4,hx4,ho4⟩:=Ae h
   refine lpo (G:=Nat × (Int × (List Bc))) (fun g=>[(6,.s (.one (.ls 0 g.2.2.length))),(25,.s (.one (.sl a0.length (a0.flatMap (eL Bl))))),(26,.s (.one (Ii6 (a0.length:Int)))),(27,.s (.one (Ii6 g.2.1)))]) (fun g=>[.arr 88 6 0 (g.2.2.flatMap Bl)]) (fun g=>Cw (Fb a0) g.1 g.2=some x4) (fun g=>g.1) (fuel,(0,v2)) hx4 ⟨R,R,R,R,trivial⟩ [] R (fun _=>R) ?_
   clear hx4 h
   rintro ⟨n4,s4⟩ h
   obtain ⟨n4,y4,rfl,h,hk4⟩:=Cy h
   unfold Fb at h
   refine csr (sv R (Bt R R) (Ak (Bn (ccI h R (fun h=>?_) (fun h=>?_)))))
   ·refine Bf (Ab (Bn (Bq (Bn (Ap ?_)))))
    obtain ⟨u5,hu5,h⟩:=Ae h
    refine sv R (Cb (f:=(eL Bl)) Aow (fun _=>R) R R R R hu5) ?_
    refine sv R (B6 Ail R (.cp _) R) (rm 1 R (Ak (Ap (rm 1 R (sv R (A4 R) ?_)))))
    obtain ⟨hb6,h⟩:=Cr h
    refine Ub (f:=Bl) (xs:=s4.2) (us:=u5) R Tryz.underlying38 As3 Azh (fun _=>R) R R (.one _ _ _ _ (.id _ R)) R R R (.sl _ _ _ (Aw (f:=Bl) (fun _=>R) _)) R R hb6 (by decide) ?_
    refine rm 1 R (Ki (Ao (Ab (Ap (sv R (Bm R R) (rm 1 R (Ak ?_)))))))
    obtain rfl:=SJ h
    exact ⟨(n4,((wI (s4.1+1)),(s4.2++u5))),_,hk4,⟨R,R,R,R,trivial⟩,R,zH _⟩
   ·refine Dd (Ar (Ar (Bj (Ab ?_))))
    obtain rfl:=SJ h
    obtain rfl:_=x4:=hk4
    exact ⟨s4.2,_,ho4,⟨R,trivial⟩,R⟩
 ·skip
  refine Bq ?_
  obtain ⟨x8,hx8,ho8⟩:=Ae h
  refine lpo (G:=Nat × (Int × Int)) (fun g=>[(0,.s (.one (.sl a0.length (a0.flatMap (eL Bl))))),(3,.s (.one (Ii6 g.2.1))),(9,.s (.one (.sl a0.length (a0.flatMap (eL Bl))))),(10,.s (.one (Ii6 (a0.length:Int)))),(11,.s (.one (Ii6 g.2.2)))]) (fun g=>[]) (fun g=>Cw (E5 a0) g.1 g.2=some x8) (fun g=>g.1) (fuel,(0,0)) hx8 ⟨R,R,R,R,R,trivial⟩ [] R (fun _=>R) ?_
  clear hx8 h
  rintro ⟨n8,s8⟩ h
  obtain ⟨n8,y8,rfl,h,hk8⟩:=Cy h
  unfold E5 at h
  refine csr (sv R (Bt R R) (Ak (Bn (ccI h R (fun h=>?_) (fun h=>?_)))))
  ·refine Bf (Ab (Bn (Bq (Bn (Ap ?_)))))
   obtain ⟨u9,hu9,h⟩:=Ae h
   refine sv R (Cb (f:=(eL Bl)) Aow (fun _=>R) R R R R hu9) ?_
   refine sv R (B6 Ail R (.cp _) R) (rm 1 R (Ak (csr (rm 2 R (sv R (Au Y4 R) (sv R (Bm R R) (rm 1 R (Ak (csr (rm 1 R (sv R (Bt R R) (Ak (ccI h R (fun h=>?_) (fun h=>?_))))))))))))))
   ·cases h
   ·refine Bf (Ao (Ab (Ap (sv R (Bm R R) (rm 1 R (Ak ?_))))))
    obtain rfl:=SJ h
    exact ⟨(n8,((wI (s8.1+(u9.length:Int))),(wI (s8.2+1)))),_,hk8,⟨R,R,R,R,R,trivial⟩,R,zH _⟩
  ·refine Dd (Ar (Ar (Bj (Ab ?_))))
   obtain rfl:=SJ h
   obtain rfl:_=x8:=hk8
   exact ⟨s8.1,_,ho8,⟨R,R,trivial⟩,R⟩
def Fe (a1:Int) (a2:Int) (a3:Bool) (b3:Ah):Option (Ah × Int × Int) :=
 if (decide (1099511627776≤b3.Next)) then (some (b3,0,11)) else (if (decide (16≤(b3.Open.length:Int))) then (some (b3,0,8)) else ((Ih b3.Toks a1 a2).bind fun v4=>if (!decide (v4.2=0)) then (some (b3,0,v4.2)) else ((Ip b3.Cert b3.Next b3.Store.Ts a3).bind fun v5=>if (!decide (v5.2=0)) then (some (b3,0,v5.2)) else ((J9 ([b3.Open,([(Bc.mk b3.Next a1 a2 b3.Store.Ts a3 (B3.mk ([]:List A6)))]:List Bc)]:List (List Bc))).bind fun v6=>some ((Ah.mk b3.Store v5.1 v4.1 v6 (wI (b3.Next+1))),b3.Next,0)))))
def Iu (a0:Ah) (a1:Int) (a2:Int) (a3:Bool):Option (Ah × Int × Int) :=
 (Il a0).bind fun v1=>if (!v1) then (some (E2,0,1)) else ((Kg a0 a1).bind fun v2=>if v2.2 then (if (decide (v2.1.Attempt<a2)) then ((Cx a0 v2.1).bind fun v7=>Fe a1 a2 a3 v7) else (Fe a1 a2 a3 a0)) else (Fe a1 a2 a3 a0))
theorem Ow {a0:Ah} {a1:Int} {a2:Int} {a3:Bool} {r:Ah × Int × Int} (h:Iu a0 a1 a2 a3=some r):Br Tryz.prog 23 [.agg (EL.el a0),.one (Ii6 a1),.one (Ii6 a2),.one (.b a3)] (·=.tup [.agg (EL.el r.1),.one (Ii6 r.2.1),.one (Ii6 r.2.2)]):=by
 unfold Iu at h
 refine A2 Tryz.func23 R (nt:=101) R (Nbl R) ?_
 intro w0 S0
 refine csr (F2 R R (Bo R Qs (rm 2 R (Ak (Bn (csr (sv R (lo De R R R) ?_)))))))
 obtain ⟨v1,hv1,h⟩:=Ae h
 refine A8 R Aub (Aa R Af) (An R) (Nk hv1) (sv R (B1 R) (Ak (ccI h R (fun h=>?_) (fun h=>?_))))
 ·refine csr (sv R (A3 Qs Ak3 Ay (.nil _)) (sst Iq R R R R R (rm 2 R (Ak (Bs (Ag ?_))))))
  obtain rfl:=SJ h
  exact dn (Ad (ra De R R R) (Ad (rt R) (Ad (rt R) Aj))) (I8 R) R
 ·refine Bf (Ab (Bn (csr (ld De R R R R (sv R (A4 R) ?_)))))
  obtain ⟨v2,hv2,h⟩:=Ae h
  refine A8 R Az2 (Aa R (Aa R Af)) (An R) (Sd hv2) (sv R (Cc R) (sv R (Ai R R) (sv R (Ai R R) (Bo R Aag (sst Aah R R R R R (rm 1 R (Ak (Bn (cj3 (Ah) (fun b3=>[(1,.s (.one (Ii6 a1))),(2,.s (.one (Ii6 a2))),(3,.s (.one (.b a3))),(4,.s (.one (.lp 0 0))),(8,.s (.one (.lp 1 0)))]) (fun b3=>[.box (EL.el b3),.box Zba,.box (EL.el v2.1)]) (fun b3=>Fe a1 a2 a3 b3=some r) (fun _=>R) (fun b3 h=>?_) ?_)))))))))
  ·unfold Fe at h
   refine Bn (csr (fl Ti ti3 R R R R R R (sv R (Hn R R) (Ak (ccI h R (fun h=>?_) (fun h=>?_))))))
   ·refine csr (ld De R R R R (sst Iq R R R R R (rm 2 R (Ak (Bs (Ag ?_))))))
    obtain rfl:=SJ h
    exact dn (Ad (ra De R R R) (Ad (rt R) (Ad (rt R) Aj))) (An R) R
   ·refine Bf (Ab (Bn (csr (fl Rc Ail R R R R R R (sv R (Au Y4 R) (sv R (Hn R R) (Ak (ccI h R (fun h=>?_) (fun h=>?_)))))))))
    ·refine csr (ld De R R R R (sst Iq R R R R R (rm 2 R (Ak (Bs (Ag ?_))))))
     obtain rfl:=SJ h
     exact dn (Ad (ra De R R R) (Ad (rt R) (Ad (rt R) Aj))) (An R) R
    ·refine Bf (Ab (csr (sv R (Ac Ty R) (ld Oj R R R R (rm 1 R (sv R (A4 R) ?_))))))
     obtain ⟨v4,hv4,h⟩:=Ae h
     refine A8 R A0d (Aa R (Aa R (Aa R Af))) (An R) (V9 hv4) (sv R (Cc R) (sv R (Ai R R) (sv R (Ai R R) (Bo R V2 (sst S9 R R R R R (rm 1 R (Ak (Bn (csr (rm 1 R (sv R (C6 R R) (Ak (ccI h R (fun h=>?_) (fun h=>?_))))))))))))))
     ·refine csr (ld De R R R R (rm 1 R (sst Iq R R R R R (rm 2 R (Ak (Bs (Ag ?_)))))))
      obtain rfl:=SJ h
      exact dn (Ad (ra De R R R) (Ad (rt R) (Ad (rt R) Aj))) (An R) R
     ·refine Bf (Ab (csr (sv R (Ac Sy R) (ld Qq R R R R (fl Ti ti3 R R R R R R (sv R (Ac Sz R) (fl Ro ti3 R R R R R R (sv R (A4 R) ?_))))))))
      obtain ⟨v5,hv5,h⟩:=Ae h
      refine A8 R A03 (Aa R (Aa R (Aa R (Aa R Af)))) (An R) (Zy hv5) (sv R (Cc R) (sv R (Ai R R) (sv R (Ai R R) (Bo R Wy (sst Xw R R R R R (rm 1 R (Ak (Bn (csr (rm 1 R (sv R (C6 R R) (Ak (ccI h R (fun h=>?_) (fun h=>?_))))))))))))))
      ·refine csr (ld De R R R R (rm 1 R (sst Iq R R R R R (rm 2 R (Ak (Bs (Ag ?_)))))))
       obtain rfl:=SJ h
       exact dn (Ad (ra De R R R) (Ad (rt R) (Ad (rt R) Aj))) (An R) R
      ·refine Bf (Ab (csr (fl Ti ti3 R R R R R R (rm 2 R (sv R (Ac Sz R) (fl Ro ti3 R R R R R R (rm 1 R (sv R (A3 Aag Aw2 (Av R (Av R (Av R (Av R (Av R Ay))))) (Aaz [Ii6 b3.Next,Ii6 0,Ii6 0,Ii6 0,.b false,Znl] R R (Nbl R) R (Aaz [Ii6 b3.Next,Ii6 a1,Ii6 0,Ii6 0,.b false,Znl] R R (Nbl R) R (Aaz [Ii6 b3.Next,Ii6 a1,Ii6 a2,Ii6 0,.b false,Znl] R R (Nbl R) R (Aaz [Ii6 b3.Next,Ii6 a1,Ii6 a2,Ii6 b3.Store.Ts,.b false,Znl] R R (Nbl R) R (Aaz [Ii6 b3.Next,Ii6 a1,Ii6 a2,Ii6 b3.Store.Ts,.b a3,Znl] R R (Nbl R) R (.nil _))))))) (Bo R Aag (sst Aah R R R R R (Ak (Bn (Ym ?_)))))))))))))
       obtain ⟨v6,hv6,h⟩:=Ae h
       refine Ku [14,15] [0,1,0,0,0,16,0,64,240,496,0,1024,3072,8191,0,32767] [[.box (EL.el b3),.box Zba,.box (EL.el v2.1),.box [.sl v4.1.L.length (v4.1.L.flatMap Am)],.box (EL.el v5.1),.box [Ii6 b3.Next,Ii6 a1,Ii6 a2,Ii6 b3.Store.Ts,.b a3,Znl],.hole],[.box (EL.el b3),.box Zba,.box (EL.el v2.1),.box [.sl v4.1.L.length (v4.1.L.flatMap Am)],.box (EL.el v5.1),.box [Ii6 b3.Next,Ii6 a1,Ii6 a2,Ii6 b3.Store.Ts,.b a3,Znl],.box Zba],[.box (EL.el b3),.box Zba,.box (EL.el v2.1),.box [.sl v4.1.L.length (v4.1.L.flatMap Am)],.box (EL.el v5.1),.box [Ii6 b3.Next,Ii6 a1,Ii6 a2,Ii6 b3.Store.Ts,.b a3,Znl],.box [.sl b3.Store.Keys.length (b3.Store.Keys.flatMap (eL eU8)),.sl b3.Store.Chains.length (b3.Store.Chains.flatMap As),Ii6 b3.Store.Ts,.sl v5.1.Txs.length (v5.1.Txs.flatMap Bb),.sl v5.1.Reads.L.length (v5.1.Reads.L.flatMap Aq),.sl v4.1.L.length (v4.1.L.flatMap Am),.sl v6.length (v6.flatMap Bl),Ii6 (wI (b3.Next+1))]]] (by kernel_rfl) mixed (by kernel_rfl) (by decide) R R R R ?_
       refine evs (md:=[.box (EL.el b3),.box Zba,.box (EL.el v2.1),.box [.sl v4.1.L.length (v4.1.L.flatMap Am)],.box (EL.el v5.1),.box [Ii6 b3.Next,Ii6 a1,Ii6 a2,Ii6 b3.Store.Ts,.b a3,Znl],.dead]) (fun hS=>ev (B9 hS) R R (Ac Sz R) (ev (B9 hS) R R (lo Yb R R R) (ev (B9 hS) R R (lo Qq R R R) (ev (B9 hS) R R (lo Oj R R R) (ev (B9 hS) R R (Ac Rc R) (ev (B9 hS) R R (l1 Ail R R R) (ev (B9 hS) R R (lo Wc R R R) ?_))))))) ⟨⟨R,⟨R,⟨R,⟨R,⟨R,⟨R,⟨trivial,trivial⟩⟩⟩⟩⟩⟩⟩,⟨⟨R,⟨R,⟨R,⟨R,⟨R,⟨R,⟨trivial,trivial⟩⟩⟩⟩⟩⟩⟩,⟨⟨R,⟨R,⟨R,⟨R,⟨R,⟨R,⟨trivial,trivial⟩⟩⟩⟩⟩⟩⟩,trivial⟩⟩⟩
       refine ed (B9 (md:=[.box (EL.el b3),.box Zba,.box (EL.el v2.1),.box [.sl v4.1.L.length (v4.1.L.flatMap Am)],.box (EL.el v5.1),.box [Ii6 b3.Next,Ii6 a1,Ii6 a2,Ii6 b3.Store.Ts,.b a3,Znl],.dead]) ⟨⟨R,⟨R,⟨R,⟨R,⟨R,⟨R,⟨trivial,trivial⟩⟩⟩⟩⟩⟩⟩,⟨⟨R,⟨R,⟨R,⟨R,⟨R,⟨R,⟨trivial,trivial⟩⟩⟩⟩⟩⟩⟩,⟨⟨R,⟨R,⟨R,⟨R,⟨R,⟨R,⟨trivial,trivial⟩⟩⟩⟩⟩⟩⟩,trivial⟩⟩⟩) R R (Ain (out':=([(Bc.mk b3.Next a1 a2 b3.Store.Ts a3 (B3.mk ([]:List A6)))]:List Bc).flatMap Bl) Tryz.underlying38 As3 (Av R Ay) (.cons _ _ _ _ _ _ _ R R (Nbl R) (.nil _)) R (by decide) R) ?_
       refine ed (B9 (md:=[.box (EL.el b3),.box Zba,.box (EL.el v2.1),.box [.sl v4.1.L.length (v4.1.L.flatMap Am)],.box (EL.el v5.1),.box [Ii6 b3.Next,Ii6 a1,Ii6 a2,Ii6 b3.Store.Ts,.b a3,Znl],.dead]) ⟨⟨R,⟨R,⟨R,⟨R,⟨R,⟨R,⟨trivial,trivial⟩⟩⟩⟩⟩⟩⟩,⟨⟨R,⟨R,⟨R,⟨R,⟨R,⟨R,⟨trivial,trivial⟩⟩⟩⟩⟩⟩⟩,⟨⟨R,⟨R,⟨R,⟨R,⟨R,⟨R,⟨trivial,trivial⟩⟩⟩⟩⟩⟩⟩,trivial⟩⟩⟩) R R (Zl (out:=([b3.Open,([(Bc.mk b3.Next a1 a2 b3.Store.Ts a3 (B3.mk ([]:List A6)))]:List Bc)]:List (List Bc)).flatMap (eL Bl)) Tryz.underlying246 A08 (Av R (Av R Ay)) (.cons _ _ _ _ _ _ _ R R (Nbl R) (.cons _ _ _ _ _ _ _ R R (Nbl R) (.nil _))) R (by decide)) ?_
       refine ed (B9 (md:=[.box (EL.el b3),.box Zba,.box (EL.el v2.1),.box [.sl v4.1.L.length (v4.1.L.flatMap Am)],.box (EL.el v5.1),.box [Ii6 b3.Next,Ii6 a1,Ii6 a2,Ii6 b3.Store.Ts,.b a3,Znl],.dead]) ⟨⟨R,⟨R,⟨R,⟨R,⟨R,⟨R,⟨trivial,trivial⟩⟩⟩⟩⟩⟩⟩,⟨⟨R,⟨R,⟨R,⟨R,⟨R,⟨R,⟨trivial,trivial⟩⟩⟩⟩⟩⟩⟩,⟨⟨R,⟨R,⟨R,⟨R,⟨R,⟨R,⟨trivial,trivial⟩⟩⟩⟩⟩⟩⟩,trivial⟩⟩⟩) R R (Db A0t (Aa R Af) R (V8 hv6)) (ev (B9 (md:=[.box (EL.el b3),.box Zba,.box (EL.el v2.1),.box [.sl v4.1.L.length (v4.1.L.flatMap Am)],.box (EL.el v5.1),.box [Ii6 b3.Next,Ii6 a1,Ii6 a2,Ii6 b3.Store.Ts,.b a3,Znl],.dead]) ⟨⟨R,⟨R,⟨R,⟨R,⟨R,⟨R,⟨trivial,trivial⟩⟩⟩⟩⟩⟩⟩,⟨⟨R,⟨R,⟨R,⟨R,⟨R,⟨R,⟨trivial,trivial⟩⟩⟩⟩⟩⟩⟩,⟨⟨R,⟨R,⟨R,⟨R,⟨R,⟨R,⟨trivial,trivial⟩⟩⟩⟩⟩⟩⟩,trivial⟩⟩⟩) R R (Ac Ti R) (ev (B9 (md:=[.box (EL.el b3),.box Zba,.box (EL.el v2.1),.box [.sl v4.1.L.length (v4.1.L.flatMap Am)],.box (EL.el v5.1),.box [Ii6 b3.Next,Ii6 a1,Ii6 a2,Ii6 b3.Store.Ts,.b a3,Znl],.dead]) ⟨⟨R,⟨R,⟨R,⟨R,⟨R,⟨R,⟨trivial,trivial⟩⟩⟩⟩⟩⟩⟩,⟨⟨R,⟨R,⟨R,⟨R,⟨R,⟨R,⟨trivial,trivial⟩⟩⟩⟩⟩⟩⟩,⟨⟨R,⟨R,⟨R,⟨R,⟨R,⟨R,⟨trivial,trivial⟩⟩⟩⟩⟩⟩⟩,trivial⟩⟩⟩) R R (l1 ti3 R R R) (ev (B9 (md:=[.box (EL.el b3),.box Zba,.box (EL.el v2.1),.box [.sl v4.1.L.length (v4.1.L.flatMap Am)],.box (EL.el v5.1),.box [Ii6 b3.Next,Ii6 a1,Ii6 a2,Ii6 b3.Store.Ts,.b a3,Znl],.dead]) ⟨⟨R,⟨R,⟨R,⟨R,⟨R,⟨R,⟨trivial,trivial⟩⟩⟩⟩⟩⟩⟩,⟨⟨R,⟨R,⟨R,⟨R,⟨R,⟨R,⟨trivial,trivial⟩⟩⟩⟩⟩⟩⟩,⟨⟨R,⟨R,⟨R,⟨R,⟨R,⟨R,⟨trivial,trivial⟩⟩⟩⟩⟩⟩⟩,trivial⟩⟩⟩) R R (Bm R R) (ev (B9 (md:=[.box (EL.el b3),.box Zba,.box (EL.el v2.1),.box [.sl v4.1.L.length (v4.1.L.flatMap Am)],.box (EL.el v5.1),.box [Ii6 b3.Next,Ii6 a1,Ii6 a2,Ii6 b3.Store.Ts,.b a3,Znl],.dead]) ⟨⟨R,⟨R,⟨R,⟨R,⟨R,⟨R,⟨trivial,trivial⟩⟩⟩⟩⟩⟩⟩,⟨⟨R,⟨R,⟨R,⟨R,⟨R,⟨R,⟨trivial,trivial⟩⟩⟩⟩⟩⟩⟩,⟨⟨R,⟨R,⟨R,⟨R,⟨R,⟨R,⟨trivial,trivial⟩⟩⟩⟩⟩⟩⟩,trivial⟩⟩⟩) R R (A3 Qs Ak3 (Av R (Av R (Av R (Av R (Av R Ay))))) (Aaz [.sl b3.Store.Keys.length (b3.Store.Keys.flatMap (eL eU8)),.sl b3.Store.Chains.length (b3.Store.Chains.flatMap As),Ii6 b3.Store.Ts,Znl,Znl,Znl,Znl,Ii6 0] R R (Nbl R) R (Aaz [.sl b3.Store.Keys.length (b3.Store.Keys.flatMap (eL eU8)),.sl b3.Store.Chains.length (b3.Store.Chains.flatMap As),Ii6 b3.Store.Ts,.sl v5.1.Txs.length (v5.1.Txs.flatMap Bb),.sl v5.1.Reads.L.length (v5.1.Reads.L.flatMap Aq),Znl,Znl,Ii6 0] R R (Nbl R) R (Aaz [.sl b3.Store.Keys.length (b3.Store.Keys.flatMap (eL eU8)),.sl b3.Store.Chains.length (b3.Store.Chains.flatMap As),Ii6 b3.Store.Ts,.sl v5.1.Txs.length (v5.1.Txs.flatMap Bb),.sl v5.1.Reads.L.length (v5.1.Reads.L.flatMap Aq),.sl v4.1.L.length (v4.1.L.flatMap Am),Znl,Ii6 0] R R (Nbl R) R (Aaz [.sl b3.Store.Keys.length (b3.Store.Keys.flatMap (eL eU8)),.sl b3.Store.Chains.length (b3.Store.Chains.flatMap As),Ii6 b3.Store.Ts,.sl v5.1.Txs.length (v5.1.Txs.flatMap Bb),.sl v5.1.Reads.L.length (v5.1.Reads.L.flatMap Aq),.sl v4.1.L.length (v4.1.L.flatMap Am),.sl v6.length (v6.flatMap Bl),Ii6 0] R R (Nbl R) R (Aaz [.sl b3.Store.Keys.length (b3.Store.Keys.flatMap (eL eU8)),.sl b3.Store.Chains.length (b3.Store.Chains.flatMap As),Ii6 b3.Store.Ts,.sl v5.1.Txs.length (v5.1.Txs.flatMap Bb),.sl v5.1.Reads.L.length (v5.1.Reads.L.flatMap Aq),.sl v4.1.L.length (v4.1.L.flatMap Am),.sl v6.length (v6.flatMap Bl),Ii6 (wI (b3.Next+1))] R R (Nbl R) R (.nil _))))))) (ee (x:=.s (.one (.lp 6 0))) 0 R R R R R (fun ζ=>?_) ?_)))))
       ·refine Ix 6 R Qs R ?_
        exact Rk
       refine ee0 1 R R R R (fun ζ=>?_) ?_
       ·refine sst Iq R R R R R (Pq [.box (EL.el b3),.box Zba,.box (EL.el v2.1),.box [.sl v4.1.L.length (v4.1.L.flatMap Am)],.box (EL.el v5.1),.box [Ii6 b3.Next,Ii6 a1,Ii6 a2,Ii6 b3.Store.Ts,.b a3,Znl],.box [.sl b3.Store.Keys.length (b3.Store.Keys.flatMap (eL eU8)),.sl b3.Store.Chains.length (b3.Store.Chains.flatMap As),Ii6 b3.Store.Ts,.sl v5.1.Txs.length (v5.1.Txs.flatMap Bb),.sl v5.1.Reads.L.length (v5.1.Reads.L.flatMap Aq),.sl v4.1.L.length (v4.1.L.flatMap Am),.sl v6.length (v6.flatMap Bl),Ii6 (wI (b3.Next+1))]] R ?_)
        exact Rk
       refine Abf (Ab (Bn ?_))
       refine Ku [3] [0,0,2,1,15,31] [[.box (EL.el b3),.box Zba,.box (EL.el v2.1),.box [.sl v4.1.L.length (v4.1.L.flatMap Am)],.box (EL.el v5.1),.box [Ii6 b3.Next,Ii6 a1,Ii6 a2,Ii6 b3.Store.Ts,.b a3,Znl],.box [.sl b3.Store.Keys.length (b3.Store.Keys.flatMap (eL eU8)),.sl b3.Store.Chains.length (b3.Store.Chains.flatMap As),Ii6 b3.Store.Ts,.sl v5.1.Txs.length (v5.1.Txs.flatMap Bb),.sl v5.1.Reads.L.length (v5.1.Reads.L.flatMap Aq),.sl v4.1.L.length (v4.1.L.flatMap Am),.sl v6.length (v6.flatMap Bl),Ii6 (wI (b3.Next+1))]],[.box (EL.el b3),.box [.sl b3.Store.Keys.length (b3.Store.Keys.flatMap (eL eU8)),.sl b3.Store.Chains.length (b3.Store.Chains.flatMap As),Ii6 b3.Store.Ts,.sl v5.1.Txs.length (v5.1.Txs.flatMap Bb),.sl v5.1.Reads.L.length (v5.1.Reads.L.flatMap Aq),.sl v4.1.L.length (v4.1.L.flatMap Am),.sl v6.length (v6.flatMap Bl),Ii6 (wI (b3.Next+1))],.box (EL.el v2.1),.box [.sl v4.1.L.length (v4.1.L.flatMap Am)],.box (EL.el v5.1),.box [Ii6 b3.Next,Ii6 a1,Ii6 a2,Ii6 b3.Store.Ts,.b a3,Znl],.box [.sl b3.Store.Keys.length (b3.Store.Keys.flatMap (eL eU8)),.sl b3.Store.Chains.length (b3.Store.Chains.flatMap As),Ii6 b3.Store.Ts,.sl v5.1.Txs.length (v5.1.Txs.flatMap Bb),.sl v5.1.Reads.L.length (v5.1.Reads.L.flatMap Aq),.sl v4.1.L.length (v4.1.L.flatMap Am),.sl v6.length (v6.flatMap Bl),Ii6 (wI (b3.Next+1))]]] (by kernel_rfl) mixed (by kernel_rfl) (by decide) R R R R ?_
       refine evs (md:=[.box (EL.el b3),.dead,.box (EL.el v2.1),.box [.sl v4.1.L.length (v4.1.L.flatMap Am)],.box (EL.el v5.1),.box [Ii6 b3.Next,Ii6 a1,Ii6 a2,Ii6 b3.Store.Ts,.b a3,Znl],.box [.sl b3.Store.Keys.length (b3.Store.Keys.flatMap (eL eU8)),.sl b3.Store.Chains.length (b3.Store.Chains.flatMap As),Ii6 b3.Store.Ts,.sl v5.1.Txs.length (v5.1.Txs.flatMap Bb),.sl v5.1.Reads.L.length (v5.1.Reads.L.flatMap Aq),.sl v4.1.L.length (v4.1.L.flatMap Am),.sl v6.length (v6.flatMap Bl),Ii6 (wI (b3.Next+1))]]) (fun hS=>ev (A9 0 R R) R R (lo De R R R) (ev (B9 hS) R R (Ac Ry R) (ev (B9 hS) R R (l1 ti3 R R R) (ee0 0 R R R R (fun ζ=>?_) ?_)))) ⟨⟨R,⟨trivial,⟨R,⟨R,⟨R,⟨R,⟨R,trivial⟩⟩⟩⟩⟩⟩⟩,⟨⟨R,⟨trivial,⟨R,⟨R,⟨R,⟨R,⟨R,trivial⟩⟩⟩⟩⟩⟩⟩,trivial⟩⟩
       ·refine sst Iq R R R R R (Pq [.box (EL.el b3),.box [.sl b3.Store.Keys.length (b3.Store.Keys.flatMap (eL eU8)),.sl b3.Store.Chains.length (b3.Store.Chains.flatMap As),Ii6 b3.Store.Ts,.sl v5.1.Txs.length (v5.1.Txs.flatMap Bb),.sl v5.1.Reads.L.length (v5.1.Reads.L.flatMap Aq),.sl v4.1.L.length (v4.1.L.flatMap Am),.sl v6.length (v6.flatMap Bl),Ii6 (wI (b3.Next+1))],.box (EL.el v2.1),.box [.sl v4.1.L.length (v4.1.L.flatMap Am)],.box (EL.el v5.1),.box [Ii6 b3.Next,Ii6 a1,Ii6 a2,Ii6 b3.Store.Ts,.b a3,Znl],.box [.sl b3.Store.Keys.length (b3.Store.Keys.flatMap (eL eU8)),.sl b3.Store.Chains.length (b3.Store.Chains.flatMap As),Ii6 b3.Store.Ts,.sl v5.1.Txs.length (v5.1.Txs.flatMap Bb),.sl v5.1.Reads.L.length (v5.1.Reads.L.flatMap Aq),.sl v4.1.L.length (v4.1.L.flatMap Am),.sl v6.length (v6.flatMap Bl),Ii6 (wI (b3.Next+1))]] R ?_)
        exact Rk
       refine ev (A9 1 R R) R R (Lh R) (ev (A9 1 R R) R R (Lh R) (Abf (Ab (Bs ?_))))
       obtain rfl:=SJ h
       exact dn (Ad (ra De R R R) (Ad (rt R) (Ad (rt R) Aj))) (An R) R
  ·skip
   refine Ap (rm 2 R (ssI 29 h R (fun h=>?_) (fun h=>?_)))
   ·refine son R R R (sv R (Ac Aip R) (son R R R (sv R (l1 ti3 R R R) (rm 1 R (son R R R (sv R (Bt R R) (rm 1 R (Ak (ccI h R (fun h=>?_) (fun h=>?_))))))))))
    ·refine Ap (ld De R R R R (sv R (lo Wc R R R) ?_))
     obtain ⟨v7,hv7,h⟩:=Ae h
     refine A8 R Atz (Aa R (Aa R Af)) (An R) (Ib hv7) (sst Iq R R R R R (Ak ?_))
     exact ⟨v7,_,h,⟨R,R,R,R,R,trivial⟩,R⟩
    ·refine Bf (Ab ?_)
     exact ⟨a0,_,h,⟨R,R,R,R,R,trivial⟩,R⟩
   ·refine rm 5 R (Ak (Ck R (fun hx=>Bool.noConfusion hx) (fun _=>?_)))
    refine Bf (Ab ?_)
    exact ⟨a0,_,h,⟨R,R,R,R,R,trivial⟩,R⟩
def Fc (a0:Ah) (a1:Int):Option (Bc × Int) :=
 (Il a0).bind fun v1=>if (!v1) then (some (Ps,1)) else ((Ei a0 a1).bind fun v2=>if (decide (v2<0)) then (some (Ps,7)) else ((idx a0.Open v2).bind fun u3=>some (u3,0)))
theorem Ll {a0:Ah} {a1:Int} {r:Bc × Int} (h:Fc a0 a1=some r):Br Tryz.prog 55 [.agg (EL.el a0),.one (Ii6 a1)] (·=.tup [.agg (EL.el r.1),.one (Ii6 r.2)]):=by
 unfold Fc at h
 refine A2 Tryz.func55 R (nt:=22) R (Nbl R) ?_
 intro w0 S0
 refine csr (F2 R R (Bo R Aag (rm 1 R (Ak (Bn (csr (sv R (lo De R R R) ?_)))))))
 obtain ⟨v1,hv1,h⟩:=Ae h
 refine A8 R Aub (Aa R Af) (An R) (Nk hv1) (sv R (B1 R) (Ak (ccI h R (fun h=>?_) (fun h=>?_))))
 ·refine csr (sv R (A3 Aag Aw2 Ay (.nil _)) (sst Aah R R R R R (rm 1 R (Ak (Bs (Ag ?_))))))
  obtain rfl:=SJ h
  exact dn (Ad (ra Wc R R R) (Ad (rt R) Aj)) (I8 R) R
 ·refine Bf (Ab (csr (ld De R R R R (sv R (A4 R) ?_))))
  obtain ⟨v2,hv2,h⟩:=Ae h
  refine A8 R Axf (Aa R (Aa R Af)) (An R) (Qy hv2) (rm 1 R (Ak (Bn (csr (rm 1 R (sv R (Bt R R) (Ak (ccI h R (fun h=>?_) (fun h=>?_)))))))))
  ·refine csr (sv R (A3 Aag Aw2 Ay (.nil _)) (sst Aah R R R R R (rm 1 R (Ak (Bs (Ag ?_))))))
   obtain rfl:=SJ h
   exact dn (Ad (ra Wc R R R) (Ad (rt R) Aj)) (I8 R) R
  ·refine Bf (Ab (csr (fl Rc Ail R R R R R R (sv R (A4 R) ?_))))
   obtain ⟨u3,hu3,h⟩:=Ae h
   refine sv R (Cb (f:=Bl) Y4 (fun _=>R) R R R R hu3) ?_
   refine sv R (Bz (ys:=[Ii6 u3.ID,Ii6 u3.Token,Ii6 u3.Attempt,Ii6 u3.Snap,.b u3.RO,.sl u3.Buf.L.length (u3.Buf.L.flatMap Ba)]) Wc R (.cp _) R R) (sst Aah R R R R R (rm 1 R (Ak (Bs ?_))))
   obtain rfl:=SJ h
   exact dn (Ad (ra Wc R R R) (Ad (rt R) Aj)) (An R) R
def Dq (a0:Ah) (a1:Int):Option Ah :=
 if (decide (a1=1)) then (some E2) else (some a0)
theorem Jp {a0:Ah} {a1:Int} {r:Ah} (h:Dq a0 a1=some r):Br Tryz.prog 61 [.agg (EL.el a0),.one (Ii6 a1)] (·=.s (.agg (EL.el r))):=by
 unfold Dq at h
 refine A2 Tryz.func61 R (nt:=9) R (Nbl R) ?_
 intro w0 S0
 refine csr (F2 R R (Bo R Qs (Ak (Bn (csr (rm 1 R (sv R (B0 R R) (Ak (ccI h R (fun h=>?_) (fun h=>?_))))))))))
 ·refine csr (sv R (A3 Qs Ak3 Ay (.nil _)) (sst Iq R R R R R (Ak (Bs (Ag ?_)))))
  obtain rfl:=SJ h
  exact dn (Ad (ra De R R R) Aj) (I8 R) R
 ·refine Bf (Ab (csr (ld De R R R R (sst Iq R R R R R (Ak (Bs ?_))))))
  obtain rfl:=SJ h
  exact dnA R De R (.lp _ _ _ R) (Nbl R) R R
def Ff (a0:List UInt8) (a1:List UInt8):Option Bool :=
 some (a0 == a1)
theorem N3 {a0:List UInt8} {a1:List UInt8} {r:Bool} (h:Ff a0 a1=some r):Br Tryz.prog 135 [.one (.sl a0.length (a0.flatMap eU8)),.one (.sl a1.length (a1.flatMap eU8))] (·=.s (.one (.b r))):=by
 unfold Ff at h
 refine A2 Tryz.func135 R (nt:=10) R (Nbl R) ?_
 intro w0 S0
 refine csr (rm 1 R (Ak (csr (rm 1 R (sv R (Wi (l:=a0) Tryz.underlying56 Tryz.underlying5 Tryz.underlying9 R R R) (rm 1 R (sv R (Wi (l:=a1) Tryz.underlying56 Tryz.underlying5 Tryz.underlying9 R R R) (sv R (Aea R R) (rm 1 R (Ak (Bs ?_)))))))))))
 obtain rfl:=SJ h
 exact dnT R R R R
def Pd (b1:Unit):Option (A6 × Bool) :=
 some ((A6.mk ([]:List UInt8) ([]:List UInt8) false),false)
def Ft (a0:B3) (a1:List UInt8) (s2:Int):Option (LR (Int) (Unit) (A6 × Bool)) :=
 if (decide (s2<(a0.L.length:Int))) then ((idx a0.L s2).bind fun u3=>(Ff u3.Key a1).bind fun v4=>if v4 then (some (.ret (u3,true))) else (some (.cont (wI (s2+1))))) else (some (.brk ()))
def Jn (a0:B3) (a1:List UInt8):Option (A6 × Bool) :=
 (Lj (Ft a0 a1) fuel 0).bind fun x=>match x with | .inl r=>some r | .inr e5=>Pd e5
theorem Yz {a0:B3} {a1:List UInt8} {r:A6 × Bool} (h:Jn a0 a1=some r):Br Tryz.prog 63 [.agg [.sl a0.L.length (a0.L.flatMap Ba)],.one (.sl a1.length (a1.flatMap eU8))] (·=.tup [.agg (EL.el r.1),.one (.b r.2)]):=by
 unfold Jn at h
 refine A2 Tryz.func63 R (nt:=22) R (Nbl R) ?_
 intro w0 S0
 refine csr (F2 R R (Bo R Aj9 (rm 1 R (Ak (Bn (csr (fl Wo Ao4 R R R R R R (sv R (Au Ac4 R) (rm 1 R (Ak (cj (Unit) (fun b1=>[(4,.s (.one (.lp 1 0)))]) (fun b1=>[.box [.sl a0.L.length (a0.L.flatMap Ba)],.box [Znl,Znl,.b false]]) (fun b1=>Pd b1=some r) (fun _=>R) (fun b1 h=>?_) ?_)))))))))))
 ·unfold Pd at h
  refine csr (sv R (A3 Aj9 Aww Ay (.nil _)) (sst Amh R R R R R (rm 1 R (Ak (Bs ?_)))))
  obtain rfl:=SJ h
  exact dn (Ad (ra Afp R R R) (Ad (rt R) Aj)) (I8 R) R
 ·skip
  refine Bq ?_
  obtain ⟨x2,hx2,ho2⟩:=Ae h
  refine lpo (G:=Nat × (Int)) (fun g=>[(1,.s (.one (.sl a1.length (a1.flatMap eU8)))),(4,.s (.one (.lp 1 0))),(9,.s (.one (.sl a0.L.length (a0.L.flatMap Ba)))),(10,.s (.one (Ii6 (a0.L.length:Int)))),(11,.s (.one (Ii6 g.2)))]) (fun g=>[.box [.sl a0.L.length (a0.L.flatMap Ba)],.box [Znl,Znl,.b false]]) (fun g=>Lj (Ft a0 a1) g.1 g.2=some x2) (fun g=>g.1) (fuel,0) hx2 ⟨R,R,R,R,R,trivial⟩ [] R (fun _=>R) ?_
  clear hx2 h
  rintro ⟨n2,s2⟩ h
  obtain ⟨n2,y2,rfl,h,hk2⟩:=Fh h
  unfold Ft at h
  refine csr (sv R (Bt R R) (Ak (Bn (ccI h R (fun h=>?_) (fun h=>?_)))))
  ·refine Bf (Ab (Bn (Bq (Bn (Ap ?_)))))
   obtain ⟨u3,hu3,h⟩:=Ae h
   refine sv R (Cb (f:=Ba) Ac4 (fun _=>R) R R R R hu3) ?_
   refine sv R (Bz (ys:=[.sl u3.Key.length (u3.Key.flatMap eU8),.sl u3.Val.length (u3.Val.flatMap eU8),.b u3.Del]) Afp R (.cp _) R R) (Bo R Aj9 (sst Amh R R R R R (Ak (csr (fl S4 N2 R R R R R R (sv R (A4 R) ?_))))))
   obtain ⟨v4,hv4,h⟩:=Ae h
   refine A8 R Arx (Aa R (Aa R Af)) (An R) (N3 hv4) (Ak (ccI h R (fun h=>?_) (fun h=>?_)))
   ·refine csr (ld Afp R R R R (sst Amh R R R R R (rm 1 R (Ak (Bs (A0 (Ag (Ag (A0 (Ag ?_))))))))))
    obtain rfl:=SJ h
    obtain rfl:Sum.inl _=x2:=hk2
    replace ho2:some _=some _:=ho2
    obtain rfl:=zD ho2
    exact dn (Ad (ra Afp R R R) (Ad (rt R) Aj)) (An R) R
   ·refine Bf (Ao (Ab (Ap (sv R (Bm R R) (rm 1 R (Ak ?_))))))
    obtain rfl:=SJ h
    exact ⟨(n2,(wI (s2+1))),_,hk2,⟨R,R,R,R,R,trivial⟩,R,zH _⟩
  ·refine Dd (Ar (Ar (Bj (Ab ?_))))
   obtain rfl:=SJ h
   obtain rfl:_=x2:=hk2
   exact ⟨(),_,ho2,⟨R,trivial⟩,R⟩
def Ju (a0:Int) (b1:Unit):Option (List UInt8) :=
 if (decide (0<(wI (a0-(wI (0-0)))))) then (if 0<(wI (a0-(wI (0-0))))∧(wI (a0-(wI (0-0))))*((1:Nat):Int)≤281474976710656 then (if (0:Int)≤0∧0≤((List.replicate (wI (a0-(wI (0-0)))).toNat (0:UInt8)).length:Int) then (some ((List.replicate (wI (a0-(wI (0-0)))).toNat (0:UInt8)).take (0:Int).toNat)) else none) else none) else (some ([]:List UInt8))
def Kq (a0:Int):Option (List UInt8) :=
 if (decide (a0<0)) then none else (Ju a0 ())
theorem V5 {a0:Int} {r:(List UInt8)} (h:Kq a0=some r):Dn Tryz.prog 206 [] [.one (Znl),.one (Ii6 a0)] (fun y m'=>y=.s (.one (.ls 0 r.length))∧m'=[.arr 5 1 0 (r.flatMap eU8)]):=by
 unfold Kq at h
 refine Dk Tryz.func206 R (nt:=27) R (Nbl R) ?_
 intro w0 S0 X0 H0
 refine csr (rm 1 R (Ak (Bn (csr (rm 1 R (sv R (Bt R R) (Ak (cj (Unit) (fun b1=>[(0,.s (.one (Znl))),(1,.s (.one (Ii6 a0)))]) (fun b1=>[]) (fun b1=>Ju a0 b1=some r) (fun _=>R) (fun b1 h=>?_) ?_))))))))
 ·unfold Ju at h
  refine Bn (csr (rm 2 R (sv R (Gs Xb R) (rm 1 R (sv R (Fu Xb R) (sv R (Nt R R) (sv R (Nt R R) (rm 1 R (Ak (csr (rm 1 R (sv R (C9 R R) (Ak (ccI h R (fun h=>?_) (fun h=>?_)))))))))))))))
  ·refine Ap (rm 2 R (sv R (Gs Xb R) (sv R (M0 Xb R R) (sv R (A4 R) ?_))))
   obtain ⟨hm2,h⟩:=Cr h
   refine Avo (f:=eU8) (z:=(0:UInt8)) R Tryz.underlying56 ei5 Tryz.underlying3 (fun _=>R) R R R hm2 (by decide) ?_
   refine rm 1 R (sv R (Fu Xb R) ?_)
   obtain ⟨hs3,h⟩:=Cr h
   refine Aa4 (f:=eU8) R Xb (fun _=>R) R R R R R hs3 ?_
   refine rm 1 R (Ak (csr (rm 2 R (Ak (Bs ?_)))))
   obtain rfl:=SJ h
   exact ⟨Or.inr R,_,[1],[.one (.ls 0 ((List.replicate (wI (a0-(wI (0-0)))).toNat (0:UInt8)).take (0:Int).toNat).length)],[.arr 5 1 0 (((List.replicate (wI (a0-(wI (0-0)))).toNat (0:UInt8)).take (0:Int).toNat).flatMap eU8)],(Ad (rt R) Aj),R,R,⟨by decide,R⟩,R,R,⟨R,R⟩⟩
  ·refine Bf (Ab (csr (rm 2 R (Ak ?_))))
   refine Dh 5 1 4 (by decide) R ?_
   refine Bs ?_
   obtain rfl:=SJ h
   exact ⟨Or.inr R,_,[0],[.one (.ls 0 ([]:List UInt8).length)],[.arr 5 1 0 (([]:List UInt8).flatMap eU8)],(Ad (rt R) Aj),R,R,⟨by decide,R⟩,R,R,⟨R,R⟩⟩
 ·skip
  refine ccI h R (fun h=>?_) (fun h=>?_)
  ·cases h
  ·refine Bf (Ab ?_)
   exact ⟨(),_,h,⟨R,R,trivial⟩,R⟩
def Lm (b3:(List UInt8)):Option (List UInt8) :=
 some b3
def D6 (a0:List (List UInt8)) (s4:Int × (List UInt8)):Option (LB (Int × (List UInt8)) ((List UInt8))) :=
 if (decide (s4.1<(a0.length:Int))) then ((idx a0 s4.1).bind fun u5=>if (s4.2.length+u5.length)*1≤140737488355328 then (some (.cont ((wI (s4.1+1)),(s4.2++u5)))) else none) else (some (.brk s4.2))
def Hz (a0:List (List UInt8)) (b1:Int):Option (List UInt8) :=
 (Kq b1).bind fun v2=>(Cw (D6 a0) fuel (0,v2)).bind fun e7=>Lm e7
def D8 (a0:List (List UInt8)) (s8:Int × Int):Option (LB (Int × Int) (Int)) :=
 if (decide (s8.2<(a0.length:Int))) then ((idx a0 s8.2).bind fun u9=>if (decide ((wI (s8.1+(u9.length:Int)))<0)) then none else (some (.cont ((wI (s8.1+(u9.length:Int))),(wI (s8.2+1)))))) else (some (.brk s8.1))
def Hm (a0:List (List UInt8)):Option (List UInt8) :=
 (Cw (D8 a0) fuel (0,0)).bind fun e10=>Hz a0 e10
theorem T7 {a0:List (List UInt8)} {r:(List UInt8)} (h:Hm a0=some r):Dn Tryz.prog 137 [] [.one (.sl a0.length (a0.flatMap (eL eU8)))] (fun y m'=>y=.s (.one (.ls 0 r.length))∧m'=[.arr 5 1 0 (r.flatMap eU8)]):=by
 unfold Hm at h
 refine Dk Tryz.func137 R (nt:=36) R (Nbl R) ?_
 intro w0 S0 X0 H0
 refine csr (rm 1 R (Ak (csr (rm 1 R (Ak (Bn (csr (rm 1 R (sv R (Au S6 R) (rm 1 R (Ak (cj (Int) (fun b1=>[(0,.s (.one (.sl a0.length (a0.flatMap (eL eU8))))),(3,.s (.one (Ii6 b1)))]) (fun b1=>[]) (fun b1=>Hz a0 b1=some r) (fun _=>R) (fun b1 h=>?_) ?_))))))))))))
 ·unfold Hz at h
  refine csr (sv R (A4 R) ?_)
  obtain ⟨v2,hv2,h⟩:=Ae h
  refine H7 (x':=.s (.one (.ls 0 v2.length))) (M':=[.arr 5 1 0 (v2.flatMap eU8)]) [] R Ayl (.func _) (Aa R (Aa R Af)) (V5 hv2) R R (by decide) R R R ?_
  refine rm 1 R (Ak (Bn (csr (rm 1 R (sv R (Au S6 R) (rm 1 R (Ak (cj ((List UInt8)) (fun b3=>[(6,.s (.one (.ls 0 b3.length)))]) (fun b3=>[.arr 5 1 0 (b3.flatMap eU8)]) (fun b3=>Lm b3=some r) (fun _=>R) (fun b3 h=>?_) ?_))))))))
  ·unfold Lm at h
   refine csr (rm 2 R (Ak (Bs ?_)))
   obtain rfl:=SJ h
   exact ⟨Or.inr R,_,[0],[.one (.ls 0 b3.length)],[.arr 5 1 0 (b3.flatMap eU8)],(Ad (rt R) Aj),R,R,⟨by decide,R⟩,R,R,⟨R,R⟩⟩
  ·skip
   refine Bq ?_
   obtain ⟨x4,hx4,ho4⟩:=Ae h
   refine lpo (G:=Nat × (Int × (List UInt8))) (fun g=>[(6,.s (.one (.ls 0 g.2.2.length))),(25,.s (.one (.sl a0.length (a0.flatMap (eL eU8))))),(26,.s (.one (Ii6 (a0.length:Int)))),(27,.s (.one (Ii6 g.2.1)))]) (fun g=>[.arr 5 1 0 (g.2.2.flatMap eU8)]) (fun g=>Cw (D6 a0) g.1 g.2=some x4) (fun g=>g.1) (fuel,(0,v2)) hx4 ⟨R,R,R,R,trivial⟩ [] R (fun _=>R) ?_
   clear hx4 h
   rintro ⟨n4,s4⟩ h
   obtain ⟨n4,y4,rfl,h,hk4⟩:=Cy h
   unfold D6 at h
   refine csr (sv R (Bt R R) (Ak (Bn (ccI h R (fun h=>?_) (fun h=>?_)))))
   ·refine Bf (Ab (Bn (Bq (Bn (Ap ?_)))))
    obtain ⟨u5,hu5,h⟩:=Ae h
    refine sv R (Cb (f:=(eL eU8)) S6 (fun _=>R) R R R R hu5) ?_
    refine sv R (B6 N2 R (.cp _) R) (rm 1 R (Ak (Ap (rm 1 R (sv R (A4 R) ?_)))))
    obtain ⟨hb6,h⟩:=Cr h
    refine Ub (f:=eU8) (xs:=s4.2) (us:=u5) R Tryz.underlying56 ei5 A0r (fun _=>R) R R (.one _ _ _ _ (.id _ R)) R R R (.sl _ _ _ (Aw (f:=eU8) (fun _=>R) _)) R R hb6 (by decide) ?_
    refine rm 1 R (Ki (Ao (Ab (Ap (sv R (Bm R R) (rm 1 R (Ak ?_)))))))
    obtain rfl:=SJ h
    exact ⟨(n4,((wI (s4.1+1)),(s4.2++u5))),_,hk4,⟨R,R,R,R,trivial⟩,R,zH _⟩
   ·refine Dd (Ar (Ar (Bj (Ab ?_))))
    obtain rfl:=SJ h
    obtain rfl:_=x4:=hk4
    exact ⟨s4.2,_,ho4,⟨R,trivial⟩,R⟩
 ·skip
  refine Bq ?_
  obtain ⟨x8,hx8,ho8⟩:=Ae h
  refine lpo (G:=Nat × (Int × Int)) (fun g=>[(0,.s (.one (.sl a0.length (a0.flatMap (eL eU8))))),(3,.s (.one (Ii6 g.2.1))),(9,.s (.one (.sl a0.length (a0.flatMap (eL eU8))))),(10,.s (.one (Ii6 (a0.length:Int)))),(11,.s (.one (Ii6 g.2.2)))]) (fun g=>[]) (fun g=>Cw (D8 a0) g.1 g.2=some x8) (fun g=>g.1) (fuel,(0,0)) hx8 ⟨R,R,R,R,R,trivial⟩ [] R (fun _=>R) ?_
  clear hx8 h
  rintro ⟨n8,s8⟩ h
  obtain ⟨n8,y8,rfl,h,hk8⟩:=Cy h
  unfold D8 at h
  refine csr (sv R (Bt R R) (Ak (Bn (ccI h R (fun h=>?_) (fun h=>?_)))))
  ·refine Bf (Ab (Bn (Bq (Bn (Ap ?_)))))
   obtain ⟨u9,hu9,h⟩:=Ae h
   refine sv R (Cb (f:=(eL eU8)) S6 (fun _=>R) R R R R hu9) ?_
   refine sv R (B6 N2 R (.cp _) R) (rm 1 R (Ak (csr (rm 2 R (sv R (Au Xb R) (sv R (Bm R R) (rm 1 R (Ak (csr (rm 1 R (sv R (Bt R R) (Ak (ccI h R (fun h=>?_) (fun h=>?_))))))))))))))
   ·cases h
   ·refine Bf (Ao (Ab (Ap (sv R (Bm R R) (rm 1 R (Ak ?_))))))
    obtain rfl:=SJ h
    exact ⟨(n8,((wI (s8.1+(u9.length:Int))),(wI (s8.2+1)))),_,hk8,⟨R,R,R,R,R,trivial⟩,R,zH _⟩
  ·refine Dd (Ar (Ar (Bj (Ab ?_))))
   obtain rfl:=SJ h
   obtain rfl:_=x8:=hk8
   exact ⟨s8.1,_,ho8,⟨R,R,trivial⟩,R⟩
def Pt (a0:List UInt8):Option Bg :=
 (Hm [a0,[(UInt8.ofBitVec (0#8))]]).bind fun v1=>some (Bg.mk a0 v1 false)
theorem Aar {a0:List UInt8} {r:Bg} (h:Pt a0=some r):Br Tryz.prog 65 [.one (.sl a0.length (a0.flatMap eU8))] (·=.s (.agg (EL.el r))):=by
 unfold Pt at h
 refine A2 Tryz.func65 R (nt:=9) R (Nbl R) ?_
 intro w0 S0
 refine csr (Bo R Azp (Ak (csr (rm 1 R (sv R (A4 R) ?_)))))
 refine Fo R Tryz.underlying56 ei5 R R (zJ.1 R) (by decide) ?_
 refine Pq [.box [Znl,Znl,.b false],.arr 5 1 0 ([(UInt8.ofBitVec (0#8))].flatMap eU8)] R ?_
 refine Ahv 5 R (by (repeat' first | exact H6.nil _ | apply H6.cons | apply Hy.one | apply Hy.agg | exact C7.nil | exact C7.ls _ _ _ _ _ _ R (Aw (f:=eU8) (fun _=>R) ([(UInt8.ofBitVec (0#8))]:List UInt8)).symm | exact C7.ls _ _ _ _ _ _ R (Aw (f:=eU8) (fun _=>R) _).symm | exact C7.id _ R | exact Cs.nil _ | apply Cs.cons)) ?_
 refine Agz (out:=([a0,[(UInt8.ofBitVec (0#8))]]:List (List UInt8)).flatMap (eL eU8)) R Tryz.underlying25 Afq (Av R (Av R Ay)) (.cons _ _ _ _ _ _ _ R R (Nbl R) (.cons _ _ _ _ _ _ _ R R (Nbl R) (.nil _))) R (by decide) ?_
 refine Ahv 6 R (by (repeat' first | exact H6.nil _ | apply H6.cons | apply Hy.one | apply Hy.agg | exact C7.nil | exact C7.ls _ _ _ _ _ _ R (Aw (f:=(eL eU8)) (fun _=>R) ([a0,[(UInt8.ofBitVec (0#8))]]:List (List UInt8))).symm | exact C7.ls _ _ _ _ _ _ R (Aw (f:=(eL eU8)) (fun _=>R) _).symm | exact C7.ls _ _ _ _ _ _ R (Aw (f:=eU8) (fun _=>R) _).symm | exact C7.id _ R | exact Cs.nil _ | apply Cs.cons)) ?_
 obtain ⟨v1,hv1,h⟩:=Ae h
 refine H7 (x':=.s (.one (.ls 3 v1.length))) (M':=[.box [Znl,Znl,.b false],.arr 5 1 ([(UInt8.ofBitVec (0#8))].flatMap eU8).length ([(UInt8.ofBitVec (0#8))].flatMap eU8),.arr 56 1 ([a0,[(UInt8.ofBitVec (0#8))]].flatMap (eL eU8)).length ([a0,[(UInt8.ofBitVec (0#8))]].flatMap (eL eU8)),.arr 5 1 0 (v1.flatMap eU8)]) [] R Azb (.func _) (Aa R Af) (T7 hv1) R R (by decide) R R R ?_
 refine sv R (A3 Azp A0w (Av R (Av R Ay)) (.cons _ _ _ _ _ _ _ R R (Nbl R) (.cons _ _ _ _ _ _ _ R R (Nbl R) (.nil _)))) (sst A0m R R R R R (Ak (Bs ?_)))
 obtain rfl:=SJ h
 refine ⟨Or.inr R,_,_,_,(Ad (ra Acz R R R) Aj),(by (repeat' first | exact H6.nil _ | apply H6.cons | apply Hy.one | apply Hy.agg | exact C7.nil | exact C7.ls _ _ _ _ _ _ R (Aw (f:=(eL eU8)) (fun _=>R) _).symm | exact C7.ls _ _ _ _ _ _ R (Aw (f:=eU8) (fun _=>R) _).symm | exact C7.id _ R | exact Cs.nil _ | apply Cs.cons)),?_⟩
 rfl
def J1 (a0:Int) (b1:Unit):Option (List Az) :=
 if (decide (0<(wI (a0-(wI (0-0)))))) then (if 0<(wI (a0-(wI (0-0))))∧(wI (a0-(wI (0-0))))*((64:Nat):Int)≤281474976710656 then (if (0:Int)≤0∧0≤((List.replicate (wI (a0-(wI (0-0)))).toNat Qm).length:Int) then (some ((List.replicate (wI (a0-(wI (0-0)))).toNat Qm).take (0:Int).toNat)) else none) else none) else (some ([]:List Az))
def Kd (a0:Int):Option (List Az) :=
 if (decide (a0<0)) then none else (J1 a0 ())
theorem V4 {a0:Int} {r:(List Az)} (h:Kd a0=some r):Dn Tryz.prog 268 [] [.one (Znl),.one (Ii6 a0)] (fun y m'=>y=.s (.one (.ls 0 r.length))∧m'=[.arr 142 4 0 (r.flatMap Aq)]):=by
 unfold Kd at h
 refine Dk Tryz.func268 R (nt:=27) R (Nbl R) ?_
 intro w0 S0 X0 H0
 refine csr (rm 1 R (Ak (Bn (csr (rm 1 R (sv R (Bt R R) (Ak (cj (Unit) (fun b1=>[(0,.s (.one (Znl))),(1,.s (.one (Ii6 a0)))]) (fun b1=>[]) (fun b1=>J1 a0 b1=some r) (fun _=>R) (fun b1 h=>?_) ?_))))))))
 ·unfold J1 at h
  refine Bn (csr (rm 2 R (sv R (Gs Aa6 R) (rm 1 R (sv R (Fu Aa6 R) (sv R (Nt R R) (sv R (Nt R R) (rm 1 R (Ak (csr (rm 1 R (sv R (C9 R R) (Ak (ccI h R (fun h=>?_) (fun h=>?_)))))))))))))))
  ·refine Ap (rm 2 R (sv R (Gs Aa6 R) (sv R (M0 Aa6 R R) (sv R (A4 R) ?_))))
   obtain ⟨hm2,h⟩:=Cr h
   refine Ai1 (f:=Aq) (z:=Qm) R Tryz.underlying30 Anj Tryz.underlying3 (fun _=>R) R R R hm2 (by decide) ?_
   refine rm 1 R (sv R (Fu Aa6 R) ?_)
   obtain ⟨hs3,h⟩:=Cr h
   refine Aa4 (f:=Aq) R Aa6 (fun _=>R) R R R R R hs3 ?_
   refine rm 1 R (Ak (csr (rm 2 R (Ak (Bs ?_)))))
   obtain rfl:=SJ h
   exact ⟨Or.inr R,_,[1],[.one (.ls 0 ((List.replicate (wI (a0-(wI (0-0)))).toNat Qm).take (0:Int).toNat).length)],[.arr 142 4 0 (((List.replicate (wI (a0-(wI (0-0)))).toNat Qm).take (0:Int).toNat).flatMap Aq)],(Ad (rt R) Aj),R,R,⟨by decide,R⟩,R,R,⟨R,R⟩⟩
  ·refine Bf (Ab (csr (rm 2 R (Ak ?_))))
   refine Dh 142 4 4 (by decide) R ?_
   refine Bs ?_
   obtain rfl:=SJ h
   exact ⟨Or.inr R,_,[0],[.one (.ls 0 ([]:List Az).length)],[.arr 142 4 0 (([]:List Az).flatMap Aq)],(Ad (rt R) Aj),R,R,⟨by decide,R⟩,R,R,⟨R,R⟩⟩
 ·skip
  refine ccI h R (fun h=>?_) (fun h=>?_)
  ·cases h
  ·refine Bf (Ab ?_)
   exact ⟨(),_,h,⟨R,R,trivial⟩,R⟩
def Lp (b3:(List Az)):Option (List Az) :=
 some b3
def Eb (a0:List (List Az)) (s4:Int × (List Az)):Option (LB (Int × (List Az)) ((List Az))) :=
 if (decide (s4.1<(a0.length:Int))) then ((idx a0 s4.1).bind fun u5=>if (s4.2.length+u5.length)*64≤140737488355328 then (some (.cont ((wI (s4.1+1)),(s4.2++u5)))) else none) else (some (.brk s4.2))
def Hw (a0:List (List Az)) (b1:Int):Option (List Az) :=
 (Kd b1).bind fun v2=>(Cw (Eb a0) fuel (0,v2)).bind fun e7=>Lp e7
def D5 (a0:List (List Az)) (s8:Int × Int):Option (LB (Int × Int) (Int)) :=
 if (decide (s8.2<(a0.length:Int))) then ((idx a0 s8.2).bind fun u9=>if (decide ((wI (s8.1+(u9.length:Int)))<0)) then none else (some (.cont ((wI (s8.1+(u9.length:Int))),(wI (s8.2+1)))))) else (some (.brk s8.1))
def Fx (a0:List (List Az)):Option (List Az) :=
 (Cw (D5 a0) fuel (0,0)).bind fun e10=>Hw a0 e10
theorem T0 {a0:List (List Az)} {r:(List Az)} (h:Fx a0=some r):Dn Tryz.prog 250 [] [.one (.sl a0.length (a0.flatMap (eL Aq)))] (fun y m'=>y=.s (.one (.ls 0 r.length))∧m'=[.arr 142 4 0 (r.flatMap Aq)]):=by
 unfold Fx at h
 refine Dk Tryz.func250 R (nt:=36) R (Nbl R) ?_
 intro w0 S0 X0 H0
 refine csr (rm 1 R (Ak (csr (rm 1 R (Ak (Bn (csr (rm 1 R (sv R (Au Aol R) (rm 1 R (Ak (cj (Int) (fun b1=>[(0,.s (.one (.sl a0.length (a0.flatMap (eL Aq))))),(3,.s (.one (Ii6 b1)))]) (fun b1=>[]) (fun b1=>Hw a0 b1=some r) (fun _=>R) (fun b1 h=>?_) ?_))))))))))))
 ·unfold Hw at h
  refine csr (sv R (A4 R) ?_)
  obtain ⟨v2,hv2,h⟩:=Ae h
  refine H7 (x':=.s (.one (.ls 0 v2.length))) (M':=[.arr 142 4 0 (v2.flatMap Aq)]) [] R Axm (.func _) (Aa R (Aa R Af)) (V4 hv2) R R (by decide) R R R ?_
  refine rm 1 R (Ak (Bn (csr (rm 1 R (sv R (Au Aol R) (rm 1 R (Ak (cj ((List Az)) (fun b3=>[(6,.s (.one (.ls 0 b3.length)))]) (fun b3=>[.arr 142 4 0 (b3.flatMap Aq)]) (fun b3=>Lp b3=some r) (fun _=>R) (fun b3 h=>?_) ?_))))))))
  ·unfold Lp at h
   refine csr (rm 2 R (Ak (Bs ?_)))
   obtain rfl:=SJ h
   exact ⟨Or.inr R,_,[0],[.one (.ls 0 b3.length)],[.arr 142 4 0 (b3.flatMap Aq)],(Ad (rt R) Aj),R,R,⟨by decide,R⟩,R,R,⟨R,R⟩⟩
  ·skip
   refine Bq ?_
   obtain ⟨x4,hx4,ho4⟩:=Ae h
   refine lpo (G:=Nat × (Int × (List Az))) (fun g=>[(6,.s (.one (.ls 0 g.2.2.length))),(25,.s (.one (.sl a0.length (a0.flatMap (eL Aq))))),(26,.s (.one (Ii6 (a0.length:Int)))),(27,.s (.one (Ii6 g.2.1)))]) (fun g=>[.arr 142 4 0 (g.2.2.flatMap Aq)]) (fun g=>Cw (Eb a0) g.1 g.2=some x4) (fun g=>g.1) (fuel,(0,v2)) hx4 ⟨R,R,R,R,trivial⟩ [] R (fun _=>R) ?_
   clear hx4 h
   rintro ⟨n4,s4⟩ h
   obtain ⟨n4,y4,rfl,h,hk4⟩:=Cy h
   unfold Eb at h
   refine csr (sv R (Bt R R) (Ak (Bn (ccI h R (fun h=>?_) (fun h=>?_)))))
   ·refine Bf (Ab (Bn (Bq (Bn (Ap ?_)))))
    obtain ⟨u5,hu5,h⟩:=Ae h
    refine sv R (Cb (f:=(eL Aq)) Aol (fun _=>R) R R R R hu5) ?_
    refine sv R (B6 Aj2 R (.cp _) R) (rm 1 R (Ak (Ap (rm 1 R (sv R (A4 R) ?_)))))
    obtain ⟨hb6,h⟩:=Cr h
    refine Ub (f:=Aq) (xs:=s4.2) (us:=u5) R Tryz.underlying30 Anj Az1 (fun _=>R) R R (.one _ _ _ _ (.id _ R)) R R R (.sl _ _ _ (Aw (f:=Aq) (fun _=>R) _)) R R hb6 (by decide) ?_
    refine rm 1 R (Ki (Ao (Ab (Ap (sv R (Bm R R) (rm 1 R (Ak ?_)))))))
    obtain rfl:=SJ h
    exact ⟨(n4,((wI (s4.1+1)),(s4.2++u5))),_,hk4,⟨R,R,R,R,trivial⟩,R,zH _⟩
   ·refine Dd (Ar (Ar (Bj (Ab ?_))))
    obtain rfl:=SJ h
    obtain rfl:_=x4:=hk4
    exact ⟨s4.2,_,ho4,⟨R,trivial⟩,R⟩
 ·skip
  refine Bq ?_
  obtain ⟨x8,hx8,ho8⟩:=Ae h
  refine lpo (G:=Nat × (Int × Int)) (fun g=>[(0,.s (.one (.sl a0.length (a0.flatMap (eL Aq))))),(3,.s (.one (Ii6 g.2.1))),(9,.s (.one (.sl a0.length (a0.flatMap (eL Aq))))),(10,.s (.one (Ii6 (a0.length:Int)))),(11,.s (.one (Ii6 g.2.2)))]) (fun g=>[]) (fun g=>Cw (D5 a0) g.1 g.2=some x8) (fun g=>g.1) (fuel,(0,0)) hx8 ⟨R,R,R,R,R,trivial⟩ [] R (fun _=>R) ?_
  clear hx8 h
  rintro ⟨n8,s8⟩ h
  obtain ⟨n8,y8,rfl,h,hk8⟩:=Cy h
  unfold D5 at h
  refine csr (sv R (Bt R R) (Ak (Bn (ccI h R (fun h=>?_) (fun h=>?_)))))
  ·refine Bf (Ab (Bn (Bq (Bn (Ap ?_)))))
   obtain ⟨u9,hu9,h⟩:=Ae h
   refine sv R (Cb (f:=(eL Aq)) Aol (fun _=>R) R R R R hu9) ?_
   refine sv R (B6 Aj2 R (.cp _) R) (rm 1 R (Ak (csr (rm 2 R (sv R (Au Aa6 R) (sv R (Bm R R) (rm 1 R (Ak (csr (rm 1 R (sv R (Bt R R) (Ak (ccI h R (fun h=>?_) (fun h=>?_))))))))))))))
   ·cases h
   ·refine Bf (Ao (Ab (Ap (sv R (Bm R R) (rm 1 R (Ak ?_))))))
    obtain rfl:=SJ h
    exact ⟨(n8,((wI (s8.1+(u9.length:Int))),(wI (s8.2+1)))),_,hk8,⟨R,R,R,R,R,trivial⟩,R,zH _⟩
  ·refine Dd (Ar (Ar (Bj (Ab ?_))))
   obtain rfl:=SJ h
   obtain rfl:_=x8:=hk8
   exact ⟨s8.1,_,ho8,⟨R,R,trivial⟩,R⟩
def Mw (a0:Bu) (a1:Int) (a2:Bg) (b1:Unit):Option (Bu × Int) :=
 (Hb a0.L).bind fun v2=>(Ji (Az.mk a1 a2)).bind fun v3=>if (Aee v2 v3) then (some ((Bu.mk a0.L),0)) else (if (decide (128≤(a0.L.length:Int))) then (some ((Bu.mk ([]:List Az)),8)) else ((Fx [a0.L,[(Az.mk a1 a2)]]).bind fun v4=>some ((Bu.mk v4),0)))
def G6 (a0:Bu) (a1:Int) (a2:Bg):Option (Bu × Int) :=
 (Gb (Bu.mk a0.L)).bind fun v5=>if (!v5) then (some ((Bu.mk ([]:List Az)),1)) else ((C4 (Az.mk a1 a2)).bind fun v6=>if (!v6) then (some ((Bu.mk ([]:List Az)),1)) else (Mw a0 a1 a2 ()))
theorem Yl {a0:Bu} {a1:Int} {a2:Bg} {r:Bu × Int} (h:G6 a0 a1 a2=some r):Br Tryz.prog 199 [.agg [.sl a0.L.length (a0.L.flatMap Aq)],.one (Ii6 a1),.agg (EL.el a2)] (·=.tup [.agg [.sl r.1.L.length (r.1.L.flatMap Aq)],.one (Ii6 r.2)]):=by
 unfold G6 at h
 refine A2 Tryz.func199 R (nt:=46) R (Nbl R) ?_
 intro w0 S0
 refine csr (F2 R R (F2 R R (Bo R Aor (rm 1 R (Ak (csr (rm 1 R (ld Acz R R R R (sv R (A3 Aka Ayx (Av R (Av R Ay)) (.cons _ _ _ _ _ _ _ R R (Nbl R) (.cons _ _ _ _ _ _ _ R R (Nbl R) (.nil _)))) (Bo R Aka (sst Ale R R R R R (Ak (Bn (Bn (cj3 (Unit) (fun b1=>[(3,.s (.one (.lp 0 0))),(6,.s (.one (.lp 2 0))),(8,.s (.one (.lp 3 0)))]) (fun b1=>[.box [.sl a0.L.length (a0.L.flatMap Aq)],.box (EL.el a2),.box [Znl],.box [Ii6 a1,.sl a2.Lo.length (a2.Lo.flatMap eU8),.sl a2.Hi.length (a2.Hi.flatMap eU8),.b a2.Open]]) (fun b1=>Mw a0 a1 a2 b1=some r) (fun _=>R) (fun b1 h=>?_) ?_)))))))))))))))
 ·unfold Mw at h
  refine Bn (Bn (Ym ?_))
  obtain ⟨v2,hv2,h⟩:=Ae h
  obtain ⟨v3,hv3,h⟩:=Ae h
  refine Ku [2] [0,1,3,0,15,31,63,127,127,255,1023] [[.box [.sl a0.L.length (a0.L.flatMap Aq)],.box (EL.el a2),.box [Znl],.box [Ii6 a1,.sl a2.Lo.length (a2.Lo.flatMap eU8),.sl a2.Hi.length (a2.Hi.flatMap eU8),.b a2.Open],.hole],[.box [.sl a0.L.length (a0.L.flatMap Aq)],.box (EL.el a2),.box [Znl],.box [Ii6 a1,.sl a2.Lo.length (a2.Lo.flatMap eU8),.sl a2.Hi.length (a2.Hi.flatMap eU8),.b a2.Open],Uu D2 v2]] (by kernel_rfl) mixed (by kernel_rfl) (by decide) R R R R ?_
  refine ev (A9 0 R R) R R (Ac U6 R) (ev (A9 0 R R) R R (l1 Aj2 R R R) (ee (x:=.s (.one (.mp 0 4))) 0 R R R R R (fun ζ=>?_) ?_))
  ·refine Afi 4 R Av4 (.func _) (Aa R Af) (Qv hv2) R R R ?_
   exact Rk
  refine ev (B9 (md:=[.box [.sl a0.L.length (a0.L.flatMap Aq)],.box (EL.el a2),.box [Znl],.box [Ii6 a1,.sl a2.Lo.length (a2.Lo.flatMap eU8),.sl a2.Hi.length (a2.Hi.flatMap eU8),.b a2.Open],.dead]) ⟨⟨R,⟨R,⟨R,⟨R,⟨trivial,trivial⟩⟩⟩⟩⟩,⟨⟨R,⟨R,⟨R,⟨R,⟨trivial,trivial⟩⟩⟩⟩⟩,trivial⟩⟩) R R (lo Aa0 R R R) (ed (A9 1 R R) R R (Db Awh (Aa R Af) R (P3 hv3)) (ev (A9 1 R R) R R (Aj4 (M:=v2) (k:=v3) Aua Tryz.underlying299 zv3 R R R) (ev (A9 1 R R) R R (Cc R) (ev (A9 1 R R) R R (Ai R R) (ev (A9 1 R R) R R (Ai R R) (ev (A9 1 R R) R R (Lh R) (ev (A9 1 R R) R R (Lh R) (Abf (Ab (csr (rm 1 R (Ak (ccI h R (fun h=>?_) (fun h=>?_))))))))))))))
  ·refine csr (ld Ab5 R R R R (sst Arb R R R R R (rm 1 R (Ak (Bs (Ag ?_))))))
   obtain rfl:=SJ h
   exact dn (Ad (ra Ab5 R R R) (Ad (rt R) Aj)) (An R) R
  ·refine Bf (Ab (Bn (csr (fl U6 Aj2 R R R R R R (sv R (Au Aa6 R) (sv R (Hn R R) (Ak (ccI h R (fun h=>?_) (fun h=>?_)))))))))
   ·refine csr (sv R (A3 Aor Avy Ay (.nil _)) (sst Arb R R R R R (rm 1 R (Ak (Bs (Ag ?_))))))
    obtain rfl:=SJ h
    exact dn (Ad (ra Ab5 R R R) (Ad (rt R) Aj)) (I8 R) R
   ·refine Bf (Ab (csr (fl U6 Aj2 R R R R R R (sv R (lo Aa0 R R R) ?_))))
    refine Fo R Tryz.underlying30 Anj R R (zJ.1 R) (by decide) ?_
    refine Pq [.box [.sl a0.L.length (a0.L.flatMap Aq)],.box (EL.el a2),.box [Znl],.box [Ii6 a1,.sl a2.Lo.length (a2.Lo.flatMap eU8),.sl a2.Hi.length (a2.Hi.flatMap eU8),.b a2.Open],Uu D2 v2,.arr 142 4 0 ([(Az.mk a1 a2)].flatMap Aq)] R ?_
    refine Ahv 42 R (by (repeat' first | exact H6.nil _ | apply H6.cons | apply Hy.one | apply Hy.agg | exact C7.nil | exact C7.ls _ _ _ _ _ _ R (Aw (f:=Aq) (fun _=>R) ([(Az.mk a1 a2)]:List Az)).symm | exact C7.ls _ _ _ _ _ _ R (Aw (f:=Aq) (fun _=>R) _).symm | exact C7.id _ R | exact Cs.nil _ | apply Cs.cons)) ?_
    refine Agz (out:=([a0.L,[(Az.mk a1 a2)]]:List (List Az)).flatMap (eL Aq)) R Tryz.underlying396 A1d (Av R (Av R Ay)) (.cons _ _ _ _ _ _ _ R R (Nbl R) (.cons _ _ _ _ _ _ _ R R (Nbl R) (.nil _))) R (by decide) ?_
    refine Ahv 43 R (by (repeat' first | exact H6.nil _ | apply H6.cons | apply Hy.one | apply Hy.agg | exact C7.nil | exact C7.ls _ _ _ _ _ _ R (Aw (f:=(eL Aq)) (fun _=>R) ([a0.L,[(Az.mk a1 a2)]]:List (List Az))).symm | exact C7.ls _ _ _ _ _ _ R (Aw (f:=(eL Aq)) (fun _=>R) _).symm | exact C7.ls _ _ _ _ _ _ R (Aw (f:=Aq) (fun _=>R) _).symm | exact C7.id _ R | exact Cs.nil _ | apply Cs.cons)) ?_
    obtain ⟨v4,hv4,h⟩:=Ae h
    refine H7 (x':=.s (.one (.ls 7 v4.length))) (M':=[.box [.sl a0.L.length (a0.L.flatMap Aq)],.box (EL.el a2),.box [Znl],.box [Ii6 a1,.sl a2.Lo.length (a2.Lo.flatMap eU8),.sl a2.Hi.length (a2.Hi.flatMap eU8),.b a2.Open],Uu D2 v2,.arr 142 4 ([(Az.mk a1 a2)].flatMap Aq).length ([(Az.mk a1 a2)].flatMap Aq),.arr 30 1 ([a0.L,[(Az.mk a1 a2)]].flatMap (eL Aq)).length ([a0.L,[(Az.mk a1 a2)]].flatMap (eL Aq)),.arr 142 4 0 (v4.flatMap Aq)]) [] R Axv (.func _) (Aa R Af) (T0 hv4) R R (by decide) R R R ?_
    refine sv R (A3 Aor Avy (Av R Ay) (.cons _ _ _ _ _ _ _ R R (Nbl R) (.nil _))) (sst Arb R R R R R (rm 1 R (Ak (Bs ?_))))
    obtain rfl:=SJ h
    refine ⟨Or.inr R,_,_,_,(Ad (ra Ab5 R R R) (Ad (rt R) Aj)),(by (repeat' first | exact H6.nil _ | apply H6.cons | apply Hy.one | apply Hy.agg | exact C7.nil | exact C7.ls _ _ _ _ _ _ R (Aw (f:=(eL Aq)) (fun _=>R) _).symm | exact C7.ls _ _ _ _ _ _ R (Aw (f:=Aq) (fun _=>R) _).symm | exact C7.id _ R | exact Cs.nil _ | apply Cs.cons)),?_⟩
    rfl
 ·skip
  refine Ap (sv R (lo Ab5 R R R) ?_)
  obtain ⟨v5,hv5,h⟩:=Ae h
  refine A8 R Av7 (Aa R Af) (An R) (Rr hv5) (sv R (B1 R) (rm 1 R (ssI 17 h R (fun h=>?_) (fun h=>?_))))
  ·refine rm 4 R (Ak (Ck R (fun _=>?_) (fun hx=>Bool.noConfusion hx)))
   refine csr (sv R (A3 Aor Avy Ay (.nil _)) (sst Arb R R R R R (rm 1 R (Ak (Bs (Ag ?_))))))
   obtain rfl:=SJ h
   exact dn (Ad (ra Ab5 R R R) (Ad (rt R) Aj)) (I8 R) R
  ·refine son R R R (ld Aa0 R R R R (son R R R ?_))
   obtain ⟨v6,hv6,h⟩:=Ae h
   refine A8 R Avk (Aa R Af) (An R) (Pk hv6) (son R R R (sv R (B1 R) (rm 1 R (Ak (ccI h R (fun h=>?_) (fun h=>?_))))))
   ·refine csr (sv R (A3 Aor Avy Ay (.nil _)) (sst Arb R R R R R (rm 1 R (Ak (Bs (Ag ?_))))))
    obtain rfl:=SJ h
    exact dn (Ad (ra Ab5 R R R) (Ad (rt R) Aj)) (I8 R) R
   ·refine Bf (Ab ?_)
    exact ⟨(),_,h,⟨R,R,R,trivial⟩,R⟩
def Cz (a0:List A1):Option (List A1) :=
 if (([]:List A1).length+a0.length)*64≤140737488355328 then (some (([]:List A1)++a0)) else none
theorem P5 {a0:List A1} {r:(List A1)} (h:Cz a0=some r):Dn Tryz.prog 200 [] [.one (.sl a0.length (a0.flatMap Bb))] (fun y m'=>y=.s (.one (.ls 0 r.length))∧m'=[.arr 139 8 0 (r.flatMap Bb)]):=by
 unfold Cz at h
 refine Dk Tryz.func200 R (nt:=8) R (Nbl R) ?_
 intro w0 S0 X0 H0
 refine csr (rm 1 R (Ak (Bn (csr (rm 1 R (Ab2 R Tryz.underlying29 R (fun nq hnq=>?_)))))))
 cases nq
 ·skip
  refine Ak (Ck R (fun hx=>Bool.noConfusion hx) (fun _=>?_))
  refine Bf (Ab (csr (Ss R Tryz.underlying29 Ahh (sv R (A4 R) ?_))))
  obtain ⟨hb1,h⟩:=Cr h
  refine Ub (f:=Bb) (xs:=([]:List A1)) (us:=a0) R Tryz.underlying29 Ahh Azk (fun _=>R) R R (.one _ _ _ _ (.id _ R)) R R R (.sl _ _ _ (Aw (f:=Bb) (fun _=>R) _)) R R hb1 (by decide) ?_
  refine rm 1 R (Ak (Bs ?_))
  obtain rfl:=SJ h
  exact ⟨Or.inr R,_,[0],[.one (.ls 0 (([]:List A1)++a0).length)],[.arr 139 8 0 ((([]:List A1)++a0).flatMap Bb)],(Ad (rt R) Aj),R,R,⟨by decide,R⟩,R,R,⟨R,R⟩⟩
 ·obtain rfl:=zZ (hnq rfl)
  replace h:(some ([]:List A1))=some r:=by first | exact h | (rw [if_pos (by decide)] at h;exact h)
  refine Ak (Ck R (fun _=>?_) (fun hx=>Bool.noConfusion hx))
  refine csr (rm 1 R (Ak ?_))
  refine Dh 139 8 2 (by decide) R ?_
  refine Bs (Ag ?_)
  obtain rfl:=SJ h
  exact ⟨Or.inr R,_,[0],[.one (.ls 0 ([]:List A1).length)],[.arr 139 8 0 (([]:List A1).flatMap Bb)],(Ad (rt R) Aj),R,R,⟨by decide,R⟩,R,R,⟨R,R⟩⟩
def Li (a0:A1) (a1:A1):Option Bool :=
 if (decide (a0.State=2)) then (some (decide (a0.End≤a1.Begin))) else (some false)
theorem Sx {a0:A1} {a1:A1} {r:Bool} (h:Li a0 a1=some r):Br Tryz.prog 251 [.agg (EL.el a0),.agg (EL.el a1)] (·=.s (.one (.b r))):=by
 unfold Li at h
 refine A2 Tryz.func251 R (nt:=15) R (Nbl R) ?_
 intro w0 S0
 refine csr (F2 R R (F2 R R (rm 1 R (Ak (csr (fl O6 ti3 R R R R R R (sv R (B0 R R) (rm 1 R (ssI 8 h R (fun h=>?_) (fun h=>?_))))))))))
 ·refine son R R R (sv R (Ac Qo R) (son R R R (sv R (l1 ti3 R R R) (son R R R (sv R (Ac Vp R) (son R R R (sv R (l1 ti3 R R R) (son R R R (sv R (Dl R R) (rm 2 R (Ak (Bs ?_))))))))))))
  obtain rfl:=SJ h
  exact dnT R R R R
 ·refine rm 7 R (Ak (Bs ?_))
  obtain rfl:=SJ h
  exact dnT R R R R
def E1 (a0:A1) (a1:A1):Option Bool :=
 (Li a0 a1).bind fun v1=>if (!v1) then ((Li a1 a0).bind fun v2=>some (!v2)) else (some false)
theorem O7 {a0:A1} {a1:A1} {r:Bool} (h:E1 a0 a1=some r):Br Tryz.prog 201 [.agg (EL.el a0),.agg (EL.el a1)] (·=.s (.one (.b r))):=by
 unfold E1 at h
 refine A2 Tryz.func201 R (nt:=15) R (Nbl R) ?_
 intro w0 S0
 refine csr (F2 R R (F2 R R (rm 1 R (Ak (csr (ld Jr R R R R (sv R (lo Jr R R R) ?_)))))))
 obtain ⟨v1,hv1,h⟩:=Ae h
 refine A8 R Auc (Aa R (Aa R Af)) (An R) (Sx hv1) (sv R (B1 R) (rm 1 R (ssI 9 h R (fun h=>?_) (fun h=>?_))))
 ·refine son R R R (ld Jr R R R R (son R R R (ld Jr R R R R (son R R R ?_))))
  obtain ⟨v2,hv2,h⟩:=Ae h
  refine A8 R Auc (Aa R (Aa R Af)) (An R) (Sx hv2) (son R R R (sv R (B1 R) (rm 2 R (Ak (Bs ?_)))))
  obtain rfl:=SJ h
  exact dnT R R R R
 ·refine rm 6 R (Ak (Bs ?_))
  obtain rfl:=SJ h
  exact dnT R R R R
def Nu (b1:Unit):Option Bool :=
 some false
def Fw (a0:A1) (a1:Bg) (s2:Int):Option (LR (Int) (Unit) (Bool)) :=
 if (decide (s2<(a0.Keys.length:Int))) then ((idx a0.Keys s2).bind fun u3=>(G4 a1 u3).bind fun v4=>if v4 then (some (.ret true)) else (some (.cont (wI (s2+1))))) else (some (.brk ()))
def Lc (a0:A1) (a1:Bg):Option Bool :=
 (Lj (Fw a0 a1) fuel 0).bind fun x=>match x with | .inl r=>some r | .inr e5=>Nu e5
theorem Wb {a0:A1} {a1:Bg} {r:Bool} (h:Lc a0 a1=some r):Br Tryz.prog 202 [.agg (EL.el a0),.agg (EL.el a1)] (·=.s (.one (.b r))):=by
 unfold Lc at h
 refine A2 Tryz.func202 R (nt:=18) R (Nbl R) ?_
 intro w0 S0
 refine csr (F2 R R (F2 R R (rm 1 R (Ak (Bn (csr (fl T4 Ac0 R R R R R R (sv R (Au S6 R) (rm 1 R (Ak (cj (Unit) (fun b1=>[]) (fun b1=>[.box (EL.el a0),.box (EL.el a1)]) (fun b1=>Nu b1=some r) (fun _=>R) (fun b1 h=>?_) ?_)))))))))))
 ·unfold Nu at h
  refine csr (rm 1 R (Ak (Bs ?_)))
  obtain rfl:=SJ h
  exact dnT R R R R
 ·skip
  refine Bq ?_
  obtain ⟨x2,hx2,ho2⟩:=Ae h
  refine lpo (G:=Nat × (Int)) (fun g=>[(3,.s (.one (.lp 1 0))),(8,.s (.one (.sl a0.Keys.length (a0.Keys.flatMap (eL eU8))))),(9,.s (.one (Ii6 (a0.Keys.length:Int)))),(10,.s (.one (Ii6 g.2)))]) (fun g=>[.box (EL.el a0),.box (EL.el a1)]) (fun g=>Lj (Fw a0 a1) g.1 g.2=some x2) (fun g=>g.1) (fuel,0) hx2 ⟨R,R,R,R,trivial⟩ [] R (fun _=>R) ?_
  clear hx2 h
  rintro ⟨n2,s2⟩ h
  obtain ⟨n2,y2,rfl,h,hk2⟩:=Fh h
  unfold Fw at h
  refine csr (sv R (Bt R R) (Ak (Bn (ccI h R (fun h=>?_) (fun h=>?_)))))
  ·refine Bf (Ab (Bn (Bq (Bn (Ap ?_)))))
   obtain ⟨u3,hu3,h⟩:=Ae h
   refine sv R (Cb (f:=(eL eU8)) S6 (fun _=>R) R R R R hu3) ?_
   refine sv R (B6 N2 R (.cp _) R) (rm 1 R (Ak (csr (ld Acz R R R R (sv R (A4 R) ?_)))))
   obtain ⟨v4,hv4,h⟩:=Ae h
   refine A8 R Am1 (Aa R (Aa R Af)) (An R) (Mp hv4) (Ak (ccI h R (fun h=>?_) (fun h=>?_)))
   ·refine csr (rm 1 R (Ak (Bs (A0 (Ag (Ag (A0 (Ag ?_))))))))
    obtain rfl:=SJ h
    obtain rfl:Sum.inl _=x2:=hk2
    replace ho2:some _=some _:=ho2
    obtain rfl:=zD ho2
    exact dnT R R R R
   ·refine Bf (Ao (Ab (Ap (sv R (Bm R R) (rm 1 R (Ak ?_))))))
    obtain rfl:=SJ h
    exact ⟨(n2,(wI (s2+1))),_,hk2,⟨R,R,R,R,trivial⟩,R,zH _⟩
  ·refine Dd (Ar (Ar (Bj (Ab ?_))))
   obtain rfl:=SJ h
   obtain rfl:_=x2:=hk2
   exact ⟨(),_,ho2,trivial,R⟩
def Ha  : Option Unit :=
 some ()
theorem Qj  {r:Unit} (h:Ha=some r):Dn Tryz.prog 203 [] [] (fun y m'=>y=.s (.agg [.raw (.func (.func 252) #[] #[]),.raw (.func (.func 253) #[] #[])])∧m'=[]):=by
 unfold Ha at h
 refine Dk Tryz.func203 R (nt:=2) R (Nbl R) ?_
 intro w0 S0 X0 H0
 refine csr (Bo R Aus (Ak (csr (sv R (A3 Aus Ax9 (Av R (Av R Ay)) (.cons _ _ _ _ _ _ _ R R (Nbl R) (.cons _ _ _ _ _ _ _ R R (Nbl R) (.nil _)))) (sst Axu R R R R R (Ak (Bs ?_)))))))
 obtain rfl:=SJ h
 exact ⟨Or.inr R,_,[],[.agg [.raw (.func (.func 252) #[] #[]),.raw (.func (.func 253) #[] #[])]],[],(Ad (ra Ay7 R R R) Aj),R,R,⟨by decide,R⟩,R,R,⟨R,R⟩⟩
def K6 (a0:A1):Option A1 :=
 some ({a0 with Out:=true})
theorem Tf {a0:A1} {r:A1} (h:K6 a0=some r):Br Tryz.prog 252 [.agg (EL.el a0)] (·=.s (.agg (EL.el r))):=by
 unfold K6 at h
 refine A2 Tryz.func252 R (nt:=5) R (Nbl R) ?_
 intro w0 S0
 refine csr (F2 R R (Bo R S8 (Ak (csr (sv R (Ac Amt R) (sst sz4 R R R R R (Ak (csr (ld Jr R R R R (sst Si R R R R R (Ak (Bs ?_))))))))))))
 obtain rfl:=SJ h
 exact dnA R Jr R (.lp _ _ _ R) (Nbl R) R R
def Ky (a0:A1):Option A1 :=
 some ({a0 with In:=true})
theorem T3 {a0:A1} {r:A1} (h:Ky a0=some r):Br Tryz.prog 253 [.agg (EL.el a0)] (·=.s (.agg (EL.el r))):=by
 unfold Ky at h
 refine A2 Tryz.func253 R (nt:=5) R (Nbl R) ?_
 intro w0 S0
 refine csr (F2 R R (Bo R S8 (Ak (csr (sv R (Ac Ang R) (sst sz4 R R R R R (Ak (csr (ld Jr R R R R (sst Si R R R R R (Ak (Bs ?_))))))))))))
 obtain rfl:=SJ h
 exact dnA R Jr R (.lp _ _ _ R) (Nbl R) R R
def Fy (a0:List A1) (a1:Int) (a2:Int):Option (List A1) :=
 (idx a0 a1).bind fun u1=>(K6 u1).bind fun v2=>(idx a0 a1).bind fun u3=>(idx (a0.set a1.toNat v2) a2).bind fun u4=>(Ky u4).bind fun v5=>(idx (a0.set a1.toNat v2) a2).bind fun u6=>some ((a0.set a1.toNat v2).set a2.toNat v5)
theorem Pj {a0:List A1} {a1:Int} {a2:Int} {r:(List A1)} (h:Fy a0 a1 a2=some r):Dn Tryz.prog 204 [.arr 139 8 0 (a0.flatMap Bb)] [.agg [.raw (.func (.func 252) #[] #[]),.raw (.func (.func 253) #[] #[])],.one (.ls 0 a0.length),.one (Ii6 a1),.one (Ii6 a2)] (fun y m'=>y=.tup []∧m'=[.arr 139 8 0 (r.flatMap Bb)]):=by
 unfold Fy at h
 refine Dk Tryz.func204 R (nt:=28) R (Nbl R) ?_
 intro w0 S0 X0 H0
 refine csr (F2 R R (Ak (Bn ?_)))
 obtain ⟨u1,hu1,h⟩:=Ae h
 obtain ⟨v2,hv2,h⟩:=Ae h
 obtain ⟨u3,hu3,h⟩:=Ae h
 refine Ku [10] [0,0,0,4,0,0,48,112,252,511,1023] [[.arr 139 8 0 (a0.flatMap Bb),.box [.raw (.func (.func 252) #[] #[]),.raw (.func (.func 253) #[] #[])]],[.arr 139 8 0 ((a0.set a1.toNat v2).flatMap Bb),.box [.raw (.func (.func 252) #[] #[]),.raw (.func (.func 253) #[] #[])]]] (by kernel_rfl) mixed (by kernel_rfl) (by decide) R R R R ?_
 refine ev (A9 0 R R) R R (A4 R) (ev (A9 0 R R) R R (A4 R) (ev (A9 0 R R) R R (Ac Aro R) (ev (A9 0 R R) R R (l1 Avx R R R) (ev (A9 0 R R) R R (A4 R) (ev (A9 0 R R) R R (A4 R) ?_)))))
 refine ev (A9 0 rfl rfl) rfl rfl (Gq (f:=Bb) Qd (fun _=>rfl) rfl rfl rfl (by first | rfl | exact List.length_set.symm) rfl hu1) ?_
 refine ev (A9 0 R R) R R (Oi (f:=Bb) (sz:=8) 0 Jr (fun _=>R) R R R R (Iv hu1).2 (Nbl R) R) ?_
 refine ed (A9 0 R R) R R (Tn Axh (.raw _ _ R) (Aa R Af) R (Tf hv2)) ?_
 refine ev (A9 0 rfl rfl) rfl rfl (Gq (f:=Bb) Qd (fun _=>rfl) rfl rfl rfl (by first | rfl | exact List.length_set.symm) rfl hu3) ?_
 refine ee0 0 R R R R (fun ζ=>?_) ?_
 ·refine Zf (f:=Bb) (u':=v2) (sz:=8) 0 Si (fun _=>rfl) rfl rfl rfl rfl (by first | rfl | exact List.length_set.symm) rfl rfl (zJ.1 rfl) (Iv hu3).2 (Nbl rfl) rfl ?_
  exact Rk
 refine Abf (Ab (W0 1 (y:=.s (.one (.ls 0 a0.length))) (.s (.one (.ls 0 (a0.set a1.toNat v2).length))) R (congrArg (fun n=>AV.s (.one (.ls 0 n))) List.length_set.symm) ?_))
 refine W0 8 (y:=.s (.one (.ls 0 a0.length))) (.s (.one (.ls 0 (a0.set a1.toNat v2).length))) R (congrArg (fun n=>AV.s (.one (.ls 0 n))) List.length_set.symm) ?_
 refine W0 12 (y:=.s (.one (.ls 0 a0.length))) (.s (.one (.ls 0 (a0.set a1.toNat v2).length))) R (congrArg (fun n=>AV.s (.one (.ls 0 n))) List.length_set.symm) ?_
 obtain ⟨u4,hu4,h⟩:=Ae h
 obtain ⟨v5,hv5,h⟩:=Ae h
 obtain ⟨u6,hu6,h⟩:=Ae h
 refine Ku [10] [0,0,0,4,0,0,48,112,252,511,1023] [[.arr 139 8 0 ((a0.set a1.toNat v2).flatMap Bb),.box [.raw (.func (.func 252) #[] #[]),.raw (.func (.func 253) #[] #[])]],[.arr 139 8 0 (((a0.set a1.toNat v2).set a2.toNat v5).flatMap Bb),.box [.raw (.func (.func 252) #[] #[]),.raw (.func (.func 253) #[] #[])]]] (by kernel_rfl) mixed (by kernel_rfl) (by decide) R R R R ?_
 refine ev (A9 0 R R) R R (A4 R) (ev (A9 0 R R) R R (A4 R) (ev (A9 0 R R) R R (Ac Atq R) (ev (A9 0 R R) R R (l1 Avx R R R) (ev (A9 0 R R) R R (A4 R) (ev (A9 0 R R) R R (A4 R) ?_)))))
 refine ev (A9 0 rfl rfl) rfl rfl (Gq (f:=Bb) Qd (fun _=>rfl) rfl rfl rfl (by first | rfl | exact List.length_set.symm) rfl hu4) ?_
 refine ev (A9 0 R R) R R (Oi (f:=Bb) (sz:=8) 0 Jr (fun _=>R) R R R R (Iv hu4).2 (Nbl R) R) ?_
 refine ed (A9 0 R R) R R (Tn Axx (.raw _ _ R) (Aa R Af) R (T3 hv5)) ?_
 refine ev (A9 0 rfl rfl) rfl rfl (Gq (f:=Bb) Qd (fun _=>rfl) rfl rfl rfl (by first | rfl | exact List.length_set.symm) rfl hu6) ?_
 refine ee0 0 R R R R (fun ζ=>?_) ?_
 ·refine Zf (f:=Bb) (u':=v5) (sz:=8) 0 Si (fun _=>rfl) rfl rfl rfl rfl (by first | rfl | exact List.length_set.symm) rfl rfl (zJ.1 rfl) (Iv hu6).2 (Nbl rfl) rfl ?_
  exact Rk
 refine Abf ?_
 obtain rfl:=SJ h
 exact ⟨Or.inl R,_,[0],[],[.arr 139 8 0 (((a0.set a1.toNat v2).set a2.toNat v5).flatMap Bb)],Aj,R,R,⟨by decide,R⟩,R,R,⟨R,R⟩⟩
def Jq (a0:A1):Option Bool :=
 if a0.In then (some a0.Out) else (some false)
theorem Pu {a0:A1} {r:Bool} (h:Jq a0=some r):Br Tryz.prog 205 [.agg (EL.el a0)] (·=.s (.one (.b r))):=by
 unfold Jq at h
 refine A2 Tryz.func205 R (nt:=9) R (Nbl R) ?_
 intro w0 S0
 refine csr (F2 R R (rm 1 R (Ak (csr (fl Ang ti4 R R R R R R (rm 1 R (ssI 5 h R (fun h=>?_) (fun h=>?_))))))))
 ·refine son R R R (sv R (Ac Amt R) (son R R R (sv R (l1 ti4 R R R) (rm 2 R (Ak (Bs ?_))))))
  obtain rfl:=SJ h
  exact dnT R R R R
 ·refine rm 4 R (Ak (Bs ?_))
  obtain rfl:=SJ h
  exact dnT R R R R
def Gr (v3:Bu × Int) (b5:(List A1)):Option (Be × Int) :=
 some ((Be.mk b5 v3.1),0)
def Np (v2:Int) (s6:Int × (List A1)) (b8:Unit):Option (LR (Int × (List A1)) ((List A1)) (Be × Int)) :=
 (Ha).bind fun v9=>(Fy s6.2 v2 s6.1).bind fun v10=>if v10.length=s6.2.length then ((idx v10 s6.1).bind fun u12=>(Jq u12).bind fun v13=>if v13 then (some (.ret (Jf,10))) else (some (.cont ((wI (s6.1+1)),v10)))) else none
def Dr (a2:Bg) (v2:Int) (v4:(List A1)) (s6:Int × (List A1)):Option (LR (Int × (List A1)) ((List A1)) (Be × Int)) :=
 if (decide (s6.1<(v4.length:Int))) then ((idx s6.2 s6.1).bind fun u7=>if (!decide (u7.State=2)) then (some (.cont ((wI (s6.1+1)),s6.2))) else ((idx s6.2 v2).bind fun u14=>(E1 u7 u14).bind fun v15=>if (!v15) then (some (.cont ((wI (s6.1+1)),s6.2))) else ((Lc u7 (Bg.mk a2.Lo a2.Hi a2.Open)).bind fun v16=>if (!v16) then (some (.cont ((wI (s6.1+1)),s6.2))) else (Np v2 s6 ())))) else (some (.brk s6.2))
def C5 (a0:Be) (a1:Int) (a2:Bg):Option (Be × Int) :=
 (Kw a0).bind fun v1=>if (!v1) then (some (Jf,1)) else ((F5 a0 a1).bind fun v2=>if (decide (v2<0)) then (some (Jf,7)) else ((G6 a0.Reads a1 a2).bind fun v3=>if (!decide (v3.2=0)) then (some (Jf,v3.2)) else ((Cz a0.Txs).bind fun v4=>(Lj (Dr a2 v2 v4) fuel (0,v4)).bind fun x=>match x with | .inl r=>some r | .inr e17=>Gr v3 e17)))
theorem Zu {a0:Be} {a1:Int} {a2:Bg} {r:Be × Int} (h:C5 a0 a1 a2=some r):Br Tryz.prog 136 [.agg (EL.el a0),.one (Ii6 a1),.agg (EL.el a2)] (·=.tup [.agg (EL.el r.1),.one (Ii6 r.2)]):=by
 unfold C5 at h
 refine A2 Tryz.func136 R (nt:=79) R (Nbl R) ?_
 intro w0 S0
 refine csr (F2 R R (F2 R R (Bo R Wy (rm 1 R (Ak (Bn (csr (sv R (lo Qq R R R) ?_))))))))
 obtain ⟨v1,hv1,h⟩:=Ae h
 refine A8 R Awz (Aa R Af) (An R) (Pg hv1) (sv R (B1 R) (Ak (ccI h R (fun h=>?_) (fun h=>?_))))
 ·refine csr (sv R (A3 Wy Ac2 Ay (.nil _)) (sst Xw R R R R R (rm 1 R (Ak (Bs (Ag ?_))))))
  obtain rfl:=SJ h
  exact dn (Ad (ra Qq R R R) (Ad (rt R) Aj)) (I8 R) R
 ·refine Bf (Ab (csr (ld Qq R R R R (sv R (A4 R) ?_))))
  obtain ⟨v2,hv2,h⟩:=Ae h
  refine A8 R Asq (Aa R (Aa R Af)) (An R) (Pe hv2) (rm 1 R (Ak (Bn (csr (rm 1 R (sv R (Bt R R) (Ak (ccI h R (fun h=>?_) (fun h=>?_)))))))))
  ·refine csr (sv R (A3 Wy Ac2 Ay (.nil _)) (sst Xw R R R R R (rm 1 R (Ak (Bs (Ag ?_))))))
   obtain rfl:=SJ h
   exact dn (Ad (ra Qq R R R) (Ad (rt R) Aj)) (I8 R) R
  ·refine Bf (Ab (csr (sv R (Ac X6 R) (ld Ab5 R R R R (rm 1 R (sv R (lo Acz R R R) ?_))))))
   obtain ⟨v3,hv3,h⟩:=Ae h
   refine A8 R Aym (Aa R (Aa R (Aa R Af))) (An R) (Yl hv3) (sv R (Cc R) (sv R (Ai R R) (sv R (Ai R R) (Bo R Aor (sst Arb R R R R R (rm 1 R (Ak (Bn (csr (rm 1 R (sv R (C6 R R) (Ak (ccI h R (fun h=>?_) (fun h=>?_))))))))))))))
   ·refine csr (sv R (A3 Wy Ac2 Ay (.nil _)) (rm 1 R (sst Xw R R R R R (rm 1 R (Ak (Bs (Ag ?_)))))))
    obtain rfl:=SJ h
    exact dn (Ad (ra Qq R R R) (Ad (rt R) Aj)) (I8 R) R
   ·refine Bf (Ab (csr (sv R (Ac N0 R) (sv R (l1 Aaj R R R) ?_))))
    obtain ⟨v4,hv4,h⟩:=Ae h
    refine H7 (x':=.s (.one (.ls 4 v4.length))) (M':=[.box (EL.el a0),.box (EL.el a2),.box [Znl,Znl],.box [.sl v3.1.L.length (v3.1.L.flatMap Aq)],.arr 139 8 0 (v4.flatMap Bb)]) [] R Au1 (.func _) (Aa R Af) (P5 hv4) R R (by decide) R R R ?_
    refine rm 1 R (Ak (Bn (csr (rm 1 R (sv R (Hj Qd R R (Aw (f:=Bb) (fun _=>R) _).symm) ?_)))))
    refine rm 1 R (Ak (cj ((List A1)) (fun b5=>[(6,.s (.one (.lp 2 0))),(9,.s (.one (.lp 3 0))),(11,.s (.one (.ls 4 b5.length)))]) (fun b5=>[.box (EL.el a0),.box (EL.el a2),.box [Znl,Znl],.box [.sl v3.1.L.length (v3.1.L.flatMap Aq)],.arr 139 8 0 (b5.flatMap Bb)]) (fun b5=>Gr v3 b5=some r) (fun _=>R) (fun b5 h=>?_) ?_))
    ·unfold Gr at h
     refine csr (rm 1 R (ld Ab5 R R R R (sv R (A3 Wy Ac2 (Av R (Av R Ay)) (.cons _ _ _ _ _ _ _ R R (Nbl R) (.cons _ _ _ _ _ _ _ R R (Nbl R) (.nil _)))) (sst Xw R R R R R (rm 1 R (Ak (Bs ?_)))))))
     obtain rfl:=SJ h
     refine ⟨Or.inr R,_,_,_,(Ad (ra Qq R R R) (Ad (rt R) Aj)),(by (repeat' first | exact H6.nil _ | apply H6.cons | apply Hy.one | apply Hy.agg | exact C7.nil | exact C7.ls _ _ _ _ _ _ R (Aw (f:=Bb) (fun _=>R) _).symm | exact C7.id _ R | exact Cs.nil _ | apply Cs.cons)),?_⟩
     rfl
    ·skip
     refine Bq ?_
     obtain ⟨x6,hx6,ho6⟩:=Ae h
     refine lpo (G:=Nat × (Int × (List A1))) (fun g=>[(5,.s (.one (.lp 1 0))),(6,.s (.one (.lp 2 0))),(8,.s (.one (Ii6 v2))),(9,.s (.one (.lp 3 0))),(11,.s (.one (.ls 4 g.2.2.length))),(39,.s (.one (.ls 4 g.2.2.length))),(40,.s (.one (Ii6 (v4.length:Int)))),(41,.s (.one (Ii6 g.2.1)))]) (fun g=>[.box (EL.el a0),.box (EL.el a2),.box [Znl,Znl],.box [.sl v3.1.L.length (v3.1.L.flatMap Aq)],.arr 139 8 0 (g.2.2.flatMap Bb)]) (fun g=>Lj (Dr a2 v2 v4) g.1 g.2=some x6) (fun g=>g.1) (fuel,(0,v4)) hx6 ⟨R,R,R,R,R,R,R,R,trivial⟩ [] R (fun _=>R) ?_
     clear hx6 h
     rintro ⟨n6,s6⟩ h
     obtain ⟨n6,y6,rfl,h,hk6⟩:=Fh h
     unfold Dr at h
     refine csr (sv R (Bt R R) (Ak (Bn (ccI h R (fun h=>?_) (fun h=>?_)))))
     ·refine Bf (Ab (Bn (Bq (csr (sv R (A4 R) ?_)))))
      obtain ⟨u7,hu7,h⟩:=Ae h
      refine sv R (Gq (f:=Bb) Qd (fun _=>R) R R R R R hu7) ?_
      refine sv R (Oi (f:=Bb) (sz:=8) 0 Jr (fun _=>R) R R R R (Iv hu7).2 (Nbl R) R) ?_
      refine Bo R S8 (rm 1 R (sst Si R R R R R (Ak (Bn (Bn (cj3 (Unit) (fun b8=>[(5,.s (.one (.lp 1 0))),(6,.s (.one (.lp 2 0))),(8,.s (.one (Ii6 v2))),(9,.s (.one (.lp 3 0))),(11,.s (.one (.ls 4 s6.2.length))),(12,.s (.one (Ii6 s6.1))),(39,.s (.one (.ls 4 s6.2.length))),(40,.s (.one (Ii6 (v4.length:Int)))),(41,.s (.one (Ii6 s6.1)))]) (fun b8=>[.box (EL.el a0),.box (EL.el a2),.box [Znl,Znl],.box [.sl v3.1.L.length (v3.1.L.flatMap Aq)],.arr 139 8 0 (s6.2.flatMap Bb),.box (EL.el u7)]) (fun b8=>Np v2 s6 b8=some y6) (fun _=>R) (fun b8 h=>?_) ?_))))))
      ·unfold Np at h
       refine Bn (Ap ?_)
       obtain ⟨v9,hv9,h⟩:=Ae h
       refine H7 (x':=.s (.agg [.raw (.func (.func 252) #[] #[]),.raw (.func (.func 253) #[] #[])])) (M':=[.box (EL.el a0),.box (EL.el a2),.box [Znl,Znl],.box [.sl v3.1.L.length (v3.1.L.flatMap Aq)],.arr 139 8 0 (s6.2.flatMap Bb),.box (EL.el u7)]) [] R Avr (.func _) Af (Qj hv9) R R (by decide) R R R ?_
       refine rm 2 R (sv R (A4 R) ?_)
       obtain ⟨v10,hv10,h⟩:=Ae h
       refine H7 (x':=.tup []) (M':=[.box (EL.el a0),.box (EL.el a2),.box [Znl,Znl],.box [.sl v3.1.L.length (v3.1.L.flatMap Aq)],.arr 139 8 0 (v10.flatMap Bb),.box (EL.el u7)]) [4] R Avu (.func _) (Aa R (Aa R (Aa R (Aa R Af)))) (Pj hv10) R R (by decide) R R R ?_
       obtain ⟨hl11,h⟩:=Cr h
       refine Mf 11 (y:=.s (.one (.ls 4 s6.2.length))) (.s (.one (.ls 4 v10.length))) R (congrArg (fun n=>AV.s (.one (.ls 4 n))) hl11.symm) ?_
       refine Mf 39 (y:=.s (.one (.ls 4 s6.2.length))) (.s (.one (.ls 4 v10.length))) R (congrArg (fun n=>AV.s (.one (.ls 4 n))) hl11.symm) ?_
       refine Mf 65 (y:=.s (.one (.ls 4 s6.2.length))) (.s (.one (.ls 4 v10.length))) R (congrArg (fun n=>AV.s (.one (.ls 4 n))) hl11.symm) ?_
       refine Ak (csr (rm 1 R (sv R (A4 R) ?_)))
       obtain ⟨u12,hu12,h⟩:=Ae h
       refine sv R (Gq (f:=Bb) Qd (fun _=>R) R R R R R hu12) ?_
       refine sv R (Oi (f:=Bb) (sz:=8) 0 Jr (fun _=>R) R R R R (Iv hu12).2 (Nbl R) R) ?_
       obtain ⟨v13,hv13,h⟩:=Ae h
       refine A8 R Aru (Aa R Af) (An R) (Pu hv13) (Ak (ccI h R (fun h=>?_) (fun h=>?_)))
       ·refine csr (sv R (A3 Wy Ac2 Ay (.nil _)) (sst Xw R R R R R (rm 1 R (Ak (Bs (A0 (Ag (Ag (A0 (Ag ?_))))))))))
        obtain rfl:=SJ h
        obtain rfl:Sum.inl _=x6:=hk6
        replace ho6:some _=some _:=ho6
        obtain rfl:=zD ho6
        exact dn (Ad (ra Qq R R R) (Ad (rt R) Aj)) (I8 R) R
       ·refine Bf (Ao (Ab (Ap (sv R (Bm R R) (rm 1 R (Ak ?_))))))
        obtain rfl:=SJ h
        exact ⟨(n6,((wI (s6.1+1)),v10)),_,hk6,⟨R,R,R,R,R,R,R,R,trivial⟩,R,zH _⟩
      ·skip
       refine Aav mixed (by kernel_rfl) ?_
       refine dv R (Ac O6 R) (dv R (l1 ti3 R R R) (dv R (C6 R R) (dv R (A4 R) (Zi 49 R (fun hc=>?_) (fun hc=>?_)))))
       ·replace h:=Ve hc h
        clear hc
        refine Pf R R R R (Pf R R R R (Pf R R R R (Pf R R R R (Pf R R R R (Pf R R R R (Pf R R R R (dv R (H8 R R) (dv R (A4 R) (Pf R R R R (Pf R R R R (Pf R R R R (Pf R R R R (dv R (H8 R R) (Ad3 (Ab (Ck R (fun _=>?_) (fun hx=>Bool.noConfusion hx)))))))))))))))))
        refine Dd (Ar (Bj (Ab (Ap (sv R (Bm R R) (rm 1 R (Ak ?_)))))))
        obtain rfl:=SJ h
        exact ⟨(n6,((wI (s6.1+1)),s6.2)),_,hk6,⟨R,R,R,R,R,R,R,R,trivial⟩,R,zH _⟩
       ·replace h:=Vh hc h
        clear hc
        refine dvg R R R (lo Jr R R R) (dvg R R R (A4 R) (dvg R R R (A4 R) ?_))
        obtain ⟨u14,hu14,h⟩:=Ae h
        refine dvg R R R (Gq (f:=Bb) Qd (fun _=>R) R R R R R hu14) ?_
        refine dvg R R R (Oi (f:=Bb) (sz:=8) 0 Jr (fun _=>R) R R R R (Iv hu14).2 (Nbl R) R) ?_
        obtain ⟨v15,hv15,h⟩:=Ae h
        refine ddg R R R (Db Arv (Aa R (Aa R Af)) R (O7 hv15)) (dvg R R R (B1 R) (dv R (Mz R R) (dv R (A4 R) (Zi 58 R (fun hc=>?_) (fun hc=>?_)))))
        ·replace h:=Ve hc h
         clear hc
         refine Pf R R R R (Pf R R R R (Pf R R R R (Pf R R R R (dv R (H8 R R) (Ad3 (Ab (Ck R (fun _=>?_) (fun hx=>Bool.noConfusion hx))))))))
         refine Dd (Ar (Bj (Ab (Ap (sv R (Bm R R) (rm 1 R (Ak ?_)))))))
         obtain rfl:=SJ h
         exact ⟨(n6,((wI (s6.1+1)),s6.2)),_,hk6,⟨R,R,R,R,R,R,R,R,trivial⟩,R,zH _⟩
        ·replace h:=Vh hc h
         clear hc
         refine dvg R R R (lo Jr R R R) (dvg R R R (lo Acz R R R) ?_)
         obtain ⟨v16,hv16,h⟩:=Ae h
         refine ddg R R R (Db Ayv (Aa R (Aa R Af)) R (Wb hv16)) (dvg R R R (B1 R) (dv R (Mz R R) (Ad3 (Ab (ccI h R (fun h=>?_) (fun h=>?_))))))
         ·refine Dd (Ar (Bj (Ab (Ap (sv R (Bm R R) (rm 1 R (Ak ?_)))))))
          obtain rfl:=SJ h
          exact ⟨(n6,((wI (s6.1+1)),s6.2)),_,hk6,⟨R,R,R,R,R,R,R,R,trivial⟩,R,zH _⟩
         ·refine Bf (Ab ?_)
          exact ⟨(),_,h,⟨R,R,R,R,R,R,R,R,R,trivial⟩,R⟩
     ·refine Dd (Ar (Ar (Bj (Ab ?_))))
      obtain rfl:=SJ h
      obtain rfl:_=x6:=hk6
      exact ⟨s6.2,_,ho6,⟨R,R,R,trivial⟩,R⟩
def G7 (a0:Ah) (a1:Bc) (a2:Bg):Option (Ah × Int) :=
 (C5 a0.Cert a1.ID a2).bind fun v1=>if (!decide (v1.2=0)) then ((Cx a0 a1).bind fun v2=>some (v2,v1.2)) else (some ({a0 with Cert:=v1.1},0))
theorem U1 {a0:Ah} {a1:Bc} {a2:Bg} {r:Ah × Int} (h:G7 a0 a1 a2=some r):Br Tryz.prog 64 [.agg (EL.el a0),.agg (EL.el a1),.agg (EL.el a2)] (·=.tup [.agg (EL.el r.1),.one (Ii6 r.2)]):=by
 unfold G7 at h
 refine A2 Tryz.func64 R (nt:=28) R (Nbl R) ?_
 intro w0 S0
 refine csr (F2 R R (F2 R R (F2 R R (Bo R Qs (rm 1 R (Ak (csr (sv R (Ac Sy R) (ld Qq R R R R (fl Ry ti3 R R R R R R (sv R (lo Acz R R R) ?_)))))))))))
 obtain ⟨v1,hv1,h⟩:=Ae h
 refine A8 R Azd (Aa R (Aa R (Aa R Af))) (An R) (Zu hv1) (sv R (Cc R) (sv R (Ai R R) (sv R (Ai R R) (Bo R Wy (sst Xw R R R R R (rm 1 R (Ak (Bn (csr (rm 1 R (sv R (C6 R R) (Ak (ccI h R (fun h=>?_) (fun h=>?_))))))))))))))
 ·refine csr (ld De R R R R (sv R (lo Wc R R R) ?_))
  obtain ⟨v2,hv2,h⟩:=Ae h
  refine A8 R Atz (Aa R (Aa R Af)) (An R) (Ib hv2) (rm 1 R (sst Iq R R R R R (rm 1 R (Ak (Bs (Ag ?_))))))
  obtain rfl:=SJ h
  exact dn (Ad (ra De R R R) (Ad (rt R) Aj)) (An R) R
 ·refine Bf (Ab (csr (ld Qq R R R R (sv R (Ac Sy R) (sst Xw R R R R R (Ak (csr (ld De R R R R (sst Iq R R R R R (rm 1 R (Ak (Bs ?_))))))))))))
  obtain rfl:=SJ h
  exact dn (Ad (ra De R R R) (Ad (rt R) Aj)) (An R) R
def D7 (a0:List UInt8) (a1:List UInt8):Option Bool :=
 (I3 a1 a0).bind fun v1=>some (decide (0≤v1))
theorem Ny {a0:List UInt8} {a1:List UInt8} {r:Bool} (h:D7 a0 a1=some r):Br Tryz.prog 148 [.one (.sl a0.length (a0.flatMap eU8)),.one (.sl a1.length (a1.flatMap eU8))] (·=.s (.one (.b r))):=by
 unfold D7 at h
 refine A2 Tryz.func148 R (nt:=9) R (Nbl R) ?_
 intro w0 S0
 refine csr (rm 1 R (Ak (csr (rm 1 R (sv R (A4 R) ?_)))))
 obtain ⟨v1,hv1,h⟩:=Ae h
 refine A8 R Alo (Aa R (Aa R Af)) (An R) (Mj hv1) (sv R (Hn R R) (rm 1 R (Ak (Bs ?_))))
 obtain rfl:=SJ h
 exact dnT R R R R
def F4 (b1:Unit):Option Int :=
 some (-1)
def Eh (a0:List (List UInt8)) (a1:List UInt8) (s2:Int):Option (LR (Int) (Unit) (Int)) :=
 if (decide (s2<(a0.length:Int))) then ((idx a0 s2).bind fun u3=>(D7 a1 u3).bind fun v4=>if v4 then (some (.ret s2)) else (some (.cont (wI (s2+1))))) else (some (.brk ()))
def Hu (a0:List (List UInt8)) (a1:List UInt8):Option Int :=
 (Lj (Eh a0 a1) fuel 0).bind fun x=>match x with | .inl r=>some r | .inr e5=>F4 e5
theorem Rt {a0:List (List UInt8)} {a1:List UInt8} {r:Int} (h:Hu a0 a1=some r):Br Tryz.prog 147 [.one (.sl a0.length (a0.flatMap (eL eU8))),.one (.fn 148 [.sl a1.length (a1.flatMap eU8)] [])] (·=.s (.one (Ii6 r))):=by
 unfold Hu at h
 refine A2 Tryz.func147 R (nt:=19) R (Nbl R) ?_
 intro w0 S0
 refine csr (rm 1 R (Ak (Bn (csr (rm 1 R (sv R (Au S6 R) (rm 1 R (Ak (cj (Unit) (fun b1=>[]) (fun b1=>[]) (fun b1=>F4 b1=some r) (fun _=>R) (fun b1 h=>?_) ?_)))))))))
 ·unfold F4 at h
  refine csr (rm 1 R (Ak (Bs ?_)))
  obtain rfl:=SJ h
  exact dnT R R R R
 ·skip
  refine Bq ?_
  obtain ⟨x2,hx2,ho2⟩:=Ae h
  refine lpo (G:=Nat × (Int)) (fun g=>[(0,.s (.one (.sl a0.length (a0.flatMap (eL eU8))))),(1,.s (.one (.fn 148 [.sl a1.length (a1.flatMap eU8)] []))),(7,.s (.one (Ii6 (a0.length:Int)))),(8,.s (.one (Ii6 g.2)))]) (fun g=>[]) (fun g=>Lj (Eh a0 a1) g.1 g.2=some x2) (fun g=>g.1) (fuel,0) hx2 ⟨R,R,R,R,trivial⟩ [] R (fun _=>R) ?_
  clear hx2 h
  rintro ⟨n2,s2⟩ h
  obtain ⟨n2,y2,rfl,h,hk2⟩:=Fh h
  unfold Eh at h
  refine csr (sv R (Bt R R) (Ak (Bn (ccI h R (fun h=>?_) (fun h=>?_)))))
  ·refine Bf (Ab (Bn (Bq (csr (rm 2 R (Ak (csr (rm 2 R (sv R (A4 R) ?_)))))))))
   obtain ⟨u3,hu3,h⟩:=Ae h
   refine sv R (Cb (f:=(eL eU8)) S6 (fun _=>R) R R R R hu3) ?_
   refine sv R (B6 N2 R (.cp _) R) ?_
   obtain ⟨v4,hv4,h⟩:=Ae h
   refine sd R (Tn Awa (.fn _ _ _ _ R) (Aa R Af) R (Ny hv4)) (Ak (ccI h R (fun h=>?_) (fun h=>?_)))
   ·refine csr (rm 2 R (Ak (Bs (A0 (Ag (Ag (A0 (Ag ?_))))))))
    obtain rfl:=SJ h
    obtain rfl:Sum.inl _=x2:=hk2
    replace ho2:some _=some _:=ho2
    obtain rfl:=zD ho2
    exact dnT R R R R
   ·refine Bf (Ao (Ab (Ap (sv R (Bm R R) (rm 1 R (Ak ?_))))))
    obtain rfl:=SJ h
    exact ⟨(n2,(wI (s2+1))),_,hk2,⟨R,R,R,R,trivial⟩,R,zH _⟩
  ·refine Dd (Ar (Ar (Bj (Ab ?_))))
   obtain rfl:=SJ h
   obtain rfl:_=x2:=hk2
   exact ⟨(),_,ho2,trivial,R⟩
def K8 (a0:List (List UInt8)) (a1:List UInt8):Option (Int × Bool) :=
 (Hu a0 a1).bind fun v1=>if (decide (v1<0)) then (some ((a0.length:Int),false)) else ((idx a0 v1).bind fun u2=>(Ff u2 a1).bind fun v3=>some (v1,v3))
theorem Qu {a0:List (List UInt8)} {a1:List UInt8} {r:Int × Bool} (h:K8 a0 a1=some r):Br Tryz.prog 69 [.one (.sl a0.length (a0.flatMap (eL eU8))),.one (.sl a1.length (a1.flatMap eU8))] (·=.tup [.one (Ii6 r.1),.one (.b r.2)]):=by
 unfold K8 at h
 refine A2 Tryz.func69 R (nt:=22) R (Nbl R) ?_
 intro w0 S0
 refine csr (rm 2 R (Ak (csr (rm 2 R (sv R (Tq (V0 R R Qi) Qi) ?_)))))
 obtain ⟨v1,hv1,h⟩:=Ae h
 refine sd R (Tn Auy (.func _) (Aa R (Aa R Af)) R (Rt hv1)) (rm 1 R (Ak (Bn (csr (rm 1 R (sv R (Bt R R) (Ak (ccI h R (fun h=>?_) (fun h=>?_)))))))))
 ·refine csr (rm 1 R (sv R (Au S6 R) (rm 2 R (Ak (Bs (Ag ?_))))))
  obtain rfl:=SJ h
  exact dn (Ad (rt R) (Ad (rt R) Aj)) (An R) R
 ·refine Bf (Ab (csr (rm 2 R (sv R (A4 R) ?_))))
  obtain ⟨u2,hu2,h⟩:=Ae h
  refine sv R (Cb (f:=(eL eU8)) S6 (fun _=>R) R R R R hu2) ?_
  refine sv R (B6 N2 R (.cp _) R) (sv R (A4 R) ?_)
  obtain ⟨v3,hv3,h⟩:=Ae h
  refine A8 R Arx (Aa R (Aa R Af)) (An R) (N3 hv3) (rm 2 R (Ak (Bs ?_)))
  obtain rfl:=SJ h
  exact dn (Ad (rt R) (Ad (rt R) Aj)) (An R) R
def Jb (a1:Int) (s1:Int) (x1:Int × Ax):Option ((Int) ⊕ (Nat × (Int))) :=
 if (decide (x1.2.Ts≤a1)) then (some (.inr (0,x1.1))) else (some (.inl s1))
def L4 (s2:Int):Option Int :=
 some (-1)
def Lu (s3:Int):Option Int :=
 some s3
def J4 (a0:Al) (a1:Int):Option Int :=
 (Aki a0).bind fun L1=>(Rf (Jb a1) L1 0).bind fun e=>Ad8 L4 Lu (fun _ _=>none) e
theorem Rv {a0:Al} {a1:Int} {r:Int} (h:J4 a0 a1=some r):Br Tryz.prog 218 [.agg [.sl a0.L.length (a0.L.flatMap A7)],.one (Ii6 a1)] (·=.s (.one (Ii6 r))):=by
 unfold J4 at h
 refine Xo Tryz.func218 R (nt:=16) R (Nbl R) ?_
 intro w0 S0
 refine Aak (Jj R (fun w0 S0 X0 m0 H0=>?_))
 refine Ann R R R (Ann R R R (Bo R zi3 (Ak (Aak (Aak (Jj R (fun w0 S0 X0 m0 H0=>?_)))))))
 refine sv R (Bz (ys:=[.sl a0.L.length (a0.L.flatMap A7)]) O0 R (.cp _) R R) (A8 R Asu (Aa R Af) (An R) L9 (Ak (Abc ?_)))
 obtain ⟨L1,hL1,h⟩:=Ae h
 obtain ⟨e1,he1,h⟩:=Ae h
 refine Agt (Jb a1) L1 (fun x1=>.one (Ii6 x1.1)) (fun x1=>.agg (EL.el x1.2)) (fun s1=>[.box [Ii6 s1]]) 0 he1 R As9 R (Af1 hL1) R R R (fun _=>R) (fun _=>Rn R) ?_ ?_ ?_ ?_
 ·clear h
  intro x1 s1 y1 l h w0 S0 X0 H0
  unfold Jb at h
  refine Aak (Jj R (fun w0 S0 X0 m0 H0=>?_))
  refine rm 1 R (Ak (Jj R (fun w0 S0 X0 m0 H0=>?_)))
  refine Bo R Ag1 (sst Akg R R R R R (Ak (fun w0 S0 X0 H0=>?_)))
  refine Abc (Aak (Jj R (fun w0 S0 X0 m0 H0=>?_)))
  refine fl Vy ti3 R R R R R R (sv R (B6 ti3 R (.cp _) R) (sv R (Dl R R) (Ak (Arn R (fun hc=>?_) (fun hc=>?_)))))
  ·replace h:=Ve hc h
   clear hc
   refine Aak (Jj R (fun w0 S0 X0 m0 H0=>?_))
   refine rm 1 R (sst sz3 R R R R R (Ak (Ar0 (A0 ?_))))
   obtain rfl:=SJ h
   exact ⟨x1.1,_,R,R⟩
  ·replace h:=Vh hc h
   clear hc
   refine Aux (Ao ?_)
   obtain rfl:=SJ h
   exact ⟨s1,_,R,R⟩
 ·intro s2 hs
  obtain rfl:=hs
  replace h:L4 s2=some r:=h
  unfold L4 at h
  refine Ao (Ab (Aak (Jj R (fun w0 S0 X0 m0 H0=>?_))))
  refine sst sz3 R R R R R (Ak (Ar0 ?_))
  obtain rfl:=SJ h
  exact dn (Ad (Aii.one _ _ _ _ _ ti3 R (.lp _ _ _ R) R) Aj) (An R) R
 ·intro s3 hs
  obtain rfl:=hs
  replace h:Lu s3=some r:=h
  unfold Lu at h
  refine A0 (Ag ?_)
  obtain rfl:=SJ h
  exact dn (Ad (Aii.one _ _ _ _ _ ti3 R (.lp _ _ _ R) R) Aj) (An R) R
 ·intro id s hs
  obtain rfl:=hs
  replace h:none=some r:=h
  cases h
def E3 (a0:Al) (a1:Int):Option (Ax × Bool) :=
 (J4 a0 a1).bind fun v1=>if (decide (v1<0)) then (some ((Ax.mk 0 ([]:List UInt8) false),false)) else ((idx a0.L v1).bind fun u2=>some (u2,true))
theorem Zb {a0:Al} {a1:Int} {r:Ax × Bool} (h:E3 a0 a1=some r):Br Tryz.prog 149 [.agg [.sl a0.L.length (a0.L.flatMap A7)],.one (Ii6 a1)] (·=.tup [.agg (EL.el r.1),.one (.b r.2)]):=by
 unfold E3 at h
 refine A2 Tryz.func149 R (nt:=18) R (Nbl R) ?_
 intro w0 S0
 refine csr (F2 R R (Bo R Ag1 (rm 1 R (Ak (csr (ld O0 R R R R (sv R (A4 R) ?_)))))))
 obtain ⟨v1,hv1,h⟩:=Ae h
 refine A8 R Awp (Aa R (Aa R Af)) (An R) (Rv hv1) (rm 1 R (Ak (Bn (csr (rm 1 R (sv R (Bt R R) (Ak (ccI h R (fun h=>?_) (fun h=>?_)))))))))
 ·refine csr (sv R (A3 Ag1 Av6 Ay (.nil _)) (sst Akg R R R R R (rm 1 R (Ak (Bs (Ag ?_))))))
  obtain rfl:=SJ h
  exact dn (Ad (ra Ahu R R R) (Ad (rt R) Aj)) (I8 R) R
 ·refine Bf (Ab (csr (fl Tp Aaq R R R R R R (sv R (A4 R) ?_))))
  obtain ⟨u2,hu2,h⟩:=Ae h
  refine sv R (Cb (f:=A7) Wu (fun _=>R) R R R R hu2) ?_
  refine sv R (Bz (ys:=[Ii6 u2.Ts,.sl u2.Val.length (u2.Val.flatMap eU8),.b u2.Del]) Ahu R (.cp _) R R) (sst Akg R R R R R (rm 1 R (Ak (Bs ?_))))
  obtain rfl:=SJ h
  exact dn (Ad (ra Ahu R R R) (Ad (rt R) Aj)) (An R) R
def Ly (v1:Ax × Bool) (b2:Unit):Option ((List UInt8) × Bool) :=
 some (v1.1.Val,true)
def E0 (a0:Al) (a1:Int):Option ((List UInt8) × Bool) :=
 (E3 a0 a1).bind fun v1=>if (!v1.2) then (some (([]:List UInt8),false)) else (if v1.1.Del then (some (([]:List UInt8),false)) else (Ly v1 ()))
theorem Ru {a0:Al} {a1:Int} {r:(List UInt8) × Bool} (h:E0 a0 a1=some r):Br Tryz.prog 70 [.agg [.sl a0.L.length (a0.L.flatMap A7)],.one (Ii6 a1)] (·=.tup [.one (.sl r.1.length (r.1.flatMap eU8)),.one (.b r.2)]):=by
 unfold E0 at h
 refine A2 Tryz.func70 R (nt:=22) R (Nbl R) ?_
 intro w0 S0
 refine csr (F2 R R (rm 2 R (Ak (csr (ld O0 R R R R (sv R (A4 R) ?_))))))
 obtain ⟨v1,hv1,h⟩:=Ae h
 refine A8 R Aza (Aa R (Aa R Af)) (An R) (Zb hv1) (sv R (Cc R) (sv R (Ai R R) (sv R (Ai R R) (Bo R Ag1 (sst Akg R R R R R (rm 1 R (Ak (Bn (Bn (cj3 (Unit) (fun b2=>[(6,.s (.one (.lp 1 0)))]) (fun b2=>[.box [.sl a0.L.length (a0.L.flatMap A7)],.box (EL.el v1.1)]) (fun b2=>Ly v1 b2=some r) (fun _=>R) (fun b2 h=>?_) ?_))))))))))
 ·unfold Ly at h
  refine csr (fl Ahg N2 R R R R R R (rm 2 R (Ak (Bs ?_))))
  obtain rfl:=SJ h
  exact dn (Ad (rt R) (Ad (rt R) Aj)) (An R) R
 ·skip
  refine Ap (rm 1 R (sv R (B1 R) (rm 1 R (ssI 16 h R (fun h=>?_) (fun h=>?_)))))
  ·refine rm 3 R (Ak (Ck R (fun _=>?_) (fun hx=>Bool.noConfusion hx)))
   refine csr (rm 2 R (Ak (Bs (Ag ?_))))
   obtain rfl:=SJ h
   exact dn (Ad (rt R) (Ad (rt R) Aj)) (I8 R) R
  ·refine son R R R (sv R (Ac Agx R) (son R R R (sv R (l1 ti4 R R R) (rm 1 R (Ak (ccI h R (fun h=>?_) (fun h=>?_)))))))
   ·refine csr (rm 2 R (Ak (Bs (Ag ?_))))
    obtain rfl:=SJ h
    exact dn (Ad (rt R) (Ad (rt R) Aj)) (I8 R) R
   ·refine Bf (Ab ?_)
    exact ⟨(),_,h,⟨R,trivial⟩,R⟩
def Nq (a0:Bw) (a2:Int) (v1:Int × Bool) (b2:Unit):Option ((List UInt8) × Bool) :=
 (idx a0.Chains v1.1).bind fun u3=>(E0 u3 a2).bind fun v4=>some (v4.1,v4.2)
def B5 (a0:Bw) (a1:List UInt8) (a2:Int):Option ((List UInt8) × Bool) :=
 (K8 a0.Keys a1).bind fun v1=>if (!v1.2) then (some (([]:List UInt8),false)) else ((Dc a0).bind fun v5=>if (!v5) then (some (([]:List UInt8),false)) else (Nq a0 a2 v1 ()))
theorem Z9 {a0:Bw} {a1:List UInt8} {a2:Int} {r:(List UInt8) × Bool} (h:B5 a0 a1 a2=some r):Br Tryz.prog 28 [.agg (EL.el a0),.one (.sl a1.length (a1.flatMap eU8)),.one (Ii6 a2)] (·=.tup [.one (.sl r.1.length (r.1.flatMap eU8)),.one (.b r.2)]):=by
 unfold B5 at h
 refine A2 Tryz.func28 R (nt:=33) R (Nbl R) ?_
 intro w0 S0
 refine csr (F2 R R (rm 2 R (Ak (csr (fl Q8 Ac0 R R R R R R (sv R (A4 R) ?_))))))
 obtain ⟨v1,hv1,h⟩:=Ae h
 refine A8 R Aw0 (Aa R (Aa R Af)) (An R) (Qu hv1) (sv R (Cc R) (sv R (Ai R R) (sv R (Ai R R) (rm 2 R (Ak (Bn (Bn (cj3 (Unit) (fun b2=>[(2,.s (.one (Ii6 a2))),(3,.s (.one (.lp 0 0))),(8,.s (.one (Ii6 v1.1)))]) (fun b2=>[.box (EL.el a0)]) (fun b2=>Nq a0 a2 v1 b2=some r) (fun _=>R) (fun b2 h=>?_) ?_))))))))
 ·unfold Nq at h
  refine csr (fl Qt Ajr R R R R R R (sv R (A4 R) ?_))
  obtain ⟨u3,hu3,h⟩:=Ae h
  refine sv R (Cb (f:=As) Ap3 (fun _=>R) R R R R hu3) ?_
  refine sv R (Bz (ys:=[.sl u3.L.length (u3.L.flatMap A7)]) O0 R (.cp _) R R) (sv R (A4 R) ?_)
  obtain ⟨v4,hv4,h⟩:=Ae h
  refine A8 R Az3 (Aa R (Aa R Af)) (An R) (Ru hv4) (sv R (Ai R R) (sv R (Ai R R) (rm 2 R (Ak (Bs ?_)))))
  obtain rfl:=SJ h
  exact dn (Ad (rt R) (Ad (rt R) Aj)) (An R) R
 ·skip
  refine Ap (rm 1 R (sv R (B1 R) (rm 1 R (ssI 19 h R (fun h=>?_) (fun h=>?_)))))
  ·refine rm 4 R (Ak (Ck R (fun _=>?_) (fun hx=>Bool.noConfusion hx)))
   refine csr (rm 2 R (Ak (Bs (Ag ?_))))
   obtain rfl:=SJ h
   exact dn (Ad (rt R) (Ad (rt R) Aj)) (I8 R) R
  ·refine son R R R (ld Yb R R R R (son R R R ?_))
   obtain ⟨v5,hv5,h⟩:=Ae h
   refine A8 R Auh (Aa R Af) (An R) (Lg hv5) (son R R R (sv R (B1 R) (rm 1 R (Ak (ccI h R (fun h=>?_) (fun h=>?_))))))
   ·refine csr (rm 2 R (Ak (Bs (Ag ?_))))
    obtain rfl:=SJ h
    exact dn (Ad (rt R) (Ad (rt R) Aj)) (I8 R) R
   ·refine Bf (Ab ?_)
    exact ⟨(),_,h,⟨R,R,R,trivial⟩,R⟩
def Hs (a0:Ah) (a1:Int) (a2:List UInt8):Option (Ah × (List UInt8) × Bool × Int) :=
 (Fc a0 a1).bind fun v1=>if (!decide (v1.2=0)) then ((Dq a0 v1.2).bind fun v2=>some (v2,([]:List UInt8),false,v1.2)) else ((Ez a2).bind fun v3=>if (!v3) then (some (a0,([]:List UInt8),false,1)) else ((Jn v1.1.Buf a2).bind fun v4=>if v4.2 then (some (a0,v4.1.Val,(!v4.1.Del),0)) else ((Pt a2).bind fun v5=>(G7 a0 v1.1 v5).bind fun v6=>if (!decide (v6.2=0)) then (some (v6.1,([]:List UInt8),false,v6.2)) else ((B5 v6.1.Store a2 v1.1.Snap).bind fun v7=>some (v6.1,v7.1,v7.2,0)))))
theorem Oc {a0:Ah} {a1:Int} {a2:List UInt8} {r:Ah × (List UInt8) × Bool × Int} (h:Hs a0 a1 a2=some r):Br Tryz.prog 24 [.agg (EL.el a0),.one (Ii6 a1),.one (.sl a2.length (a2.flatMap eU8))] (·=.tup [.agg (EL.el r.1),.one (.sl r.2.1.length (r.2.1.flatMap eU8)),.one (.b r.2.2.1),.one (Ii6 r.2.2.2)]):=by
 unfold Hs at h
 refine A2 Tryz.func24 R (nt:=70) R (Nbl R) ?_
 intro w0 S0
 refine csr (F2 R R (Bo R Qs (rm 3 R (Ak (csr (ld De R R R R (sv R (A4 R) ?_)))))))
 obtain ⟨v1,hv1,h⟩:=Ae h
 refine A8 R At5 (Aa R (Aa R Af)) (An R) (Ll hv1) (sv R (Cc R) (sv R (Ai R R) (sv R (Ai R R) (Bo R Aag (sst Aah R R R R R (rm 1 R (Ak (Bn (csr (rm 1 R (sv R (C6 R R) (Ak (ccI h R (fun h=>?_) (fun h=>?_))))))))))))))
 ·refine csr (ld De R R R R (sv R (A4 R) ?_))
  obtain ⟨v2,hv2,h⟩:=Ae h
  refine A8 R Atw (Aa R (Aa R Af)) (An R) (Jp hv2) (rm 1 R (sst Iq R R R R R (rm 3 R (Ak (Bs (Ag ?_))))))
  obtain rfl:=SJ h
  exact dn (Ad (ra De R R R) (Ad (rt R) (Ad (rt R) (Ad (rt R) Aj)))) (I8 R) R
 ·refine Bf (Ab (Bn (csr (sv R (A4 R) ?_))))
  obtain ⟨v3,hv3,h⟩:=Ae h
  refine A8 R Awu (Aa R Af) (An R) (N8 hv3) (sv R (B1 R) (Ak (ccI h R (fun h=>?_) (fun h=>?_))))
  ·refine csr (ld De R R R R (sst Iq R R R R R (rm 3 R (Ak (Bs (Ag ?_))))))
   obtain rfl:=SJ h
   exact dn (Ad (ra De R R R) (Ad (rt R) (Ad (rt R) (Ad (rt R) Aj)))) (I8 R) R
  ·refine Bf (Ab (Bn (csr (sv R (Ac Ye R) (ld Ag2 R R R R (sv R (A4 R) ?_))))))
   obtain ⟨v4,hv4,h⟩:=Ae h
   refine A8 R A1b (Aa R (Aa R Af)) (An R) (Yz hv4) (sv R (Cc R) (sv R (Ai R R) (sv R (Ai R R) (Bo R Aj9 (sst Amh R R R R R (rm 1 R (Ak (csr (rm 1 R (Ak (ccI h R (fun h=>?_) (fun h=>?_))))))))))))
   ·refine Bn ?_
    refine Ku [6] [0,0,2,0,8,24,1,71,255,511] [[.box (EL.el a0),.box Zba,.box (EL.el v1.1),.box (EL.el v4.1)],[.box (EL.el a0),.box (EL.el a0),.box (EL.el v1.1),.box (EL.el v4.1)]] (by kernel_rfl) mixed (by kernel_rfl) (by decide) R R R R ?_
    refine evs (md:=[.box (EL.el a0),.dead,.box (EL.el v1.1),.box (EL.el v4.1)]) (fun hS=>ev (A9 0 R R) R R (lo De R R R) (ev (B9 hS) R R (Ac Zo R) (ev (B9 hS) R R (l1 N2 R R R) (ev (B9 hS) R R (Ac Adm R) (ev (B9 hS) R R (l1 ti4 R R R) (ev (B9 hS) R R (B1 R) (ee0 0 R R R R (fun ζ=>?_) ?_))))))) ⟨⟨R,⟨trivial,⟨R,⟨R,trivial⟩⟩⟩⟩,⟨⟨R,⟨trivial,⟨R,⟨R,trivial⟩⟩⟩⟩,trivial⟩⟩
    ·refine sst Iq R R R R R (Pq [.box (EL.el a0),.box (EL.el a0),.box (EL.el v1.1),.box (EL.el v4.1)] R ?_)
     exact Rk
    refine ev (A9 1 R R) R R (Lh R) (ev (A9 1 R R) R R (Lh R) (ev (A9 1 R R) R R (Lh R) (Abf (Ab (Bs (Ag ?_))))))
    obtain rfl:=SJ h
    exact dn (Ad (ra De R R R) (Ad (rt R) (Ad (rt R) (Ad (rt R) Aj)))) (An R) R
   ·refine Bf (Ab (Bn ?_))
    obtain ⟨v5,hv5,h⟩:=Ae h
    obtain ⟨v6,hv6,h⟩:=Ae h
    refine Ku [8] [0,0,0,4,15,31,63,63,127,511] [[.box (EL.el a0),.box Zba,.box (EL.el v1.1),.box (EL.el v4.1)],[.box (EL.el v6.1),.box Zba,.box (EL.el v1.1),.box (EL.el v4.1)]] (by kernel_rfl) mixed (by kernel_rfl) (by decide) R R R R ?_
    refine ev (A9 0 R R) R R (lo De R R R) (ev (A9 0 R R) R R (lo Wc R R R) (ev (A9 0 R R) R R (A4 R) (ed (A9 0 R R) R R (Db A0a (Aa R Af) R (Aar hv5)) (ed (A9 0 R R) R R (Db Azv (Aa R (Aa R (Aa R Af))) R (U1 hv6)) (ev (A9 0 R R) R R (Cc R) (ev (A9 0 R R) R R (Ai R R) (ev (B9 (md:=[.dead,.box Zba,.box (EL.el v1.1),.box (EL.el v4.1)]) ⟨⟨trivial,⟨R,⟨R,⟨R,trivial⟩⟩⟩⟩,⟨⟨trivial,⟨R,⟨R,⟨R,trivial⟩⟩⟩⟩,trivial⟩⟩) R R (Ai R R) (ee0 0 R R R R (fun ζ=>?_) ?_))))))))
    ·refine sst Iq R R R R R (Pq [.box (EL.el v6.1),.box Zba,.box (EL.el v1.1),.box (EL.el v4.1)] R ?_)
     exact Rk
    refine ev (A9 1 R R) R R (Lh R) (Abf (Ab (Bn (csr (rm 1 R (sv R (C6 R R) (Ak (ccI h R (fun h=>?_) (fun h=>?_)))))))))
    ·refine csr (ld De R R R R (rm 1 R (sst Iq R R R R R (rm 3 R (Ak (Bs (Ag ?_)))))))
     obtain rfl:=SJ h
     exact dn (Ad (ra De R R R) (Ad (rt R) (Ad (rt R) (Ad (rt R) Aj)))) (I8 R) R
    ·refine Bf (Ab (csr (sv R (Ac Sz R) (ld Yb R R R R (rm 1 R (sv R (Ac Ahw R) (sv R (l1 ti3 R R R) ?_)))))))
     obtain ⟨v7,hv7,h⟩:=Ae h
     refine A8 R A0g (Aa R (Aa R (Aa R Af))) (An R) (Z9 hv7) (sv R (Cc R) (sv R (Ai R R) (sv R (Ai R R) (rm 2 R (Ak (csr (ld De R R R R (rm 2 R (sst Iq R R R R R (rm 3 R (Ak (Bs ?_))))))))))))
     obtain rfl:=SJ h
     exact dn (Ad (ra De R R R) (Ad (rt R) (Ad (rt R) (Ad (rt R) Aj)))) (An R) R
def Ij (a0:List A6):Option (List A6) :=
 if (([]:List A6).length+a0.length)*56≤140737488355328 then (some (([]:List A6)++a0)) else none
theorem Uv {a0:List A6} {r:(List A6)} (h:Ij a0=some r):Dn Tryz.prog 126 [] [.one (.sl a0.length (a0.flatMap Ba))] (fun y m'=>y=.s (.one (.ls 0 r.length))∧m'=[.arr 99 3 0 (r.flatMap Ba)]):=by
 unfold Ij at h
 refine Dk Tryz.func126 R (nt:=8) R (Nbl R) ?_
 intro w0 S0 X0 H0
 refine csr (rm 1 R (Ak (Bn (csr (rm 1 R (Ab2 R Tryz.underlying84 R (fun nq hnq=>?_)))))))
 cases nq
 ·skip
  refine Ak (Ck R (fun hx=>Bool.noConfusion hx) (fun _=>?_))
  refine Bf (Ab (csr (Ss R Tryz.underlying84 Axb (sv R (A4 R) ?_))))
  obtain ⟨hb1,h⟩:=Cr h
  refine Ub (f:=Ba) (xs:=([]:List A6)) (us:=a0) R Tryz.underlying84 Axb A01 (fun _=>R) R R (.one _ _ _ _ (.id _ R)) R R R (.sl _ _ _ (Aw (f:=Ba) (fun _=>R) _)) R R hb1 (by decide) ?_
  refine rm 1 R (Ak (Bs ?_))
  obtain rfl:=SJ h
  exact ⟨Or.inr R,_,[0],[.one (.ls 0 (([]:List A6)++a0).length)],[.arr 99 3 0 ((([]:List A6)++a0).flatMap Ba)],(Ad (rt R) Aj),R,R,⟨by decide,R⟩,R,R,⟨R,R⟩⟩
 ·obtain rfl:=zZ (hnq rfl)
  replace h:(some ([]:List A6))=some r:=by first | exact h | (rw [if_pos (by decide)] at h;exact h)
  refine Ak (Ck R (fun _=>?_) (fun hx=>Bool.noConfusion hx))
  refine csr (rm 1 R (Ak ?_))
  refine Dh 99 3 2 (by decide) R ?_
  refine Bs (Ag ?_)
  obtain rfl:=SJ h
  exact ⟨Or.inr R,_,[0],[.one (.ls 0 ([]:List A6).length)],[.arr 99 3 0 (([]:List A6).flatMap Ba)],(Ad (rt R) Aj),R,R,⟨by decide,R⟩,R,R,⟨R,R⟩⟩
section
open Go.Lib
set_option maxHeartbeats 4000000 in
theorem Ajq (b n c vb vc:Nat) (vs:List Value) (w:World) (i0:TypeInfo) (hi0:Tryz.prog.info? 99=some i0) (hs0:i0.size=3) (hroom:n+1≤c) (hc63:c≤9223372036854775807)
  (hvl:vs.length=3) (hsp:∀ j,j<3→(w.cell? ⟨b,n*3+j,none⟩).isSome=true) (hfz:∀ j,j<3→w.frozen? ⟨b,n*3+j,none⟩=false)
  (hvs:∀ j v,vs[j]? = some v→w.cell? ⟨vb,j,none⟩=some v) (h1v:∀ v ∈ vs,v.oneCell'=true) :
  Calls Tryz.prog 127 #[.slice (some ⟨b,0,none⟩) n c,.int .i64 n,.slice (some ⟨vb,0,none⟩) 1 vc] w fun e w' =>
   e=.returned (.slice (some ⟨b,0,none⟩) (n+1) c)∧w'=w.setCells b (n*3) vs:=by
 have hsrc:_root_.Go.Src Tryz.prog i0.size 84 (.slice (some ⟨vb,0,none⟩) 1 vc) 1 vs w:=by
  rw [hs0]
  exact _root_.Go.Src.ofSlice w Tryz.underlying84 ⟨vb,0,none⟩ 1 vc vs (by omega) (fun j u hj=>by rw [Addr.add_lit,yG];exact hvs j u hj) h1v
 go_enter Tryz.func127,Tryz.ntmps127
 go_wp2_with (at_builtin;refine wpList_append_room_src _ rfl _ _ 84 84 rfl 99 i0 Tryz.underlying84 hi0 b 0 n c rfl _ rfl 1 vs hsrc hroom (by rw [hvl,hs0,yG];exact hsp) (by rw [hvl,hs0,yG];exact hfz) ?_)
 go_ret
 refine ⟨R,?_⟩
 first | rfl | (simp;done) | (simp [hs0];done)
set_option maxHeartbeats 4000000 in
theorem Aen (b n c vb vc:Nat) (cs vs:List Value) (w:World) (i0:TypeInfo) (hi0:Tryz.prog.info? 99=some i0) (hz0:i0.zero=some (.agg #[.slice none 0 0,.slice none 0 0,.bool false])) (hs0:i0.size=3) (hnc:n≤c) (hroom:c<n+1) (hn63:n+1≤9223372036854775807)
  (hfit:Builtin.nextslicecap (n+1) c*i0.bytes≤281474976710656) (hcl:cs.length=n*3) (hvl:vs.length=3)
  (hcs:∀ j v,cs[j]? = some v→w.cell? ⟨b,j,none⟩=some v) (hvs:∀ j v,vs[j]? = some v→w.cell? ⟨vb,j,none⟩=some v) (h1v:∀ v ∈ vs,v.oneCell'=true) :
  Calls Tryz.prog 127 #[.slice (some ⟨b,0,none⟩) n c,.int .i64 n,.slice (some ⟨vb,0,none⟩) 1 vc] w fun e w' =>
   e=.returned (.slice (some ⟨w.heap.size,0,none⟩) (n+1) (grownCap w (n+1) c 99)) ∧
   w'=w.drew.alloc (.cells ((cs++vs).toArray++Builtin.zeroCells (Value.cells (.agg #[.slice none 0 0,.slice none 0 0,.bool false])) (grownCap w (n+1) c 99-(n+1))) 99):=by
 have hsrc:_root_.Go.Src Tryz.prog i0.size 84 (.slice (some ⟨vb,0,none⟩) 1 vc) 1 vs w:=by
  rw [hs0]
  exact _root_.Go.Src.ofSlice w Tryz.underlying84 ⟨vb,0,none⟩ 1 vc vs (by omega) (fun j u hj=>by rw [Addr.add_lit,yG];exact hvs j u hj) h1v
 have hold:(Builtin.firstCells i0.size n (.slice (some ⟨b,0,none⟩) n c)).run Tryz.prog w.drew=.ok cs.toArray w.drew:=by
  rw [hs0]
  exact run_firstCells_some w.drew 3 n ⟨b,0,none⟩ n c cs (by omega) (fun j v hj=>by rw [Addr.add_lit,yG];exact hcs j v hj)
 have hrun:∀ ty,(Builtin.append_ #[84,84] ty #[.slice (some ⟨b,0,none⟩) n c,.slice (some ⟨vb,0,none⟩) 1 vc]).run Tryz.prog w=.ok (.slice (some ⟨w.heap.size,0,none⟩) (n+1) (grownCap w (n+1) c 99)) (w.drew.alloc (.cells ((cs++vs).toArray++Builtin.zeroCells (Value.cells (.agg #[.slice none 0 0,.slice none 0 0,.bool false])) (grownCap w (n+1) c 99-(n+1))) 99)):=fun ty =>
  run_append_grow_src w 84 84 ty 99 i0 _ Tryz.underlying84 hi0 hz0 (some ⟨b,0,none⟩) n c cs hold _ 1 vs hsrc hroom (by omega) hfit
 go_enter Tryz.func127,Tryz.ntmps127
 go_wp2_with (at_builtin;refine Lib.wpList_append_run _ rfl _ _ _ _ rfl _ _ rfl rfl _ _ (hrun _) ?_)
 all_goals (go_ret;first | exact ⟨rfl,rfl⟩ | exact ⟨rfl,by simp [Value.cells]⟩)
set_option maxHeartbeats 4000000 in
theorem Adk (b n c i vb vc:Nat) (cs vs:List Value) (w:World) (hs0:(Tryz.prog.info? 99).map (·.size)=some 3) (hi:i<n) (hroom:n+1≤c) (hc63:c≤9223372036854775807) (hvb:vb≠b)
  (hcl:cs.length=n*3) (hvl:vs.length=3)
  (hcs:∀ j v,cs[j]? = some v→w.cell? ⟨b,j,none⟩=some v) (hsp:∀ j,j<(n+1)*3→(w.cell? ⟨b,j,none⟩).isSome=true) (hfz:∀ j,j<(n+1)*3→w.frozen? ⟨b,j,none⟩=false)
  (hvs:∀ j v,vs[j]? = some v→w.cell? ⟨vb,j,none⟩=some v) (h1c:∀ v ∈ cs,v.oneCell'=true) (h1v:∀ v ∈ vs,v.oneCell'=true)
  (tA tB:TypeId) (kA kB:Nat) (hsa:w.shape? vb=some (tA,kA)) (hsb:w.shape? b=some (tB,kB)) (hkB:kB≠0) (hfa:w.frozen? ⟨vb,0,none⟩=false) (hfe:w.frozen? ⟨vb,kA,none⟩=false) :
  Calls Tryz.prog 127 #[.slice (some ⟨b,0,none⟩) n c,.int .i64 i,.slice (some ⟨vb,0,none⟩) 1 vc] w fun e w' =>
   e=.returned (.slice (some ⟨b,0,none⟩) (n+1) c)∧w'=(w.drew.setCells b ((i+1)*3) (cs.drop ((i)*3))).setCells b ((i)*3) vs:=by
 have hz2:¬ ((i:Int)=(n:Int)):=by omega
 have hz3:¬ ((c:Int)<(n:Int)+1):=by omega
 have mixed:Tryz.prog.follows .mixedOrders=true:=by kernel_rfl
 have hov:∀ lb cb,(callFunc 192 #[.slice (some ⟨vb,0,none⟩) 1 vc,.slice (some ⟨b,(i+1)*3,none⟩) lb cb]).run Tryz.prog w=.ok (.value (.bool false)) w:=fun lb cb=>by
  rw [run_callFunc_extern Tryz.func192 (by kernel_rfl) (by kernel_rfl) (by kernel_rfl) (e:=Extern.SlicesOverlaps.overlaps #[84,84] #[4]) (by kernel_rfl),
   Lib.run_overlaps_apart w 84 4 99 Tryz.underlying84 3 (fun w=>Df hs0 w) ⟨vb,0,none⟩ ⟨b,(i+1)*3,none⟩ 1 vc lb cb hvb tA tB kA kB hsa hsb hkB hfa hfe]
  rfl
 have hdl:(cs.drop ((i)*3)).length=(n-i)*3:=by rw [yB,hcl];omega
 have hw1:IntKind.i64.wrap ((i:Int)+1)=(i:Int)+1:=by rw [IntKind.wrap_i64];omega
 have hb1:(0:Int)≤(i:Int)+1:=by omega
 have hin:i≤n:=by omega
 have htn:((i:Int)+1).toNat=i+1:=by omega
 have hb2:¬ (c=i+1):=by omega
 have hb3:(i:Int)≤(n:Int)+1:=by omega
 have hb4:¬ (c=i):=by omega
 have hcp1:∀ ty dc sc,(Builtin.copy_ #[84,84] ty #[.slice (some ⟨b,(i+1)*3,none⟩) (n-i) dc,.slice (some ⟨b,(i)*3,none⟩) (n+1-i) sc]).run Tryz.prog w.drew=.ok (goInt (n-i:Nat)) (w.drew.setCells b ((i+1)*3) (cs.drop ((i)*3))):=fun ty dc sc =>
  Ig w.drew _ _ ty 99 b ((i+1)*3) (n-i) dc ⟨b,(i)*3,none⟩ (n+1-i) sc 3 (n-i) (cs.drop ((i)*3)) Tryz.underlying84 hs0 (by simp only [kF];split <;> omega) hdl
   (fun j v hj=>by rw [Addr.add_lit];exact hcs ((i)*3+j) v (by rwa [yF] at hj))
   (fun j hj=>hsp _ (by rw [hdl] at hj;omega)) (fun j hj=>hfz _ (by rw [hdl] at hj;omega)) (fun v hv=>h1c v (w4 hv))
 obtain ⟨W1,hW1⟩:∃ W1,W1=w.drew.setCells b ((i+1)*3) (cs.drop ((i)*3)):=⟨_,rfl⟩
 have hsp1:∀ k,k<(n+1)*3→(W1.cell? ⟨b,k,none⟩).isSome=true:=fun k hk=>by
  rw [hW1]
  exact isSome_setCells b (cs.drop ((i)*3)) ((i+1)*3) w.drew (fun j hj=>hsp _ (by rw [hdl] at hj;omega)) _ (hsp k hk)
 have hcp2:∀ (W:World),(∀ x,W.cell? x=W1.cell? x)→(∀ x,W.frozen? x=W1.frozen? x)→∀ ty dc,(Builtin.copy_ #[84,84] ty #[.slice (some ⟨b,(i)*3,none⟩) (n+1-i) dc,.slice (some ⟨vb,0,none⟩) 1 vc]).run Tryz.prog W=.ok (goInt (1:Nat)) (W.setCells b ((i)*3) vs):=fun W hWc hWf ty dc =>
  Ig W _ _ ty 99 b ((i)*3) (n+1-i) dc ⟨vb,0,none⟩ 1 vc 3 1 vs Tryz.underlying84 hs0 (by simp only [kF];split <;> omega) (by omega)
   (fun j v hj=>by
    rw [Addr.add_lit,hWc,hW1,yG,World.cell?_setCells_out b _ _ _ _ (fun h _=>absurd h hvb)]
    exact hvs j v hj)
   (fun j hj=>by rw [hWc];exact hsp1 _ (by omega)) (fun j hj=>by rw [hWf,hW1,World.frozen?_setCells];exact hfz _ (by omega)) h1v
 rw [← hW1] at hcp1
 go_enter Tryz.func127,Tryz.ntmps127
 go_wp2_with (simp only [hov])
 go_region_law_o (refine step_copy_runI rfl _ _ 84 84 rfl _ _ (by simp [Act.eval,Act.put]) (by simp [Act.eval,Act.put]) (hcp1 _ _ _) ?_)
 go_wp2_with (at_builtin;refine wpList_copy_runI _ rfl _ _ 84 84 rfl _ _ rfl rfl (hcp2 _ (fun _=>rfl) (fun _=>rfl) _ _) ?_)
 go_ret
 first | exact ⟨rfl,rfl⟩ | exact ⟨rfl,by rw [hW1]⟩
set_option maxHeartbeats 4000000 in
theorem Af4 (b n c i vb vc:Nat) (cs vs:List Value) (w:World) (i0:TypeInfo) (hi0:Tryz.prog.info? 99=some i0) (hz0:i0.zero=some (.agg #[.slice none 0 0,.slice none 0 0,.bool false])) (hs0:i0.size=3) (hi:i<n) (hnc:n≤c) (hroom:c<n+1) (hn63:n+1≤4611686018427387904)
  (hb48:(n+1)*i0.bytes≤281474976710656) (hfit:Builtin.nextslicecap (n+1) c*i0.bytes≤281474976710656) (hcl:cs.length=n*3) (hvl:vs.length=3)
  (hcs:∀ j v,cs[j]? = some v→w.cell? ⟨b,j,none⟩=some v) (hvs:∀ j v,vs[j]? = some v→w.cell? ⟨vb,j,none⟩=some v) (h1c:∀ v ∈ cs,v.oneCell'=true) (h1v:∀ v ∈ vs,v.oneCell'=true) :
  Calls Tryz.prog 127 #[.slice (some ⟨b,0,none⟩) n c,.int .i64 i,.slice (some ⟨vb,0,none⟩) 1 vc] w fun e w' =>
   e=.returned (.slice (some ⟨w.heap.size,0,none⟩) (n+1) (grownCap w (n+1) c 99)) ∧
   w'=(((w.alloc (.cells ((cs.take ((i)*3)).toArray++Builtin.zeroCells (Value.cells (.agg #[.slice none 0 0,.slice none 0 0,.bool false])) (n+1-i)++Builtin.zeroCells (Value.cells (.agg #[.slice none 0 0,.slice none 0 0,.bool false])) (grownCap w (n+1) c 99-(n+1))) 99)).drew.setCells w.heap.size ((i)*3) vs).drew).setCells w.heap.size ((i+1)*3) (cs.drop ((i)*3)):=by
 have mixed:Tryz.prog.follows .mixedOrders=true:=by kernel_rfl
 have hz2:¬ ((i:Int)=(n:Int)):=by omega
 have hz3:(c:Int)<(n:Int)+1:=by omega
 have hsz:(Tryz.prog.info? 99).map (·.size)=some 3:=by rw [hi0];simp [hs0]
 have hbw:b<w.heap.size:=block_lt_of_cell (hcs 0 _ (zB (by omega)))
 have hvw:vb<w.heap.size:=block_lt_of_cell (hvs 0 _ (zB (by omega)))
 have hkk:(n:Int)+1-(i:Int)=((n+1-i:Nat):Int):=by omega
 have hik:i+(n+1-i)=n+1:=by omega
 have htl:(cs.take ((i)*3)).length=i*3:=by rw [zL];omega
 have hold:(Builtin.firstCells i0.size i (.slice (some ⟨b,0,none⟩) i c)).run Tryz.prog w.drew=.ok (cs.take ((i)*3)).toArray w.drew:=by
  rw [hs0]
  exact run_firstCells_some w.drew 3 i ⟨b,0,none⟩ i c (cs.take ((i)*3)) htl (fun j v hj=>by
   rw [Addr.add_lit,yG]
   rw [yL] at hj
   split at hj
   ·exact hcs j v hj
   ·cases hj)
 have hrz:∀ ty,(Builtin.append_ #[84,3] ty #[.slice (some ⟨b,0,none⟩) i c,.int .i64 ((n:Int)+1-(i:Int))]).run Tryz.prog w =
   .ok (.slice (some ⟨w.heap.size,0,none⟩) (n+1) (grownCap w (n+1) c 99)) (w.drew.alloc (.cells ((cs.take ((i)*3)).toArray++Builtin.zeroCells (Value.cells (.agg #[.slice none 0 0,.slice none 0 0,.bool false])) (n+1-i)++Builtin.zeroCells (Value.cells (.agg #[.slice none 0 0,.slice none 0 0,.bool false])) (grownCap w (n+1) c 99-(n+1))) 99)):=fun ty=>by
  have h:=Lib.run_append_grow_zeros w 84 3 ty 99 i0 _ .i64 .i64 Tryz.underlying84 Tryz.underlying3 hi0 hz0 (some ⟨b,0,none⟩) i c (cs.take ((i)*3)) hold (n+1-i) (by omega) (by omega) (by omega) (by omega) (yO (xA _ (by omega)) hb48) (by rw [hik];exact hfit)
  rw [hik] at h
  rw [hkk]
  exact h
 obtain ⟨G,hG⟩:∃ G,G=grownCap w (n+1) c 99:=⟨_,rfl⟩
 obtain ⟨ROW,hROW⟩:∃ ROW:Array Value,ROW=(cs.take ((i)*3)).toArray++Builtin.zeroCells (Value.cells (.agg #[.slice none 0 0,.slice none 0 0,.bool false])) (n+1-i)++Builtin.zeroCells (Value.cells (.agg #[.slice none 0 0,.slice none 0 0,.bool false])) (G-(n+1)):=⟨_,rfl⟩
 rw [← hG] at hrz ⊢
 rw [← hROW] at hrz ⊢
 have hzc:∀ k,(Builtin.zeroCells (Value.cells (.agg #[.slice none 0 0,.slice none 0 0,.bool false])) k).size=k*3:=fun k=>by simp [Builtin.zeroCells,Value.cells]
 have hRl:(n+1)*3≤ROW.size:=by
  rw [hROW,yS,yS,hzc,hzc,z7,htl]
  omega
 obtain ⟨W1,hW1⟩:∃ W1,W1=w.drew.alloc (.cells ROW 99):=⟨_,rfl⟩
 rw [← hW1] at hrz
 have hN:∀ j,j<(n+1)*3→(W1.cell? ⟨w.heap.size,j,none⟩).isSome=true:=fun j hj=>by
  rw [hW1,World.cell?_alloc_at (w:=w.drew) ROW _ w.heap.size j rfl,zU (by omega)];rfl
 have hNf:∀ j,W1.frozen? ⟨w.heap.size,j,none⟩=false:=fun j=>by rw [hW1];exact World.frozen?_alloc_at (w:=w.drew) ROW _ w.heap.size j rfl
 have hOb:∀ j v,w.cell? ⟨b,j,none⟩=some v→W1.cell? ⟨b,j,none⟩=some v:=fun j v h=>by rw [hW1,World.cell?_alloc_past (w:=w.drew) _ b j hbw];exact h
 have hOv:∀ j v,w.cell? ⟨vb,j,none⟩=some v→W1.cell? ⟨vb,j,none⟩=some v:=fun j v h=>by rw [hW1,World.cell?_alloc_past (w:=w.drew) _ vb j hvw];exact h
 have hcpA:∀ (W:World),(∀ x,W.cell? x=W1.cell? x)→(∀ x,W.frozen? x=W1.frozen? x)→∀ ty dc,(Builtin.copy_ #[84,84] ty #[.slice (some ⟨w.heap.size,(i)*3,none⟩) (n+1-i) dc,.slice (some ⟨vb,0,none⟩) 1 vc]).run Tryz.prog W=.ok (goInt (1:Nat)) (W.setCells w.heap.size ((i)*3) vs):=fun W hWc hWf ty dc =>
  Ig W _ _ ty 99 w.heap.size ((i)*3) (n+1-i) dc ⟨vb,0,none⟩ 1 vc 3 1 vs Tryz.underlying84 hsz (by simp only [kF];split <;> omega) (by omega)
   (fun j v hj=>by rw [Addr.add_lit,hWc,yG];exact hOv _ v (hvs j v hj))
   (fun j hj=>by rw [hWc];exact hN _ (by omega)) (fun j hj=>by rw [hWf];exact hNf _) h1v
 have hGn:n+1≤G:=by rw [hG];exact grownCap_ge w _ _ _
 have hG63:G≤9223372036854775807:=by
  have:=grownCap_le_maxLen w (n+1) c 99 (by unfold maxLen;omega)
  rw [← hG] at this
  unfold maxLen at this
  omega
 have hGi:¬ (G=i):=by omega
 have hGim:¬ (G=i+1):=by omega
 have hci:¬ (c=i):=by omega
 have hbN:b≠w.heap.size:=by omega
 have hdl:(cs.drop ((i)*3)).length=(n-i)*3:=by rw [yB,hcl];omega
 have hcpB:∀ (W:World),(∀ x,W.cell? x=(W1.setCells w.heap.size ((i)*3) vs).cell? x)→(∀ x,W.frozen? x=(W1.setCells w.heap.size ((i)*3) vs).frozen? x)→∀ ty dc sc,(Builtin.copy_ #[84,84] ty #[.slice (some ⟨w.heap.size,(i+1)*3,none⟩) (n-i) dc,.slice (some ⟨b,(i)*3,none⟩) (n-i) sc]).run Tryz.prog W=.ok (goInt (n-i:Nat)) (W.setCells w.heap.size ((i+1)*3) (cs.drop ((i)*3))):=fun W hWc hWf ty dc sc =>
  Ig W _ _ ty 99 w.heap.size ((i+1)*3) (n-i) dc ⟨b,(i)*3,none⟩ (n-i) sc 3 (n-i) (cs.drop ((i)*3)) Tryz.underlying84 hsz (by simp only [kF];split <;> omega) hdl
   (fun j v hj=>by
    rw [Addr.add_lit,hWc,World.cell?_setCells_out _ _ _ _ _ (fun h _=>absurd h hbN)]
    exact hOb _ v (hcs ((i)*3+j) v (by rwa [yF] at hj)))
   (fun j hj=>by rw [hWc];exact isSome_setCells w.heap.size vs ((i)*3) W1 (fun t ht=>hN _ (by omega)) _ (hN _ (by rw [hdl] at hj;omega)))
   (fun j hj=>by rw [hWf,World.frozen?_setCells];exact hNf _) (fun v hv=>h1c v (w4 hv))
 subst hW1
 have hE1:∀ x,((w.alloc (.cells ROW 99)).drew).cell? x=(w.drew.alloc (.cells ROW 99)).cell? x:=fun x=>rfl
 have hE2:∀ x,((w.alloc (.cells ROW 99)).drew).frozen? x=(w.drew.alloc (.cells ROW 99)).frozen? x:=fun x=>rfl
 have hF1:∀ x,(((w.alloc (.cells ROW 99)).drew.setCells w.heap.size ((i)*3) vs).drew).cell? x=((w.drew.alloc (.cells ROW 99)).setCells w.heap.size ((i)*3) vs).cell? x:=fun x=>rfl
 have hF2:∀ x,(((w.alloc (.cells ROW 99)).drew.setCells w.heap.size ((i)*3) vs).drew).frozen? x=((w.drew.alloc (.cells ROW 99)).setCells w.heap.size ((i)*3) vs).frozen? x:=fun x=>rfl
 have hw1:IntKind.i64.wrap ((i:Int)+1)=(i:Int)+1:=by rw [IntKind.wrap_i64];omega
 have hb1:(0:Int)≤(i:Int)+1:=by omega
 have hin:i≤n:=by omega
 have htn:((i:Int)+1).toNat=i+1:=by omega
 have hb3:(i:Int)≤(n:Int):=by omega
 clear hkk hik hold hROW hG hRl htl hzc
 go_enter Tryz.func127,Tryz.ntmps127
 go_wp2_with (first
  | (at_builtin;refine Lib.wpList_append_run _ rfl _ _ _ _ rfl _ _ rfl rfl _ _ (hrz _) ?_)
  | (at_builtin;refine wpList_copy_runI _ rfl _ _ 84 84 rfl _ _ rfl rfl (hcpA _ hE1 hE2 _ _) ?_)
  | (at_builtin;refine wpList_copy_runI _ rfl _ _ 84 84 rfl _ _ rfl rfl (hcpB _ (fun _=>rfl) (fun _=>rfl) _ _ _) ?_))
 go_region_law_o (refine step_copy_runI rfl _ _ 84 84 rfl (.slice (some ⟨w.heap.size,(i+1)*3,none⟩) (n-i) (G-(i+1))) (.slice (some ⟨b,(i)*3,none⟩) (n-i) (c-i)) (by simp [Act.eval,Act.put]) (by simp [Act.eval,Act.put]) (hcpB _ hF1 hF2 3 (G-(i+1)) (c-i)) ?_)
 go_wp2
 go_ret
 exact ⟨R,R⟩
set_option maxHeartbeats 4000000 in
theorem Akr (vb vc:Nat) (vs:List Value) (w:World) (i0:TypeInfo) (hi0:Tryz.prog.info? 99=some i0) (hz0:i0.zero=some (.agg #[.slice none 0 0,.slice none 0 0,.bool false])) (hs0:i0.size=3)
  (hfit:Builtin.nextslicecap (0+1) 0*i0.bytes≤281474976710656) (hvl:vs.length=3)
  (hvs:∀ j v,vs[j]? = some v→w.cell? ⟨vb,j,none⟩=some v) (h1v:∀ v ∈ vs,v.oneCell'=true) :
  Calls Tryz.prog 127 #[.slice none 0 0,.int .i64 ((0:Nat):Int),.slice (some ⟨vb,0,none⟩) 1 vc] w fun e w' =>
   e=.returned (.slice (some ⟨w.heap.size,0,none⟩) (0+1) (grownCap w (0+1) 0 99)) ∧
   w'=w.drew.alloc (.cells (([]++vs).toArray++Builtin.zeroCells (Value.cells (.agg #[.slice none 0 0,.slice none 0 0,.bool false])) (grownCap w (0+1) 0 99-(0+1))) 99):=by
 have hsrc:_root_.Go.Src Tryz.prog i0.size 84 (.slice (some ⟨vb,0,none⟩) 1 vc) 1 vs w:=by
  rw [hs0]
  exact _root_.Go.Src.ofSlice w Tryz.underlying84 ⟨vb,0,none⟩ 1 vc vs (by omega) (fun j u hj=>by rw [Addr.add_lit,yG];exact hvs j u hj) h1v
 have hold:(Builtin.firstCells i0.size 0 (.slice none 0 0)).run Tryz.prog w.drew=.ok ([]:List Value).toArray w.drew:=by
  rw [hs0]
  exact run_firstCells_none w.drew 3 0 0 0
 have hrun:∀ ty,(Builtin.append_ #[84,84] ty #[.slice none 0 0,.slice (some ⟨vb,0,none⟩) 1 vc]).run Tryz.prog w=.ok (.slice (some ⟨w.heap.size,0,none⟩) (0+1) (grownCap w (0+1) 0 99)) (w.drew.alloc (.cells (([]++vs).toArray++Builtin.zeroCells (Value.cells (.agg #[.slice none 0 0,.slice none 0 0,.bool false])) (grownCap w (0+1) 0 99-(0+1))) 99)):=fun ty =>
  run_append_grow_src w 84 84 ty 99 i0 _ Tryz.underlying84 hi0 hz0 none 0 0 [] hold _ 1 vs hsrc (by omega) (by omega) hfit
 go_enter Tryz.func127,Tryz.ntmps127
 go_wp2_with (at_builtin;refine Lib.wpList_append_run _ rfl _ _ _ _ rfl _ _ rfl rfl _ _ (hrun _) ?_)
 all_goals (go_ret;first | exact ⟨rfl,rfl⟩ | exact ⟨rfl,by simp [Value.cells]⟩)
theorem Ag3:(Tryz.prog.info? 99).map (fun i=>(i.zero,i.size,i.bytes))=some (some (.agg #[.slice none 0 0,.slice none 0 0,.bool false]),3,56):=by kernel_rfl
theorem Aph {cs vs:List Lf} {n i:Nat} (hcl:cs.length=n*3) (hvl:vs.length=3) (hi:i≤n) (hn:(n+1)*56≤140737488355328) :
  Dn Tryz.prog 127 [.arr 99 3 0 cs,.arr 99 3 0 vs] [.one (.ls 0 n),.one (Ii6 (i:Int)),.one (.ls 1 1)] (fun y m'=>y=.s (.one (.ls 0 (n+1)))∧m'=[.arr 99 3 0 (cs.take (i*3)++vs++cs.drop (i*3)),.dead]):=by
 refine Xd (by decide) hcl hvl (fun w v1 vb vc cur2 xs ys hown hg2 hcell hyl hne hx1 hy1=>?_)
 obtain ⟨i0,hi0,hz0,hs0,hb0⟩:=info_parts Ag3
 have hxl:=hown.1
 have hfitG:∀ {old},old<n+1→Builtin.nextslicecap (n+1) old*i0.bytes≤281474976710656:=fun h=>growslice_fits h (by rw [hb0];exact hn)
 have hsz':(Tryz.prog.info? 99).map (·.size)=some 3:=by rw [hi0];simp [hs0]
 have hzc:∀ k,(Builtin.zeroCells (Value.cells (.agg #[.slice none 0 0,.slice none 0 0,.bool false])) k).size=k*3:=fun k=>by simp [Builtin.zeroCells,Value.cells]
 have hg63:∀ c,grownCap w (n+1) c 99≤maxLen:=fun c=>grownCap_le_maxLen w (n+1) c 99 (by unfold maxLen;omega)
 have hgge:∀ c,n+1≤grownCap w (n+1) c 99:=fun c=>grownCap_ge w _ _ _
 rcases hown.2 with ⟨rfl,h0⟩ | ⟨g,cap,cur,rfl,_,hg,hnc,hcm,hcs,hct⟩
 ·subst h0
  have hi0':i=0:=by omega
  subst hi0'
  have hx0:xs=[]:=jR.1 (hxl.trans (wS _))
  subst hx0
  refine (Akr vb vc ys w i0 hi0 hz0 hs0 (hfitG (by omega)) hyl hcell hy1).mono ?_
  rintro e w' ⟨rfl,rfl⟩
  refine ⟨_,w.heap.size,R,O1 (hgge 0) (hg63 0) ?_ ?_,.inr (zN _)⟩
  ·have:=hgge 0
   rw [yS,hzc,z7,wW,hyl];omega
  ·rw [xK,yW,xY (by rw [wW,hyl])]
   simp
 ·have hcur:cur.toList.length=cap*3:=by rw [yA];exact hcs
  have hcell1:∀ j v,xs[j]? = some v→w.cell? ⟨g,j,none⟩=some v:=fun j v hj=>by
   unfold World.cell?
   rw [hg]
   rw [← hct,yL] at hj
   split at hj
   ·simpa using hj
   ·cases hj
  have hc63:cap≤9223372036854775807:=by unfold maxLen at hcm;exact hcm
  have hsome:∀ j,j<cap*3→(w.cell? ⟨g,j,none⟩).isSome=true:=fun j hj=>by
   unfold World.cell?
   rw [hg]
   show (cur[j]?).isSome=true
   rw [zU (by omega)];rfl
  have hfrz:∀ j,w.frozen? ⟨g,j,none⟩=false:=fun j=>by
   unfold World.frozen?
   rw [hg]
   show (decide (0≤j) && decide (j<0))=false
   rw [decide_eq_false (zS j),jB]
  have hfrz2:∀ j,w.frozen? ⟨vb,j,none⟩=false:=fun j=>by
   unfold World.frozen?
   rw [hg2]
   show (decide (0≤j) && decide (j<0))=false
   rw [decide_eq_false (zS j),jB]
  have hvb:vb≠g:=fun e=>hne (by rw [e];rfl)
  rcases Nat.lt_or_eq_of_le hi with hlt | rfl
  ·rcases zP cap (n+1) with hroom | hroom
   ·refine (Af4 g n cap i vb vc xs ys w i0 hi0 hz0 hs0 hlt hnc hroom (by omega) (by rw [hb0];omega) (hfitG hroom) hxl hyl hcell1 hcell hx1 hy1).mono ?_
    rintro e w' ⟨rfl,rfl⟩
    have hge:=hgge cap
    have htl:(xs.take (i*3)).length=i*3:=by rw [zL];omega
    have:=Tu (E:=99) (sz:=3) (w:=w) (row:=(xs.take (i*3)).toArray++Builtin.zeroCells (Value.cells (.agg #[.slice none 0 0,.slice none 0 0,.bool false])) (n+1-i)++Builtin.zeroCells (Value.cells (.agg #[.slice none 0 0,.slice none 0 0,.bool false])) (grownCap w (n+1) cap 99-(n+1))) (xs:=xs.take (i*3)) (vs:=ys) (D:=xs.drop (i*3)) hlt hge (hg63 cap)
     (by rw [yS,yS,hzc,hzc,z7,htl];omega) hyl (by rw [yB,hxl];omega)
     (by rw [xK,xK,yW,xQ,xY htl])
    refine ⟨_,w.heap.size,R,?_,.inr (zN _)⟩
    first | exact this | simpa only [kC] using this
   ·refine (Adk g n cap i vb vc xs ys w hsz' hlt hroom hc63 hvb hxl hyl hcell1 (fun j hj=>hsome j (by omega)) (fun j _=>hfrz j) hcell hx1 hy1 99 99 cur2.size cur.size (by unfold World.shape?;rw [hg2]) (by unfold World.shape?;rw [hg]) (by omega) (hfrz2 _) (hfrz2 _)).mono ?_
    rintro e w' ⟨rfl,rfl⟩
    have:=Sm (E:=99) (sz:=3) (b:=g) (vs:=ys) hg hlt hroom hcm hcs hyl
    rw [hct] at this
    refine ⟨_,g,R,?_,.inl R⟩
    first | exact this | simpa only [kC] using this
  ·have hxe:xs.take (i*3)++ys++xs.drop (i*3)=xs++ys:=by
    rw [yZ (by omega),wU (by omega),xF]
   rw [hxe]
   rcases zP cap (i+1) with hroom | hroom
   ·refine (Aen g i cap vb vc xs ys w i0 hi0 hz0 hs0 hnc hroom (by omega) (hfitG hroom) hxl hyl hcell1 hcell hy1).mono ?_
    rintro e w' ⟨rfl,rfl⟩
    have hge:=hgge cap
    refine ⟨_,w.heap.size,R,O1 hge (hg63 cap) ?_ ?_,.inr (zN _)⟩
    ·rw [yS,hzc,z7,zG,hxl,hyl];omega
    ·rw [xK,yW,xY (by rw [zG,hxl,hyl];omega)]
   ·refine (Ajq g i cap vb vc ys w i0 hi0 hs0 hroom hc63 hyl (fun j hj=>hsome _ (by omega)) (fun j _=>hfrz _) hcell hy1).mono ?_
    rintro e w' ⟨rfl,rfl⟩
    have:=V3 (E:=99) (sz:=3) (n:=i) (b:=g) (vs:=ys) hg hroom hcm hcs hyl
    rw [hct] at this
    exact ⟨_,g,R,this,.inl R⟩
end
def Oa (a0:List A6) (a1:Int) (a2:List A6):Option (List A6):=An5 56 a0 a1 a2
theorem Ul {a0:List A6} {a1:Int} {a2 r:List A6} (h:Oa a0 a1 a2=some r):Dn Tryz.prog 127 [.arr 99 3 0 (a0.flatMap Ba),.arr 99 3 0 (a2.flatMap Ba)] [.one (.ls 0 a0.length),.one (Ii6 a1),.one (.ls 1 a2.length)] (fun y m'=>y=.s (.one (.ls 0 r.length))∧m'=[.arr 99 3 0 (r.flatMap Ba),.dead]) :=
 Alu (f:=Ba) (fun _=>rfl) Aph h
def J3 (a0:B3) (a1:A6) (b1:Unit):Option (B3 × Int) :=
 (E4 a0).bind fun v2=>(K8 v2 a1.Key).bind fun v3=>(Ij a0.L).bind fun v4=>if v3.2 then ((idx v4 v3.1).bind fun u5=>some ((B3.mk (v4.set v3.1.toNat a1)),0)) else (if (decide (16≤(v4.length:Int))) then (some ((B3.mk ([]:List A6)),8)) else ((Oa v4 v3.1 [a1]).bind fun v6=>some ((B3.mk v6),0)))
def Eg (a0:B3) (a1:A6):Option (B3 × Int) :=
 (Fg (B3.mk a0.L)).bind fun v7=>if (!v7) then (some ((B3.mk ([]:List A6)),1)) else ((C0 (A6.mk a1.Key a1.Val a1.Del)).bind fun v8=>if (!v8) then (some ((B3.mk ([]:List A6)),1)) else (J3 a0 a1 ()))
theorem Yu {a0:B3} {a1:A6} {r:B3 × Int} (h:Eg a0 a1=some r):Br Tryz.prog 53 [.agg [.sl a0.L.length (a0.L.flatMap Ba)],.agg (EL.el a1)] (·=.tup [.agg [.sl r.1.L.length (r.1.L.flatMap Ba)],.one (Ii6 r.2)]):=by
 unfold Eg at h
 refine A2 Tryz.func53 R (nt:=46) R (Nbl R) ?_
 intro w0 S0
 refine csr (F2 R R (F2 R R (Bo R Atn (rm 1 R (Ak (Bn (Bn (cj3 (Unit) (fun b1=>[(2,.s (.one (.lp 0 0))),(3,.s (.one (.lp 1 0))),(4,.s (.one (.lp 2 0)))]) (fun b1=>[.box [.sl a0.L.length (a0.L.flatMap Ba)],.box (EL.el a1),.box [Znl]]) (fun b1=>J3 a0 a1 b1=some r) (fun _=>R) (fun b1 h=>?_) ?_))))))))
 ·unfold J3 at h
  refine Bn ?_
  obtain ⟨v2,hv2,h⟩:=Ae h
  obtain ⟨v3,hv3,h⟩:=Ae h
  refine Ku [] [0,1,0,4,15,31,63,63,127,511] [[.box [.sl a0.L.length (a0.L.flatMap Ba)],.box (EL.el a1),.box [Znl]]] (by kernel_rfl) mixed (by kernel_rfl) (by decide) R R R R ?_
  refine ev (A9 0 R R) R R (lo Ag2 R R R) (ed (A9 0 R R) R R (Db Auz (Aa R Af) R (P2 hv2)) (ev (A9 0 R R) R R (Ac S4 R) (ev (A9 0 R R) R R (l1 N2 R R R) (ed (A9 0 R R) R R (Db Aw0 (Aa R (Aa R Af)) R (Qu hv3)) (ev (A9 0 R R) R R (Cc R) (ev (A9 0 R R) R R (Ai R R) (ev (A9 0 R R) R R (Ai R R) (ev (A9 0 R R) R R (Lh R) (ev (A9 0 R R) R R (Lh R) (Abf (Ab (csr (sv R (Ac Wo R) (sv R (l1 Ao4 R R R) ?_))))))))))))))
  obtain ⟨v4,hv4,h⟩:=Ae h
  refine H7 (x':=.s (.one (.ls 3 v4.length))) (M':=[.box [.sl a0.L.length (a0.L.flatMap Ba)],.box (EL.el a1),.box [Znl],.arr 99 3 0 (v4.flatMap Ba)]) [] R Ay3 (.func _) (Aa R Af) (Uv hv4) R R (by decide) R R R ?_
  refine rm 1 R (Ak (Bn (csr (rm 1 R (Ak (ccI h R (fun h=>?_) (fun h=>?_)))))))
  ·refine csr (rm 2 R (sv R (lo Afp R R R) ?_))
   obtain ⟨u5,hu5,h⟩:=Ae h
   refine sv R (Gq (f:=Ba) Ac4 (fun _=>R) R R R R R hu5) ?_
   refine Zf (f:=Ba) (u':=a1) (sz:=3) 0 Amh (fun _=>R) R R R R R R R (zJ.1 R) (Iv hu5).2 (Nbl R) R ?_
   refine Mf 28 (y:=.s (.one (.ls 3 v4.length))) (.s (.one (.ls 3 (v4.set v3.1.toNat a1).length))) R (congrArg (fun n=>AV.s (.one (.ls 3 n))) List.length_set.symm) ?_
   refine Mf 8 (y:=.s (.one (.ls 3 v4.length))) (.s (.one (.ls 3 (v4.set v3.1.toNat a1).length))) R (congrArg (fun n=>AV.s (.one (.ls 3 n))) List.length_set.symm) ?_
   refine Mf 30 (y:=.s (.one (.ls 3 v4.length))) (.s (.one (.ls 3 (v4.set v3.1.toNat a1).length))) R (congrArg (fun n=>AV.s (.one (.ls 3 n))) List.length_set.symm) ?_
   refine Ak (csr (rm 1 R (sv R (A3 Atn Au7 (Av R Ay) (.cons _ _ _ _ _ _ _ R R (Nbl R) (.nil _))) (sst Ars R R R R R (rm 1 R (Ak (Bs (Ag ?_))))))))
   obtain rfl:=SJ h
   refine ⟨Or.inr R,_,_,_,(Ad (ra Ag2 R R R) (Ad (rt R) Aj)),(by (repeat' first | exact H6.nil _ | apply H6.cons | apply Hy.one | apply Hy.agg | exact C7.nil | exact C7.ls _ _ _ _ _ _ R (Aw (f:=Ba) (fun _=>R) _).symm | exact C7.id _ R | exact Cs.nil _ | apply Cs.cons)),?_⟩
   rfl
  ·refine Bf (Ab (Bn (csr (rm 1 R (sv R (Hj Ac4 R R (Aw (f:=Ba) (fun _=>R) _).symm) ?_)))))
   refine sv R (Hn R R) (Ak (ccI h R (fun h=>?_) (fun h=>?_)))
   ·refine csr (sv R (A3 Atn Au7 Ay (.nil _)) (sst Ars R R R R R (rm 1 R (Ak (Bs (Ag ?_))))))
    obtain rfl:=SJ h
    exact dn (Ad (ra Ag2 R R R) (Ad (rt R) Aj)) (I8 R) R
   ·refine Bf (Ab (csr (rm 2 R (sv R (lo Afp R R R) ?_))))
    refine Fo R Tryz.underlying84 Axb R R (zJ.1 R) (by decide) ?_
    refine Pq [.box [.sl a0.L.length (a0.L.flatMap Ba)],.box (EL.el a1),.box [Znl],.arr 99 3 0 (v4.flatMap Ba),.arr 99 3 0 ([a1].flatMap Ba)] R ?_
    obtain ⟨v6,hv6,h⟩:=Ae h
    refine H7 (x':=.s (.one (.ls 3 v6.length))) (M':=[.box [.sl a0.L.length (a0.L.flatMap Ba)],.box (EL.el a1),.box [Znl],.arr 99 3 0 (v6.flatMap Ba),.dead]) [3,4] R Axt (.func _) (Aa R (Aa R (Aa R Af))) (Ul hv6) R R (by decide) R R R ?_
    refine sv R (A3 Atn Au7 (Av R Ay) (.cons _ _ _ _ _ _ _ R R (Nbl R) (.nil _))) (sst Ars R R R R R (rm 1 R (Ak (Bs ?_))))
    obtain rfl:=SJ h
    refine ⟨Or.inr R,_,_,_,(Ad (ra Ag2 R R R) (Ad (rt R) Aj)),(by (repeat' first | exact H6.nil _ | apply H6.cons | apply Hy.one | apply Hy.agg | exact C7.nil | exact C7.ls _ _ _ _ _ _ R (Aw (f:=Ba) (fun _=>R) _).symm | exact C7.id _ R | exact Cs.nil _ | apply Cs.cons)),?_⟩
    rfl
 ·skip
  refine Ap (sv R (lo Ag2 R R R) ?_)
  obtain ⟨v7,hv7,h⟩:=Ae h
  refine A8 R As7 (Aa R Af) (An R) (Oe hv7) (sv R (B1 R) (rm 1 R (ssI 12 h R (fun h=>?_) (fun h=>?_))))
  ·refine rm 4 R (Ak (Ck R (fun _=>?_) (fun hx=>Bool.noConfusion hx)))
   refine csr (sv R (A3 Atn Au7 Ay (.nil _)) (sst Ars R R R R R (rm 1 R (Ak (Bs (Ag ?_))))))
   obtain rfl:=SJ h
   exact dn (Ad (ra Ag2 R R R) (Ad (rt R) Aj)) (I8 R) R
  ·refine son R R R (ld Afp R R R R (son R R R ?_))
   obtain ⟨v8,hv8,h⟩:=Ae h
   refine A8 R Awq (Aa R Af) (An R) (Od hv8) (son R R R (sv R (B1 R) (rm 1 R (Ak (ccI h R (fun h=>?_) (fun h=>?_))))))
   ·refine csr (sv R (A3 Atn Au7 Ay (.nil _)) (sst Ars R R R R R (rm 1 R (Ak (Bs (Ag ?_))))))
    obtain rfl:=SJ h
    exact dn (Ad (ra Ag2 R R R) (Ad (rt R) Aj)) (I8 R) R
   ·refine Bf (Ab ?_)
    exact ⟨(),_,h,⟨R,R,R,trivial⟩,R⟩
def Qe (a0:Ah) (a1:Bc) (a2:Int):Option Ah :=
 (Rl a2 1).bind fun v1=>if v1 then (some a0) else ((Cx a0 a1).bind fun v2=>some v2)
theorem Z2 {a0:Ah} {a1:Bc} {a2:Int} {r:Ah} (h:Qe a0 a1 a2=some r):Br Tryz.prog 66 [.agg (EL.el a0),.agg (EL.el a1),.one (.raw (.iface 62 (.int .i64 a2)))] (·=.s (.agg (EL.el r))):=by
 unfold Qe at h
 refine A2 Tryz.func66 R (nt:=14) R (Nbl R) ?_
 intro w0 S0
 refine csr (F2 R R (F2 R R (Bo R Qs (Ak (Bn (csr (rm 1 R (sv R (Aix Tryz.underlying62 R) ?_))))))))
 obtain ⟨v1,hv1,h⟩:=Ae h
 refine A8 R Azo (Aa R (Aa R Af)) (An R) (Yx hv1) (Ak (ccI h R (fun h=>?_) (fun h=>?_)))
 ·refine csr (ld De R R R R (sst Iq R R R R R (Ak (Bs (Ag ?_)))))
  obtain rfl:=SJ h
  exact dnA R De R (.lp _ _ _ R) (Nbl R) R R
 ·refine Bf (Ab (csr (ld De R R R R (sv R (lo Wc R R R) ?_))))
  obtain ⟨v2,hv2,h⟩:=Ae h
  refine A8 R Atz (Aa R (Aa R Af)) (An R) (Ib hv2) (sst Iq R R R R R (Ak (Bs ?_)))
  obtain rfl:=SJ h
  exact dnA R De R (.lp _ _ _ R) (Nbl R) R R
def Ik (a0:List Bc):Option (List Bc) :=
 if (([]:List Bc).length+a0.length)*64≤140737488355328 then (some (([]:List Bc)++a0)) else none
theorem Us {a0:List Bc} {r:(List Bc)} (h:Ik a0=some r):Dn Tryz.prog 139 [] [.one (.sl a0.length (a0.flatMap Bl))] (fun y m'=>y=.s (.one (.ls 0 r.length))∧m'=[.arr 88 6 0 (r.flatMap Bl)]):=by
 unfold Ik at h
 refine Dk Tryz.func139 R (nt:=8) R (Nbl R) ?_
 intro w0 S0 X0 H0
 refine csr (rm 1 R (Ak (Bn (csr (rm 1 R (Ab2 R Tryz.underlying38 R (fun nq hnq=>?_)))))))
 cases nq
 ·skip
  refine Ak (Ck R (fun hx=>Bool.noConfusion hx) (fun _=>?_))
  refine Bf (Ab (csr (Ss R Tryz.underlying38 As3 (sv R (A4 R) ?_))))
  obtain ⟨hb1,h⟩:=Cr h
  refine Ub (f:=Bl) (xs:=([]:List Bc)) (us:=a0) R Tryz.underlying38 As3 Azh (fun _=>R) R R (.one _ _ _ _ (.id _ R)) R R R (.sl _ _ _ (Aw (f:=Bl) (fun _=>R) _)) R R hb1 (by decide) ?_
  refine rm 1 R (Ak (Bs ?_))
  obtain rfl:=SJ h
  exact ⟨Or.inr R,_,[0],[.one (.ls 0 (([]:List Bc)++a0).length)],[.arr 88 6 0 ((([]:List Bc)++a0).flatMap Bl)],(Ad (rt R) Aj),R,R,⟨by decide,R⟩,R,R,⟨R,R⟩⟩
 ·obtain rfl:=zZ (hnq rfl)
  replace h:(some ([]:List Bc))=some r:=by first | exact h | (rw [if_pos (by decide)] at h;exact h)
  refine Ak (Ck R (fun _=>?_) (fun hx=>Bool.noConfusion hx))
  refine csr (rm 1 R (Ak ?_))
  refine Dh 88 6 2 (by decide) R ?_
  refine Bs (Ag ?_)
  obtain rfl:=SJ h
  exact ⟨Or.inr R,_,[0],[.one (.ls 0 ([]:List Bc).length)],[.arr 88 6 0 (([]:List Bc).flatMap Bl)],(Ad (rt R) Aj),R,R,⟨by decide,R⟩,R,R,⟨R,R⟩⟩
def Ns (a0:Ah) (a1:Bc):Option Ah :=
 (Ik a0.Open).bind fun v1=>(Ei (Ah.mk (Bw.mk a0.Store.Keys a0.Store.Chains a0.Store.Ts) (Be.mk a0.Cert.Txs (Bu.mk a0.Cert.Reads.L)) (Bi.mk a0.Toks.L) a0.Open a0.Next) a1.ID).bind fun v2=>(idx v1 v2).bind fun u3=>some (Ah.mk (Bw.mk a0.Store.Keys a0.Store.Chains a0.Store.Ts) (Be.mk a0.Cert.Txs (Bu.mk a0.Cert.Reads.L)) (Bi.mk a0.Toks.L) (v1.set v2.toNat a1) a0.Next)
theorem Wn {a0:Ah} {a1:Bc} {r:Ah} (h:Ns a0 a1=some r):Br Tryz.prog 67 [.agg (EL.el a0),.agg (EL.el a1)] (·=.s (.agg (EL.el r))):=by
 unfold Ns at h
 refine A2 Tryz.func67 R (nt:=19) R (Nbl R) ?_
 intro w0 S0
 refine csr (F2 R R (F2 R R (Bo R Qs (Ak (csr (sv R (Ac Rc R) (sv R (l1 Ail R R R) ?_)))))))
 obtain ⟨v1,hv1,h⟩:=Ae h
 refine H7 (x':=.s (.one (.ls 3 v1.length))) (M':=[.box (EL.el a0),.box (EL.el a1),.box Zba,.arr 88 6 0 (v1.flatMap Bl)]) [] R Axw (.func _) (Aa R Af) (Us hv1) R R (by decide) R R R ?_
 refine rm 1 R (Ak (Bn ?_))
 obtain ⟨v2,hv2,h⟩:=Ae h
 obtain ⟨u3,hu3,h⟩:=Ae h
 refine Ku [7] [0,0,0,4,14,0,63,127] [[.box (EL.el a0),.box (EL.el a1),.box Zba,.arr 88 6 0 (v1.flatMap Bl)],[.box (EL.el a0),.box (EL.el a1),.box Zba,.arr 88 6 0 ((v1.set v2.toNat a1).flatMap Bl)]] (by kernel_rfl) mixed (by kernel_rfl) (by decide) R R R R ?_
 refine ev (A9 0 R R) R R (A4 R) (ev (A9 0 R R) R R (lo De R R R) (ev (A9 0 R R) R R (Ac Ry R) (ev (A9 0 R R) R R (l1 ti3 R R R) (ed (A9 0 R R) R R (Db Axf (Aa R (Aa R Af)) R (Qy hv2)) (ev (A9 0 R R) R R (lo Wc R R R) ?_)))))
 refine ev (A9 0 rfl rfl) rfl rfl (Gq (f:=Bl) Y4 (fun _=>rfl) rfl rfl rfl (by first | rfl | exact List.length_set.symm) rfl hu3) ?_
 refine ee0 0 R R R R (fun ζ=>?_) ?_
 ·refine Zf (f:=Bl) (u':=a1) (sz:=6) 0 Aah (fun _=>rfl) rfl rfl rfl rfl (by first | rfl | exact List.length_set.symm) rfl rfl (zJ.1 rfl) (Iv hu3).2 (Nbl rfl) rfl ?_
  exact Rk
 refine Abf (Ab (W0 8 (y:=.s (.one (.ls 3 v1.length))) (.s (.one (.ls 3 (v1.set v2.toNat a1).length))) R (congrArg (fun n=>AV.s (.one (.ls 3 n))) List.length_set.symm) ?_))
 refine W0 5 (y:=.s (.one (.ls 3 v1.length))) (.s (.one (.ls 3 (v1.set v2.toNat a1).length))) R (congrArg (fun n=>AV.s (.one (.ls 3 n))) List.length_set.symm) ?_
 refine W0 9 (y:=.s (.one (.ls 3 v1.length))) (.s (.one (.ls 3 (v1.set v2.toNat a1).length))) R (congrArg (fun n=>AV.s (.one (.ls 3 n))) List.length_set.symm) ?_
 refine csr (rm 1 R (sv R (Ac Rc R) (sst Az5 R R R R R (Ak (csr (ld De R R R R (sst Iq R R R R R (Ak (Bs ?_)))))))))
 obtain rfl:=SJ h
 refine ⟨Or.inr R,_,_,_,(Ad (ra De R R R) Aj),(by (repeat' first | exact H6.nil _ | apply H6.cons | apply Hy.one | apply Hy.agg | exact C7.nil | exact C7.ls _ _ _ _ _ _ R (Aw (f:=Bl) (fun _=>R) _).symm | exact C7.id _ R | exact Cs.nil _ | apply Cs.cons)),?_⟩
 rfl
def Nw (a0:Ah) (a1:Int) (a2:A6):Option (Ah × Int) :=
 (Fc a0 a1).bind fun v1=>if (!decide (v1.2=0)) then ((Dq a0 v1.2).bind fun v2=>some (v2,v1.2)) else (if v1.1.RO then (some (a0,7)) else ((Eg v1.1.Buf a2).bind fun v3=>if (!decide (v3.2=0)) then ((Qe a0 v1.1 v3.2).bind fun v4=>some (v4,v3.2)) else ((Ns a0 ({v1.1 with Buf:=v3.1})).bind fun v5=>some (v5,0))))
theorem Sr {a0:Ah} {a1:Int} {a2:A6} {r:Ah × Int} (h:Nw a0 a1 a2=some r):Br Tryz.prog 25 [.agg (EL.el a0),.one (Ii6 a1),.agg (EL.el a2)] (·=.tup [.agg (EL.el r.1),.one (Ii6 r.2)]):=by
 unfold Nw at h
 refine A2 Tryz.func25 R (nt:=46) R (Nbl R) ?_
 intro w0 S0
 refine csr (F2 R R (F2 R R (Bo R Qs (rm 1 R (Ak (csr (ld De R R R R (sv R (A4 R) ?_))))))))
 obtain ⟨v1,hv1,h⟩:=Ae h
 refine A8 R At5 (Aa R (Aa R Af)) (An R) (Ll hv1) (sv R (Cc R) (sv R (Ai R R) (sv R (Ai R R) (Bo R Aag (sst Aah R R R R R (rm 1 R (Ak (Bn (csr (rm 1 R (sv R (C6 R R) (Ak (ccI h R (fun h=>?_) (fun h=>?_))))))))))))))
 ·refine csr (ld De R R R R (sv R (A4 R) ?_))
  obtain ⟨v2,hv2,h⟩:=Ae h
  refine A8 R Atw (Aa R (Aa R Af)) (An R) (Jp hv2) (rm 1 R (sst Iq R R R R R (rm 1 R (Ak (Bs (Ag ?_))))))
  obtain rfl:=SJ h
  exact dn (Ad (ra De R R R) (Ad (rt R) Aj)) (An R) R
 ·refine Bf (Ab (Bn (csr (fl Ane ti4 R R R R R R (Ak (ccI h R (fun h=>?_) (fun h=>?_)))))))
  ·refine csr (ld De R R R R (sst Iq R R R R R (rm 1 R (Ak (Bs (Ag ?_))))))
   obtain rfl:=SJ h
   exact dn (Ad (ra De R R R) (Ad (rt R) Aj)) (An R) R
  ·refine Bf (Ab (csr (sv R (Ac Ye R) (ld Ag2 R R R R (sv R (lo Afp R R R) ?_)))))
   obtain ⟨v3,hv3,h⟩:=Ae h
   refine A8 R A1f (Aa R (Aa R Af)) (An R) (Yu hv3) (sv R (Cc R) (sv R (Ai R R) (sv R (Ai R R) (Bo R Atn (sst Ars R R R R R (rm 1 R (Ak (Bn (csr (rm 1 R (sv R (C6 R R) (Ak (ccI h R (fun h=>?_) (fun h=>?_))))))))))))))
   ·refine csr (ld De R R R R (ld Wc R R R R (rm 1 R (sv R (Aix Tryz.underlying62 R) ?_))))
    obtain ⟨v4,hv4,h⟩:=Ae h
    refine A8 R A1e (Aa R (Aa R (Aa R Af))) (An R) (Z2 hv4) (rm 1 R (sst Iq R R R R R (rm 1 R (Ak (Bs (Ag ?_))))))
    obtain rfl:=SJ h
    exact dn (Ad (ra De R R R) (Ad (rt R) Aj)) (An R) R
   ·refine Bf (Ab (csr (ld Ag2 R R R R (sv R (Ac Ye R) (sst Ars R R R R R (Ak (csr (ld De R R R R (sv R (lo Wc R R R) ?_)))))))))
    obtain ⟨v5,hv5,h⟩:=Ae h
    refine A8 R A0c (Aa R (Aa R Af)) (An R) (Wn hv5) (sst Iq R R R R R (rm 1 R (Ak (Bs ?_))))
    obtain rfl:=SJ h
    exact dn (Ad (ra De R R R) (Ad (rt R) Aj)) (An R) R
def Oq (b1:(List (List UInt8))):Option (List (List UInt8)) :=
 some b1
def Of (a0:B3) (s2:Int × (List (List UInt8))):Option (LB (Int × (List (List UInt8))) ((List (List UInt8)))) :=
 if (decide (s2.1<(a0.L.length:Int))) then ((idx a0.L s2.1).bind fun u3=>if (s2.2.length+[u3.Key].length)*24≤140737488355328 then (some (.cont ((wI (s2.1+1)),(s2.2++[u3.Key])))) else none) else (some (.brk s2.2))
def Md (a0:B3):Option (List (List UInt8)) :=
 (Cw (Of a0) fuel (0,([]:List (List UInt8)))).bind fun e5=>Oq e5
theorem Xp {a0:B3} {r:(List (List UInt8))} (h:Md a0=some r):Br Tryz.prog 141 [.agg [.sl a0.L.length (a0.L.flatMap Ba)]] (·=.s (.one (.sl r.length (r.flatMap (eL eU8))))):=by
 unfold Md at h
 refine A2 Tryz.func141 R (nt:=20) R (Nbl R) ?_
 intro w0 S0
 refine csr (F2 R R (rm 1 R (Ak (csr (rm 1 R (Ak (Bn (csr (fl Wo Ao4 R R R R R R (sv R (Au Ac4 R) (rm 1 R (Ak ?_))))))))))))
 refine Dh 56 1 3 (by decide) R ?_
 refine cj ((List (List UInt8))) (fun b1=>[(3,.s (.one (.ls 1 b1.length)))]) (fun b1=>[.box [.sl a0.L.length (a0.L.flatMap Ba)],.arr 56 1 0 (b1.flatMap (eL eU8))]) (fun b1=>Oq b1=some r) (fun _=>R) (fun b1 h=>?_) ?_
 ·unfold Oq at h
  refine csr (rm 2 R (Ak (Bs ?_)))
  obtain rfl:=SJ h
  refine ⟨Or.inr R,_,_,_,(Ad (rt R) Aj),(by (repeat' first | exact H6.nil _ | apply H6.cons | apply Hy.one | apply Hy.agg | exact C7.nil | exact C7.ls _ _ _ _ _ _ R (Aw (f:=(eL eU8)) (fun _=>R) _).symm | exact C7.id _ R | exact Cs.nil _ | apply Cs.cons)),?_⟩
  rfl
 ·skip
  refine Bq ?_
  obtain ⟨x2,hx2,ho2⟩:=Ae h
  refine lpo (G:=Nat × (Int × (List (List UInt8)))) (fun g=>[(3,.s (.one (.ls 1 g.2.2.length))),(7,.s (.one (.sl a0.L.length (a0.L.flatMap Ba)))),(8,.s (.one (Ii6 (a0.L.length:Int)))),(9,.s (.one (Ii6 g.2.1)))]) (fun g=>[.box [.sl a0.L.length (a0.L.flatMap Ba)],.arr 56 1 0 (g.2.2.flatMap (eL eU8))]) (fun g=>Cw (Of a0) g.1 g.2=some x2) (fun g=>g.1) (fuel,(0,([]:List (List UInt8)))) hx2 ⟨R,R,R,R,trivial⟩ [] R (fun _=>R) ?_
  clear hx2 h
  rintro ⟨n2,s2⟩ h
  obtain ⟨n2,y2,rfl,h,hk2⟩:=Cy h
  unfold Of at h
  refine csr (sv R (Bt R R) (Ak (Bn (ccI h R (fun h=>?_) (fun h=>?_)))))
  ·refine Bf (Ab (Bn (Bq (Bn (Ap ?_)))))
   obtain ⟨u3,hu3,h⟩:=Ae h
   refine sv R (Cb (f:=Ba) Ac4 (fun _=>R) R R R R hu3) ?_
   refine sv R (Bz (ys:=[.sl u3.Key.length (u3.Key.flatMap eU8),.sl u3.Val.length (u3.Val.flatMap eU8),.b u3.Del]) Afp R (.cp _) R R) (Bo R Aj9 (sst Amh R R R R R (Ak (Ap (rm 1 R (sv R (Ac S4 R) (sv R (l1 N2 R R R) ?_)))))))
   refine Fo R Tryz.underlying25 Afq R R (zJ.1 R) (by decide) ?_
   refine Pq [.box [.sl a0.L.length (a0.L.flatMap Ba)],.arr 56 1 0 (s2.2.flatMap (eL eU8)),.box (EL.el u3),.arr 56 1 0 ([u3.Key].flatMap (eL eU8))] R ?_
   obtain ⟨hb4,h⟩:=Cr h
   refine Ub (f:=(eL eU8)) (xs:=s2.2) (us:=[u3.Key]) R Tryz.underlying25 Afq Asb (fun _=>R) R R (.one _ _ _ _ (.ls _ _ _ _ _ _ R (Aw (f:=(eL eU8)) (fun _=>R) [u3.Key]).symm)) R R R (.sl _ _ _ (Aw (f:=(eL eU8)) (fun _=>R) _)) R R hb4 (by decide) ?_
   refine rm 1 R (Ki (Ao (Ab (Ap (sv R (Bm R R) (rm 1 R (Ak ?_)))))))
   obtain rfl:=SJ h
   exact ⟨(n2,((wI (s2.1+1)),(s2.2++[u3.Key]))),_,hk2,⟨R,R,R,R,trivial⟩,R,zH _⟩
  ·refine Dd (Ar (Ar (Bj (Ab ?_))))
   obtain rfl:=SJ h
   obtain rfl:_=x2:=hk2
   exact ⟨s2.2,_,ho2,⟨R,trivial⟩,R⟩
def Ov (b2:Unit):Option Bool :=
 some true
def Gn (a0:Be) (a2:Int) (s3:Int):Option (LR (Int) (Unit) (Bool)) :=
 if (decide (s3<(a0.Txs.length:Int))) then ((idx a0.Txs s3).bind fun u4=>if (decide (a2≤u4.End)) then (some (.ret false)) else (some (.cont (wI (s3+1))))) else (some (.brk ()))
def Gf (a0:Be) (a2:Int) (b1:Unit):Option Bool :=
 (Lj (Gn a0 a2) fuel 0).bind fun x=>match x with | .inl r=>some r | .inr e5=>Ov e5
def Mi (a0:Be) (a1:A1) (a2:Int) (a3:List (List UInt8)):Option Bool :=
 if (decide (a2≤a1.Begin)) then (some false) else (if (decide (1099511627776<a2)) then (some false) else ((Hg a3).bind fun v6=>if (!v6) then (some false) else (if a1.RO then (if (decide (0<(a3.length:Int))) then (some false) else (Gf a0 a2 ())) else (Gf a0 a2 ()))))
theorem Wz {a0:Be} {a1:A1} {a2:Int} {a3:List (List UInt8)} {r:Bool} (h:Mi a0 a1 a2 a3=some r):Br Tryz.prog 209 [.agg (EL.el a0),.agg (EL.el a1),.one (Ii6 a2),.one (.sl a3.length (a3.flatMap (eL eU8)))] (·=.s (.one (.b r))):=by
 unfold Mi at h
 refine A2 Tryz.func209 R (nt:=45) R (Nbl R) ?_
 intro w0 S0
 refine csr (F2 R R (F2 R R (rm 1 R (Ak (Bn (Bn (cj3 (Unit) (fun b1=>[(2,.s (.one (Ii6 a2))),(4,.s (.one (.lp 0 0)))]) (fun b1=>[.box (EL.el a0),.box (EL.el a1)]) (fun b1=>Gf a0 a2 b1=some r) (fun _=>R) (fun b1 h=>?_) ?_)))))))
 ·unfold Gf at h
  refine Bn (csr (fl N0 Aaj R R R R R R (sv R (Au Qd R) (rm 1 R (Ak (cj (Unit) (fun b2=>[]) (fun b2=>[.box (EL.el a0),.box (EL.el a1)]) (fun b2=>Ov b2=some r) (fun _=>R) (fun b2 h=>?_) ?_))))))
  ·unfold Ov at h
   refine csr (rm 1 R (Ak (Bs ?_)))
   obtain rfl:=SJ h
   exact dnT R R R R
  ·skip
   refine Bq ?_
   obtain ⟨x3,hx3,ho3⟩:=Ae h
   refine lpo (G:=Nat × (Int)) (fun g=>[(2,.s (.one (Ii6 a2))),(34,.s (.one (.sl a0.Txs.length (a0.Txs.flatMap Bb)))),(35,.s (.one (Ii6 (a0.Txs.length:Int)))),(36,.s (.one (Ii6 g.2)))]) (fun g=>[.box (EL.el a0),.box (EL.el a1)]) (fun g=>Lj (Gn a0 a2) g.1 g.2=some x3) (fun g=>g.1) (fuel,0) hx3 ⟨R,R,R,R,trivial⟩ [] R (fun _=>R) ?_
   clear hx3 h
   rintro ⟨n3,s3⟩ h
   obtain ⟨n3,y3,rfl,h,hk3⟩:=Fh h
   unfold Gn at h
   refine csr (sv R (Bt R R) (Ak (Bn (ccI h R (fun h=>?_) (fun h=>?_)))))
   ·refine Bf (Ab (Bn (Bq (Bn (Ap ?_)))))
    obtain ⟨u4,hu4,h⟩:=Ae h
    refine sv R (Cb (f:=Bb) Qd (fun _=>R) R R R R hu4) ?_
    refine sv R (Bz (ys:=[Ii6 u4.ID,Ii6 u4.Begin,Ii6 u4.End,Ii6 u4.State,.b u4.In,.b u4.Out,.b u4.RO,.sl u4.Keys.length (u4.Keys.flatMap (eL eU8))]) Jr R (.cp _) R R) (Bo R S8 (sst Si R R R R R (Ak (csr (rm 1 R (fl Qo ti3 R R R R R R (sv R (Dl R R) (Ak (ccI h R (fun h=>?_) (fun h=>?_))))))))))
    ·refine csr (rm 1 R (Ak (Bs (A0 (Ag (Ag (A0 (Ag ?_))))))))
     obtain rfl:=SJ h
     obtain rfl:Sum.inl _=x3:=hk3
     replace ho3:some _=some _:=ho3
     obtain rfl:=zD ho3
     exact dnT R R R R
    ·refine Bf (Ao (Ab (Ap (sv R (Bm R R) (rm 1 R (Ak ?_))))))
     obtain rfl:=SJ h
     exact ⟨(n3,(wI (s3+1))),_,hk3,⟨R,R,R,R,trivial⟩,R,zH _⟩
   ·refine Dd (Ar (Ar (Bj (Ab ?_))))
    obtain rfl:=SJ h
    obtain rfl:_=x3:=hk3
    exact ⟨(),_,ho3,trivial,R⟩
 ·skip
  refine Ap (rm 1 R (fl Vp ti3 R R R R R R (sv R (Dl R R) (rm 1 R (ssI 15 h R (fun h=>?_) (fun h=>?_))))))
  ·refine rm 12 R (B8 R R R (B8 R R R (B8 R R R (rm 2 R (Ak (Ck R (fun _=>?_) (fun hx=>Bool.noConfusion hx)))))))
   refine csr (rm 1 R (Ak (Bs (Ag ?_))))
   obtain rfl:=SJ h
   exact dnT R R R R
  ·refine rm 1 R (son R R R (sv R (C9 R R) (rm 2 R (ssI 19 h R (fun h=>?_) (fun h=>?_)))))
   ·refine rm 8 R (B8 R R R (B8 R R R (B8 R R R (rm 2 R (Ak (Ck R (fun _=>?_) (fun hx=>Bool.noConfusion hx)))))))
    refine csr (rm 1 R (Ak (Bs (Ag ?_))))
    obtain rfl:=SJ h
    exact dnT R R R R
   ·refine rm 1 R (son R R R ?_)
    obtain ⟨v6,hv6,h⟩:=Ae h
    refine A8 R Aws (Aa R Af) (An R) (Qp hv6) (son R R R (sv R (B1 R) (rm 2 R (ssI 24 h R (fun h=>?_) (fun h=>?_)))))
    ·refine rm 3 R (B8 R R R (B8 R R R (B8 R R R (rm 2 R (Ak (Ck R (fun _=>?_) (fun hx=>Bool.noConfusion hx)))))))
     refine csr (rm 1 R (Ak (Bs (Ag ?_))))
     obtain rfl:=SJ h
     exact dnT R R R R
    ·refine son R R R (sv R (Ac Age R) (son R R R (sv R (l1 ti4 R R R) (rm 1 R (ssI 27 h R (fun h=>?_) (fun h=>?_))))))
     ·refine rm 1 R (son R R R (sv R (Au S6 R) (son R R R (sv R (C9 R R) (rm 2 R (Ak (ccI h R (fun h=>?_) (fun h=>?_))))))))
      ·refine csr (rm 1 R (Ak (Bs (Ag ?_))))
       obtain rfl:=SJ h
       exact dnT R R R R
      ·refine Bf (Ab ?_)
       exact ⟨(),_,h,⟨R,R,trivial⟩,R⟩
     ·refine rm 5 R (Ak (Ck R (fun hx=>Bool.noConfusion hx) (fun _=>?_)))
      refine Bf (Ab ?_)
      exact ⟨(),_,h,⟨R,R,trivial⟩,R⟩
def Nf (b1:Unit):Option Bool :=
 some false
def Gv (s2:Int) (b5:Unit):Option (LR (Int) (Unit) (Bool)) :=
 some (.cont (wI (s2+1)))
def E6 (a2:List (List UInt8)) (u3:A1) (s6:Int):Option (LR (Int) (Unit) (Bool)) :=
 if (decide (s6<(a2.length:Int))) then ((idx a2 s6).bind fun u7=>(K8 u3.Keys u7).bind fun v8=>if v8.2 then (some (.ret true)) else (some (.cont (wI (s6+1))))) else (some (.brk ()))
def J0 (a2:List (List UInt8)) (s2:Int) (u3:A1) (b4:Unit):Option (LR (Int) (Unit) (Bool)) :=
 (Lj (E6 a2 u3) fuel 0).bind fun x=>match x with | .inl r=>some (.ret r) | .inr e9=>Gv s2 e9
def E7 (a0:Be) (a1:A1) (a2:List (List UInt8)) (s2:Int):Option (LR (Int) (Unit) (Bool)) :=
 if (decide (s2<(a0.Txs.length:Int))) then ((idx a0.Txs s2).bind fun u3=>if (!decide (u3.State=2)) then (some (.cont (wI (s2+1)))) else ((E1 a1 u3).bind fun v10=>if (!v10) then (some (.cont (wI (s2+1)))) else (J0 a2 s2 u3 ()))) else (some (.brk ()))
def Hh (a0:Be) (a1:A1) (a2:List (List UInt8)):Option Bool :=
 (Lj (E7 a0 a1 a2) fuel 0).bind fun x=>match x with | .inl r=>some r | .inr e11=>Nf e11
theorem Vi {a0:Be} {a1:A1} {a2:List (List UInt8)} {r:Bool} (h:Hh a0 a1 a2=some r):Br Tryz.prog 210 [.agg (EL.el a0),.agg (EL.el a1),.one (.sl a2.length (a2.flatMap (eL eU8)))] (·=.s (.one (.b r))):=by
 unfold Hh at h
 refine A2 Tryz.func210 R (nt:=45) R (Nbl R) ?_
 intro w0 S0
 refine csr (F2 R R (F2 R R (rm 1 R (Ak (Bn (csr (fl N0 Aaj R R R R R R (sv R (Au Qd R) (rm 1 R (Ak (cj (Unit) (fun b1=>[]) (fun b1=>[.box (EL.el a0),.box (EL.el a1)]) (fun b1=>Nf b1=some r) (fun _=>R) (fun b1 h=>?_) ?_)))))))))))
 ·unfold Nf at h
  refine csr (rm 1 R (Ak (Bs ?_)))
  obtain rfl:=SJ h
  exact dnT R R R R
 ·skip
  refine Bq ?_
  obtain ⟨x2,hx2,ho2⟩:=Ae h
  refine lpo (G:=Nat × (Int)) (fun g=>[(2,.s (.one (.sl a2.length (a2.flatMap (eL eU8))))),(4,.s (.one (.lp 1 0))),(14,.s (.one (.sl a0.Txs.length (a0.Txs.flatMap Bb)))),(15,.s (.one (Ii6 (a0.Txs.length:Int)))),(16,.s (.one (Ii6 g.2)))]) (fun g=>[.box (EL.el a0),.box (EL.el a1)]) (fun g=>Lj (E7 a0 a1 a2) g.1 g.2=some x2) (fun g=>g.1) (fuel,0) hx2 ⟨R,R,R,R,R,trivial⟩ [] R (fun _=>R) ?_
  clear hx2 h
  rintro ⟨n2,s2⟩ h
  obtain ⟨n2,y2,rfl,h,hk2⟩:=Fh h
  unfold E7 at h
  refine csr (sv R (Bt R R) (Ak (Bn (ccI h R (fun h=>?_) (fun h=>?_)))))
  ·refine Bf (Ab (Bn (Bq (Bn (Ap ?_)))))
   obtain ⟨u3,hu3,h⟩:=Ae h
   refine sv R (Cb (f:=Bb) Qd (fun _=>R) R R R R hu3) ?_
   refine sv R (Bz (ys:=[Ii6 u3.ID,Ii6 u3.Begin,Ii6 u3.End,Ii6 u3.State,.b u3.In,.b u3.Out,.b u3.RO,.sl u3.Keys.length (u3.Keys.flatMap (eL eU8))]) Jr R (.cp _) R R) (Bo R S8 (sst Si R R R R R (Ak (Bn (Bn (cj3 (Unit) (fun b4=>[(2,.s (.one (.sl a2.length (a2.flatMap (eL eU8))))),(4,.s (.one (.lp 1 0))),(8,.s (.one (.lp 2 0))),(14,.s (.one (.sl a0.Txs.length (a0.Txs.flatMap Bb)))),(15,.s (.one (Ii6 (a0.Txs.length:Int)))),(16,.s (.one (Ii6 s2)))]) (fun b4=>[.box (EL.el a0),.box (EL.el a1),.box (EL.el u3)]) (fun b4=>J0 a2 s2 u3 b4=some y2) (fun _=>R) (fun b4 h=>?_) ?_))))))
   ·unfold J0 at h
    refine csr (rm 1 R (sv R (Au S6 R) (rm 1 R (Ak (Arh (Unit) (fun b5=>[(2,.s (.one (.sl a2.length (a2.flatMap (eL eU8))))),(4,.s (.one (.lp 1 0))),(14,.s (.one (.sl a0.Txs.length (a0.Txs.flatMap Bb)))),(15,.s (.one (Ii6 (a0.Txs.length:Int)))),(16,.s (.one (Ii6 s2)))]) (fun b5=>[.box (EL.el a0),.box (EL.el a1),.box (EL.el u3)]) (fun b5=>Gv s2 b5=some y2) (fun _ _=>Zp R) (fun _ _=>Rn R) (fun _ _=>Nbl R) (fun b5 h=>?_) ?_)))))
    ·unfold Gv at h
     refine Ap (sv R (Bm R R) (rm 1 R (Ak ?_)))
     obtain rfl:=SJ h
     exact ⟨(n2,(wI (s2+1))),_,hk2,⟨R,R,R,R,R,trivial⟩,R,zH _⟩
    ·skip
     refine Bq ?_
     obtain ⟨x6,hx6,ho6⟩:=Ae h
     refine lpo (G:=Nat × (Int)) (fun g=>[(2,.s (.one (.sl a2.length (a2.flatMap (eL eU8))))),(4,.s (.one (.lp 1 0))),(8,.s (.one (.lp 2 0))),(14,.s (.one (.sl a0.Txs.length (a0.Txs.flatMap Bb)))),(15,.s (.one (Ii6 (a0.Txs.length:Int)))),(16,.s (.one (Ii6 s2))),(29,.s (.one (.sl a2.length (a2.flatMap (eL eU8))))),(30,.s (.one (Ii6 (a2.length:Int)))),(31,.s (.one (Ii6 g.2)))]) (fun g=>[.box (EL.el a0),.box (EL.el a1),.box (EL.el u3)]) (fun g=>Lj (E6 a2 u3) g.1 g.2=some x6) (fun g=>g.1) (fuel,0) hx6 ⟨R,R,R,R,R,R,R,R,R,trivial⟩ [] R (fun _=>R) ?_
     clear hx6 h
     rintro ⟨n6,s6⟩ h
     obtain ⟨n6,y6,rfl,h,hk6⟩:=Fh h
     unfold E6 at h
     refine csr (sv R (Bt R R) (Ak (Bn (ccI h R (fun h=>?_) (fun h=>?_)))))
     ·refine Bf (Ab (Bn (Bq (Bn (Ap ?_)))))
      obtain ⟨u7,hu7,h⟩:=Ae h
      refine sv R (Cb (f:=(eL eU8)) S6 (fun _=>R) R R R R hu7) ?_
      refine sv R (B6 N2 R (.cp _) R) (rm 1 R (Ak (csr (fl T4 Ac0 R R R R R R (sv R (A4 R) ?_)))))
      obtain ⟨v8,hv8,h⟩:=Ae h
      refine A8 R Aw0 (Aa R (Aa R Af)) (An R) (Qu hv8) (sv R (Cc R) (sv R (Ai R R) (sv R (Ai R R) (rm 2 R (Ak (csr (rm 1 R (Ak (ccI h R (fun h=>?_) (fun h=>?_))))))))))
      ·refine csr (rm 1 R (Ak (Bs (A0 (Ag (Ag (A0 (A0 (Ag (Ag (A0 (Ag ?_))))))))))))
       obtain rfl:=SJ h
       obtain rfl:Sum.inl _=x6:=hk6
       replace ho6:some _=some _:=ho6
       obtain rfl:=zD ho6
       obtain rfl:Sum.inl _=x2:=hk2
       replace ho2:some _=some _:=ho2
       obtain rfl:=zD ho2
       exact dnT R R R R
      ·refine Bf (Ao (Ab (Ap (sv R (Bm R R) (rm 1 R (Ak ?_))))))
       obtain rfl:=SJ h
       exact ⟨(n6,(wI (s6+1))),_,hk6,⟨R,R,R,R,R,R,R,R,R,trivial⟩,R,zH _⟩
     ·refine Dd (Ar (Ar (Bj (Ao (Ab ?_)))))
      obtain rfl:=SJ h
      obtain rfl:_=x6:=hk6
      exact ⟨(),_,ho6,⟨R,R,R,R,R,trivial⟩,R⟩
   ·skip
    refine Ap (fl O6 ti3 R R R R R R (sv R (C6 R R) (rm 1 R (ssI 23 h R (fun h=>?_) (fun h=>?_)))))
    ·refine rm 5 R (Ak (Ck R (fun _=>?_) (fun hx=>Bool.noConfusion hx)))
     refine Dd (Ar (Bj (Ab (Ap (sv R (Bm R R) (rm 1 R (Ak ?_)))))))
     obtain rfl:=SJ h
     exact ⟨(n2,(wI (s2+1))),_,hk2,⟨R,R,R,R,R,trivial⟩,R,zH _⟩
    ·refine son R R R (ld Jr R R R R (son R R R (ld Jr R R R R (son R R R ?_))))
     obtain ⟨v10,hv10,h⟩:=Ae h
     refine A8 R Arv (Aa R (Aa R Af)) (An R) (O7 hv10) (son R R R (sv R (B1 R) (rm 1 R (Ak (ccI h R (fun h=>?_) (fun h=>?_))))))
     ·refine Dd (Ar (Bj (Ab (Ap (sv R (Bm R R) (rm 1 R (Ak ?_)))))))
      obtain rfl:=SJ h
      exact ⟨(n2,(wI (s2+1))),_,hk2,⟨R,R,R,R,R,trivial⟩,R,zH _⟩
     ·refine Bf (Ab ?_)
      exact ⟨(),_,h,⟨R,R,R,R,R,R,trivial⟩,R⟩
  ·refine Dd (Ar (Ar (Bj (Ab ?_))))
   obtain rfl:=SJ h
   obtain rfl:_=x2:=hk2
   exact ⟨(),_,ho2,trivial,R⟩
def Ake:Go.Shelf.Ren:=⟨fun | 5=>269 | 8=>191 | 7=>278 | 19=>246 | 20=>247 | 10=>282 | 11=>283 | 12=>284 | 13=>285 | 14=>286 | 15=>287 | 16=>288 | 17=>289 | 18=>290 | 30=>293 | 31=>263 | 32=>264 | 33=>294 | 34=>295 | 35=>296 | 40=>297 | n=>n,fun | 23=>225 | 25=>3 | 3=>3 | 32=>307 | 22=>225 | 0=>0 | 44=>365 | 46=>367 | 4=>4 | 36=>359 | 35=>358 | 41=>177 | 5=>5 | 9=>9 | 53=>389 | 57=>393 | 63=>404 | 64=>405 | n=>n,fun | n=>n⟩
theorem Awl:Go.Proofs.SlLaysM.n5 Tryz.prog Ake:={
 mixed:=by kernel_rfl,
 f5 :=⟨ "slices.Sort[[]int,int]", by decide, Tryz.func269.trans (congrArg some (by kernel_rfl))⟩,
 f7 :=⟨ "slices.pdqsortOrdered[int]", by decide, Tryz.func278.trans (congrArg some (by kernel_rfl))⟩,
 f8:=Tryz.func191.trans (congrArg some (by kernel_rfl)),
 f10 :=⟨ "slices.insertionSortOrdered[int]", by decide, Tryz.func282.trans (congrArg some (by kernel_rfl))⟩,
 f11 :=⟨ "slices.heapSortOrdered[int]", by decide, Tryz.func283.trans (congrArg some (by kernel_rfl))⟩,
 f12 :=⟨ "slices.breakPatternsOrdered[int]", by decide, Tryz.func284.trans (congrArg some (by kernel_rfl))⟩,
 f13 :=⟨ "slices.choosePivotOrdered[int]", by decide, Tryz.func285.trans (congrArg some (by kernel_rfl))⟩,
 f14 :=⟨ "slices.reverseRangeOrdered[int]", by decide, Tryz.func286.trans (congrArg some (by kernel_rfl))⟩,
 f15 :=⟨ "slices.partialInsertionSortOrdered[int]", by decide, Tryz.func287.trans (congrArg some (by kernel_rfl))⟩,
 f16 :=⟨ "cmp.Less[int]", by decide, Tryz.func288.trans (congrArg some (by kernel_rfl))⟩,
 f17 :=⟨ "slices.partitionEqualOrdered[int]", by decide, Tryz.func289.trans (congrArg some (by kernel_rfl))⟩,
 f18 :=⟨ "slices.partitionOrdered[int]", by decide, Tryz.func290.trans (congrArg some (by kernel_rfl))⟩,
 f19:=Tryz.func246.trans (congrArg some (by kernel_rfl)),
 f20:=Tryz.func247.trans (congrArg some (by kernel_rfl)),
 f30 :=⟨ "slices.siftDownOrdered[int]", by decide, Tryz.func293.trans (congrArg some (by kernel_rfl))⟩,
 f31:=Tryz.func263.trans (congrArg some (by kernel_rfl)),
 f32:=Tryz.func264.trans (congrArg some (by kernel_rfl)),
 f33 :=⟨ "slices.medianAdjacentOrdered[int]", by decide, Tryz.func294.trans (congrArg some (by kernel_rfl))⟩,
 f34 :=⟨ "slices.medianOrdered[int]", by decide, Tryz.func295.trans (congrArg some (by kernel_rfl))⟩,
 f35 :=⟨ "cmp.isNaN[int]", by decide, Tryz.func296.trans (congrArg some (by kernel_rfl))⟩,
 f40 :=⟨ "slices.order2Ordered[int]", by decide, Tryz.func297.trans (congrArg some (by kernel_rfl))⟩,
 t0:=Tryz.underlying0,
 a0:=Tryz.isAgg0,
 z0:=Tryz.sizeOf0,
 v0:=Tryz.zeroValue0,
 t3:=Tryz.underlying3,
 a3:=Tryz.isAgg3,
 z3:=Tryz.sizeOf3,
 v3:=Tryz.zeroValue3,
 t4:=Tryz.underlying4,
 a4:=Tryz.isAgg4,
 z4:=Tryz.sizeOf4,
 v4:=Tryz.zeroValue4,
 t5:=Tryz.underlying5,
 a5:=Tryz.isAgg5,
 z5:=Tryz.sizeOf5,
 v5:=Tryz.zeroValue5,
 t9:=Tryz.underlying9,
 a9:=Tryz.isAgg9,
 z9:=Tryz.sizeOf9,
 v9:=Tryz.zeroValue9,
 t22:=Tryz.underlying225,
 a22:=Tryz.isAgg225,
 z22:=Tryz.sizeOf225,
 v22:=Tryz.zeroValue225,
 t23:=Tryz.underlying225,
 a23:=Tryz.isAgg225,
 z23:=Tryz.sizeOf225,
 v23:=Tryz.zeroValue225,
 t25:=Tryz.underlying3,
 a25:=Tryz.isAgg3,
 z25:=Tryz.sizeOf3,
 v25:=Tryz.zeroValue3,
 t32:=Tryz.underlying307,
 a32:=Tryz.isAgg307,
 z32:=Tryz.sizeOf307,
 v32:=Tryz.zeroValue307,
 t35:=Tryz.underlying358,
 a35:=Tryz.isAgg358,
 z35:=Tryz.sizeOf358,
 v35:=Tryz.zeroValue358,
 t36:=Tryz.underlying359,
 a36:=Tryz.isAgg359,
 z36:=Tryz.sizeOf359,
 v36:=Tryz.zeroValue359,
 t41:=Tryz.underlying177,
 a41:=Tryz.isAgg177,
 z41:=Tryz.sizeOf177,
 v41:=Tryz.zeroValue177,
 t44:=Tryz.underlying365,
 a44:=Tryz.isAgg365,
 z44:=Tryz.sizeOf365,
 v44:=Tryz.zeroValue365,
 t46:=Tryz.underlying367,
 a46:=Tryz.isAgg367,
 z46:=Tryz.sizeOf367,
 v46:=Tryz.zeroValue367,
 t53:=Tryz.underlying389,
 a53:=Tryz.isAgg389,
 z53:=Tryz.sizeOf389,
 v53:=Tryz.zeroValue389,
 t57:=Tryz.underlying393,
 a57:=Tryz.isAgg393,
 z57:=Tryz.sizeOf393,
 v57:=Tryz.zeroValue393,
 t63:=Tryz.underlying404,
 a63:=Tryz.isAgg404,
 z63:=Tryz.sizeOf404,
 v63:=Tryz.zeroValue404,
 t64:=Tryz.underlying405,
 a64:=Tryz.isAgg405,
 z64:=Tryz.sizeOf405,
 v64:=Tryz.zeroValue405 }
def Nr (a0:List Int):Option (List Int):=if a0.length≤1000000000000000000 then some (a0.mergeSort fun x y=>decide (x≤y)) else none
theorem Ws {a0 r:List Int} (h:Nr a0=some r):Dn Tryz.prog 269 [.arr 3 1 0 (a0.flatMap eI)] [.one (.ls 0 a0.length)] (fun y m'=>y=.tup []∧m'=[.arr 3 1 0 (r.flatMap eI)]):=by
 unfold Nr at h
 obtain ⟨hn,h⟩:=Cr h
 obtain rfl:=SJ h
 exact Arr Awl hn
def Aji:Go.Shelf.Ren:=⟨fun | 43=>270 | n=>n,fun | 22=>225 | 23=>3 | 3=>3 | 4=>4 | 0=>0 | n=>n,fun | n=>n⟩
theorem Avs:Go.Proofs.SlLaysE.n43 Tryz.prog Aji:={
 mixed:=by kernel_rfl,
 f43 :=⟨ "slices.Compact[[]int,int]", by decide, Tryz.func270.trans (congrArg some (by kernel_rfl))⟩,
 t0:=Tryz.underlying0,
 a0:=Tryz.isAgg0,
 z0:=Tryz.sizeOf0,
 v0:=Tryz.zeroValue0,
 t3:=Tryz.underlying3,
 a3:=Tryz.isAgg3,
 z3:=Tryz.sizeOf3,
 v3:=Tryz.zeroValue3,
 t4:=Tryz.underlying4,
 a4:=Tryz.isAgg4,
 z4:=Tryz.sizeOf4,
 v4:=Tryz.zeroValue4,
 t22:=Tryz.underlying225,
 a22:=Tryz.isAgg225,
 z22:=Tryz.sizeOf225,
 v22:=Tryz.zeroValue225,
 a23:=Tryz.isAgg3,
 z23:=Tryz.sizeOf3 }
theorem Ajo:Br Tryz.prog 270 [.one (Znl)] (·=.s (.one (Znl))):=by
 refine A2 Tryz.func270 R (nt:=61) R (Nbl R) ?_
 intro w0 S0
 refine csr (rm 1 R (Ak (Bn (csr (rm 1 R (sv R (Fu Asv R) (sv R (Bt R R) (Ak ?_))))))))
 refine Ck R (fun _=>?_) (fun hx=>absurd hx (by decide))
 refine csr (rm 2 R (Ak (Bs (Ag (⟨Or.inr R,_,_,_,(Ad (rt R) Aj),(An R),?_⟩)))))
 rfl
def K0 (a0:List Int):Option (List Int):=if a0.length≤1000000000000000000 then some (Aje a0) else none
theorem Td {a0 r:List Int} (h:K0 a0=some r):Dn Tryz.prog 270 [.arr 3 1 0 (a0.flatMap eI)] [.one (.ls 0 a0.length)] (fun y m'=>y=.s (.one (.ls 1 r.length))∧m'=[.dead,.arr 3 1 0 (r.flatMap eI)]):=by
 unfold K0 at h
 obtain ⟨hn,h⟩:=Cr h
 obtain rfl:=SJ h
 exact Atj Avs hn (Go.Proofs.EqlAt.intD _ _ .i64) (Go.Proofs.NeqAt.intD _ _ .i64) Tryz.zeroValue3 Ajo
def Jh (b1:(List Int)):Option (List Int) :=
 (Nr b1).bind fun v2=>if v2.length=b1.length then ((K0 v2).bind fun v4=>some v4) else none
def Gk (a0:Bu) (a1:List UInt8) (s5:Int × (List Int)):Option (LB (Int × (List Int)) ((List Int))) :=
 if (decide (s5.1<(a0.L.length:Int))) then ((idx a0.L s5.1).bind fun u6=>(G4 u6.Rng a1).bind fun v7=>if v7 then (if (s5.2.length+[u6.Tx].length)*8≤140737488355328 then (some (.cont ((wI (s5.1+1)),(s5.2++[u6.Tx])))) else none) else (some (.cont ((wI (s5.1+1)),s5.2)))) else (some (.brk s5.2))
def J5 (a0:Bu) (a1:List UInt8):Option (List Int) :=
 (Cw (Gk a0 a1) fuel (0,([]:List Int))).bind fun e9=>Jh e9
theorem R3 {a0:Bu} {a1:List UInt8} {r:(List Int)} (h:J5 a0 a1=some r):Br Tryz.prog 254 [.agg [.sl a0.L.length (a0.L.flatMap Aq)],.one (.sl a1.length (a1.flatMap eU8))] (·=.s (.one (.sl r.length (r.flatMap eI)))):=by
 unfold J5 at h
 refine A2 Tryz.func254 R (nt:=29) R (Nbl R) ?_
 intro w0 S0
 refine csr (F2 R R (rm 1 R (Ak (csr (rm 1 R (Ak (Bn (csr (fl U6 Aj2 R R R R R R (sv R (Au Aa6 R) (rm 1 R (Ak ?_))))))))))))
 refine Dh 3 1 5 (by decide) R ?_
 refine cj ((List Int)) (fun b1=>[(5,.s (.one (.ls 1 b1.length)))]) (fun b1=>[.box [.sl a0.L.length (a0.L.flatMap Aq)],.arr 3 1 0 (b1.flatMap eI)]) (fun b1=>Jh b1=some r) (fun _=>R) (fun b1 h=>?_) ?_
 ·unfold Jh at h
  refine csr (sv R (A4 R) ?_)
  obtain ⟨v2,hv2,h⟩:=Ae h
  refine H7 (x':=.tup []) (M':=[.box [.sl a0.L.length (a0.L.flatMap Aq)],.arr 3 1 0 (v2.flatMap eI)]) [1] R Axe (.func _) (Aa R Af) (Ws hv2) R R (by decide) R R R ?_
  obtain ⟨hl3,h⟩:=Cr h
  refine Mf 5 (y:=.s (.one (.ls 1 b1.length))) (.s (.one (.ls 1 v2.length))) R (congrArg (fun n=>AV.s (.one (.ls 1 n))) hl3.symm) ?_
  refine Mf 25 (y:=.s (.one (.ls 1 b1.length))) (.s (.one (.ls 1 v2.length))) R (congrArg (fun n=>AV.s (.one (.ls 1 n))) hl3.symm) ?_
  refine Ak (csr (sv R (A4 R) ?_))
  obtain ⟨v4,hv4,h⟩:=Ae h
  refine H7 (x':=.s (.one (.ls 2 v4.length))) (M':=[.box [.sl a0.L.length (a0.L.flatMap Aq)],.dead,.arr 3 1 0 (v4.flatMap eI)]) [1] R Ayn (.func _) (Aa R Af) (Td hv4) R R (by decide) R R R ?_
  refine rm 1 R (Ak (Bs ?_))
  obtain rfl:=SJ h
  refine ⟨Or.inr R,_,_,_,(Ad (rt R) Aj),(by (repeat' first | exact H6.nil _ | apply H6.cons | apply Hy.one | apply Hy.agg | exact C7.nil | exact C7.ls _ _ _ _ _ _ R (Aw (f:=eI) (fun _=>R) _).symm | exact C7.id _ R | exact Cs.nil _ | apply Cs.cons)),?_⟩
  rfl
 ·skip
  refine Bq ?_
  obtain ⟨x5,hx5,ho5⟩:=Ae h
  refine lpo (G:=Nat × (Int × (List Int))) (fun g=>[(1,.s (.one (.sl a1.length (a1.flatMap eU8)))),(5,.s (.one (.ls 1 g.2.2.length))),(9,.s (.one (.sl a0.L.length (a0.L.flatMap Aq)))),(10,.s (.one (Ii6 (a0.L.length:Int)))),(11,.s (.one (Ii6 g.2.1)))]) (fun g=>[.box [.sl a0.L.length (a0.L.flatMap Aq)],.arr 3 1 0 (g.2.2.flatMap eI)]) (fun g=>Cw (Gk a0 a1) g.1 g.2=some x5) (fun g=>g.1) (fuel,(0,([]:List Int))) hx5 ⟨R,R,R,R,R,trivial⟩ [] R (fun _=>R) ?_
  clear hx5 h
  rintro ⟨n5,s5⟩ h
  obtain ⟨n5,y5,rfl,h,hk5⟩:=Cy h
  unfold Gk at h
  refine csr (sv R (Bt R R) (Ak (Bn (ccI h R (fun h=>?_) (fun h=>?_)))))
  ·refine Bf (Ab (Bn (Bq (Bn (Ap ?_)))))
   obtain ⟨u6,hu6,h⟩:=Ae h
   refine sv R (Cb (f:=Aq) Aa6 (fun _=>R) R R R R hu6) ?_
   refine sv R (Bz (ys:=[Ii6 u6.Tx,.sl u6.Rng.Lo.length (u6.Rng.Lo.flatMap eU8),.sl u6.Rng.Hi.length (u6.Rng.Hi.flatMap eU8),.b u6.Rng.Open]) Aa0 R (.cp _) R R) (Bo R Aka (sst Ale R R R R R (Ak (csr (sv R (Ac Xf R) (ld Acz R R R R (sv R (A4 R) ?_)))))))
   obtain ⟨v7,hv7,h⟩:=Ae h
   refine A8 R Am1 (Aa R (Aa R Af)) (An R) (Mp hv7) (Ak (ccI h R (fun h=>?_) (fun h=>?_)))
   ·refine Ap (rm 1 R (sv R (Ac Acj R) (sv R (l1 ti3 R R R) ?_)))
    refine Fo R Tryz.underlying225 ei3 R R (zJ.1 R) (by decide) ?_
    refine Pq [.box [.sl a0.L.length (a0.L.flatMap Aq)],.arr 3 1 0 (s5.2.flatMap eI),.box (EL.el u6),.arr 3 1 0 ([u6.Tx].flatMap eI)] R ?_
    obtain ⟨hb8,h⟩:=Cr h
    refine Ub (f:=eI) (xs:=s5.2) (us:=[u6.Tx]) R Tryz.underlying225 ei3 Alw (fun _=>R) R R (.one _ _ _ _ (.ls _ _ _ _ _ _ R (Aw (f:=eI) (fun _=>R) [u6.Tx]).symm)) R R R (.sl _ _ _ (Aw (f:=eI) (fun _=>R) _)) R R hb8 (by decide) ?_
    refine rm 1 R (Ki (Ao (Ab (Ap (sv R (Bm R R) (rm 1 R (Ak ?_)))))))
    obtain rfl:=SJ h
    exact ⟨(n5,((wI (s5.1+1)),(s5.2++[u6.Tx]))),_,hk5,⟨R,R,R,R,R,trivial⟩,R,zH _⟩
   ·refine Bf (Ao (Ab (Ap (sv R (Bm R R) (rm 1 R (Ak ?_))))))
    obtain rfl:=SJ h
    exact ⟨(n5,((wI (s5.1+1)),s5.2)),_,hk5,⟨R,R,R,R,R,trivial⟩,R,zH _⟩
  ·refine Dd (Ar (Ar (Bj (Ab ?_))))
   obtain rfl:=SJ h
   obtain rfl:_=x5:=hk5
   exact ⟨s5.2,_,ho5,⟨R,trivial⟩,R⟩
def Mg (b1:(List Int)):Option (List Int) :=
 some b1
def Mu (a0:Be) (a1:List (List UInt8)) (s2:Int × (List Int)):Option (LB (Int × (List Int)) ((List Int))) :=
 if (decide (s2.1<(a1.length:Int))) then ((idx a1 s2.1).bind fun u3=>(J5 a0.Reads u3).bind fun v4=>if (s2.2.length+v4.length)*8≤140737488355328 then (some (.cont ((wI (s2.1+1)),(s2.2++v4)))) else none) else (some (.brk s2.2))
def Ri (a0:Be) (a1:List (List UInt8)):Option (List Int) :=
 (Cw (Mu a0 a1) fuel (0,([]:List Int))).bind fun e6=>Mg e6
theorem Afn {a0:Be} {a1:List (List UInt8)} {r:(List Int)} (h:Ri a0 a1=some r):Br Tryz.prog 212 [.agg (EL.el a0),.one (.sl a1.length (a1.flatMap (eL eU8)))] (·=.s (.one (.sl r.length (r.flatMap eI)))):=by
 unfold Ri at h
 refine A2 Tryz.func212 R (nt:=22) R (Nbl R) ?_
 intro w0 S0
 refine csr (F2 R R (rm 1 R (Ak (csr (rm 1 R (Ak (Bn (csr (rm 1 R (sv R (Au S6 R) (rm 1 R (Ak ?_))))))))))))
 refine Dh 3 1 5 (by decide) R ?_
 refine cj ((List Int)) (fun b1=>[(5,.s (.one (.ls 1 b1.length)))]) (fun b1=>[.box (EL.el a0),.arr 3 1 0 (b1.flatMap eI)]) (fun b1=>Mg b1=some r) (fun _=>R) (fun b1 h=>?_) ?_
 ·unfold Mg at h
  refine csr (rm 2 R (Ak (Bs ?_)))
  obtain rfl:=SJ h
  refine ⟨Or.inr R,_,_,_,(Ad (rt R) Aj),(by (repeat' first | exact H6.nil _ | apply H6.cons | apply Hy.one | apply Hy.agg | exact C7.nil | exact C7.ls _ _ _ _ _ _ R (Aw (f:=eI) (fun _=>R) _).symm | exact C7.id _ R | exact Cs.nil _ | apply Cs.cons)),?_⟩
  rfl
 ·skip
  refine Bq ?_
  obtain ⟨x2,hx2,ho2⟩:=Ae h
  refine lpo (G:=Nat × (Int × (List Int))) (fun g=>[(2,.s (.one (.lp 0 0))),(5,.s (.one (.ls 1 g.2.2.length))),(8,.s (.one (.sl a1.length (a1.flatMap (eL eU8))))),(9,.s (.one (Ii6 (a1.length:Int)))),(10,.s (.one (Ii6 g.2.1)))]) (fun g=>[.box (EL.el a0),.arr 3 1 0 (g.2.2.flatMap eI)]) (fun g=>Cw (Mu a0 a1) g.1 g.2=some x2) (fun g=>g.1) (fuel,(0,([]:List Int))) hx2 ⟨R,R,R,R,R,trivial⟩ [] R (fun _=>R) ?_
  clear hx2 h
  rintro ⟨n2,s2⟩ h
  obtain ⟨n2,y2,rfl,h,hk2⟩:=Cy h
  unfold Mu at h
  refine csr (sv R (Bt R R) (Ak (Bn (ccI h R (fun h=>?_) (fun h=>?_)))))
  ·refine Bf (Ab (Bn (Bq (Bn (Ap ?_)))))
   obtain ⟨u3,hu3,h⟩:=Ae h
   refine sv R (Cb (f:=(eL eU8)) S6 (fun _=>R) R R R R hu3) ?_
   refine sv R (B6 N2 R (.cp _) R) (rm 1 R (Ak (Ap (rm 1 R (sv R (Ac X6 R) (ld Ab5 R R R R (sv R (A4 R) ?_)))))))
   obtain ⟨v4,hv4,h⟩:=Ae h
   refine A8 R Avh (Aa R (Aa R Af)) (An R) (R3 hv4) ?_
   obtain ⟨hb5,h⟩:=Cr h
   refine Ub (f:=eI) (xs:=s2.2) (us:=v4) R Tryz.underlying225 ei3 Alw (fun _=>R) R R (.one _ _ _ _ (.id _ R)) R R R (.sl _ _ _ (Aw (f:=eI) (fun _=>R) _)) R R hb5 (by decide) ?_
   refine rm 1 R (Ki (Ao (Ab (Ap (sv R (Bm R R) (rm 1 R (Ak ?_)))))))
   obtain rfl:=SJ h
   exact ⟨(n2,((wI (s2.1+1)),(s2.2++v4))),_,hk2,⟨R,R,R,R,R,trivial⟩,R,zH _⟩
  ·refine Dd (Ar (Ar (Bj (Ab ?_))))
   obtain rfl:=SJ h
   obtain rfl:_=x2:=hk2
   exact ⟨s2.2,_,ho2,⟨R,trivial⟩,R⟩
def Lq (b1:(List Int)):Option (List Int) :=
 some b1
def Ec (a0:Be) (a1:List (List UInt8)) (s2:Int × (List Int)):Option (LB (Int × (List Int)) ((List Int))) :=
 if (decide (s2.1<(a1.length:Int))) then ((idx a1 s2.1).bind fun u3=>(J5 a0.Reads u3).bind fun v4=>if (s2.2.length+v4.length)*8≤140737488355328 then (some (.cont ((wI (s2.1+1)),(s2.2++v4)))) else none) else (some (.brk s2.2))
def Hp (a0:Be) (a1:List (List UInt8)):Option (List Int) :=
 (Cw (Ec a0 a1) fuel (0,([]:List Int))).bind fun e6=>Lq e6
theorem Tl {a0:Be} {a1:List (List UInt8)} {r:(List Int)} (h:Hp a0 a1=some r):Dn Tryz.prog 212 [] [.agg (EL.el a0),.one (.sl a1.length (a1.flatMap (eL eU8)))] (fun y m'=>y=.s (.one (.ls 0 r.length))∧m'=[.arr 3 1 0 (r.flatMap eI)]):=by
 unfold Hp at h
 refine Dk Tryz.func212 R (nt:=22) R (Nbl R) ?_
 intro w0 S0 X0 H0
 refine csr (F2 R R (rm 1 R (Ak (csr (rm 1 R (Ak (Bn (csr (rm 1 R (sv R (Au S6 R) (rm 1 R (Ak ?_))))))))))))
 refine Dh 3 1 5 (by decide) R ?_
 refine cj ((List Int)) (fun b1=>[(5,.s (.one (.ls 1 b1.length)))]) (fun b1=>[.box (EL.el a0),.arr 3 1 0 (b1.flatMap eI)]) (fun b1=>Lq b1=some r) (fun _=>R) (fun b1 h=>?_) ?_
 ·unfold Lq at h
  refine csr (rm 2 R (Ak (Bs ?_)))
  obtain rfl:=SJ h
  exact ⟨Or.inr R,_,[1],[.one (.ls 0 b1.length)],[.arr 3 1 0 (b1.flatMap eI)],(Ad (rt R) Aj),R,R,⟨by decide,R⟩,R,R,⟨R,R⟩⟩
 ·skip
  refine Bq ?_
  obtain ⟨x2,hx2,ho2⟩:=Ae h
  refine lpo (G:=Nat × (Int × (List Int))) (fun g=>[(2,.s (.one (.lp 0 0))),(5,.s (.one (.ls 1 g.2.2.length))),(8,.s (.one (.sl a1.length (a1.flatMap (eL eU8))))),(9,.s (.one (Ii6 (a1.length:Int)))),(10,.s (.one (Ii6 g.2.1)))]) (fun g=>[.box (EL.el a0),.arr 3 1 0 (g.2.2.flatMap eI)]) (fun g=>Cw (Ec a0 a1) g.1 g.2=some x2) (fun g=>g.1) (fuel,(0,([]:List Int))) hx2 ⟨R,R,R,R,R,trivial⟩ [] R (fun _=>R) ?_
  clear hx2 h
  rintro ⟨n2,s2⟩ h
  obtain ⟨n2,y2,rfl,h,hk2⟩:=Cy h
  unfold Ec at h
  refine csr (sv R (Bt R R) (Ak (Bn (ccI h R (fun h=>?_) (fun h=>?_)))))
  ·refine Bf (Ab (Bn (Bq (Bn (Ap ?_)))))
   obtain ⟨u3,hu3,h⟩:=Ae h
   refine sv R (Cb (f:=(eL eU8)) S6 (fun _=>R) R R R R hu3) ?_
   refine sv R (B6 N2 R (.cp _) R) (rm 1 R (Ak (Ap (rm 1 R (sv R (Ac X6 R) (ld Ab5 R R R R (sv R (A4 R) ?_)))))))
   obtain ⟨v4,hv4,h⟩:=Ae h
   refine A8 R Avh (Aa R (Aa R Af)) (An R) (R3 hv4) ?_
   obtain ⟨hb5,h⟩:=Cr h
   refine Ub (f:=eI) (xs:=s2.2) (us:=v4) R Tryz.underlying225 ei3 Alw (fun _=>R) R R (.one _ _ _ _ (.id _ R)) R R R (.sl _ _ _ (Aw (f:=eI) (fun _=>R) _)) R R hb5 (by decide) ?_
   refine rm 1 R (Ki (Ao (Ab (Ap (sv R (Bm R R) (rm 1 R (Ak ?_)))))))
   obtain rfl:=SJ h
   exact ⟨(n2,((wI (s2.1+1)),(s2.2++v4))),_,hk2,⟨R,R,R,R,R,trivial⟩,R,zH _⟩
  ·refine Dd (Ar (Ar (Bj (Ab ?_))))
   obtain rfl:=SJ h
   obtain rfl:_=x2:=hk2
   exact ⟨s2.2,_,ho2,⟨R,trivial⟩,R⟩
def Nx (b1:(List A1)):Option (Bool × (List A1)) :=
 some (true,b1)
def K4 (a1:Int) (s2:Int × (List A1)) (u3:A1) (b4:Unit):Option (LR (Int × (List A1)) ((List A1)) (Bool × (List A1))) :=
 (Ha).bind fun v5=>(Fy s2.2 s2.1 a1).bind fun v6=>if v6.length=s2.2.length then (if (decide (u3.State=2)) then ((idx v6 s2.1).bind fun u8=>(Jq u8).bind fun v9=>if v9 then (some (.ret (false,v6))) else (some (.cont ((wI (s2.1+1)),v6)))) else (some (.cont ((wI (s2.1+1)),v6)))) else none
def F0 (a0:List A1) (a1:Int) (a2:List Int) (s2:Int × (List A1)):Option (LR (Int × (List A1)) ((List A1)) (Bool × (List A1))) :=
 if (decide (s2.1<(a0.length:Int))) then ((idx s2.2 s2.1).bind fun u3=>if (decide (s2.1=a1)) then (some (.cont ((wI (s2.1+1)),s2.2))) else ((Dz a2 u3.ID).bind fun v10=>if (!v10) then (some (.cont ((wI (s2.1+1)),s2.2))) else ((idx s2.2 a1).bind fun u11=>(E1 u3 u11).bind fun v12=>if (!v12) then (some (.cont ((wI (s2.1+1)),s2.2))) else (K4 a1 s2 u3 ())))) else (some (.brk s2.2))
def Lb (a0:List A1) (a1:Int) (a2:List Int):Option (Bool × (List A1)) :=
 (Lj (F0 a0 a1 a2) fuel (0,a0)).bind fun x=>match x with | .inl r=>some r | .inr e13=>Nx e13
theorem Wt {a0:List A1} {a1:Int} {a2:List Int} {r:Bool × (List A1)} (h:Lb a0 a1 a2=some r):Dn Tryz.prog 211 [.arr 139 8 0 (a0.flatMap Bb)] [.one (.ls 0 a0.length),.one (Ii6 a1),.one (.sl a2.length (a2.flatMap eI))] (fun y m'=>y=.s (.one (.b r.1))∧m'=[.arr 139 8 0 (r.2.flatMap Bb)]):=by
 unfold Lb at h
 refine Dk Tryz.func211 R (nt:=51) R (Nbl R) ?_
 intro w0 S0 X0 H0
 refine csr (rm 1 R (Ak (Bn (csr (rm 1 R (sv R (Hj Qd R R (Aw (f:=Bb) (fun _=>R) _).symm) ?_))))))
 refine rm 1 R (Ak (cj ((List A1)) (fun b1=>[]) (fun b1=>[.arr 139 8 0 (b1.flatMap Bb)]) (fun b1=>Nx b1=some r) (fun _=>R) (fun b1 h=>?_) ?_))
 ·unfold Nx at h
  refine csr (rm 1 R (Ak (Bs ?_)))
  obtain rfl:=SJ h
  exact ⟨Or.inr R,_,[0],[.one (.b true)],[.arr 139 8 0 (b1.flatMap Bb)],(Ad (rt R) Aj),R,R,⟨by decide,R⟩,R,R,⟨R,R⟩⟩
 ·skip
  refine Bq ?_
  obtain ⟨x2,hx2,ho2⟩:=Ae h
  refine lpo (G:=Nat × (Int × (List A1))) (fun g=>[(0,.s (.one (.ls 0 g.2.2.length))),(1,.s (.one (Ii6 a1))),(2,.s (.one (.sl a2.length (a2.flatMap eI)))),(9,.s (.one (.ls 0 g.2.2.length))),(10,.s (.one (Ii6 (a0.length:Int)))),(11,.s (.one (Ii6 g.2.1)))]) (fun g=>[.arr 139 8 0 (g.2.2.flatMap Bb)]) (fun g=>Lj (F0 a0 a1 a2) g.1 g.2=some x2) (fun g=>g.1) (fuel,(0,a0)) hx2 ⟨R,R,R,R,R,R,trivial⟩ [] R (fun _=>R) ?_
  clear hx2 h
  rintro ⟨n2,s2⟩ h
  obtain ⟨n2,y2,rfl,h,hk2⟩:=Fh h
  unfold F0 at h
  refine csr (sv R (Bt R R) (Ak (Bn (ccI h R (fun h=>?_) (fun h=>?_)))))
  ·refine Bf (Ab (Bn (Bq (csr (sv R (A4 R) ?_)))))
   obtain ⟨u3,hu3,h⟩:=Ae h
   refine sv R (Gq (f:=Bb) Qd (fun _=>R) R R R R R hu3) ?_
   refine sv R (Oi (f:=Bb) (sz:=8) 0 Jr (fun _=>R) R R R R (Iv hu3).2 (Nbl R) R) ?_
   refine Bo R S8 (rm 1 R (sst Si R R R R R (Ak (Bn (Bn (cj3 (Unit) (fun b4=>[(0,.s (.one (.ls 0 s2.2.length))),(1,.s (.one (Ii6 a1))),(2,.s (.one (.sl a2.length (a2.flatMap eI)))),(7,.s (.one (Ii6 s2.1))),(8,.s (.one (.lp 1 0))),(9,.s (.one (.ls 0 s2.2.length))),(10,.s (.one (Ii6 (a0.length:Int)))),(11,.s (.one (Ii6 s2.1)))]) (fun b4=>[.arr 139 8 0 (s2.2.flatMap Bb),.box (EL.el u3)]) (fun b4=>K4 a1 s2 u3 b4=some y2) (fun _=>R) (fun b4 h=>?_) ?_))))))
   ·unfold K4 at h
    refine Bn (Ap ?_)
    obtain ⟨v5,hv5,h⟩:=Ae h
    refine H7 (x':=.s (.agg [.raw (.func (.func 252) #[] #[]),.raw (.func (.func 253) #[] #[])])) (M':=[.arr 139 8 0 (s2.2.flatMap Bb),.box (EL.el u3)]) [] R Avr (.func _) Af (Qj hv5) R R (by decide) R R R ?_
    refine rm 2 R (sv R (A4 R) ?_)
    obtain ⟨v6,hv6,h⟩:=Ae h
    refine H7 (x':=.tup []) (M':=[.arr 139 8 0 (v6.flatMap Bb),.box (EL.el u3)]) [0] R Avu (.func _) (Aa R (Aa R (Aa R (Aa R Af)))) (Pj hv6) R R (by decide) R R R ?_
    obtain ⟨hl7,h⟩:=Cr h
    refine Mf 0 (y:=.s (.one (.ls 0 s2.2.length))) (.s (.one (.ls 0 v6.length))) R (congrArg (fun n=>AV.s (.one (.ls 0 n))) hl7.symm) ?_
    refine Mf 9 (y:=.s (.one (.ls 0 s2.2.length))) (.s (.one (.ls 0 v6.length))) R (congrArg (fun n=>AV.s (.one (.ls 0 n))) hl7.symm) ?_
    refine Mf 36 (y:=.s (.one (.ls 0 s2.2.length))) (.s (.one (.ls 0 v6.length))) R (congrArg (fun n=>AV.s (.one (.ls 0 n))) hl7.symm) ?_
    refine Ak (csr (fl O6 ti3 R R R R R R (sv R (B0 R R) (rm 1 R (ssI 43 h R (fun h=>?_) (fun h=>?_))))))
    ·refine rm 2 R (son R R R ?_)
     obtain ⟨u8,hu8,h⟩:=Ae h
     refine sv R (Gq (f:=Bb) Qd (fun _=>R) R R R R R hu8) ?_
     refine son R R R (sv R (Oi (f:=Bb) (sz:=8) 0 Jr (fun _=>R) R R R R (Iv hu8).2 (Nbl R) R) ?_)
     refine son R R R ?_
     obtain ⟨v9,hv9,h⟩:=Ae h
     refine A8 R Aru (Aa R Af) (An R) (Pu hv9) (rm 1 R (Ak (ccI h R (fun h=>?_) (fun h=>?_))))
     ·refine csr (rm 1 R (Ak (Bs (A0 (Ag (Ag (A0 (Ag ?_))))))))
      obtain rfl:=SJ h
      obtain rfl:Sum.inl _=x2:=hk2
      replace ho2:some _=some _:=ho2
      obtain rfl:=zD ho2
      exact ⟨Or.inr R,_,[0],[.one (.b false)],[.arr 139 8 0 (v6.flatMap Bb)],(Ad (rt R) Aj),R,R,⟨by decide,R⟩,R,R,⟨R,R⟩⟩
     ·refine Bf (Ao (Ab (Ap (sv R (Bm R R) (rm 1 R (Ak ?_))))))
      obtain rfl:=SJ h
      exact ⟨(n2,((wI (s2.1+1)),v6)),_,hk2,⟨R,R,R,R,R,R,trivial⟩,R,zH _⟩
    ·refine rm 6 R (Ak (Ck R (fun hx=>Bool.noConfusion hx) (fun _=>?_)))
     refine Bf (Ao (Ab (Ap (sv R (Bm R R) (rm 1 R (Ak ?_))))))
     obtain rfl:=SJ h
     exact ⟨(n2,((wI (s2.1+1)),v6)),_,hk2,⟨R,R,R,R,R,R,trivial⟩,R,zH _⟩
   ·skip
    refine Aav mixed (by kernel_rfl) ?_
    refine dv R (A4 R) (dv R (A4 R) (dv R (B0 R R) (dv R (A4 R) (Zi 19 R (fun hc=>?_) (fun hc=>?_)))))
    ·replace h:=Ve hc h
     clear hc
     refine Pf R R R R (Pf R R R R (Pf R R R R (Pf R R R R (Pf R R R R (dv R (H8 R R) (dv R (A4 R) (Pf R R R R (Pf R R R R (Pf R R R R (Pf R R R R (Pf R R R R (Pf R R R R (Pf R R R R (dv R (H8 R R) (Ad3 (Ab (Ck R (fun _=>?_) (fun hx=>Bool.noConfusion hx))))))))))))))))))
     refine Dd (Ar (Bj (Ab (Ap (sv R (Bm R R) (rm 1 R (Ak ?_)))))))
     obtain rfl:=SJ h
     exact ⟨(n2,((wI (s2.1+1)),s2.2)),_,hk2,⟨R,R,R,R,R,R,trivial⟩,R,zH _⟩
    ·replace h:=Vh hc h
     clear hc
     refine dvg R R R (A4 R) (dvg R R R (Ac Tm R) (dvg R R R (l1 ti3 R R R) ?_))
     obtain ⟨v10,hv10,h⟩:=Ae h
     refine ddg R R R (Db Atk (Aa R (Aa R Af)) R (Lr hv10)) (dvg R R R (B1 R) (dv R (Mz R R) (dv R (A4 R) (Zi 26 R (fun hc=>?_) (fun hc=>?_)))))
     ·replace h:=Ve hc h
      clear hc
      refine Pf R R R R (Pf R R R R (Pf R R R R (Pf R R R R (Pf R R R R (Pf R R R R (Pf R R R R (dv R (H8 R R) (Ad3 (Ab (Ck R (fun _=>?_) (fun hx=>Bool.noConfusion hx)))))))))))
      refine Dd (Ar (Bj (Ab (Ap (sv R (Bm R R) (rm 1 R (Ak ?_)))))))
      obtain rfl:=SJ h
      exact ⟨(n2,((wI (s2.1+1)),s2.2)),_,hk2,⟨R,R,R,R,R,R,trivial⟩,R,zH _⟩
     ·replace h:=Vh hc h
      clear hc
      refine dvg R R R (lo Jr R R R) (dvg R R R (A4 R) (dvg R R R (A4 R) ?_))
      obtain ⟨u11,hu11,h⟩:=Ae h
      refine dvg R R R (Gq (f:=Bb) Qd (fun _=>R) R R R R R hu11) ?_
      refine dvg R R R (Oi (f:=Bb) (sz:=8) 0 Jr (fun _=>R) R R R R (Iv hu11).2 (Nbl R) R) ?_
      obtain ⟨v12,hv12,h⟩:=Ae h
      refine ddg R R R (Db Arv (Aa R (Aa R Af)) R (O7 hv12)) (dvg R R R (B1 R) (dv R (Mz R R) (Ad3 (Ab (ccI h R (fun h=>?_) (fun h=>?_))))))
      ·refine Dd (Ar (Bj (Ab (Ap (sv R (Bm R R) (rm 1 R (Ak ?_)))))))
       obtain rfl:=SJ h
       exact ⟨(n2,((wI (s2.1+1)),s2.2)),_,hk2,⟨R,R,R,R,R,R,trivial⟩,R,zH _⟩
      ·refine Bf (Ab ?_)
       exact ⟨(),_,h,⟨R,R,R,R,R,R,R,R,trivial⟩,R⟩
  ·refine Dd (Ar (Ar (Bj (Ab ?_))))
   obtain rfl:=SJ h
   obtain rfl:_=x2:=hk2
   exact ⟨s2.2,_,ho2,trivial,R⟩
def L3 (a0:Be) (a2:Int) (a3:List (List UInt8)) (v2:Int) (b8:(List A1)):Option (Be × Int) :=
 (idx b8 v2).bind fun u9=>(idx (b8.set v2.toNat ({u9 with State:=2})) v2).bind fun u10=>(idx ((b8.set v2.toNat ({u9 with State:=2})).set v2.toNat ({u10 with End:=a2})) v2).bind fun u11=>some ((Be.mk (((b8.set v2.toNat ({u9 with State:=2})).set v2.toNat ({u10 with End:=a2})).set v2.toNat ({u11 with Keys:=a3})) (Bu.mk a0.Reads.L)),0)
def Dp (a0:Be) (a1:Int) (a2:Int) (a3:List (List UInt8)):Option (Be × Int) :=
 (Kw a0).bind fun v1=>if (!v1) then (some (Jf,1)) else ((F5 a0 a1).bind fun v2=>if (decide (v2<0)) then (some (Jf,7)) else ((idx a0.Txs v2).bind fun u3=>(Mi a0 u3 a2 a3).bind fun v4=>if (!v4) then (some (Jf,1)) else ((idx a0.Txs v2).bind fun u5=>(Hh a0 u5 a3).bind fun v6=>if v6 then (some (Jf,9)) else ((Cz a0.Txs).bind fun v7=>(Hp (Be.mk a0.Txs (Bu.mk a0.Reads.L)) a3).bind fun v12=>(Lb v7 v2 v12).bind fun v13=>if v13.2.length=v7.length then (if (!v13.1) then (some (Jf,10)) else ((idx v13.2 v2).bind fun u15=>(Jq u15).bind fun v16=>if v16 then (some (Jf,10)) else (L3 a0 a2 a3 v2 v13.2))) else none))))
theorem Xh {a0:Be} {a1:Int} {a2:Int} {a3:List (List UInt8)} {r:Be × Int} (h:Dp a0 a1 a2 a3=some r):Br Tryz.prog 140 [.agg (EL.el a0),.one (Ii6 a1),.one (Ii6 a2),.one (.sl a3.length (a3.flatMap (eL eU8)))] (·=.tup [.agg (EL.el r.1),.one (Ii6 r.2)]):=by
 unfold Dp at h
 refine A2 Tryz.func140 R (nt:=81) R (Nbl R) ?_
 intro w0 S0
 refine csr (F2 R R (Bo R Wy (rm 1 R (Ak (Bn (csr (sv R (lo Qq R R R) ?_)))))))
 obtain ⟨v1,hv1,h⟩:=Ae h
 refine A8 R Awz (Aa R Af) (An R) (Pg hv1) (sv R (B1 R) (Ak (ccI h R (fun h=>?_) (fun h=>?_))))
 ·refine csr (sv R (A3 Wy Ac2 Ay (.nil _)) (sst Xw R R R R R (rm 1 R (Ak (Bs (Ag ?_))))))
  obtain rfl:=SJ h
  exact dn (Ad (ra Qq R R R) (Ad (rt R) Aj)) (I8 R) R
 ·refine Bf (Ab (csr (ld Qq R R R R (sv R (A4 R) ?_))))
  obtain ⟨v2,hv2,h⟩:=Ae h
  refine A8 R Asq (Aa R (Aa R Af)) (An R) (Pe hv2) (rm 1 R (Ak (Bn (Bq (csr (rm 1 R (sv R (Bt R R) (rm 1 R (Ak (ccI h R (fun h=>?_) (fun h=>?_)))))))))))
  ·refine csr (sv R (A3 Wy Ac2 Ay (.nil _)) (sst Xw R R R R R (rm 1 R (Ak (Bs (A0 (Ag ?_)))))))
   obtain rfl:=SJ h
   exact dn (Ad (ra Qq R R R) (Ad (rt R) Aj)) (I8 R) R
  ·refine Bn ?_
   refine Aav mixed (by kernel_rfl) ?_
   refine dv R (lo Qq R R R) (dv R (Ac N0 R) (dv R (l1 Aaj R R R) (dv R (A4 R) ?_)))
   obtain ⟨u3,hu3,h⟩:=Ae h
   refine dv R (Cb (f:=Bb) Qd (fun _=>R) R R R R hu3) ?_
   refine dv R (Bz (ys:=[Ii6 u3.ID,Ii6 u3.Begin,Ii6 u3.End,Ii6 u3.State,.b u3.In,.b u3.Out,.b u3.RO,.sl u3.Keys.length (u3.Keys.flatMap (eL eU8))]) Jr R (.cp _) R R) (dv R (A4 R) (dv R (A4 R) ?_))
   obtain ⟨v4,hv4,h⟩:=Ae h
   refine dd R (Db Axz (Aa R (Aa R (Aa R (Aa R Af)))) R (Wz hv4)) (dv R (B1 R) (dv R (Lh R) (Ad3 (Ab (ccI h R (fun h=>?_) (fun h=>?_))))))
   ·refine csr (sv R (A3 Wy Ac2 Ay (.nil _)) (sst Xw R R R R R (rm 1 R (Ak (Bs (A0 (Ag ?_)))))))
    obtain rfl:=SJ h
    exact dn (Ad (ra Qq R R R) (Ad (rt R) Aj)) (I8 R) R
   ·refine Bn ?_
    refine Aav mixed (by kernel_rfl) ?_
    refine dv R (lo Qq R R R) (dv R (Ac N0 R) (dv R (l1 Aaj R R R) (dv R (A4 R) ?_)))
    obtain ⟨u5,hu5,h⟩:=Ae h
    refine dv R (Cb (f:=Bb) Qd (fun _=>R) R R R R hu5) ?_
    refine dv R (Bz (ys:=[Ii6 u5.ID,Ii6 u5.Begin,Ii6 u5.End,Ii6 u5.State,.b u5.In,.b u5.Out,.b u5.RO,.sl u5.Keys.length (u5.Keys.flatMap (eL eU8))]) Jr R (.cp _) R R) (dv R (A4 R) ?_)
    obtain ⟨v6,hv6,h⟩:=Ae h
    refine dd R (Db Ayf (Aa R (Aa R (Aa R Af))) R (Vi hv6)) (dv R (Lh R) (Ad3 (Ab (ccI h R (fun h=>?_) (fun h=>?_)))))
    ·refine csr (sv R (A3 Wy Ac2 Ay (.nil _)) (sst Xw R R R R R (rm 1 R (Ak (Bs (A0 (Ag ?_)))))))
     obtain rfl:=SJ h
     exact dn (Ad (ra Qq R R R) (Ad (rt R) Aj)) (I8 R) R
    ·refine Bf (Ao (Ab (csr (sv R (Ac N0 R) (sv R (l1 Aaj R R R) ?_)))))
     obtain ⟨v7,hv7,h⟩:=Ae h
     refine H7 (x':=.s (.one (.ls 2 v7.length))) (M':=[.box (EL.el a0),.box [Znl,Znl],.arr 139 8 0 (v7.flatMap Bb)]) [] R Au1 (.func _) (Aa R Af) (P5 hv7) R R (by decide) R R R ?_
     refine rm 1 R (Ak (Bn (Bn (cj3 ((List A1)) (fun b8=>[(2,.s (.one (Ii6 a2))),(3,.s (.one (.sl a3.length (a3.flatMap (eL eU8))))),(4,.s (.one (.lp 0 0))),(8,.s (.one (.lp 1 0))),(10,.s (.one (Ii6 v2))),(11,.s (.one (.ls 2 b8.length)))]) (fun b8=>[.box (EL.el a0),.box [Znl,Znl],.arr 139 8 0 (b8.flatMap Bb)]) (fun b8=>L3 a0 a2 a3 v2 b8=some r) (fun _=>R) (fun b8 h=>?_) ?_))))
     ·unfold L3 at h
      refine csr (rm 7 R (sv R (A4 R) ?_))
      obtain ⟨u9,hu9,h⟩:=Ae h
      refine sv R (Gq (f:=Bb) Qd (fun _=>R) R R R R R hu9) ?_
      refine sv R (Ie O6 R R (Aw (f:=Bb) (fun _=>R) _).symm) ?_
      refine Zf (f:=Bb) (u':={u9 with State:=2}) (sz:=8) 3 sz3 (fun _=>R) R R R R R R R (zJ.1 R) (Iv hu9).2 (Nbl R) R ?_
      refine Mf 11 (y:=.s (.one (.ls 2 b8.length))) (.s (.one (.ls 2 (b8.set v2.toNat ({u9 with State:=2})).length))) R (congrArg (fun n=>AV.s (.one (.ls 2 n))) List.length_set.symm) ?_
      refine Mf 63 (y:=.s (.one (.ls 2 b8.length))) (.s (.one (.ls 2 (b8.set v2.toNat ({u9 with State:=2})).length))) R (congrArg (fun n=>AV.s (.one (.ls 2 n))) List.length_set.symm) ?_
      refine Mf 65 (y:=.s (.one (.ls 2 b8.length))) (.s (.one (.ls 2 (b8.set v2.toNat ({u9 with State:=2})).length))) R (congrArg (fun n=>AV.s (.one (.ls 2 n))) List.length_set.symm) ?_
      refine Mf 67 (y:=.s (.one (.ls 2 b8.length))) (.s (.one (.ls 2 (b8.set v2.toNat ({u9 with State:=2})).length))) R (congrArg (fun n=>AV.s (.one (.ls 2 n))) List.length_set.symm) ?_
      obtain ⟨u10,hu10,h⟩:=Ae h
      refine sv R (Gq (f:=Bb) Qd (fun _=>R) R R R R R hu10) ?_
      refine sv R (Ie Qo R R (Aw (f:=Bb) (fun _=>R) _).symm) ?_
      refine Zf (f:=Bb) (u':={u10 with End:=a2}) (sz:=8) 2 sz3 (fun _=>R) R R R R R R R (zJ.1 R) (Iv hu10).2 (Nbl R) R ?_
      refine Mf 11 (y:=.s (.one (.ls 2 (b8.set v2.toNat ({u9 with State:=2})).length))) (.s (.one (.ls 2 ((b8.set v2.toNat ({u9 with State:=2})).set v2.toNat ({u10 with End:=a2})).length))) R (congrArg (fun n=>AV.s (.one (.ls 2 n))) List.length_set.symm) ?_
      refine Mf 63 (y:=.s (.one (.ls 2 (b8.set v2.toNat ({u9 with State:=2})).length))) (.s (.one (.ls 2 ((b8.set v2.toNat ({u9 with State:=2})).set v2.toNat ({u10 with End:=a2})).length))) R (congrArg (fun n=>AV.s (.one (.ls 2 n))) List.length_set.symm) ?_
      refine Mf 65 (y:=.s (.one (.ls 2 (b8.set v2.toNat ({u9 with State:=2})).length))) (.s (.one (.ls 2 ((b8.set v2.toNat ({u9 with State:=2})).set v2.toNat ({u10 with End:=a2})).length))) R (congrArg (fun n=>AV.s (.one (.ls 2 n))) List.length_set.symm) ?_
      refine Mf 67 (y:=.s (.one (.ls 2 (b8.set v2.toNat ({u9 with State:=2})).length))) (.s (.one (.ls 2 ((b8.set v2.toNat ({u9 with State:=2})).set v2.toNat ({u10 with End:=a2})).length))) R (congrArg (fun n=>AV.s (.one (.ls 2 n))) List.length_set.symm) ?_
      obtain ⟨u11,hu11,h⟩:=Ae h
      refine sv R (Gq (f:=Bb) Qd (fun _=>R) R R R R R hu11) ?_
      refine sv R (Ie T4 R R (Aw (f:=Bb) (fun _=>R) _).symm) ?_
      refine Zf (f:=Bb) (u':={u11 with Keys:=a3}) (sz:=8) 7 Ay6 (fun _=>R) R R R R R R R (zJ.1 R) (Iv hu11).2 (Nbl R) R ?_
      refine Mf 11 (y:=.s (.one (.ls 2 ((b8.set v2.toNat ({u9 with State:=2})).set v2.toNat ({u10 with End:=a2})).length))) (.s (.one (.ls 2 (((b8.set v2.toNat ({u9 with State:=2})).set v2.toNat ({u10 with End:=a2})).set v2.toNat ({u11 with Keys:=a3})).length))) R (congrArg (fun n=>AV.s (.one (.ls 2 n))) List.length_set.symm) ?_
      refine Mf 63 (y:=.s (.one (.ls 2 ((b8.set v2.toNat ({u9 with State:=2})).set v2.toNat ({u10 with End:=a2})).length))) (.s (.one (.ls 2 (((b8.set v2.toNat ({u9 with State:=2})).set v2.toNat ({u10 with End:=a2})).set v2.toNat ({u11 with Keys:=a3})).length))) R (congrArg (fun n=>AV.s (.one (.ls 2 n))) List.length_set.symm) ?_
      refine Mf 65 (y:=.s (.one (.ls 2 ((b8.set v2.toNat ({u9 with State:=2})).set v2.toNat ({u10 with End:=a2})).length))) (.s (.one (.ls 2 (((b8.set v2.toNat ({u9 with State:=2})).set v2.toNat ({u10 with End:=a2})).set v2.toNat ({u11 with Keys:=a3})).length))) R (congrArg (fun n=>AV.s (.one (.ls 2 n))) List.length_set.symm) ?_
      refine Mf 67 (y:=.s (.one (.ls 2 ((b8.set v2.toNat ({u9 with State:=2})).set v2.toNat ({u10 with End:=a2})).length))) (.s (.one (.ls 2 (((b8.set v2.toNat ({u9 with State:=2})).set v2.toNat ({u10 with End:=a2})).set v2.toNat ({u11 with Keys:=a3})).length))) R (congrArg (fun n=>AV.s (.one (.ls 2 n))) List.length_set.symm) ?_
      refine Ak (csr (rm 1 R (sv R (Ac X6 R) (ld Ab5 R R R R (sv R (A3 Wy Ac2 (Av R (Av R Ay)) (.cons _ _ _ _ _ _ _ R R (Nbl R) (.cons _ _ _ _ _ _ _ R R (Nbl R) (.nil _)))) (sst Xw R R R R R (rm 1 R (Ak (Bs ?_)))))))))
      obtain rfl:=SJ h
      refine ⟨Or.inr R,_,_,_,(Ad (ra Qq R R R) (Ad (rt R) Aj)),(by (repeat' first | exact H6.nil _ | apply H6.cons | apply Hy.one | apply Hy.agg | exact C7.nil | exact C7.ls _ _ _ _ _ _ R (Aw (f:=Bb) (fun _=>R) _).symm | exact C7.id _ R | exact Cs.nil _ | apply Cs.cons)),?_⟩
      rfl
     ·skip
      refine Ap (rm 2 R (ld Qq R R R R (sv R (A4 R) ?_)))
      obtain ⟨v12,hv12,h⟩:=Ae h
      refine H7 (x':=.s (.one (.ls 3 v12.length))) (M':=[.box (EL.el a0),.box [Znl,Znl],.arr 139 8 0 (v7.flatMap Bb),.arr 3 1 0 (v12.flatMap eI)]) [] R Axd (.func _) (Aa R (Aa R Af)) (Tl hv12) R R (by decide) R R R ?_
      refine Ahv 52 R (by (repeat' first | exact H6.nil _ | apply H6.cons | apply Hy.one | apply Hy.agg | exact C7.nil | exact C7.ls _ _ _ _ _ _ R (Aw (f:=Bb) (fun _=>R) _).symm | exact C7.ls _ _ _ _ _ _ R (Aw (f:=eI) (fun _=>R) _).symm | exact C7.id _ R | exact Cs.nil _ | apply Cs.cons)) ?_
      obtain ⟨v13,hv13,h⟩:=Ae h
      refine H7 (x':=.s (.one (.b v13.1))) (M':=[.box (EL.el a0),.box [Znl,Znl],.arr 139 8 0 (v13.2.flatMap Bb),.arr 3 1 (v12.flatMap eI).length (v12.flatMap eI)]) [2] R Ax0 (.func _) (Aa R (Aa R (Aa R Af))) (Wt hv13) R R (by decide) R R R ?_
      obtain ⟨hl14,h⟩:=Cr h
      refine Mf 47 (y:=.s (.one (.ls 2 v7.length))) (.s (.one (.ls 2 v13.2.length))) R (congrArg (fun n=>AV.s (.one (.ls 2 n))) hl14.symm) ?_
      refine Mf 11 (y:=.s (.one (.ls 2 v7.length))) (.s (.one (.ls 2 v13.2.length))) R (congrArg (fun n=>AV.s (.one (.ls 2 n))) hl14.symm) ?_
      refine Mf 48 (y:=.s (.one (.ls 2 v7.length))) (.s (.one (.ls 2 v13.2.length))) R (congrArg (fun n=>AV.s (.one (.ls 2 n))) hl14.symm) ?_
      refine sv R (B1 R) (rm 1 R (ssI 55 h R (fun h=>?_) (fun h=>?_)))
      ·refine rm 6 R (Ak (Ck R (fun _=>?_) (fun hx=>Bool.noConfusion hx)))
       refine csr (sv R (A3 Wy Ac2 Ay (.nil _)) (sst Xw R R R R R (rm 1 R (Ak (Bs (Ag ?_))))))
       obtain rfl:=SJ h
       exact dn (Ad (ra Qq R R R) (Ad (rt R) Aj)) (I8 R) R
      ·refine rm 2 R (son R R R ?_)
       obtain ⟨u15,hu15,h⟩:=Ae h
       refine sv R (Gq (f:=Bb) Qd (fun _=>R) R R R R R hu15) ?_
       refine son R R R (sv R (Oi (f:=Bb) (sz:=8) 0 Jr (fun _=>R) R R R R (Iv hu15).2 (Nbl R) R) ?_)
       refine son R R R ?_
       obtain ⟨v16,hv16,h⟩:=Ae h
       refine A8 R Aru (Aa R Af) (An R) (Pu hv16) (rm 1 R (Ak (ccI h R (fun h=>?_) (fun h=>?_))))
       ·refine csr (sv R (A3 Wy Ac2 Ay (.nil _)) (sst Xw R R R R R (rm 1 R (Ak (Bs (Ag ?_))))))
        obtain rfl:=SJ h
        exact dn (Ad (ra Qq R R R) (Ad (rt R) Aj)) (I8 R) R
       ·refine Bf (Ab ?_)
        exact ⟨v13.2,_,h,⟨R,R,R,R,R,R,trivial⟩,R⟩
def Jd (a0:Bi) (a1:Int) (a2:Int) (a3:Int) (b1:Unit):Option (Bi × Int) :=
 (Ex a0 a1).bind fun v2=>if (decide (v2.1.State=2)) then (some (Cp,7)) else (if (!decide (v2.1.State=1)) then (some (Cp,14)) else (if (!decide (v2.1.Attempt=a2)) then (some (Cp,14)) else ((C8 a0 (A5.mk a1 a2 2 a3)).bind fun v3=>some (v3.1,v3.2))))
def Gp (a0:Bi) (a1:Int) (a2:Int) (a3:Int):Option (Bi × Int) :=
 (Da a0).bind fun v4=>if (!v4) then (some (Cp,1)) else ((Cq a1 a2).bind fun v5=>if (!v5) then (some (Cp,1)) else ((Gg a3).bind fun v6=>if (!v6) then (some (Cp,1)) else (Jd a0 a1 a2 a3 ())))
theorem Uy {a0:Bi} {a1:Int} {a2:Int} {a3:Int} {r:Bi × Int} (h:Gp a0 a1 a2 a3=some r):Br Tryz.prog 142 [.agg [.sl a0.L.length (a0.L.flatMap Am)],.one (Ii6 a1),.one (Ii6 a2),.one (Ii6 a3)] (·=.tup [.agg [.sl r.1.L.length (r.1.L.flatMap Am)],.one (Ii6 r.2)]):=by
 unfold Gp at h
 refine A2 Tryz.func142 R (nt:=57) R (Nbl R) ?_
 intro w0 S0
 refine csr (F2 R R (Bo R V2 (rm 1 R (Ak (Bn (Bn (cj3 (Unit) (fun b1=>[(1,.s (.one (Ii6 a1))),(2,.s (.one (Ii6 a2))),(3,.s (.one (Ii6 a3))),(4,.s (.one (.lp 0 0))),(8,.s (.one (.lp 1 0)))]) (fun b1=>[.box [.sl a0.L.length (a0.L.flatMap Am)],.box [Znl]]) (fun b1=>Jd a0 a1 a2 a3 b1=some r) (fun _=>R) (fun b1 h=>?_) ?_)))))))
 ·unfold Jd at h
  refine csr (ld Oj R R R R (sv R (A4 R) ?_))
  obtain ⟨v2,hv2,h⟩:=Ae h
  refine A8 R Awg (Aa R (Aa R Af)) (An R) (Kp hv2) (sv R (Cc R) (sv R (Ai R R) (sv R (Ai R R) (Bo R Vz (sst Aao R R R R R (rm 1 R (Ak (Bn (Bq (csr (fl Vv ti3 R R R R R R (sv R (B0 R R) (rm 1 R (Ak (ccI h R (fun h=>?_) (fun h=>?_))))))))))))))))
  ·refine csr (sv R (A3 V2 Abr Ay (.nil _)) (sst S9 R R R R R (rm 1 R (Ak (Bs (A0 (Ag ?_)))))))
   obtain rfl:=SJ h
   exact dn (Ad (ra Oj R R R) (Ad (rt R) Aj)) (I8 R) R
  ·refine csr (fl Vv ti3 R R R R R R (sv R (C6 R R) (rm 1 R (ssI 42 h R (fun h=>?_) (fun h=>?_)))))
   ·refine rm 6 R (Ak (Ck R (fun _=>?_) (fun hx=>Bool.noConfusion hx)))
    refine csr (sv R (A3 V2 Abr Ay (.nil _)) (sst S9 R R R R R (rm 1 R (Ak (Bs (A0 (Ag ?_)))))))
    obtain rfl:=SJ h
    exact dn (Ad (ra Oj R R R) (Ad (rt R) Aj)) (I8 R) R
   ·refine son R R R (sv R (Ac Va R) (son R R R (sv R (l1 ti3 R R R) (rm 1 R (son R R R (sv R (C6 R R) (rm 2 R (Ak (ccI h R (fun h=>?_) (fun h=>?_))))))))))
    ·refine csr (sv R (A3 V2 Abr Ay (.nil _)) (sst S9 R R R R R (rm 1 R (Ak (Bs (A0 (Ag ?_)))))))
     obtain rfl:=SJ h
     exact dn (Ad (ra Oj R R R) (Ad (rt R) Aj)) (I8 R) R
    ·refine Bf (Ao (Ab (csr (ld Oj R R R R (rm 3 R (sv R (A3 Vz Agv (Av R (Av R (Av R (Av R Ay)))) (.cons _ _ _ _ _ _ _ R R (Nbl R) (.cons _ _ _ _ _ _ _ R R (Nbl R) (.cons _ _ _ _ _ _ _ R R (Nbl R) (.cons _ _ _ _ _ _ _ R R (Nbl R) (.nil _)))))) ?_))))))
     obtain ⟨v3,hv3,h⟩:=Ae h
     refine A8 R Aj1 (Aa R (Aa R Af)) (An R) (Hl hv3) (sv R (Ai R R) (sv R (Ai R R) (sst S9 R R R R R (rm 1 R (Ak (Bs ?_))))))
     obtain rfl:=SJ h
     exact dn (Ad (ra Oj R R R) (Ad (rt R) Aj)) (An R) R
 ·skip
  refine Ap (sv R (lo Oj R R R) ?_)
  obtain ⟨v4,hv4,h⟩:=Ae h
  refine A8 R Avj (Aa R Af) (An R) (Kb hv4) (sv R (B1 R) (rm 1 R (ssI 15 h R (fun h=>?_) (fun h=>?_))))
  ·refine rm 10 R (Ak (Ck R (fun _=>?_) (fun hx=>Bool.noConfusion hx)))
   refine csr (sv R (A3 V2 Abr Ay (.nil _)) (sst S9 R R R R R (rm 1 R (Ak (Bs (Ag ?_))))))
   obtain rfl:=SJ h
   exact dn (Ad (ra Oj R R R) (Ad (rt R) Aj)) (I8 R) R
  ·refine rm 2 R (son R R R ?_)
   obtain ⟨v5,hv5,h⟩:=Ae h
   refine A8 R Ajg (Aa R (Aa R Af)) (An R) (Ed hv5) (son R R R (sv R (B1 R) (rm 2 R (ssI 21 h R (fun h=>?_) (fun h=>?_)))))
   ·refine rm 4 R (Ak (Ck R (fun _=>?_) (fun hx=>Bool.noConfusion hx)))
    refine csr (sv R (A3 V2 Abr Ay (.nil _)) (sst S9 R R R R R (rm 1 R (Ak (Bs (Ag ?_))))))
    obtain rfl:=SJ h
    exact dn (Ad (ra Oj R R R) (Ad (rt R) Aj)) (I8 R) R
   ·refine rm 1 R (son R R R ?_)
    obtain ⟨v6,hv6,h⟩:=Ae h
    refine A8 R Awm (Aa R Af) (An R) (Qa hv6) (son R R R (sv R (B1 R) (rm 1 R (Ak (ccI h R (fun h=>?_) (fun h=>?_))))))
    ·refine csr (sv R (A3 V2 Abr Ay (.nil _)) (sst S9 R R R R R (rm 1 R (Ak (Bs (Ag ?_))))))
     obtain rfl:=SJ h
     exact dn (Ad (ra Oj R R R) (Ad (rt R) Aj)) (I8 R) R
    ·refine Bf (Ab ?_)
     exact ⟨(),_,h,⟨R,R,R,R,R,trivial⟩,R⟩
def Em (b1:(List (List UInt8))):Option Bool :=
 (Ej b1).bind fun v2=>some v2
def Dm (s3:Int × (List (List UInt8))) (u4:A6) (b5:Unit):Option (LR (Int × (List (List UInt8))) ((List (List UInt8))) (Bool)) :=
 if (s3.2.length+[u4.Key].length)*24≤140737488355328 then (some (.cont ((wI (s3.1+1)),(s3.2++[u4.Key])))) else none
def Ep (a0:List A6) (s3:Int × (List (List UInt8))):Option (LR (Int × (List (List UInt8))) ((List (List UInt8))) (Bool)) :=
 if (decide (s3.1<(a0.length:Int))) then ((idx a0 s3.1).bind fun u4=>if (decide (32<(u4.Val.length:Int))) then (some (.ret false)) else (if u4.Del then (if (decide (0<(u4.Val.length:Int))) then (some (.ret false)) else (Dm s3 u4 ())) else (Dm s3 u4 ()))) else (some (.brk s3.2))
def F9 (a0:List A6):Option Bool :=
 (Lj (Ep a0) fuel (0,([]:List (List UInt8)))).bind fun x=>match x with | .inl r=>some r | .inr e7=>Em e7
theorem Sq {a0:List A6} {r:Bool} (h:F9 a0=some r):Br Tryz.prog 213 [.one (.sl a0.length (a0.flatMap Ba))] (·=.s (.one (.b r))):=by
 unfold F9 at h
 refine A2 Tryz.func213 R (nt:=34) R (Nbl R) ?_
 intro w0 S0
 refine csr (rm 1 R (Ak (csr (rm 1 R (Ak (Bn (csr (rm 1 R (sv R (Au Ac4 R) (rm 1 R (Ak ?_)))))))))))
 refine Dh 56 1 3 (by decide) R ?_
 refine cj ((List (List UInt8))) (fun b1=>[(3,.s (.one (.ls 0 b1.length)))]) (fun b1=>[.arr 56 1 0 (b1.flatMap (eL eU8))]) (fun b1=>Em b1=some r) (fun _=>R) (fun b1 h=>?_) ?_
 ·unfold Em at h
  refine csr (sv R (A4 R) ?_)
  refine Ahv 32 R (by (repeat' first | exact H6.nil _ | apply H6.cons | apply Hy.one | apply Hy.agg | exact C7.nil | exact C7.ls _ _ _ _ _ _ R (Aw (f:=(eL eU8)) (fun _=>R) _).symm | exact C7.id _ R | exact Cs.nil _ | apply Cs.cons)) ?_
  obtain ⟨v2,hv2,h⟩:=Ae h
  refine A8 R Aui (Aa R Af) (An R) (Pi hv2) (rm 1 R (Ak (Bs ?_)))
  obtain rfl:=SJ h
  exact dnT R R R R
 ·skip
  refine Bq ?_
  obtain ⟨x3,hx3,ho3⟩:=Ae h
  refine lpo (G:=Nat × (Int × (List (List UInt8)))) (fun g=>[(3,.s (.one (.ls 0 g.2.2.length))),(6,.s (.one (.sl a0.length (a0.flatMap Ba)))),(7,.s (.one (Ii6 (a0.length:Int)))),(8,.s (.one (Ii6 g.2.1)))]) (fun g=>[.arr 56 1 0 (g.2.2.flatMap (eL eU8))]) (fun g=>Lj (Ep a0) g.1 g.2=some x3) (fun g=>g.1) (fuel,(0,([]:List (List UInt8)))) hx3 ⟨R,R,R,R,trivial⟩ [] R (fun _=>R) ?_
  clear hx3 h
  rintro ⟨n3,s3⟩ h
  obtain ⟨n3,y3,rfl,h,hk3⟩:=Fh h
  unfold Ep at h
  refine csr (sv R (Bt R R) (Ak (Bn (ccI h R (fun h=>?_) (fun h=>?_)))))
  ·refine Bf (Ab (Bn (Bq (Bn (Ap ?_)))))
   obtain ⟨u4,hu4,h⟩:=Ae h
   refine sv R (Cb (f:=Ba) Ac4 (fun _=>R) R R R R hu4) ?_
   refine sv R (Bz (ys:=[.sl u4.Key.length (u4.Key.flatMap eU8),.sl u4.Val.length (u4.Val.flatMap eU8),.b u4.Del]) Afp R (.cp _) R R) (Bo R Aj9 (sst Amh R R R R R (Ak (Bn (Bn (cj3 (Unit) (fun b5=>[(3,.s (.one (.ls 0 s3.2.length))),(5,.s (.one (.lp 1 0))),(6,.s (.one (.sl a0.length (a0.flatMap Ba)))),(7,.s (.one (Ii6 (a0.length:Int)))),(8,.s (.one (Ii6 s3.1)))]) (fun b5=>[.arr 56 1 0 (s3.2.flatMap (eL eU8)),.box (EL.el u4)]) (fun b5=>Dm s3 u4 b5=some y3) (fun _=>R) (fun b5 h=>?_) ?_))))))
   ·unfold Dm at h
    refine Ap (rm 1 R (sv R (Ac S4 R) (sv R (l1 N2 R R R) ?_)))
    refine Fo R Tryz.underlying25 Afq R R (zJ.1 R) (by decide) ?_
    refine Pq [.arr 56 1 0 (s3.2.flatMap (eL eU8)),.box (EL.el u4),.arr 56 1 0 ([u4.Key].flatMap (eL eU8))] R ?_
    obtain ⟨hb6,h⟩:=Cr h
    refine Ub (f:=(eL eU8)) (xs:=s3.2) (us:=[u4.Key]) R Tryz.underlying25 Afq Asb (fun _=>R) R R (.one _ _ _ _ (.ls _ _ _ _ _ _ R (Aw (f:=(eL eU8)) (fun _=>R) [u4.Key]).symm)) R R R (.sl _ _ _ (Aw (f:=(eL eU8)) (fun _=>R) _)) R R hb6 (by decide) ?_
    refine rm 1 R (Ki (Ao (Ab (Ap (sv R (Bm R R) (rm 1 R (Ak ?_)))))))
    obtain rfl:=SJ h
    exact ⟨(n3,((wI (s3.1+1)),(s3.2++[u4.Key]))),_,hk3,⟨R,R,R,R,trivial⟩,R,zH _⟩
   ·skip
    refine Ap (fl Zo N2 R R R R R R (sv R (Au Xb R) (sv R (C9 R R) (rm 1 R (ssI 16 h R (fun h=>?_) (fun h=>?_))))))
    ·refine rm 3 R (B8 R R R (B8 R R R (B8 R R R (B8 R R R (rm 2 R (Ak (Ck R (fun _=>?_) (fun hx=>Bool.noConfusion hx))))))))
     refine csr (rm 1 R (Ak (Bs (Ag (A0 (Ag (Ag (A0 (Ag ?_)))))))))
     obtain rfl:=SJ h
     obtain rfl:Sum.inl _=x3:=hk3
     replace ho3:some _=some _:=ho3
     obtain rfl:=zD ho3
     exact dnT R R R R
    ·refine son R R R (sv R (Ac Adm R) (son R R R (sv R (l1 ti4 R R R) (rm 1 R (ssI 19 h R (fun h=>?_) (fun h=>?_))))))
     ·refine son R R R (sv R (Ac Zo R) (son R R R (sv R (l1 N2 R R R) (son R R R (sv R (Au Xb R) (son R R R (sv R (C9 R R) (rm 2 R (Ak (ccI h R (fun h=>?_) (fun h=>?_)))))))))))
      ·refine csr (rm 1 R (Ak (Bs (Ag (A0 (Ag (Ag (A0 (Ag ?_)))))))))
       obtain rfl:=SJ h
       obtain rfl:Sum.inl _=x3:=hk3
       replace ho3:some _=some _:=ho3
       obtain rfl:=zD ho3
       exact dnT R R R R
      ·refine Bf (Ab ?_)
       exact ⟨(),_,h,⟨R,R,R,R,R,trivial⟩,R⟩
     ·refine rm 6 R (Ak (Ck R (fun hx=>Bool.noConfusion hx) (fun _=>?_)))
      refine Bf (Ab ?_)
      exact ⟨(),_,h,⟨R,R,R,R,R,trivial⟩,R⟩
  ·refine Dd (Ar (Ar (Bj (Ab ?_))))
   obtain rfl:=SJ h
   obtain rfl:_=x3:=hk3
   exact ⟨s3.2,_,ho3,⟨R,trivial⟩,R⟩
def Rq (a0:List (List UInt8)):Option (List (List UInt8)) :=
 if (([]:List (List UInt8)).length+a0.length)*24≤140737488355328 then (some (([]:List (List UInt8))++a0)) else none
theorem Aho {a0:List (List UInt8)} {r:(List (List UInt8))} (h:Rq a0=some r):Br Tryz.prog 214 [.one (.sl a0.length (a0.flatMap (eL eU8)))] (·=.s (.one (.sl r.length (r.flatMap (eL eU8))))):=by
 unfold Rq at h
 refine A2 Tryz.func214 R (nt:=8) R (Nbl R) ?_
 intro w0 S0
 refine csr (rm 1 R (Ak (Bn (csr (rm 1 R (Ab2 R Tryz.underlying25 R (fun nq hnq=>?_)))))))
 cases nq
 ·skip
  refine Ak (Ck R (fun hx=>Bool.noConfusion hx) (fun _=>?_))
  refine Bf (Ab (csr (Ss R Tryz.underlying25 Afq (sv R (A4 R) ?_))))
  obtain ⟨hb1,h⟩:=Cr h
  refine Ub (f:=(eL eU8)) (xs:=([]:List (List UInt8))) (us:=a0) R Tryz.underlying25 Afq Asb (fun _=>R) R R (.one _ _ _ _ (.id _ R)) R R R (.sl _ _ _ (Aw (f:=(eL eU8)) (fun _=>R) _)) R R hb1 (by decide) ?_
  refine rm 1 R (Ak (Bs ?_))
  obtain rfl:=SJ h
  refine ⟨Or.inr R,_,_,_,(Ad (rt R) Aj),(by (repeat' first | exact H6.nil _ | apply H6.cons | apply Hy.one | apply Hy.agg | exact C7.nil | exact C7.ls _ _ _ _ _ _ R (Aw (f:=(eL eU8)) (fun _=>R) _).symm | exact C7.id _ R | exact Cs.nil _ | apply Cs.cons)),?_⟩
  rfl
 ·obtain rfl:=zZ (hnq rfl)
  replace h:(some ([]:List (List UInt8)))=some r:=by first | exact h | (rw [if_pos (by decide)] at h;exact h)
  refine Ak (Ck R (fun _=>?_) (fun hx=>Bool.noConfusion hx))
  refine csr (rm 1 R (Ak (Bs (Ag ?_))))
  obtain rfl:=SJ h
  exact dn (Ad (rt R) Aj) (I8 R) R
def Sb (a0:List Al):Option (List Al) :=
 if (([]:List Al).length+a0.length)*24≤140737488355328 then (some (([]:List Al)++a0)) else none
theorem Ahn {a0:List Al} {r:(List Al)} (h:Sb a0=some r):Br Tryz.prog 215 [.one (.sl a0.length (a0.flatMap As))] (·=.s (.one (.sl r.length (r.flatMap As)))):=by
 unfold Sb at h
 refine A2 Tryz.func215 R (nt:=8) R (Nbl R) ?_
 intro w0 S0
 refine csr (rm 1 R (Ak (Bn (csr (rm 1 R (Ab2 R Tryz.underlying26 R (fun nq hnq=>?_)))))))
 cases nq
 ·skip
  refine Ak (Ck R (fun hx=>Bool.noConfusion hx) (fun _=>?_))
  refine Bf (Ab (csr (Ss R Tryz.underlying26 Ag8 (sv R (A4 R) ?_))))
  obtain ⟨hb1,h⟩:=Cr h
  refine Ub (f:=As) (xs:=([]:List Al)) (us:=a0) R Tryz.underlying26 Ag8 Ayy (fun _=>R) R R (.one _ _ _ _ (.id _ R)) R R R (.sl _ _ _ (Aw (f:=As) (fun _=>R) _)) R R hb1 (by decide) ?_
  refine rm 1 R (Ak (Bs ?_))
  obtain rfl:=SJ h
  refine ⟨Or.inr R,_,_,_,(Ad (rt R) Aj),(by (repeat' first | exact H6.nil _ | apply H6.cons | apply Hy.one | apply Hy.agg | exact C7.nil | exact C7.ls _ _ _ _ _ _ R (Aw (f:=As) (fun _=>R) _).symm | exact C7.id _ R | exact Cs.nil _ | apply Cs.cons)),?_⟩
  rfl
 ·obtain rfl:=zZ (hnq rfl)
  replace h:(some ([]:List Al))=some r:=by first | exact h | (rw [if_pos (by decide)] at h;exact h)
  refine Ak (Ck R (fun _=>?_) (fun hx=>Bool.noConfusion hx))
  refine csr (rm 1 R (Ak (Bs (Ag ?_))))
  obtain rfl:=SJ h
  exact dn (Ad (rt R) Aj) (I8 R) R
def Iz (a0:List (List UInt8)):Option (List (List UInt8)) :=
 if (([]:List (List UInt8)).length+a0.length)*24≤140737488355328 then (some (([]:List (List UInt8))++a0)) else none
theorem Qc {a0:List (List UInt8)} {r:(List (List UInt8))} (h:Iz a0=some r):Dn Tryz.prog 214 [] [.one (.sl a0.length (a0.flatMap (eL eU8)))] (fun y m'=>y=.s (.one (.ls 0 r.length))∧m'=[.arr 56 1 0 (r.flatMap (eL eU8))]):=by
 unfold Iz at h
 refine Dk Tryz.func214 R (nt:=8) R (Nbl R) ?_
 intro w0 S0 X0 H0
 refine csr (rm 1 R (Ak (Bn (csr (rm 1 R (Ab2 R Tryz.underlying25 R (fun nq hnq=>?_)))))))
 cases nq
 ·skip
  refine Ak (Ck R (fun hx=>Bool.noConfusion hx) (fun _=>?_))
  refine Bf (Ab (csr (Ss R Tryz.underlying25 Afq (sv R (A4 R) ?_))))
  obtain ⟨hb1,h⟩:=Cr h
  refine Ub (f:=(eL eU8)) (xs:=([]:List (List UInt8))) (us:=a0) R Tryz.underlying25 Afq Asb (fun _=>R) R R (.one _ _ _ _ (.id _ R)) R R R (.sl _ _ _ (Aw (f:=(eL eU8)) (fun _=>R) _)) R R hb1 (by decide) ?_
  refine rm 1 R (Ak (Bs ?_))
  obtain rfl:=SJ h
  exact ⟨Or.inr R,_,[0],[.one (.ls 0 (([]:List (List UInt8))++a0).length)],[.arr 56 1 0 ((([]:List (List UInt8))++a0).flatMap (eL eU8))],(Ad (rt R) Aj),R,R,⟨by decide,R⟩,R,R,⟨R,R⟩⟩
 ·obtain rfl:=zZ (hnq rfl)
  replace h:(some ([]:List (List UInt8)))=some r:=by first | exact h | (rw [if_pos (by decide)] at h;exact h)
  refine Ak (Ck R (fun _=>?_) (fun hx=>Bool.noConfusion hx))
  refine csr (rm 1 R (Ak ?_))
  refine Dh 56 1 2 (by decide) R ?_
  refine Bs (Ag ?_)
  obtain rfl:=SJ h
  exact ⟨Or.inr R,_,[0],[.one (.ls 0 ([]:List (List UInt8)).length)],[.arr 56 1 0 (([]:List (List UInt8)).flatMap (eL eU8))],(Ad (rt R) Aj),R,R,⟨by decide,R⟩,R,R,⟨R,R⟩⟩
def Iy (a0:List Al):Option (List Al) :=
 if (([]:List Al).length+a0.length)*24≤140737488355328 then (some (([]:List Al)++a0)) else none
theorem P7 {a0:List Al} {r:(List Al)} (h:Iy a0=some r):Dn Tryz.prog 215 [] [.one (.sl a0.length (a0.flatMap As))] (fun y m'=>y=.s (.one (.ls 0 r.length))∧m'=[.arr 134 1 0 (r.flatMap As)]):=by
 unfold Iy at h
 refine Dk Tryz.func215 R (nt:=8) R (Nbl R) ?_
 intro w0 S0 X0 H0
 refine csr (rm 1 R (Ak (Bn (csr (rm 1 R (Ab2 R Tryz.underlying26 R (fun nq hnq=>?_)))))))
 cases nq
 ·skip
  refine Ak (Ck R (fun hx=>Bool.noConfusion hx) (fun _=>?_))
  refine Bf (Ab (csr (Ss R Tryz.underlying26 Ag8 (sv R (A4 R) ?_))))
  obtain ⟨hb1,h⟩:=Cr h
  refine Ub (f:=As) (xs:=([]:List Al)) (us:=a0) R Tryz.underlying26 Ag8 Ayy (fun _=>R) R R (.one _ _ _ _ (.id _ R)) R R R (.sl _ _ _ (Aw (f:=As) (fun _=>R) _)) R R hb1 (by decide) ?_
  refine rm 1 R (Ak (Bs ?_))
  obtain rfl:=SJ h
  exact ⟨Or.inr R,_,[0],[.one (.ls 0 (([]:List Al)++a0).length)],[.arr 134 1 0 ((([]:List Al)++a0).flatMap As)],(Ad (rt R) Aj),R,R,⟨by decide,R⟩,R,R,⟨R,R⟩⟩
 ·obtain rfl:=zZ (hnq rfl)
  replace h:(some ([]:List Al))=some r:=by first | exact h | (rw [if_pos (by decide)] at h;exact h)
  refine Ak (Ck R (fun _=>?_) (fun hx=>Bool.noConfusion hx))
  refine csr (rm 1 R (Ak ?_))
  refine Dh 134 1 2 (by decide) R ?_
  refine Bs (Ag ?_)
  obtain rfl:=SJ h
  exact ⟨Or.inr R,_,[0],[.one (.ls 0 ([]:List Al).length)],[.arr 134 1 0 (([]:List Al).flatMap As)],(Ad (rt R) Aj),R,R,⟨by decide,R⟩,R,R,⟨R,R⟩⟩
def Fi (b1:Unit):Option Int :=
 some (-1)
def Dw (a0:List (List UInt8)) (a1:List UInt8) (s2:Int):Option (LR (Int) (Unit) (Int)) :=
 if (decide (s2<(a0.length:Int))) then ((idx a0 s2).bind fun u3=>(D7 a1 u3).bind fun v4=>if v4 then (some (.ret s2)) else (some (.cont (wI (s2+1))))) else (some (.brk ()))
end Go.Proofs.YtkblaobhhoebaaaGreat.Abs
