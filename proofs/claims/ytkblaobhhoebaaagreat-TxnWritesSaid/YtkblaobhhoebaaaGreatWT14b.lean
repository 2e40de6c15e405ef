/-
 t
-/
import Derived.Test.YtkblaobhhoebaaaGreatWT14a
set_option linter.unusedVariables false
set_option linter.unusedSimpArgs false
namespace Go.Proofs.YtkblaobhhoebaaaGreat.Abs
open Go.RowKit Go.Proofs
set_option maxRecDepth 100000
def Iq (a0:List (List A2)):Option (List A2) :=
 (Ct (Eo a0) fuel (0,0)).bind fun e10=>I7 a0 e10
theorem Uy {a0:List (List A2)} {r:(List A2)} (h:Iq a0=some r):Br Tryz.prog 133 [.one (.sl a0.length (a0.flatMap (eL Bb)))] (·=.s (.one (.sl r.length (r.flatMap Bb)))):=by
 unfold Iq at h
 refine A5 Tryz.func133 R (nt:=36) R (Nbl R) ?_
 intro w0 S0
 refine csr (rm 1 R (Ak (csr (rm 1 R (Ak (Bl (csr (rm 1 R (sv R (Aw Aou R) (rm 1 R (Ak (cj (Int) (fun b1=>[(0,.s (.one (.sl a0.length (a0.flatMap (eL Bb))))),(3,.s (.one (Ii6 b1)))]) (fun b1=>[]) (fun b1=>I7 a0 b1=some r) (fun _=>R) (fun b1 h=>?_) ?_))))))))))))
 ·unfold I7 at h
  refine csr (sv R (A4 R) ?_)
  obtain ⟨v2,hv2,h⟩:=Ae h
  refine Ie (x':=.s (.one (.ls 0 v2.length))) (M':=[.arr 139 8 0 (v2.flatMap Bb)]) [] R Ayl (.func _) (Aa R (Aa R Af)) (Wf hv2) R R (by decide) R R R ?_
  refine rm 1 R (Ak (Bl (csr (rm 1 R (sv R (Aw Aou R) (rm 1 R (Ak (cj ((List A2)) (fun b3=>[(6,.s (.one (.ls 0 b3.length)))]) (fun b3=>[.arr 139 8 0 (b3.flatMap Bb)]) (fun b3=>Mq b3=some r) (fun _=>R) (fun b3 h=>?_) ?_))))))))
  ·unfold Mq at h
   refine csr (rm 2 R (Ak (Bs ?_)))
   obtain rfl:=SJ h
   refine ⟨Or.inr R,_,_,_,(Ad (rt R) Ai),(by (repeat' first | exact Ic.nil _ | apply Ic.cons | apply H6.one | apply H6.agg | exact Cz.nil | exact Cz.ls _ _ _ _ _ _ R (Au (f:=Bb) (fun _=>R) _).symm | exact Cz.id _ R | exact Co.nil _ | apply Co.cons)),?_⟩
   rfl
  ·skip
   refine Bq ?_
   obtain ⟨x4,hx4,ho4⟩:=Ae h
   refine lpo (G:=Nat × (Int × (List A2))) (fun g=>[(6,.s (.one (.ls 0 g.2.2.length))),(25,.s (.one (.sl a0.length (a0.flatMap (eL Bb))))),(26,.s (.one (Ii6 (a0.length:Int)))),(27,.s (.one (Ii6 g.2.1)))]) (fun g=>[.arr 139 8 0 (g.2.2.flatMap Bb)]) (fun g=>Ct (Ek a0) g.1 g.2=some x4) (fun g=>g.1) (fuel,(0,v2)) hx4 ⟨R,R,R,R,trivial⟩ [] R (fun _=>R) ?_
   clear hx4 h
   rintro ⟨n4,s4⟩ h
   obtain ⟨n4,y4,rfl,h,hk4⟩:=Cu h
   unfold Ek at h
   refine csr (sv R (Bt R R) (Ak (Bl (ccI h R (fun h=>?_) (fun h=>?_)))))
   ·refine Bf (Ab (Bl (Bq (Bl (Aq ?_)))))
    obtain ⟨u5,hu5,h⟩:=Ae h
    refine sv R (B8 (f:=(eL Bb)) Aou (fun _=>R) R R R R hu5) ?_
    refine sv R (B6 Aa8 R (.cp _) R) (rm 1 R (Ak (Aq (rm 1 R (sv R (A4 R) ?_)))))
    obtain ⟨hb6,h⟩:=Cp h
    refine Tr (f:=Bb) (xs:=s4.2) (us:=u5) R Tryz.underlying29 Ahb Ax0 (fun _=>R) R R (.one _ _ _ _ (.id _ R)) R R R (.sl _ _ _ (Au (f:=Bb) (fun _=>R) _)) R R hb6 (by decide) ?_
    refine rm 1 R (Kz (Ap (Ab (Aq (sv R (Bo R R) (rm 1 R (Ak ?_)))))))
    obtain rfl:=SJ h
    exact ⟨(n4,((wI (s4.1+1)),(s4.2++u5))),_,hk4,⟨R,R,R,R,trivial⟩,R,zG _⟩
   ·refine Da (As (As (Bj (Ab ?_))))
    obtain rfl:=SJ h
    obtain rfl:_=x4:=hk4
    exact ⟨s4.2,_,ho4,⟨R,trivial⟩,R⟩
 ·skip
  refine Bq ?_
  obtain ⟨x8,hx8,ho8⟩:=Ae h
  refine lpo (G:=Nat × (Int × Int)) (fun g=>[(0,.s (.one (.sl a0.length (a0.flatMap (eL Bb))))),(3,.s (.one (Ii6 g.2.1))),(9,.s (.one (.sl a0.length (a0.flatMap (eL Bb))))),(10,.s (.one (Ii6 (a0.length:Int)))),(11,.s (.one (Ii6 g.2.2)))]) (fun g=>[]) (fun g=>Ct (Eo a0) g.1 g.2=some x8) (fun g=>g.1) (fuel,(0,0)) hx8 ⟨R,R,R,R,R,trivial⟩ [] R (fun _=>R) ?_
  clear hx8 h
  rintro ⟨n8,s8⟩ h
  obtain ⟨n8,y8,rfl,h,hk8⟩:=Cu h
  unfold Eo at h
  refine csr (sv R (Bt R R) (Ak (Bl (ccI h R (fun h=>?_) (fun h=>?_)))))
  ·refine Bf (Ab (Bl (Bq (Bl (Aq ?_)))))
   obtain ⟨u9,hu9,h⟩:=Ae h
   refine sv R (B8 (f:=(eL Bb)) Aou (fun _=>R) R R R R hu9) ?_
   refine sv R (B6 Aa8 R (.cp _) R) (rm 1 R (Ak (csr (rm 2 R (sv R (Aw Qm R) (sv R (Bo R R) (rm 1 R (Ak (csr (rm 1 R (sv R (Bt R R) (Ak (ccI h R (fun h=>?_) (fun h=>?_))))))))))))))
   ·cases h
   ·refine Bf (Ap (Ab (Aq (sv R (Bo R R) (rm 1 R (Ak ?_))))))
    obtain rfl:=SJ h
    exact ⟨(n8,((wI (s8.1+(u9.length:Int))),(wI (s8.2+1)))),_,hk8,⟨R,R,R,R,R,trivial⟩,R,zG _⟩
  ·refine Da (As (As (Bj (Ab ?_))))
   obtain rfl:=SJ h
   obtain rfl:_=x8:=hk8
   exact ⟨s8.1,_,ho8,⟨R,R,trivial⟩,R⟩
def Jg (a0:Bc) (a1:Int) (a2:Int) (a3:Bool):Option (Bc × Int) :=
 (K4 a0).bind fun v1=>if (!v1) then (some (Ja,1)) else ((J8 (A2.mk a1 a2 0 1 false false a3 ([]:List (List UInt8)))).bind fun v2=>if (!v2) then (some (Ja,1)) else ((Hd a0 a1).bind fun v3=>if (decide (0≤v3)) then (some (Ja,7)) else (if (decide (64≤(a0.Txs.length:Int))) then (some (Ja,8)) else ((Iq ([a0.Txs,([(A2.mk a1 a2 0 1 false false a3 ([]:List (List UInt8)))]:List A2)]:List (List A2))).bind fun v4=>some ((Bc.mk v4 a0.Reads),0)))))
theorem Aal {a0:Bc} {a1:Int} {a2:Int} {a3:Bool} {r:Bc × Int} (h:Jg a0 a1 a2 a3=some r):Br Tryz.prog 59 [.agg (EL.el a0),.one (Ii6 a1),.one (Ii6 a2),.one (.b a3)] (·=.tup [.agg (EL.el r.1),.one (Ii6 r.2)]):=by
 unfold Jg at h
 refine A5 Tryz.func59 R (nt:=46) R (Nbl R) ?_
 intro w0 S0
 refine csr (F4 R R (Bp R Ya (rm 1 R (Ak (csr (rm 3 R (sv R (A6 Tj Awk (Ax R (Ax R (Ax R (Ax R A1)))) (.cons _ _ _ _ _ _ _ R R (Nbl R) (.cons _ _ _ _ _ _ _ R R (Nbl R) (.cons _ _ _ _ _ _ _ R R (Nbl R) (.cons _ _ _ _ _ _ _ R R (Nbl R) (.nil _)))))) (Bp R Tj (sst Tb R R R R R (Ak (Bl (Bq (csr (sv R (lo Qq R R R) ?_))))))))))))))
 obtain ⟨v1,hv1,h⟩:=Ae h
 refine Ba R Axh (Aa R Af) (An R) (Pl hv1) (sv R (B0 R) (rm 1 R (ssI 19 h R (fun h=>?_) (fun h=>?_))))
 ·refine rm 5 R (Ak (Ci R (fun _=>?_) (fun hx=>Bool.noConfusion hx)))
  refine csr (sv R (A6 Ya Adx A1 (.nil _)) (sst Xu R R R R R (rm 1 R (Ak (Bs (Az (Ag ?_)))))))
  obtain rfl:=SJ h
  exact dn (Ad (ra Qq R R R) (Ad (rt R) Ai)) (Ip R) R
 ·refine son R R R (ld Ju R R R R (son R R R ?_))
  obtain ⟨v2,hv2,h⟩:=Ae h
  refine Ba R Awi (Aa R Af) (Ip R) (R6 hv2) (son R R R (sv R (B0 R) (rm 2 R (Ak (ccI h R (fun h=>?_) (fun h=>?_))))))
  ·refine csr (sv R (A6 Ya Adx A1 (.nil _)) (sst Xu R R R R R (rm 1 R (Ak (Bs (Az (Ag ?_)))))))
   obtain rfl:=SJ h
   exact dn (Ad (ra Qq R R R) (Ad (rt R) Ai)) (Ip R) R
  ·refine csr (ld Qq R R R R (sv R (A4 R) ?_))
   obtain ⟨v3,hv3,h⟩:=Ae h
   refine Ba R Ar2 (Aa R (Aa R Af)) (An R) (P2 hv3) (sv R (Hz R R) (rm 1 R (Ak (ccI h R (fun h=>?_) (fun h=>?_)))))
   ·refine csr (sv R (A6 Ya Adx A1 (.nil _)) (sst Xu R R R R R (rm 1 R (Ak (Bs (Az (Ag ?_)))))))
    obtain rfl:=SJ h
    exact dn (Ad (ra Qq R R R) (Ad (rt R) Ai)) (Ip R) R
   ·refine csr (fl Oo Aa8 R R R R R R (sv R (Aw Qm R) (sv R (Hz R R) (rm 1 R (Ak (ccI h R (fun h=>?_) (fun h=>?_)))))))
    ·refine csr (sv R (A6 Ya Adx A1 (.nil _)) (sst Xu R R R R R (rm 1 R (Ak (Bs (Az (Ag ?_)))))))
     obtain rfl:=SJ h
     exact dn (Ad (ra Qq R R R) (Ad (rt R) Ai)) (Ip R) R
    ·refine Bf (Ap (Ab (Bl ?_)))
     obtain ⟨v4,hv4,h⟩:=Ae h
     refine Ig [9] [0,1,0,4,15,31,0,64,255,511,1023] [[.box (EL.el a0),.box [Znl,Znl],.box [Ii6 a1,Ii6 a2,Ii6 0,Ii6 1,.b false,.b false,.b a3,Znl]],[.box (EL.el a0),.box (EL.el (Bc.mk v4 a0.Reads)),.box [Ii6 a1,Ii6 a2,Ii6 0,Ii6 1,.b false,.b false,.b a3,Znl]]] (by kernel_rfl) mixed (by kernel_rfl) (by decide) R R R R ?_
     refine ev (A7 0 R R) R R (Ac Oo R) (ev (A7 0 R R) R R (l1 Aa8 R R R) (ev (A7 0 R R) R R (lo Ju R R R) ?_))
     refine ed (A7 0 R R) R R (Ah3 (out':=([(A2.mk a1 a2 0 1 false false a3 ([]:List (List UInt8)))]:List A2).flatMap Bb) Tryz.underlying29 Ahb (Ax R A1) (.cons _ _ _ _ _ _ _ R R (Nbl R) (.nil _)) R (by decide) R) ?_
     refine ed (A7 0 R R) R R (Zj (out:=([a0.Txs,([(A2.mk a1 a2 0 1 false false a3 ([]:List (List UInt8)))]:List A2)]:List (List A2)).flatMap (eL Bb)) Tryz.underlying312 A07 (Ax R (Ax R A1)) (.cons _ _ _ _ _ _ _ R R (Nbl R) (.cons _ _ _ _ _ _ _ R R (Nbl R) (.nil _))) R (by decide)) ?_
     refine ed (A7 0 R R) R R (Cy Axn (Aa R Af) R (Uy hv4)) (ev (A7 0 R R) R R (Ac Yo R) (ev (A7 0 R R) R R (lo Aco R R R) (ev (A7 0 R R) R R (A6 Ya Adx (Ax R (Ax R A1)) (.cons _ _ _ _ _ _ _ R R (Nbl R) (.cons _ _ _ _ _ _ _ R R (Nbl R) (.nil _)))) (ee0 0 R R R R (fun ζ=>?_) ?_))))
     ·refine sst Xu R R R R R (Pz [.box (EL.el a0),.box (EL.el (Bc.mk v4 a0.Reads)),.box [Ii6 a1,Ii6 a2,Ii6 0,Ii6 1,.b false,.b false,.b a3,Znl]] R ?_)
      exact Sv
     refine ev (A7 1 R R) R R (Iu R) (Aas (Ab (Bs ?_)))
     obtain rfl:=SJ h
     exact dn (Ad (ra Qq R R R) (Ad (rt R) Ai)) (An R) R
def J5 (a0:Int) (b1:Unit):Option (List Be) :=
 if (decide (0<(wI (a0-(wI (0-0)))))) then (if 0<(wI (a0-(wI (0-0))))∧(wI (a0-(wI (0-0))))*((64:Nat):Int)≤281474976710656 then (if (0:Int)≤0∧0≤((List.replicate (wI (a0-(wI (0-0)))).toNat Pp).length:Int) then (some ((List.replicate (wI (a0-(wI (0-0)))).toNat Pp).take (0:Int).toNat)) else none) else none) else (some ([]:List Be))
def Kt (a0:Int):Option (List Be) :=
 if (decide (a0<0)) then none else (J5 a0 ())
theorem V2 {a0:Int} {r:(List Be)} (h:Kt a0=some r):Dl Tryz.prog 134 [] [.one (Znl),.one (Ii6 a0)] (fun y m'=>y=.s (.one (.ls 0 r.length))∧m'=[.arr 88 6 0 (r.flatMap Bm)]):=by
 unfold Kt at h
 refine Dc Tryz.func134 R (nt:=27) R (Nbl R) ?_
 intro w0 S0 X0 H0
 refine csr (rm 1 R (Ak (Bl (csr (rm 1 R (sv R (Bt R R) (Ak (cj (Unit) (fun b1=>[(0,.s (.one (Znl))),(1,.s (.one (Ii6 a0)))]) (fun b1=>[]) (fun b1=>J5 a0 b1=some r) (fun _=>R) (fun b1 h=>?_) ?_))))))))
 ·unfold J5 at h
  refine Bl (csr (rm 2 R (sv R (Gu Y1 R) (rm 1 R (sv R (F2 Y1 R) (sv R (Nk R R) (sv R (Nk R R) (rm 1 R (Ak (csr (rm 1 R (sv R (C5 R R) (Ak (ccI h R (fun h=>?_) (fun h=>?_)))))))))))))))
  ·refine Aq (rm 2 R (sv R (Gu Y1 R) (sv R (M0 Y1 R R) (sv R (A4 R) ?_))))
   obtain ⟨hm2,h⟩:=Cp h
   refine Ahu (f:=Bm) (z:=Pp) R Tryz.underlying38 Atz Tryz.underlying3 (fun _=>R) R R R hm2 (by decide) ?_
   refine rm 1 R (sv R (F2 Y1 R) ?_)
   obtain ⟨hs3,h⟩:=Cp h
   refine Abz (f:=Bm) R Y1 (fun _=>R) R R R R R hs3 ?_
   refine rm 1 R (Ak (csr (rm 2 R (Ak (Bs ?_)))))
   obtain rfl:=SJ h
   exact ⟨Or.inr R,_,[1],[.one (.ls 0 ((List.replicate (wI (a0-(wI (0-0)))).toNat Pp).take (0:Int).toNat).length)],[.arr 88 6 0 (((List.replicate (wI (a0-(wI (0-0)))).toNat Pp).take (0:Int).toNat).flatMap Bm)],(Ad (rt R) Ai),R,R,⟨by decide,R⟩,R,R,⟨R,R⟩⟩
  ·refine Bf (Ab (csr (rm 2 R (Ak ?_))))
   refine C6 88 6 4 (by decide) R ?_
   refine Bs ?_
   obtain rfl:=SJ h
   exact ⟨Or.inr R,_,[0],[.one (.ls 0 ([]:List Be).length)],[.arr 88 6 0 (([]:List Be).flatMap Bm)],(Ad (rt R) Ai),R,R,⟨by decide,R⟩,R,R,⟨R,R⟩⟩
 ·skip
  refine ccI h R (fun h=>?_) (fun h=>?_)
  ·cases h
  ·refine Bf (Ab ?_)
   exact ⟨(),_,h,⟨R,R,trivial⟩,R⟩
def Ni (b3:(List Be)):Option (List Be) :=
 some b3
def E8 (a0:List (List Be)) (s4:Int × (List Be)):Option (LB (Int × (List Be)) ((List Be))) :=
 if (decide (s4.1<(a0.length:Int))) then ((idx a0 s4.1).bind fun u5=>if (s4.2.length+u5.length)*64≤140737488355328 then (some (.cont ((wI (s4.1+1)),(s4.2++u5)))) else none) else (some (.brk s4.2))
def J7 (a0:List (List Be)) (b1:Int):Option (List Be) :=
 (Kt b1).bind fun v2=>(Ct (E8 a0) fuel (0,v2)).bind fun e7=>Ni e7
def E7 (a0:List (List Be)) (s8:Int × Int):Option (LB (Int × Int) (Int)) :=
 if (decide (s8.2<(a0.length:Int))) then ((idx a0 s8.2).bind fun u9=>if (decide ((wI (s8.1+(u9.length:Int)))<0)) then none else (some (.cont ((wI (s8.1+(u9.length:Int))),(wI (s8.2+1)))))) else (some (.brk s8.1))
def Km (a0:List (List Be)):Option (List Be) :=
 (Ct (E7 a0) fuel (0,0)).bind fun e10=>J7 a0 e10
theorem V1 {a0:List (List Be)} {r:(List Be)} (h:Km a0=some r):Br Tryz.prog 60 [.one (.sl a0.length (a0.flatMap (eL Bm)))] (·=.s (.one (.sl r.length (r.flatMap Bm)))):=by
 unfold Km at h
 refine A5 Tryz.func60 R (nt:=36) R (Nbl R) ?_
 intro w0 S0
 refine csr (rm 1 R (Ak (csr (rm 1 R (Ak (Bl (csr (rm 1 R (sv R (Aw Aoz R) (rm 1 R (Ak (cj (Int) (fun b1=>[(0,.s (.one (.sl a0.length (a0.flatMap (eL Bm))))),(3,.s (.one (Ii6 b1)))]) (fun b1=>[]) (fun b1=>J7 a0 b1=some r) (fun _=>R) (fun b1 h=>?_) ?_))))))))))))
 ·unfold J7 at h
  refine csr (sv R (A4 R) ?_)
  obtain ⟨v2,hv2,h⟩:=Ae h
  refine Ie (x':=.s (.one (.ls 0 v2.length))) (M':=[.arr 88 6 0 (v2.flatMap Bm)]) [] R Ay0 (.func _) (Aa R (Aa R Af)) (V2 hv2) R R (by decide) R R R ?_
  refine rm 1 R (Ak (Bl (csr (rm 1 R (sv R (Aw Aoz R) (rm 1 R (Ak (cj ((List Be)) (fun b3=>[(6,.s (.one (.ls 0 b3.length)))]) (fun b3=>[.arr 88 6 0 (b3.flatMap Bm)]) (fun b3=>Ni b3=some r) (fun _=>R) (fun b3 h=>?_) ?_))))))))
  ·unfold Ni at h
   refine csr (rm 2 R (Ak (Bs ?_)))
   obtain rfl:=SJ h
   refine ⟨Or.inr R,_,_,_,(Ad (rt R) Ai),(by (repeat' first | exact Ic.nil _ | apply Ic.cons | apply H6.one | apply H6.agg | exact Cz.nil | exact Cz.ls _ _ _ _ _ _ R (Au (f:=Bm) (fun _=>R) _).symm | exact Cz.id _ R | exact Co.nil _ | apply Co.cons)),?_⟩
   rfl
  ·skip
   refine Bq ?_
   obtain ⟨x4,hx4,ho4⟩:=Ae h
   refine lpo (G:=Nat × (Int × (List Be))) (fun g=>[(6,.s (.one (.ls 0 g.2.2.length))),(25,.s (.one (.sl a0.length (a0.flatMap (eL Bm))))),(26,.s (.one (Ii6 (a0.length:Int)))),(27,.s (.one (Ii6 g.2.1)))]) (fun g=>[.arr 88 6 0 (g.2.2.flatMap Bm)]) (fun g=>Ct (E8 a0) g.1 g.2=some x4) (fun g=>g.1) (fuel,(0,v2)) hx4 ⟨R,R,R,R,trivial⟩ [] R (fun _=>R) ?_
   clear hx4 h
   rintro ⟨n4,s4⟩ h
   obtain ⟨n4,y4,rfl,h,hk4⟩:=Cu h
   unfold E8 at h
   refine csr (sv R (Bt R R) (Ak (Bl (ccI h R (fun h=>?_) (fun h=>?_)))))
   ·refine Bf (Ab (Bl (Bq (Bl (Aq ?_)))))
    obtain ⟨u5,hu5,h⟩:=Ae h
    refine sv R (B8 (f:=(eL Bm)) Aoz (fun _=>R) R R R R hu5) ?_
    refine sv R (B6 Ahe R (.cp _) R) (rm 1 R (Ak (Aq (rm 1 R (sv R (A4 R) ?_)))))
    obtain ⟨hb6,h⟩:=Cp h
    refine Tr (f:=Bm) (xs:=s4.2) (us:=u5) R Tryz.underlying38 Atz Ax2 (fun _=>R) R R (.one _ _ _ _ (.id _ R)) R R R (.sl _ _ _ (Au (f:=Bm) (fun _=>R) _)) R R hb6 (by decide) ?_
    refine rm 1 R (Kz (Ap (Ab (Aq (sv R (Bo R R) (rm 1 R (Ak ?_)))))))
    obtain rfl:=SJ h
    exact ⟨(n4,((wI (s4.1+1)),(s4.2++u5))),_,hk4,⟨R,R,R,R,trivial⟩,R,zG _⟩
   ·refine Da (As (As (Bj (Ab ?_))))
    obtain rfl:=SJ h
    obtain rfl:_=x4:=hk4
    exact ⟨s4.2,_,ho4,⟨R,trivial⟩,R⟩
 ·skip
  refine Bq ?_
  obtain ⟨x8,hx8,ho8⟩:=Ae h
  refine lpo (G:=Nat × (Int × Int)) (fun g=>[(0,.s (.one (.sl a0.length (a0.flatMap (eL Bm))))),(3,.s (.one (Ii6 g.2.1))),(9,.s (.one (.sl a0.length (a0.flatMap (eL Bm))))),(10,.s (.one (Ii6 (a0.length:Int)))),(11,.s (.one (Ii6 g.2.2)))]) (fun g=>[]) (fun g=>Ct (E7 a0) g.1 g.2=some x8) (fun g=>g.1) (fuel,(0,0)) hx8 ⟨R,R,R,R,R,trivial⟩ [] R (fun _=>R) ?_
  clear hx8 h
  rintro ⟨n8,s8⟩ h
  obtain ⟨n8,y8,rfl,h,hk8⟩:=Cu h
  unfold E7 at h
  refine csr (sv R (Bt R R) (Ak (Bl (ccI h R (fun h=>?_) (fun h=>?_)))))
  ·refine Bf (Ab (Bl (Bq (Bl (Aq ?_)))))
   obtain ⟨u9,hu9,h⟩:=Ae h
   refine sv R (B8 (f:=(eL Bm)) Aoz (fun _=>R) R R R R hu9) ?_
   refine sv R (B6 Ahe R (.cp _) R) (rm 1 R (Ak (csr (rm 2 R (sv R (Aw Y1 R) (sv R (Bo R R) (rm 1 R (Ak (csr (rm 1 R (sv R (Bt R R) (Ak (ccI h R (fun h=>?_) (fun h=>?_))))))))))))))
   ·cases h
   ·refine Bf (Ap (Ab (Aq (sv R (Bo R R) (rm 1 R (Ak ?_))))))
    obtain rfl:=SJ h
    exact ⟨(n8,((wI (s8.1+(u9.length:Int))),(wI (s8.2+1)))),_,hk8,⟨R,R,R,R,R,trivial⟩,R,zG _⟩
  ·refine Da (As (As (Bj (Ab ?_))))
   obtain rfl:=SJ h
   obtain rfl:_=x8:=hk8
   exact ⟨s8.1,_,ho8,⟨R,R,trivial⟩,R⟩
def Fh (a1:Int) (a2:Int) (a3:Bool) (b3:Ah):Option (Ah × Int × Int) :=
 if (decide (1099511627776≤b3.Next)) then (some (b3,0,11)) else (if (decide (16≤(b3.Open.length:Int))) then (some (b3,0,8)) else ((Ii b3.Toks a1 a2).bind fun v4=>if (!decide (v4.2=0)) then (some (b3,0,v4.2)) else ((Jg b3.Cert b3.Next b3.Store.Ts a3).bind fun v5=>if (!decide (v5.2=0)) then (some (b3,0,v5.2)) else ((Km ([b3.Open,([(Be.mk b3.Next a1 a2 b3.Store.Ts a3 (B2.mk ([]:List Av)))]:List Be)]:List (List Be))).bind fun v6=>some ((Ah.mk b3.Store v5.1 v4.1 v6 (wI (b3.Next+1))),b3.Next,0)))))
def Jm (a0:Ah) (a1:Int) (a2:Int) (a3:Bool):Option (Ah × Int × Int) :=
 (Iz a0).bind fun v1=>if (!v1) then (some (E4,0,1)) else ((Kg a0 a1).bind fun v2=>if v2.2 then (if (decide (v2.1.Attempt<a2)) then ((Cv a0 v2.1).bind fun v7=>Fh a1 a2 a3 v7) else (Fh a1 a2 a3 a0)) else (Fh a1 a2 a3 a0))
theorem Ox {a0:Ah} {a1:Int} {a2:Int} {a3:Bool} {r:Ah × Int × Int} (h:Jm a0 a1 a2 a3=some r):Br Tryz.prog 23 [.agg (EL.el a0),.one (Ii6 a1),.one (Ii6 a2),.one (.b a3)] (·=.tup [.agg (EL.el r.1),.one (Ii6 r.2.1),.one (Ii6 r.2.2)]):=by
 unfold Jm at h
 refine A5 Tryz.func23 R (nt:=101) R (Nbl R) ?_
 intro w0 S0
 refine csr (F4 R R (Bp R Qw (rm 2 R (Ak (Bl (csr (sv R (lo Dd R R R) ?_)))))))
 obtain ⟨v1,hv1,h⟩:=Ae h
 refine Ba R Avo (Aa R Af) (An R) (Nn hv1) (sv R (B0 R) (Ak (ccI h R (fun h=>?_) (fun h=>?_))))
 ·refine csr (sv R (A6 Qw Ale A1 (.nil _)) (sst Jn R R R R R (rm 2 R (Ak (Bs (Ag ?_))))))
  obtain rfl:=SJ h
  exact dn (Ad (ra Dd R R R) (Ad (rt R) (Ad (rt R) Ai))) (Ip R) R
 ·refine Bf (Ab (Bl (csr (ld Dd R R R R (sv R (A4 R) ?_)))))
  obtain ⟨v2,hv2,h⟩:=Ae h
  refine Ba R A0s (Aa R (Aa R Af)) (An R) (Sq hv2) (sv R (Ca R) (sv R (Aj R R) (sv R (Aj R R) (Bp R Ab1 (sst Ab7 R R R R R (rm 1 R (Ak (Bl (cj3 (Ah) (fun b3=>[(1,.s (.one (Ii6 a1))),(2,.s (.one (Ii6 a2))),(3,.s (.one (.b a3))),(4,.s (.one (.lp 0 0))),(8,.s (.one (.lp 1 0)))]) (fun b3=>[.box (EL.el b3),.box Zba,.box (EL.el v2.1)]) (fun b3=>Fh a1 a2 a3 b3=some r) (fun _=>R) (fun b3 h=>?_) ?_)))))))))
  ·unfold Fh at h
   refine Bl (csr (fl Yh ti3 R R R R R R (sv R (Hz R R) (Ak (ccI h R (fun h=>?_) (fun h=>?_))))))
   ·refine csr (ld Dd R R R R (sst Jn R R R R R (rm 2 R (Ak (Bs (Ag ?_))))))
    obtain rfl:=SJ h
    exact dn (Ad (ra Dd R R R) (Ad (rt R) (Ad (rt R) Ai))) (An R) R
   ·refine Bf (Ab (Bl (csr (fl Qt Ahe R R R R R R (sv R (Aw Y1 R) (sv R (Hz R R) (Ak (ccI h R (fun h=>?_) (fun h=>?_)))))))))
    ·refine csr (ld Dd R R R R (sst Jn R R R R R (rm 2 R (Ak (Bs (Ag ?_))))))
     obtain rfl:=SJ h
     exact dn (Ad (ra Dd R R R) (Ad (rt R) (Ad (rt R) Ai))) (An R) R
    ·refine Bf (Ab (csr (sv R (Ac Vd R) (ld Ou R R R R (rm 1 R (sv R (A4 R) ?_))))))
     obtain ⟨v4,hv4,h⟩:=Ae h
     refine Ba R A0y (Aa R (Aa R (Aa R Af))) (An R) (Wr hv4) (sv R (Ca R) (sv R (Aj R R) (sv R (Aj R R) (Bp R Wc (sst Tg R R R R R (rm 1 R (Ak (Bl (csr (rm 1 R (sv R (Db R R) (Ak (ccI h R (fun h=>?_) (fun h=>?_))))))))))))))
     ·refine csr (ld Dd R R R R (rm 1 R (sst Jn R R R R R (rm 2 R (Ak (Bs (Ag ?_)))))))
      obtain rfl:=SJ h
      exact dn (Ad (ra Dd R R R) (Ad (rt R) (Ad (rt R) Ai))) (An R) R
     ·refine Bf (Ab (csr (sv R (Ac Uc R) (ld Qq R R R R (fl Yh ti3 R R R R R R (sv R (Ac Pr R) (fl Q7 ti3 R R R R R R (sv R (A4 R) ?_))))))))
      obtain ⟨v5,hv5,h⟩:=Ae h
      refine Ba R A1w (Aa R (Aa R (Aa R (Aa R Af)))) (An R) (Aal hv5) (sv R (Ca R) (sv R (Aj R R) (sv R (Aj R R) (Bp R Ya (sst Xu R R R R R (rm 1 R (Ak (Bl (csr (rm 1 R (sv R (Db R R) (Ak (ccI h R (fun h=>?_) (fun h=>?_))))))))))))))
      ·refine csr (ld Dd R R R R (rm 1 R (sst Jn R R R R R (rm 2 R (Ak (Bs (Ag ?_)))))))
       obtain rfl:=SJ h
       exact dn (Ad (ra Dd R R R) (Ad (rt R) (Ad (rt R) Ai))) (An R) R
      ·refine Bf (Ab (csr (fl Yh ti3 R R R R R R (rm 2 R (sv R (Ac Pr R) (fl Q7 ti3 R R R R R R (rm 1 R (sv R (A6 Ab1 Axa (Ax R (Ax R (Ax R (Ax R (Ax R A1))))) (Aav [Ii6 b3.Next,Ii6 0,Ii6 0,Ii6 0,.b false,Znl] R R (Nbl R) R (Aav [Ii6 b3.Next,Ii6 a1,Ii6 0,Ii6 0,.b false,Znl] R R (Nbl R) R (Aav [Ii6 b3.Next,Ii6 a1,Ii6 a2,Ii6 0,.b false,Znl] R R (Nbl R) R (Aav [Ii6 b3.Next,Ii6 a1,Ii6 a2,Ii6 b3.Store.Ts,.b false,Znl] R R (Nbl R) R (Aav [Ii6 b3.Next,Ii6 a1,Ii6 a2,Ii6 b3.Store.Ts,.b a3,Znl] R R (Nbl R) R (.nil _))))))) (Bp R Ab1 (sst Ab7 R R R R R (Ak (Bl (Aah ?_)))))))))))))
       obtain ⟨v6,hv6,h⟩:=Ae h
       refine Ig [14,15] [0,1,0,0,0,16,0,64,240,496,0,1024,3072,8191,0,32767] [[.box (EL.el b3),.box Zba,.box (EL.el v2.1),.box [.sl v4.1.L.length (v4.1.L.flatMap Am)],.box (EL.el v5.1),.box [Ii6 b3.Next,Ii6 a1,Ii6 a2,Ii6 b3.Store.Ts,.b a3,Znl],.hole],[.box (EL.el b3),.box Zba,.box (EL.el v2.1),.box [.sl v4.1.L.length (v4.1.L.flatMap Am)],.box (EL.el v5.1),.box [Ii6 b3.Next,Ii6 a1,Ii6 a2,Ii6 b3.Store.Ts,.b a3,Znl],.box Zba],[.box (EL.el b3),.box Zba,.box (EL.el v2.1),.box [.sl v4.1.L.length (v4.1.L.flatMap Am)],.box (EL.el v5.1),.box [Ii6 b3.Next,Ii6 a1,Ii6 a2,Ii6 b3.Store.Ts,.b a3,Znl],.box [.sl b3.Store.Keys.length (b3.Store.Keys.flatMap (eL eU8)),.sl b3.Store.Chains.length (b3.Store.Chains.flatMap Ay),Ii6 b3.Store.Ts,.sl v5.1.Txs.length (v5.1.Txs.flatMap Bb),.sl v5.1.Reads.L.length (v5.1.Reads.L.flatMap Ar),.sl v4.1.L.length (v4.1.L.flatMap Am),.sl v6.length (v6.flatMap Bm),Ii6 (wI (b3.Next+1))]]] (by kernel_rfl) mixed (by kernel_rfl) (by decide) R R R R ?_
       refine evs (md:=[.box (EL.el b3),.box Zba,.box (EL.el v2.1),.box [.sl v4.1.L.length (v4.1.L.flatMap Am)],.box (EL.el v5.1),.box [Ii6 b3.Next,Ii6 a1,Ii6 a2,Ii6 b3.Store.Ts,.b a3,Znl],.dead]) (fun hS=>ev (B5 hS) R R (Ac Pr R) (ev (B5 hS) R R (lo Vs R R R) (ev (B5 hS) R R (lo Qq R R R) (ev (B5 hS) R R (lo Ou R R R) (ev (B5 hS) R R (Ac Qt R) (ev (B5 hS) R R (l1 Ahe R R R) (ev (B5 hS) R R (lo X9 R R R) ?_))))))) ⟨⟨R,⟨R,⟨R,⟨R,⟨R,⟨R,⟨trivial,trivial⟩⟩⟩⟩⟩⟩⟩,⟨⟨R,⟨R,⟨R,⟨R,⟨R,⟨R,⟨trivial,trivial⟩⟩⟩⟩⟩⟩⟩,⟨⟨R,⟨R,⟨R,⟨R,⟨R,⟨R,⟨trivial,trivial⟩⟩⟩⟩⟩⟩⟩,trivial⟩⟩⟩
       refine ed (B5 (md:=[.box (EL.el b3),.box Zba,.box (EL.el v2.1),.box [.sl v4.1.L.length (v4.1.L.flatMap Am)],.box (EL.el v5.1),.box [Ii6 b3.Next,Ii6 a1,Ii6 a2,Ii6 b3.Store.Ts,.b a3,Znl],.dead]) ⟨⟨R,⟨R,⟨R,⟨R,⟨R,⟨R,⟨trivial,trivial⟩⟩⟩⟩⟩⟩⟩,⟨⟨R,⟨R,⟨R,⟨R,⟨R,⟨R,⟨trivial,trivial⟩⟩⟩⟩⟩⟩⟩,⟨⟨R,⟨R,⟨R,⟨R,⟨R,⟨R,⟨trivial,trivial⟩⟩⟩⟩⟩⟩⟩,trivial⟩⟩⟩) R R (Ah3 (out':=([(Be.mk b3.Next a1 a2 b3.Store.Ts a3 (B2.mk ([]:List Av)))]:List Be).flatMap Bm) Tryz.underlying38 Atz (Ax R A1) (.cons _ _ _ _ _ _ _ R R (Nbl R) (.nil _)) R (by decide) R) ?_
       refine ed (B5 (md:=[.box (EL.el b3),.box Zba,.box (EL.el v2.1),.box [.sl v4.1.L.length (v4.1.L.flatMap Am)],.box (EL.el v5.1),.box [Ii6 b3.Next,Ii6 a1,Ii6 a2,Ii6 b3.Store.Ts,.b a3,Znl],.dead]) ⟨⟨R,⟨R,⟨R,⟨R,⟨R,⟨R,⟨trivial,trivial⟩⟩⟩⟩⟩⟩⟩,⟨⟨R,⟨R,⟨R,⟨R,⟨R,⟨R,⟨trivial,trivial⟩⟩⟩⟩⟩⟩⟩,⟨⟨R,⟨R,⟨R,⟨R,⟨R,⟨R,⟨trivial,trivial⟩⟩⟩⟩⟩⟩⟩,trivial⟩⟩⟩) R R (Zj (out:=([b3.Open,([(Be.mk b3.Next a1 a2 b3.Store.Ts a3 (B2.mk ([]:List Av)))]:List Be)]:List (List Be)).flatMap (eL Bm)) Tryz.underlying246 A0u (Ax R (Ax R A1)) (.cons _ _ _ _ _ _ _ R R (Nbl R) (.cons _ _ _ _ _ _ _ R R (Nbl R) (.nil _))) R (by decide)) ?_
       refine ed (B5 (md:=[.box (EL.el b3),.box Zba,.box (EL.el v2.1),.box [.sl v4.1.L.length (v4.1.L.flatMap Am)],.box (EL.el v5.1),.box [Ii6 b3.Next,Ii6 a1,Ii6 a2,Ii6 b3.Store.Ts,.b a3,Znl],.dead]) ⟨⟨R,⟨R,⟨R,⟨R,⟨R,⟨R,⟨trivial,trivial⟩⟩⟩⟩⟩⟩⟩,⟨⟨R,⟨R,⟨R,⟨R,⟨R,⟨R,⟨trivial,trivial⟩⟩⟩⟩⟩⟩⟩,⟨⟨R,⟨R,⟨R,⟨R,⟨R,⟨R,⟨trivial,trivial⟩⟩⟩⟩⟩⟩⟩,trivial⟩⟩⟩) R R (Cy A0v (Aa R Af) R (V1 hv6)) (ev (B5 (md:=[.box (EL.el b3),.box Zba,.box (EL.el v2.1),.box [.sl v4.1.L.length (v4.1.L.flatMap Am)],.box (EL.el v5.1),.box [Ii6 b3.Next,Ii6 a1,Ii6 a2,Ii6 b3.Store.Ts,.b a3,Znl],.dead]) ⟨⟨R,⟨R,⟨R,⟨R,⟨R,⟨R,⟨trivial,trivial⟩⟩⟩⟩⟩⟩⟩,⟨⟨R,⟨R,⟨R,⟨R,⟨R,⟨R,⟨trivial,trivial⟩⟩⟩⟩⟩⟩⟩,⟨⟨R,⟨R,⟨R,⟨R,⟨R,⟨R,⟨trivial,trivial⟩⟩⟩⟩⟩⟩⟩,trivial⟩⟩⟩) R R (Ac Yh R) (ev (B5 (md:=[.box (EL.el b3),.box Zba,.box (EL.el v2.1),.box [.sl v4.1.L.length (v4.1.L.flatMap Am)],.box (EL.el v5.1),.box [Ii6 b3.Next,Ii6 a1,Ii6 a2,Ii6 b3.Store.Ts,.b a3,Znl],.dead]) ⟨⟨R,⟨R,⟨R,⟨R,⟨R,⟨R,⟨trivial,trivial⟩⟩⟩⟩⟩⟩⟩,⟨⟨R,⟨R,⟨R,⟨R,⟨R,⟨R,⟨trivial,trivial⟩⟩⟩⟩⟩⟩⟩,⟨⟨R,⟨R,⟨R,⟨R,⟨R,⟨R,⟨trivial,trivial⟩⟩⟩⟩⟩⟩⟩,trivial⟩⟩⟩) R R (l1 ti3 R R R) (ev (B5 (md:=[.box (EL.el b3),.box Zba,.box (EL.el v2.1),.box [.sl v4.1.L.length (v4.1.L.flatMap Am)],.box (EL.el v5.1),.box [Ii6 b3.Next,Ii6 a1,Ii6 a2,Ii6 b3.Store.Ts,.b a3,Znl],.dead]) ⟨⟨R,⟨R,⟨R,⟨R,⟨R,⟨R,⟨trivial,trivial⟩⟩⟩⟩⟩⟩⟩,⟨⟨R,⟨R,⟨R,⟨R,⟨R,⟨R,⟨trivial,trivial⟩⟩⟩⟩⟩⟩⟩,⟨⟨R,⟨R,⟨R,⟨R,⟨R,⟨R,⟨trivial,trivial⟩⟩⟩⟩⟩⟩⟩,trivial⟩⟩⟩) R R (Bo R R) (ev (B5 (md:=[.box (EL.el b3),.box Zba,.box (EL.el v2.1),.box [.sl v4.1.L.length (v4.1.L.flatMap Am)],.box (EL.el v5.1),.box [Ii6 b3.Next,Ii6 a1,Ii6 a2,Ii6 b3.Store.Ts,.b a3,Znl],.dead]) ⟨⟨R,⟨R,⟨R,⟨R,⟨R,⟨R,⟨trivial,trivial⟩⟩⟩⟩⟩⟩⟩,⟨⟨R,⟨R,⟨R,⟨R,⟨R,⟨R,⟨trivial,trivial⟩⟩⟩⟩⟩⟩⟩,⟨⟨R,⟨R,⟨R,⟨R,⟨R,⟨R,⟨trivial,trivial⟩⟩⟩⟩⟩⟩⟩,trivial⟩⟩⟩) R R (A6 Qw Ale (Ax R (Ax R (Ax R (Ax R (Ax R A1))))) (Aav [.sl b3.Store.Keys.length (b3.Store.Keys.flatMap (eL eU8)),.sl b3.Store.Chains.length (b3.Store.Chains.flatMap Ay),Ii6 b3.Store.Ts,Znl,Znl,Znl,Znl,Ii6 0] R R (Nbl R) R (Aav [.sl b3.Store.Keys.length (b3.Store.Keys.flatMap (eL eU8)),.sl b3.Store.Chains.length (b3.Store.Chains.flatMap Ay),Ii6 b3.Store.Ts,.sl v5.1.Txs.length (v5.1.Txs.flatMap Bb),.sl v5.1.Reads.L.length (v5.1.Reads.L.flatMap Ar),Znl,Znl,Ii6 0] R R (Nbl R) R (Aav [.sl b3.Store.Keys.length (b3.Store.Keys.flatMap (eL eU8)),.sl b3.Store.Chains.length (b3.Store.Chains.flatMap Ay),Ii6 b3.Store.Ts,.sl v5.1.Txs.length (v5.1.Txs.flatMap Bb),.sl v5.1.Reads.L.length (v5.1.Reads.L.flatMap Ar),.sl v4.1.L.length (v4.1.L.flatMap Am),Znl,Ii6 0] R R (Nbl R) R (Aav [.sl b3.Store.Keys.length (b3.Store.Keys.flatMap (eL eU8)),.sl b3.Store.Chains.length (b3.Store.Chains.flatMap Ay),Ii6 b3.Store.Ts,.sl v5.1.Txs.length (v5.1.Txs.flatMap Bb),.sl v5.1.Reads.L.length (v5.1.Reads.L.flatMap Ar),.sl v4.1.L.length (v4.1.L.flatMap Am),.sl v6.length (v6.flatMap Bm),Ii6 0] R R (Nbl R) R (Aav [.sl b3.Store.Keys.length (b3.Store.Keys.flatMap (eL eU8)),.sl b3.Store.Chains.length (b3.Store.Chains.flatMap Ay),Ii6 b3.Store.Ts,.sl v5.1.Txs.length (v5.1.Txs.flatMap Bb),.sl v5.1.Reads.L.length (v5.1.Reads.L.flatMap Ar),.sl v4.1.L.length (v4.1.L.flatMap Am),.sl v6.length (v6.flatMap Bm),Ii6 (wI (b3.Next+1))] R R (Nbl R) R (.nil _))))))) (ee (x:=.s (.one (.lp 6 0))) 0 R R R R R (fun ζ=>?_) ?_)))))
       ·refine Mg 6 R Qw R ?_
        exact Sv
       refine ee0 1 R R R R (fun ζ=>?_) ?_
       ·refine sst Jn R R R R R (Pz [.box (EL.el b3),.box Zba,.box (EL.el v2.1),.box [.sl v4.1.L.length (v4.1.L.flatMap Am)],.box (EL.el v5.1),.box [Ii6 b3.Next,Ii6 a1,Ii6 a2,Ii6 b3.Store.Ts,.b a3,Znl],.box [.sl b3.Store.Keys.length (b3.Store.Keys.flatMap (eL eU8)),.sl b3.Store.Chains.length (b3.Store.Chains.flatMap Ay),Ii6 b3.Store.Ts,.sl v5.1.Txs.length (v5.1.Txs.flatMap Bb),.sl v5.1.Reads.L.length (v5.1.Reads.L.flatMap Ar),.sl v4.1.L.length (v4.1.L.flatMap Am),.sl v6.length (v6.flatMap Bm),Ii6 (wI (b3.Next+1))]] R ?_)
        exact Sv
       refine Aas (Ab (Bl ?_))
       refine Ig [3] [0,0,2,1,15,31] [[.box (EL.el b3),.box Zba,.box (EL.el v2.1),.box [.sl v4.1.L.length (v4.1.L.flatMap Am)],.box (EL.el v5.1),.box [Ii6 b3.Next,Ii6 a1,Ii6 a2,Ii6 b3.Store.Ts,.b a3,Znl],.box [.sl b3.Store.Keys.length (b3.Store.Keys.flatMap (eL eU8)),.sl b3.Store.Chains.length (b3.Store.Chains.flatMap Ay),Ii6 b3.Store.Ts,.sl v5.1.Txs.length (v5.1.Txs.flatMap Bb),.sl v5.1.Reads.L.length (v5.1.Reads.L.flatMap Ar),.sl v4.1.L.length (v4.1.L.flatMap Am),.sl v6.length (v6.flatMap Bm),Ii6 (wI (b3.Next+1))]],[.box (EL.el b3),.box [.sl b3.Store.Keys.length (b3.Store.Keys.flatMap (eL eU8)),.sl b3.Store.Chains.length (b3.Store.Chains.flatMap Ay),Ii6 b3.Store.Ts,.sl v5.1.Txs.length (v5.1.Txs.flatMap Bb),.sl v5.1.Reads.L.length (v5.1.Reads.L.flatMap Ar),.sl v4.1.L.length (v4.1.L.flatMap Am),.sl v6.length (v6.flatMap Bm),Ii6 (wI (b3.Next+1))],.box (EL.el v2.1),.box [.sl v4.1.L.length (v4.1.L.flatMap Am)],.box (EL.el v5.1),.box [Ii6 b3.Next,Ii6 a1,Ii6 a2,Ii6 b3.Store.Ts,.b a3,Znl],.box [.sl b3.Store.Keys.length (b3.Store.Keys.flatMap (eL eU8)),.sl b3.Store.Chains.length (b3.Store.Chains.flatMap Ay),Ii6 b3.Store.Ts,.sl v5.1.Txs.length (v5.1.Txs.flatMap Bb),.sl v5.1.Reads.L.length (v5.1.Reads.L.flatMap Ar),.sl v4.1.L.length (v4.1.L.flatMap Am),.sl v6.length (v6.flatMap Bm),Ii6 (wI (b3.Next+1))]]] (by kernel_rfl) mixed (by kernel_rfl) (by decide) R R R R ?_
       refine evs (md:=[.box (EL.el b3),.dead,.box (EL.el v2.1),.box [.sl v4.1.L.length (v4.1.L.flatMap Am)],.box (EL.el v5.1),.box [Ii6 b3.Next,Ii6 a1,Ii6 a2,Ii6 b3.Store.Ts,.b a3,Znl],.box [.sl b3.Store.Keys.length (b3.Store.Keys.flatMap (eL eU8)),.sl b3.Store.Chains.length (b3.Store.Chains.flatMap Ay),Ii6 b3.Store.Ts,.sl v5.1.Txs.length (v5.1.Txs.flatMap Bb),.sl v5.1.Reads.L.length (v5.1.Reads.L.flatMap Ar),.sl v4.1.L.length (v4.1.L.flatMap Am),.sl v6.length (v6.flatMap Bm),Ii6 (wI (b3.Next+1))]]) (fun hS=>ev (A7 0 R R) R R (lo Dd R R R) (ev (B5 hS) R R (Ac R9 R) (ev (B5 hS) R R (l1 ti3 R R R) (ee0 0 R R R R (fun ζ=>?_) ?_)))) ⟨⟨R,⟨trivial,⟨R,⟨R,⟨R,⟨R,⟨R,trivial⟩⟩⟩⟩⟩⟩⟩,⟨⟨R,⟨trivial,⟨R,⟨R,⟨R,⟨R,⟨R,trivial⟩⟩⟩⟩⟩⟩⟩,trivial⟩⟩
       ·refine sst Jn R R R R R (Pz [.box (EL.el b3),.box [.sl b3.Store.Keys.length (b3.Store.Keys.flatMap (eL eU8)),.sl b3.Store.Chains.length (b3.Store.Chains.flatMap Ay),Ii6 b3.Store.Ts,.sl v5.1.Txs.length (v5.1.Txs.flatMap Bb),.sl v5.1.Reads.L.length (v5.1.Reads.L.flatMap Ar),.sl v4.1.L.length (v4.1.L.flatMap Am),.sl v6.length (v6.flatMap Bm),Ii6 (wI (b3.Next+1))],.box (EL.el v2.1),.box [.sl v4.1.L.length (v4.1.L.flatMap Am)],.box (EL.el v5.1),.box [Ii6 b3.Next,Ii6 a1,Ii6 a2,Ii6 b3.Store.Ts,.b a3,Znl],.box [.sl b3.Store.Keys.length (b3.Store.Keys.flatMap (eL eU8)),.sl b3.Store.Chains.length (b3.Store.Chains.flatMap Ay),Ii6 b3.Store.Ts,.sl v5.1.Txs.length (v5.1.Txs.flatMap Bb),.sl v5.1.Reads.L.length (v5.1.Reads.L.flatMap Ar),.sl v4.1.L.length (v4.1.L.flatMap Am),.sl v6.length (v6.flatMap Bm),Ii6 (wI (b3.Next+1))]] R ?_)
        exact Sv
       refine ev (A7 1 R R) R R (Iu R) (ev (A7 1 R R) R R (Iu R) (Aas (Ab (Bs ?_))))
       obtain rfl:=SJ h
       exact dn (Ad (ra Dd R R R) (Ad (rt R) (Ad (rt R) Ai))) (An R) R
  ·skip
   refine Aq (rm 2 R (ssI 29 h R (fun h=>?_) (fun h=>?_)))
   ·refine son R R R (sv R (Ac Ai4 R) (son R R R (sv R (l1 ti3 R R R) (rm 1 R (son R R R (sv R (Bt R R) (rm 1 R (Ak (ccI h R (fun h=>?_) (fun h=>?_))))))))))
    ·refine Aq (ld Dd R R R R (sv R (lo X9 R R R) ?_))
     obtain ⟨v7,hv7,h⟩:=Ae h
     refine Ba R Aud (Aa R (Aa R Af)) (An R) (Ih hv7) (sst Jn R R R R R (Ak ?_))
     exact ⟨v7,_,h,⟨R,R,R,R,R,trivial⟩,R⟩
    ·refine Bf (Ab ?_)
     exact ⟨a0,_,h,⟨R,R,R,R,R,trivial⟩,R⟩
   ·refine rm 5 R (Ak (Ci R (fun hx=>Bool.noConfusion hx) (fun _=>?_)))
    refine Bf (Ab ?_)
    exact ⟨a0,_,h,⟨R,R,R,R,R,trivial⟩,R⟩
def Hg (a0:Ah) (a1:Int):Option (Be × Int) :=
 (Iz a0).bind fun v1=>if (!v1) then (some (Pp,1)) else ((Ee a0 a1).bind fun v2=>if (decide (v2<0)) then (some (Pp,7)) else ((idx a0.Open v2).bind fun u3=>some (u3,0)))
theorem Nq {a0:Ah} {a1:Int} {r:Be × Int} (h:Hg a0 a1=some r):Br Tryz.prog 55 [.agg (EL.el a0),.one (Ii6 a1)] (·=.tup [.agg (EL.el r.1),.one (Ii6 r.2)]):=by
 unfold Hg at h
 refine A5 Tryz.func55 R (nt:=22) R (Nbl R) ?_
 intro w0 S0
 refine csr (F4 R R (Bp R Ab1 (rm 1 R (Ak (Bl (csr (sv R (lo Dd R R R) ?_)))))))
 obtain ⟨v1,hv1,h⟩:=Ae h
 refine Ba R Avo (Aa R Af) (An R) (Nn hv1) (sv R (B0 R) (Ak (ccI h R (fun h=>?_) (fun h=>?_))))
 ·refine csr (sv R (A6 Ab1 Axa A1 (.nil _)) (sst Ab7 R R R R R (rm 1 R (Ak (Bs (Ag ?_))))))
  obtain rfl:=SJ h
  exact dn (Ad (ra X9 R R R) (Ad (rt R) Ai)) (Ip R) R
 ·refine Bf (Ab (csr (ld Dd R R R R (sv R (A4 R) ?_))))
  obtain ⟨v2,hv2,h⟩:=Ae h
  refine Ba R Azn (Aa R (Aa R Af)) (An R) (Q3 hv2) (rm 1 R (Ak (Bl (csr (rm 1 R (sv R (Bt R R) (Ak (ccI h R (fun h=>?_) (fun h=>?_)))))))))
  ·refine csr (sv R (A6 Ab1 Axa A1 (.nil _)) (sst Ab7 R R R R R (rm 1 R (Ak (Bs (Ag ?_))))))
   obtain rfl:=SJ h
   exact dn (Ad (ra X9 R R R) (Ad (rt R) Ai)) (Ip R) R
  ·refine Bf (Ab (csr (fl Qt Ahe R R R R R R (sv R (A4 R) ?_))))
   obtain ⟨u3,hu3,h⟩:=Ae h
   refine sv R (B8 (f:=Bm) Y1 (fun _=>R) R R R R hu3) ?_
   refine sv R (Bz (ys:=[Ii6 u3.ID,Ii6 u3.Token,Ii6 u3.Attempt,Ii6 u3.Snap,.b u3.RO,.sl u3.Buf.L.length (u3.Buf.L.flatMap Ao)]) X9 R (.cp _) R R) (sst Ab7 R R R R R (rm 1 R (Ak (Bs ?_))))
   obtain rfl:=SJ h
   exact dn (Ad (ra X9 R R R) (Ad (rt R) Ai)) (An R) R
def Dk (a0:Ah) (a1:Int):Option Ah :=
 if (decide (a1=1)) then (some E4) else (some a0)
theorem Jr {a0:Ah} {a1:Int} {r:Ah} (h:Dk a0 a1=some r):Br Tryz.prog 61 [.agg (EL.el a0),.one (Ii6 a1)] (·=.s (.agg (EL.el r))):=by
 unfold Dk at h
 refine A5 Tryz.func61 R (nt:=9) R (Nbl R) ?_
 intro w0 S0
 refine csr (F4 R R (Bp R Qw (Ak (Bl (csr (rm 1 R (sv R (B4 R R) (Ak (ccI h R (fun h=>?_) (fun h=>?_))))))))))
 ·refine csr (sv R (A6 Qw Ale A1 (.nil _)) (sst Jn R R R R R (Ak (Bs (Ag ?_)))))
  obtain rfl:=SJ h
  exact dn (Ad (ra Dd R R R) Ai) (Ip R) R
 ·refine Bf (Ab (csr (ld Dd R R R R (sst Jn R R R R R (Ak (Bs ?_))))))
  obtain rfl:=SJ h
  exact dnA R Dd R (.lp _ _ _ R) (Nbl R) R R
def Fl (a0:List UInt8) (a1:List UInt8):Option Bool :=
 some (a0 == a1)
theorem Oe {a0:List UInt8} {a1:List UInt8} {r:Bool} (h:Fl a0 a1=some r):Br Tryz.prog 135 [.one (.sl a0.length (a0.flatMap eU8)),.one (.sl a1.length (a1.flatMap eU8))] (·=.s (.one (.b r))):=by
 unfold Fl at h
 refine A5 Tryz.func135 R (nt:=10) R (Nbl R) ?_
 intro w0 S0
 refine csr (rm 1 R (Ak (csr (rm 1 R (sv R (Q4 (l:=a0) Tryz.underlying56 Tryz.underlying5 Tryz.underlying9 R R R) (rm 1 R (sv R (Q4 (l:=a1) Tryz.underlying56 Tryz.underlying5 Tryz.underlying9 R R R) (sv R (Al7 R R) (rm 1 R (Ak (Bs ?_)))))))))))
 obtain rfl:=SJ h
 exact dnT R R R R
def Pf (b1:Unit):Option (Av × Bool) :=
 some ((Av.mk ([]:List UInt8) ([]:List UInt8) false),false)
def J9 (a0:B2) (a1:List UInt8) (s2:Int):Option (LR (Int) (Unit) (Av × Bool)) :=
 if (decide (s2<(a0.L.length:Int))) then ((idx a0.L s2).bind fun u3=>(Fl u3.Key a1).bind fun v4=>if v4 then (some (.ret (u3,true))) else (some (.cont (wI (s2+1))))) else (some (.brk ()))
def Nu (a0:B2) (a1:List UInt8):Option (Av × Bool) :=
 (Lj (J9 a0 a1) fuel 0).bind fun x=>match x with | .inl r=>some r | .inr e5=>Pf e5
theorem Yt {a0:B2} {a1:List UInt8} {r:Av × Bool} (h:Nu a0 a1=some r):Br Tryz.prog 63 [.agg [.sl a0.L.length (a0.L.flatMap Ao)],.one (.sl a1.length (a1.flatMap eU8))] (·=.tup [.agg (EL.el r.1),.one (.b r.2)]):=by
 unfold Nu at h
 refine A5 Tryz.func63 R (nt:=22) R (Nbl R) ?_
 intro w0 S0
 refine csr (F4 R R (Bp R Ajk (rm 1 R (Ak (Bl (csr (fl Xc Aot R R R R R R (sv R (Aw V5 R) (rm 1 R (Ak (cj (Unit) (fun b1=>[(4,.s (.one (.lp 1 0)))]) (fun b1=>[.box [.sl a0.L.length (a0.L.flatMap Ao)],.box [Znl,Znl,.b false]]) (fun b1=>Pf b1=some r) (fun _=>R) (fun b1 h=>?_) ?_)))))))))))
 ·unfold Pf at h
  refine csr (sv R (A6 Ajk Axi A1 (.nil _)) (sst Al2 R R R R R (rm 1 R (Ak (Bs ?_)))))
  obtain rfl:=SJ h
  exact dn (Ad (ra Ady R R R) (Ad (rt R) Ai)) (Ip R) R
 ·skip
  refine Bq ?_
  obtain ⟨x2,hx2,ho2⟩:=Ae h
  refine lpo (G:=Nat × (Int)) (fun g=>[(1,.s (.one (.sl a1.length (a1.flatMap eU8)))),(4,.s (.one (.lp 1 0))),(9,.s (.one (.sl a0.L.length (a0.L.flatMap Ao)))),(10,.s (.one (Ii6 (a0.L.length:Int)))),(11,.s (.one (Ii6 g.2)))]) (fun g=>[.box [.sl a0.L.length (a0.L.flatMap Ao)],.box [Znl,Znl,.b false]]) (fun g=>Lj (J9 a0 a1) g.1 g.2=some x2) (fun g=>g.1) (fuel,0) hx2 ⟨R,R,R,R,R,trivial⟩ [] R (fun _=>R) ?_
  clear hx2 h
  rintro ⟨n2,s2⟩ h
  obtain ⟨n2,y2,rfl,h,hk2⟩:=Es h
  unfold J9 at h
  refine csr (sv R (Bt R R) (Ak (Bl (ccI h R (fun h=>?_) (fun h=>?_)))))
  ·refine Bf (Ab (Bl (Bq (Bl (Aq ?_)))))
   obtain ⟨u3,hu3,h⟩:=Ae h
   refine sv R (B8 (f:=Ao) V5 (fun _=>R) R R R R hu3) ?_
   refine sv R (Bz (ys:=[.sl u3.Key.length (u3.Key.flatMap eU8),.sl u3.Val.length (u3.Val.flatMap eU8),.b u3.Del]) Ady R (.cp _) R R) (Bp R Ajk (sst Al2 R R R R R (Ak (csr (fl Qg Mz R R R R R R (sv R (A4 R) ?_))))))
   obtain ⟨v4,hv4,h⟩:=Ae h
   refine Ba R Ata (Aa R (Aa R Af)) (An R) (Oe hv4) (Ak (ccI h R (fun h=>?_) (fun h=>?_)))
   ·refine csr (ld Ady R R R R (sst Al2 R R R R R (rm 1 R (Ak (Bs (Az (Ag (Ag (Az (Ag ?_))))))))))
    obtain rfl:=SJ h
    obtain rfl:Sum.inl _=x2:=hk2
    replace ho2:some _=some _:=ho2
    obtain rfl:=zD ho2
    exact dn (Ad (ra Ady R R R) (Ad (rt R) Ai)) (An R) R
   ·refine Bf (Ap (Ab (Aq (sv R (Bo R R) (rm 1 R (Ak ?_))))))
    obtain rfl:=SJ h
    exact ⟨(n2,(wI (s2+1))),_,hk2,⟨R,R,R,R,R,trivial⟩,R,zG _⟩
  ·refine Da (As (As (Bj (Ab ?_))))
   obtain rfl:=SJ h
   obtain rfl:_=x2:=hk2
   exact ⟨(),_,ho2,⟨R,trivial⟩,R⟩
def J1 (a0:Int) (b1:Unit):Option (List UInt8) :=
 if (decide (0<(wI (a0-(wI (0-0)))))) then (if 0<(wI (a0-(wI (0-0))))∧(wI (a0-(wI (0-0))))*((1:Nat):Int)≤281474976710656 then (if (0:Int)≤0∧0≤((List.replicate (wI (a0-(wI (0-0)))).toNat (0:UInt8)).length:Int) then (some ((List.replicate (wI (a0-(wI (0-0)))).toNat (0:UInt8)).take (0:Int).toNat)) else none) else none) else (some ([]:List UInt8))
def Ks (a0:Int):Option (List UInt8) :=
 if (decide (a0<0)) then none else (J1 a0 ())
theorem Vq {a0:Int} {r:(List UInt8)} (h:Ks a0=some r):Dl Tryz.prog 206 [] [.one (Znl),.one (Ii6 a0)] (fun y m'=>y=.s (.one (.ls 0 r.length))∧m'=[.arr 5 1 0 (r.flatMap eU8)]):=by
 unfold Ks at h
 refine Dc Tryz.func206 R (nt:=27) R (Nbl R) ?_
 intro w0 S0 X0 H0
 refine csr (rm 1 R (Ak (Bl (csr (rm 1 R (sv R (Bt R R) (Ak (cj (Unit) (fun b1=>[(0,.s (.one (Znl))),(1,.s (.one (Ii6 a0)))]) (fun b1=>[]) (fun b1=>J1 a0 b1=some r) (fun _=>R) (fun b1 h=>?_) ?_))))))))
 ·unfold J1 at h
  refine Bl (csr (rm 2 R (sv R (Gu Yc R) (rm 1 R (sv R (F2 Yc R) (sv R (Nk R R) (sv R (Nk R R) (rm 1 R (Ak (csr (rm 1 R (sv R (C5 R R) (Ak (ccI h R (fun h=>?_) (fun h=>?_)))))))))))))))
  ·refine Aq (rm 2 R (sv R (Gu Yc R) (sv R (M0 Yc R R) (sv R (A4 R) ?_))))
   obtain ⟨hm2,h⟩:=Cp h
   refine Au0 (f:=eU8) (z:=(0:UInt8)) R Tryz.underlying56 ei5 Tryz.underlying3 (fun _=>R) R R R hm2 (by decide) ?_
   refine rm 1 R (sv R (F2 Yc R) ?_)
   obtain ⟨hs3,h⟩:=Cp h
   refine Abz (f:=eU8) R Yc (fun _=>R) R R R R R hs3 ?_
   refine rm 1 R (Ak (csr (rm 2 R (Ak (Bs ?_)))))
   obtain rfl:=SJ h
   exact ⟨Or.inr R,_,[1],[.one (.ls 0 ((List.replicate (wI (a0-(wI (0-0)))).toNat (0:UInt8)).take (0:Int).toNat).length)],[.arr 5 1 0 (((List.replicate (wI (a0-(wI (0-0)))).toNat (0:UInt8)).take (0:Int).toNat).flatMap eU8)],(Ad (rt R) Ai),R,R,⟨by decide,R⟩,R,R,⟨R,R⟩⟩
  ·refine Bf (Ab (csr (rm 2 R (Ak ?_))))
   refine C6 5 1 4 (by decide) R ?_
   refine Bs ?_
   obtain rfl:=SJ h
   exact ⟨Or.inr R,_,[0],[.one (.ls 0 ([]:List UInt8).length)],[.arr 5 1 0 (([]:List UInt8).flatMap eU8)],(Ad (rt R) Ai),R,R,⟨by decide,R⟩,R,R,⟨R,R⟩⟩
 ·skip
  refine ccI h R (fun h=>?_) (fun h=>?_)
  ·cases h
  ·refine Bf (Ab ?_)
   exact ⟨(),_,h,⟨R,R,trivial⟩,R⟩
def Lv (b3:(List UInt8)):Option (List UInt8) :=
 some b3
def D5 (a0:List (List UInt8)) (s4:Int × (List UInt8)):Option (LB (Int × (List UInt8)) ((List UInt8))) :=
 if (decide (s4.1<(a0.length:Int))) then ((idx a0 s4.1).bind fun u5=>if (s4.2.length+u5.length)*1≤140737488355328 then (some (.cont ((wI (s4.1+1)),(s4.2++u5)))) else none) else (some (.brk s4.2))
def Ia (a0:List (List UInt8)) (b1:Int):Option (List UInt8) :=
 (Ks b1).bind fun v2=>(Ct (D5 a0) fuel (0,v2)).bind fun e7=>Lv e7
def D8 (a0:List (List UInt8)) (s8:Int × Int):Option (LB (Int × Int) (Int)) :=
 if (decide (s8.2<(a0.length:Int))) then ((idx a0 s8.2).bind fun u9=>if (decide ((wI (s8.1+(u9.length:Int)))<0)) then none else (some (.cont ((wI (s8.1+(u9.length:Int))),(wI (s8.2+1)))))) else (some (.brk s8.1))
def Hw (a0:List (List UInt8)):Option (List UInt8) :=
 (Ct (D8 a0) fuel (0,0)).bind fun e10=>Ia a0 e10
theorem Ug {a0:List (List UInt8)} {r:(List UInt8)} (h:Hw a0=some r):Dl Tryz.prog 137 [] [.one (.sl a0.length (a0.flatMap (eL eU8)))] (fun y m'=>y=.s (.one (.ls 0 r.length))∧m'=[.arr 5 1 0 (r.flatMap eU8)]):=by
 unfold Hw at h
 refine Dc Tryz.func137 R (nt:=36) R (Nbl R) ?_
 intro w0 S0 X0 H0
 refine csr (rm 1 R (Ak (csr (rm 1 R (Ak (Bl (csr (rm 1 R (sv R (Aw S7 R) (rm 1 R (Ak (cj (Int) (fun b1=>[(0,.s (.one (.sl a0.length (a0.flatMap (eL eU8))))),(3,.s (.one (Ii6 b1)))]) (fun b1=>[]) (fun b1=>Ia a0 b1=some r) (fun _=>R) (fun b1 h=>?_) ?_))))))))))))
 ·unfold Ia at h
  refine csr (sv R (A4 R) ?_)
  obtain ⟨v2,hv2,h⟩:=Ae h
  refine Ie (x':=.s (.one (.ls 0 v2.length))) (M':=[.arr 5 1 0 (v2.flatMap eU8)]) [] R Ay9 (.func _) (Aa R (Aa R Af)) (Vq hv2) R R (by decide) R R R ?_
  refine rm 1 R (Ak (Bl (csr (rm 1 R (sv R (Aw S7 R) (rm 1 R (Ak (cj ((List UInt8)) (fun b3=>[(6,.s (.one (.ls 0 b3.length)))]) (fun b3=>[.arr 5 1 0 (b3.flatMap eU8)]) (fun b3=>Lv b3=some r) (fun _=>R) (fun b3 h=>?_) ?_))))))))
  ·unfold Lv at h
   refine csr (rm 2 R (Ak (Bs ?_)))
   obtain rfl:=SJ h
   exact ⟨Or.inr R,_,[0],[.one (.ls 0 b3.length)],[.arr 5 1 0 (b3.flatMap eU8)],(Ad (rt R) Ai),R,R,⟨by decide,R⟩,R,R,⟨R,R⟩⟩
  ·skip
   refine Bq ?_
   obtain ⟨x4,hx4,ho4⟩:=Ae h
   refine lpo (G:=Nat × (Int × (List UInt8))) (fun g=>[(6,.s (.one (.ls 0 g.2.2.length))),(25,.s (.one (.sl a0.length (a0.flatMap (eL eU8))))),(26,.s (.one (Ii6 (a0.length:Int)))),(27,.s (.one (Ii6 g.2.1)))]) (fun g=>[.arr 5 1 0 (g.2.2.flatMap eU8)]) (fun g=>Ct (D5 a0) g.1 g.2=some x4) (fun g=>g.1) (fuel,(0,v2)) hx4 ⟨R,R,R,R,trivial⟩ [] R (fun _=>R) ?_
   clear hx4 h
   rintro ⟨n4,s4⟩ h
   obtain ⟨n4,y4,rfl,h,hk4⟩:=Cu h
   unfold D5 at h
   refine csr (sv R (Bt R R) (Ak (Bl (ccI h R (fun h=>?_) (fun h=>?_)))))
   ·refine Bf (Ab (Bl (Bq (Bl (Aq ?_)))))
    obtain ⟨u5,hu5,h⟩:=Ae h
    refine sv R (B8 (f:=(eL eU8)) S7 (fun _=>R) R R R R hu5) ?_
    refine sv R (B6 Mz R (.cp _) R) (rm 1 R (Ak (Aq (rm 1 R (sv R (A4 R) ?_)))))
    obtain ⟨hb6,h⟩:=Cp h
    refine Tr (f:=eU8) (xs:=s4.2) (us:=u5) R Tryz.underlying56 ei5 A1q (fun _=>R) R R (.one _ _ _ _ (.id _ R)) R R R (.sl _ _ _ (Au (f:=eU8) (fun _=>R) _)) R R hb6 (by decide) ?_
    refine rm 1 R (Kz (Ap (Ab (Aq (sv R (Bo R R) (rm 1 R (Ak ?_)))))))
    obtain rfl:=SJ h
    exact ⟨(n4,((wI (s4.1+1)),(s4.2++u5))),_,hk4,⟨R,R,R,R,trivial⟩,R,zG _⟩
   ·refine Da (As (As (Bj (Ab ?_))))
    obtain rfl:=SJ h
    obtain rfl:_=x4:=hk4
    exact ⟨s4.2,_,ho4,⟨R,trivial⟩,R⟩
 ·skip
  refine Bq ?_
  obtain ⟨x8,hx8,ho8⟩:=Ae h
  refine lpo (G:=Nat × (Int × Int)) (fun g=>[(0,.s (.one (.sl a0.length (a0.flatMap (eL eU8))))),(3,.s (.one (Ii6 g.2.1))),(9,.s (.one (.sl a0.length (a0.flatMap (eL eU8))))),(10,.s (.one (Ii6 (a0.length:Int)))),(11,.s (.one (Ii6 g.2.2)))]) (fun g=>[]) (fun g=>Ct (D8 a0) g.1 g.2=some x8) (fun g=>g.1) (fuel,(0,0)) hx8 ⟨R,R,R,R,R,trivial⟩ [] R (fun _=>R) ?_
  clear hx8 h
  rintro ⟨n8,s8⟩ h
  obtain ⟨n8,y8,rfl,h,hk8⟩:=Cu h
  unfold D8 at h
  refine csr (sv R (Bt R R) (Ak (Bl (ccI h R (fun h=>?_) (fun h=>?_)))))
  ·refine Bf (Ab (Bl (Bq (Bl (Aq ?_)))))
   obtain ⟨u9,hu9,h⟩:=Ae h
   refine sv R (B8 (f:=(eL eU8)) S7 (fun _=>R) R R R R hu9) ?_
   refine sv R (B6 Mz R (.cp _) R) (rm 1 R (Ak (csr (rm 2 R (sv R (Aw Yc R) (sv R (Bo R R) (rm 1 R (Ak (csr (rm 1 R (sv R (Bt R R) (Ak (ccI h R (fun h=>?_) (fun h=>?_))))))))))))))
   ·cases h
   ·refine Bf (Ap (Ab (Aq (sv R (Bo R R) (rm 1 R (Ak ?_))))))
    obtain rfl:=SJ h
    exact ⟨(n8,((wI (s8.1+(u9.length:Int))),(wI (s8.2+1)))),_,hk8,⟨R,R,R,R,R,trivial⟩,R,zG _⟩
  ·refine Da (As (As (Bj (Ab ?_))))
   obtain rfl:=SJ h
   obtain rfl:_=x8:=hk8
   exact ⟨s8.1,_,ho8,⟨R,R,trivial⟩,R⟩
def Py (a0:List UInt8):Option Bg :=
 (Hw [a0,[(UInt8.ofBitVec (0#8))]]).bind fun v1=>some (Bg.mk a0 v1 false)
theorem Aat {a0:List UInt8} {r:Bg} (h:Py a0=some r):Br Tryz.prog 65 [.one (.sl a0.length (a0.flatMap eU8))] (·=.s (.agg (EL.el r))):=by
 unfold Py at h
 refine A5 Tryz.func65 R (nt:=9) R (Nbl R) ?_
 intro w0 S0
 refine csr (Bp R Ax1 (Ak (csr (rm 1 R (sv R (A4 R) ?_)))))
 refine Fo R Tryz.underlying56 ei5 R R (zJ.1 R) (by decide) ?_
 refine Pz [.box [Znl,Znl,.b false],.arr 5 1 0 ([(UInt8.ofBitVec (0#8))].flatMap eU8)] R ?_
 refine Ah4 5 R (by (repeat' first | exact Ic.nil _ | apply Ic.cons | apply H6.one | apply H6.agg | exact Cz.nil | exact Cz.ls _ _ _ _ _ _ R (Au (f:=eU8) (fun _=>R) ([(UInt8.ofBitVec (0#8))]:List UInt8)).symm | exact Cz.ls _ _ _ _ _ _ R (Au (f:=eU8) (fun _=>R) _).symm | exact Cz.id _ R | exact Co.nil _ | apply Co.cons)) ?_
 refine Aha (out:=([a0,[(UInt8.ofBitVec (0#8))]]:List (List UInt8)).flatMap (eL eU8)) R Tryz.underlying25 Af4 (Ax R (Ax R A1)) (.cons _ _ _ _ _ _ _ R R (Nbl R) (.cons _ _ _ _ _ _ _ R R (Nbl R) (.nil _))) R (by decide) ?_
 refine Ah4 6 R (by (repeat' first | exact Ic.nil _ | apply Ic.cons | apply H6.one | apply H6.agg | exact Cz.nil | exact Cz.ls _ _ _ _ _ _ R (Au (f:=(eL eU8)) (fun _=>R) ([a0,[(UInt8.ofBitVec (0#8))]]:List (List UInt8))).symm | exact Cz.ls _ _ _ _ _ _ R (Au (f:=(eL eU8)) (fun _=>R) _).symm | exact Cz.ls _ _ _ _ _ _ R (Au (f:=eU8) (fun _=>R) _).symm | exact Cz.id _ R | exact Co.nil _ | apply Co.cons)) ?_
 obtain ⟨v1,hv1,h⟩:=Ae h
 refine Ie (x':=.s (.one (.ls 3 v1.length))) (M':=[.box [Znl,Znl,.b false],.arr 5 1 ([(UInt8.ofBitVec (0#8))].flatMap eU8).length ([(UInt8.ofBitVec (0#8))].flatMap eU8),.arr 56 1 ([a0,[(UInt8.ofBitVec (0#8))]].flatMap (eL eU8)).length ([a0,[(UInt8.ofBitVec (0#8))]].flatMap (eL eU8)),.arr 5 1 0 (v1.flatMap eU8)]) [] R Ayw (.func _) (Aa R Af) (Ug hv1) R R (by decide) R R R ?_
 refine sv R (A6 Ax1 A0e (Ax R (Ax R A1)) (.cons _ _ _ _ _ _ _ R R (Nbl R) (.cons _ _ _ _ _ _ _ R R (Nbl R) (.nil _)))) (sst A1i R R R R R (Ak (Bs ?_)))
 obtain rfl:=SJ h
 refine ⟨Or.inr R,_,_,_,(Ad (ra Ada R R R) Ai),(by (repeat' first | exact Ic.nil _ | apply Ic.cons | apply H6.one | apply H6.agg | exact Cz.nil | exact Cz.ls _ _ _ _ _ _ R (Au (f:=(eL eU8)) (fun _=>R) _).symm | exact Cz.ls _ _ _ _ _ _ R (Au (f:=eU8) (fun _=>R) _).symm | exact Cz.id _ R | exact Co.nil _ | apply Co.cons)),?_⟩
 rfl
def J4 (a0:Int) (b1:Unit):Option (List A3) :=
 if (decide (0<(wI (a0-(wI (0-0)))))) then (if 0<(wI (a0-(wI (0-0))))∧(wI (a0-(wI (0-0))))*((64:Nat):Int)≤281474976710656 then (if (0:Int)≤0∧0≤((List.replicate (wI (a0-(wI (0-0)))).toNat Ra).length:Int) then (some ((List.replicate (wI (a0-(wI (0-0)))).toNat Ra).take (0:Int).toNat)) else none) else none) else (some ([]:List A3))
def Kq (a0:Int):Option (List A3) :=
 if (decide (a0<0)) then none else (J4 a0 ())
theorem Vm {a0:Int} {r:(List A3)} (h:Kq a0=some r):Dl Tryz.prog 268 [] [.one (Znl),.one (Ii6 a0)] (fun y m'=>y=.s (.one (.ls 0 r.length))∧m'=[.arr 142 4 0 (r.flatMap Ar)]):=by
 unfold Kq at h
 refine Dc Tryz.func268 R (nt:=27) R (Nbl R) ?_
 intro w0 S0 X0 H0
 refine csr (rm 1 R (Ak (Bl (csr (rm 1 R (sv R (Bt R R) (Ak (cj (Unit) (fun b1=>[(0,.s (.one (Znl))),(1,.s (.one (Ii6 a0)))]) (fun b1=>[]) (fun b1=>J4 a0 b1=some r) (fun _=>R) (fun b1 h=>?_) ?_))))))))
 ·unfold J4 at h
  refine Bl (csr (rm 2 R (sv R (Gu Abf R) (rm 1 R (sv R (F2 Abf R) (sv R (Nk R R) (sv R (Nk R R) (rm 1 R (Ak (csr (rm 1 R (sv R (C5 R R) (Ak (ccI h R (fun h=>?_) (fun h=>?_)))))))))))))))
  ·refine Aq (rm 2 R (sv R (Gu Abf R) (sv R (M0 Abf R R) (sv R (A4 R) ?_))))
   obtain ⟨hm2,h⟩:=Cp h
   refine Ahu (f:=Ar) (z:=Ra) R Tryz.underlying30 Amt Tryz.underlying3 (fun _=>R) R R R hm2 (by decide) ?_
   refine rm 1 R (sv R (F2 Abf R) ?_)
   obtain ⟨hs3,h⟩:=Cp h
   refine Abz (f:=Ar) R Abf (fun _=>R) R R R R R hs3 ?_
   refine rm 1 R (Ak (csr (rm 2 R (Ak (Bs ?_)))))
   obtain rfl:=SJ h
   exact ⟨Or.inr R,_,[1],[.one (.ls 0 ((List.replicate (wI (a0-(wI (0-0)))).toNat Ra).take (0:Int).toNat).length)],[.arr 142 4 0 (((List.replicate (wI (a0-(wI (0-0)))).toNat Ra).take (0:Int).toNat).flatMap Ar)],(Ad (rt R) Ai),R,R,⟨by decide,R⟩,R,R,⟨R,R⟩⟩
  ·refine Bf (Ab (csr (rm 2 R (Ak ?_))))
   refine C6 142 4 4 (by decide) R ?_
   refine Bs ?_
   obtain rfl:=SJ h
   exact ⟨Or.inr R,_,[0],[.one (.ls 0 ([]:List A3).length)],[.arr 142 4 0 (([]:List A3).flatMap Ar)],(Ad (rt R) Ai),R,R,⟨by decide,R⟩,R,R,⟨R,R⟩⟩
 ·skip
  refine ccI h R (fun h=>?_) (fun h=>?_)
  ·cases h
  ·refine Bf (Ab ?_)
   exact ⟨(),_,h,⟨R,R,trivial⟩,R⟩
def Ls (b3:(List A3)):Option (List A3) :=
 some b3
def D1 (a0:List (List A3)) (s4:Int × (List A3)):Option (LB (Int × (List A3)) ((List A3))) :=
 if (decide (s4.1<(a0.length:Int))) then ((idx a0 s4.1).bind fun u5=>if (s4.2.length+u5.length)*64≤140737488355328 then (some (.cont ((wI (s4.1+1)),(s4.2++u5)))) else none) else (some (.brk s4.2))
def H8 (a0:List (List A3)) (b1:Int):Option (List A3) :=
 (Kq b1).bind fun v2=>(Ct (D1 a0) fuel (0,v2)).bind fun e7=>Ls e7
def Dz (a0:List (List A3)) (s8:Int × Int):Option (LB (Int × Int) (Int)) :=
 if (decide (s8.2<(a0.length:Int))) then ((idx a0 s8.2).bind fun u9=>if (decide ((wI (s8.1+(u9.length:Int)))<0)) then none else (some (.cont ((wI (s8.1+(u9.length:Int))),(wI (s8.2+1)))))) else (some (.brk s8.1))
def F0 (a0:List (List A3)):Option (List A3) :=
 (Ct (Dz a0) fuel (0,0)).bind fun e10=>H8 a0 e10
theorem T0 {a0:List (List A3)} {r:(List A3)} (h:F0 a0=some r):Dl Tryz.prog 250 [] [.one (.sl a0.length (a0.flatMap (eL Ar)))] (fun y m'=>y=.s (.one (.ls 0 r.length))∧m'=[.arr 142 4 0 (r.flatMap Ar)]):=by
 unfold F0 at h
 refine Dc Tryz.func250 R (nt:=36) R (Nbl R) ?_
 intro w0 S0 X0 H0
 refine csr (rm 1 R (Ak (csr (rm 1 R (Ak (Bl (csr (rm 1 R (sv R (Aw Aol R) (rm 1 R (Ak (cj (Int) (fun b1=>[(0,.s (.one (.sl a0.length (a0.flatMap (eL Ar))))),(3,.s (.one (Ii6 b1)))]) (fun b1=>[]) (fun b1=>H8 a0 b1=some r) (fun _=>R) (fun b1 h=>?_) ?_))))))))))))
 ·unfold H8 at h
  refine csr (sv R (A4 R) ?_)
  obtain ⟨v2,hv2,h⟩:=Ae h
  refine Ie (x':=.s (.one (.ls 0 v2.length))) (M':=[.arr 142 4 0 (v2.flatMap Ar)]) [] R Azm (.func _) (Aa R (Aa R Af)) (Vm hv2) R R (by decide) R R R ?_
  refine rm 1 R (Ak (Bl (csr (rm 1 R (sv R (Aw Aol R) (rm 1 R (Ak (cj ((List A3)) (fun b3=>[(6,.s (.one (.ls 0 b3.length)))]) (fun b3=>[.arr 142 4 0 (b3.flatMap Ar)]) (fun b3=>Ls b3=some r) (fun _=>R) (fun b3 h=>?_) ?_))))))))
  ·unfold Ls at h
   refine csr (rm 2 R (Ak (Bs ?_)))
   obtain rfl:=SJ h
   exact ⟨Or.inr R,_,[0],[.one (.ls 0 b3.length)],[.arr 142 4 0 (b3.flatMap Ar)],(Ad (rt R) Ai),R,R,⟨by decide,R⟩,R,R,⟨R,R⟩⟩
  ·skip
   refine Bq ?_
   obtain ⟨x4,hx4,ho4⟩:=Ae h
   refine lpo (G:=Nat × (Int × (List A3))) (fun g=>[(6,.s (.one (.ls 0 g.2.2.length))),(25,.s (.one (.sl a0.length (a0.flatMap (eL Ar))))),(26,.s (.one (Ii6 (a0.length:Int)))),(27,.s (.one (Ii6 g.2.1)))]) (fun g=>[.arr 142 4 0 (g.2.2.flatMap Ar)]) (fun g=>Ct (D1 a0) g.1 g.2=some x4) (fun g=>g.1) (fuel,(0,v2)) hx4 ⟨R,R,R,R,trivial⟩ [] R (fun _=>R) ?_
   clear hx4 h
   rintro ⟨n4,s4⟩ h
   obtain ⟨n4,y4,rfl,h,hk4⟩:=Cu h
   unfold D1 at h
   refine csr (sv R (Bt R R) (Ak (Bl (ccI h R (fun h=>?_) (fun h=>?_)))))
   ·refine Bf (Ab (Bl (Bq (Bl (Aq ?_)))))
    obtain ⟨u5,hu5,h⟩:=Ae h
    refine sv R (B8 (f:=(eL Ar)) Aol (fun _=>R) R R R R hu5) ?_
    refine sv R (B6 Ajx R (.cp _) R) (rm 1 R (Ak (Aq (rm 1 R (sv R (A4 R) ?_)))))
    obtain ⟨hb6,h⟩:=Cp h
    refine Tr (f:=Ar) (xs:=s4.2) (us:=u5) R Tryz.underlying30 Amt A0d (fun _=>R) R R (.one _ _ _ _ (.id _ R)) R R R (.sl _ _ _ (Au (f:=Ar) (fun _=>R) _)) R R hb6 (by decide) ?_
    refine rm 1 R (Kz (Ap (Ab (Aq (sv R (Bo R R) (rm 1 R (Ak ?_)))))))
    obtain rfl:=SJ h
    exact ⟨(n4,((wI (s4.1+1)),(s4.2++u5))),_,hk4,⟨R,R,R,R,trivial⟩,R,zG _⟩
   ·refine Da (As (As (Bj (Ab ?_))))
    obtain rfl:=SJ h
    obtain rfl:_=x4:=hk4
    exact ⟨s4.2,_,ho4,⟨R,trivial⟩,R⟩
 ·skip
  refine Bq ?_
  obtain ⟨x8,hx8,ho8⟩:=Ae h
  refine lpo (G:=Nat × (Int × Int)) (fun g=>[(0,.s (.one (.sl a0.length (a0.flatMap (eL Ar))))),(3,.s (.one (Ii6 g.2.1))),(9,.s (.one (.sl a0.length (a0.flatMap (eL Ar))))),(10,.s (.one (Ii6 (a0.length:Int)))),(11,.s (.one (Ii6 g.2.2)))]) (fun g=>[]) (fun g=>Ct (Dz a0) g.1 g.2=some x8) (fun g=>g.1) (fuel,(0,0)) hx8 ⟨R,R,R,R,R,trivial⟩ [] R (fun _=>R) ?_
  clear hx8 h
  rintro ⟨n8,s8⟩ h
  obtain ⟨n8,y8,rfl,h,hk8⟩:=Cu h
  unfold Dz at h
  refine csr (sv R (Bt R R) (Ak (Bl (ccI h R (fun h=>?_) (fun h=>?_)))))
  ·refine Bf (Ab (Bl (Bq (Bl (Aq ?_)))))
   obtain ⟨u9,hu9,h⟩:=Ae h
   refine sv R (B8 (f:=(eL Ar)) Aol (fun _=>R) R R R R hu9) ?_
   refine sv R (B6 Ajx R (.cp _) R) (rm 1 R (Ak (csr (rm 2 R (sv R (Aw Abf R) (sv R (Bo R R) (rm 1 R (Ak (csr (rm 1 R (sv R (Bt R R) (Ak (ccI h R (fun h=>?_) (fun h=>?_))))))))))))))
   ·cases h
   ·refine Bf (Ap (Ab (Aq (sv R (Bo R R) (rm 1 R (Ak ?_))))))
    obtain rfl:=SJ h
    exact ⟨(n8,((wI (s8.1+(u9.length:Int))),(wI (s8.2+1)))),_,hk8,⟨R,R,R,R,R,trivial⟩,R,zG _⟩
  ·refine Da (As (As (Bj (Ab ?_))))
   obtain rfl:=SJ h
   obtain rfl:_=x8:=hk8
   exact ⟨s8.1,_,ho8,⟨R,R,trivial⟩,R⟩
def M2 (a0:Bv) (a1:Int) (a2:Bg) (b1:Unit):Option (Bv × Int) :=
 (Hn a0.L).bind fun v2=>(Jk (A3.mk a1 a2)).bind fun v3=>if (Afv v2 v3) then (some ((Bv.mk a0.L),0)) else (if (decide (128≤(a0.L.length:Int))) then (some ((Bv.mk ([]:List A3)),8)) else ((F0 [a0.L,[(A3.mk a1 a2)]]).bind fun v4=>some ((Bv.mk v4),0)))
def Hh (a0:Bv) (a1:Int) (a2:Bg):Option (Bv × Int) :=
 (F9 (Bv.mk a0.L)).bind fun v5=>if (!v5) then (some ((Bv.mk ([]:List A3)),1)) else ((Di (A3.mk a1 a2)).bind fun v6=>if (!v6) then (some ((Bv.mk ([]:List A3)),1)) else (M2 a0 a1 a2 ()))
theorem Yv {a0:Bv} {a1:Int} {a2:Bg} {r:Bv × Int} (h:Hh a0 a1 a2=some r):Br Tryz.prog 199 [.agg [.sl a0.L.length (a0.L.flatMap Ar)],.one (Ii6 a1),.agg (EL.el a2)] (·=.tup [.agg [.sl r.1.L.length (r.1.L.flatMap Ar)],.one (Ii6 r.2)]):=by
 unfold Hh at h
 refine A5 Tryz.func199 R (nt:=46) R (Nbl R) ?_
 intro w0 S0
 refine csr (F4 R R (F4 R R (Bp R Aow (rm 1 R (Ak (csr (rm 1 R (ld Ada R R R R (sv R (A6 Akh Ayo (Ax R (Ax R A1)) (.cons _ _ _ _ _ _ _ R R (Nbl R) (.cons _ _ _ _ _ _ _ R R (Nbl R) (.nil _)))) (Bp R Akh (sst Amj R R R R R (Ak (Bl (Bl (cj3 (Unit) (fun b1=>[(3,.s (.one (.lp 0 0))),(6,.s (.one (.lp 2 0))),(8,.s (.one (.lp 3 0)))]) (fun b1=>[.box [.sl a0.L.length (a0.L.flatMap Ar)],.box (EL.el a2),.box [Znl],.box [Ii6 a1,.sl a2.Lo.length (a2.Lo.flatMap eU8),.sl a2.Hi.length (a2.Hi.flatMap eU8),.b a2.Open]]) (fun b1=>M2 a0 a1 a2 b1=some r) (fun _=>R) (fun b1 h=>?_) ?_)))))))))))))))
 ·unfold M2 at h
  refine Bl (Bl (Aah ?_))
  obtain ⟨v2,hv2,h⟩:=Ae h
  obtain ⟨v3,hv3,h⟩:=Ae h
  refine Ig [2] [0,1,3,0,15,31,63,127,127,255,1023] [[.box [.sl a0.L.length (a0.L.flatMap Ar)],.box (EL.el a2),.box [Znl],.box [Ii6 a1,.sl a2.Lo.length (a2.Lo.flatMap eU8),.sl a2.Hi.length (a2.Hi.flatMap eU8),.b a2.Open],.hole],[.box [.sl a0.L.length (a0.L.flatMap Ar)],.box (EL.el a2),.box [Znl],.box [Ii6 a1,.sl a2.Lo.length (a2.Lo.flatMap eU8),.sl a2.Hi.length (a2.Hi.flatMap eU8),.b a2.Open],U3 Dv v2]] (by kernel_rfl) mixed (by kernel_rfl) (by decide) R R R R ?_
  refine ev (A7 0 R R) R R (Ac Vl R) (ev (A7 0 R R) R R (l1 Ajx R R R) (ee (x:=.s (.one (.mp 0 4))) 0 R R R R R (fun ζ=>?_) ?_))
  ·refine Afw 4 R Avn (.func _) (Aa R Af) (Q5 hv2) R R R ?_
   exact Sv
  refine ev (B5 (md:=[.box [.sl a0.L.length (a0.L.flatMap Ar)],.box (EL.el a2),.box [Znl],.box [Ii6 a1,.sl a2.Lo.length (a2.Lo.flatMap eU8),.sl a2.Hi.length (a2.Hi.flatMap eU8),.b a2.Open],.dead]) ⟨⟨R,⟨R,⟨R,⟨R,⟨trivial,trivial⟩⟩⟩⟩⟩,⟨⟨R,⟨R,⟨R,⟨R,⟨trivial,trivial⟩⟩⟩⟩⟩,trivial⟩⟩) R R (lo Aa0 R R R) (ed (A7 1 R R) R R (Cy Avb (Aa R Af) R (Qe hv3)) (ev (A7 1 R R) R R (Akf (M:=v2) (k:=v3) Aw1 Tryz.underlying299 zv3 R R R) (ev (A7 1 R R) R R (Ca R) (ev (A7 1 R R) R R (Aj R R) (ev (A7 1 R R) R R (Aj R R) (ev (A7 1 R R) R R (Iu R) (ev (A7 1 R R) R R (Iu R) (Aas (Ab (csr (rm 1 R (Ak (ccI h R (fun h=>?_) (fun h=>?_))))))))))))))
  ·refine csr (ld Aco R R R R (sst Arp R R R R R (rm 1 R (Ak (Bs (Ag ?_))))))
   obtain rfl:=SJ h
   exact dn (Ad (ra Aco R R R) (Ad (rt R) Ai)) (An R) R
  ·refine Bf (Ab (Bl (csr (fl Vl Ajx R R R R R R (sv R (Aw Abf R) (sv R (Hz R R) (Ak (ccI h R (fun h=>?_) (fun h=>?_)))))))))
   ·refine csr (sv R (A6 Aow Au3 A1 (.nil _)) (sst Arp R R R R R (rm 1 R (Ak (Bs (Ag ?_))))))
    obtain rfl:=SJ h
    exact dn (Ad (ra Aco R R R) (Ad (rt R) Ai)) (Ip R) R
   ·refine Bf (Ab (csr (fl Vl Ajx R R R R R R (sv R (lo Aa0 R R R) ?_))))
    refine Fo R Tryz.underlying30 Amt R R (zJ.1 R) (by decide) ?_
    refine Pz [.box [.sl a0.L.length (a0.L.flatMap Ar)],.box (EL.el a2),.box [Znl],.box [Ii6 a1,.sl a2.Lo.length (a2.Lo.flatMap eU8),.sl a2.Hi.length (a2.Hi.flatMap eU8),.b a2.Open],U3 Dv v2,.arr 142 4 0 ([(A3.mk a1 a2)].flatMap Ar)] R ?_
    refine Ah4 42 R (by (repeat' first | exact Ic.nil _ | apply Ic.cons | apply H6.one | apply H6.agg | exact Cz.nil | exact Cz.ls _ _ _ _ _ _ R (Au (f:=Ar) (fun _=>R) ([(A3.mk a1 a2)]:List A3)).symm | exact Cz.ls _ _ _ _ _ _ R (Au (f:=Ar) (fun _=>R) _).symm | exact Cz.id _ R | exact Co.nil _ | apply Co.cons)) ?_
    refine Aha (out:=([a0.L,[(A3.mk a1 a2)]]:List (List A3)).flatMap (eL Ar)) R Tryz.underlying396 A1u (Ax R (Ax R A1)) (.cons _ _ _ _ _ _ _ R R (Nbl R) (.cons _ _ _ _ _ _ _ R R (Nbl R) (.nil _))) R (by decide) ?_
    refine Ah4 43 R (by (repeat' first | exact Ic.nil _ | apply Ic.cons | apply H6.one | apply H6.agg | exact Cz.nil | exact Cz.ls _ _ _ _ _ _ R (Au (f:=(eL Ar)) (fun _=>R) ([a0.L,[(A3.mk a1 a2)]]:List (List A3))).symm | exact Cz.ls _ _ _ _ _ _ R (Au (f:=(eL Ar)) (fun _=>R) _).symm | exact Cz.ls _ _ _ _ _ _ R (Au (f:=Ar) (fun _=>R) _).symm | exact Cz.id _ R | exact Co.nil _ | apply Co.cons)) ?_
    obtain ⟨v4,hv4,h⟩:=Ae h
    refine Ie (x':=.s (.one (.ls 7 v4.length))) (M':=[.box [.sl a0.L.length (a0.L.flatMap Ar)],.box (EL.el a2),.box [Znl],.box [Ii6 a1,.sl a2.Lo.length (a2.Lo.flatMap eU8),.sl a2.Hi.length (a2.Hi.flatMap eU8),.b a2.Open],U3 Dv v2,.arr 142 4 ([(A3.mk a1 a2)].flatMap Ar).length ([(A3.mk a1 a2)].flatMap Ar),.arr 30 1 ([a0.L,[(A3.mk a1 a2)]].flatMap (eL Ar)).length ([a0.L,[(A3.mk a1 a2)]].flatMap (eL Ar)),.arr 142 4 0 (v4.flatMap Ar)]) [] R Ay4 (.func _) (Aa R Af) (T0 hv4) R R (by decide) R R R ?_
    refine sv R (A6 Aow Au3 (Ax R A1) (.cons _ _ _ _ _ _ _ R R (Nbl R) (.nil _))) (sst Arp R R R R R (rm 1 R (Ak (Bs ?_))))
    obtain rfl:=SJ h
    refine ⟨Or.inr R,_,_,_,(Ad (ra Aco R R R) (Ad (rt R) Ai)),(by (repeat' first | exact Ic.nil _ | apply Ic.cons | apply H6.one | apply H6.agg | exact Cz.nil | exact Cz.ls _ _ _ _ _ _ R (Au (f:=(eL Ar)) (fun _=>R) _).symm | exact Cz.ls _ _ _ _ _ _ R (Au (f:=Ar) (fun _=>R) _).symm | exact Cz.id _ R | exact Co.nil _ | apply Co.cons)),?_⟩
    rfl
 ·skip
  refine Aq (sv R (lo Aco R R R) ?_)
  obtain ⟨v5,hv5,h⟩:=Ae h
  refine Ba R Awd (Aa R Af) (An R) (Sn hv5) (sv R (B0 R) (rm 1 R (ssI 17 h R (fun h=>?_) (fun h=>?_))))
  ·refine rm 4 R (Ak (Ci R (fun _=>?_) (fun hx=>Bool.noConfusion hx)))
   refine csr (sv R (A6 Aow Au3 A1 (.nil _)) (sst Arp R R R R R (rm 1 R (Ak (Bs (Ag ?_))))))
   obtain rfl:=SJ h
   exact dn (Ad (ra Aco R R R) (Ad (rt R) Ai)) (Ip R) R
  ·refine son R R R (ld Aa0 R R R R (son R R R ?_))
   obtain ⟨v6,hv6,h⟩:=Ae h
   refine Ba R Aw3 (Aa R Af) (An R) (Ps hv6) (son R R R (sv R (B0 R) (rm 1 R (Ak (ccI h R (fun h=>?_) (fun h=>?_))))))
   ·refine csr (sv R (A6 Aow Au3 A1 (.nil _)) (sst Arp R R R R R (rm 1 R (Ak (Bs (Ag ?_))))))
    obtain rfl:=SJ h
    exact dn (Ad (ra Aco R R R) (Ad (rt R) Ai)) (Ip R) R
   ·refine Bf (Ab ?_)
    exact ⟨(),_,h,⟨R,R,R,trivial⟩,R⟩
def Dw (a0:List A2):Option (List A2) :=
 if (([]:List A2).length+a0.length)*64≤140737488355328 then (some (([]:List A2)++a0)) else none
theorem P7 {a0:List A2} {r:(List A2)} (h:Dw a0=some r):Dl Tryz.prog 200 [] [.one (.sl a0.length (a0.flatMap Bb))] (fun y m'=>y=.s (.one (.ls 0 r.length))∧m'=[.arr 139 8 0 (r.flatMap Bb)]):=by
 unfold Dw at h
 refine Dc Tryz.func200 R (nt:=8) R (Nbl R) ?_
 intro w0 S0 X0 H0
 refine csr (rm 1 R (Ak (Bl (csr (rm 1 R (Ac4 R Tryz.underlying29 R (fun nq hnq=>?_)))))))
 cases nq
 ·skip
  refine Ak (Ci R (fun hx=>Bool.noConfusion hx) (fun _=>?_))
  refine Bf (Ab (csr (S8 R Tryz.underlying29 Ahb (sv R (A4 R) ?_))))
  obtain ⟨hb1,h⟩:=Cp h
  refine Tr (f:=Bb) (xs:=([]:List A2)) (us:=a0) R Tryz.underlying29 Ahb Ax0 (fun _=>R) R R (.one _ _ _ _ (.id _ R)) R R R (.sl _ _ _ (Au (f:=Bb) (fun _=>R) _)) R R hb1 (by decide) ?_
  refine rm 1 R (Ak (Bs ?_))
  obtain rfl:=SJ h
  exact ⟨Or.inr R,_,[0],[.one (.ls 0 (([]:List A2)++a0).length)],[.arr 139 8 0 ((([]:List A2)++a0).flatMap Bb)],(Ad (rt R) Ai),R,R,⟨by decide,R⟩,R,R,⟨R,R⟩⟩
 ·obtain rfl:=zZ (hnq rfl)
  replace h:(some ([]:List A2))=some r:=by first | exact h | (rw [if_pos (by decide)] at h;exact h)
  refine Ak (Ci R (fun _=>?_) (fun hx=>Bool.noConfusion hx))
  refine csr (rm 1 R (Ak ?_))
  refine C6 139 8 2 (by decide) R ?_
  refine Bs (Ag ?_)
  obtain rfl:=SJ h
  exact ⟨Or.inr R,_,[0],[.one (.ls 0 ([]:List A2).length)],[.arr 139 8 0 (([]:List A2).flatMap Bb)],(Ad (rt R) Ai),R,R,⟨by decide,R⟩,R,R,⟨R,R⟩⟩
def Lr (a0:A2) (a1:A2):Option Bool :=
 if (decide (a0.State=2)) then (some (decide (a0.End≤a1.Begin))) else (some false)
theorem Te {a0:A2} {a1:A2} {r:Bool} (h:Lr a0 a1=some r):Br Tryz.prog 251 [.agg (EL.el a0),.agg (EL.el a1)] (·=.s (.one (.b r))):=by
 unfold Lr at h
 refine A5 Tryz.func251 R (nt:=15) R (Nbl R) ?_
 intro w0 S0
 refine csr (F4 R R (F4 R R (rm 1 R (Ak (csr (fl Pj ti3 R R R R R R (sv R (B4 R R) (rm 1 R (ssI 8 h R (fun h=>?_) (fun h=>?_))))))))))
 ·refine son R R R (sv R (Ac Q0 R) (son R R R (sv R (l1 ti3 R R R) (son R R R (sv R (Ac Vx R) (son R R R (sv R (l1 ti3 R R R) (son R R R (sv R (De R R) (rm 2 R (Ak (Bs ?_))))))))))))
  obtain rfl:=SJ h
  exact dnT R R R R
 ·refine rm 7 R (Ak (Bs ?_))
  obtain rfl:=SJ h
  exact dnT R R R R
def E2 (a0:A2) (a1:A2):Option Bool :=
 (Lr a0 a1).bind fun v1=>if (!v1) then ((Lr a1 a0).bind fun v2=>some (!v2)) else (some false)
theorem O9 {a0:A2} {a1:A2} {r:Bool} (h:E2 a0 a1=some r):Br Tryz.prog 201 [.agg (EL.el a0),.agg (EL.el a1)] (·=.s (.one (.b r))):=by
 unfold E2 at h
 refine A5 Tryz.func201 R (nt:=15) R (Nbl R) ?_
 intro w0 S0
 refine csr (F4 R R (F4 R R (rm 1 R (Ak (csr (ld Ju R R R R (sv R (lo Ju R R R) ?_)))))))
 obtain ⟨v1,hv1,h⟩:=Ae h
 refine Ba R Aur (Aa R (Aa R Af)) (An R) (Te hv1) (sv R (B0 R) (rm 1 R (ssI 9 h R (fun h=>?_) (fun h=>?_))))
 ·refine son R R R (ld Ju R R R R (son R R R (ld Ju R R R R (son R R R ?_))))
  obtain ⟨v2,hv2,h⟩:=Ae h
  refine Ba R Aur (Aa R (Aa R Af)) (An R) (Te hv2) (son R R R (sv R (B0 R) (rm 2 R (Ak (Bs ?_)))))
  obtain rfl:=SJ h
  exact dnT R R R R
 ·refine rm 6 R (Ak (Bs ?_))
  obtain rfl:=SJ h
  exact dnT R R R R
def N4 (b1:Unit):Option Bool :=
 some false
def F3 (a0:A2) (a1:Bg) (s2:Int):Option (LR (Int) (Unit) (Bool)) :=
 if (decide (s2<(a0.Keys.length:Int))) then ((idx a0.Keys s2).bind fun u3=>(G8 a1 u3).bind fun v4=>if v4 then (some (.ret true)) else (some (.cont (wI (s2+1))))) else (some (.brk ()))
def Ll (a0:A2) (a1:Bg):Option Bool :=
 (Lj (F3 a0 a1) fuel 0).bind fun x=>match x with | .inl r=>some r | .inr e5=>N4 e5
theorem Wo {a0:A2} {a1:Bg} {r:Bool} (h:Ll a0 a1=some r):Br Tryz.prog 202 [.agg (EL.el a0),.agg (EL.el a1)] (·=.s (.one (.b r))):=by
 unfold Ll at h
 refine A5 Tryz.func202 R (nt:=18) R (Nbl R) ?_
 intro w0 S0
 refine csr (F4 R R (F4 R R (rm 1 R (Ak (Bl (csr (fl Uh Abe R R R R R R (sv R (Aw S7 R) (rm 1 R (Ak (cj (Unit) (fun b1=>[]) (fun b1=>[.box (EL.el a0),.box (EL.el a1)]) (fun b1=>N4 b1=some r) (fun _=>R) (fun b1 h=>?_) ?_)))))))))))
 ·unfold N4 at h
  refine csr (rm 1 R (Ak (Bs ?_)))
  obtain rfl:=SJ h
  exact dnT R R R R
 ·skip
  refine Bq ?_
  obtain ⟨x2,hx2,ho2⟩:=Ae h
  refine lpo (G:=Nat × (Int)) (fun g=>[(3,.s (.one (.lp 1 0))),(8,.s (.one (.sl a0.Keys.length (a0.Keys.flatMap (eL eU8))))),(9,.s (.one (Ii6 (a0.Keys.length:Int)))),(10,.s (.one (Ii6 g.2)))]) (fun g=>[.box (EL.el a0),.box (EL.el a1)]) (fun g=>Lj (F3 a0 a1) g.1 g.2=some x2) (fun g=>g.1) (fuel,0) hx2 ⟨R,R,R,R,trivial⟩ [] R (fun _=>R) ?_
  clear hx2 h
  rintro ⟨n2,s2⟩ h
  obtain ⟨n2,y2,rfl,h,hk2⟩:=Es h
  unfold F3 at h
  refine csr (sv R (Bt R R) (Ak (Bl (ccI h R (fun h=>?_) (fun h=>?_)))))
  ·refine Bf (Ab (Bl (Bq (Bl (Aq ?_)))))
   obtain ⟨u3,hu3,h⟩:=Ae h
   refine sv R (B8 (f:=(eL eU8)) S7 (fun _=>R) R R R R hu3) ?_
   refine sv R (B6 Mz R (.cp _) R) (rm 1 R (Ak (csr (ld Ada R R R R (sv R (A4 R) ?_)))))
   obtain ⟨v4,hv4,h⟩:=Ae h
   refine Ba R Amo (Aa R (Aa R Af)) (An R) (Mj hv4) (Ak (ccI h R (fun h=>?_) (fun h=>?_)))
   ·refine csr (rm 1 R (Ak (Bs (Az (Ag (Ag (Az (Ag ?_))))))))
    obtain rfl:=SJ h
    obtain rfl:Sum.inl _=x2:=hk2
    replace ho2:some _=some _:=ho2
    obtain rfl:=zD ho2
    exact dnT R R R R
   ·refine Bf (Ap (Ab (Aq (sv R (Bo R R) (rm 1 R (Ak ?_))))))
    obtain rfl:=SJ h
    exact ⟨(n2,(wI (s2+1))),_,hk2,⟨R,R,R,R,trivial⟩,R,zG _⟩
  ·refine Da (As (As (Bj (Ab ?_))))
   obtain rfl:=SJ h
   obtain rfl:_=x2:=hk2
   exact ⟨(),_,ho2,trivial,R⟩
def Hj  : Option Unit :=
 some ()
theorem Qu  {r:Unit} (h:Hj=some r):Dl Tryz.prog 203 [] [] (fun y m'=>y=.s (.agg [.raw (.func (.func 252) #[] #[]),.raw (.func (.func 253) #[] #[])])∧m'=[]):=by
 unfold Hj at h
 refine Dc Tryz.func203 R (nt:=2) R (Nbl R) ?_
 intro w0 S0 X0 H0
 refine csr (Bp R Aw2 (Ak (csr (sv R (A6 Aw2 Axw (Ax R (Ax R A1)) (.cons _ _ _ _ _ _ _ R R (Nbl R) (.cons _ _ _ _ _ _ _ R R (Nbl R) (.nil _)))) (sst Ay3 R R R R R (Ak (Bs ?_)))))))
 obtain rfl:=SJ h
 exact ⟨Or.inr R,_,[],[.agg [.raw (.func (.func 252) #[] #[]),.raw (.func (.func 253) #[] #[])]],[],(Ad (ra Axo R R R) Ai),R,R,⟨by decide,R⟩,R,R,⟨R,R⟩⟩
def Lg (a0:A2):Option A2 :=
 some ({a0 with Out:=true})
theorem Ub {a0:A2} {r:A2} (h:Lg a0=some r):Br Tryz.prog 252 [.agg (EL.el a0)] (·=.s (.agg (EL.el r))):=by
 unfold Lg at h
 refine A5 Tryz.func252 R (nt:=5) R (Nbl R) ?_
 intro w0 S0
 refine csr (F4 R R (Bp R Tj (Ak (csr (sv R (Ac Am6 R) (sst sz4 R R R R R (Ak (csr (ld Ju R R R R (sst Tb R R R R R (Ak (Bs ?_))))))))))))
 obtain rfl:=SJ h
 exact dnA R Ju R (.lp _ _ _ R) (Nbl R) R R
def Li (a0:A2):Option A2 :=
 some ({a0 with In:=true})
theorem Uf {a0:A2} {r:A2} (h:Li a0=some r):Br Tryz.prog 253 [.agg (EL.el a0)] (·=.s (.agg (EL.el r))):=by
 unfold Li at h
 refine A5 Tryz.func253 R (nt:=5) R (Nbl R) ?_
 intro w0 S0
 refine csr (F4 R R (Bp R Tj (Ak (csr (sv R (Ac Ant R) (sst sz4 R R R R R (Ak (csr (ld Ju R R R R (sst Tb R R R R R (Ak (Bs ?_))))))))))))
 obtain rfl:=SJ h
 exact dnA R Ju R (.lp _ _ _ R) (Nbl R) R R
def Fx (a0:List A2) (a1:Int) (a2:Int):Option (List A2) :=
 (idx a0 a1).bind fun u1=>(Lg u1).bind fun v2=>(idx a0 a1).bind fun u3=>(idx (a0.set a1.toNat v2) a2).bind fun u4=>(Li u4).bind fun v5=>(idx (a0.set a1.toNat v2) a2).bind fun u6=>some ((a0.set a1.toNat v2).set a2.toNat v5)
theorem Pq {a0:List A2} {a1:Int} {a2:Int} {r:(List A2)} (h:Fx a0 a1 a2=some r):Dl Tryz.prog 204 [.arr 139 8 0 (a0.flatMap Bb)] [.agg [.raw (.func (.func 252) #[] #[]),.raw (.func (.func 253) #[] #[])],.one (.ls 0 a0.length),.one (Ii6 a1),.one (Ii6 a2)] (fun y m'=>y=.tup []∧m'=[.arr 139 8 0 (r.flatMap Bb)]):=by
 unfold Fx at h
 refine Dc Tryz.func204 R (nt:=28) R (Nbl R) ?_
 intro w0 S0 X0 H0
 refine csr (F4 R R (Ak (Bl ?_)))
 obtain ⟨u1,hu1,h⟩:=Ae h
 obtain ⟨v2,hv2,h⟩:=Ae h
 obtain ⟨u3,hu3,h⟩:=Ae h
 refine Ig [10] [0,0,0,4,0,0,48,112,252,511,1023] [[.arr 139 8 0 (a0.flatMap Bb),.box [.raw (.func (.func 252) #[] #[]),.raw (.func (.func 253) #[] #[])]],[.arr 139 8 0 ((a0.set a1.toNat v2).flatMap Bb),.box [.raw (.func (.func 252) #[] #[]),.raw (.func (.func 253) #[] #[])]]] (by kernel_rfl) mixed (by kernel_rfl) (by decide) R R R R ?_
 refine ev (A7 0 R R) R R (A4 R) (ev (A7 0 R R) R R (A4 R) (ev (A7 0 R R) R R (Ac Ar8 R) (ev (A7 0 R R) R R (l1 Auo R R R) (ev (A7 0 R R) R R (A4 R) (ev (A7 0 R R) R R (A4 R) ?_)))))
 refine ev (A7 0 rfl rfl) rfl rfl (Et (f:=Bb) Qm (fun _=>rfl) rfl rfl rfl (by first | rfl | exact List.length_set.symm) rfl hu1) ?_
 refine ev (A7 0 R R) R R (Ov (f:=Bb) (sz:=8) 0 Ju (fun _=>R) R R R R (Gq hu1).2 (Nbl R) R) ?_
 refine ed (A7 0 R R) R R (T3 Azr (.raw _ _ R) (Aa R Af) R (Ub hv2)) ?_
 refine ev (A7 0 rfl rfl) rfl rfl (Et (f:=Bb) Qm (fun _=>rfl) rfl rfl rfl (by first | rfl | exact List.length_set.symm) rfl hu3) ?_
 refine ee0 0 R R R R (fun ζ=>?_) ?_
 ·refine Zw (f:=Bb) (u':=v2) (sz:=8) 0 Tb (fun _=>rfl) rfl rfl rfl rfl (by first | rfl | exact List.length_set.symm) rfl rfl (zJ.1 rfl) (Gq hu3).2 (Nbl rfl) rfl ?_
  exact Sv
 refine Aas (Ab (Xp 1 (y:=.s (.one (.ls 0 a0.length))) (.s (.one (.ls 0 (a0.set a1.toNat v2).length))) R (congrArg (fun n=>AV.s (.one (.ls 0 n))) List.length_set.symm) ?_))
 refine Xp 8 (y:=.s (.one (.ls 0 a0.length))) (.s (.one (.ls 0 (a0.set a1.toNat v2).length))) R (congrArg (fun n=>AV.s (.one (.ls 0 n))) List.length_set.symm) ?_
 refine Xp 12 (y:=.s (.one (.ls 0 a0.length))) (.s (.one (.ls 0 (a0.set a1.toNat v2).length))) R (congrArg (fun n=>AV.s (.one (.ls 0 n))) List.length_set.symm) ?_
 obtain ⟨u4,hu4,h⟩:=Ae h
 obtain ⟨v5,hv5,h⟩:=Ae h
 obtain ⟨u6,hu6,h⟩:=Ae h
 refine Ig [10] [0,0,0,4,0,0,48,112,252,511,1023] [[.arr 139 8 0 ((a0.set a1.toNat v2).flatMap Bb),.box [.raw (.func (.func 252) #[] #[]),.raw (.func (.func 253) #[] #[])]],[.arr 139 8 0 (((a0.set a1.toNat v2).set a2.toNat v5).flatMap Bb),.box [.raw (.func (.func 252) #[] #[]),.raw (.func (.func 253) #[] #[])]]] (by kernel_rfl) mixed (by kernel_rfl) (by decide) R R R R ?_
 refine ev (A7 0 R R) R R (A4 R) (ev (A7 0 R R) R R (A4 R) (ev (A7 0 R R) R R (Ac Ar6 R) (ev (A7 0 R R) R R (l1 Auo R R R) (ev (A7 0 R R) R R (A4 R) (ev (A7 0 R R) R R (A4 R) ?_)))))
 refine ev (A7 0 rfl rfl) rfl rfl (Et (f:=Bb) Qm (fun _=>rfl) rfl rfl rfl (by first | rfl | exact List.length_set.symm) rfl hu4) ?_
 refine ev (A7 0 R R) R R (Ov (f:=Bb) (sz:=8) 0 Ju (fun _=>R) R R R R (Gq hu4).2 (Nbl R) R) ?_
 refine ed (A7 0 R R) R R (T3 Az2 (.raw _ _ R) (Aa R Af) R (Uf hv5)) ?_
 refine ev (A7 0 rfl rfl) rfl rfl (Et (f:=Bb) Qm (fun _=>rfl) rfl rfl rfl (by first | rfl | exact List.length_set.symm) rfl hu6) ?_
 refine ee0 0 R R R R (fun ζ=>?_) ?_
 ·refine Zw (f:=Bb) (u':=v5) (sz:=8) 0 Tb (fun _=>rfl) rfl rfl rfl rfl (by first | rfl | exact List.length_set.symm) rfl rfl (zJ.1 rfl) (Gq hu6).2 (Nbl rfl) rfl ?_
  exact Sv
 refine Aas ?_
 obtain rfl:=SJ h
 exact ⟨Or.inl R,_,[0],[],[.arr 139 8 0 (((a0.set a1.toNat v2).set a2.toNat v5).flatMap Bb)],Ai,R,R,⟨by decide,R⟩,R,R,⟨R,R⟩⟩
def Jt (a0:A2):Option Bool :=
 if a0.In then (some a0.Out) else (some false)
theorem P4 {a0:A2} {r:Bool} (h:Jt a0=some r):Br Tryz.prog 205 [.agg (EL.el a0)] (·=.s (.one (.b r))):=by
 unfold Jt at h
 refine A5 Tryz.func205 R (nt:=9) R (Nbl R) ?_
 intro w0 S0
 refine csr (F4 R R (rm 1 R (Ak (csr (fl Ant ti4 R R R R R R (rm 1 R (ssI 5 h R (fun h=>?_) (fun h=>?_))))))))
 ·refine son R R R (sv R (Ac Am6 R) (son R R R (sv R (l1 ti4 R R R) (rm 2 R (Ak (Bs ?_))))))
  obtain rfl:=SJ h
  exact dnT R R R R
 ·refine rm 4 R (Ak (Bs ?_))
  obtain rfl:=SJ h
  exact dnT R R R R
def Ln (v3:Bv × Int) (b5:(List A2)):Option (Bc × Int) :=
 some ((Bc.mk b5 v3.1),0)
def Nx (v2:Int) (s6:Int × (List A2)) (b8:Unit):Option (LR (Int × (List A2)) ((List A2)) (Bc × Int)) :=
 (Hj).bind fun v9=>(Fx s6.2 v2 s6.1).bind fun v10=>if v10.length=s6.2.length then ((idx v10 s6.1).bind fun u12=>(Jt u12).bind fun v13=>if v13 then (some (.ret (Ja,10))) else (some (.cont ((wI (s6.1+1)),v10)))) else none
def Fi (a2:Bg) (v2:Int) (v4:(List A2)) (s6:Int × (List A2)):Option (LR (Int × (List A2)) ((List A2)) (Bc × Int)) :=
 if (decide (s6.1<(v4.length:Int))) then ((idx s6.2 s6.1).bind fun u7=>if (!decide (u7.State=2)) then (some (.cont ((wI (s6.1+1)),s6.2))) else ((idx s6.2 v2).bind fun u14=>(E2 u7 u14).bind fun v15=>if (!v15) then (some (.cont ((wI (s6.1+1)),s6.2))) else ((Ll u7 (Bg.mk a2.Lo a2.Hi a2.Open)).bind fun v16=>if (!v16) then (some (.cont ((wI (s6.1+1)),s6.2))) else (Nx v2 s6 ())))) else (some (.brk s6.2))
def F6 (a0:Bc) (a1:Int) (a2:Bg):Option (Bc × Int) :=
 (K4 a0).bind fun v1=>if (!v1) then (some (Ja,1)) else ((Gc a0 a1).bind fun v2=>if (decide (v2<0)) then (some (Ja,7)) else ((Hh a0.Reads a1 a2).bind fun v3=>if (!decide (v3.2=0)) then (some (Ja,v3.2)) else ((Dw a0.Txs).bind fun v4=>(Lj (Fi a2 v2 v4) fuel (0,v4)).bind fun x=>match x with | .inl r=>some r | .inr e17=>Ln v3 e17)))
theorem Z6 {a0:Bc} {a1:Int} {a2:Bg} {r:Bc × Int} (h:F6 a0 a1 a2=some r):Br Tryz.prog 136 [.agg (EL.el a0),.one (Ii6 a1),.agg (EL.el a2)] (·=.tup [.agg (EL.el r.1),.one (Ii6 r.2)]):=by
 unfold F6 at h
 refine A5 Tryz.func136 R (nt:=79) R (Nbl R) ?_
 intro w0 S0
 refine csr (F4 R R (F4 R R (Bp R Ya (rm 1 R (Ak (Bl (csr (sv R (lo Qq R R R) ?_))))))))
 obtain ⟨v1,hv1,h⟩:=Ae h
 refine Ba R Axh (Aa R Af) (An R) (Pl hv1) (sv R (B0 R) (Ak (ccI h R (fun h=>?_) (fun h=>?_))))
 ·refine csr (sv R (A6 Ya Adx A1 (.nil _)) (sst Xu R R R R R (rm 1 R (Ak (Bs (Ag ?_))))))
  obtain rfl:=SJ h
  exact dn (Ad (ra Qq R R R) (Ad (rt R) Ai)) (Ip R) R
 ·refine Bf (Ab (csr (ld Qq R R R R (sv R (A4 R) ?_))))
  obtain ⟨v2,hv2,h⟩:=Ae h
  refine Ba R Asx (Aa R (Aa R Af)) (An R) (Ph hv2) (rm 1 R (Ak (Bl (csr (rm 1 R (sv R (Bt R R) (Ak (ccI h R (fun h=>?_) (fun h=>?_)))))))))
  ·refine csr (sv R (A6 Ya Adx A1 (.nil _)) (sst Xu R R R R R (rm 1 R (Ak (Bs (Ag ?_))))))
   obtain rfl:=SJ h
   exact dn (Ad (ra Qq R R R) (Ad (rt R) Ai)) (Ip R) R
  ·refine Bf (Ab (csr (sv R (Ac Yo R) (ld Aco R R R R (rm 1 R (sv R (lo Ada R R R) ?_))))))
   obtain ⟨v3,hv3,h⟩:=Ae h
   refine Ba R Ax6 (Aa R (Aa R (Aa R Af))) (An R) (Yv hv3) (sv R (Ca R) (sv R (Aj R R) (sv R (Aj R R) (Bp R Aow (sst Arp R R R R R (rm 1 R (Ak (Bl (csr (rm 1 R (sv R (Db R R) (Ak (ccI h R (fun h=>?_) (fun h=>?_))))))))))))))
   ·refine csr (sv R (A6 Ya Adx A1 (.nil _)) (rm 1 R (sst Xu R R R R R (rm 1 R (Ak (Bs (Ag ?_)))))))
    obtain rfl:=SJ h
    exact dn (Ad (ra Qq R R R) (Ad (rt R) Ai)) (Ip R) R
   ·refine Bf (Ab (csr (sv R (Ac Oo R) (sv R (l1 Aa8 R R R) ?_))))
    obtain ⟨v4,hv4,h⟩:=Ae h
    refine Ie (x':=.s (.one (.ls 4 v4.length))) (M':=[.box (EL.el a0),.box (EL.el a2),.box [Znl,Znl],.box [.sl v3.1.L.length (v3.1.L.flatMap Ar)],.arr 139 8 0 (v4.flatMap Bb)]) [] R Avs (.func _) (Aa R Af) (P7 hv4) R R (by decide) R R R ?_
    refine rm 1 R (Ak (Bl (csr (rm 1 R (sv R (Fu Qm R R (Au (f:=Bb) (fun _=>R) _).symm) ?_)))))
    refine rm 1 R (Ak (cj ((List A2)) (fun b5=>[(6,.s (.one (.lp 2 0))),(9,.s (.one (.lp 3 0))),(11,.s (.one (.ls 4 b5.length)))]) (fun b5=>[.box (EL.el a0),.box (EL.el a2),.box [Znl,Znl],.box [.sl v3.1.L.length (v3.1.L.flatMap Ar)],.arr 139 8 0 (b5.flatMap Bb)]) (fun b5=>Ln v3 b5=some r) (fun _=>R) (fun b5 h=>?_) ?_))
    ·unfold Ln at h
     refine csr (rm 1 R (ld Aco R R R R (sv R (A6 Ya Adx (Ax R (Ax R A1)) (.cons _ _ _ _ _ _ _ R R (Nbl R) (.cons _ _ _ _ _ _ _ R R (Nbl R) (.nil _)))) (sst Xu R R R R R (rm 1 R (Ak (Bs ?_)))))))
     obtain rfl:=SJ h
     refine ⟨Or.inr R,_,_,_,(Ad (ra Qq R R R) (Ad (rt R) Ai)),(by (repeat' first | exact Ic.nil _ | apply Ic.cons | apply H6.one | apply H6.agg | exact Cz.nil | exact Cz.ls _ _ _ _ _ _ R (Au (f:=Bb) (fun _=>R) _).symm | exact Cz.id _ R | exact Co.nil _ | apply Co.cons)),?_⟩
     rfl
    ·skip
     refine Bq ?_
     obtain ⟨x6,hx6,ho6⟩:=Ae h
     refine lpo (G:=Nat × (Int × (List A2))) (fun g=>[(5,.s (.one (.lp 1 0))),(6,.s (.one (.lp 2 0))),(8,.s (.one (Ii6 v2))),(9,.s (.one (.lp 3 0))),(11,.s (.one (.ls 4 g.2.2.length))),(39,.s (.one (.ls 4 g.2.2.length))),(40,.s (.one (Ii6 (v4.length:Int)))),(41,.s (.one (Ii6 g.2.1)))]) (fun g=>[.box (EL.el a0),.box (EL.el a2),.box [Znl,Znl],.box [.sl v3.1.L.length (v3.1.L.flatMap Ar)],.arr 139 8 0 (g.2.2.flatMap Bb)]) (fun g=>Lj (Fi a2 v2 v4) g.1 g.2=some x6) (fun g=>g.1) (fuel,(0,v4)) hx6 ⟨R,R,R,R,R,R,R,R,trivial⟩ [] R (fun _=>R) ?_
     clear hx6 h
     rintro ⟨n6,s6⟩ h
     obtain ⟨n6,y6,rfl,h,hk6⟩:=Es h
     unfold Fi at h
     refine csr (sv R (Bt R R) (Ak (Bl (ccI h R (fun h=>?_) (fun h=>?_)))))
     ·refine Bf (Ab (Bl (Bq (csr (sv R (A4 R) ?_)))))
      obtain ⟨u7,hu7,h⟩:=Ae h
      refine sv R (Et (f:=Bb) Qm (fun _=>R) R R R R R hu7) ?_
      refine sv R (Ov (f:=Bb) (sz:=8) 0 Ju (fun _=>R) R R R R (Gq hu7).2 (Nbl R) R) ?_
      refine Bp R Tj (rm 1 R (sst Tb R R R R R (Ak (Bl (Bl (cj3 (Unit) (fun b8=>[(5,.s (.one (.lp 1 0))),(6,.s (.one (.lp 2 0))),(8,.s (.one (Ii6 v2))),(9,.s (.one (.lp 3 0))),(11,.s (.one (.ls 4 s6.2.length))),(12,.s (.one (Ii6 s6.1))),(39,.s (.one (.ls 4 s6.2.length))),(40,.s (.one (Ii6 (v4.length:Int)))),(41,.s (.one (Ii6 s6.1)))]) (fun b8=>[.box (EL.el a0),.box (EL.el a2),.box [Znl,Znl],.box [.sl v3.1.L.length (v3.1.L.flatMap Ar)],.arr 139 8 0 (s6.2.flatMap Bb),.box (EL.el u7)]) (fun b8=>Nx v2 s6 b8=some y6) (fun _=>R) (fun b8 h=>?_) ?_))))))
      ·unfold Nx at h
       refine Bl (Aq ?_)
       obtain ⟨v9,hv9,h⟩:=Ae h
       refine Ie (x':=.s (.agg [.raw (.func (.func 252) #[] #[]),.raw (.func (.func 253) #[] #[])])) (M':=[.box (EL.el a0),.box (EL.el a2),.box [Znl,Znl],.box [.sl v3.1.L.length (v3.1.L.flatMap Ar)],.arr 139 8 0 (s6.2.flatMap Bb),.box (EL.el u7)]) [] R Aun (.func _) Af (Qu hv9) R R (by decide) R R R ?_
       refine rm 2 R (sv R (A4 R) ?_)
       obtain ⟨v10,hv10,h⟩:=Ae h
       refine Ie (x':=.tup []) (M':=[.box (EL.el a0),.box (EL.el a2),.box [Znl,Znl],.box [.sl v3.1.L.length (v3.1.L.flatMap Ar)],.arr 139 8 0 (v10.flatMap Bb),.box (EL.el u7)]) [4] R Av3 (.func _) (Aa R (Aa R (Aa R (Aa R Af)))) (Pq hv10) R R (by decide) R R R ?_
       obtain ⟨hl11,h⟩:=Cp h
       refine Mx 11 (y:=.s (.one (.ls 4 s6.2.length))) (.s (.one (.ls 4 v10.length))) R (congrArg (fun n=>AV.s (.one (.ls 4 n))) hl11.symm) ?_
       refine Mx 39 (y:=.s (.one (.ls 4 s6.2.length))) (.s (.one (.ls 4 v10.length))) R (congrArg (fun n=>AV.s (.one (.ls 4 n))) hl11.symm) ?_
       refine Mx 65 (y:=.s (.one (.ls 4 s6.2.length))) (.s (.one (.ls 4 v10.length))) R (congrArg (fun n=>AV.s (.one (.ls 4 n))) hl11.symm) ?_
       refine Ak (csr (rm 1 R (sv R (A4 R) ?_)))
       obtain ⟨u12,hu12,h⟩:=Ae h
       refine sv R (Et (f:=Bb) Qm (fun _=>R) R R R R R hu12) ?_
       refine sv R (Ov (f:=Bb) (sz:=8) 0 Ju (fun _=>R) R R R R (Gq hu12).2 (Nbl R) R) ?_
       obtain ⟨v13,hv13,h⟩:=Ae h
       refine Ba R Aso (Aa R Af) (An R) (P4 hv13) (Ak (ccI h R (fun h=>?_) (fun h=>?_)))
       ·refine csr (sv R (A6 Ya Adx A1 (.nil _)) (sst Xu R R R R R (rm 1 R (Ak (Bs (Az (Ag (Ag (Az (Ag ?_))))))))))
        obtain rfl:=SJ h
        obtain rfl:Sum.inl _=x6:=hk6
        replace ho6:some _=some _:=ho6
        obtain rfl:=zD ho6
        exact dn (Ad (ra Qq R R R) (Ad (rt R) Ai)) (Ip R) R
       ·refine Bf (Ap (Ab (Aq (sv R (Bo R R) (rm 1 R (Ak ?_))))))
        obtain rfl:=SJ h
        exact ⟨(n6,((wI (s6.1+1)),v10)),_,hk6,⟨R,R,R,R,R,R,R,R,trivial⟩,R,zG _⟩
      ·skip
       refine Z3 mixed (by kernel_rfl) ?_
       refine dv R (Ac Pj R) (dv R (l1 ti3 R R R) (dv R (Db R R) (dv R (A4 R) (Tz 49 R (fun hc=>?_) (fun hc=>?_)))))
       ·replace h:=Su hc h
        clear hc
        refine G7 R R R R (G7 R R R R (G7 R R R R (G7 R R R R (G7 R R R R (G7 R R R R (G7 R R R R (dv R (Er R R) (dv R (A4 R) (G7 R R R R (G7 R R R R (G7 R R R R (G7 R R R R (dv R (Er R R) (Zq (Ab (Ci R (fun _=>?_) (fun hx=>Bool.noConfusion hx)))))))))))))))))
        refine Da (As (Bj (Ab (Aq (sv R (Bo R R) (rm 1 R (Ak ?_)))))))
        obtain rfl:=SJ h
        exact ⟨(n6,((wI (s6.1+1)),s6.2)),_,hk6,⟨R,R,R,R,R,R,R,R,trivial⟩,R,zG _⟩
       ·replace h:=S6 hc h
        clear hc
        refine dvg R R R (lo Ju R R R) (dvg R R R (A4 R) (dvg R R R (A4 R) ?_))
        obtain ⟨u14,hu14,h⟩:=Ae h
        refine dvg R R R (Et (f:=Bb) Qm (fun _=>R) R R R R R hu14) ?_
        refine dvg R R R (Ov (f:=Bb) (sz:=8) 0 Ju (fun _=>R) R R R R (Gq hu14).2 (Nbl R) R) ?_
        obtain ⟨v15,hv15,h⟩:=Ae h
        refine ddg R R R (Cy As2 (Aa R (Aa R Af)) R (O9 hv15)) (dvg R R R (B0 R) (dv R (Hq R R) (dv R (A4 R) (Tz 58 R (fun hc=>?_) (fun hc=>?_)))))
        ·replace h:=Su hc h
         clear hc
         refine G7 R R R R (G7 R R R R (G7 R R R R (G7 R R R R (dv R (Er R R) (Zq (Ab (Ci R (fun _=>?_) (fun hx=>Bool.noConfusion hx))))))))
         refine Da (As (Bj (Ab (Aq (sv R (Bo R R) (rm 1 R (Ak ?_)))))))
         obtain rfl:=SJ h
         exact ⟨(n6,((wI (s6.1+1)),s6.2)),_,hk6,⟨R,R,R,R,R,R,R,R,trivial⟩,R,zG _⟩
        ·replace h:=S6 hc h
         clear hc
         refine dvg R R R (lo Ju R R R) (dvg R R R (lo Ada R R R) ?_)
         obtain ⟨v16,hv16,h⟩:=Ae h
         refine ddg R R R (Cy Azf (Aa R (Aa R Af)) R (Wo hv16)) (dvg R R R (B0 R) (dv R (Hq R R) (Zq (Ab (ccI h R (fun h=>?_) (fun h=>?_))))))
         ·refine Da (As (Bj (Ab (Aq (sv R (Bo R R) (rm 1 R (Ak ?_)))))))
          obtain rfl:=SJ h
          exact ⟨(n6,((wI (s6.1+1)),s6.2)),_,hk6,⟨R,R,R,R,R,R,R,R,trivial⟩,R,zG _⟩
         ·refine Bf (Ab ?_)
          exact ⟨(),_,h,⟨R,R,R,R,R,R,R,R,R,trivial⟩,R⟩
     ·refine Da (As (As (Bj (Ab ?_))))
      obtain rfl:=SJ h
      obtain rfl:_=x6:=hk6
      exact ⟨s6.2,_,ho6,⟨R,R,R,trivial⟩,R⟩
def K0 (a0:Ah) (a1:Be) (a2:Bg):Option (Ah × Int) :=
 (F6 a0.Cert a1.ID a2).bind fun v1=>if (!decide (v1.2=0)) then ((Cv a0 a1).bind fun v2=>some (v2,v1.2)) else (some ({a0 with Cert:=v1.1},0))
theorem Vk {a0:Ah} {a1:Be} {a2:Bg} {r:Ah × Int} (h:K0 a0 a1 a2=some r):Br Tryz.prog 64 [.agg (EL.el a0),.agg (EL.el a1),.agg (EL.el a2)] (·=.tup [.agg (EL.el r.1),.one (Ii6 r.2)]):=by
 unfold K0 at h
 refine A5 Tryz.func64 R (nt:=28) R (Nbl R) ?_
 intro w0 S0
 refine csr (F4 R R (F4 R R (F4 R R (Bp R Qw (rm 1 R (Ak (csr (sv R (Ac Uc R) (ld Qq R R R R (fl R9 ti3 R R R R R R (sv R (lo Ada R R R) ?_)))))))))))
 obtain ⟨v1,hv1,h⟩:=Ae h
 refine Ba R Ayu (Aa R (Aa R (Aa R Af))) (An R) (Z6 hv1) (sv R (Ca R) (sv R (Aj R R) (sv R (Aj R R) (Bp R Ya (sst Xu R R R R R (rm 1 R (Ak (Bl (csr (rm 1 R (sv R (Db R R) (Ak (ccI h R (fun h=>?_) (fun h=>?_))))))))))))))
 ·refine csr (ld Dd R R R R (sv R (lo X9 R R R) ?_))
  obtain ⟨v2,hv2,h⟩:=Ae h
  refine Ba R Aud (Aa R (Aa R Af)) (An R) (Ih hv2) (rm 1 R (sst Jn R R R R R (rm 1 R (Ak (Bs (Ag ?_))))))
  obtain rfl:=SJ h
  exact dn (Ad (ra Dd R R R) (Ad (rt R) Ai)) (An R) R
 ·refine Bf (Ab (csr (ld Qq R R R R (sv R (Ac Uc R) (sst Xu R R R R R (Ak (csr (ld Dd R R R R (sst Jn R R R R R (rm 1 R (Ak (Bs ?_))))))))))))
  obtain rfl:=SJ h
  exact dn (Ad (ra Dd R R R) (Ad (rt R) Ai)) (An R) R
def D2 (a0:List UInt8) (a1:List UInt8):Option Bool :=
 (I4 a1 a0).bind fun v1=>some (decide (0≤v1))
theorem N6 {a0:List UInt8} {a1:List UInt8} {r:Bool} (h:D2 a0 a1=some r):Br Tryz.prog 148 [.one (.sl a0.length (a0.flatMap eU8)),.one (.sl a1.length (a1.flatMap eU8))] (·=.s (.one (.b r))):=by
 unfold D2 at h
 refine A5 Tryz.func148 R (nt:=9) R (Nbl R) ?_
 intro w0 S0
 refine csr (rm 1 R (Ak (csr (rm 1 R (sv R (A4 R) ?_)))))
 obtain ⟨v1,hv1,h⟩:=Ae h
 refine Ba R Al1 (Aa R (Aa R Af)) (An R) (Ml hv1) (sv R (Hz R R) (rm 1 R (Ak (Bs ?_))))
 obtain rfl:=SJ h
 exact dnT R R R R
def F5 (b1:Unit):Option Int :=
 some (-1)
def Eb (a0:List (List UInt8)) (a1:List UInt8) (s2:Int):Option (LR (Int) (Unit) (Int)) :=
 if (decide (s2<(a0.length:Int))) then ((idx a0 s2).bind fun u3=>(D2 a1 u3).bind fun v4=>if v4 then (some (.ret s2)) else (some (.cont (wI (s2+1))))) else (some (.brk ()))
def H7 (a0:List (List UInt8)) (a1:List UInt8):Option Int :=
 (Lj (Eb a0 a1) fuel 0).bind fun x=>match x with | .inl r=>some r | .inr e5=>F5 e5
theorem R7 {a0:List (List UInt8)} {a1:List UInt8} {r:Int} (h:H7 a0 a1=some r):Br Tryz.prog 147 [.one (.sl a0.length (a0.flatMap (eL eU8))),.one (.fn 148 [.sl a1.length (a1.flatMap eU8)] [])] (·=.s (.one (Ii6 r))):=by
 unfold H7 at h
 refine A5 Tryz.func147 R (nt:=19) R (Nbl R) ?_
 intro w0 S0
 refine csr (rm 1 R (Ak (Bl (csr (rm 1 R (sv R (Aw S7 R) (rm 1 R (Ak (cj (Unit) (fun b1=>[]) (fun b1=>[]) (fun b1=>F5 b1=some r) (fun _=>R) (fun b1 h=>?_) ?_)))))))))
 ·unfold F5 at h
  refine csr (rm 1 R (Ak (Bs ?_)))
  obtain rfl:=SJ h
  exact dnT R R R R
 ·skip
  refine Bq ?_
  obtain ⟨x2,hx2,ho2⟩:=Ae h
  refine lpo (G:=Nat × (Int)) (fun g=>[(0,.s (.one (.sl a0.length (a0.flatMap (eL eU8))))),(1,.s (.one (.fn 148 [.sl a1.length (a1.flatMap eU8)] []))),(7,.s (.one (Ii6 (a0.length:Int)))),(8,.s (.one (Ii6 g.2)))]) (fun g=>[]) (fun g=>Lj (Eb a0 a1) g.1 g.2=some x2) (fun g=>g.1) (fuel,0) hx2 ⟨R,R,R,R,trivial⟩ [] R (fun _=>R) ?_
  clear hx2 h
  rintro ⟨n2,s2⟩ h
  obtain ⟨n2,y2,rfl,h,hk2⟩:=Es h
  unfold Eb at h
  refine csr (sv R (Bt R R) (Ak (Bl (ccI h R (fun h=>?_) (fun h=>?_)))))
  ·refine Bf (Ab (Bl (Bq (csr (rm 2 R (Ak (csr (rm 2 R (sv R (A4 R) ?_)))))))))
   obtain ⟨u3,hu3,h⟩:=Ae h
   refine sv R (B8 (f:=(eL eU8)) S7 (fun _=>R) R R R R hu3) ?_
   refine sv R (B6 Mz R (.cp _) R) ?_
   obtain ⟨v4,hv4,h⟩:=Ae h
   refine sd R (T3 Awg (.fn _ _ _ _ R) (Aa R Af) R (N6 hv4)) (Ak (ccI h R (fun h=>?_) (fun h=>?_)))
   ·refine csr (rm 2 R (Ak (Bs (Az (Ag (Ag (Az (Ag ?_))))))))
    obtain rfl:=SJ h
    obtain rfl:Sum.inl _=x2:=hk2
    replace ho2:some _=some _:=ho2
    obtain rfl:=zD ho2
    exact dnT R R R R
   ·refine Bf (Ap (Ab (Aq (sv R (Bo R R) (rm 1 R (Ak ?_))))))
    obtain rfl:=SJ h
    exact ⟨(n2,(wI (s2+1))),_,hk2,⟨R,R,R,R,trivial⟩,R,zG _⟩
  ·refine Da (As (As (Bj (Ab ?_))))
   obtain rfl:=SJ h
   obtain rfl:_=x2:=hk2
   exact ⟨(),_,ho2,trivial,R⟩
def K5 (a0:List (List UInt8)) (a1:List UInt8):Option (Int × Bool) :=
 (H7 a0 a1).bind fun v1=>if (decide (v1<0)) then (some ((a0.length:Int),false)) else ((idx a0 v1).bind fun u2=>(Fl u2 a1).bind fun v3=>some (v1,v3))
theorem Q8 {a0:List (List UInt8)} {a1:List UInt8} {r:Int × Bool} (h:K5 a0 a1=some r):Br Tryz.prog 69 [.one (.sl a0.length (a0.flatMap (eL eU8))),.one (.sl a1.length (a1.flatMap eU8))] (·=.tup [.one (Ii6 r.1),.one (.b r.2)]):=by
 unfold K5 at h
 refine A5 Tryz.func69 R (nt:=22) R (Nbl R) ?_
 intro w0 S0
 refine csr (rm 2 R (Ak (csr (rm 2 R (sv R (T9 (V4 R R Qp) Qp) ?_)))))
 obtain ⟨v1,hv1,h⟩:=Ae h
 refine sd R (T3 Auy (.func _) (Aa R (Aa R Af)) R (R7 hv1)) (rm 1 R (Ak (Bl (csr (rm 1 R (sv R (Bt R R) (Ak (ccI h R (fun h=>?_) (fun h=>?_)))))))))
 ·refine csr (rm 1 R (sv R (Aw S7 R) (rm 2 R (Ak (Bs (Ag ?_))))))
  obtain rfl:=SJ h
  exact dn (Ad (rt R) (Ad (rt R) Ai)) (An R) R
 ·refine Bf (Ab (csr (rm 2 R (sv R (A4 R) ?_))))
  obtain ⟨u2,hu2,h⟩:=Ae h
  refine sv R (B8 (f:=(eL eU8)) S7 (fun _=>R) R R R R hu2) ?_
  refine sv R (B6 Mz R (.cp _) R) (sv R (A4 R) ?_)
  obtain ⟨v3,hv3,h⟩:=Ae h
  refine Ba R Ata (Aa R (Aa R Af)) (An R) (Oe hv3) (rm 2 R (Ak (Bs ?_)))
  obtain rfl:=SJ h
  exact dn (Ad (rt R) (Ad (rt R) Ai)) (An R) R
def I0 (a1:Int) (s1:Int) (x1:Int × A0):Option ((Int) ⊕ (Nat × (Int))) :=
 if (decide (x1.2.Ts≤a1)) then (some (.inr (0,x1.1))) else (some (.inl s1))
def Ly (s2:Int):Option Int :=
 some (-1)
def L8 (s3:Int):Option Int :=
 some s3
def Ky (a0:Al) (a1:Int):Option Int :=
 (Akg a0).bind fun L1=>(Rp (I0 a1) L1 0).bind fun e=>Ae0 Ly L8 (fun _ _=>none) e
theorem Sc {a0:Al} {a1:Int} {r:Int} (h:Ky a0 a1=some r):Br Tryz.prog 218 [.agg [.sl a0.L.length (a0.L.flatMap A9)],.one (Ii6 a1)] (·=.s (.one (Ii6 r))):=by
 unfold Ky at h
 refine Xk Tryz.func218 R (nt:=16) R (Nbl R) ?_
 intro w0 S0
 refine Aaz (Jo R (fun w0 S0 X0 m0 H0=>?_))
 refine Anw R R R (Anw R R R (Bp R zi3 (Ak (Aaz (Aaz (Jo R (fun w0 S0 X0 m0 H0=>?_)))))))
 refine sv R (Bz (ys:=[.sl a0.L.length (a0.L.flatMap A9)]) O5 R (.cp _) R R) (Ba R Atc (Aa R Af) (An R) Mt (Ak (Abr ?_)))
 obtain ⟨L1,hL1,h⟩:=Ae h
 obtain ⟨e1,he1,h⟩:=Ae h
 refine Ag9 (I0 a1) L1 (fun x1=>.one (Ii6 x1.1)) (fun x1=>.agg (EL.el x1.2)) (fun s1=>[.box [Ii6 s1]]) 0 he1 R At0 R (Agk hL1) R R R (fun _=>R) (fun _=>Rz R) ?_ ?_ ?_ ?_
 ·clear h
  intro x1 s1 y1 l h w0 S0 X0 H0
  unfold I0 at h
  refine Aaz (Jo R (fun w0 S0 X0 m0 H0=>?_))
  refine rm 1 R (Ak (Jo R (fun w0 S0 X0 m0 H0=>?_)))
  refine Bp R Ahf (sst Ajm R R R R R (Ak (fun w0 S0 X0 H0=>?_)))
  refine Abr (Aaz (Jo R (fun w0 S0 X0 m0 H0=>?_)))
  refine fl Vw ti3 R R R R R R (sv R (B6 ti3 R (.cp _) R) (sv R (De R R) (Ak (As4 R (fun hc=>?_) (fun hc=>?_)))))
  ·replace h:=Su hc h
   clear hc
   refine Aaz (Jo R (fun w0 S0 X0 m0 H0=>?_))
   refine rm 1 R (sst sz3 R R R R R (Ak (Atp (Az ?_))))
   obtain rfl:=SJ h
   exact ⟨x1.1,_,R,R⟩
  ·replace h:=S6 hc h
   clear hc
   refine Aw4 (Ap ?_)
   obtain rfl:=SJ h
   exact ⟨s1,_,R,R⟩
 ·intro s2 hs
  obtain rfl:=hs
  replace h:Ly s2=some r:=h
  unfold Ly at h
  refine Ap (Ab (Aaz (Jo R (fun w0 S0 X0 m0 H0=>?_))))
  refine sst sz3 R R R R R (Ak (Atp ?_))
  obtain rfl:=SJ h
  exact dn (Ad (Ai6.one _ _ _ _ _ ti3 R (.lp _ _ _ R) R) Ai) (An R) R
 ·intro s3 hs
  obtain rfl:=hs
  replace h:L8 s3=some r:=h
  unfold L8 at h
  refine Az (Ag ?_)
  obtain rfl:=SJ h
  exact dn (Ad (Ai6.one _ _ _ _ _ ti3 R (.lp _ _ _ R) R) Ai) (An R) R
 ·intro id s hs
  obtain rfl:=hs
  replace h:none=some r:=h
  cases h
def Ev (a0:Al) (a1:Int):Option (A0 × Bool) :=
 (Ky a0 a1).bind fun v1=>if (decide (v1<0)) then (some ((A0.mk 0 ([]:List UInt8) false),false)) else ((idx a0.L v1).bind fun u2=>some (u2,true))
theorem Zu {a0:Al} {a1:Int} {r:A0 × Bool} (h:Ev a0 a1=some r):Br Tryz.prog 149 [.agg [.sl a0.L.length (a0.L.flatMap A9)],.one (Ii6 a1)] (·=.tup [.agg (EL.el r.1),.one (.b r.2)]):=by
 unfold Ev at h
 refine A5 Tryz.func149 R (nt:=18) R (Nbl R) ?_
 intro w0 S0
 refine csr (F4 R R (Bp R Ahf (rm 1 R (Ak (csr (ld O5 R R R R (sv R (A4 R) ?_)))))))
 obtain ⟨v1,hv1,h⟩:=Ae h
 refine Ba R Av0 (Aa R (Aa R Af)) (An R) (Sc hv1) (rm 1 R (Ak (Bl (csr (rm 1 R (sv R (Bt R R) (Ak (ccI h R (fun h=>?_) (fun h=>?_)))))))))
 ·refine csr (sv R (A6 Ahf Au7 A1 (.nil _)) (sst Ajm R R R R R (rm 1 R (Ak (Bs (Ag ?_))))))
  obtain rfl:=SJ h
  exact dn (Ad (ra Agy R R R) (Ad (rt R) Ai)) (Ip R) R
 ·refine Bf (Ab (csr (fl Tu Aa5 R R R R R R (sv R (A4 R) ?_))))
  obtain ⟨u2,hu2,h⟩:=Ae h
  refine sv R (B8 (f:=A9) Ws (fun _=>R) R R R R hu2) ?_
  refine sv R (Bz (ys:=[Ii6 u2.Ts,.sl u2.Val.length (u2.Val.flatMap eU8),.b u2.Del]) Agy R (.cp _) R R) (sst Ajm R R R R R (rm 1 R (Ak (Bs ?_))))
  obtain rfl:=SJ h
  exact dn (Ad (ra Agy R R R) (Ad (rt R) Ai)) (An R) R
def L5 (v1:A0 × Bool) (b2:Unit):Option ((List UInt8) × Bool) :=
 some (v1.1.Val,true)
def Ew (a0:Al) (a1:Int):Option ((List UInt8) × Bool) :=
 (Ev a0 a1).bind fun v1=>if (!v1.2) then (some (([]:List UInt8),false)) else (if v1.1.Del then (some (([]:List UInt8),false)) else (L5 v1 ()))
theorem Sg {a0:Al} {a1:Int} {r:(List UInt8) × Bool} (h:Ew a0 a1=some r):Br Tryz.prog 70 [.agg [.sl a0.L.length (a0.L.flatMap A9)],.one (Ii6 a1)] (·=.tup [.one (.sl r.1.length (r.1.flatMap eU8)),.one (.b r.2)]):=by
 unfold Ew at h
 refine A5 Tryz.func70 R (nt:=22) R (Nbl R) ?_
 intro w0 S0
 refine csr (F4 R R (rm 2 R (Ak (csr (ld O5 R R R R (sv R (A4 R) ?_))))))
 obtain ⟨v1,hv1,h⟩:=Ae h
 refine Ba R Axs (Aa R (Aa R Af)) (An R) (Zu hv1) (sv R (Ca R) (sv R (Aj R R) (sv R (Aj R R) (Bp R Ahf (sst Ajm R R R R R (rm 1 R (Ak (Bl (Bl (cj3 (Unit) (fun b2=>[(6,.s (.one (.lp 1 0)))]) (fun b2=>[.box [.sl a0.L.length (a0.L.flatMap A9)],.box (EL.el v1.1)]) (fun b2=>L5 v1 b2=some r) (fun _=>R) (fun b2 h=>?_) ?_))))))))))
 ·unfold L5 at h
  refine csr (fl Agj Mz R R R R R R (rm 2 R (Ak (Bs ?_))))
  obtain rfl:=SJ h
  exact dn (Ad (rt R) (Ad (rt R) Ai)) (An R) R
 ·skip
  refine Aq (rm 1 R (sv R (B0 R) (rm 1 R (ssI 16 h R (fun h=>?_) (fun h=>?_)))))
  ·refine rm 3 R (Ak (Ci R (fun _=>?_) (fun hx=>Bool.noConfusion hx)))
   refine csr (rm 2 R (Ak (Bs (Ag ?_))))
   obtain rfl:=SJ h
   exact dn (Ad (rt R) (Ad (rt R) Ai)) (Ip R) R
  ·refine son R R R (sv R (Ac Agh R) (son R R R (sv R (l1 ti4 R R R) (rm 1 R (Ak (ccI h R (fun h=>?_) (fun h=>?_)))))))
   ·refine csr (rm 2 R (Ak (Bs (Ag ?_))))
    obtain rfl:=SJ h
    exact dn (Ad (rt R) (Ad (rt R) Ai)) (Ip R) R
   ·refine Bf (Ab ?_)
    exact ⟨(),_,h,⟨R,trivial⟩,R⟩
def Ny (a0:Bu) (a2:Int) (v1:Int × Bool) (b2:Unit):Option ((List UInt8) × Bool) :=
 (idx a0.Chains v1.1).bind fun u3=>(Ew u3 a2).bind fun v4=>some (v4.1,v4.2)
def Ez (a0:Bu) (a1:List UInt8) (a2:Int):Option ((List UInt8) × Bool) :=
 (K5 a0.Keys a1).bind fun v1=>if (!v1.2) then (some (([]:List UInt8),false)) else ((C7 a0).bind fun v5=>if (!v5) then (some (([]:List UInt8),false)) else (Ny a0 a2 v1 ()))
theorem Uj {a0:Bu} {a1:List UInt8} {a2:Int} {r:(List UInt8) × Bool} (h:Ez a0 a1 a2=some r):Br Tryz.prog 28 [.agg (EL.el a0),.one (.sl a1.length (a1.flatMap eU8)),.one (Ii6 a2)] (·=.tup [.one (.sl r.1.length (r.1.flatMap eU8)),.one (.b r.2)]):=by
 unfold Ez at h
 refine A5 Tryz.func28 R (nt:=33) R (Nbl R) ?_
 intro w0 S0
 refine csr (F4 R R (rm 2 R (Ak (csr (fl Qz Abe R R R R R R (sv R (A4 R) ?_))))))
 obtain ⟨v1,hv1,h⟩:=Ae h
 refine Ba R Axl (Aa R (Aa R Af)) (An R) (Q8 hv1) (sv R (Ca R) (sv R (Aj R R) (sv R (Aj R R) (rm 2 R (Ak (Bl (Bl (cj3 (Unit) (fun b2=>[(2,.s (.one (Ii6 a2))),(3,.s (.one (.lp 0 0))),(8,.s (.one (Ii6 v1.1)))]) (fun b2=>[.box (EL.el a0)]) (fun b2=>Ny a0 a2 v1 b2=some r) (fun _=>R) (fun b2 h=>?_) ?_))))))))
 ·unfold Ny at h
  refine csr (fl Qs Akc R R R R R R (sv R (A4 R) ?_))
  obtain ⟨u3,hu3,h⟩:=Ae h
  refine sv R (B8 (f:=Ay) Aov (fun _=>R) R R R R hu3) ?_
  refine sv R (Bz (ys:=[.sl u3.L.length (u3.L.flatMap A9)]) O5 R (.cp _) R R) (sv R (A4 R) ?_)
  obtain ⟨v4,hv4,h⟩:=Ae h
  refine Ba R A0f (Aa R (Aa R Af)) (An R) (Sg hv4) (sv R (Aj R R) (sv R (Aj R R) (rm 2 R (Ak (Bs ?_)))))
  obtain rfl:=SJ h
  exact dn (Ad (rt R) (Ad (rt R) Ai)) (An R) R
 ·skip
  refine Aq (rm 1 R (sv R (B0 R) (rm 1 R (ssI 19 h R (fun h=>?_) (fun h=>?_)))))
  ·refine rm 4 R (Ak (Ci R (fun _=>?_) (fun hx=>Bool.noConfusion hx)))
   refine csr (rm 2 R (Ak (Bs (Ag ?_))))
   obtain rfl:=SJ h
   exact dn (Ad (rt R) (Ad (rt R) Ai)) (Ip R) R
  ·refine son R R R (ld Vs R R R R (son R R R ?_))
   obtain ⟨v5,hv5,h⟩:=Ae h
   refine Ba R Avu (Aa R Af) (An R) (Lq hv5) (son R R R (sv R (B0 R) (rm 1 R (Ak (ccI h R (fun h=>?_) (fun h=>?_))))))
   ·refine csr (rm 2 R (Ak (Bs (Ag ?_))))
    obtain rfl:=SJ h
    exact dn (Ad (rt R) (Ad (rt R) Ai)) (Ip R) R
   ·refine Bf (Ab ?_)
    exact ⟨(),_,h,⟨R,R,R,trivial⟩,R⟩
def N2 (a0:Ah) (a1:Int) (a2:List UInt8):Option (Ah × (List UInt8) × Bool × Int) :=
 (Hg a0 a1).bind fun v1=>if (!decide (v1.2=0)) then ((Dk a0 v1.2).bind fun v2=>some (v2,([]:List UInt8),false,v1.2)) else ((E1 a2).bind fun v3=>if (!v3) then (some (a0,([]:List UInt8),false,1)) else ((Nu v1.1.Buf a2).bind fun v4=>if v4.2 then (some (a0,v4.1.Val,(!v4.1.Del),0)) else ((Py a2).bind fun v5=>(K0 a0 v1.1 v5).bind fun v6=>if (!decide (v6.2=0)) then (some (v6.1,([]:List UInt8),false,v6.2)) else ((Ez v6.1.Store a2 v1.1.Snap).bind fun v7=>some (v6.1,v7.1,v7.2,0)))))
theorem Sx {a0:Ah} {a1:Int} {a2:List UInt8} {r:Ah × (List UInt8) × Bool × Int} (h:N2 a0 a1 a2=some r):Br Tryz.prog 24 [.agg (EL.el a0),.one (Ii6 a1),.one (.sl a2.length (a2.flatMap eU8))] (·=.tup [.agg (EL.el r.1),.one (.sl r.2.1.length (r.2.1.flatMap eU8)),.one (.b r.2.2.1),.one (Ii6 r.2.2.2)]):=by
 unfold N2 at h
 refine A5 Tryz.func24 R (nt:=70) R (Nbl R) ?_
 intro w0 S0
 refine csr (F4 R R (Bp R Qw (rm 3 R (Ak (csr (ld Dd R R R R (sv R (A4 R) ?_)))))))
 obtain ⟨v1,hv1,h⟩:=Ae h
 refine Ba R Awl (Aa R (Aa R Af)) (An R) (Nq hv1) (sv R (Ca R) (sv R (Aj R R) (sv R (Aj R R) (Bp R Ab1 (sst Ab7 R R R R R (rm 1 R (Ak (Bl (csr (rm 1 R (sv R (Db R R) (Ak (ccI h R (fun h=>?_) (fun h=>?_))))))))))))))
 ·refine csr (ld Dd R R R R (sv R (A4 R) ?_))
  obtain ⟨v2,hv2,h⟩:=Ae h
  refine Ba R Atb (Aa R (Aa R Af)) (An R) (Jr hv2) (rm 1 R (sst Jn R R R R R (rm 3 R (Ak (Bs (Ag ?_))))))
  obtain rfl:=SJ h
  exact dn (Ad (ra Dd R R R) (Ad (rt R) (Ad (rt R) (Ad (rt R) Ai)))) (Ip R) R
 ·refine Bf (Ab (Bl (csr (sv R (A4 R) ?_))))
  obtain ⟨v3,hv3,h⟩:=Ae h
  refine Ba R Aw9 (Aa R Af) (An R) (N9 hv3) (sv R (B0 R) (Ak (ccI h R (fun h=>?_) (fun h=>?_))))
  ·refine csr (ld Dd R R R R (sst Jn R R R R R (rm 3 R (Ak (Bs (Ag ?_))))))
   obtain rfl:=SJ h
   exact dn (Ad (ra Dd R R R) (Ad (rt R) (Ad (rt R) (Ad (rt R) Ai)))) (Ip R) R
  ·refine Bf (Ab (Bl (csr (sv R (Ac Yq R) (ld Ag4 R R R R (sv R (A4 R) ?_))))))
   obtain ⟨v4,hv4,h⟩:=Ae h
   refine Ba R A05 (Aa R (Aa R Af)) (An R) (Yt hv4) (sv R (Ca R) (sv R (Aj R R) (sv R (Aj R R) (Bp R Ajk (sst Al2 R R R R R (rm 1 R (Ak (csr (rm 1 R (Ak (ccI h R (fun h=>?_) (fun h=>?_))))))))))))
   ·refine Bl ?_
    refine Ig [6] [0,0,2,0,8,24,1,71,255,511] [[.box (EL.el a0),.box Zba,.box (EL.el v1.1),.box (EL.el v4.1)],[.box (EL.el a0),.box (EL.el a0),.box (EL.el v1.1),.box (EL.el v4.1)]] (by kernel_rfl) mixed (by kernel_rfl) (by decide) R R R R ?_
    refine evs (md:=[.box (EL.el a0),.dead,.box (EL.el v1.1),.box (EL.el v4.1)]) (fun hS=>ev (A7 0 R R) R R (lo Dd R R R) (ev (B5 hS) R R (Ac Xa R) (ev (B5 hS) R R (l1 Mz R R R) (ev (B5 hS) R R (Ac Abn R) (ev (B5 hS) R R (l1 ti4 R R R) (ev (B5 hS) R R (B0 R) (ee0 0 R R R R (fun ζ=>?_) ?_))))))) ⟨⟨R,⟨trivial,⟨R,⟨R,trivial⟩⟩⟩⟩,⟨⟨R,⟨trivial,⟨R,⟨R,trivial⟩⟩⟩⟩,trivial⟩⟩
    ·refine sst Jn R R R R R (Pz [.box (EL.el a0),.box (EL.el a0),.box (EL.el v1.1),.box (EL.el v4.1)] R ?_)
     exact Sv
    refine ev (A7 1 R R) R R (Iu R) (ev (A7 1 R R) R R (Iu R) (ev (A7 1 R R) R R (Iu R) (Aas (Ab (Bs (Ag ?_))))))
    obtain rfl:=SJ h
    exact dn (Ad (ra Dd R R R) (Ad (rt R) (Ad (rt R) (Ad (rt R) Ai)))) (An R) R
   ·refine Bf (Ab (Bl ?_))
    obtain ⟨v5,hv5,h⟩:=Ae h
    obtain ⟨v6,hv6,h⟩:=Ae h
    refine Ig [8] [0,0,0,4,15,31,63,63,127,511] [[.box (EL.el a0),.box Zba,.box (EL.el v1.1),.box (EL.el v4.1)],[.box (EL.el v6.1),.box Zba,.box (EL.el v1.1),.box (EL.el v4.1)]] (by kernel_rfl) mixed (by kernel_rfl) (by decide) R R R R ?_
    refine ev (A7 0 R R) R R (lo Dd R R R) (ev (A7 0 R R) R R (lo X9 R R R) (ev (A7 0 R R) R R (A4 R) (ed (A7 0 R R) R R (Cy A1o (Aa R Af) R (Aat hv5)) (ed (A7 0 R R) R R (Cy A0k (Aa R (Aa R (Aa R Af))) R (Vk hv6)) (ev (A7 0 R R) R R (Ca R) (ev (A7 0 R R) R R (Aj R R) (ev (B5 (md:=[.dead,.box Zba,.box (EL.el v1.1),.box (EL.el v4.1)]) ⟨⟨trivial,⟨R,⟨R,⟨R,trivial⟩⟩⟩⟩,⟨⟨trivial,⟨R,⟨R,⟨R,trivial⟩⟩⟩⟩,trivial⟩⟩) R R (Aj R R) (ee0 0 R R R R (fun ζ=>?_) ?_))))))))
    ·refine sst Jn R R R R R (Pz [.box (EL.el v6.1),.box Zba,.box (EL.el v1.1),.box (EL.el v4.1)] R ?_)
     exact Sv
    refine ev (A7 1 R R) R R (Iu R) (Aas (Ab (Bl (csr (rm 1 R (sv R (Db R R) (Ak (ccI h R (fun h=>?_) (fun h=>?_)))))))))
    ·refine csr (ld Dd R R R R (rm 1 R (sst Jn R R R R R (rm 3 R (Ak (Bs (Ag ?_)))))))
     obtain rfl:=SJ h
     exact dn (Ad (ra Dd R R R) (Ad (rt R) (Ad (rt R) (Ad (rt R) Ai)))) (Ip R) R
    ·refine Bf (Ab (csr (sv R (Ac Pr R) (ld Vs R R R R (rm 1 R (sv R (Ac Aiv R) (sv R (l1 ti3 R R R) ?_)))))))
     obtain ⟨v7,hv7,h⟩:=Ae h
     refine Ba R A0c (Aa R (Aa R (Aa R Af))) (An R) (Uj hv7) (sv R (Ca R) (sv R (Aj R R) (sv R (Aj R R) (rm 2 R (Ak (csr (ld Dd R R R R (rm 2 R (sst Jn R R R R R (rm 3 R (Ak (Bs ?_))))))))))))
     obtain rfl:=SJ h
     exact dn (Ad (ra Dd R R R) (Ad (rt R) (Ad (rt R) (Ad (rt R) Ai)))) (An R) R
def Iy (a0:List Av):Option (List Av) :=
 if (([]:List Av).length+a0.length)*56≤140737488355328 then (some (([]:List Av)++a0)) else none
theorem Vb {a0:List Av} {r:(List Av)} (h:Iy a0=some r):Dl Tryz.prog 126 [] [.one (.sl a0.length (a0.flatMap Ao))] (fun y m'=>y=.s (.one (.ls 0 r.length))∧m'=[.arr 99 3 0 (r.flatMap Ao)]):=by
 unfold Iy at h
 refine Dc Tryz.func126 R (nt:=8) R (Nbl R) ?_
 intro w0 S0 X0 H0
 refine csr (rm 1 R (Ak (Bl (csr (rm 1 R (Ac4 R Tryz.underlying84 R (fun nq hnq=>?_)))))))
 cases nq
 ·skip
  refine Ak (Ci R (fun hx=>Bool.noConfusion hx) (fun _=>?_))
  refine Bf (Ab (csr (S8 R Tryz.underlying84 Au5 (sv R (A4 R) ?_))))
  obtain ⟨hb1,h⟩:=Cp h
  refine Tr (f:=Ao) (xs:=([]:List Av)) (us:=a0) R Tryz.underlying84 Au5 A0o (fun _=>R) R R (.one _ _ _ _ (.id _ R)) R R R (.sl _ _ _ (Au (f:=Ao) (fun _=>R) _)) R R hb1 (by decide) ?_
  refine rm 1 R (Ak (Bs ?_))
  obtain rfl:=SJ h
  exact ⟨Or.inr R,_,[0],[.one (.ls 0 (([]:List Av)++a0).length)],[.arr 99 3 0 ((([]:List Av)++a0).flatMap Ao)],(Ad (rt R) Ai),R,R,⟨by decide,R⟩,R,R,⟨R,R⟩⟩
 ·obtain rfl:=zZ (hnq rfl)
  replace h:(some ([]:List Av))=some r:=by first | exact h | (rw [if_pos (by decide)] at h;exact h)
  refine Ak (Ci R (fun _=>?_) (fun hx=>Bool.noConfusion hx))
  refine csr (rm 1 R (Ak ?_))
  refine C6 99 3 2 (by decide) R ?_
  refine Bs (Ag ?_)
  obtain rfl:=SJ h
  exact ⟨Or.inr R,_,[0],[.one (.ls 0 ([]:List Av).length)],[.arr 99 3 0 (([]:List Av).flatMap Ao)],(Ad (rt R) Ai),R,R,⟨by decide,R⟩,R,R,⟨R,R⟩⟩
section
open Go.Lib
set_option maxHeartbeats 4000000 in
theorem Ajr (b n c vb vc:Nat) (vs:List Value) (w:World) (i0:TypeInfo) (hi0:Tryz.prog.info? 99=some i0) (hs0:i0.size=3) (hroom:n+1≤c) (hc63:c≤9223372036854775807)
  (hvl:vs.length=3) (hsp:∀ j,j<3→(w.cell? ⟨b,n*3+j,none⟩).isSome=true) (hfz:∀ j,j<3→w.frozen? ⟨b,n*3+j,none⟩=false)
  (hvs:∀ j v,vs[j]? = some v→w.cell? ⟨vb,j,none⟩=some v) (h1v:∀ v ∈ vs,v.oneCell'=true) :
  Calls Tryz.prog 127 #[.slice (some ⟨b,0,none⟩) n c,.int .i64 n,.slice (some ⟨vb,0,none⟩) 1 vc] w fun e w' =>
   e=.returned (.slice (some ⟨b,0,none⟩) (n+1) c)∧w'=w.setCells b (n*3) vs:=by
 have hsrc:_root_.Go.Src Tryz.prog i0.size 84 (.slice (some ⟨vb,0,none⟩) 1 vc) 1 vs w:=by
  rw [hs0]
  exact _root_.Go.Src.ofSlice w Tryz.underlying84 ⟨vb,0,none⟩ 1 vc vs (by omega) (fun j u hj=>by rw [Addr.add_lit,yH];exact hvs j u hj) h1v
 go_enter Tryz.func127,Tryz.ntmps127
 go_wp2_with (at_builtin;refine wpList_append_room_src _ rfl _ _ 84 84 rfl 99 i0 Tryz.underlying84 hi0 b 0 n c rfl _ rfl 1 vs hsrc hroom (by rw [hvl,hs0,yH];exact hsp) (by rw [hvl,hs0,yH];exact hfz) ?_)
 go_ret
 refine ⟨R,?_⟩
 first | rfl | (simp;done) | (simp [hs0];done)
set_option maxHeartbeats 4000000 in
theorem Ad9 (b n c vb vc:Nat) (cs vs:List Value) (w:World) (i0:TypeInfo) (hi0:Tryz.prog.info? 99=some i0) (hz0:i0.zero=some (.agg #[.slice none 0 0,.slice none 0 0,.bool false])) (hs0:i0.size=3) (hnc:n≤c) (hroom:c<n+1) (hn63:n+1≤9223372036854775807)
  (hfit:Builtin.nextslicecap (n+1) c*i0.bytes≤281474976710656) (hcl:cs.length=n*3) (hvl:vs.length=3)
  (hcs:∀ j v,cs[j]? = some v→w.cell? ⟨b,j,none⟩=some v) (hvs:∀ j v,vs[j]? = some v→w.cell? ⟨vb,j,none⟩=some v) (h1v:∀ v ∈ vs,v.oneCell'=true) :
  Calls Tryz.prog 127 #[.slice (some ⟨b,0,none⟩) n c,.int .i64 n,.slice (some ⟨vb,0,none⟩) 1 vc] w fun e w' =>
   e=.returned (.slice (some ⟨w.heap.size,0,none⟩) (n+1) (grownCap w (n+1) c 99)) ∧
   w'=w.drew.alloc (.cells ((cs++vs).toArray++Builtin.zeroCells (Value.cells (.agg #[.slice none 0 0,.slice none 0 0,.bool false])) (grownCap w (n+1) c 99-(n+1))) 99):=by
 have hsrc:_root_.Go.Src Tryz.prog i0.size 84 (.slice (some ⟨vb,0,none⟩) 1 vc) 1 vs w:=by
  rw [hs0]
  exact _root_.Go.Src.ofSlice w Tryz.underlying84 ⟨vb,0,none⟩ 1 vc vs (by omega) (fun j u hj=>by rw [Addr.add_lit,yH];exact hvs j u hj) h1v
 have hold:(Builtin.firstCells i0.size n (.slice (some ⟨b,0,none⟩) n c)).run Tryz.prog w.drew=.ok cs.toArray w.drew:=by
  rw [hs0]
  exact run_firstCells_some w.drew 3 n ⟨b,0,none⟩ n c cs (by omega) (fun j v hj=>by rw [Addr.add_lit,yH];exact hcs j v hj)
 have hrun:∀ ty,(Builtin.append_ #[84,84] ty #[.slice (some ⟨b,0,none⟩) n c,.slice (some ⟨vb,0,none⟩) 1 vc]).run Tryz.prog w=.ok (.slice (some ⟨w.heap.size,0,none⟩) (n+1) (grownCap w (n+1) c 99)) (w.drew.alloc (.cells ((cs++vs).toArray++Builtin.zeroCells (Value.cells (.agg #[.slice none 0 0,.slice none 0 0,.bool false])) (grownCap w (n+1) c 99-(n+1))) 99)):=fun ty =>
  run_append_grow_src w 84 84 ty 99 i0 _ Tryz.underlying84 hi0 hz0 (some ⟨b,0,none⟩) n c cs hold _ 1 vs hsrc hroom (by omega) hfit
 go_enter Tryz.func127,Tryz.ntmps127
 go_wp2_with (at_builtin;refine Lib.wpList_append_run _ rfl _ _ _ _ rfl _ _ rfl rfl _ _ (hrun _) ?_)
 all_goals (go_ret;first | exact ⟨rfl,rfl⟩ | exact ⟨rfl,by simp [Value.cells]⟩)
set_option maxHeartbeats 4000000 in
theorem Ae7 (b n c i vb vc:Nat) (cs vs:List Value) (w:World) (hs0:(Tryz.prog.info? 99).map (·.size)=some 3) (hi:i<n) (hroom:n+1≤c) (hc63:c≤9223372036854775807) (hvb:vb≠b)
  (hcl:cs.length=n*3) (hvl:vs.length=3)
  (hcs:∀ j v,cs[j]? = some v→w.cell? ⟨b,j,none⟩=some v) (hsp:∀ j,j<(n+1)*3→(w.cell? ⟨b,j,none⟩).isSome=true) (hfz:∀ j,j<(n+1)*3→w.frozen? ⟨b,j,none⟩=false)
  (hvs:∀ j v,vs[j]? = some v→w.cell? ⟨vb,j,none⟩=some v) (h1c:∀ v ∈ cs,v.oneCell'=true) (h1v:∀ v ∈ vs,v.oneCell'=true)
  (tA tB:TypeId) (kA kB:Nat) (hsa:w.shape? vb=some (tA,kA)) (hsb:w.shape? b=some (tB,kB)) (hkB:kB≠0) (hfa:w.frozen? ⟨vb,0,none⟩=false) (hfe:w.frozen? ⟨vb,kA,none⟩=false) :
  Calls Tryz.prog 127 #[.slice (some ⟨b,0,none⟩) n c,.int .i64 i,.slice (some ⟨vb,0,none⟩) 1 vc] w fun e w' =>
   e=.returned (.slice (some ⟨b,0,none⟩) (n+1) c)∧w'=(w.drew.setCells b ((i+1)*3) (cs.drop ((i)*3))).setCells b ((i)*3) vs:=by
 have hz2:¬ ((i:Int)=(n:Int)):=by omega
 have hz3:¬ ((c:Int)<(n:Int)+1):=by omega
 have mixed:Tryz.prog.follows .mixedOrders=true:=by kernel_rfl
 have hov:∀ lb cb,(callFunc 192 #[.slice (some ⟨vb,0,none⟩) 1 vc,.slice (some ⟨b,(i+1)*3,none⟩) lb cb]).run Tryz.prog w=.ok (.value (.bool false)) w:=fun lb cb=>by
  rw [run_callFunc_extern Tryz.func192 (by kernel_rfl) (by kernel_rfl) (by kernel_rfl) (e:=Extern.SlicesOverlaps.overlaps #[84,84] #[4]) (by kernel_rfl),
   Lib.run_overlaps_apart w 84 4 99 Tryz.underlying84 3 (fun w=>C8 hs0 w) ⟨vb,0,none⟩ ⟨b,(i+1)*3,none⟩ 1 vc lb cb hvb tA tB kA kB hsa hsb hkB hfa hfe]
  rfl
 have hdl:(cs.drop ((i)*3)).length=(n-i)*3:=by rw [yD,hcl];omega
 have hw1:IntKind.i64.wrap ((i:Int)+1)=(i:Int)+1:=by rw [IntKind.wrap_i64];omega
 have hb1:(0:Int)≤(i:Int)+1:=by omega
 have hin:i≤n:=by omega
 have htn:((i:Int)+1).toNat=i+1:=by omega
 have hb2:¬ (c=i+1):=by omega
 have hb3:(i:Int)≤(n:Int)+1:=by omega
 have hb4:¬ (c=i):=by omega
 have hcp1:∀ ty dc sc,(Builtin.copy_ #[84,84] ty #[.slice (some ⟨b,(i+1)*3,none⟩) (n-i) dc,.slice (some ⟨b,(i)*3,none⟩) (n+1-i) sc]).run Tryz.prog w.drew=.ok (goInt (n-i:Nat)) (w.drew.setCells b ((i+1)*3) (cs.drop ((i)*3))):=fun ty dc sc =>
  Ik w.drew _ _ ty 99 b ((i+1)*3) (n-i) dc ⟨b,(i)*3,none⟩ (n+1-i) sc 3 (n-i) (cs.drop ((i)*3)) Tryz.underlying84 hs0 (by simp only [kG];split <;> omega) hdl
   (fun j v hj=>by rw [Addr.add_lit];exact hcs ((i)*3+j) v (by rwa [yG] at hj))
   (fun j hj=>hsp _ (by rw [hdl] at hj;omega)) (fun j hj=>hfz _ (by rw [hdl] at hj;omega)) (fun v hv=>h1c v (w7 hv))
 obtain ⟨W1,hW1⟩:∃ W1,W1=w.drew.setCells b ((i+1)*3) (cs.drop ((i)*3)):=⟨_,rfl⟩
 have hsp1:∀ k,k<(n+1)*3→(W1.cell? ⟨b,k,none⟩).isSome=true:=fun k hk=>by
  rw [hW1]
  exact isSome_setCells b (cs.drop ((i)*3)) ((i+1)*3) w.drew (fun j hj=>hsp _ (by rw [hdl] at hj;omega)) _ (hsp k hk)
 have hcp2:∀ (W:World),(∀ x,W.cell? x=W1.cell? x)→(∀ x,W.frozen? x=W1.frozen? x)→∀ ty dc,(Builtin.copy_ #[84,84] ty #[.slice (some ⟨b,(i)*3,none⟩) (n+1-i) dc,.slice (some ⟨vb,0,none⟩) 1 vc]).run Tryz.prog W=.ok (goInt (1:Nat)) (W.setCells b ((i)*3) vs):=fun W hWc hWf ty dc =>
  Ik W _ _ ty 99 b ((i)*3) (n+1-i) dc ⟨vb,0,none⟩ 1 vc 3 1 vs Tryz.underlying84 hs0 (by simp only [kG];split <;> omega) (by omega)
   (fun j v hj=>by
    rw [Addr.add_lit,hWc,hW1,yH,World.cell?_setCells_out b _ _ _ _ (fun h _=>absurd h hvb)]
    exact hvs j v hj)
   (fun j hj=>by rw [hWc];exact hsp1 _ (by omega)) (fun j hj=>by rw [hWf,hW1,World.frozen?_setCells];exact hfz _ (by omega)) h1v
 rw [← hW1] at hcp1
 go_enter Tryz.func127,Tryz.ntmps127
 go_wp2_with (simp only [hov])
 go_region_law_o (refine step_copy_runI rfl _ _ 84 84 rfl _ _ (by simp [Act.eval,Act.put]) (by simp [Act.eval,Act.put]) (hcp1 _ _ _) ?_)
 go_wp2_with (at_builtin;refine wpList_copy_runI _ rfl _ _ 84 84 rfl _ _ rfl rfl (hcp2 _ (fun _=>rfl) (fun _=>rfl) _ _) ?_)
 go_ret
 first | exact ⟨rfl,rfl⟩ | exact ⟨rfl,by rw [hW1]⟩
set_option maxHeartbeats 4000000 in
theorem Agd (b n c i vb vc:Nat) (cs vs:List Value) (w:World) (i0:TypeInfo) (hi0:Tryz.prog.info? 99=some i0) (hz0:i0.zero=some (.agg #[.slice none 0 0,.slice none 0 0,.bool false])) (hs0:i0.size=3) (hi:i<n) (hnc:n≤c) (hroom:c<n+1) (hn63:n+1≤4611686018427387904)
  (hb48:(n+1)*i0.bytes≤281474976710656) (hfit:Builtin.nextslicecap (n+1) c*i0.bytes≤281474976710656) (hcl:cs.length=n*3) (hvl:vs.length=3)
  (hcs:∀ j v,cs[j]? = some v→w.cell? ⟨b,j,none⟩=some v) (hvs:∀ j v,vs[j]? = some v→w.cell? ⟨vb,j,none⟩=some v) (h1c:∀ v ∈ cs,v.oneCell'=true) (h1v:∀ v ∈ vs,v.oneCell'=true) :
  Calls Tryz.prog 127 #[.slice (some ⟨b,0,none⟩) n c,.int .i64 i,.slice (some ⟨vb,0,none⟩) 1 vc] w fun e w' =>
   e=.returned (.slice (some ⟨w.heap.size,0,none⟩) (n+1) (grownCap w (n+1) c 99)) ∧
   w'=(((w.alloc (.cells ((cs.take ((i)*3)).toArray++Builtin.zeroCells (Value.cells (.agg #[.slice none 0 0,.slice none 0 0,.bool false])) (n+1-i)++Builtin.zeroCells (Value.cells (.agg #[.slice none 0 0,.slice none 0 0,.bool false])) (grownCap w (n+1) c 99-(n+1))) 99)).drew.setCells w.heap.size ((i)*3) vs).drew).setCells w.heap.size ((i+1)*3) (cs.drop ((i)*3)):=by
 have mixed:Tryz.prog.follows .mixedOrders=true:=by kernel_rfl
 have hz2:¬ ((i:Int)=(n:Int)):=by omega
 have hz3:(c:Int)<(n:Int)+1:=by omega
 have hsz:(Tryz.prog.info? 99).map (·.size)=some 3:=by rw [hi0];simp [hs0]
 have hbw:b<w.heap.size:=block_lt_of_cell (hcs 0 _ (zB (by omega)))
 have hvw:vb<w.heap.size:=block_lt_of_cell (hvs 0 _ (zB (by omega)))
 have hkk:(n:Int)+1-(i:Int)=((n+1-i:Nat):Int):=by omega
 have hik:i+(n+1-i)=n+1:=by omega
 have htl:(cs.take ((i)*3)).length=i*3:=by rw [zL];omega
 have hold:(Builtin.firstCells i0.size i (.slice (some ⟨b,0,none⟩) i c)).run Tryz.prog w.drew=.ok (cs.take ((i)*3)).toArray w.drew:=by
  rw [hs0]
  exact run_firstCells_some w.drew 3 i ⟨b,0,none⟩ i c (cs.take ((i)*3)) htl (fun j v hj=>by
   rw [Addr.add_lit,yH]
   rw [yN] at hj
   split at hj
   ·exact hcs j v hj
   ·cases hj)
 have hrz:∀ ty,(Builtin.append_ #[84,3] ty #[.slice (some ⟨b,0,none⟩) i c,.int .i64 ((n:Int)+1-(i:Int))]).run Tryz.prog w =
   .ok (.slice (some ⟨w.heap.size,0,none⟩) (n+1) (grownCap w (n+1) c 99)) (w.drew.alloc (.cells ((cs.take ((i)*3)).toArray++Builtin.zeroCells (Value.cells (.agg #[.slice none 0 0,.slice none 0 0,.bool false])) (n+1-i)++Builtin.zeroCells (Value.cells (.agg #[.slice none 0 0,.slice none 0 0,.bool false])) (grownCap w (n+1) c 99-(n+1))) 99)):=fun ty=>by
  have h:=Lib.run_append_grow_zeros w 84 3 ty 99 i0 _ .i64 .i64 Tryz.underlying84 Tryz.underlying3 hi0 hz0 (some ⟨b,0,none⟩) i c (cs.take ((i)*3)) hold (n+1-i) (by omega) (by omega) (by omega) (by omega) (yO (xC _ (by omega)) hb48) (by rw [hik];exact hfit)
  rw [hik] at h
  rw [hkk]
  exact h
 obtain ⟨G,hG⟩:∃ G,G=grownCap w (n+1) c 99:=⟨_,rfl⟩
 obtain ⟨ROW,hROW⟩:∃ ROW:Array Value,ROW=(cs.take ((i)*3)).toArray++Builtin.zeroCells (Value.cells (.agg #[.slice none 0 0,.slice none 0 0,.bool false])) (n+1-i)++Builtin.zeroCells (Value.cells (.agg #[.slice none 0 0,.slice none 0 0,.bool false])) (G-(n+1)):=⟨_,rfl⟩
 rw [← hG] at hrz ⊢
 rw [← hROW] at hrz ⊢
 have hzc:∀ k,(Builtin.zeroCells (Value.cells (.agg #[.slice none 0 0,.slice none 0 0,.bool false])) k).size=k*3:=fun k=>by simp [Builtin.zeroCells,Value.cells]
 have hRl:(n+1)*3≤ROW.size:=by
  rw [hROW,yU,yU,hzc,hzc,yB,htl]
  omega
 obtain ⟨W1,hW1⟩:∃ W1,W1=w.drew.alloc (.cells ROW 99):=⟨_,rfl⟩
 rw [← hW1] at hrz
 have hN:∀ j,j<(n+1)*3→(W1.cell? ⟨w.heap.size,j,none⟩).isSome=true:=fun j hj=>by
  rw [hW1,World.cell?_alloc_at (w:=w.drew) ROW _ w.heap.size j rfl,zP (by omega)];rfl
 have hNf:∀ j,W1.frozen? ⟨w.heap.size,j,none⟩=false:=fun j=>by rw [hW1];exact World.frozen?_alloc_at (w:=w.drew) ROW _ w.heap.size j rfl
 have hOb:∀ j v,w.cell? ⟨b,j,none⟩=some v→W1.cell? ⟨b,j,none⟩=some v:=fun j v h=>by rw [hW1,World.cell?_alloc_past (w:=w.drew) _ b j hbw];exact h
 have hOv:∀ j v,w.cell? ⟨vb,j,none⟩=some v→W1.cell? ⟨vb,j,none⟩=some v:=fun j v h=>by rw [hW1,World.cell?_alloc_past (w:=w.drew) _ vb j hvw];exact h
 have hcpA:∀ (W:World),(∀ x,W.cell? x=W1.cell? x)→(∀ x,W.frozen? x=W1.frozen? x)→∀ ty dc,(Builtin.copy_ #[84,84] ty #[.slice (some ⟨w.heap.size,(i)*3,none⟩) (n+1-i) dc,.slice (some ⟨vb,0,none⟩) 1 vc]).run Tryz.prog W=.ok (goInt (1:Nat)) (W.setCells w.heap.size ((i)*3) vs):=fun W hWc hWf ty dc =>
  Ik W _ _ ty 99 w.heap.size ((i)*3) (n+1-i) dc ⟨vb,0,none⟩ 1 vc 3 1 vs Tryz.underlying84 hsz (by simp only [kG];split <;> omega) (by omega)
   (fun j v hj=>by rw [Addr.add_lit,hWc,yH];exact hOv _ v (hvs j v hj))
   (fun j hj=>by rw [hWc];exact hN _ (by omega)) (fun j hj=>by rw [hWf];exact hNf _) h1v
 have hGn:n+1≤G:=by rw [hG];exact grownCap_ge w _ _ _
 have hG63:G≤9223372036854775807:=by
  have:=grownCap_le_maxLen w (n+1) c 99 (by unfold maxLen;omega)
  rw [← hG] at this
  unfold maxLen at this
  omega
 have hGi:¬ (G=i):=by omega
 have hGim:¬ (G=i+1):=by omega
 have hci:¬ (c=i):=by omega
 have hbN:b≠w.heap.size:=by omega
 have hdl:(cs.drop ((i)*3)).length=(n-i)*3:=by rw [yD,hcl];omega
 have hcpB:∀ (W:World),(∀ x,W.cell? x=(W1.setCells w.heap.size ((i)*3) vs).cell? x)→(∀ x,W.frozen? x=(W1.setCells w.heap.size ((i)*3) vs).frozen? x)→∀ ty dc sc,(Builtin.copy_ #[84,84] ty #[.slice (some ⟨w.heap.size,(i+1)*3,none⟩) (n-i) dc,.slice (some ⟨b,(i)*3,none⟩) (n-i) sc]).run Tryz.prog W=.ok (goInt (n-i:Nat)) (W.setCells w.heap.size ((i+1)*3) (cs.drop ((i)*3))):=fun W hWc hWf ty dc sc =>
  Ik W _ _ ty 99 w.heap.size ((i+1)*3) (n-i) dc ⟨b,(i)*3,none⟩ (n-i) sc 3 (n-i) (cs.drop ((i)*3)) Tryz.underlying84 hsz (by simp only [kG];split <;> omega) hdl
   (fun j v hj=>by
    rw [Addr.add_lit,hWc,World.cell?_setCells_out _ _ _ _ _ (fun h _=>absurd h hbN)]
    exact hOb _ v (hcs ((i)*3+j) v (by rwa [yG] at hj)))
   (fun j hj=>by rw [hWc];exact isSome_setCells w.heap.size vs ((i)*3) W1 (fun t ht=>hN _ (by omega)) _ (hN _ (by rw [hdl] at hj;omega)))
   (fun j hj=>by rw [hWf,World.frozen?_setCells];exact hNf _) (fun v hv=>h1c v (w7 hv))
 subst hW1
 have hE1:∀ x,((w.alloc (.cells ROW 99)).drew).cell? x=(w.drew.alloc (.cells ROW 99)).cell? x:=fun x=>rfl
 have hE2:∀ x,((w.alloc (.cells ROW 99)).drew).frozen? x=(w.drew.alloc (.cells ROW 99)).frozen? x:=fun x=>rfl
 have hF1:∀ x,(((w.alloc (.cells ROW 99)).drew.setCells w.heap.size ((i)*3) vs).drew).cell? x=((w.drew.alloc (.cells ROW 99)).setCells w.heap.size ((i)*3) vs).cell? x:=fun x=>rfl
 have hF2:∀ x,(((w.alloc (.cells ROW 99)).drew.setCells w.heap.size ((i)*3) vs).drew).frozen? x=((w.drew.alloc (.cells ROW 99)).setCells w.heap.size ((i)*3) vs).frozen? x:=fun x=>rfl
 have hw1:IntKind.i64.wrap ((i:Int)+1)=(i:Int)+1:=by rw [IntKind.wrap_i64];omega
 have hb1:(0:Int)≤(i:Int)+1:=by omega
 have hin:i≤n:=by omega
 have htn:((i:Int)+1).toNat=i+1:=by omega
 have hb3:(i:Int)≤(n:Int):=by omega
 clear hkk hik hold hROW hG hRl htl hzc
 go_enter Tryz.func127,Tryz.ntmps127
 go_wp2_with (first
  | (at_builtin;refine Lib.wpList_append_run _ rfl _ _ _ _ rfl _ _ rfl rfl _ _ (hrz _) ?_)
  | (at_builtin;refine wpList_copy_runI _ rfl _ _ 84 84 rfl _ _ rfl rfl (hcpA _ hE1 hE2 _ _) ?_)
  | (at_builtin;refine wpList_copy_runI _ rfl _ _ 84 84 rfl _ _ rfl rfl (hcpB _ (fun _=>rfl) (fun _=>rfl) _ _ _) ?_))
 go_region_law_o (refine step_copy_runI rfl _ _ 84 84 rfl (.slice (some ⟨w.heap.size,(i+1)*3,none⟩) (n-i) (G-(i+1))) (.slice (some ⟨b,(i)*3,none⟩) (n-i) (c-i)) (by simp [Act.eval,Act.put]) (by simp [Act.eval,Act.put]) (hcpB _ hF1 hF2 3 (G-(i+1)) (c-i)) ?_)
 go_wp2
 go_ret
 exact ⟨R,R⟩
set_option maxHeartbeats 4000000 in
theorem Ajl (vb vc:Nat) (vs:List Value) (w:World) (i0:TypeInfo) (hi0:Tryz.prog.info? 99=some i0) (hz0:i0.zero=some (.agg #[.slice none 0 0,.slice none 0 0,.bool false])) (hs0:i0.size=3)
  (hfit:Builtin.nextslicecap (0+1) 0*i0.bytes≤281474976710656) (hvl:vs.length=3)
  (hvs:∀ j v,vs[j]? = some v→w.cell? ⟨vb,j,none⟩=some v) (h1v:∀ v ∈ vs,v.oneCell'=true) :
  Calls Tryz.prog 127 #[.slice none 0 0,.int .i64 ((0:Nat):Int),.slice (some ⟨vb,0,none⟩) 1 vc] w fun e w' =>
   e=.returned (.slice (some ⟨w.heap.size,0,none⟩) (0+1) (grownCap w (0+1) 0 99)) ∧
   w'=w.drew.alloc (.cells (([]++vs).toArray++Builtin.zeroCells (Value.cells (.agg #[.slice none 0 0,.slice none 0 0,.bool false])) (grownCap w (0+1) 0 99-(0+1))) 99):=by
 have hsrc:_root_.Go.Src Tryz.prog i0.size 84 (.slice (some ⟨vb,0,none⟩) 1 vc) 1 vs w:=by
  rw [hs0]
  exact _root_.Go.Src.ofSlice w Tryz.underlying84 ⟨vb,0,none⟩ 1 vc vs (by omega) (fun j u hj=>by rw [Addr.add_lit,yH];exact hvs j u hj) h1v
 have hold:(Builtin.firstCells i0.size 0 (.slice none 0 0)).run Tryz.prog w.drew=.ok ([]:List Value).toArray w.drew:=by
  rw [hs0]
  exact run_firstCells_none w.drew 3 0 0 0
 have hrun:∀ ty,(Builtin.append_ #[84,84] ty #[.slice none 0 0,.slice (some ⟨vb,0,none⟩) 1 vc]).run Tryz.prog w=.ok (.slice (some ⟨w.heap.size,0,none⟩) (0+1) (grownCap w (0+1) 0 99)) (w.drew.alloc (.cells (([]++vs).toArray++Builtin.zeroCells (Value.cells (.agg #[.slice none 0 0,.slice none 0 0,.bool false])) (grownCap w (0+1) 0 99-(0+1))) 99)):=fun ty =>
  run_append_grow_src w 84 84 ty 99 i0 _ Tryz.underlying84 hi0 hz0 none 0 0 [] hold _ 1 vs hsrc (by omega) (by omega) hfit
 go_enter Tryz.func127,Tryz.ntmps127
 go_wp2_with (at_builtin;refine Lib.wpList_append_run _ rfl _ _ _ _ rfl _ _ rfl rfl _ _ (hrun _) ?_)
 all_goals (go_ret;first | exact ⟨rfl,rfl⟩ | exact ⟨rfl,by simp [Value.cells]⟩)
theorem Ahs:(Tryz.prog.info? 99).map (fun i=>(i.zero,i.size,i.bytes))=some (some (.agg #[.slice none 0 0,.slice none 0 0,.bool false]),3,56):=by kernel_rfl
theorem Apd {cs vs:List Lf} {n i:Nat} (hcl:cs.length=n*3) (hvl:vs.length=3) (hi:i≤n) (hn:(n+1)*56≤140737488355328) :
  Dl Tryz.prog 127 [.arr 99 3 0 cs,.arr 99 3 0 vs] [.one (.ls 0 n),.one (Ii6 (i:Int)),.one (.ls 1 1)] (fun y m'=>y=.s (.one (.ls 0 (n+1)))∧m'=[.arr 99 3 0 (cs.take (i*3)++vs++cs.drop (i*3)),.dead]):=by
 refine Xj (by decide) hcl hvl (fun w v1 vb vc cur2 xs ys hown hg2 hcell hyl hne hx1 hy1=>?_)
 obtain ⟨i0,hi0,hz0,hs0,hb0⟩:=info_parts Ahs
 have hxl:=hown.1
 have hfitG:∀ {old},old<n+1→Builtin.nextslicecap (n+1) old*i0.bytes≤281474976710656:=fun h=>growslice_fits h (by rw [hb0];exact hn)
 have hsz':(Tryz.prog.info? 99).map (·.size)=some 3:=by rw [hi0];simp [hs0]
 have hzc:∀ k,(Builtin.zeroCells (Value.cells (.agg #[.slice none 0 0,.slice none 0 0,.bool false])) k).size=k*3:=fun k=>by simp [Builtin.zeroCells,Value.cells]
 have hg63:∀ c,grownCap w (n+1) c 99≤maxLen:=fun c=>grownCap_le_maxLen w (n+1) c 99 (by unfold maxLen;omega)
 have hgge:∀ c,n+1≤grownCap w (n+1) c 99:=fun c=>grownCap_ge w _ _ _
 rcases hown.2 with ⟨rfl,h0⟩ | ⟨g,cap,cur,rfl,_,hg,hnc,hcm,hcs,hct⟩
 ·subst h0
  have hi0':i=0:=by omega
  subst hi0'
  have hx0:xs=[]:=jW.1 (hxl.trans (wU _))
  subst hx0
  refine (Ajl vb vc ys w i0 hi0 hz0 hs0 (hfitG (by omega)) hyl hcell hy1).mono ?_
  rintro e w' ⟨rfl,rfl⟩
  refine ⟨_,w.heap.size,R,Pb (hgge 0) (hg63 0) ?_ ?_,.inr (zN _)⟩
  ·have:=hgge 0
   rw [yU,hzc,yB,wX,hyl];omega
  ·rw [xI,yW,x9 (by rw [wX,hyl])]
   simp
 ·have hcur:cur.toList.length=cap*3:=by rw [yC];exact hcs
  have hcell1:∀ j v,xs[j]? = some v→w.cell? ⟨g,j,none⟩=some v:=fun j v hj=>by
   unfold World.cell?
   rw [hg]
   rw [← hct,yN] at hj
   split at hj
   ·simpa using hj
   ·cases hj
  have hc63:cap≤9223372036854775807:=by unfold maxLen at hcm;exact hcm
  have hsome:∀ j,j<cap*3→(w.cell? ⟨g,j,none⟩).isSome=true:=fun j hj=>by
   unfold World.cell?
   rw [hg]
   show (cur[j]?).isSome=true
   rw [zP (by omega)];rfl
  have hfrz:∀ j,w.frozen? ⟨g,j,none⟩=false:=fun j=>by
   unfold World.frozen?
   rw [hg]
   show (decide (0≤j) && decide (j<0))=false
   rw [decide_eq_false (zT j),jF]
  have hfrz2:∀ j,w.frozen? ⟨vb,j,none⟩=false:=fun j=>by
   unfold World.frozen?
   rw [hg2]
   show (decide (0≤j) && decide (j<0))=false
   rw [decide_eq_false (zT j),jF]
  have hvb:vb≠g:=fun e=>hne (by rw [e];rfl)
  rcases Nat.lt_or_eq_of_le hi with hlt | rfl
  ·rcases zO cap (n+1) with hroom | hroom
   ·refine (Agd g n cap i vb vc xs ys w i0 hi0 hz0 hs0 hlt hnc hroom (by omega) (by rw [hb0];omega) (hfitG hroom) hxl hyl hcell1 hcell hx1 hy1).mono ?_
    rintro e w' ⟨rfl,rfl⟩
    have hge:=hgge cap
    have htl:(xs.take (i*3)).length=i*3:=by rw [zL];omega
    have:=T4 (E:=99) (sz:=3) (w:=w) (row:=(xs.take (i*3)).toArray++Builtin.zeroCells (Value.cells (.agg #[.slice none 0 0,.slice none 0 0,.bool false])) (n+1-i)++Builtin.zeroCells (Value.cells (.agg #[.slice none 0 0,.slice none 0 0,.bool false])) (grownCap w (n+1) cap 99-(n+1))) (xs:=xs.take (i*3)) (vs:=ys) (D:=xs.drop (i*3)) hlt hge (hg63 cap)
     (by rw [yU,yU,hzc,hzc,yB,htl];omega) hyl (by rw [yD,hxl];omega)
     (by rw [xI,xI,yW,xO,x9 htl])
    refine ⟨_,w.heap.size,R,?_,.inr (zN _)⟩
    first | exact this | simpa only [kD] using this
   ·refine (Ae7 g n cap i vb vc xs ys w hsz' hlt hroom hc63 hvb hxl hyl hcell1 (fun j hj=>hsome j (by omega)) (fun j _=>hfrz j) hcell hx1 hy1 99 99 cur2.size cur.size (by unfold World.shape?;rw [hg2]) (by unfold World.shape?;rw [hg]) (by omega) (hfrz2 _) (hfrz2 _)).mono ?_
    rintro e w' ⟨rfl,rfl⟩
    have:=Ss (E:=99) (sz:=3) (b:=g) (vs:=ys) hg hlt hroom hcm hcs hyl
    rw [hct] at this
    refine ⟨_,g,R,?_,.inl R⟩
    first | exact this | simpa only [kD] using this
  ·have hxe:xs.take (i*3)++ys++xs.drop (i*3)=xs++ys:=by
    rw [y9 (by omega),wW (by omega),xF]
   rw [hxe]
   rcases zO cap (i+1) with hroom | hroom
   ·refine (Ad9 g i cap vb vc xs ys w i0 hi0 hz0 hs0 hnc hroom (by omega) (hfitG hroom) hxl hyl hcell1 hcell hy1).mono ?_
    rintro e w' ⟨rfl,rfl⟩
    have hge:=hgge cap
    refine ⟨_,w.heap.size,R,Pb hge (hg63 cap) ?_ ?_,.inr (zN _)⟩
    ·rw [yU,hzc,yB,zH,hxl,hyl];omega
    ·rw [xI,yW,x9 (by rw [zH,hxl,hyl];omega)]
   ·refine (Ajr g i cap vb vc ys w i0 hi0 hs0 hroom hc63 hyl (fun j hj=>hsome _ (by omega)) (fun j _=>hfrz _) hcell hy1).mono ?_
    rintro e w' ⟨rfl,rfl⟩
    have:=Wb (E:=99) (sz:=3) (n:=i) (b:=g) (vs:=ys) hg hroom hcm hcs hyl
    rw [hct] at this
    exact ⟨_,g,R,this,.inl R⟩
end
def Om (a0:List Av) (a1:Int) (a2:List Av):Option (List Av):=Aoe 56 a0 a1 a2
theorem U6 {a0:List Av} {a1:Int} {a2 r:List Av} (h:Om a0 a1 a2=some r):Dl Tryz.prog 127 [.arr 99 3 0 (a0.flatMap Ao),.arr 99 3 0 (a2.flatMap Ao)] [.one (.ls 0 a0.length),.one (Ii6 a1),.one (.ls 1 a2.length)] (fun y m'=>y=.s (.one (.ls 0 r.length))∧m'=[.arr 99 3 0 (r.flatMap Ao),.dead]) :=
 An3 (f:=Ao) (fun _=>rfl) Apd h
def Kv (a0:B2) (a1:Av) (b1:Unit):Option (B2 × Int) :=
 (Ey a0).bind fun v2=>(K5 v2 a1.Key).bind fun v3=>(Iy a0.L).bind fun v4=>if v3.2 then ((idx v4 v3.1).bind fun u5=>some ((B2.mk (v4.set v3.1.toNat a1)),0)) else (if (decide (16≤(v4.length:Int))) then (some ((B2.mk ([]:List Av)),8)) else ((Om v4 v3.1 [a1]).bind fun v6=>some ((B2.mk v6),0)))
def Ec (a0:B2) (a1:Av):Option (B2 × Int) :=
 (Fg (B2.mk a0.L)).bind fun v7=>if (!v7) then (some ((B2.mk ([]:List Av)),1)) else ((Cw (Av.mk a1.Key a1.Val a1.Del)).bind fun v8=>if (!v8) then (some ((B2.mk ([]:List Av)),1)) else (Kv a0 a1 ()))
theorem Yw {a0:B2} {a1:Av} {r:B2 × Int} (h:Ec a0 a1=some r):Br Tryz.prog 53 [.agg [.sl a0.L.length (a0.L.flatMap Ao)],.agg (EL.el a1)] (·=.tup [.agg [.sl r.1.L.length (r.1.L.flatMap Ao)],.one (Ii6 r.2)]):=by
 unfold Ec at h
 refine A5 Tryz.func53 R (nt:=46) R (Nbl R) ?_
 intro w0 S0
 refine csr (F4 R R (F4 R R (Bp R Atr (rm 1 R (Ak (Bl (Bl (cj3 (Unit) (fun b1=>[(2,.s (.one (.lp 0 0))),(3,.s (.one (.lp 1 0))),(4,.s (.one (.lp 2 0)))]) (fun b1=>[.box [.sl a0.L.length (a0.L.flatMap Ao)],.box (EL.el a1),.box [Znl]]) (fun b1=>Kv a0 a1 b1=some r) (fun _=>R) (fun b1 h=>?_) ?_))))))))
 ·unfold Kv at h
  refine Bl ?_
  obtain ⟨v2,hv2,h⟩:=Ae h
  obtain ⟨v3,hv3,h⟩:=Ae h
  refine Ig [] [0,1,0,4,15,31,63,63,127,511] [[.box [.sl a0.L.length (a0.L.flatMap Ao)],.box (EL.el a1),.box [Znl]]] (by kernel_rfl) mixed (by kernel_rfl) (by decide) R R R R ?_
  refine ev (A7 0 R R) R R (lo Ag4 R R R) (ed (A7 0 R R) R R (Cy Aww (Aa R Af) R (Qb hv2)) (ev (A7 0 R R) R R (Ac Qg R) (ev (A7 0 R R) R R (l1 Mz R R R) (ed (A7 0 R R) R R (Cy Axl (Aa R (Aa R Af)) R (Q8 hv3)) (ev (A7 0 R R) R R (Ca R) (ev (A7 0 R R) R R (Aj R R) (ev (A7 0 R R) R R (Aj R R) (ev (A7 0 R R) R R (Iu R) (ev (A7 0 R R) R R (Iu R) (Aas (Ab (csr (sv R (Ac Xc R) (sv R (l1 Aot R R R) ?_))))))))))))))
  obtain ⟨v4,hv4,h⟩:=Ae h
  refine Ie (x':=.s (.one (.ls 3 v4.length))) (M':=[.box [.sl a0.L.length (a0.L.flatMap Ao)],.box (EL.el a1),.box [Znl],.arr 99 3 0 (v4.flatMap Ao)]) [] R Ax8 (.func _) (Aa R Af) (Vb hv4) R R (by decide) R R R ?_
  refine rm 1 R (Ak (Bl (csr (rm 1 R (Ak (ccI h R (fun h=>?_) (fun h=>?_)))))))
  ·refine csr (rm 2 R (sv R (lo Ady R R R) ?_))
   obtain ⟨u5,hu5,h⟩:=Ae h
   refine sv R (Et (f:=Ao) V5 (fun _=>R) R R R R R hu5) ?_
   refine Zw (f:=Ao) (u':=a1) (sz:=3) 0 Al2 (fun _=>R) R R R R R R R (zJ.1 R) (Gq hu5).2 (Nbl R) R ?_
   refine Mx 28 (y:=.s (.one (.ls 3 v4.length))) (.s (.one (.ls 3 (v4.set v3.1.toNat a1).length))) R (congrArg (fun n=>AV.s (.one (.ls 3 n))) List.length_set.symm) ?_
   refine Mx 8 (y:=.s (.one (.ls 3 v4.length))) (.s (.one (.ls 3 (v4.set v3.1.toNat a1).length))) R (congrArg (fun n=>AV.s (.one (.ls 3 n))) List.length_set.symm) ?_
   refine Mx 30 (y:=.s (.one (.ls 3 v4.length))) (.s (.one (.ls 3 (v4.set v3.1.toNat a1).length))) R (congrArg (fun n=>AV.s (.one (.ls 3 n))) List.length_set.symm) ?_
   refine Ak (csr (rm 1 R (sv R (A6 Atr Awh (Ax R A1) (.cons _ _ _ _ _ _ _ R R (Nbl R) (.nil _))) (sst Atm R R R R R (rm 1 R (Ak (Bs (Ag ?_))))))))
   obtain rfl:=SJ h
   refine ⟨Or.inr R,_,_,_,(Ad (ra Ag4 R R R) (Ad (rt R) Ai)),(by (repeat' first | exact Ic.nil _ | apply Ic.cons | apply H6.one | apply H6.agg | exact Cz.nil | exact Cz.ls _ _ _ _ _ _ R (Au (f:=Ao) (fun _=>R) _).symm | exact Cz.id _ R | exact Co.nil _ | apply Co.cons)),?_⟩
   rfl
  ·refine Bf (Ab (Bl (csr (rm 1 R (sv R (Fu V5 R R (Au (f:=Ao) (fun _=>R) _).symm) ?_)))))
   refine sv R (Hz R R) (Ak (ccI h R (fun h=>?_) (fun h=>?_)))
   ·refine csr (sv R (A6 Atr Awh A1 (.nil _)) (sst Atm R R R R R (rm 1 R (Ak (Bs (Ag ?_))))))
    obtain rfl:=SJ h
    exact dn (Ad (ra Ag4 R R R) (Ad (rt R) Ai)) (Ip R) R
   ·refine Bf (Ab (csr (rm 2 R (sv R (lo Ady R R R) ?_))))
    refine Fo R Tryz.underlying84 Au5 R R (zJ.1 R) (by decide) ?_
    refine Pz [.box [.sl a0.L.length (a0.L.flatMap Ao)],.box (EL.el a1),.box [Znl],.arr 99 3 0 (v4.flatMap Ao),.arr 99 3 0 ([a1].flatMap Ao)] R ?_
    obtain ⟨v6,hv6,h⟩:=Ae h
    refine Ie (x':=.s (.one (.ls 3 v6.length))) (M':=[.box [.sl a0.L.length (a0.L.flatMap Ao)],.box (EL.el a1),.box [Znl],.arr 99 3 0 (v6.flatMap Ao),.dead]) [3,4] R Azx (.func _) (Aa R (Aa R (Aa R Af))) (U6 hv6) R R (by decide) R R R ?_
    refine sv R (A6 Atr Awh (Ax R A1) (.cons _ _ _ _ _ _ _ R R (Nbl R) (.nil _))) (sst Atm R R R R R (rm 1 R (Ak (Bs ?_))))
    obtain rfl:=SJ h
    refine ⟨Or.inr R,_,_,_,(Ad (ra Ag4 R R R) (Ad (rt R) Ai)),(by (repeat' first | exact Ic.nil _ | apply Ic.cons | apply H6.one | apply H6.agg | exact Cz.nil | exact Cz.ls _ _ _ _ _ _ R (Au (f:=Ao) (fun _=>R) _).symm | exact Cz.id _ R | exact Co.nil _ | apply Co.cons)),?_⟩
    rfl
 ·skip
  refine Aq (sv R (lo Ag4 R R R) ?_)
  obtain ⟨v7,hv7,h⟩:=Ae h
  refine Ba R Ary (Aa R Af) (An R) (Oq hv7) (sv R (B0 R) (rm 1 R (ssI 12 h R (fun h=>?_) (fun h=>?_))))
  ·refine rm 4 R (Ak (Ci R (fun _=>?_) (fun hx=>Bool.noConfusion hx)))
   refine csr (sv R (A6 Atr Awh A1 (.nil _)) (sst Atm R R R R R (rm 1 R (Ak (Bs (Ag ?_))))))
   obtain rfl:=SJ h
   exact dn (Ad (ra Ag4 R R R) (Ad (rt R) Ai)) (Ip R) R
  ·refine son R R R (ld Ady R R R R (son R R R ?_))
   obtain ⟨v8,hv8,h⟩:=Ae h
   refine Ba R Awu (Aa R Af) (An R) (On hv8) (son R R R (sv R (B0 R) (rm 1 R (Ak (ccI h R (fun h=>?_) (fun h=>?_))))))
   ·refine csr (sv R (A6 Atr Awh A1 (.nil _)) (sst Atm R R R R R (rm 1 R (Ak (Bs (Ag ?_))))))
    obtain rfl:=SJ h
    exact dn (Ad (ra Ag4 R R R) (Ad (rt R) Ai)) (Ip R) R
   ·refine Bf (Ab ?_)
    exact ⟨(),_,h,⟨R,R,R,trivial⟩,R⟩
def Qh (a0:Ah) (a1:Be) (a2:Int):Option Ah :=
 (Rw a2 1).bind fun v1=>if v1 then (some a0) else ((Cv a0 a1).bind fun v2=>some v2)
theorem Aao {a0:Ah} {a1:Be} {a2:Int} {r:Ah} (h:Qh a0 a1 a2=some r):Br Tryz.prog 66 [.agg (EL.el a0),.agg (EL.el a1),.one (.raw (.iface 62 (.int .i64 a2)))] (·=.s (.agg (EL.el r))):=by
 unfold Qh at h
 refine A5 Tryz.func66 R (nt:=14) R (Nbl R) ?_
 intro w0 S0
 refine csr (F4 R R (F4 R R (Bp R Qw (Ak (Bl (csr (rm 1 R (sv R (Aio Tryz.underlying62 R) ?_))))))))
 obtain ⟨v1,hv1,h⟩:=Ae h
 refine Ba R Ayx (Aa R (Aa R Af)) (An R) (Yy hv1) (Ak (ccI h R (fun h=>?_) (fun h=>?_)))
 ·refine csr (ld Dd R R R R (sst Jn R R R R R (Ak (Bs (Ag ?_)))))
  obtain rfl:=SJ h
  exact dnA R Dd R (.lp _ _ _ R) (Nbl R) R R
 ·refine Bf (Ab (csr (ld Dd R R R R (sv R (lo X9 R R R) ?_))))
  obtain ⟨v2,hv2,h⟩:=Ae h
  refine Ba R Aud (Aa R (Aa R Af)) (An R) (Ih hv2) (sst Jn R R R R R (Ak (Bs ?_)))
  obtain rfl:=SJ h
  exact dnA R Dd R (.lp _ _ _ R) (Nbl R) R R
def Jd (a0:List Be):Option (List Be) :=
 if (([]:List Be).length+a0.length)*64≤140737488355328 then (some (([]:List Be)++a0)) else none
theorem Ux {a0:List Be} {r:(List Be)} (h:Jd a0=some r):Dl Tryz.prog 139 [] [.one (.sl a0.length (a0.flatMap Bm))] (fun y m'=>y=.s (.one (.ls 0 r.length))∧m'=[.arr 88 6 0 (r.flatMap Bm)]):=by
 unfold Jd at h
 refine Dc Tryz.func139 R (nt:=8) R (Nbl R) ?_
 intro w0 S0 X0 H0
 refine csr (rm 1 R (Ak (Bl (csr (rm 1 R (Ac4 R Tryz.underlying38 R (fun nq hnq=>?_)))))))
 cases nq
 ·skip
  refine Ak (Ci R (fun hx=>Bool.noConfusion hx) (fun _=>?_))
  refine Bf (Ab (csr (S8 R Tryz.underlying38 Atz (sv R (A4 R) ?_))))
  obtain ⟨hb1,h⟩:=Cp h
  refine Tr (f:=Bm) (xs:=([]:List Be)) (us:=a0) R Tryz.underlying38 Atz Ax2 (fun _=>R) R R (.one _ _ _ _ (.id _ R)) R R R (.sl _ _ _ (Au (f:=Bm) (fun _=>R) _)) R R hb1 (by decide) ?_
  refine rm 1 R (Ak (Bs ?_))
  obtain rfl:=SJ h
  exact ⟨Or.inr R,_,[0],[.one (.ls 0 (([]:List Be)++a0).length)],[.arr 88 6 0 ((([]:List Be)++a0).flatMap Bm)],(Ad (rt R) Ai),R,R,⟨by decide,R⟩,R,R,⟨R,R⟩⟩
 ·obtain rfl:=zZ (hnq rfl)
  replace h:(some ([]:List Be))=some r:=by first | exact h | (rw [if_pos (by decide)] at h;exact h)
  refine Ak (Ci R (fun _=>?_) (fun hx=>Bool.noConfusion hx))
  refine csr (rm 1 R (Ak ?_))
  refine C6 88 6 2 (by decide) R ?_
  refine Bs (Ag ?_)
  obtain rfl:=SJ h
  exact ⟨Or.inr R,_,[0],[.one (.ls 0 ([]:List Be).length)],[.arr 88 6 0 (([]:List Be).flatMap Bm)],(Ad (rt R) Ai),R,R,⟨by decide,R⟩,R,R,⟨R,R⟩⟩
def Nw (a0:Ah) (a1:Be):Option Ah :=
 (Jd a0.Open).bind fun v1=>(Ee (Ah.mk (Bu.mk a0.Store.Keys a0.Store.Chains a0.Store.Ts) (Bc.mk a0.Cert.Txs (Bv.mk a0.Cert.Reads.L)) (Bi.mk a0.Toks.L) a0.Open a0.Next) a1.ID).bind fun v2=>(idx v1 v2).bind fun u3=>some (Ah.mk (Bu.mk a0.Store.Keys a0.Store.Chains a0.Store.Ts) (Bc.mk a0.Cert.Txs (Bv.mk a0.Cert.Reads.L)) (Bi.mk a0.Toks.L) (v1.set v2.toNat a1) a0.Next)
theorem Wz {a0:Ah} {a1:Be} {r:Ah} (h:Nw a0 a1=some r):Br Tryz.prog 67 [.agg (EL.el a0),.agg (EL.el a1)] (·=.s (.agg (EL.el r))):=by
 unfold Nw at h
 refine A5 Tryz.func67 R (nt:=19) R (Nbl R) ?_
 intro w0 S0
 refine csr (F4 R R (F4 R R (Bp R Qw (Ak (csr (sv R (Ac Qt R) (sv R (l1 Ahe R R R) ?_)))))))
 obtain ⟨v1,hv1,h⟩:=Ae h
 refine Ie (x':=.s (.one (.ls 3 v1.length))) (M':=[.box (EL.el a0),.box (EL.el a1),.box Zba,.arr 88 6 0 (v1.flatMap Bm)]) [] R Ax5 (.func _) (Aa R Af) (Ux hv1) R R (by decide) R R R ?_
 refine rm 1 R (Ak (Bl ?_))
 obtain ⟨v2,hv2,h⟩:=Ae h
 obtain ⟨u3,hu3,h⟩:=Ae h
 refine Ig [7] [0,0,0,4,14,0,63,127] [[.box (EL.el a0),.box (EL.el a1),.box Zba,.arr 88 6 0 (v1.flatMap Bm)],[.box (EL.el a0),.box (EL.el a1),.box Zba,.arr 88 6 0 ((v1.set v2.toNat a1).flatMap Bm)]] (by kernel_rfl) mixed (by kernel_rfl) (by decide) R R R R ?_
 refine ev (A7 0 R R) R R (A4 R) (ev (A7 0 R R) R R (lo Dd R R R) (ev (A7 0 R R) R R (Ac R9 R) (ev (A7 0 R R) R R (l1 ti3 R R R) (ed (A7 0 R R) R R (Cy Azn (Aa R (Aa R Af)) R (Q3 hv2)) (ev (A7 0 R R) R R (lo X9 R R R) ?_)))))
 refine ev (A7 0 rfl rfl) rfl rfl (Et (f:=Bm) Y1 (fun _=>rfl) rfl rfl rfl (by first | rfl | exact List.length_set.symm) rfl hu3) ?_
 refine ee0 0 R R R R (fun ζ=>?_) ?_
 ·refine Zw (f:=Bm) (u':=a1) (sz:=6) 0 Ab7 (fun _=>rfl) rfl rfl rfl rfl (by first | rfl | exact List.length_set.symm) rfl rfl (zJ.1 rfl) (Gq hu3).2 (Nbl rfl) rfl ?_
  exact Sv
 refine Aas (Ab (Xp 8 (y:=.s (.one (.ls 3 v1.length))) (.s (.one (.ls 3 (v1.set v2.toNat a1).length))) R (congrArg (fun n=>AV.s (.one (.ls 3 n))) List.length_set.symm) ?_))
 refine Xp 5 (y:=.s (.one (.ls 3 v1.length))) (.s (.one (.ls 3 (v1.set v2.toNat a1).length))) R (congrArg (fun n=>AV.s (.one (.ls 3 n))) List.length_set.symm) ?_
 refine Xp 9 (y:=.s (.one (.ls 3 v1.length))) (.s (.one (.ls 3 (v1.set v2.toNat a1).length))) R (congrArg (fun n=>AV.s (.one (.ls 3 n))) List.length_set.symm) ?_
 refine csr (rm 1 R (sv R (Ac Qt R) (sst Az9 R R R R R (Ak (csr (ld Dd R R R R (sst Jn R R R R R (Ak (Bs ?_)))))))))
 obtain rfl:=SJ h
 refine ⟨Or.inr R,_,_,_,(Ad (ra Dd R R R) Ai),(by (repeat' first | exact Ic.nil _ | apply Ic.cons | apply H6.one | apply H6.agg | exact Cz.nil | exact Cz.ls _ _ _ _ _ _ R (Au (f:=Bm) (fun _=>R) _).symm | exact Cz.id _ R | exact Co.nil _ | apply Co.cons)),?_⟩
 rfl
def Mv (a0:Ah) (a1:Int) (a2:Av):Option (Ah × Int) :=
 (Hg a0 a1).bind fun v1=>if (!decide (v1.2=0)) then ((Dk a0 v1.2).bind fun v2=>some (v2,v1.2)) else (if v1.1.RO then (some (a0,7)) else ((Ec v1.1.Buf a2).bind fun v3=>if (!decide (v3.2=0)) then ((Qh a0 v1.1 v3.2).bind fun v4=>some (v4,v3.2)) else ((Nw a0 ({v1.1 with Buf:=v3.1})).bind fun v5=>some (v5,0))))
theorem Qi {a0:Ah} {a1:Int} {a2:Av} {r:Ah × Int} (h:Mv a0 a1 a2=some r):Br Tryz.prog 25 [.agg (EL.el a0),.one (Ii6 a1),.agg (EL.el a2)] (·=.tup [.agg (EL.el r.1),.one (Ii6 r.2)]):=by
 unfold Mv at h
 refine A5 Tryz.func25 R (nt:=46) R (Nbl R) ?_
 intro w0 S0
 refine csr (F4 R R (F4 R R (Bp R Qw (rm 1 R (Ak (csr (ld Dd R R R R (sv R (A4 R) ?_))))))))
 obtain ⟨v1,hv1,h⟩:=Ae h
 refine Ba R Awl (Aa R (Aa R Af)) (An R) (Nq hv1) (sv R (Ca R) (sv R (Aj R R) (sv R (Aj R R) (Bp R Ab1 (sst Ab7 R R R R R (rm 1 R (Ak (Bl (csr (rm 1 R (sv R (Db R R) (Ak (ccI h R (fun h=>?_) (fun h=>?_))))))))))))))
 ·refine csr (ld Dd R R R R (sv R (A4 R) ?_))
  obtain ⟨v2,hv2,h⟩:=Ae h
  refine Ba R Atb (Aa R (Aa R Af)) (An R) (Jr hv2) (rm 1 R (sst Jn R R R R R (rm 1 R (Ak (Bs (Ag ?_))))))
  obtain rfl:=SJ h
  exact dn (Ad (ra Dd R R R) (Ad (rt R) Ai)) (An R) R
 ·refine Bf (Ab (Bl (csr (fl Am0 ti4 R R R R R R (Ak (ccI h R (fun h=>?_) (fun h=>?_)))))))
  ·refine csr (ld Dd R R R R (sst Jn R R R R R (rm 1 R (Ak (Bs (Ag ?_))))))
   obtain rfl:=SJ h
   exact dn (Ad (ra Dd R R R) (Ad (rt R) Ai)) (An R) R
  ·refine Bf (Ab (csr (sv R (Ac Yq R) (ld Ag4 R R R R (sv R (lo Ady R R R) ?_)))))
   obtain ⟨v3,hv3,h⟩:=Ae h
   refine Ba R A00 (Aa R (Aa R Af)) (An R) (Yw hv3) (sv R (Ca R) (sv R (Aj R R) (sv R (Aj R R) (Bp R Atr (sst Atm R R R R R (rm 1 R (Ak (Bl (csr (rm 1 R (sv R (Db R R) (Ak (ccI h R (fun h=>?_) (fun h=>?_))))))))))))))
   ·refine csr (ld Dd R R R R (ld X9 R R R R (rm 1 R (sv R (Aio Tryz.underlying62 R) ?_))))
    obtain ⟨v4,hv4,h⟩:=Ae h
    refine Ba R A0z (Aa R (Aa R (Aa R Af))) (An R) (Aao hv4) (rm 1 R (sst Jn R R R R R (rm 1 R (Ak (Bs (Ag ?_))))))
    obtain rfl:=SJ h
    exact dn (Ad (ra Dd R R R) (Ad (rt R) Ai)) (An R) R
   ·refine Bf (Ab (csr (ld Ag4 R R R R (sv R (Ac Yq R) (sst Atm R R R R R (Ak (csr (ld Dd R R R R (sv R (lo X9 R R R) ?_)))))))))
    obtain ⟨v5,hv5,h⟩:=Ae h
    refine Ba R A1x (Aa R (Aa R Af)) (An R) (Wz hv5) (sst Jn R R R R R (rm 1 R (Ak (Bs ?_))))
    obtain rfl:=SJ h
    exact dn (Ad (ra Dd R R R) (Ad (rt R) Ai)) (An R) R
def O2 (b1:(List (List UInt8))):Option (List (List UInt8)) :=
 some b1
def Od (a0:B2) (s2:Int × (List (List UInt8))):Option (LB (Int × (List (List UInt8))) ((List (List UInt8)))) :=
 if (decide (s2.1<(a0.L.length:Int))) then ((idx a0.L s2.1).bind fun u3=>if (s2.2.length+[u3.Key].length)*24≤140737488355328 then (some (.cont ((wI (s2.1+1)),(s2.2++[u3.Key])))) else none) else (some (.brk s2.2))
def My (a0:B2):Option (List (List UInt8)) :=
 (Ct (Od a0) fuel (0,([]:List (List UInt8)))).bind fun e5=>O2 e5
theorem X6 {a0:B2} {r:(List (List UInt8))} (h:My a0=some r):Br Tryz.prog 141 [.agg [.sl a0.L.length (a0.L.flatMap Ao)]] (·=.s (.one (.sl r.length (r.flatMap (eL eU8))))):=by
 unfold My at h
 refine A5 Tryz.func141 R (nt:=20) R (Nbl R) ?_
 intro w0 S0
 refine csr (F4 R R (rm 1 R (Ak (csr (rm 1 R (Ak (Bl (csr (fl Xc Aot R R R R R R (sv R (Aw V5 R) (rm 1 R (Ak ?_))))))))))))
 refine C6 56 1 3 (by decide) R ?_
 refine cj ((List (List UInt8))) (fun b1=>[(3,.s (.one (.ls 1 b1.length)))]) (fun b1=>[.box [.sl a0.L.length (a0.L.flatMap Ao)],.arr 56 1 0 (b1.flatMap (eL eU8))]) (fun b1=>O2 b1=some r) (fun _=>R) (fun b1 h=>?_) ?_
 ·unfold O2 at h
  refine csr (rm 2 R (Ak (Bs ?_)))
  obtain rfl:=SJ h
  refine ⟨Or.inr R,_,_,_,(Ad (rt R) Ai),(by (repeat' first | exact Ic.nil _ | apply Ic.cons | apply H6.one | apply H6.agg | exact Cz.nil | exact Cz.ls _ _ _ _ _ _ R (Au (f:=(eL eU8)) (fun _=>R) _).symm | exact Cz.id _ R | exact Co.nil _ | apply Co.cons)),?_⟩
  rfl
 ·skip
  refine Bq ?_
  obtain ⟨x2,hx2,ho2⟩:=Ae h
  refine lpo (G:=Nat × (Int × (List (List UInt8)))) (fun g=>[(3,.s (.one (.ls 1 g.2.2.length))),(7,.s (.one (.sl a0.L.length (a0.L.flatMap Ao)))),(8,.s (.one (Ii6 (a0.L.length:Int)))),(9,.s (.one (Ii6 g.2.1)))]) (fun g=>[.box [.sl a0.L.length (a0.L.flatMap Ao)],.arr 56 1 0 (g.2.2.flatMap (eL eU8))]) (fun g=>Ct (Od a0) g.1 g.2=some x2) (fun g=>g.1) (fuel,(0,([]:List (List UInt8)))) hx2 ⟨R,R,R,R,trivial⟩ [] R (fun _=>R) ?_
  clear hx2 h
  rintro ⟨n2,s2⟩ h
  obtain ⟨n2,y2,rfl,h,hk2⟩:=Cu h
  unfold Od at h
  refine csr (sv R (Bt R R) (Ak (Bl (ccI h R (fun h=>?_) (fun h=>?_)))))
  ·refine Bf (Ab (Bl (Bq (Bl (Aq ?_)))))
   obtain ⟨u3,hu3,h⟩:=Ae h
   refine sv R (B8 (f:=Ao) V5 (fun _=>R) R R R R hu3) ?_
   refine sv R (Bz (ys:=[.sl u3.Key.length (u3.Key.flatMap eU8),.sl u3.Val.length (u3.Val.flatMap eU8),.b u3.Del]) Ady R (.cp _) R R) (Bp R Ajk (sst Al2 R R R R R (Ak (Aq (rm 1 R (sv R (Ac Qg R) (sv R (l1 Mz R R R) ?_)))))))
   refine Fo R Tryz.underlying25 Af4 R R (zJ.1 R) (by decide) ?_
   refine Pz [.box [.sl a0.L.length (a0.L.flatMap Ao)],.arr 56 1 0 (s2.2.flatMap (eL eU8)),.box (EL.el u3),.arr 56 1 0 ([u3.Key].flatMap (eL eU8))] R ?_
   obtain ⟨hb4,h⟩:=Cp h
   refine Tr (f:=(eL eU8)) (xs:=s2.2) (us:=[u3.Key]) R Tryz.underlying25 Af4 Ase (fun _=>R) R R (.one _ _ _ _ (.ls _ _ _ _ _ _ R (Au (f:=(eL eU8)) (fun _=>R) [u3.Key]).symm)) R R R (.sl _ _ _ (Au (f:=(eL eU8)) (fun _=>R) _)) R R hb4 (by decide) ?_
   refine rm 1 R (Kz (Ap (Ab (Aq (sv R (Bo R R) (rm 1 R (Ak ?_)))))))
   obtain rfl:=SJ h
   exact ⟨(n2,((wI (s2.1+1)),(s2.2++[u3.Key]))),_,hk2,⟨R,R,R,R,trivial⟩,R,zG _⟩
  ·refine Da (As (As (Bj (Ab ?_))))
   obtain rfl:=SJ h
   obtain rfl:_=x2:=hk2
   exact ⟨s2.2,_,ho2,⟨R,trivial⟩,R⟩
def Oz (b2:Unit):Option Bool :=
 some true
def Gp (a0:Bc) (a2:Int) (s3:Int):Option (LR (Int) (Unit) (Bool)) :=
 if (decide (s3<(a0.Txs.length:Int))) then ((idx a0.Txs s3).bind fun u4=>if (decide (a2≤u4.End)) then (some (.ret false)) else (some (.cont (wI (s3+1))))) else (some (.brk ()))
def Gs (a0:Bc) (a2:Int) (b1:Unit):Option Bool :=
 (Lj (Gp a0 a2) fuel 0).bind fun x=>match x with | .inl r=>some r | .inr e5=>Oz e5
def Me (a0:Bc) (a1:A2) (a2:Int) (a3:List (List UInt8)):Option Bool :=
 if (decide (a2≤a1.Begin)) then (some false) else (if (decide (1099511627776<a2)) then (some false) else ((Ht a3).bind fun v6=>if (!v6) then (some false) else (if a1.RO then (if (decide (0<(a3.length:Int))) then (some false) else (Gs a0 a2 ())) else (Gs a0 a2 ()))))
theorem Ye {a0:Bc} {a1:A2} {a2:Int} {a3:List (List UInt8)} {r:Bool} (h:Me a0 a1 a2 a3=some r):Br Tryz.prog 209 [.agg (EL.el a0),.agg (EL.el a1),.one (Ii6 a2),.one (.sl a3.length (a3.flatMap (eL eU8)))] (·=.s (.one (.b r))):=by
 unfold Me at h
 refine A5 Tryz.func209 R (nt:=45) R (Nbl R) ?_
 intro w0 S0
 refine csr (F4 R R (F4 R R (rm 1 R (Ak (Bl (Bl (cj3 (Unit) (fun b1=>[(2,.s (.one (Ii6 a2))),(4,.s (.one (.lp 0 0)))]) (fun b1=>[.box (EL.el a0),.box (EL.el a1)]) (fun b1=>Gs a0 a2 b1=some r) (fun _=>R) (fun b1 h=>?_) ?_)))))))
 ·unfold Gs at h
  refine Bl (csr (fl Oo Aa8 R R R R R R (sv R (Aw Qm R) (rm 1 R (Ak (cj (Unit) (fun b2=>[]) (fun b2=>[.box (EL.el a0),.box (EL.el a1)]) (fun b2=>Oz b2=some r) (fun _=>R) (fun b2 h=>?_) ?_))))))
  ·unfold Oz at h
   refine csr (rm 1 R (Ak (Bs ?_)))
   obtain rfl:=SJ h
   exact dnT R R R R
  ·skip
   refine Bq ?_
   obtain ⟨x3,hx3,ho3⟩:=Ae h
   refine lpo (G:=Nat × (Int)) (fun g=>[(2,.s (.one (Ii6 a2))),(34,.s (.one (.sl a0.Txs.length (a0.Txs.flatMap Bb)))),(35,.s (.one (Ii6 (a0.Txs.length:Int)))),(36,.s (.one (Ii6 g.2)))]) (fun g=>[.box (EL.el a0),.box (EL.el a1)]) (fun g=>Lj (Gp a0 a2) g.1 g.2=some x3) (fun g=>g.1) (fuel,0) hx3 ⟨R,R,R,R,trivial⟩ [] R (fun _=>R) ?_
   clear hx3 h
   rintro ⟨n3,s3⟩ h
   obtain ⟨n3,y3,rfl,h,hk3⟩:=Es h
   unfold Gp at h
   refine csr (sv R (Bt R R) (Ak (Bl (ccI h R (fun h=>?_) (fun h=>?_)))))
   ·refine Bf (Ab (Bl (Bq (Bl (Aq ?_)))))
    obtain ⟨u4,hu4,h⟩:=Ae h
    refine sv R (B8 (f:=Bb) Qm (fun _=>R) R R R R hu4) ?_
    refine sv R (Bz (ys:=[Ii6 u4.ID,Ii6 u4.Begin,Ii6 u4.End,Ii6 u4.State,.b u4.In,.b u4.Out,.b u4.RO,.sl u4.Keys.length (u4.Keys.flatMap (eL eU8))]) Ju R (.cp _) R R) (Bp R Tj (sst Tb R R R R R (Ak (csr (rm 1 R (fl Q0 ti3 R R R R R R (sv R (De R R) (Ak (ccI h R (fun h=>?_) (fun h=>?_))))))))))
    ·refine csr (rm 1 R (Ak (Bs (Az (Ag (Ag (Az (Ag ?_))))))))
     obtain rfl:=SJ h
     obtain rfl:Sum.inl _=x3:=hk3
     replace ho3:some _=some _:=ho3
     obtain rfl:=zD ho3
     exact dnT R R R R
    ·refine Bf (Ap (Ab (Aq (sv R (Bo R R) (rm 1 R (Ak ?_))))))
     obtain rfl:=SJ h
     exact ⟨(n3,(wI (s3+1))),_,hk3,⟨R,R,R,R,trivial⟩,R,zG _⟩
   ·refine Da (As (As (Bj (Ab ?_))))
    obtain rfl:=SJ h
    obtain rfl:_=x3:=hk3
    exact ⟨(),_,ho3,trivial,R⟩
 ·skip
  refine Aq (rm 1 R (fl Vx ti3 R R R R R R (sv R (De R R) (rm 1 R (ssI 15 h R (fun h=>?_) (fun h=>?_))))))
  ·refine rm 12 R (Ch R R R (Ch R R R (Ch R R R (rm 2 R (Ak (Ci R (fun _=>?_) (fun hx=>Bool.noConfusion hx)))))))
   refine csr (rm 1 R (Ak (Bs (Ag ?_))))
   obtain rfl:=SJ h
   exact dnT R R R R
  ·refine rm 1 R (son R R R (sv R (C5 R R) (rm 2 R (ssI 19 h R (fun h=>?_) (fun h=>?_)))))
   ·refine rm 8 R (Ch R R R (Ch R R R (Ch R R R (rm 2 R (Ak (Ci R (fun _=>?_) (fun hx=>Bool.noConfusion hx)))))))
    refine csr (rm 1 R (Ak (Bs (Ag ?_))))
    obtain rfl:=SJ h
    exact dnT R R R R
   ·refine rm 1 R (son R R R ?_)
    obtain ⟨v6,hv6,h⟩:=Ae h
    refine Ba R Aut (Aa R Af) (An R) (Q9 hv6) (son R R R (sv R (B0 R) (rm 2 R (ssI 24 h R (fun h=>?_) (fun h=>?_)))))
    ·refine rm 3 R (Ch R R R (Ch R R R (Ch R R R (rm 2 R (Ak (Ci R (fun _=>?_) (fun hx=>Bool.noConfusion hx)))))))
     refine csr (rm 1 R (Ak (Bs (Ag ?_))))
     obtain rfl:=SJ h
     exact dnT R R R R
    ·refine son R R R (sv R (Ac Ahl R) (son R R R (sv R (l1 ti4 R R R) (rm 1 R (ssI 27 h R (fun h=>?_) (fun h=>?_))))))
     ·refine rm 1 R (son R R R (sv R (Aw S7 R) (son R R R (sv R (C5 R R) (rm 2 R (Ak (ccI h R (fun h=>?_) (fun h=>?_))))))))
      ·refine csr (rm 1 R (Ak (Bs (Ag ?_))))
       obtain rfl:=SJ h
       exact dnT R R R R
      ·refine Bf (Ab ?_)
       exact ⟨(),_,h,⟨R,R,trivial⟩,R⟩
     ·refine rm 5 R (Ak (Ci R (fun hx=>Bool.noConfusion hx) (fun _=>?_)))
      refine Bf (Ab ?_)
      exact ⟨(),_,h,⟨R,R,trivial⟩,R⟩
def Nh (b1:Unit):Option Bool :=
 some false
def Gx (s2:Int) (b5:Unit):Option (LR (Int) (Unit) (Bool)) :=
 some (.cont (wI (s2+1)))
def E9 (a2:List (List UInt8)) (u3:A2) (s6:Int):Option (LR (Int) (Unit) (Bool)) :=
 if (decide (s6<(a2.length:Int))) then ((idx a2 s6).bind fun u7=>(K5 u3.Keys u7).bind fun v8=>if v8.2 then (some (.ret true)) else (some (.cont (wI (s6+1))))) else (some (.brk ()))
def J2 (a2:List (List UInt8)) (s2:Int) (u3:A2) (b4:Unit):Option (LR (Int) (Unit) (Bool)) :=
 (Lj (E9 a2 u3) fuel 0).bind fun x=>match x with | .inl r=>some (.ret r) | .inr e9=>Gx s2 e9
def Fb (a0:Bc) (a1:A2) (a2:List (List UInt8)) (s2:Int):Option (LR (Int) (Unit) (Bool)) :=
 if (decide (s2<(a0.Txs.length:Int))) then ((idx a0.Txs s2).bind fun u3=>if (!decide (u3.State=2)) then (some (.cont (wI (s2+1)))) else ((E2 a1 u3).bind fun v10=>if (!v10) then (some (.cont (wI (s2+1)))) else (J2 a2 s2 u3 ()))) else (some (.brk ()))
def Hp (a0:Bc) (a1:A2) (a2:List (List UInt8)):Option Bool :=
 (Lj (Fb a0 a1 a2) fuel 0).bind fun x=>match x with | .inl r=>some r | .inr e11=>Nh e11
theorem Vv {a0:Bc} {a1:A2} {a2:List (List UInt8)} {r:Bool} (h:Hp a0 a1 a2=some r):Br Tryz.prog 210 [.agg (EL.el a0),.agg (EL.el a1),.one (.sl a2.length (a2.flatMap (eL eU8)))] (·=.s (.one (.b r))):=by
 unfold Hp at h
 refine A5 Tryz.func210 R (nt:=45) R (Nbl R) ?_
 intro w0 S0
 refine csr (F4 R R (F4 R R (rm 1 R (Ak (Bl (csr (fl Oo Aa8 R R R R R R (sv R (Aw Qm R) (rm 1 R (Ak (cj (Unit) (fun b1=>[]) (fun b1=>[.box (EL.el a0),.box (EL.el a1)]) (fun b1=>Nh b1=some r) (fun _=>R) (fun b1 h=>?_) ?_)))))))))))
 ·unfold Nh at h
  refine csr (rm 1 R (Ak (Bs ?_)))
  obtain rfl:=SJ h
  exact dnT R R R R
 ·skip
  refine Bq ?_
  obtain ⟨x2,hx2,ho2⟩:=Ae h
  refine lpo (G:=Nat × (Int)) (fun g=>[(2,.s (.one (.sl a2.length (a2.flatMap (eL eU8))))),(4,.s (.one (.lp 1 0))),(14,.s (.one (.sl a0.Txs.length (a0.Txs.flatMap Bb)))),(15,.s (.one (Ii6 (a0.Txs.length:Int)))),(16,.s (.one (Ii6 g.2)))]) (fun g=>[.box (EL.el a0),.box (EL.el a1)]) (fun g=>Lj (Fb a0 a1 a2) g.1 g.2=some x2) (fun g=>g.1) (fuel,0) hx2 ⟨R,R,R,R,R,trivial⟩ [] R (fun _=>R) ?_
  clear hx2 h
  rintro ⟨n2,s2⟩ h
  obtain ⟨n2,y2,rfl,h,hk2⟩:=Es h
  unfold Fb at h
  refine csr (sv R (Bt R R) (Ak (Bl (ccI h R (fun h=>?_) (fun h=>?_)))))
  ·refine Bf (Ab (Bl (Bq (Bl (Aq ?_)))))
   obtain ⟨u3,hu3,h⟩:=Ae h
   refine sv R (B8 (f:=Bb) Qm (fun _=>R) R R R R hu3) ?_
   refine sv R (Bz (ys:=[Ii6 u3.ID,Ii6 u3.Begin,Ii6 u3.End,Ii6 u3.State,.b u3.In,.b u3.Out,.b u3.RO,.sl u3.Keys.length (u3.Keys.flatMap (eL eU8))]) Ju R (.cp _) R R) (Bp R Tj (sst Tb R R R R R (Ak (Bl (Bl (cj3 (Unit) (fun b4=>[(2,.s (.one (.sl a2.length (a2.flatMap (eL eU8))))),(4,.s (.one (.lp 1 0))),(8,.s (.one (.lp 2 0))),(14,.s (.one (.sl a0.Txs.length (a0.Txs.flatMap Bb)))),(15,.s (.one (Ii6 (a0.Txs.length:Int)))),(16,.s (.one (Ii6 s2)))]) (fun b4=>[.box (EL.el a0),.box (EL.el a1),.box (EL.el u3)]) (fun b4=>J2 a2 s2 u3 b4=some y2) (fun _=>R) (fun b4 h=>?_) ?_))))))
   ·unfold J2 at h
    refine csr (rm 1 R (sv R (Aw S7 R) (rm 1 R (Ak (Arr (Unit) (fun b5=>[(2,.s (.one (.sl a2.length (a2.flatMap (eL eU8))))),(4,.s (.one (.lp 1 0))),(14,.s (.one (.sl a0.Txs.length (a0.Txs.flatMap Bb)))),(15,.s (.one (Ii6 (a0.Txs.length:Int)))),(16,.s (.one (Ii6 s2)))]) (fun b5=>[.box (EL.el a0),.box (EL.el a1),.box (EL.el u3)]) (fun b5=>Gx s2 b5=some y2) (fun _ _=>Zn R) (fun _ _=>Rz R) (fun _ _=>Nbl R) (fun b5 h=>?_) ?_)))))
    ·unfold Gx at h
     refine Aq (sv R (Bo R R) (rm 1 R (Ak ?_)))
     obtain rfl:=SJ h
     exact ⟨(n2,(wI (s2+1))),_,hk2,⟨R,R,R,R,R,trivial⟩,R,zG _⟩
    ·skip
     refine Bq ?_
     obtain ⟨x6,hx6,ho6⟩:=Ae h
     refine lpo (G:=Nat × (Int)) (fun g=>[(2,.s (.one (.sl a2.length (a2.flatMap (eL eU8))))),(4,.s (.one (.lp 1 0))),(8,.s (.one (.lp 2 0))),(14,.s (.one (.sl a0.Txs.length (a0.Txs.flatMap Bb)))),(15,.s (.one (Ii6 (a0.Txs.length:Int)))),(16,.s (.one (Ii6 s2))),(29,.s (.one (.sl a2.length (a2.flatMap (eL eU8))))),(30,.s (.one (Ii6 (a2.length:Int)))),(31,.s (.one (Ii6 g.2)))]) (fun g=>[.box (EL.el a0),.box (EL.el a1),.box (EL.el u3)]) (fun g=>Lj (E9 a2 u3) g.1 g.2=some x6) (fun g=>g.1) (fuel,0) hx6 ⟨R,R,R,R,R,R,R,R,R,trivial⟩ [] R (fun _=>R) ?_
     clear hx6 h
     rintro ⟨n6,s6⟩ h
     obtain ⟨n6,y6,rfl,h,hk6⟩:=Es h
     unfold E9 at h
     refine csr (sv R (Bt R R) (Ak (Bl (ccI h R (fun h=>?_) (fun h=>?_)))))
     ·refine Bf (Ab (Bl (Bq (Bl (Aq ?_)))))
      obtain ⟨u7,hu7,h⟩:=Ae h
      refine sv R (B8 (f:=(eL eU8)) S7 (fun _=>R) R R R R hu7) ?_
      refine sv R (B6 Mz R (.cp _) R) (rm 1 R (Ak (csr (fl Uh Abe R R R R R R (sv R (A4 R) ?_)))))
      obtain ⟨v8,hv8,h⟩:=Ae h
      refine Ba R Axl (Aa R (Aa R Af)) (An R) (Q8 hv8) (sv R (Ca R) (sv R (Aj R R) (sv R (Aj R R) (rm 2 R (Ak (csr (rm 1 R (Ak (ccI h R (fun h=>?_) (fun h=>?_))))))))))
      ·refine csr (rm 1 R (Ak (Bs (Az (Ag (Ag (Az (Az (Ag (Ag (Az (Ag ?_))))))))))))
       obtain rfl:=SJ h
       obtain rfl:Sum.inl _=x6:=hk6
       replace ho6:some _=some _:=ho6
       obtain rfl:=zD ho6
       obtain rfl:Sum.inl _=x2:=hk2
       replace ho2:some _=some _:=ho2
       obtain rfl:=zD ho2
       exact dnT R R R R
      ·refine Bf (Ap (Ab (Aq (sv R (Bo R R) (rm 1 R (Ak ?_))))))
       obtain rfl:=SJ h
       exact ⟨(n6,(wI (s6+1))),_,hk6,⟨R,R,R,R,R,R,R,R,R,trivial⟩,R,zG _⟩
     ·refine Da (As (As (Bj (Ap (Ab ?_)))))
      obtain rfl:=SJ h
      obtain rfl:_=x6:=hk6
      exact ⟨(),_,ho6,⟨R,R,R,R,R,trivial⟩,R⟩
   ·skip
    refine Aq (fl Pj ti3 R R R R R R (sv R (Db R R) (rm 1 R (ssI 23 h R (fun h=>?_) (fun h=>?_)))))
    ·refine rm 5 R (Ak (Ci R (fun _=>?_) (fun hx=>Bool.noConfusion hx)))
     refine Da (As (Bj (Ab (Aq (sv R (Bo R R) (rm 1 R (Ak ?_)))))))
     obtain rfl:=SJ h
     exact ⟨(n2,(wI (s2+1))),_,hk2,⟨R,R,R,R,R,trivial⟩,R,zG _⟩
    ·refine son R R R (ld Ju R R R R (son R R R (ld Ju R R R R (son R R R ?_))))
     obtain ⟨v10,hv10,h⟩:=Ae h
     refine Ba R As2 (Aa R (Aa R Af)) (An R) (O9 hv10) (son R R R (sv R (B0 R) (rm 1 R (Ak (ccI h R (fun h=>?_) (fun h=>?_))))))
     ·refine Da (As (Bj (Ab (Aq (sv R (Bo R R) (rm 1 R (Ak ?_)))))))
      obtain rfl:=SJ h
      exact ⟨(n2,(wI (s2+1))),_,hk2,⟨R,R,R,R,R,trivial⟩,R,zG _⟩
     ·refine Bf (Ab ?_)
      exact ⟨(),_,h,⟨R,R,R,R,R,R,trivial⟩,R⟩
  ·refine Da (As (As (Bj (Ab ?_))))
   obtain rfl:=SJ h
   obtain rfl:_=x2:=hk2
   exact ⟨(),_,ho2,trivial,R⟩
def Akv:Go.Shelf.Ren:=⟨fun | 5=>269 | 8=>191 | 7=>278 | 19=>246 | 20=>247 | 10=>282 | 11=>283 | 12=>284 | 13=>285 | 14=>286 | 15=>287 | 16=>288 | 17=>289 | 18=>290 | 30=>293 | 31=>263 | 32=>264 | 33=>294 | 34=>295 | 35=>296 | 40=>297 | n=>n,fun | 23=>225 | 25=>3 | 3=>3 | 32=>307 | 22=>225 | 0=>0 | 44=>365 | 46=>367 | 4=>4 | 36=>359 | 35=>358 | 41=>177 | 5=>5 | 9=>9 | 53=>389 | 57=>393 | 63=>404 | 64=>405 | n=>n,fun | n=>n⟩
theorem Awm:Go.Proofs.SlLaysM.n5 Tryz.prog Akv:={
 mixed:=by kernel_rfl,
 f5 :=⟨ "slices.Sort[[]int,int]", by decide, Tryz.func269.trans (congrArg some (by kernel_rfl))⟩,
 f7 :=⟨ "slices.pdqsortOrdered[int]", by decide, Tryz.func278.trans (congrArg some (by kernel_rfl))⟩,
 f8:=Tryz.func191.trans (congrArg some (by kernel_rfl)),
 f10 :=⟨ "slices.insertionSortOrdered[int]", by decide, Tryz.func282.trans (congrArg some (by kernel_rfl))⟩,
 f11 :=⟨ "slices.heapSortOrdered[int]", by decide, Tryz.func283.trans (congrArg some (by kernel_rfl))⟩,
 f12 :=⟨ "slices.breakPatternsOrdered[int]", by decide, Tryz.func284.trans (congrArg some (by kernel_rfl))⟩,
 f13 :=⟨ "slices.choosePivotOrdered[int]", by decide, Tryz.func285.trans (congrArg some (by kernel_rfl))⟩,
 f14 :=⟨ "slices.reverseRangeOrdered[int]", by decide, Tryz.func286.trans (congrArg some (by kernel_rfl))⟩,
 f15 :=⟨ "slices.partialInsertionSortOrdered[int]", by decide, Tryz.func287.trans (congrArg some (by kernel_rfl))⟩,
 f16 :=⟨ "cmp.Less[int]", by decide, Tryz.func288.trans (congrArg some (by kernel_rfl))⟩,
 f17 :=⟨ "slices.partitionEqualOrdered[int]", by decide, Tryz.func289.trans (congrArg some (by kernel_rfl))⟩,
 f18 :=⟨ "slices.partitionOrdered[int]", by decide, Tryz.func290.trans (congrArg some (by kernel_rfl))⟩,
 f19:=Tryz.func246.trans (congrArg some (by kernel_rfl)),
 f20:=Tryz.func247.trans (congrArg some (by kernel_rfl)),
 f30 :=⟨ "slices.siftDownOrdered[int]", by decide, Tryz.func293.trans (congrArg some (by kernel_rfl))⟩,
 f31:=Tryz.func263.trans (congrArg some (by kernel_rfl)),
 f32:=Tryz.func264.trans (congrArg some (by kernel_rfl)),
 f33 :=⟨ "slices.medianAdjacentOrdered[int]", by decide, Tryz.func294.trans (congrArg some (by kernel_rfl))⟩,
 f34 :=⟨ "slices.medianOrdered[int]", by decide, Tryz.func295.trans (congrArg some (by kernel_rfl))⟩,
 f35 :=⟨ "cmp.isNaN[int]", by decide, Tryz.func296.trans (congrArg some (by kernel_rfl))⟩,
 f40 :=⟨ "slices.order2Ordered[int]", by decide, Tryz.func297.trans (congrArg some (by kernel_rfl))⟩,
 t0:=Tryz.underlying0,
 a0:=Tryz.isAgg0,
 z0:=Tryz.sizeOf0,
 v0:=Tryz.zeroValue0,
 t3:=Tryz.underlying3,
 a3:=Tryz.isAgg3,
 z3:=Tryz.sizeOf3,
 v3:=Tryz.zeroValue3,
 t4:=Tryz.underlying4,
 a4:=Tryz.isAgg4,
 z4:=Tryz.sizeOf4,
 v4:=Tryz.zeroValue4,
 t5:=Tryz.underlying5,
 a5:=Tryz.isAgg5,
 z5:=Tryz.sizeOf5,
 v5:=Tryz.zeroValue5,
 t9:=Tryz.underlying9,
 a9:=Tryz.isAgg9,
 z9:=Tryz.sizeOf9,
 v9:=Tryz.zeroValue9,
 t22:=Tryz.underlying225,
 a22:=Tryz.isAgg225,
 z22:=Tryz.sizeOf225,
 v22:=Tryz.zeroValue225,
 t23:=Tryz.underlying225,
 a23:=Tryz.isAgg225,
 z23:=Tryz.sizeOf225,
 v23:=Tryz.zeroValue225,
 t25:=Tryz.underlying3,
 a25:=Tryz.isAgg3,
 z25:=Tryz.sizeOf3,
 v25:=Tryz.zeroValue3,
 t32:=Tryz.underlying307,
 a32:=Tryz.isAgg307,
 z32:=Tryz.sizeOf307,
 v32:=Tryz.zeroValue307,
 t35:=Tryz.underlying358,
 a35:=Tryz.isAgg358,
 z35:=Tryz.sizeOf358,
 v35:=Tryz.zeroValue358,
 t36:=Tryz.underlying359,
 a36:=Tryz.isAgg359,
 z36:=Tryz.sizeOf359,
 v36:=Tryz.zeroValue359,
 t41:=Tryz.underlying177,
 a41:=Tryz.isAgg177,
 z41:=Tryz.sizeOf177,
 v41:=Tryz.zeroValue177,
 t44:=Tryz.underlying365,
 a44:=Tryz.isAgg365,
 z44:=Tryz.sizeOf365,
 v44:=Tryz.zeroValue365,
 t46:=Tryz.underlying367,
 a46:=Tryz.isAgg367,
 z46:=Tryz.sizeOf367,
 v46:=Tryz.zeroValue367,
 t53:=Tryz.underlying389,
 a53:=Tryz.isAgg389,
 z53:=Tryz.sizeOf389,
 v53:=Tryz.zeroValue389,
 t57:=Tryz.underlying393,
 a57:=Tryz.isAgg393,
 z57:=Tryz.sizeOf393,
 v57:=Tryz.zeroValue393,
 t63:=Tryz.underlying404,
 a63:=Tryz.isAgg404,
 z63:=Tryz.sizeOf404,
 v63:=Tryz.zeroValue404,
 t64:=Tryz.underlying405,
 a64:=Tryz.isAgg405,
 z64:=Tryz.sizeOf405,
 v64:=Tryz.zeroValue405 }
def N1 (a0:List Int):Option (List Int):=if a0.length≤1000000000000000000 then some (a0.mergeSort fun x y=>decide (x≤y)) else none
theorem Wy {a0 r:List Int} (h:N1 a0=some r):Dl Tryz.prog 269 [.arr 3 1 0 (a0.flatMap eI)] [.one (.ls 0 a0.length)] (fun y m'=>y=.tup []∧m'=[.arr 3 1 0 (r.flatMap eI)]):=by
 unfold N1 at h
 obtain ⟨hn,h⟩:=Cp h
 obtain rfl:=SJ h
 exact As1 Awm hn
def Akx:Go.Shelf.Ren:=⟨fun | 43=>270 | n=>n,fun | 22=>225 | 23=>3 | 3=>3 | 4=>4 | 0=>0 | n=>n,fun | n=>n⟩
theorem Aul:Go.Proofs.SlLaysE.n43 Tryz.prog Akx:={
 mixed:=by kernel_rfl,
 f43 :=⟨ "slices.Compact[[]int,int]", by decide, Tryz.func270.trans (congrArg some (by kernel_rfl))⟩,
 t0:=Tryz.underlying0,
 a0:=Tryz.isAgg0,
 z0:=Tryz.sizeOf0,
 v0:=Tryz.zeroValue0,
 t3:=Tryz.underlying3,
 a3:=Tryz.isAgg3,
 z3:=Tryz.sizeOf3,
 v3:=Tryz.zeroValue3,
 t4:=Tryz.underlying4,
 a4:=Tryz.isAgg4,
 z4:=Tryz.sizeOf4,
 v4:=Tryz.zeroValue4,
 t22:=Tryz.underlying225,
 a22:=Tryz.isAgg225,
 z22:=Tryz.sizeOf225,
 v22:=Tryz.zeroValue225,
 a23:=Tryz.isAgg3,
 z23:=Tryz.sizeOf3 }
theorem Aku:Br Tryz.prog 270 [.one (Znl)] (·=.s (.one (Znl))):=by
 refine A5 Tryz.func270 R (nt:=61) R (Nbl R) ?_
 intro w0 S0
 refine csr (rm 1 R (Ak (Bl (csr (rm 1 R (sv R (F2 Asb R) (sv R (Bt R R) (Ak ?_))))))))
 refine Ci R (fun _=>?_) (fun hx=>absurd hx (by decide))
 refine csr (rm 2 R (Ak (Bs (Ag (⟨Or.inr R,_,_,_,(Ad (rt R) Ai),(An R),?_⟩)))))
 rfl
def La (a0:List Int):Option (List Int):=if a0.length≤1000000000000000000 then some (Akl a0) else none
theorem Tq {a0 r:List Int} (h:La a0=some r):Dl Tryz.prog 270 [.arr 3 1 0 (a0.flatMap eI)] [.one (.ls 0 a0.length)] (fun y m'=>y=.s (.one (.ls 1 r.length))∧m'=[.dead,.arr 3 1 0 (r.flatMap eI)]):=by
 unfold La at h
 obtain ⟨hn,h⟩:=Cp h
 obtain rfl:=SJ h
 exact Ato Aul hn (Go.Proofs.EqlAt.intD _ _ .i64) (Go.Proofs.NeqAt.intD _ _ .i64) Tryz.zeroValue3 Aku
def Iw (b1:(List Int)):Option (List Int) :=
 (N1 b1).bind fun v2=>if v2.length=b1.length then ((La v2).bind fun v4=>some v4) else none
def Gl (a0:Bv) (a1:List UInt8) (s5:Int × (List Int)):Option (LB (Int × (List Int)) ((List Int))) :=
 if (decide (s5.1<(a0.L.length:Int))) then ((idx a0.L s5.1).bind fun u6=>(G8 u6.Rng a1).bind fun v7=>if v7 then (if (s5.2.length+[u6.Tx].length)*8≤140737488355328 then (some (.cont ((wI (s5.1+1)),(s5.2++[u6.Tx])))) else none) else (some (.cont ((wI (s5.1+1)),s5.2)))) else (some (.brk s5.2))
def Ke (a0:Bv) (a1:List UInt8):Option (List Int) :=
 (Ct (Gl a0 a1) fuel (0,([]:List Int))).bind fun e9=>Iw e9
theorem Sp {a0:Bv} {a1:List UInt8} {r:(List Int)} (h:Ke a0 a1=some r):Br Tryz.prog 254 [.agg [.sl a0.L.length (a0.L.flatMap Ar)],.one (.sl a1.length (a1.flatMap eU8))] (·=.s (.one (.sl r.length (r.flatMap eI)))):=by
 unfold Ke at h
 refine A5 Tryz.func254 R (nt:=29) R (Nbl R) ?_
 intro w0 S0
 refine csr (F4 R R (rm 1 R (Ak (csr (rm 1 R (Ak (Bl (csr (fl Vl Ajx R R R R R R (sv R (Aw Abf R) (rm 1 R (Ak ?_))))))))))))
 refine C6 3 1 5 (by decide) R ?_
 refine cj ((List Int)) (fun b1=>[(5,.s (.one (.ls 1 b1.length)))]) (fun b1=>[.box [.sl a0.L.length (a0.L.flatMap Ar)],.arr 3 1 0 (b1.flatMap eI)]) (fun b1=>Iw b1=some r) (fun _=>R) (fun b1 h=>?_) ?_
 ·unfold Iw at h
  refine csr (sv R (A4 R) ?_)
  obtain ⟨v2,hv2,h⟩:=Ae h
  refine Ie (x':=.tup []) (M':=[.box [.sl a0.L.length (a0.L.flatMap Ar)],.arr 3 1 0 (v2.flatMap eI)]) [1] R Azi (.func _) (Aa R Af) (Wy hv2) R R (by decide) R R R ?_
  obtain ⟨hl3,h⟩:=Cp h
  refine Mx 5 (y:=.s (.one (.ls 1 b1.length))) (.s (.one (.ls 1 v2.length))) R (congrArg (fun n=>AV.s (.one (.ls 1 n))) hl3.symm) ?_
  refine Mx 25 (y:=.s (.one (.ls 1 b1.length))) (.s (.one (.ls 1 v2.length))) R (congrArg (fun n=>AV.s (.one (.ls 1 n))) hl3.symm) ?_
  refine Ak (csr (sv R (A4 R) ?_))
  obtain ⟨v4,hv4,h⟩:=Ae h
  refine Ie (x':=.s (.one (.ls 2 v4.length))) (M':=[.box [.sl a0.L.length (a0.L.flatMap Ar)],.dead,.arr 3 1 0 (v4.flatMap eI)]) [1] R Azc (.func _) (Aa R Af) (Tq hv4) R R (by decide) R R R ?_
  refine rm 1 R (Ak (Bs ?_))
  obtain rfl:=SJ h
  refine ⟨Or.inr R,_,_,_,(Ad (rt R) Ai),(by (repeat' first | exact Ic.nil _ | apply Ic.cons | apply H6.one | apply H6.agg | exact Cz.nil | exact Cz.ls _ _ _ _ _ _ R (Au (f:=eI) (fun _=>R) _).symm | exact Cz.id _ R | exact Co.nil _ | apply Co.cons)),?_⟩
  rfl
 ·skip
  refine Bq ?_
  obtain ⟨x5,hx5,ho5⟩:=Ae h
  refine lpo (G:=Nat × (Int × (List Int))) (fun g=>[(1,.s (.one (.sl a1.length (a1.flatMap eU8)))),(5,.s (.one (.ls 1 g.2.2.length))),(9,.s (.one (.sl a0.L.length (a0.L.flatMap Ar)))),(10,.s (.one (Ii6 (a0.L.length:Int)))),(11,.s (.one (Ii6 g.2.1)))]) (fun g=>[.box [.sl a0.L.length (a0.L.flatMap Ar)],.arr 3 1 0 (g.2.2.flatMap eI)]) (fun g=>Ct (Gl a0 a1) g.1 g.2=some x5) (fun g=>g.1) (fuel,(0,([]:List Int))) hx5 ⟨R,R,R,R,R,trivial⟩ [] R (fun _=>R) ?_
  clear hx5 h
  rintro ⟨n5,s5⟩ h
  obtain ⟨n5,y5,rfl,h,hk5⟩:=Cu h
  unfold Gl at h
  refine csr (sv R (Bt R R) (Ak (Bl (ccI h R (fun h=>?_) (fun h=>?_)))))
  ·refine Bf (Ab (Bl (Bq (Bl (Aq ?_)))))
   obtain ⟨u6,hu6,h⟩:=Ae h
   refine sv R (B8 (f:=Ar) Abf (fun _=>R) R R R R hu6) ?_
   refine sv R (Bz (ys:=[Ii6 u6.Tx,.sl u6.Rng.Lo.length (u6.Rng.Lo.flatMap eU8),.sl u6.Rng.Hi.length (u6.Rng.Hi.flatMap eU8),.b u6.Rng.Open]) Aa0 R (.cp _) R R) (Bp R Akh (sst Amj R R R R R (Ak (csr (sv R (Ac X4 R) (ld Ada R R R R (sv R (A4 R) ?_)))))))
   obtain ⟨v7,hv7,h⟩:=Ae h
   refine Ba R Amo (Aa R (Aa R Af)) (An R) (Mj hv7) (Ak (ccI h R (fun h=>?_) (fun h=>?_)))
   ·refine Aq (rm 1 R (sv R (Ac Ado R) (sv R (l1 ti3 R R R) ?_)))
    refine Fo R Tryz.underlying225 ei3 R R (zJ.1 R) (by decide) ?_
    refine Pz [.box [.sl a0.L.length (a0.L.flatMap Ar)],.arr 3 1 0 (s5.2.flatMap eI),.box (EL.el u6),.arr 3 1 0 ([u6.Tx].flatMap eI)] R ?_
    obtain ⟨hb8,h⟩:=Cp h
    refine Tr (f:=eI) (xs:=s5.2) (us:=[u6.Tx]) R Tryz.underlying225 ei3 Am9 (fun _=>R) R R (.one _ _ _ _ (.ls _ _ _ _ _ _ R (Au (f:=eI) (fun _=>R) [u6.Tx]).symm)) R R R (.sl _ _ _ (Au (f:=eI) (fun _=>R) _)) R R hb8 (by decide) ?_
    refine rm 1 R (Kz (Ap (Ab (Aq (sv R (Bo R R) (rm 1 R (Ak ?_)))))))
    obtain rfl:=SJ h
    exact ⟨(n5,((wI (s5.1+1)),(s5.2++[u6.Tx]))),_,hk5,⟨R,R,R,R,R,trivial⟩,R,zG _⟩
   ·refine Bf (Ap (Ab (Aq (sv R (Bo R R) (rm 1 R (Ak ?_))))))
    obtain rfl:=SJ h
    exact ⟨(n5,((wI (s5.1+1)),s5.2)),_,hk5,⟨R,R,R,R,R,trivial⟩,R,zG _⟩
  ·refine Da (As (As (Bj (Ab ?_))))
   obtain rfl:=SJ h
   obtain rfl:_=x5:=hk5
   exact ⟨s5.2,_,ho5,⟨R,trivial⟩,R⟩
def Mn (b1:(List Int)):Option (List Int) :=
 some b1
def Mk (a0:Bc) (a1:List (List UInt8)) (s2:Int × (List Int)):Option (LB (Int × (List Int)) ((List Int))) :=
 if (decide (s2.1<(a1.length:Int))) then ((idx a1 s2.1).bind fun u3=>(Ke a0.Reads u3).bind fun v4=>if (s2.2.length+v4.length)*8≤140737488355328 then (some (.cont ((wI (s2.1+1)),(s2.2++v4)))) else none) else (some (.brk s2.2))
def Rl (a0:Bc) (a1:List (List UInt8)):Option (List Int) :=
 (Ct (Mk a0 a1) fuel (0,([]:List Int))).bind fun e6=>Mn e6
theorem Af5 {a0:Bc} {a1:List (List UInt8)} {r:(List Int)} (h:Rl a0 a1=some r):Br Tryz.prog 212 [.agg (EL.el a0),.one (.sl a1.length (a1.flatMap (eL eU8)))] (·=.s (.one (.sl r.length (r.flatMap eI)))):=by
 unfold Rl at h
 refine A5 Tryz.func212 R (nt:=22) R (Nbl R) ?_
 intro w0 S0
 refine csr (F4 R R (rm 1 R (Ak (csr (rm 1 R (Ak (Bl (csr (rm 1 R (sv R (Aw S7 R) (rm 1 R (Ak ?_))))))))))))
 refine C6 3 1 5 (by decide) R ?_
 refine cj ((List Int)) (fun b1=>[(5,.s (.one (.ls 1 b1.length)))]) (fun b1=>[.box (EL.el a0),.arr 3 1 0 (b1.flatMap eI)]) (fun b1=>Mn b1=some r) (fun _=>R) (fun b1 h=>?_) ?_
 ·unfold Mn at h
  refine csr (rm 2 R (Ak (Bs ?_)))
  obtain rfl:=SJ h
  refine ⟨Or.inr R,_,_,_,(Ad (rt R) Ai),(by (repeat' first | exact Ic.nil _ | apply Ic.cons | apply H6.one | apply H6.agg | exact Cz.nil | exact Cz.ls _ _ _ _ _ _ R (Au (f:=eI) (fun _=>R) _).symm | exact Cz.id _ R | exact Co.nil _ | apply Co.cons)),?_⟩
  rfl
 ·skip
  refine Bq ?_
  obtain ⟨x2,hx2,ho2⟩:=Ae h
  refine lpo (G:=Nat × (Int × (List Int))) (fun g=>[(2,.s (.one (.lp 0 0))),(5,.s (.one (.ls 1 g.2.2.length))),(8,.s (.one (.sl a1.length (a1.flatMap (eL eU8))))),(9,.s (.one (Ii6 (a1.length:Int)))),(10,.s (.one (Ii6 g.2.1)))]) (fun g=>[.box (EL.el a0),.arr 3 1 0 (g.2.2.flatMap eI)]) (fun g=>Ct (Mk a0 a1) g.1 g.2=some x2) (fun g=>g.1) (fuel,(0,([]:List Int))) hx2 ⟨R,R,R,R,R,trivial⟩ [] R (fun _=>R) ?_
  clear hx2 h
  rintro ⟨n2,s2⟩ h
  obtain ⟨n2,y2,rfl,h,hk2⟩:=Cu h
  unfold Mk at h
  refine csr (sv R (Bt R R) (Ak (Bl (ccI h R (fun h=>?_) (fun h=>?_)))))
  ·refine Bf (Ab (Bl (Bq (Bl (Aq ?_)))))
   obtain ⟨u3,hu3,h⟩:=Ae h
   refine sv R (B8 (f:=(eL eU8)) S7 (fun _=>R) R R R R hu3) ?_
   refine sv R (B6 Mz R (.cp _) R) (rm 1 R (Ak (Aq (rm 1 R (sv R (Ac Yo R) (ld Aco R R R R (sv R (A4 R) ?_)))))))
   obtain ⟨v4,hv4,h⟩:=Ae h
   refine Ba R Avx (Aa R (Aa R Af)) (An R) (Sp hv4) ?_
   obtain ⟨hb5,h⟩:=Cp h
   refine Tr (f:=eI) (xs:=s2.2) (us:=v4) R Tryz.underlying225 ei3 Am9 (fun _=>R) R R (.one _ _ _ _ (.id _ R)) R R R (.sl _ _ _ (Au (f:=eI) (fun _=>R) _)) R R hb5 (by decide) ?_
   refine rm 1 R (Kz (Ap (Ab (Aq (sv R (Bo R R) (rm 1 R (Ak ?_)))))))
   obtain rfl:=SJ h
   exact ⟨(n2,((wI (s2.1+1)),(s2.2++v4))),_,hk2,⟨R,R,R,R,R,trivial⟩,R,zG _⟩
  ·refine Da (As (As (Bj (Ab ?_))))
   obtain rfl:=SJ h
   obtain rfl:_=x2:=hk2
   exact ⟨s2.2,_,ho2,⟨R,trivial⟩,R⟩
def Lx (b1:(List Int)):Option (List Int) :=
 some b1
def D9 (a0:Bc) (a1:List (List UInt8)) (s2:Int × (List Int)):Option (LB (Int × (List Int)) ((List Int))) :=
 if (decide (s2.1<(a1.length:Int))) then ((idx a1 s2.1).bind fun u3=>(Ke a0.Reads u3).bind fun v4=>if (s2.2.length+v4.length)*8≤140737488355328 then (some (.cont ((wI (s2.1+1)),(s2.2++v4)))) else none) else (some (.brk s2.2))
def Hu (a0:Bc) (a1:List (List UInt8)):Option (List Int) :=
 (Ct (D9 a0 a1) fuel (0,([]:List Int))).bind fun e6=>Lx e6
theorem Uk {a0:Bc} {a1:List (List UInt8)} {r:(List Int)} (h:Hu a0 a1=some r):Dl Tryz.prog 212 [] [.agg (EL.el a0),.one (.sl a1.length (a1.flatMap (eL eU8)))] (fun y m'=>y=.s (.one (.ls 0 r.length))∧m'=[.arr 3 1 0 (r.flatMap eI)]):=by
 unfold Hu at h
 refine Dc Tryz.func212 R (nt:=22) R (Nbl R) ?_
 intro w0 S0 X0 H0
 refine csr (F4 R R (rm 1 R (Ak (csr (rm 1 R (Ak (Bl (csr (rm 1 R (sv R (Aw S7 R) (rm 1 R (Ak ?_))))))))))))
 refine C6 3 1 5 (by decide) R ?_
 refine cj ((List Int)) (fun b1=>[(5,.s (.one (.ls 1 b1.length)))]) (fun b1=>[.box (EL.el a0),.arr 3 1 0 (b1.flatMap eI)]) (fun b1=>Lx b1=some r) (fun _=>R) (fun b1 h=>?_) ?_
 ·unfold Lx at h
  refine csr (rm 2 R (Ak (Bs ?_)))
  obtain rfl:=SJ h
  exact ⟨Or.inr R,_,[1],[.one (.ls 0 b1.length)],[.arr 3 1 0 (b1.flatMap eI)],(Ad (rt R) Ai),R,R,⟨by decide,R⟩,R,R,⟨R,R⟩⟩
 ·skip
  refine Bq ?_
  obtain ⟨x2,hx2,ho2⟩:=Ae h
  refine lpo (G:=Nat × (Int × (List Int))) (fun g=>[(2,.s (.one (.lp 0 0))),(5,.s (.one (.ls 1 g.2.2.length))),(8,.s (.one (.sl a1.length (a1.flatMap (eL eU8))))),(9,.s (.one (Ii6 (a1.length:Int)))),(10,.s (.one (Ii6 g.2.1)))]) (fun g=>[.box (EL.el a0),.arr 3 1 0 (g.2.2.flatMap eI)]) (fun g=>Ct (D9 a0 a1) g.1 g.2=some x2) (fun g=>g.1) (fuel,(0,([]:List Int))) hx2 ⟨R,R,R,R,R,trivial⟩ [] R (fun _=>R) ?_
  clear hx2 h
  rintro ⟨n2,s2⟩ h
  obtain ⟨n2,y2,rfl,h,hk2⟩:=Cu h
  unfold D9 at h
  refine csr (sv R (Bt R R) (Ak (Bl (ccI h R (fun h=>?_) (fun h=>?_)))))
  ·refine Bf (Ab (Bl (Bq (Bl (Aq ?_)))))
   obtain ⟨u3,hu3,h⟩:=Ae h
   refine sv R (B8 (f:=(eL eU8)) S7 (fun _=>R) R R R R hu3) ?_
   refine sv R (B6 Mz R (.cp _) R) (rm 1 R (Ak (Aq (rm 1 R (sv R (Ac Yo R) (ld Aco R R R R (sv R (A4 R) ?_)))))))
   obtain ⟨v4,hv4,h⟩:=Ae h
   refine Ba R Avx (Aa R (Aa R Af)) (An R) (Sp hv4) ?_
   obtain ⟨hb5,h⟩:=Cp h
   refine Tr (f:=eI) (xs:=s2.2) (us:=v4) R Tryz.underlying225 ei3 Am9 (fun _=>R) R R (.one _ _ _ _ (.id _ R)) R R R (.sl _ _ _ (Au (f:=eI) (fun _=>R) _)) R R hb5 (by decide) ?_
   refine rm 1 R (Kz (Ap (Ab (Aq (sv R (Bo R R) (rm 1 R (Ak ?_)))))))
   obtain rfl:=SJ h
   exact ⟨(n2,((wI (s2.1+1)),(s2.2++v4))),_,hk2,⟨R,R,R,R,R,trivial⟩,R,zG _⟩
  ·refine Da (As (As (Bj (Ab ?_))))
   obtain rfl:=SJ h
   obtain rfl:_=x2:=hk2
   exact ⟨s2.2,_,ho2,⟨R,trivial⟩,R⟩
def N5 (b1:(List A2)):Option (Bool × (List A2)) :=
 some (true,b1)
def Lc (a1:Int) (s2:Int × (List A2)) (u3:A2) (b4:Unit):Option (LR (Int × (List A2)) ((List A2)) (Bool × (List A2))) :=
 (Hj).bind fun v5=>(Fx s2.2 s2.1 a1).bind fun v6=>if v6.length=s2.2.length then (if (decide (u3.State=2)) then ((idx v6 s2.1).bind fun u8=>(Jt u8).bind fun v9=>if v9 then (some (.ret (false,v6))) else (some (.cont ((wI (s2.1+1)),v6)))) else (some (.cont ((wI (s2.1+1)),v6)))) else none
def Fy (a0:List A2) (a1:Int) (a2:List Int) (s2:Int × (List A2)):Option (LR (Int × (List A2)) ((List A2)) (Bool × (List A2))) :=
 if (decide (s2.1<(a0.length:Int))) then ((idx s2.2 s2.1).bind fun u3=>if (decide (s2.1=a1)) then (some (.cont ((wI (s2.1+1)),s2.2))) else ((Du a2 u3.ID).bind fun v10=>if (!v10) then (some (.cont ((wI (s2.1+1)),s2.2))) else ((idx s2.2 a1).bind fun u11=>(E2 u3 u11).bind fun v12=>if (!v12) then (some (.cont ((wI (s2.1+1)),s2.2))) else (Lc a1 s2 u3 ())))) else (some (.brk s2.2))
def Lm (a0:List A2) (a1:Int) (a2:List Int):Option (Bool × (List A2)) :=
 (Lj (Fy a0 a1 a2) fuel (0,a0)).bind fun x=>match x with | .inl r=>some r | .inr e13=>N5 e13
theorem W4 {a0:List A2} {a1:Int} {a2:List Int} {r:Bool × (List A2)} (h:Lm a0 a1 a2=some r):Dl Tryz.prog 211 [.arr 139 8 0 (a0.flatMap Bb)] [.one (.ls 0 a0.length),.one (Ii6 a1),.one (.sl a2.length (a2.flatMap eI))] (fun y m'=>y=.s (.one (.b r.1))∧m'=[.arr 139 8 0 (r.2.flatMap Bb)]):=by
 unfold Lm at h
 refine Dc Tryz.func211 R (nt:=51) R (Nbl R) ?_
 intro w0 S0 X0 H0
 refine csr (rm 1 R (Ak (Bl (csr (rm 1 R (sv R (Fu Qm R R (Au (f:=Bb) (fun _=>R) _).symm) ?_))))))
 refine rm 1 R (Ak (cj ((List A2)) (fun b1=>[]) (fun b1=>[.arr 139 8 0 (b1.flatMap Bb)]) (fun b1=>N5 b1=some r) (fun _=>R) (fun b1 h=>?_) ?_))
 ·unfold N5 at h
  refine csr (rm 1 R (Ak (Bs ?_)))
  obtain rfl:=SJ h
  exact ⟨Or.inr R,_,[0],[.one (.b true)],[.arr 139 8 0 (b1.flatMap Bb)],(Ad (rt R) Ai),R,R,⟨by decide,R⟩,R,R,⟨R,R⟩⟩
 ·skip
  refine Bq ?_
  obtain ⟨x2,hx2,ho2⟩:=Ae h
  refine lpo (G:=Nat × (Int × (List A2))) (fun g=>[(0,.s (.one (.ls 0 g.2.2.length))),(1,.s (.one (Ii6 a1))),(2,.s (.one (.sl a2.length (a2.flatMap eI)))),(9,.s (.one (.ls 0 g.2.2.length))),(10,.s (.one (Ii6 (a0.length:Int)))),(11,.s (.one (Ii6 g.2.1)))]) (fun g=>[.arr 139 8 0 (g.2.2.flatMap Bb)]) (fun g=>Lj (Fy a0 a1 a2) g.1 g.2=some x2) (fun g=>g.1) (fuel,(0,a0)) hx2 ⟨R,R,R,R,R,R,trivial⟩ [] R (fun _=>R) ?_
  clear hx2 h
  rintro ⟨n2,s2⟩ h
  obtain ⟨n2,y2,rfl,h,hk2⟩:=Es h
  unfold Fy at h
  refine csr (sv R (Bt R R) (Ak (Bl (ccI h R (fun h=>?_) (fun h=>?_)))))
  ·refine Bf (Ab (Bl (Bq (csr (sv R (A4 R) ?_)))))
   obtain ⟨u3,hu3,h⟩:=Ae h
   refine sv R (Et (f:=Bb) Qm (fun _=>R) R R R R R hu3) ?_
   refine sv R (Ov (f:=Bb) (sz:=8) 0 Ju (fun _=>R) R R R R (Gq hu3).2 (Nbl R) R) ?_
   refine Bp R Tj (rm 1 R (sst Tb R R R R R (Ak (Bl (Bl (cj3 (Unit) (fun b4=>[(0,.s (.one (.ls 0 s2.2.length))),(1,.s (.one (Ii6 a1))),(2,.s (.one (.sl a2.length (a2.flatMap eI)))),(7,.s (.one (Ii6 s2.1))),(8,.s (.one (.lp 1 0))),(9,.s (.one (.ls 0 s2.2.length))),(10,.s (.one (Ii6 (a0.length:Int)))),(11,.s (.one (Ii6 s2.1)))]) (fun b4=>[.arr 139 8 0 (s2.2.flatMap Bb),.box (EL.el u3)]) (fun b4=>Lc a1 s2 u3 b4=some y2) (fun _=>R) (fun b4 h=>?_) ?_))))))
   ·unfold Lc at h
    refine Bl (Aq ?_)
    obtain ⟨v5,hv5,h⟩:=Ae h
    refine Ie (x':=.s (.agg [.raw (.func (.func 252) #[] #[]),.raw (.func (.func 253) #[] #[])])) (M':=[.arr 139 8 0 (s2.2.flatMap Bb),.box (EL.el u3)]) [] R Aun (.func _) Af (Qu hv5) R R (by decide) R R R ?_
    refine rm 2 R (sv R (A4 R) ?_)
    obtain ⟨v6,hv6,h⟩:=Ae h
    refine Ie (x':=.tup []) (M':=[.arr 139 8 0 (v6.flatMap Bb),.box (EL.el u3)]) [0] R Av3 (.func _) (Aa R (Aa R (Aa R (Aa R Af)))) (Pq hv6) R R (by decide) R R R ?_
    obtain ⟨hl7,h⟩:=Cp h
    refine Mx 0 (y:=.s (.one (.ls 0 s2.2.length))) (.s (.one (.ls 0 v6.length))) R (congrArg (fun n=>AV.s (.one (.ls 0 n))) hl7.symm) ?_
    refine Mx 9 (y:=.s (.one (.ls 0 s2.2.length))) (.s (.one (.ls 0 v6.length))) R (congrArg (fun n=>AV.s (.one (.ls 0 n))) hl7.symm) ?_
    refine Mx 36 (y:=.s (.one (.ls 0 s2.2.length))) (.s (.one (.ls 0 v6.length))) R (congrArg (fun n=>AV.s (.one (.ls 0 n))) hl7.symm) ?_
    refine Ak (csr (fl Pj ti3 R R R R R R (sv R (B4 R R) (rm 1 R (ssI 43 h R (fun h=>?_) (fun h=>?_))))))
    ·refine rm 2 R (son R R R ?_)
     obtain ⟨u8,hu8,h⟩:=Ae h
     refine sv R (Et (f:=Bb) Qm (fun _=>R) R R R R R hu8) ?_
     refine son R R R (sv R (Ov (f:=Bb) (sz:=8) 0 Ju (fun _=>R) R R R R (Gq hu8).2 (Nbl R) R) ?_)
     refine son R R R ?_
     obtain ⟨v9,hv9,h⟩:=Ae h
     refine Ba R Aso (Aa R Af) (An R) (P4 hv9) (rm 1 R (Ak (ccI h R (fun h=>?_) (fun h=>?_))))
     ·refine csr (rm 1 R (Ak (Bs (Az (Ag (Ag (Az (Ag ?_))))))))
      obtain rfl:=SJ h
      obtain rfl:Sum.inl _=x2:=hk2
      replace ho2:some _=some _:=ho2
      obtain rfl:=zD ho2
      exact ⟨Or.inr R,_,[0],[.one (.b false)],[.arr 139 8 0 (v6.flatMap Bb)],(Ad (rt R) Ai),R,R,⟨by decide,R⟩,R,R,⟨R,R⟩⟩
     ·refine Bf (Ap (Ab (Aq (sv R (Bo R R) (rm 1 R (Ak ?_))))))
      obtain rfl:=SJ h
      exact ⟨(n2,((wI (s2.1+1)),v6)),_,hk2,⟨R,R,R,R,R,R,trivial⟩,R,zG _⟩
    ·refine rm 6 R (Ak (Ci R (fun hx=>Bool.noConfusion hx) (fun _=>?_)))
     refine Bf (Ap (Ab (Aq (sv R (Bo R R) (rm 1 R (Ak ?_))))))
     obtain rfl:=SJ h
     exact ⟨(n2,((wI (s2.1+1)),v6)),_,hk2,⟨R,R,R,R,R,R,trivial⟩,R,zG _⟩
   ·skip
    refine Z3 mixed (by kernel_rfl) ?_
    refine dv R (A4 R) (dv R (A4 R) (dv R (B4 R R) (dv R (A4 R) (Tz 19 R (fun hc=>?_) (fun hc=>?_)))))
    ·replace h:=Su hc h
     clear hc
     refine G7 R R R R (G7 R R R R (G7 R R R R (G7 R R R R (G7 R R R R (dv R (Er R R) (dv R (A4 R) (G7 R R R R (G7 R R R R (G7 R R R R (G7 R R R R (G7 R R R R (G7 R R R R (G7 R R R R (dv R (Er R R) (Zq (Ab (Ci R (fun _=>?_) (fun hx=>Bool.noConfusion hx))))))))))))))))))
     refine Da (As (Bj (Ab (Aq (sv R (Bo R R) (rm 1 R (Ak ?_)))))))
     obtain rfl:=SJ h
     exact ⟨(n2,((wI (s2.1+1)),s2.2)),_,hk2,⟨R,R,R,R,R,R,trivial⟩,R,zG _⟩
    ·replace h:=S6 hc h
     clear hc
     refine dvg R R R (A4 R) (dvg R R R (Ac T1 R) (dvg R R R (l1 ti3 R R R) ?_))
     obtain ⟨v10,hv10,h⟩:=Ae h
     refine ddg R R R (Cy Aty (Aa R (Aa R Af)) R (Lw hv10)) (dvg R R R (B0 R) (dv R (Hq R R) (dv R (A4 R) (Tz 26 R (fun hc=>?_) (fun hc=>?_)))))
     ·replace h:=Su hc h
      clear hc
      refine G7 R R R R (G7 R R R R (G7 R R R R (G7 R R R R (G7 R R R R (G7 R R R R (G7 R R R R (dv R (Er R R) (Zq (Ab (Ci R (fun _=>?_) (fun hx=>Bool.noConfusion hx)))))))))))
      refine Da (As (Bj (Ab (Aq (sv R (Bo R R) (rm 1 R (Ak ?_)))))))
      obtain rfl:=SJ h
      exact ⟨(n2,((wI (s2.1+1)),s2.2)),_,hk2,⟨R,R,R,R,R,R,trivial⟩,R,zG _⟩
     ·replace h:=S6 hc h
      clear hc
      refine dvg R R R (lo Ju R R R) (dvg R R R (A4 R) (dvg R R R (A4 R) ?_))
      obtain ⟨u11,hu11,h⟩:=Ae h
      refine dvg R R R (Et (f:=Bb) Qm (fun _=>R) R R R R R hu11) ?_
      refine dvg R R R (Ov (f:=Bb) (sz:=8) 0 Ju (fun _=>R) R R R R (Gq hu11).2 (Nbl R) R) ?_
      obtain ⟨v12,hv12,h⟩:=Ae h
      refine ddg R R R (Cy As2 (Aa R (Aa R Af)) R (O9 hv12)) (dvg R R R (B0 R) (dv R (Hq R R) (Zq (Ab (ccI h R (fun h=>?_) (fun h=>?_))))))
      ·refine Da (As (Bj (Ab (Aq (sv R (Bo R R) (rm 1 R (Ak ?_)))))))
       obtain rfl:=SJ h
       exact ⟨(n2,((wI (s2.1+1)),s2.2)),_,hk2,⟨R,R,R,R,R,R,trivial⟩,R,zG _⟩
      ·refine Bf (Ab ?_)
       exact ⟨(),_,h,⟨R,R,R,R,R,R,R,R,trivial⟩,R⟩
  ·refine Da (As (As (Bj (Ab ?_))))
   obtain rfl:=SJ h
   obtain rfl:_=x2:=hk2
   exact ⟨s2.2,_,ho2,trivial,R⟩
def L3 (a0:Bc) (a2:Int) (a3:List (List UInt8)) (v2:Int) (b8:(List A2)):Option (Bc × Int) :=
 (idx b8 v2).bind fun u9=>(idx (b8.set v2.toNat ({u9 with State:=2})) v2).bind fun u10=>(idx ((b8.set v2.toNat ({u9 with State:=2})).set v2.toNat ({u10 with End:=a2})) v2).bind fun u11=>some ((Bc.mk (((b8.set v2.toNat ({u9 with State:=2})).set v2.toNat ({u10 with End:=a2})).set v2.toNat ({u11 with Keys:=a3})) (Bv.mk a0.Reads.L)),0)
def Dj (a0:Bc) (a1:Int) (a2:Int) (a3:List (List UInt8)):Option (Bc × Int) :=
 (K4 a0).bind fun v1=>if (!v1) then (some (Ja,1)) else ((Gc a0 a1).bind fun v2=>if (decide (v2<0)) then (some (Ja,7)) else ((idx a0.Txs v2).bind fun u3=>(Me a0 u3 a2 a3).bind fun v4=>if (!v4) then (some (Ja,1)) else ((idx a0.Txs v2).bind fun u5=>(Hp a0 u5 a3).bind fun v6=>if v6 then (some (Ja,9)) else ((Dw a0.Txs).bind fun v7=>(Hu (Bc.mk a0.Txs (Bv.mk a0.Reads.L)) a3).bind fun v12=>(Lm v7 v2 v12).bind fun v13=>if v13.2.length=v7.length then (if (!v13.1) then (some (Ja,10)) else ((idx v13.2 v2).bind fun u15=>(Jt u15).bind fun v16=>if v16 then (some (Ja,10)) else (L3 a0 a2 a3 v2 v13.2))) else none))))
theorem Xh {a0:Bc} {a1:Int} {a2:Int} {a3:List (List UInt8)} {r:Bc × Int} (h:Dj a0 a1 a2 a3=some r):Br Tryz.prog 140 [.agg (EL.el a0),.one (Ii6 a1),.one (Ii6 a2),.one (.sl a3.length (a3.flatMap (eL eU8)))] (·=.tup [.agg (EL.el r.1),.one (Ii6 r.2)]):=by
 unfold Dj at h
 refine A5 Tryz.func140 R (nt:=81) R (Nbl R) ?_
 intro w0 S0
 refine csr (F4 R R (Bp R Ya (rm 1 R (Ak (Bl (csr (sv R (lo Qq R R R) ?_)))))))
 obtain ⟨v1,hv1,h⟩:=Ae h
 refine Ba R Axh (Aa R Af) (An R) (Pl hv1) (sv R (B0 R) (Ak (ccI h R (fun h=>?_) (fun h=>?_))))
 ·refine csr (sv R (A6 Ya Adx A1 (.nil _)) (sst Xu R R R R R (rm 1 R (Ak (Bs (Ag ?_))))))
  obtain rfl:=SJ h
  exact dn (Ad (ra Qq R R R) (Ad (rt R) Ai)) (Ip R) R
 ·refine Bf (Ab (csr (ld Qq R R R R (sv R (A4 R) ?_))))
  obtain ⟨v2,hv2,h⟩:=Ae h
  refine Ba R Asx (Aa R (Aa R Af)) (An R) (Ph hv2) (rm 1 R (Ak (Bl (Bq (csr (rm 1 R (sv R (Bt R R) (rm 1 R (Ak (ccI h R (fun h=>?_) (fun h=>?_)))))))))))
  ·refine csr (sv R (A6 Ya Adx A1 (.nil _)) (sst Xu R R R R R (rm 1 R (Ak (Bs (Az (Ag ?_)))))))
   obtain rfl:=SJ h
   exact dn (Ad (ra Qq R R R) (Ad (rt R) Ai)) (Ip R) R
  ·refine Bl ?_
   refine Z3 mixed (by kernel_rfl) ?_
   refine dv R (lo Qq R R R) (dv R (Ac Oo R) (dv R (l1 Aa8 R R R) (dv R (A4 R) ?_)))
   obtain ⟨u3,hu3,h⟩:=Ae h
   refine dv R (B8 (f:=Bb) Qm (fun _=>R) R R R R hu3) ?_
   refine dv R (Bz (ys:=[Ii6 u3.ID,Ii6 u3.Begin,Ii6 u3.End,Ii6 u3.State,.b u3.In,.b u3.Out,.b u3.RO,.sl u3.Keys.length (u3.Keys.flatMap (eL eU8))]) Ju R (.cp _) R R) (dv R (A4 R) (dv R (A4 R) ?_))
   obtain ⟨v4,hv4,h⟩:=Ae h
   refine dd R (Cy Ayz (Aa R (Aa R (Aa R (Aa R Af)))) R (Ye hv4)) (dv R (B0 R) (dv R (Iu R) (Zq (Ab (ccI h R (fun h=>?_) (fun h=>?_))))))
   ·refine csr (sv R (A6 Ya Adx A1 (.nil _)) (sst Xu R R R R R (rm 1 R (Ak (Bs (Az (Ag ?_)))))))
    obtain rfl:=SJ h
    exact dn (Ad (ra Qq R R R) (Ad (rt R) Ai)) (Ip R) R
   ·refine Bl ?_
    refine Z3 mixed (by kernel_rfl) ?_
    refine dv R (lo Qq R R R) (dv R (Ac Oo R) (dv R (l1 Aa8 R R R) (dv R (A4 R) ?_)))
    obtain ⟨u5,hu5,h⟩:=Ae h
    refine dv R (B8 (f:=Bb) Qm (fun _=>R) R R R R hu5) ?_
    refine dv R (Bz (ys:=[Ii6 u5.ID,Ii6 u5.Begin,Ii6 u5.End,Ii6 u5.State,.b u5.In,.b u5.Out,.b u5.RO,.sl u5.Keys.length (u5.Keys.flatMap (eL eU8))]) Ju R (.cp _) R R) (dv R (A4 R) ?_)
    obtain ⟨v6,hv6,h⟩:=Ae h
    refine dd R (Cy Ax7 (Aa R (Aa R (Aa R Af))) R (Vv hv6)) (dv R (Iu R) (Zq (Ab (ccI h R (fun h=>?_) (fun h=>?_)))))
    ·refine csr (sv R (A6 Ya Adx A1 (.nil _)) (sst Xu R R R R R (rm 1 R (Ak (Bs (Az (Ag ?_)))))))
     obtain rfl:=SJ h
     exact dn (Ad (ra Qq R R R) (Ad (rt R) Ai)) (Ip R) R
    ·refine Bf (Ap (Ab (csr (sv R (Ac Oo R) (sv R (l1 Aa8 R R R) ?_)))))
     obtain ⟨v7,hv7,h⟩:=Ae h
     refine Ie (x':=.s (.one (.ls 2 v7.length))) (M':=[.box (EL.el a0),.box [Znl,Znl],.arr 139 8 0 (v7.flatMap Bb)]) [] R Avs (.func _) (Aa R Af) (P7 hv7) R R (by decide) R R R ?_
     refine rm 1 R (Ak (Bl (Bl (cj3 ((List A2)) (fun b8=>[(2,.s (.one (Ii6 a2))),(3,.s (.one (.sl a3.length (a3.flatMap (eL eU8))))),(4,.s (.one (.lp 0 0))),(8,.s (.one (.lp 1 0))),(10,.s (.one (Ii6 v2))),(11,.s (.one (.ls 2 b8.length)))]) (fun b8=>[.box (EL.el a0),.box [Znl,Znl],.arr 139 8 0 (b8.flatMap Bb)]) (fun b8=>L3 a0 a2 a3 v2 b8=some r) (fun _=>R) (fun b8 h=>?_) ?_))))
     ·unfold L3 at h
      refine csr (rm 7 R (sv R (A4 R) ?_))
      obtain ⟨u9,hu9,h⟩:=Ae h
      refine sv R (Et (f:=Bb) Qm (fun _=>R) R R R R R hu9) ?_
      refine sv R (C3 Pj R R (Au (f:=Bb) (fun _=>R) _).symm) ?_
      refine Zw (f:=Bb) (u':={u9 with State:=2}) (sz:=8) 3 sz3 (fun _=>R) R R R R R R R (zJ.1 R) (Gq hu9).2 (Nbl R) R ?_
      refine Mx 11 (y:=.s (.one (.ls 2 b8.length))) (.s (.one (.ls 2 (b8.set v2.toNat ({u9 with State:=2})).length))) R (congrArg (fun n=>AV.s (.one (.ls 2 n))) List.length_set.symm) ?_
      refine Mx 63 (y:=.s (.one (.ls 2 b8.length))) (.s (.one (.ls 2 (b8.set v2.toNat ({u9 with State:=2})).length))) R (congrArg (fun n=>AV.s (.one (.ls 2 n))) List.length_set.symm) ?_
      refine Mx 65 (y:=.s (.one (.ls 2 b8.length))) (.s (.one (.ls 2 (b8.set v2.toNat ({u9 with State:=2})).length))) R (congrArg (fun n=>AV.s (.one (.ls 2 n))) List.length_set.symm) ?_
      refine Mx 67 (y:=.s (.one (.ls 2 b8.length))) (.s (.one (.ls 2 (b8.set v2.toNat ({u9 with State:=2})).length))) R (congrArg (fun n=>AV.s (.one (.ls 2 n))) List.length_set.symm) ?_
      obtain ⟨u10,hu10,h⟩:=Ae h
      refine sv R (Et (f:=Bb) Qm (fun _=>R) R R R R R hu10) ?_
      refine sv R (C3 Q0 R R (Au (f:=Bb) (fun _=>R) _).symm) ?_
      refine Zw (f:=Bb) (u':={u10 with End:=a2}) (sz:=8) 2 sz3 (fun _=>R) R R R R R R R (zJ.1 R) (Gq hu10).2 (Nbl R) R ?_
      refine Mx 11 (y:=.s (.one (.ls 2 (b8.set v2.toNat ({u9 with State:=2})).length))) (.s (.one (.ls 2 ((b8.set v2.toNat ({u9 with State:=2})).set v2.toNat ({u10 with End:=a2})).length))) R (congrArg (fun n=>AV.s (.one (.ls 2 n))) List.length_set.symm) ?_
      refine Mx 63 (y:=.s (.one (.ls 2 (b8.set v2.toNat ({u9 with State:=2})).length))) (.s (.one (.ls 2 ((b8.set v2.toNat ({u9 with State:=2})).set v2.toNat ({u10 with End:=a2})).length))) R (congrArg (fun n=>AV.s (.one (.ls 2 n))) List.length_set.symm) ?_
      refine Mx 65 (y:=.s (.one (.ls 2 (b8.set v2.toNat ({u9 with State:=2})).length))) (.s (.one (.ls 2 ((b8.set v2.toNat ({u9 with State:=2})).set v2.toNat ({u10 with End:=a2})).length))) R (congrArg (fun n=>AV.s (.one (.ls 2 n))) List.length_set.symm) ?_
      refine Mx 67 (y:=.s (.one (.ls 2 (b8.set v2.toNat ({u9 with State:=2})).length))) (.s (.one (.ls 2 ((b8.set v2.toNat ({u9 with State:=2})).set v2.toNat ({u10 with End:=a2})).length))) R (congrArg (fun n=>AV.s (.one (.ls 2 n))) List.length_set.symm) ?_
      obtain ⟨u11,hu11,h⟩:=Ae h
      refine sv R (Et (f:=Bb) Qm (fun _=>R) R R R R R hu11) ?_
      refine sv R (C3 Uh R R (Au (f:=Bb) (fun _=>R) _).symm) ?_
      refine Zw (f:=Bb) (u':={u11 with Keys:=a3}) (sz:=8) 7 Aym (fun _=>R) R R R R R R R (zJ.1 R) (Gq hu11).2 (Nbl R) R ?_
      refine Mx 11 (y:=.s (.one (.ls 2 ((b8.set v2.toNat ({u9 with State:=2})).set v2.toNat ({u10 with End:=a2})).length))) (.s (.one (.ls 2 (((b8.set v2.toNat ({u9 with State:=2})).set v2.toNat ({u10 with End:=a2})).set v2.toNat ({u11 with Keys:=a3})).length))) R (congrArg (fun n=>AV.s (.one (.ls 2 n))) List.length_set.symm) ?_
      refine Mx 63 (y:=.s (.one (.ls 2 ((b8.set v2.toNat ({u9 with State:=2})).set v2.toNat ({u10 with End:=a2})).length))) (.s (.one (.ls 2 (((b8.set v2.toNat ({u9 with State:=2})).set v2.toNat ({u10 with End:=a2})).set v2.toNat ({u11 with Keys:=a3})).length))) R (congrArg (fun n=>AV.s (.one (.ls 2 n))) List.length_set.symm) ?_
      refine Mx 65 (y:=.s (.one (.ls 2 ((b8.set v2.toNat ({u9 with State:=2})).set v2.toNat ({u10 with End:=a2})).length))) (.s (.one (.ls 2 (((b8.set v2.toNat ({u9 with State:=2})).set v2.toNat ({u10 with End:=a2})).set v2.toNat ({u11 with Keys:=a3})).length))) R (congrArg (fun n=>AV.s (.one (.ls 2 n))) List.length_set.symm) ?_
      refine Mx 67 (y:=.s (.one (.ls 2 ((b8.set v2.toNat ({u9 with State:=2})).set v2.toNat ({u10 with End:=a2})).length))) (.s (.one (.ls 2 (((b8.set v2.toNat ({u9 with State:=2})).set v2.toNat ({u10 with End:=a2})).set v2.toNat ({u11 with Keys:=a3})).length))) R (congrArg (fun n=>AV.s (.one (.ls 2 n))) List.length_set.symm) ?_
      refine Ak (csr (rm 1 R (sv R (Ac Yo R) (ld Aco R R R R (sv R (A6 Ya Adx (Ax R (Ax R A1)) (.cons _ _ _ _ _ _ _ R R (Nbl R) (.cons _ _ _ _ _ _ _ R R (Nbl R) (.nil _)))) (sst Xu R R R R R (rm 1 R (Ak (Bs ?_)))))))))
      obtain rfl:=SJ h
      refine ⟨Or.inr R,_,_,_,(Ad (ra Qq R R R) (Ad (rt R) Ai)),(by (repeat' first | exact Ic.nil _ | apply Ic.cons | apply H6.one | apply H6.agg | exact Cz.nil | exact Cz.ls _ _ _ _ _ _ R (Au (f:=Bb) (fun _=>R) _).symm | exact Cz.id _ R | exact Co.nil _ | apply Co.cons)),?_⟩
      rfl
     ·skip
      refine Aq (rm 2 R (ld Qq R R R R (sv R (A4 R) ?_)))
      obtain ⟨v12,hv12,h⟩:=Ae h
      refine Ie (x':=.s (.one (.ls 3 v12.length))) (M':=[.box (EL.el a0),.box [Znl,Znl],.arr 139 8 0 (v7.flatMap Bb),.arr 3 1 0 (v12.flatMap eI)]) [] R Ayb (.func _) (Aa R (Aa R Af)) (Uk hv12) R R (by decide) R R R ?_
      refine Ah4 52 R (by (repeat' first | exact Ic.nil _ | apply Ic.cons | apply H6.one | apply H6.agg | exact Cz.nil | exact Cz.ls _ _ _ _ _ _ R (Au (f:=Bb) (fun _=>R) _).symm | exact Cz.ls _ _ _ _ _ _ R (Au (f:=eI) (fun _=>R) _).symm | exact Cz.id _ R | exact Co.nil _ | apply Co.cons)) ?_
      obtain ⟨v13,hv13,h⟩:=Ae h
      refine Ie (x':=.s (.one (.b v13.1))) (M':=[.box (EL.el a0),.box [Znl,Znl],.arr 139 8 0 (v13.2.flatMap Bb),.arr 3 1 (v12.flatMap eI).length (v12.flatMap eI)]) [2] R Ayj (.func _) (Aa R (Aa R (Aa R Af))) (W4 hv13) R R (by decide) R R R ?_
      obtain ⟨hl14,h⟩:=Cp h
      refine Mx 47 (y:=.s (.one (.ls 2 v7.length))) (.s (.one (.ls 2 v13.2.length))) R (congrArg (fun n=>AV.s (.one (.ls 2 n))) hl14.symm) ?_
      refine Mx 11 (y:=.s (.one (.ls 2 v7.length))) (.s (.one (.ls 2 v13.2.length))) R (congrArg (fun n=>AV.s (.one (.ls 2 n))) hl14.symm) ?_
      refine Mx 48 (y:=.s (.one (.ls 2 v7.length))) (.s (.one (.ls 2 v13.2.length))) R (congrArg (fun n=>AV.s (.one (.ls 2 n))) hl14.symm) ?_
      refine sv R (B0 R) (rm 1 R (ssI 55 h R (fun h=>?_) (fun h=>?_)))
      ·refine rm 6 R (Ak (Ci R (fun _=>?_) (fun hx=>Bool.noConfusion hx)))
       refine csr (sv R (A6 Ya Adx A1 (.nil _)) (sst Xu R R R R R (rm 1 R (Ak (Bs (Ag ?_))))))
       obtain rfl:=SJ h
       exact dn (Ad (ra Qq R R R) (Ad (rt R) Ai)) (Ip R) R
      ·refine rm 2 R (son R R R ?_)
       obtain ⟨u15,hu15,h⟩:=Ae h
       refine sv R (Et (f:=Bb) Qm (fun _=>R) R R R R R hu15) ?_
       refine son R R R (sv R (Ov (f:=Bb) (sz:=8) 0 Ju (fun _=>R) R R R R (Gq hu15).2 (Nbl R) R) ?_)
       refine son R R R ?_
       obtain ⟨v16,hv16,h⟩:=Ae h
       refine Ba R Aso (Aa R Af) (An R) (P4 hv16) (rm 1 R (Ak (ccI h R (fun h=>?_) (fun h=>?_))))
       ·refine csr (sv R (A6 Ya Adx A1 (.nil _)) (sst Xu R R R R R (rm 1 R (Ak (Bs (Ag ?_))))))
        obtain rfl:=SJ h
        exact dn (Ad (ra Qq R R R) (Ad (rt R) Ai)) (Ip R) R
       ·refine Bf (Ab ?_)
        exact ⟨v13.2,_,h,⟨R,R,R,R,R,R,trivial⟩,R⟩
def Ji (a0:Bi) (a1:Int) (a2:Int) (a3:Int) (b1:Unit):Option (Bi × Int) :=
 (E3 a0 a1).bind fun v2=>if (decide (v2.1.State=2)) then (some (Cm,7)) else (if (!decide (v2.1.State=1)) then (some (Cm,14)) else (if (!decide (v2.1.Attempt=a2)) then (some (Cm,14)) else ((C4 a0 (A8.mk a1 a2 2 a3)).bind fun v3=>some (v3.1,v3.2))))
def Gn (a0:Bi) (a1:Int) (a2:Int) (a3:Int):Option (Bi × Int) :=
 (C0 a0).bind fun v4=>if (!v4) then (some (Cm,1)) else ((Cn a1 a2).bind fun v5=>if (!v5) then (some (Cm,1)) else ((Gi a3).bind fun v6=>if (!v6) then (some (Cm,1)) else (Ji a0 a1 a2 a3 ())))
theorem U5 {a0:Bi} {a1:Int} {a2:Int} {a3:Int} {r:Bi × Int} (h:Gn a0 a1 a2 a3=some r):Br Tryz.prog 142 [.agg [.sl a0.L.length (a0.L.flatMap Am)],.one (Ii6 a1),.one (Ii6 a2),.one (Ii6 a3)] (·=.tup [.agg [.sl r.1.L.length (r.1.L.flatMap Am)],.one (Ii6 r.2)]):=by
 unfold Gn at h
 refine A5 Tryz.func142 R (nt:=57) R (Nbl R) ?_
 intro w0 S0
 refine csr (F4 R R (Bp R Wc (rm 1 R (Ak (Bl (Bl (cj3 (Unit) (fun b1=>[(1,.s (.one (Ii6 a1))),(2,.s (.one (Ii6 a2))),(3,.s (.one (Ii6 a3))),(4,.s (.one (.lp 0 0))),(8,.s (.one (.lp 1 0)))]) (fun b1=>[.box [.sl a0.L.length (a0.L.flatMap Am)],.box [Znl]]) (fun b1=>Ji a0 a1 a2 a3 b1=some r) (fun _=>R) (fun b1 h=>?_) ?_)))))))
 ·unfold Ji at h
  refine csr (ld Ou R R R R (sv R (A4 R) ?_))
  obtain ⟨v2,hv2,h⟩:=Ae h
  refine Ba R Av6 (Aa R (Aa R Af)) (An R) (Ku hv2) (sv R (Ca R) (sv R (Aj R R) (sv R (Aj R R) (Bp R V8 (sst Aax R R R R R (rm 1 R (Ak (Bl (Bq (csr (fl Wh ti3 R R R R R R (sv R (B4 R R) (rm 1 R (Ak (ccI h R (fun h=>?_) (fun h=>?_))))))))))))))))
  ·refine csr (sv R (A6 Wc Abt A1 (.nil _)) (sst Tg R R R R R (rm 1 R (Ak (Bs (Az (Ag ?_)))))))
   obtain rfl:=SJ h
   exact dn (Ad (ra Ou R R R) (Ad (rt R) Ai)) (Ip R) R
  ·refine csr (fl Wh ti3 R R R R R R (sv R (Db R R) (rm 1 R (ssI 42 h R (fun h=>?_) (fun h=>?_)))))
   ·refine rm 6 R (Ak (Ci R (fun _=>?_) (fun hx=>Bool.noConfusion hx)))
    refine csr (sv R (A6 Wc Abt A1 (.nil _)) (sst Tg R R R R R (rm 1 R (Ak (Bs (Az (Ag ?_)))))))
    obtain rfl:=SJ h
    exact dn (Ad (ra Ou R R R) (Ad (rt R) Ai)) (Ip R) R
   ·refine son R R R (sv R (Ac We R) (son R R R (sv R (l1 ti3 R R R) (rm 1 R (son R R R (sv R (Db R R) (rm 2 R (Ak (ccI h R (fun h=>?_) (fun h=>?_))))))))))
    ·refine csr (sv R (A6 Wc Abt A1 (.nil _)) (sst Tg R R R R R (rm 1 R (Ak (Bs (Az (Ag ?_)))))))
     obtain rfl:=SJ h
     exact dn (Ad (ra Ou R R R) (Ad (rt R) Ai)) (Ip R) R
    ·refine Bf (Ap (Ab (csr (ld Ou R R R R (rm 3 R (sv R (A6 V8 Ahi (Ax R (Ax R (Ax R (Ax R A1)))) (.cons _ _ _ _ _ _ _ R R (Nbl R) (.cons _ _ _ _ _ _ _ R R (Nbl R) (.cons _ _ _ _ _ _ _ R R (Nbl R) (.cons _ _ _ _ _ _ _ R R (Nbl R) (.nil _)))))) ?_))))))
     obtain ⟨v3,hv3,h⟩:=Ae h
     refine Ba R Ajo (Aa R (Aa R Af)) (An R) (Hr hv3) (sv R (Aj R R) (sv R (Aj R R) (sst Tg R R R R R (rm 1 R (Ak (Bs ?_))))))
     obtain rfl:=SJ h
     exact dn (Ad (ra Ou R R R) (Ad (rt R) Ai)) (An R) R
 ·skip
  refine Aq (sv R (lo Ou R R R) ?_)
  obtain ⟨v4,hv4,h⟩:=Ae h
  refine Ba R Auu (Aa R Af) (An R) (Kj hv4) (sv R (B0 R) (rm 1 R (ssI 15 h R (fun h=>?_) (fun h=>?_))))
  ·refine rm 10 R (Ak (Ci R (fun _=>?_) (fun hx=>Bool.noConfusion hx)))
   refine csr (sv R (A6 Wc Abt A1 (.nil _)) (sst Tg R R R R R (rm 1 R (Ak (Bs (Ag ?_))))))
   obtain rfl:=SJ h
   exact dn (Ad (ra Ou R R R) (Ad (rt R) Ai)) (Ip R) R
  ·refine rm 2 R (son R R R ?_)
   obtain ⟨v5,hv5,h⟩:=Ae h
   refine Ba R Akm (Aa R (Aa R Af)) (An R) (D4 hv5) (son R R R (sv R (B0 R) (rm 2 R (ssI 21 h R (fun h=>?_) (fun h=>?_)))))
   ·refine rm 4 R (Ak (Ci R (fun _=>?_) (fun hx=>Bool.noConfusion hx)))
    refine csr (sv R (A6 Wc Abt A1 (.nil _)) (sst Tg R R R R R (rm 1 R (Ak (Bs (Ag ?_))))))
    obtain rfl:=SJ h
    exact dn (Ad (ra Ou R R R) (Ad (rt R) Ai)) (Ip R) R
   ·refine rm 1 R (son R R R ?_)
    obtain ⟨v6,hv6,h⟩:=Ae h
    refine Ba R Avv (Aa R Af) (An R) (P9 hv6) (son R R R (sv R (B0 R) (rm 1 R (Ak (ccI h R (fun h=>?_) (fun h=>?_))))))
    ·refine csr (sv R (A6 Wc Abt A1 (.nil _)) (sst Tg R R R R R (rm 1 R (Ak (Bs (Ag ?_))))))
     obtain rfl:=SJ h
     exact dn (Ad (ra Ou R R R) (Ad (rt R) Ai)) (Ip R) R
    ·refine Bf (Ab ?_)
     exact ⟨(),_,h,⟨R,R,R,R,R,trivial⟩,R⟩
def Ei (b1:(List (List UInt8))):Option Bool :=
 (Ef b1).bind fun v2=>some v2
def Df (s3:Int × (List (List UInt8))) (u4:Av) (b5:Unit):Option (LR (Int × (List (List UInt8))) ((List (List UInt8))) (Bool)) :=
 if (s3.2.length+[u4.Key].length)*24≤140737488355328 then (some (.cont ((wI (s3.1+1)),(s3.2++[u4.Key])))) else none
def Eh (a0:List Av) (s3:Int × (List (List UInt8))):Option (LR (Int × (List (List UInt8))) ((List (List UInt8))) (Bool)) :=
 if (decide (s3.1<(a0.length:Int))) then ((idx a0 s3.1).bind fun u4=>if (decide (32<(u4.Val.length:Int))) then (some (.ret false)) else (if u4.Del then (if (decide (0<(u4.Val.length:Int))) then (some (.ret false)) else (Df s3 u4 ())) else (Df s3 u4 ()))) else (some (.brk s3.2))
def Gf (a0:List Av):Option Bool :=
 (Lj (Eh a0) fuel (0,([]:List (List UInt8)))).bind fun x=>match x with | .inl r=>some r | .inr e7=>Ei e7
theorem S9 {a0:List Av} {r:Bool} (h:Gf a0=some r):Br Tryz.prog 213 [.one (.sl a0.length (a0.flatMap Ao))] (·=.s (.one (.b r))):=by
 unfold Gf at h
 refine A5 Tryz.func213 R (nt:=34) R (Nbl R) ?_
 intro w0 S0
 refine csr (rm 1 R (Ak (csr (rm 1 R (Ak (Bl (csr (rm 1 R (sv R (Aw V5 R) (rm 1 R (Ak ?_)))))))))))
 refine C6 56 1 3 (by decide) R ?_
 refine cj ((List (List UInt8))) (fun b1=>[(3,.s (.one (.ls 0 b1.length)))]) (fun b1=>[.arr 56 1 0 (b1.flatMap (eL eU8))]) (fun b1=>Ei b1=some r) (fun _=>R) (fun b1 h=>?_) ?_
 ·unfold Ei at h
  refine csr (sv R (A4 R) ?_)
  refine Ah4 32 R (by (repeat' first | exact Ic.nil _ | apply Ic.cons | apply H6.one | apply H6.agg | exact Cz.nil | exact Cz.ls _ _ _ _ _ _ R (Au (f:=(eL eU8)) (fun _=>R) _).symm | exact Cz.id _ R | exact Co.nil _ | apply Co.cons)) ?_
  obtain ⟨v2,hv2,h⟩:=Ae h
  refine Ba R Ave (Aa R Af) (An R) (Po hv2) (rm 1 R (Ak (Bs ?_)))
  obtain rfl:=SJ h
  exact dnT R R R R
 ·skip
  refine Bq ?_
  obtain ⟨x3,hx3,ho3⟩:=Ae h
  refine lpo (G:=Nat × (Int × (List (List UInt8)))) (fun g=>[(3,.s (.one (.ls 0 g.2.2.length))),(6,.s (.one (.sl a0.length (a0.flatMap Ao)))),(7,.s (.one (Ii6 (a0.length:Int)))),(8,.s (.one (Ii6 g.2.1)))]) (fun g=>[.arr 56 1 0 (g.2.2.flatMap (eL eU8))]) (fun g=>Lj (Eh a0) g.1 g.2=some x3) (fun g=>g.1) (fuel,(0,([]:List (List UInt8)))) hx3 ⟨R,R,R,R,trivial⟩ [] R (fun _=>R) ?_
  clear hx3 h
  rintro ⟨n3,s3⟩ h
  obtain ⟨n3,y3,rfl,h,hk3⟩:=Es h
  unfold Eh at h
  refine csr (sv R (Bt R R) (Ak (Bl (ccI h R (fun h=>?_) (fun h=>?_)))))
  ·refine Bf (Ab (Bl (Bq (Bl (Aq ?_)))))
   obtain ⟨u4,hu4,h⟩:=Ae h
   refine sv R (B8 (f:=Ao) V5 (fun _=>R) R R R R hu4) ?_
   refine sv R (Bz (ys:=[.sl u4.Key.length (u4.Key.flatMap eU8),.sl u4.Val.length (u4.Val.flatMap eU8),.b u4.Del]) Ady R (.cp _) R R) (Bp R Ajk (sst Al2 R R R R R (Ak (Bl (Bl (cj3 (Unit) (fun b5=>[(3,.s (.one (.ls 0 s3.2.length))),(5,.s (.one (.lp 1 0))),(6,.s (.one (.sl a0.length (a0.flatMap Ao)))),(7,.s (.one (Ii6 (a0.length:Int)))),(8,.s (.one (Ii6 s3.1)))]) (fun b5=>[.arr 56 1 0 (s3.2.flatMap (eL eU8)),.box (EL.el u4)]) (fun b5=>Df s3 u4 b5=some y3) (fun _=>R) (fun b5 h=>?_) ?_))))))
   ·unfold Df at h
    refine Aq (rm 1 R (sv R (Ac Qg R) (sv R (l1 Mz R R R) ?_)))
    refine Fo R Tryz.underlying25 Af4 R R (zJ.1 R) (by decide) ?_
    refine Pz [.arr 56 1 0 (s3.2.flatMap (eL eU8)),.box (EL.el u4),.arr 56 1 0 ([u4.Key].flatMap (eL eU8))] R ?_
    obtain ⟨hb6,h⟩:=Cp h
    refine Tr (f:=(eL eU8)) (xs:=s3.2) (us:=[u4.Key]) R Tryz.underlying25 Af4 Ase (fun _=>R) R R (.one _ _ _ _ (.ls _ _ _ _ _ _ R (Au (f:=(eL eU8)) (fun _=>R) [u4.Key]).symm)) R R R (.sl _ _ _ (Au (f:=(eL eU8)) (fun _=>R) _)) R R hb6 (by decide) ?_
    refine rm 1 R (Kz (Ap (Ab (Aq (sv R (Bo R R) (rm 1 R (Ak ?_)))))))
    obtain rfl:=SJ h
    exact ⟨(n3,((wI (s3.1+1)),(s3.2++[u4.Key]))),_,hk3,⟨R,R,R,R,trivial⟩,R,zG _⟩
   ·skip
    refine Aq (fl Xa Mz R R R R R R (sv R (Aw Yc R) (sv R (C5 R R) (rm 1 R (ssI 16 h R (fun h=>?_) (fun h=>?_))))))
    ·refine rm 3 R (Ch R R R (Ch R R R (Ch R R R (Ch R R R (rm 2 R (Ak (Ci R (fun _=>?_) (fun hx=>Bool.noConfusion hx))))))))
     refine csr (rm 1 R (Ak (Bs (Ag (Az (Ag (Ag (Az (Ag ?_)))))))))
     obtain rfl:=SJ h
     obtain rfl:Sum.inl _=x3:=hk3
     replace ho3:some _=some _:=ho3
     obtain rfl:=zD ho3
     exact dnT R R R R
    ·refine son R R R (sv R (Ac Abn R) (son R R R (sv R (l1 ti4 R R R) (rm 1 R (ssI 19 h R (fun h=>?_) (fun h=>?_))))))
     ·refine son R R R (sv R (Ac Xa R) (son R R R (sv R (l1 Mz R R R) (son R R R (sv R (Aw Yc R) (son R R R (sv R (C5 R R) (rm 2 R (Ak (ccI h R (fun h=>?_) (fun h=>?_)))))))))))
      ·refine csr (rm 1 R (Ak (Bs (Ag (Az (Ag (Ag (Az (Ag ?_)))))))))
       obtain rfl:=SJ h
       obtain rfl:Sum.inl _=x3:=hk3
       replace ho3:some _=some _:=ho3
       obtain rfl:=zD ho3
       exact dnT R R R R
      ·refine Bf (Ab ?_)
       exact ⟨(),_,h,⟨R,R,R,R,R,trivial⟩,R⟩
     ·refine rm 6 R (Ak (Ci R (fun hx=>Bool.noConfusion hx) (fun _=>?_)))
      refine Bf (Ab ?_)
      exact ⟨(),_,h,⟨R,R,R,R,R,trivial⟩,R⟩
  ·refine Da (As (As (Bj (Ab ?_))))
   obtain rfl:=SJ h
   obtain rfl:_=x3:=hk3
   exact ⟨s3.2,_,ho3,⟨R,trivial⟩,R⟩
def R4 (a0:List (List UInt8)):Option (List (List UInt8)) :=
 if (([]:List (List UInt8)).length+a0.length)*24≤140737488355328 then (some (([]:List (List UInt8))++a0)) else none
theorem Ahh {a0:List (List UInt8)} {r:(List (List UInt8))} (h:R4 a0=some r):Br Tryz.prog 214 [.one (.sl a0.length (a0.flatMap (eL eU8)))] (·=.s (.one (.sl r.length (r.flatMap (eL eU8))))):=by
 unfold R4 at h
 refine A5 Tryz.func214 R (nt:=8) R (Nbl R) ?_
 intro w0 S0
 refine csr (rm 1 R (Ak (Bl (csr (rm 1 R (Ac4 R Tryz.underlying25 R (fun nq hnq=>?_)))))))
 cases nq
 ·skip
  refine Ak (Ci R (fun hx=>Bool.noConfusion hx) (fun _=>?_))
  refine Bf (Ab (csr (S8 R Tryz.underlying25 Af4 (sv R (A4 R) ?_))))
  obtain ⟨hb1,h⟩:=Cp h
  refine Tr (f:=(eL eU8)) (xs:=([]:List (List UInt8))) (us:=a0) R Tryz.underlying25 Af4 Ase (fun _=>R) R R (.one _ _ _ _ (.id _ R)) R R R (.sl _ _ _ (Au (f:=(eL eU8)) (fun _=>R) _)) R R hb1 (by decide) ?_
  refine rm 1 R (Ak (Bs ?_))
  obtain rfl:=SJ h
  refine ⟨Or.inr R,_,_,_,(Ad (rt R) Ai),(by (repeat' first | exact Ic.nil _ | apply Ic.cons | apply H6.one | apply H6.agg | exact Cz.nil | exact Cz.ls _ _ _ _ _ _ R (Au (f:=(eL eU8)) (fun _=>R) _).symm | exact Cz.id _ R | exact Co.nil _ | apply Co.cons)),?_⟩
  rfl
 ·obtain rfl:=zZ (hnq rfl)
  replace h:(some ([]:List (List UInt8)))=some r:=by first | exact h | (rw [if_pos (by decide)] at h;exact h)
  refine Ak (Ci R (fun _=>?_) (fun hx=>Bool.noConfusion hx))
  refine csr (rm 1 R (Ak (Bs (Ag ?_))))
  obtain rfl:=SJ h
  exact dn (Ad (rt R) Ai) (Ip R) R
def Sj (a0:List Al):Option (List Al) :=
 if (([]:List Al).length+a0.length)*24≤140737488355328 then (some (([]:List Al)++a0)) else none
theorem Ahd {a0:List Al} {r:(List Al)} (h:Sj a0=some r):Br Tryz.prog 215 [.one (.sl a0.length (a0.flatMap Ay))] (·=.s (.one (.sl r.length (r.flatMap Ay)))):=by
 unfold Sj at h
 refine A5 Tryz.func215 R (nt:=8) R (Nbl R) ?_
 intro w0 S0
 refine csr (rm 1 R (Ak (Bl (csr (rm 1 R (Ac4 R Tryz.underlying26 R (fun nq hnq=>?_)))))))
 cases nq
 ·skip
  refine Ak (Ci R (fun hx=>Bool.noConfusion hx) (fun _=>?_))
  refine Bf (Ab (csr (S8 R Tryz.underlying26 Agg (sv R (A4 R) ?_))))
  obtain ⟨hb1,h⟩:=Cp h
  refine Tr (f:=Ay) (xs:=([]:List Al)) (us:=a0) R Tryz.underlying26 Agg Axu (fun _=>R) R R (.one _ _ _ _ (.id _ R)) R R R (.sl _ _ _ (Au (f:=Ay) (fun _=>R) _)) R R hb1 (by decide) ?_
  refine rm 1 R (Ak (Bs ?_))
  obtain rfl:=SJ h
  refine ⟨Or.inr R,_,_,_,(Ad (rt R) Ai),(by (repeat' first | exact Ic.nil _ | apply Ic.cons | apply H6.one | apply H6.agg | exact Cz.nil | exact Cz.ls _ _ _ _ _ _ R (Au (f:=Ay) (fun _=>R) _).symm | exact Cz.id _ R | exact Co.nil _ | apply Co.cons)),?_⟩
  rfl
 ·obtain rfl:=zZ (hnq rfl)
  replace h:(some ([]:List Al))=some r:=by first | exact h | (rw [if_pos (by decide)] at h;exact h)
  refine Ak (Ci R (fun _=>?_) (fun hx=>Bool.noConfusion hx))
  refine csr (rm 1 R (Ak (Bs (Ag ?_))))
  obtain rfl:=SJ h
  exact dn (Ad (rt R) Ai) (Ip R) R
def I9 (a0:List (List UInt8)):Option (List (List UInt8)) :=
 if (([]:List (List UInt8)).length+a0.length)*24≤140737488355328 then (some (([]:List (List UInt8))++a0)) else none
theorem Qf {a0:List (List UInt8)} {r:(List (List UInt8))} (h:I9 a0=some r):Dl Tryz.prog 214 [] [.one (.sl a0.length (a0.flatMap (eL eU8)))] (fun y m'=>y=.s (.one (.ls 0 r.length))∧m'=[.arr 56 1 0 (r.flatMap (eL eU8))]):=by
 unfold I9 at h
 refine Dc Tryz.func214 R (nt:=8) R (Nbl R) ?_
 intro w0 S0 X0 H0
 refine csr (rm 1 R (Ak (Bl (csr (rm 1 R (Ac4 R Tryz.underlying25 R (fun nq hnq=>?_)))))))
 cases nq
 ·skip
  refine Ak (Ci R (fun hx=>Bool.noConfusion hx) (fun _=>?_))
  refine Bf (Ab (csr (S8 R Tryz.underlying25 Af4 (sv R (A4 R) ?_))))
  obtain ⟨hb1,h⟩:=Cp h
  refine Tr (f:=(eL eU8)) (xs:=([]:List (List UInt8))) (us:=a0) R Tryz.underlying25 Af4 Ase (fun _=>R) R R (.one _ _ _ _ (.id _ R)) R R R (.sl _ _ _ (Au (f:=(eL eU8)) (fun _=>R) _)) R R hb1 (by decide) ?_
  refine rm 1 R (Ak (Bs ?_))
  obtain rfl:=SJ h
  exact ⟨Or.inr R,_,[0],[.one (.ls 0 (([]:List (List UInt8))++a0).length)],[.arr 56 1 0 ((([]:List (List UInt8))++a0).flatMap (eL eU8))],(Ad (rt R) Ai),R,R,⟨by decide,R⟩,R,R,⟨R,R⟩⟩
 ·obtain rfl:=zZ (hnq rfl)
  replace h:(some ([]:List (List UInt8)))=some r:=by first | exact h | (rw [if_pos (by decide)] at h;exact h)
  refine Ak (Ci R (fun _=>?_) (fun hx=>Bool.noConfusion hx))
  refine csr (rm 1 R (Ak ?_))
  refine C6 56 1 2 (by decide) R ?_
  refine Bs (Ag ?_)
  obtain rfl:=SJ h
  exact ⟨Or.inr R,_,[0],[.one (.ls 0 ([]:List (List UInt8)).length)],[.arr 56 1 0 (([]:List (List UInt8)).flatMap (eL eU8))],(Ad (rt R) Ai),R,R,⟨by decide,R⟩,R,R,⟨R,R⟩⟩
def Ir (a0:List Al):Option (List Al) :=
 if (([]:List Al).length+a0.length)*24≤140737488355328 then (some (([]:List Al)++a0)) else none
theorem Qd {a0:List Al} {r:(List Al)} (h:Ir a0=some r):Dl Tryz.prog 215 [] [.one (.sl a0.length (a0.flatMap Ay))] (fun y m'=>y=.s (.one (.ls 0 r.length))∧m'=[.arr 134 1 0 (r.flatMap Ay)]):=by
 unfold Ir at h
 refine Dc Tryz.func215 R (nt:=8) R (Nbl R) ?_
 intro w0 S0 X0 H0
 refine csr (rm 1 R (Ak (Bl (csr (rm 1 R (Ac4 R Tryz.underlying26 R (fun nq hnq=>?_)))))))
 cases nq
 ·skip
  refine Ak (Ci R (fun hx=>Bool.noConfusion hx) (fun _=>?_))
  refine Bf (Ab (csr (S8 R Tryz.underlying26 Agg (sv R (A4 R) ?_))))
  obtain ⟨hb1,h⟩:=Cp h
  refine Tr (f:=Ay) (xs:=([]:List Al)) (us:=a0) R Tryz.underlying26 Agg Axu (fun _=>R) R R (.one _ _ _ _ (.id _ R)) R R R (.sl _ _ _ (Au (f:=Ay) (fun _=>R) _)) R R hb1 (by decide) ?_
  refine rm 1 R (Ak (Bs ?_))
  obtain rfl:=SJ h
  exact ⟨Or.inr R,_,[0],[.one (.ls 0 (([]:List Al)++a0).length)],[.arr 134 1 0 ((([]:List Al)++a0).flatMap Ay)],(Ad (rt R) Ai),R,R,⟨by decide,R⟩,R,R,⟨R,R⟩⟩
 ·obtain rfl:=zZ (hnq rfl)
  replace h:(some ([]:List Al))=some r:=by first | exact h | (rw [if_pos (by decide)] at h;exact h)
  refine Ak (Ci R (fun _=>?_) (fun hx=>Bool.noConfusion hx))
  refine csr (rm 1 R (Ak ?_))
  refine C6 134 1 2 (by decide) R ?_
  refine Bs (Ag ?_)
  obtain rfl:=SJ h
  exact ⟨Or.inr R,_,[0],[.one (.ls 0 ([]:List Al).length)],[.arr 134 1 0 (([]:List Al).flatMap Ay)],(Ad (rt R) Ai),R,R,⟨by decide,R⟩,R,R,⟨R,R⟩⟩
def Fp (b1:Unit):Option Int :=
 some (-1)
def Dp (a0:List (List UInt8)) (a1:List UInt8) (s2:Int):Option (LR (Int) (Unit) (Int)) :=
 if (decide (s2<(a0.length:Int))) then ((idx a0 s2).bind fun u3=>(D2 a1 u3).bind fun v4=>if v4 then (some (.ret s2)) else (some (.cont (wI (s2+1))))) else (some (.brk ()))
end Go.Proofs.YtkblaobhhoebaaaGreat.Abs
