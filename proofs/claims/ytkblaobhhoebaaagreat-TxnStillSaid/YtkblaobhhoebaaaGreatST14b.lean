/-
 t
-/
import Derived.Test.YtkblaobhhoebaaaGreatST14a
set_option linter.unusedVariables false
set_option linter.unusedSimpArgs false
namespace Go.Proofs.YtkblaobhhoebaaaGreat.Abs
open Go.RowKit Go.Proofs
set_option maxRecDepth 100000
def C9 (a0:Ai) (a1:Bg):Option Ai :=
 (Lc a0 a1.ID).bind λv1=>(Ep v1.Cert a1.ID).bind λv2=>(C7 v1.Toks a1.Token a1.Attempt).bind λv3=>if (decide (v3.2.2=0)) then(some ({v1 with Cert:=v2,Toks:=v3.1})) else(some ({v1 with Cert:=v2}))
theorem I4 {a0:Ai} {a1:Bg} {r:Ai} (h:C9 a0 a1=some r):Bt Qx0 57 [.agg (EL.el a0),.agg (EL.el a1)] (·=.s (.agg (EL.el r))):=by
 unfold C9 at h
 refine A1 Tryz.func57 R (nt:=34) R (Nbl R) ?_
 intro w0 S0
 refine csr (Er R R (Er R R (Br R Tg (Ah (csr (ld Dq R R R R (sv R (Aa Tv R) (sv R (l1 ti3 R R R) ?_))))))))
 obtain⟨v1,hv1,h⟩:=Ae h
 refine Bb R A0b (Ac R (Ac R Ag)) (Ao R) (T6 hv1) (sst Kn R R R R R (Ah (csr (sv R (Aa R7 R) (ld Sx R R R R (sv R (Aa Tv R) (sv R (l1 ti3 R R R) ?_)))))))
 obtain⟨v2,hv2,h⟩:=Ae h
 refine Bb R A2n (Ac R (Ac R Ag)) (Ao R) (Aa0 hv2) (sv R (Aa R7 R) (sst Z6 R R R R R (Ah (Bj (csr (sv R (Aa Vl R) (ld P3 R R R R (fl Adw ti3 R R R R R R (sv R (Aa Ahe R) (sv R (l1 ti3 R R R) ?_))))))))))
 obtain⟨v3,hv3,h⟩:=Ae h
 refine Bb R A4m (Ac R (Ac R (Ac R Ag))) (Ao R) (Tw hv3) (sv R (Cf R) (sv R (Ak R R) (sv R (Ak R R) (sv R (Ak R R) (Br R X1 (sst Vr R R R R R (rm 2 R (Ah (csr (rm 1 R (sv R (B6 R R) (Ah (ccI h R (λh=>?_) (λh=>?_))))))))))))))
 ·refine Au (ld P3 R R R R (sv R (Aa Vl R) (sst Vr R R R R R (Ah (csr (ld Dq R R R R (sst Kn R R R R R (Ah (Bq ?_)))))))))
  obtain rfl:=SJ h
  exact dnA R Dq R (.lp _ _ _ R) (Nbl R) R R
 ·refine Bf (Ab (csr (ld Dq R R R R (sst Kn R R R R R (Ah (Bq ?_))))))
  obtain rfl:=SJ h
  exact dnA R Dq R (.lp _ _ _ R) (Nbl R) R R
def Lv (a0:Bn) (a1:Int) (a2:Int) (b1:Unit):Option (Bn×Int) :=
 (E8 a0 a1).bind λv2=>if v2.2 then(if (decide (v2.1.State=2)) then(some (Cx,7)) else(if v2.2 then(if (decide (a2<=v2.1.Attempt)) then(some (Cx,14)) else((Dd a0 (Ba.mk a1 a2 1 0)).bind λv3=>some (v3.1,v3.2))) else((Dd a0 (Ba.mk a1 a2 1 0)).bind λv4=>some (v4.1,v4.2)))) else(if v2.2 then(if (decide (a2<=v2.1.Attempt)) then(some (Cx,14)) else((Dd a0 (Ba.mk a1 a2 1 0)).bind λv5=>some (v5.1,v5.2))) else((Dd a0 (Ba.mk a1 a2 1 0)).bind λv6=>some (v6.1,v6.2)))
def I9 (a0:Bn) (a1:Int) (a2:Int):Option (Bn×Int) :=
 (De a0).bind λv7=>if (!v7) then(some (Cx,1)) else((Cy a1 a2).bind λv8=>if (!v8) then(some (Cx,1)) else(Lv a0 a1 a2 ()))
theorem Yx {a0:Bn} {a1:Int} {a2:Int} {r:Bn×Int} (h:I9 a0 a1 a2=some r):Bt Qx0 58 [.agg [SL a0.L Al],.one (Ii6 a1),.one (Ii6 a2)] (·=.tup [.agg [SL r.1.L Al],.one (Ii6 r.2)]):=by
 unfold I9 at h
 refine A1 Tryz.func58 R (nt:=50) R (Nbl R) ?_
 intro w0 S0
 refine csr (Er R R (Br R X1 (rm 1 R (Ah (Bj (Bj (cj3 (Unit) (λb1=>[(1,L7 (Ii6 a1)),(2,L7 (Ii6 a2)),(3,L7 (.lp 0 0)),(6,L7 (.lp 1 0))]) (λb1=>[.box [SL a0.L Al],.box [Znl]]) (λb1=>Lv a0 a1 a2 b1=some r) (λ_=>R) (λb1 h=>?_) ?_)))))))
 ·unfold Lv at h
  refine csr (ld P3 R R R R (sv R (Az R) ?_))
  obtain⟨v2,hv2,h⟩:=Ae h
  refine Bb R Azv (Ac R (Ac R Ag)) (Ao R) (Li hv2) (sv R (Cf R) (sv R (Ak R R) (sv R (Ak R R) (Br R W5 (sst Ab6 R R R R R (rm 1 R (Ah (Bj (Bl (csr (rm 2 R (ssI 28 h R (λh=>?_) (λh=>?_)))))))))))))
  ·refine son R R R (sv R (Aa Wj R) (son R R R (sv R (l1 ti3 R R R) (son R R R (sv R (B6 R R) (rm 2 R (Ah (ccI h R (λh=>?_) (λh=>?_)))))))))
   ·refine csr (sv R (A2 X1 Aec A0 (.nil _)) (sst Vr R R R R R (rm 1 R (Ah (Bq (Av (Af ?_)))))))
    obtain rfl:=SJ h
    exact dn (Ad (ra P3 R R R) (Ad (rt R) Aj)) (I8 R) R
   ·refine csr (rm 2 R (ssI 36 h R (λh=>?_) (λh=>?_)))
    ·refine rm 1 R (son R R R (sv R (Aa V0 R) (son R R R (sv R (l1 ti3 R R R) (son R R R (sv R (Dk R R) (rm 2 R (Ah (ccI h R (λh=>?_) (λh=>?_))))))))))
     ·refine csr (sv R (A2 X1 Aec A0 (.nil _)) (sst Vr R R R R R (rm 1 R (Ah (Bq (Av (Af ?_)))))))
      obtain rfl:=SJ h
      exact dn (Ad (ra P3 R R R) (Ad (rt R) Aj)) (I8 R) R
     ·refine Bf (Ar (Ab (csr (ld P3 R R R R (rm 2 R (sv R (A2 W5 Aj0 (Aq R (Aq R (Aq R A0))) (.cons _ _ _ _ _ _ _ R R (Nbl R) (.cons _ _ _ _ _ _ _ R R (Nbl R) (.cons _ _ _ _ _ _ _ R R (Nbl R) (.nil _))))) ?_))))))
      obtain⟨v3,hv3,h⟩:=Ae h
      refine Bb R Amt (Ac R (Ac R Ag)) (Ao R) (Ic hv3) (sv R (Ak R R) (sv R (Ak R R) (sst Vr R R R R R (rm 1 R (Ah (Bq ?_))))))
      obtain rfl:=SJ h
      exact dn (Ad (ra P3 R R R) (Ad (rt R) Aj)) (Ao R) R
    ·refine rm 6 R (Ah (Ce R (λhx=>Bool.noConfusion hx) (λ_=>?_)))
     refine Bf (Ar (Ab (csr (ld P3 R R R R (rm 2 R (sv R (A2 W5 Aj0 (Aq R (Aq R (Aq R A0))) (.cons _ _ _ _ _ _ _ R R (Nbl R) (.cons _ _ _ _ _ _ _ R R (Nbl R) (.cons _ _ _ _ _ _ _ R R (Nbl R) (.nil _))))) ?_))))))
     obtain⟨v4,hv4,h⟩:=Ae h
     refine Bb R Amt (Ac R (Ac R Ag)) (Ao R) (Ic hv4) (sv R (Ak R R) (sv R (Ak R R) (sst Vr R R R R R (rm 1 R (Ah (Bq ?_))))))
     obtain rfl:=SJ h
     exact dn (Ad (ra P3 R R R) (Ad (rt R) Aj)) (Ao R) R
  ·refine rm 5 R (Ah (Ce R (λhx=>Bool.noConfusion hx) (λ_=>?_)))
   refine csr (rm 2 R (ssI 36 h R (λh=>?_) (λh=>?_)))
   ·refine rm 1 R (son R R R (sv R (Aa V0 R) (son R R R (sv R (l1 ti3 R R R) (son R R R (sv R (Dk R R) (rm 2 R (Ah (ccI h R (λh=>?_) (λh=>?_))))))))))
    ·refine csr (sv R (A2 X1 Aec A0 (.nil _)) (sst Vr R R R R R (rm 1 R (Ah (Bq (Av (Af ?_)))))))
     obtain rfl:=SJ h
     exact dn (Ad (ra P3 R R R) (Ad (rt R) Aj)) (I8 R) R
    ·refine Bf (Ar (Ab (csr (ld P3 R R R R (rm 2 R (sv R (A2 W5 Aj0 (Aq R (Aq R (Aq R A0))) (.cons _ _ _ _ _ _ _ R R (Nbl R) (.cons _ _ _ _ _ _ _ R R (Nbl R) (.cons _ _ _ _ _ _ _ R R (Nbl R) (.nil _))))) ?_))))))
     obtain⟨v5,hv5,h⟩:=Ae h
     refine Bb R Amt (Ac R (Ac R Ag)) (Ao R) (Ic hv5) (sv R (Ak R R) (sv R (Ak R R) (sst Vr R R R R R (rm 1 R (Ah (Bq ?_))))))
     obtain rfl:=SJ h
     exact dn (Ad (ra P3 R R R) (Ad (rt R) Aj)) (Ao R) R
   ·refine rm 6 R (Ah (Ce R (λhx=>Bool.noConfusion hx) (λ_=>?_)))
    refine Bf (Ar (Ab (csr (ld P3 R R R R (rm 2 R (sv R (A2 W5 Aj0 (Aq R (Aq R (Aq R A0))) (.cons _ _ _ _ _ _ _ R R (Nbl R) (.cons _ _ _ _ _ _ _ R R (Nbl R) (.cons _ _ _ _ _ _ _ R R (Nbl R) (.nil _))))) ?_))))))
    obtain⟨v6,hv6,h⟩:=Ae h
    refine Bb R Amt (Ac R (Ac R Ag)) (Ao R) (Ic hv6) (sv R (Ak R R) (sv R (Ak R R) (sst Vr R R R R R (rm 1 R (Ah (Bq ?_))))))
    obtain rfl:=SJ h
    exact dn (Ad (ra P3 R R R) (Ad (rt R) Aj)) (Ao R) R
 ·skip
  refine Au (sv R (lo P3 R R R) ?_)
  obtain⟨v7,hv7,h⟩:=Ae h
  refine Bb R Az0 (Ac R Ag) (Ao R) (Ll hv7) (sv R (Bz R) (rm 1 R (ssI 13 h R (λh=>?_) (λh=>?_))))
  ·refine rm 5 R (Ah (Ce R (λ_=>?_) (λhx=>Bool.noConfusion hx)))
   refine csr (sv R (A2 X1 Aec A0 (.nil _)) (sst Vr R R R R R (rm 1 R (Ah (Bq (Af ?_))))))
   obtain rfl:=SJ h
   exact dn (Ad (ra P3 R R R) (Ad (rt R) Aj)) (I8 R) R
  ·refine rm 2 R (son R R R ?_)
   obtain⟨v8,hv8,h⟩:=Ae h
   refine Bb R Al4 (Ac R (Ac R Ag)) (Ao R) (Ee hv8) (son R R R (sv R (Bz R) (rm 1 R (Ah (ccI h R (λh=>?_) (λh=>?_))))))
   ·refine csr (sv R (A2 X1 Aec A0 (.nil _)) (sst Vr R R R R R (rm 1 R (Ah (Bq (Af ?_))))))
    obtain rfl:=SJ h
    exact dn (Ad (ra P3 R R R) (Ad (rt R) Aj)) (I8 R) R
   ·refine Bf (Ab ?_)
    exact⟨(),_,h,⟨R,R,R,R,trivial⟩,R⟩
def Kj (a0:Int) (b1:Unit):Option (List A3) :=
 if (decide (0<(wI (a0-(wI (0-0)))))) then(if 0<(wI (a0-(wI (0-0))))/\(wI (a0-(wI (0-0))))*((64:Nat):Int)<=281474976710656 then(if (0:Int)<=0/\0<=((List.replicate (wI (a0-(wI (0-0)))).toNat Aab).length:Int) then(some ((List.replicate (wI (a0-(wI (0-0)))).toNat Aab).take (0:Int).toNat)) else none) else none) else(some ([]:List A3))
def Kt (a0:Int):Option (List A3) :=
 if (decide (a0<0)) then none else(Kj a0 ())
theorem Ya {a0:Int} {r:(List A3)} (h:Kt a0=some r):Dw Qx0 198 [] [.one (Znl),.one (Ii6 a0)] (λy m'=>y=L7 (.ls 0 r.length)/\m'=[.arr 139 8 0 (r.flatMap Bc)]):=by
 unfold Kt at h
 refine Dn Tryz.func198 R (nt:=27) R (Nbl R) ?_
 intro w0 S0 X0 H0
 refine csr (rm 1 R (Ah (Bj (csr (rm 1 R (sv R (Bv R R) (Ah (cj (Unit) (λb1=>[(0,L7 (Znl)),(1,L7 (Ii6 a0))]) (λb1=>[]) (λb1=>Kj a0 b1=some r) (λ_=>R) (λb1 h=>?_) ?_))))))))
 ·unfold Kj at h
  refine Bj (csr (rm 2 R (sv R (G9 R8 R) (rm 1 R (sv R (F5 R8 R) (sv R (Ph R R) (sv R (Ph R R) (rm 1 R (Ah (csr (rm 1 R (sv R (Dr R R) (Ah (ccI h R (λh=>?_) (λh=>?_)))))))))))))))
  ·refine Au (rm 2 R (sv R (G9 R8 R) (sv R (Oh R8 R R) (sv R (Az R) ?_))))
   obtain⟨hm2,h⟩:=Cs h
   refine Ak9 (f:=Bc) (z:=Aab) R Tryz.underlying29 Ajy Tryz.underlying3 (λ_=>R) R R R hm2 (by decide) ?_
   refine rm 1 R (sv R (F5 R8 R) ?_)
   obtain⟨hs3,h⟩:=Cs h
   refine Aei (f:=Bc) R R8 (λ_=>R) R R R R R hs3 ?_
   refine rm 1 R (Ah (csr (rm 2 R (Ah (Bq ?_)))))
   obtain rfl:=SJ h
   exact⟨Or.inr R,_,[1],[.one (.ls 0 ((List.replicate (wI (a0-(wI (0-0)))).toNat Aab).take (0:Int).toNat).length)],[.arr 139 8 0 (((List.replicate (wI (a0-(wI (0-0)))).toNat Aab).take (0:Int).toNat).flatMap Bc)],(Ad (rt R) Aj),R,R,⟨by decide,R⟩,R,R,⟨R,R⟩⟩
  ·refine Bf (Ab (csr (rm 2 R (Ah ?_))))
   refine Dl 139 8 4 (by decide) R ?_
   refine Bq ?_
   obtain rfl:=SJ h
   exact⟨Or.inr R,_,[0],[.one (.ls 0 ([]:List A3).length)],[.arr 139 8 0 (([]:List A3).flatMap Bc)],(Ad (rt R) Aj),R,R,⟨by decide,R⟩,R,R,⟨R,R⟩⟩
 ·skip
  refine ccI h R (λh=>?_) (λh=>?_)
  ·cases h
  ·refine Bf (Ab ?_)
   exact⟨(),_,h,⟨R,R,trivial⟩,R⟩
def M4 (b3:(List A3)):Option (List A3) :=
 some b3
def E0 (a0:List (List A3)) (s4:Int×(List A3)):Option (LB (Int×(List A3)) ((List A3))) :=
 if (decide (s4.1<(a0.length:Int))) then((idx a0 s4.1).bind λu5=>if (s4.2.length+u5.length)*64<=140737488355328 then(some (.cont ((wI (s4.1+1)),(s4.2++u5)))) else none) else(some (.brk s4.2))
def J1 (a0:List (List A3)) (b1:Int):Option (List A3) :=
 (Kt b1).bind λv2=>(Cz (E0 a0) fuel (0,v2)).bind λe7=>M4 e7
def Ex (a0:List (List A3)) (s8:Int×Int):Option (LB (Int×Int) (Int)) :=
 if (decide (s8.2<(a0.length:Int))) then((idx a0 s8.2).bind λu9=>if (decide ((wI (s8.1+(u9.length:Int)))<0)) then none else(some (.cont ((wI (s8.1+(u9.length:Int))),(wI (s8.2+1)))))) else(some (.brk s8.1))
def J4 (a0:List (List A3)):Option (List A3) :=
 (Cz (Ex a0) fuel (0,0)).bind λe10=>J1 a0 e10
theorem Wz {a0:List (List A3)} {r:(List A3)} (h:J4 a0=some r):Bt Qx0 133 [.one (SL a0 (eL Bc))] (·=L7 (SL r Bc)):=by
 unfold J4 at h
 refine A1 Tryz.func133 R (nt:=36) R (Nbl R) ?_
 intro w0 S0
 refine csr (rm 1 R (Ah (csr (rm 1 R (Ah (Bj (csr (rm 1 R (sv R (Ap Ar2 R) (rm 1 R (Ah (cj (Int) (λb1=>[(0,L7 (SL a0 (eL Bc))),(3,L7 (Ii6 b1))]) (λb1=>[]) (λb1=>J1 a0 b1=some r) (λ_=>R) (λb1 h=>?_) ?_))))))))))))
 ·unfold J1 at h
  refine csr (sv R (Az R) ?_)
  obtain⟨v2,hv2,h⟩:=Ae h
  refine I0 (x':=L7 (.ls 0 v2.length)) (M':=[.arr 139 8 0 (v2.flatMap Bc)]) [] R A21 (.func _) (Ac R (Ac R Ag)) (Ya hv2) R R (by decide) R R R ?_
  refine rm 1 R (Ah (Bj (csr (rm 1 R (sv R (Ap Ar2 R) (rm 1 R (Ah (cj ((List A3)) (λb3=>[(6,L7 (.ls 0 b3.length))]) (λb3=>[.arr 139 8 0 (b3.flatMap Bc)]) (λb3=>M4 b3=some r) (λ_=>R) (λb3 h=>?_) ?_))))))))
  ·unfold M4 at h
   refine csr (rm 2 R (Ah (Bq ?_)))
   obtain rfl:=SJ h
   refine⟨Or.inr R,_,_,_,(Ad (rt R) Aj),(by(repeat' first|exact Ho.nil _|apply Ho.cons|apply Hl.one|apply Hl.agg|exact C5.nil|exact C5.ls _ _ _ _ _ _ R (Aw (f:=Bc) (λ_=>R) _).symm|exact C5.id _ R|exact Cv.nil _|apply Cv.cons)),?_⟩
   rfl
  ·skip
   refine Bl ?_
   obtain⟨x4,hx4,ho4⟩:=Ae h
   refine lpo (G:=Nat×(Int×(List A3))) (λg=>[(6,L7 (.ls 0 g.2.2.length)),(25,L7 (SL a0 (eL Bc))),(26,L7 (Ii6 (a0.length:Int))),(27,L7 (Ii6 g.2.1))]) (λg=>[.arr 139 8 0 (g.2.2.flatMap Bc)]) (λg=>Cz (E0 a0) g.1 g.2=some x4) (λg=>g.1) (fuel,(0,v2)) hx4 ⟨R,R,R,R,trivial⟩ [] R (λ_=>R) ?_
   clear hx4 h
   rintro⟨n4,s4⟩ h
   obtain⟨n4,y4,rfl,h,hk4⟩:=Cw h
   unfold E0 at h
   refine csr (sv R (Bv R R) (Ah (Bj (ccI h R (λh=>?_) (λh=>?_)))))
   ·refine Bf (Ab (Bj (Bl (Bj (Au ?_)))))
    obtain⟨u5,hu5,h⟩:=Ae h
    refine sv R (B4 (f:=(eL Bc)) Ar2 (λ_=>R) R R R R hu5) ?_
    refine sv R (B0 Abz R (.cp _) R) (rm 1 R (Ah (Au (rm 1 R (sv R (Az R) ?_)))))
    obtain⟨hb6,h⟩:=Cs h
    refine U1 (f:=Bc) (xs:=s4.2) (us:=u5) R Tryz.underlying29 Ajy A2f (λ_=>R) R R (.one _ _ _ _ (.id _ R)) R R R (.sl _ _ _ (Aw (f:=Bc) (λ_=>R) _)) R R hb6 (by decide) ?_
    refine rm 1 R (Jb (Ar (Ab (Au (sv R (Bp R R) (rm 1 R (Ah ?_)))))))
    obtain rfl:=SJ h
    exact⟨(n4,((wI (s4.1+1)),(s4.2++u5))),_,hk4,⟨R,R,R,R,trivial⟩,R,zG _⟩
   ·refine C3 (As (As (Bi (Ab ?_))))
    obtain rfl:=SJ h
    obtain rfl:_=x4:=hk4
    exact⟨s4.2,_,ho4,⟨R,trivial⟩,R⟩
 ·skip
  refine Bl ?_
  obtain⟨x8,hx8,ho8⟩:=Ae h
  refine lpo (G:=Nat×(Int×Int)) (λg=>[(0,L7 (SL a0 (eL Bc))),(3,L7 (Ii6 g.2.1)),(9,L7 (SL a0 (eL Bc))),(10,L7 (Ii6 (a0.length:Int))),(11,L7 (Ii6 g.2.2))]) (λg=>[]) (λg=>Cz (Ex a0) g.1 g.2=some x8) (λg=>g.1) (fuel,(0,0)) hx8 ⟨R,R,R,R,R,trivial⟩ [] R (λ_=>R) ?_
  clear hx8 h
  rintro⟨n8,s8⟩ h
  obtain⟨n8,y8,rfl,h,hk8⟩:=Cw h
  unfold Ex at h
  refine csr (sv R (Bv R R) (Ah (Bj (ccI h R (λh=>?_) (λh=>?_)))))
  ·refine Bf (Ab (Bj (Bl (Bj (Au ?_)))))
   obtain⟨u9,hu9,h⟩:=Ae h
   refine sv R (B4 (f:=(eL Bc)) Ar2 (λ_=>R) R R R R hu9) ?_
   refine sv R (B0 Abz R (.cp _) R) (rm 1 R (Ah (csr (rm 2 R (sv R (Ap R8 R) (sv R (Bp R R) (rm 1 R (Ah (csr (rm 1 R (sv R (Bv R R) (Ah (ccI h R (λh=>?_) (λh=>?_))))))))))))))
   ·cases h
   ·refine Bf (Ar (Ab (Au (sv R (Bp R R) (rm 1 R (Ah ?_))))))
    obtain rfl:=SJ h
    exact⟨(n8,((wI (s8.1+(u9.length:Int))),(wI (s8.2+1)))),_,hk8,⟨R,R,R,R,R,trivial⟩,R,zG _⟩
  ·refine C3 (As (As (Bi (Ab ?_))))
   obtain rfl:=SJ h
   obtain rfl:_=x8:=hk8
   exact⟨s8.1,_,ho8,⟨R,R,trivial⟩,R⟩
def Js (a0:Be) (a1:Int) (a2:Int) (a3:Bool):Option (Be×Int) :=
 (Lq a0).bind λv1=>if (!v1) then(some (Jg,1)) else((K6 (A3.mk a1 a2 0 1 false false a3 ([]:List (List UInt8)))).bind λv2=>if (!v2) then(some (Jg,1)) else((Hr a0 a1).bind λv3=>if (decide (0<=v3)) then(some (Jg,7)) else(if (decide (64<=(a0.Txs.length:Int))) then(some (Jg,8)) else((J4 ([a0.Txs,([(A3.mk a1 a2 0 1 false false a3 ([]:List (List UInt8)))]:List A3)]:List (List A3))).bind λv4=>some ((Be.mk v4 a0.Reads),0)))))
theorem Acs {a0:Be} {a1:Int} {a2:Int} {a3:Bool} {r:Be×Int} (h:Js a0 a1 a2 a3=some r):Bt Qx0 59 [.agg (EL.el a0),.one (Ii6 a1),.one (Ii6 a2),.one (.b a3)] (·=.tup [.agg (EL.el r.1),.one (Ii6 r.2)]):=by
 unfold Js at h
 refine A1 Tryz.func59 R (nt:=46) R (Nbl R) ?_
 intro w0 S0
 refine csr (Er R R (Br R Zq (rm 1 R (Ah (csr (rm 3 R (sv R (A2 U7 Ayp (Aq R (Aq R (Aq R (Aq R A0)))) (.cons _ _ _ _ _ _ _ R R (Nbl R) (.cons _ _ _ _ _ _ _ R R (Nbl R) (.cons _ _ _ _ _ _ _ R R (Nbl R) (.cons _ _ _ _ _ _ _ R R (Nbl R) (.nil _)))))) (Br R U7 (sst Ub R R R R R (Ah (Bj (Bl (csr (sv R (lo Sx R R R) ?_))))))))))))))
 obtain⟨v1,hv1,h⟩:=Ae h
 refine Bb R A0y (Ac R Ag) (Ao R) (Q7 hv1) (sv R (Bz R) (rm 1 R (ssI 19 h R (λh=>?_) (λh=>?_))))
 ·refine rm 5 R (Ah (Ce R (λ_=>?_) (λhx=>Bool.noConfusion hx)))
  refine csr (sv R (A2 Zq Afp A0 (.nil _)) (sst Z6 R R R R R (rm 1 R (Ah (Bq (Av (Af ?_)))))))
  obtain rfl:=SJ h
  exact dn (Ad (ra Sx R R R) (Ad (rt R) Aj)) (I8 R) R
 ·refine son R R R (ld J8 R R R R (son R R R ?_))
  obtain⟨v2,hv2,h⟩:=Ae h
  refine Bb R Ay9 (Ac R Ag) (I8 R) (Un hv2) (son R R R (sv R (Bz R) (rm 2 R (Ah (ccI h R (λh=>?_) (λh=>?_))))))
  ·refine csr (sv R (A2 Zq Afp A0 (.nil _)) (sst Z6 R R R R R (rm 1 R (Ah (Bq (Av (Af ?_)))))))
   obtain rfl:=SJ h
   exact dn (Ad (ra Sx R R R) (Ad (rt R) Aj)) (I8 R) R
  ·refine csr (ld Sx R R R R (sv R (Az R) ?_))
   obtain⟨v3,hv3,h⟩:=Ae h
   refine Bb R Avx (Ac R (Ac R Ag)) (Ao R) (Rx hv3) (sv R (Ii R R) (rm 1 R (Ah (ccI h R (λh=>?_) (λh=>?_)))))
   ·refine csr (sv R (A2 Zq Afp A0 (.nil _)) (sst Z6 R R R R R (rm 1 R (Ah (Bq (Av (Af ?_)))))))
    obtain rfl:=SJ h
    exact dn (Ad (ra Sx R R R) (Ad (rt R) Aj)) (I8 R) R
   ·refine csr (fl Oy Abz R R R R R R (sv R (Ap R8 R) (sv R (Ii R R) (rm 1 R (Ah (ccI h R (λh=>?_) (λh=>?_)))))))
    ·refine csr (sv R (A2 Zq Afp A0 (.nil _)) (sst Z6 R R R R R (rm 1 R (Ah (Bq (Av (Af ?_)))))))
     obtain rfl:=SJ h
     exact dn (Ad (ra Sx R R R) (Ad (rt R) Aj)) (I8 R) R
    ·refine Bf (Ar (Ab (Bj ?_)))
     obtain⟨v4,hv4,h⟩:=Ae h
     refine Kb [9] [0,1,0,4,15,31,0,64,255,511,1023] [[.box (EL.el a0),.box [Znl,Znl],.box [Ii6 a1,Ii6 a2,Ii6 0,Ii6 1,.b false,.b false,.b a3,Znl]],[.box (EL.el a0),.box (EL.el (Be.mk v4 a0.Reads)),.box [Ii6 a1,Ii6 a2,Ii6 0,Ii6 1,.b false,.b false,.b a3,Znl]]] (by kernel_rfl) mixed (by kernel_rfl) (by decide) R R R R ?_
     refine ev (A6 0 R R) R R (Aa Oy R) (ev (A6 0 R R) R R (l1 Abz R R R) (ev (A6 0 R R) R R (lo J8 R R R) ?_))
     refine ed (A6 0 R R) R R (Aku (out':=([(A3.mk a1 a2 0 1 false false a3 ([]:List (List UInt8)))]:List A3).flatMap Bc) Tryz.underlying29 Ajy (Aq R A0) (.cons _ _ _ _ _ _ _ R R (Nbl R) (.nil _)) R (by decide) R) ?_
     refine ed (A6 0 R R) R R (Zw (out:=([a0.Txs,([(A3.mk a1 a2 0 1 false false a3 ([]:List (List UInt8)))]:List A3)]:List (List A3)).flatMap (eL Bc)) Tryz.underlying312 A5z (Aq R (Aq R A0)) (.cons _ _ _ _ _ _ _ R R (Nbl R) (.cons _ _ _ _ _ _ _ R R (Nbl R) (.nil _))) R (by decide)) ?_
     refine ed (A6 0 R R) R R (Cm A2o (Ac R Ag) R (Wz hv4)) (ev (A6 0 R R) R R (Aa Vy R) (ev (A6 0 R R) R R (lo Afg R R R) (ev (A6 0 R R) R R (A2 Zq Afp (Aq R (Aq R A0)) (.cons _ _ _ _ _ _ _ R R (Nbl R) (.cons _ _ _ _ _ _ _ R R (Nbl R) (.nil _)))) (ee0 0 R R R R (λζ=>?_) ?_))))
     ·refine sst Z6 R R R R R (Ql [.box (EL.el a0),.box (EL.el (Be.mk v4 a0.Reads)),.box [Ii6 a1,Ii6 a2,Ii6 0,Ii6 1,.b false,.b false,.b a3,Znl]] R ?_)
      exact U9
     refine ev (A6 1 R R) R R (G0 R) (Adr (Ab (Bq ?_)))
     obtain rfl:=SJ h
     exact dn (Ad (ra Sx R R R) (Ad (rt R) Aj)) (Ao R) R
def Kk (a0:Int) (b1:Unit):Option (List Bg) :=
 if (decide (0<(wI (a0-(wI (0-0)))))) then(if 0<(wI (a0-(wI (0-0))))/\(wI (a0-(wI (0-0))))*((64:Nat):Int)<=281474976710656 then(if (0:Int)<=0/\0<=((List.replicate (wI (a0-(wI (0-0)))).toNat Rp).length:Int) then(some ((List.replicate (wI (a0-(wI (0-0)))).toNat Rp).take (0:Int).toNat)) else none) else none) else(some ([]:List Bg))
def Lj (a0:Int):Option (List Bg) :=
 if (decide (a0<0)) then none else(Kk a0 ())
theorem Yh {a0:Int} {r:(List Bg)} (h:Lj a0=some r):Dw Qx0 134 [] [.one (Znl),.one (Ii6 a0)] (λy m'=>y=L7 (.ls 0 r.length)/\m'=[.arr 88 6 0 (r.flatMap Bu)]):=by
 unfold Lj at h
 refine Dn Tryz.func134 R (nt:=27) R (Nbl R) ?_
 intro w0 S0 X0 H0
 refine csr (rm 1 R (Ah (Bj (csr (rm 1 R (sv R (Bv R R) (Ah (cj (Unit) (λb1=>[(0,L7 (Znl)),(1,L7 (Ii6 a0))]) (λb1=>[]) (λb1=>Kk a0 b1=some r) (λ_=>R) (λb1 h=>?_) ?_))))))))
 ·unfold Kk at h
  refine Bj (csr (rm 2 R (sv R (G9 Aay R) (rm 1 R (sv R (F5 Aay R) (sv R (Ph R R) (sv R (Ph R R) (rm 1 R (Ah (csr (rm 1 R (sv R (Dr R R) (Ah (ccI h R (λh=>?_) (λh=>?_)))))))))))))))
  ·refine Au (rm 2 R (sv R (G9 Aay R) (sv R (Oh Aay R R) (sv R (Az R) ?_))))
   obtain⟨hm2,h⟩:=Cs h
   refine Ak9 (f:=Bu) (z:=Rp) R Tryz.underlying38 Auu Tryz.underlying3 (λ_=>R) R R R hm2 (by decide) ?_
   refine rm 1 R (sv R (F5 Aay R) ?_)
   obtain⟨hs3,h⟩:=Cs h
   refine Aei (f:=Bu) R Aay (λ_=>R) R R R R R hs3 ?_
   refine rm 1 R (Ah (csr (rm 2 R (Ah (Bq ?_)))))
   obtain rfl:=SJ h
   exact⟨Or.inr R,_,[1],[.one (.ls 0 ((List.replicate (wI (a0-(wI (0-0)))).toNat Rp).take (0:Int).toNat).length)],[.arr 88 6 0 (((List.replicate (wI (a0-(wI (0-0)))).toNat Rp).take (0:Int).toNat).flatMap Bu)],(Ad (rt R) Aj),R,R,⟨by decide,R⟩,R,R,⟨R,R⟩⟩
  ·refine Bf (Ab (csr (rm 2 R (Ah ?_))))
   refine Dl 88 6 4 (by decide) R ?_
   refine Bq ?_
   obtain rfl:=SJ h
   exact⟨Or.inr R,_,[0],[.one (.ls 0 ([]:List Bg).length)],[.arr 88 6 0 (([]:List Bg).flatMap Bu)],(Ad (rt R) Aj),R,R,⟨by decide,R⟩,R,R,⟨R,R⟩⟩
 ·skip
  refine ccI h R (λh=>?_) (λh=>?_)
  ·cases h
  ·refine Bf (Ab ?_)
   exact⟨(),_,h,⟨R,R,trivial⟩,R⟩
def Ot (b3:(List Bg)):Option (List Bg) :=
 some b3
def Fj (a0:List (List Bg)) (s4:Int×(List Bg)):Option (LB (Int×(List Bg)) ((List Bg))) :=
 if (decide (s4.1<(a0.length:Int))) then((idx a0 s4.1).bind λu5=>if (s4.2.length+u5.length)*64<=140737488355328 then(some (.cont ((wI (s4.1+1)),(s4.2++u5)))) else none) else(some (.brk s4.2))
def Ki (a0:List (List Bg)) (b1:Int):Option (List Bg) :=
 (Lj b1).bind λv2=>(Cz (Fj a0) fuel (0,v2)).bind λe7=>Ot e7
def Ff (a0:List (List Bg)) (s8:Int×Int):Option (LB (Int×Int) (Int)) :=
 if (decide (s8.2<(a0.length:Int))) then((idx a0 s8.2).bind λu9=>if (decide ((wI (s8.1+(u9.length:Int)))<0)) then none else(some (.cont ((wI (s8.1+(u9.length:Int))),(wI (s8.2+1)))))) else(some (.brk s8.1))
def K8 (a0:List (List Bg)):Option (List Bg) :=
 (Cz (Ff a0) fuel (0,0)).bind λe10=>Ki a0 e10
theorem Xx {a0:List (List Bg)} {r:(List Bg)} (h:K8 a0=some r):Bt Qx0 60 [.one (SL a0 (eL Bu))] (·=L7 (SL r Bu)):=by
 unfold K8 at h
 refine A1 Tryz.func60 R (nt:=36) R (Nbl R) ?_
 intro w0 S0
 refine csr (rm 1 R (Ah (csr (rm 1 R (Ah (Bj (csr (rm 1 R (sv R (Ap Atl R) (rm 1 R (Ah (cj (Int) (λb1=>[(0,L7 (SL a0 (eL Bu))),(3,L7 (Ii6 b1))]) (λb1=>[]) (λb1=>Ki a0 b1=some r) (λ_=>R) (λb1 h=>?_) ?_))))))))))))
 ·unfold Ki at h
  refine csr (sv R (Az R) ?_)
  obtain⟨v2,hv2,h⟩:=Ae h
  refine I0 (x':=L7 (.ls 0 v2.length)) (M':=[.arr 88 6 0 (v2.flatMap Bu)]) [] R A2s (.func _) (Ac R (Ac R Ag)) (Yh hv2) R R (by decide) R R R ?_
  refine rm 1 R (Ah (Bj (csr (rm 1 R (sv R (Ap Atl R) (rm 1 R (Ah (cj ((List Bg)) (λb3=>[(6,L7 (.ls 0 b3.length))]) (λb3=>[.arr 88 6 0 (b3.flatMap Bu)]) (λb3=>Ot b3=some r) (λ_=>R) (λb3 h=>?_) ?_))))))))
  ·unfold Ot at h
   refine csr (rm 2 R (Ah (Bq ?_)))
   obtain rfl:=SJ h
   refine⟨Or.inr R,_,_,_,(Ad (rt R) Aj),(by(repeat' first|exact Ho.nil _|apply Ho.cons|apply Hl.one|apply Hl.agg|exact C5.nil|exact C5.ls _ _ _ _ _ _ R (Aw (f:=Bu) (λ_=>R) _).symm|exact C5.id _ R|exact Cv.nil _|apply Cv.cons)),?_⟩
   rfl
  ·skip
   refine Bl ?_
   obtain⟨x4,hx4,ho4⟩:=Ae h
   refine lpo (G:=Nat×(Int×(List Bg))) (λg=>[(6,L7 (.ls 0 g.2.2.length)),(25,L7 (SL a0 (eL Bu))),(26,L7 (Ii6 (a0.length:Int))),(27,L7 (Ii6 g.2.1))]) (λg=>[.arr 88 6 0 (g.2.2.flatMap Bu)]) (λg=>Cz (Fj a0) g.1 g.2=some x4) (λg=>g.1) (fuel,(0,v2)) hx4 ⟨R,R,R,R,trivial⟩ [] R (λ_=>R) ?_
   clear hx4 h
   rintro⟨n4,s4⟩ h
   obtain⟨n4,y4,rfl,h,hk4⟩:=Cw h
   unfold Fj at h
   refine csr (sv R (Bv R R) (Ah (Bj (ccI h R (λh=>?_) (λh=>?_)))))
   ·refine Bf (Ab (Bj (Bl (Bj (Au ?_)))))
    obtain⟨u5,hu5,h⟩:=Ae h
    refine sv R (B4 (f:=(eL Bu)) Atl (λ_=>R) R R R R hu5) ?_
    refine sv R (B0 Ai9 R (.cp _) R) (rm 1 R (Ah (Au (rm 1 R (sv R (Az R) ?_)))))
    obtain⟨hb6,h⟩:=Cs h
    refine U1 (f:=Bu) (xs:=s4.2) (us:=u5) R Tryz.underlying38 Auu A3m (λ_=>R) R R (.one _ _ _ _ (.id _ R)) R R R (.sl _ _ _ (Aw (f:=Bu) (λ_=>R) _)) R R hb6 (by decide) ?_
    refine rm 1 R (Jb (Ar (Ab (Au (sv R (Bp R R) (rm 1 R (Ah ?_)))))))
    obtain rfl:=SJ h
    exact⟨(n4,((wI (s4.1+1)),(s4.2++u5))),_,hk4,⟨R,R,R,R,trivial⟩,R,zG _⟩
   ·refine C3 (As (As (Bi (Ab ?_))))
    obtain rfl:=SJ h
    obtain rfl:_=x4:=hk4
    exact⟨s4.2,_,ho4,⟨R,trivial⟩,R⟩
 ·skip
  refine Bl ?_
  obtain⟨x8,hx8,ho8⟩:=Ae h
  refine lpo (G:=Nat×(Int×Int)) (λg=>[(0,L7 (SL a0 (eL Bu))),(3,L7 (Ii6 g.2.1)),(9,L7 (SL a0 (eL Bu))),(10,L7 (Ii6 (a0.length:Int))),(11,L7 (Ii6 g.2.2))]) (λg=>[]) (λg=>Cz (Ff a0) g.1 g.2=some x8) (λg=>g.1) (fuel,(0,0)) hx8 ⟨R,R,R,R,R,trivial⟩ [] R (λ_=>R) ?_
  clear hx8 h
  rintro⟨n8,s8⟩ h
  obtain⟨n8,y8,rfl,h,hk8⟩:=Cw h
  unfold Ff at h
  refine csr (sv R (Bv R R) (Ah (Bj (ccI h R (λh=>?_) (λh=>?_)))))
  ·refine Bf (Ab (Bj (Bl (Bj (Au ?_)))))
   obtain⟨u9,hu9,h⟩:=Ae h
   refine sv R (B4 (f:=(eL Bu)) Atl (λ_=>R) R R R R hu9) ?_
   refine sv R (B0 Ai9 R (.cp _) R) (rm 1 R (Ah (csr (rm 2 R (sv R (Ap Aay R) (sv R (Bp R R) (rm 1 R (Ah (csr (rm 1 R (sv R (Bv R R) (Ah (ccI h R (λh=>?_) (λh=>?_))))))))))))))
   ·cases h
   ·refine Bf (Ar (Ab (Au (sv R (Bp R R) (rm 1 R (Ah ?_))))))
    obtain rfl:=SJ h
    exact⟨(n8,((wI (s8.1+(u9.length:Int))),(wI (s8.2+1)))),_,hk8,⟨R,R,R,R,R,trivial⟩,R,zG _⟩
  ·refine C3 (As (As (Bi (Ab ?_))))
   obtain rfl:=SJ h
   obtain rfl:_=x8:=hk8
   exact⟨s8.1,_,ho8,⟨R,R,trivial⟩,R⟩
def Fq (a1:Int) (a2:Int) (a3:Bool) (b3:Ai):Option (Ai×Int×Int) :=
 if (decide (1099511627776<=b3.Next)) then(some (b3,0,11)) else(if (decide (16<=(b3.Open.length:Int))) then(some (b3,0,8)) else((I9 b3.Toks a1 a2).bind λv4=>if (!decide (v4.2=0)) then(some (b3,0,v4.2)) else((Js b3.Cert b3.Next b3.Store.Ts a3).bind λv5=>if (!decide (v5.2=0)) then(some (b3,0,v5.2)) else((K8 ([b3.Open,([(Bg.mk b3.Next a1 a2 b3.Store.Ts a3 (B7.mk ([]:List A7)))]:List Bg)]:List (List Bg))).bind λv6=>some ((Ai.mk b3.Store v5.1 v4.1 v6 (wI (b3.Next+1))),b3.Next,0)))))
def L5 (a0:Ai) (a1:Int) (a2:Int) (a3:Bool):Option (Ai×Int×Int) :=
 (Hv a0).bind λv1=>if (!v1) then(some (Fe,0,1)) else((La a0 a1).bind λv2=>if v2.2 then(if (decide (v2.1.Attempt<a2)) then((C9 a0 v2.1).bind λv7=>Fq a1 a2 a3 v7) else(Fq a1 a2 a3 a0)) else(Fq a1 a2 a3 a0))
theorem Sv {a0:Ai} {a1:Int} {a2:Int} {a3:Bool} {r:Ai×Int×Int} (h:L5 a0 a1 a2 a3=some r):Bt Qx0 23 [.agg (EL.el a0),.one (Ii6 a1),.one (Ii6 a2),.one (.b a3)] (·=.tup [.agg (EL.el r.1),.one (Ii6 r.2.1),.one (Ii6 r.2.2)]):=by
 unfold L5 at h
 refine A1 Tryz.func23 R (nt:=101) R (Nbl R) ?_
 intro w0 S0
 refine csr (Er R R (Br R Tg (rm 2 R (Ah (Bj (csr (sv R (lo Dq R R R) ?_)))))))
 obtain⟨v1,hv1,h⟩:=Ae h
 refine Bb R Axf (Ac R Ag) (Ao R) (Mh hv1) (sv R (Bz R) (Ah (ccI h R (λh=>?_) (λh=>?_))))
 ·refine csr (sv R (A2 Tg An3 A0 (.nil _)) (sst Kn R R R R R (rm 2 R (Ah (Bq (Af ?_))))))
  obtain rfl:=SJ h
  exact dn (Ad (ra Dq R R R) (Ad (rt R) (Ad (rt R) Aj))) (I8 R) R
 ·refine Bf (Ab (Bj (csr (ld Dq R R R R (sv R (Az R) ?_)))))
  obtain⟨v2,hv2,h⟩:=Ae h
  refine Bb R A4t (Ac R (Ac R Ag)) (Ao R) (T7 hv2) (sv R (Cf R) (sv R (Ak R R) (sv R (Ak R R) (Br R Ad7 (sst Adv R R R R R (rm 1 R (Ah (Bj (cj3 (Ai) (λb3=>[(1,L7 (Ii6 a1)),(2,L7 (Ii6 a2)),(3,L7 (.b a3)),(4,L7 (.lp 0 0)),(8,L7 (.lp 1 0))]) (λb3=>[.box (EL.el b3),.box Zba,.box (EL.el v2.1)]) (λb3=>Fq a1 a2 a3 b3=some r) (λ_=>R) (λb3 h=>?_) ?_)))))))))
  ·unfold Fq at h
   refine Bj (csr (fl Xr ti3 R R R R R R (sv R (Ii R R) (Ah (ccI h R (λh=>?_) (λh=>?_))))))
   ·refine csr (ld Dq R R R R (sst Kn R R R R R (rm 2 R (Ah (Bq (Af ?_))))))
    obtain rfl:=SJ h
    exact dn (Ad (ra Dq R R R) (Ad (rt R) (Ad (rt R) Aj))) (Ao R) R
   ·refine Bf (Ab (Bj (csr (fl Td Ai9 R R R R R R (sv R (Ap Aay R) (sv R (Ii R R) (Ah (ccI h R (λh=>?_) (λh=>?_)))))))))
    ·refine csr (ld Dq R R R R (sst Kn R R R R R (rm 2 R (Ah (Bq (Af ?_))))))
     obtain rfl:=SJ h
     exact dn (Ad (ra Dq R R R) (Ad (rt R) (Ad (rt R) Aj))) (Ao R) R
    ·refine Bf (Ab (csr (sv R (Aa Vl R) (ld P3 R R R R (rm 1 R (sv R (Az R) ?_))))))
     obtain⟨v4,hv4,h⟩:=Ae h
     refine Bb R A5m (Ac R (Ac R (Ac R Ag))) (Ao R) (Yx hv4) (sv R (Cf R) (sv R (Ak R R) (sv R (Ak R R) (Br R X1 (sst Vr R R R R R (rm 1 R (Ah (Bj (csr (rm 1 R (sv R (Cc R R) (Ah (ccI h R (λh=>?_) (λh=>?_))))))))))))))
     ·refine csr (ld Dq R R R R (rm 1 R (sst Kn R R R R R (rm 2 R (Ah (Bq (Af ?_)))))))
      obtain rfl:=SJ h
      exact dn (Ad (ra Dq R R R) (Ad (rt R) (Ad (rt R) Aj))) (Ao R) R
     ·refine Bf (Ab (csr (sv R (Aa R7 R) (ld Sx R R R R (fl Xr ti3 R R R R R R (sv R (Aa K5 R) (fl M8 ti3 R R R R R R (sv R (Az R) ?_))))))))
      obtain⟨v5,hv5,h⟩:=Ae h
      refine Bb R A6j (Ac R (Ac R (Ac R (Ac R Ag)))) (Ao R) (Acs hv5) (sv R (Cf R) (sv R (Ak R R) (sv R (Ak R R) (Br R Zq (sst Z6 R R R R R (rm 1 R (Ah (Bj (csr (rm 1 R (sv R (Cc R R) (Ah (ccI h R (λh=>?_) (λh=>?_))))))))))))))
      ·refine csr (ld Dq R R R R (rm 1 R (sst Kn R R R R R (rm 2 R (Ah (Bq (Af ?_)))))))
       obtain rfl:=SJ h
       exact dn (Ad (ra Dq R R R) (Ad (rt R) (Ad (rt R) Aj))) (Ao R) R
      ·refine Bf (Ab (csr (fl Xr ti3 R R R R R R (rm 2 R (sv R (Aa K5 R) (fl M8 ti3 R R R R R R (rm 1 R (sv R (A2 Ad7 A0r (Aq R (Aq R (Aq R (Aq R (Aq R A0))))) (Si [Ii6 b3.Next,Ii6 0,Ii6 0,Ii6 0,.b false,Znl] R R (Nbl R) R (Si [Ii6 b3.Next,Ii6 a1,Ii6 0,Ii6 0,.b false,Znl] R R (Nbl R) R (Si [Ii6 b3.Next,Ii6 a1,Ii6 a2,Ii6 0,.b false,Znl] R R (Nbl R) R (Si [Ii6 b3.Next,Ii6 a1,Ii6 a2,Ii6 b3.Store.Ts,.b false,Znl] R R (Nbl R) R (Si [Ii6 b3.Next,Ii6 a1,Ii6 a2,Ii6 b3.Store.Ts,.b a3,Znl] R R (Nbl R) R (.nil _))))))) (Br R Ad7 (sst Adv R R R R R (Ah (Bj (Adc ?_)))))))))))))
       obtain⟨v6,hv6,h⟩:=Ae h
       refine Kb [14,15] [0,1,0,0,0,16,0,64,240,496,0,1024,3072,8191,0,32767] [[.box (EL.el b3),.box Zba,.box (EL.el v2.1),.box [SL v4.1.L Al],.box (EL.el v5.1),.box [Ii6 b3.Next,Ii6 a1,Ii6 a2,Ii6 b3.Store.Ts,.b a3,Znl],.hole],[.box (EL.el b3),.box Zba,.box (EL.el v2.1),.box [SL v4.1.L Al],.box (EL.el v5.1),.box [Ii6 b3.Next,Ii6 a1,Ii6 a2,Ii6 b3.Store.Ts,.b a3,Znl],.box Zba],[.box (EL.el b3),.box Zba,.box (EL.el v2.1),.box [SL v4.1.L Al],.box (EL.el v5.1),.box [Ii6 b3.Next,Ii6 a1,Ii6 a2,Ii6 b3.Store.Ts,.b a3,Znl],.box [SL b3.Store.Keys (eL eU8),SL b3.Store.Chains Ay,Ii6 b3.Store.Ts,SL v5.1.Txs Bc,SL v5.1.Reads.L Ax,SL v4.1.L Al,SL v6 Bu,Ii6 (wI (b3.Next+1))]]] (by kernel_rfl) mixed (by kernel_rfl) (by decide) R R R R ?_
       refine evs (md:=[.box (EL.el b3),.box Zba,.box (EL.el v2.1),.box [SL v4.1.L Al],.box (EL.el v5.1),.box [Ii6 b3.Next,Ii6 a1,Ii6 a2,Ii6 b3.Store.Ts,.b a3,Znl],.dead]) (λhS=>ev (B9 hS) R R (Aa K5 R) (ev (B9 hS) R R (lo Yw R R R) (ev (B9 hS) R R (lo Sx R R R) (ev (B9 hS) R R (lo P3 R R R) (ev (B9 hS) R R (Aa Td R) (ev (B9 hS) R R (l1 Ai9 R R R) (ev (B9 hS) R R (lo Zc R R R) ?_))))))) ⟨⟨R,⟨R,⟨R,⟨R,⟨R,⟨R,⟨trivial,trivial⟩⟩⟩⟩⟩⟩⟩,⟨⟨R,⟨R,⟨R,⟨R,⟨R,⟨R,⟨trivial,trivial⟩⟩⟩⟩⟩⟩⟩,⟨⟨R,⟨R,⟨R,⟨R,⟨R,⟨R,⟨trivial,trivial⟩⟩⟩⟩⟩⟩⟩,trivial⟩⟩⟩
       refine ed (B9 (md:=[.box (EL.el b3),.box Zba,.box (EL.el v2.1),.box [SL v4.1.L Al],.box (EL.el v5.1),.box [Ii6 b3.Next,Ii6 a1,Ii6 a2,Ii6 b3.Store.Ts,.b a3,Znl],.dead]) ⟨⟨R,⟨R,⟨R,⟨R,⟨R,⟨R,⟨trivial,trivial⟩⟩⟩⟩⟩⟩⟩,⟨⟨R,⟨R,⟨R,⟨R,⟨R,⟨R,⟨trivial,trivial⟩⟩⟩⟩⟩⟩⟩,⟨⟨R,⟨R,⟨R,⟨R,⟨R,⟨R,⟨trivial,trivial⟩⟩⟩⟩⟩⟩⟩,trivial⟩⟩⟩) R R (Aku (out':=([(Bg.mk b3.Next a1 a2 b3.Store.Ts a3 (B7.mk ([]:List A7)))]:List Bg).flatMap Bu) Tryz.underlying38 Auu (Aq R A0) (.cons _ _ _ _ _ _ _ R R (Nbl R) (.nil _)) R (by decide) R) ?_
       refine ed (B9 (md:=[.box (EL.el b3),.box Zba,.box (EL.el v2.1),.box [SL v4.1.L Al],.box (EL.el v5.1),.box [Ii6 b3.Next,Ii6 a1,Ii6 a2,Ii6 b3.Store.Ts,.b a3,Znl],.dead]) ⟨⟨R,⟨R,⟨R,⟨R,⟨R,⟨R,⟨trivial,trivial⟩⟩⟩⟩⟩⟩⟩,⟨⟨R,⟨R,⟨R,⟨R,⟨R,⟨R,⟨trivial,trivial⟩⟩⟩⟩⟩⟩⟩,⟨⟨R,⟨R,⟨R,⟨R,⟨R,⟨R,⟨trivial,trivial⟩⟩⟩⟩⟩⟩⟩,trivial⟩⟩⟩) R R (Zw (out:=([b3.Open,([(Bg.mk b3.Next a1 a2 b3.Store.Ts a3 (B7.mk ([]:List A7)))]:List Bg)]:List (List Bg)).flatMap (eL Bu)) Tryz.underlying246 A6n (Aq R (Aq R A0)) (.cons _ _ _ _ _ _ _ R R (Nbl R) (.cons _ _ _ _ _ _ _ R R (Nbl R) (.nil _))) R (by decide)) ?_
       refine ed (B9 (md:=[.box (EL.el b3),.box Zba,.box (EL.el v2.1),.box [SL v4.1.L Al],.box (EL.el v5.1),.box [Ii6 b3.Next,Ii6 a1,Ii6 a2,Ii6 b3.Store.Ts,.b a3,Znl],.dead]) ⟨⟨R,⟨R,⟨R,⟨R,⟨R,⟨R,⟨trivial,trivial⟩⟩⟩⟩⟩⟩⟩,⟨⟨R,⟨R,⟨R,⟨R,⟨R,⟨R,⟨trivial,trivial⟩⟩⟩⟩⟩⟩⟩,⟨⟨R,⟨R,⟨R,⟨R,⟨R,⟨R,⟨trivial,trivial⟩⟩⟩⟩⟩⟩⟩,trivial⟩⟩⟩) R R (Cm A5h (Ac R Ag) R (Xx hv6)) (ev (B9 (md:=[.box (EL.el b3),.box Zba,.box (EL.el v2.1),.box [SL v4.1.L Al],.box (EL.el v5.1),.box [Ii6 b3.Next,Ii6 a1,Ii6 a2,Ii6 b3.Store.Ts,.b a3,Znl],.dead]) ⟨⟨R,⟨R,⟨R,⟨R,⟨R,⟨R,⟨trivial,trivial⟩⟩⟩⟩⟩⟩⟩,⟨⟨R,⟨R,⟨R,⟨R,⟨R,⟨R,⟨trivial,trivial⟩⟩⟩⟩⟩⟩⟩,⟨⟨R,⟨R,⟨R,⟨R,⟨R,⟨R,⟨trivial,trivial⟩⟩⟩⟩⟩⟩⟩,trivial⟩⟩⟩) R R (Aa Xr R) (ev (B9 (md:=[.box (EL.el b3),.box Zba,.box (EL.el v2.1),.box [SL v4.1.L Al],.box (EL.el v5.1),.box [Ii6 b3.Next,Ii6 a1,Ii6 a2,Ii6 b3.Store.Ts,.b a3,Znl],.dead]) ⟨⟨R,⟨R,⟨R,⟨R,⟨R,⟨R,⟨trivial,trivial⟩⟩⟩⟩⟩⟩⟩,⟨⟨R,⟨R,⟨R,⟨R,⟨R,⟨R,⟨trivial,trivial⟩⟩⟩⟩⟩⟩⟩,⟨⟨R,⟨R,⟨R,⟨R,⟨R,⟨R,⟨trivial,trivial⟩⟩⟩⟩⟩⟩⟩,trivial⟩⟩⟩) R R (l1 ti3 R R R) (ev (B9 (md:=[.box (EL.el b3),.box Zba,.box (EL.el v2.1),.box [SL v4.1.L Al],.box (EL.el v5.1),.box [Ii6 b3.Next,Ii6 a1,Ii6 a2,Ii6 b3.Store.Ts,.b a3,Znl],.dead]) ⟨⟨R,⟨R,⟨R,⟨R,⟨R,⟨R,⟨trivial,trivial⟩⟩⟩⟩⟩⟩⟩,⟨⟨R,⟨R,⟨R,⟨R,⟨R,⟨R,⟨trivial,trivial⟩⟩⟩⟩⟩⟩⟩,⟨⟨R,⟨R,⟨R,⟨R,⟨R,⟨R,⟨trivial,trivial⟩⟩⟩⟩⟩⟩⟩,trivial⟩⟩⟩) R R (Bp R R) (ev (B9 (md:=[.box (EL.el b3),.box Zba,.box (EL.el v2.1),.box [SL v4.1.L Al],.box (EL.el v5.1),.box [Ii6 b3.Next,Ii6 a1,Ii6 a2,Ii6 b3.Store.Ts,.b a3,Znl],.dead]) ⟨⟨R,⟨R,⟨R,⟨R,⟨R,⟨R,⟨trivial,trivial⟩⟩⟩⟩⟩⟩⟩,⟨⟨R,⟨R,⟨R,⟨R,⟨R,⟨R,⟨trivial,trivial⟩⟩⟩⟩⟩⟩⟩,⟨⟨R,⟨R,⟨R,⟨R,⟨R,⟨R,⟨trivial,trivial⟩⟩⟩⟩⟩⟩⟩,trivial⟩⟩⟩) R R (A2 Tg An3 (Aq R (Aq R (Aq R (Aq R (Aq R A0))))) (Si [SL b3.Store.Keys (eL eU8),SL b3.Store.Chains Ay,Ii6 b3.Store.Ts,Znl,Znl,Znl,Znl,Ii6 0] R R (Nbl R) R (Si [SL b3.Store.Keys (eL eU8),SL b3.Store.Chains Ay,Ii6 b3.Store.Ts,SL v5.1.Txs Bc,SL v5.1.Reads.L Ax,Znl,Znl,Ii6 0] R R (Nbl R) R (Si [SL b3.Store.Keys (eL eU8),SL b3.Store.Chains Ay,Ii6 b3.Store.Ts,SL v5.1.Txs Bc,SL v5.1.Reads.L Ax,SL v4.1.L Al,Znl,Ii6 0] R R (Nbl R) R (Si [SL b3.Store.Keys (eL eU8),SL b3.Store.Chains Ay,Ii6 b3.Store.Ts,SL v5.1.Txs Bc,SL v5.1.Reads.L Ax,SL v4.1.L Al,SL v6 Bu,Ii6 0] R R (Nbl R) R (Si [SL b3.Store.Keys (eL eU8),SL b3.Store.Chains Ay,Ii6 b3.Store.Ts,SL v5.1.Txs Bc,SL v5.1.Reads.L Ax,SL v4.1.L Al,SL v6 Bu,Ii6 (wI (b3.Next+1))] R R (Nbl R) R (.nil _))))))) (ee (x:=L7 (.lp 6 0)) 0 R R R R R (λζ=>?_) ?_)))))
       ·refine Oz 6 R Tg R ?_
        exact U9
       refine ee0 1 R R R R (λζ=>?_) ?_
       ·refine sst Kn R R R R R (Ql [.box (EL.el b3),.box Zba,.box (EL.el v2.1),.box [SL v4.1.L Al],.box (EL.el v5.1),.box [Ii6 b3.Next,Ii6 a1,Ii6 a2,Ii6 b3.Store.Ts,.b a3,Znl],.box [SL b3.Store.Keys (eL eU8),SL b3.Store.Chains Ay,Ii6 b3.Store.Ts,SL v5.1.Txs Bc,SL v5.1.Reads.L Ax,SL v4.1.L Al,SL v6 Bu,Ii6 (wI (b3.Next+1))]] R ?_)
        exact U9
       refine Adr (Ab (Bj ?_))
       refine Kb [3] [0,0,2,1,15,31] [[.box (EL.el b3),.box Zba,.box (EL.el v2.1),.box [SL v4.1.L Al],.box (EL.el v5.1),.box [Ii6 b3.Next,Ii6 a1,Ii6 a2,Ii6 b3.Store.Ts,.b a3,Znl],.box [SL b3.Store.Keys (eL eU8),SL b3.Store.Chains Ay,Ii6 b3.Store.Ts,SL v5.1.Txs Bc,SL v5.1.Reads.L Ax,SL v4.1.L Al,SL v6 Bu,Ii6 (wI (b3.Next+1))]],[.box (EL.el b3),.box [SL b3.Store.Keys (eL eU8),SL b3.Store.Chains Ay,Ii6 b3.Store.Ts,SL v5.1.Txs Bc,SL v5.1.Reads.L Ax,SL v4.1.L Al,SL v6 Bu,Ii6 (wI (b3.Next+1))],.box (EL.el v2.1),.box [SL v4.1.L Al],.box (EL.el v5.1),.box [Ii6 b3.Next,Ii6 a1,Ii6 a2,Ii6 b3.Store.Ts,.b a3,Znl],.box [SL b3.Store.Keys (eL eU8),SL b3.Store.Chains Ay,Ii6 b3.Store.Ts,SL v5.1.Txs Bc,SL v5.1.Reads.L Ax,SL v4.1.L Al,SL v6 Bu,Ii6 (wI (b3.Next+1))]]] (by kernel_rfl) mixed (by kernel_rfl) (by decide) R R R R ?_
       refine evs (md:=[.box (EL.el b3),.dead,.box (EL.el v2.1),.box [SL v4.1.L Al],.box (EL.el v5.1),.box [Ii6 b3.Next,Ii6 a1,Ii6 a2,Ii6 b3.Store.Ts,.b a3,Znl],.box [SL b3.Store.Keys (eL eU8),SL b3.Store.Chains Ay,Ii6 b3.Store.Ts,SL v5.1.Txs Bc,SL v5.1.Reads.L Ax,SL v4.1.L Al,SL v6 Bu,Ii6 (wI (b3.Next+1))]]) (λhS=>ev (A6 0 R R) R R (lo Dq R R R) (ev (B9 hS) R R (Aa Tv R) (ev (B9 hS) R R (l1 ti3 R R R) (ee0 0 R R R R (λζ=>?_) ?_)))) ⟨⟨R,⟨trivial,⟨R,⟨R,⟨R,⟨R,⟨R,trivial⟩⟩⟩⟩⟩⟩⟩,⟨⟨R,⟨trivial,⟨R,⟨R,⟨R,⟨R,⟨R,trivial⟩⟩⟩⟩⟩⟩⟩,trivial⟩⟩
       ·refine sst Kn R R R R R (Ql [.box (EL.el b3),.box [SL b3.Store.Keys (eL eU8),SL b3.Store.Chains Ay,Ii6 b3.Store.Ts,SL v5.1.Txs Bc,SL v5.1.Reads.L Ax,SL v4.1.L Al,SL v6 Bu,Ii6 (wI (b3.Next+1))],.box (EL.el v2.1),.box [SL v4.1.L Al],.box (EL.el v5.1),.box [Ii6 b3.Next,Ii6 a1,Ii6 a2,Ii6 b3.Store.Ts,.b a3,Znl],.box [SL b3.Store.Keys (eL eU8),SL b3.Store.Chains Ay,Ii6 b3.Store.Ts,SL v5.1.Txs Bc,SL v5.1.Reads.L Ax,SL v4.1.L Al,SL v6 Bu,Ii6 (wI (b3.Next+1))]] R ?_)
        exact U9
       refine ev (A6 1 R R) R R (G0 R) (ev (A6 1 R R) R R (G0 R) (Adr (Ab (Bq ?_))))
       obtain rfl:=SJ h
       exact dn (Ad (ra Dq R R R) (Ad (rt R) (Ad (rt R) Aj))) (Ao R) R
  ·skip
   refine Au (rm 2 R (ssI 29 h R (λh=>?_) (λh=>?_)))
   ·refine son R R R (sv R (Aa Ahe R) (son R R R (sv R (l1 ti3 R R R) (rm 1 R (son R R R (sv R (Bv R R) (rm 1 R (Ah (ccI h R (λh=>?_) (λh=>?_))))))))))
    ·refine Au (ld Dq R R R R (sv R (lo Zc R R R) ?_))
     obtain⟨v7,hv7,h⟩:=Ae h
     refine Bb R Aw7 (Ac R (Ac R Ag)) (Ao R) (I4 hv7) (sst Kn R R R R R (Ah ?_))
     exact⟨v7,_,h,⟨R,R,R,R,R,trivial⟩,R⟩
    ·refine Bf (Ab ?_)
     exact⟨a0,_,h,⟨R,R,R,R,R,trivial⟩,R⟩
   ·refine rm 5 R (Ah (Ce R (λhx=>Bool.noConfusion hx) (λ_=>?_)))
    refine Bf (Ab ?_)
    exact⟨a0,_,h,⟨R,R,R,R,R,trivial⟩,R⟩
def Hu (a0:Ai) (a1:Int):Option (Bg×Int) :=
 (Hv a0).bind λv1=>if (!v1) then(some (Rp,1)) else((Es a0 a1).bind λv2=>if (decide (v2<0)) then(some (Rp,7)) else((idx a0.Open v2).bind λu3=>some (u3,0)))
theorem O4 {a0:Ai} {a1:Int} {r:Bg×Int} (h:Hu a0 a1=some r):Bt Qx0 55 [.agg (EL.el a0),.one (Ii6 a1)] (·=.tup [.agg (EL.el r.1),.one (Ii6 r.2)]):=by
 unfold Hu at h
 refine A1 Tryz.func55 R (nt:=22) R (Nbl R) ?_
 intro w0 S0
 refine csr (Er R R (Br R Ad7 (rm 1 R (Ah (Bj (csr (sv R (lo Dq R R R) ?_)))))))
 obtain⟨v1,hv1,h⟩:=Ae h
 refine Bb R Axf (Ac R Ag) (Ao R) (Mh hv1) (sv R (Bz R) (Ah (ccI h R (λh=>?_) (λh=>?_))))
 ·refine csr (sv R (A2 Ad7 A0r A0 (.nil _)) (sst Adv R R R R R (rm 1 R (Ah (Bq (Af ?_))))))
  obtain rfl:=SJ h
  exact dn (Ad (ra Zc R R R) (Ad (rt R) Aj)) (I8 R) R
 ·refine Bf (Ab (csr (ld Dq R R R R (sv R (Az R) ?_))))
  obtain⟨v2,hv2,h⟩:=Ae h
  refine Bb R A16 (Ac R (Ac R Ag)) (Ao R) (S9 hv2) (rm 1 R (Ah (Bj (csr (rm 1 R (sv R (Bv R R) (Ah (ccI h R (λh=>?_) (λh=>?_)))))))))
  ·refine csr (sv R (A2 Ad7 A0r A0 (.nil _)) (sst Adv R R R R R (rm 1 R (Ah (Bq (Af ?_))))))
   obtain rfl:=SJ h
   exact dn (Ad (ra Zc R R R) (Ad (rt R) Aj)) (I8 R) R
  ·refine Bf (Ab (csr (fl Td Ai9 R R R R R R (sv R (Az R) ?_))))
   obtain⟨u3,hu3,h⟩:=Ae h
   refine sv R (B4 (f:=Bu) Aay (λ_=>R) R R R R hu3) ?_
   refine sv R (Bs (ys:=[Ii6 u3.ID,Ii6 u3.Token,Ii6 u3.Attempt,Ii6 u3.Snap,.b u3.RO,SL u3.Buf.L A5]) Zc R (.cp _) R R) (sst Adv R R R R R (rm 1 R (Ah (Bq ?_))))
   obtain rfl:=SJ h
   exact dn (Ad (ra Zc R R R) (Ad (rt R) Aj)) (Ao R) R
def Dx (a0:Ai) (a1:Int):Option Ai :=
 if (decide (a1=1)) then(some Fe) else(some a0)
theorem J9 {a0:Ai} {a1:Int} {r:Ai} (h:Dx a0 a1=some r):Bt Qx0 61 [.agg (EL.el a0),.one (Ii6 a1)] (·=.s (.agg (EL.el r))):=by
 unfold Dx at h
 refine A1 Tryz.func61 R (nt:=9) R (Nbl R) ?_
 intro w0 S0
 refine csr (Er R R (Br R Tg (Ah (Bj (csr (rm 1 R (sv R (B6 R R) (Ah (ccI h R (λh=>?_) (λh=>?_))))))))))
 ·refine csr (sv R (A2 Tg An3 A0 (.nil _)) (sst Kn R R R R R (Ah (Bq (Af ?_)))))
  obtain rfl:=SJ h
  exact dn (Ad (ra Dq R R R) Aj) (I8 R) R
 ·refine Bf (Ab (csr (ld Dq R R R R (sst Kn R R R R R (Ah (Bq ?_))))))
  obtain rfl:=SJ h
  exact dnA R Dq R (.lp _ _ _ R) (Nbl R) R R
def Fs (a0:List UInt8) (a1:List UInt8):Option Bool :=
 some (a0==a1)
theorem Pw {a0:List UInt8} {a1:List UInt8} {r:Bool} (h:Fs a0 a1=some r):Bt Qx0 135 [.one (SL a0 eU8),.one (SL a1 eU8)] (·=L7 (.b r)):=by
 unfold Fs at h
 refine A1 Tryz.func135 R (nt:=10) R (Nbl R) ?_
 intro w0 S0
 refine csr (rm 1 R (Ah (csr (rm 1 R (sv R (Ma (l:=a0) Tryz.underlying56 Tryz.underlying5 Tryz.underlying9 R R R) (rm 1 R (sv R (Ma (l:=a1) Tryz.underlying56 Tryz.underlying5 Tryz.underlying9 R R R) (sv R (Yy R R) (rm 1 R (Ah (Bq ?_)))))))))))
 obtain rfl:=SJ h
 exact dnT R R R R
def Q4 (b1:Unit):Option (A7×Bool) :=
 some ((A7.mk ([]:List UInt8) ([]:List UInt8) false),false)
def Ld (a0:B7) (a1:List UInt8) (s2:Int):Option (LR (Int) (Unit) (A7×Bool)) :=
 if (decide (s2<(a0.L.length:Int))) then((idx a0.L s2).bind λu3=>(Fs u3.Key a1).bind λv4=>if v4 then(some (.ret (u3,true))) else(some (.cont (wI (s2+1))))) else(some (.brk ()))
def O3 (a0:B7) (a1:List UInt8):Option (A7×Bool) :=
 (Iz (Ld a0 a1) fuel 0).bind λx=>match x with | .inl r=>some r | .inr e5=>Q4 e5
theorem Aa9 {a0:B7} {a1:List UInt8} {r:A7×Bool} (h:O3 a0 a1=some r):Bt Qx0 63 [.agg [SL a0.L A5],.one (SL a1 eU8)] (·=.tup [.agg (EL.el r.1),.one (.b r.2)]):=by
 unfold O3 at h
 refine A1 Tryz.func63 R (nt:=22) R (Nbl R) ?_
 intro w0 S0
 refine csr (Er R R (Br R Aml (rm 1 R (Ah (Bj (csr (fl Xn Am4 R R R R R R (sv R (Ap Zh R) (rm 1 R (Ah (cj (Unit) (λb1=>[(4,L7 (.lp 1 0))]) (λb1=>[.box [SL a0.L A5],.box [Znl,Znl,.b false]]) (λb1=>Q4 b1=some r) (λ_=>R) (λb1 h=>?_) ?_)))))))))))
 ·unfold Q4 at h
  refine csr (sv R (A2 Aml A02 A0 (.nil _)) (sst Ao8 R R R R R (rm 1 R (Ah (Bq ?_)))))
  obtain rfl:=SJ h
  exact dn (Ad (ra Aij R R R) (Ad (rt R) Aj)) (I8 R) R
 ·skip
  refine Bl ?_
  obtain⟨x2,hx2,ho2⟩:=Ae h
  refine lpo (G:=Nat×(Int)) (λg=>[(1,L7 (SL a1 eU8)),(4,L7 (.lp 1 0)),(9,L7 (SL a0.L A5)),(10,L7 (Ii6 (a0.L.length:Int))),(11,L7 (Ii6 g.2))]) (λg=>[.box [SL a0.L A5],.box [Znl,Znl,.b false]]) (λg=>Iz (Ld a0 a1) g.1 g.2=some x2) (λg=>g.1) (fuel,0) hx2 ⟨R,R,R,R,R,trivial⟩ [] R (λ_=>R) ?_
  clear hx2 h
  rintro⟨n2,s2⟩ h
  obtain⟨n2,y2,rfl,h,hk2⟩:=Dj h
  unfold Ld at h
  refine csr (sv R (Bv R R) (Ah (Bj (ccI h R (λh=>?_) (λh=>?_)))))
  ·refine Bf (Ab (Bj (Bl (Bj (Au ?_)))))
   obtain⟨u3,hu3,h⟩:=Ae h
   refine sv R (B4 (f:=A5) Zh (λ_=>R) R R R R hu3) ?_
   refine sv R (Bs (ys:=[SL u3.Key eU8,SL u3.Val eU8,.b u3.Del]) Aij R (.cp _) R R) (Br R Aml (sst Ao8 R R R R R (Ah (csr (fl Tn L3 R R R R R R (sv R (Az R) ?_))))))
   obtain⟨v4,hv4,h⟩:=Ae h
   refine Bb R Awf (Ac R (Ac R Ag)) (Ao R) (Pw hv4) (Ah (ccI h R (λh=>?_) (λh=>?_)))
   ·refine csr (ld Aij R R R R (sst Ao8 R R R R R (rm 1 R (Ah (Bq (Av (Af (Af (Av (Af ?_))))))))))
    obtain rfl:=SJ h
    obtain rfl:Sum.inl _=x2:=hk2
    replace ho2:some _=some _:=ho2
    obtain rfl:=zD ho2
    exact dn (Ad (ra Aij R R R) (Ad (rt R) Aj)) (Ao R) R
   ·refine Bf (Ar (Ab (Au (sv R (Bp R R) (rm 1 R (Ah ?_))))))
    obtain rfl:=SJ h
    exact⟨(n2,(wI (s2+1))),_,hk2,⟨R,R,R,R,R,trivial⟩,R,zG _⟩
  ·refine C3 (As (As (Bi (Ab ?_))))
   obtain rfl:=SJ h
   obtain rfl:_=x2:=hk2
   exact⟨(),_,ho2,⟨R,trivial⟩,R⟩
def Kl (a0:Int) (b1:Unit):Option (List UInt8) :=
 if (decide (0<(wI (a0-(wI (0-0)))))) then(if 0<(wI (a0-(wI (0-0))))/\(wI (a0-(wI (0-0))))*((1:Nat):Int)<=281474976710656 then(if (0:Int)<=0/\0<=((List.replicate (wI (a0-(wI (0-0)))).toNat (0:UInt8)).length:Int) then(some ((List.replicate (wI (a0-(wI (0-0)))).toNat (0:UInt8)).take (0:Int).toNat)) else none) else none) else(some ([]:List UInt8))
def Kz (a0:Int):Option (List UInt8) :=
 if (decide (a0<0)) then none else(Kl a0 ())
theorem Xt {a0:Int} {r:(List UInt8)} (h:Kz a0=some r):Dw Qx0 206 [] [.one (Znl),.one (Ii6 a0)] (λy m'=>y=L7 (.ls 0 r.length)/\m'=[.arr 5 1 0 (r.flatMap eU8)]):=by
 unfold Kz at h
 refine Dn Tryz.func206 R (nt:=27) R (Nbl R) ?_
 intro w0 S0 X0 H0
 refine csr (rm 1 R (Ah (Bj (csr (rm 1 R (sv R (Bv R R) (Ah (cj (Unit) (λb1=>[(0,L7 (Znl)),(1,L7 (Ii6 a0))]) (λb1=>[]) (λb1=>Kl a0 b1=some r) (λ_=>R) (λb1 h=>?_) ?_))))))))
 ·unfold Kl at h
  refine Bj (csr (rm 2 R (sv R (G9 Aa5 R) (rm 1 R (sv R (F5 Aa5 R) (sv R (Ph R R) (sv R (Ph R R) (rm 1 R (Ah (csr (rm 1 R (sv R (Dr R R) (Ah (ccI h R (λh=>?_) (λh=>?_)))))))))))))))
  ·refine Au (rm 2 R (sv R (G9 Aa5 R) (sv R (Oh Aa5 R R) (sv R (Az R) ?_))))
   obtain⟨hm2,h⟩:=Cs h
   refine Axj (f:=eU8) (z:=(0:UInt8)) R Tryz.underlying56 ei5 Tryz.underlying3 (λ_=>R) R R R hm2 (by decide) ?_
   refine rm 1 R (sv R (F5 Aa5 R) ?_)
   obtain⟨hs3,h⟩:=Cs h
   refine Aei (f:=eU8) R Aa5 (λ_=>R) R R R R R hs3 ?_
   refine rm 1 R (Ah (csr (rm 2 R (Ah (Bq ?_)))))
   obtain rfl:=SJ h
   exact⟨Or.inr R,_,[1],[.one (.ls 0 ((List.replicate (wI (a0-(wI (0-0)))).toNat (0:UInt8)).take (0:Int).toNat).length)],[.arr 5 1 0 (((List.replicate (wI (a0-(wI (0-0)))).toNat (0:UInt8)).take (0:Int).toNat).flatMap eU8)],(Ad (rt R) Aj),R,R,⟨by decide,R⟩,R,R,⟨R,R⟩⟩
  ·refine Bf (Ab (csr (rm 2 R (Ah ?_))))
   refine Dl 5 1 4 (by decide) R ?_
   refine Bq ?_
   obtain rfl:=SJ h
   exact⟨Or.inr R,_,[0],[.one (.ls 0 ([]:List UInt8).length)],[.arr 5 1 0 (([]:List UInt8).flatMap eU8)],(Ad (rt R) Aj),R,R,⟨by decide,R⟩,R,R,⟨R,R⟩⟩
 ·skip
  refine ccI h R (λh=>?_) (λh=>?_)
  ·cases h
  ·refine Bf (Ab ?_)
   exact⟨(),_,h,⟨R,R,trivial⟩,R⟩
def Mj (b3:(List UInt8)):Option (List UInt8) :=
 some b3
def Ef (a0:List (List UInt8)) (s4:Int×(List UInt8)):Option (LB (Int×(List UInt8)) ((List UInt8))) :=
 if (decide (s4.1<(a0.length:Int))) then((idx a0 s4.1).bind λu5=>if (s4.2.length+u5.length)*1<=140737488355328 then(some (.cont ((wI (s4.1+1)),(s4.2++u5)))) else none) else(some (.brk s4.2))
def Iw (a0:List (List UInt8)) (b1:Int):Option (List UInt8) :=
 (Kz b1).bind λv2=>(Cz (Ef a0) fuel (0,v2)).bind λe7=>Mj e7
def Ed (a0:List (List UInt8)) (s8:Int×Int):Option (LB (Int×Int) (Int)) :=
 if (decide (s8.2<(a0.length:Int))) then((idx a0 s8.2).bind λu9=>if (decide ((wI (s8.1+(u9.length:Int)))<0)) then none else(some (.cont ((wI (s8.1+(u9.length:Int))),(wI (s8.2+1)))))) else(some (.brk s8.1))
def Im (a0:List (List UInt8)):Option (List UInt8) :=
 (Cz (Ed a0) fuel (0,0)).bind λe10=>Iw a0 e10
theorem We {a0:List (List UInt8)} {r:(List UInt8)} (h:Im a0=some r):Dw Qx0 137 [] [.one (SL a0 (eL eU8))] (λy m'=>y=L7 (.ls 0 r.length)/\m'=[.arr 5 1 0 (r.flatMap eU8)]):=by
 unfold Im at h
 refine Dn Tryz.func137 R (nt:=36) R (Nbl R) ?_
 intro w0 S0 X0 H0
 refine csr (rm 1 R (Ah (csr (rm 1 R (Ah (Bj (csr (rm 1 R (sv R (Ap Se R) (rm 1 R (Ah (cj (Int) (λb1=>[(0,L7 (SL a0 (eL eU8))),(3,L7 (Ii6 b1))]) (λb1=>[]) (λb1=>Iw a0 b1=some r) (λ_=>R) (λb1 h=>?_) ?_))))))))))))
 ·unfold Iw at h
  refine csr (sv R (Az R) ?_)
  obtain⟨v2,hv2,h⟩:=Ae h
  refine I0 (x':=L7 (.ls 0 v2.length)) (M':=[.arr 5 1 0 (v2.flatMap eU8)]) [] R A1d (.func _) (Ac R (Ac R Ag)) (Xt hv2) R R (by decide) R R R ?_
  refine rm 1 R (Ah (Bj (csr (rm 1 R (sv R (Ap Se R) (rm 1 R (Ah (cj ((List UInt8)) (λb3=>[(6,L7 (.ls 0 b3.length))]) (λb3=>[.arr 5 1 0 (b3.flatMap eU8)]) (λb3=>Mj b3=some r) (λ_=>R) (λb3 h=>?_) ?_))))))))
  ·unfold Mj at h
   refine csr (rm 2 R (Ah (Bq ?_)))
   obtain rfl:=SJ h
   exact⟨Or.inr R,_,[0],[.one (.ls 0 b3.length)],[.arr 5 1 0 (b3.flatMap eU8)],(Ad (rt R) Aj),R,R,⟨by decide,R⟩,R,R,⟨R,R⟩⟩
  ·skip
   refine Bl ?_
   obtain⟨x4,hx4,ho4⟩:=Ae h
   refine lpo (G:=Nat×(Int×(List UInt8))) (λg=>[(6,L7 (.ls 0 g.2.2.length)),(25,L7 (SL a0 (eL eU8))),(26,L7 (Ii6 (a0.length:Int))),(27,L7 (Ii6 g.2.1))]) (λg=>[.arr 5 1 0 (g.2.2.flatMap eU8)]) (λg=>Cz (Ef a0) g.1 g.2=some x4) (λg=>g.1) (fuel,(0,v2)) hx4 ⟨R,R,R,R,trivial⟩ [] R (λ_=>R) ?_
   clear hx4 h
   rintro⟨n4,s4⟩ h
   obtain⟨n4,y4,rfl,h,hk4⟩:=Cw h
   unfold Ef at h
   refine csr (sv R (Bv R R) (Ah (Bj (ccI h R (λh=>?_) (λh=>?_)))))
   ·refine Bf (Ab (Bj (Bl (Bj (Au ?_)))))
    obtain⟨u5,hu5,h⟩:=Ae h
    refine sv R (B4 (f:=(eL eU8)) Se (λ_=>R) R R R R hu5) ?_
    refine sv R (B0 L3 R (.cp _) R) (rm 1 R (Ah (Au (rm 1 R (sv R (Az R) ?_)))))
    obtain⟨hb6,h⟩:=Cs h
    refine U1 (f:=eU8) (xs:=s4.2) (us:=u5) R Tryz.underlying56 ei5 A54 (λ_=>R) R R (.one _ _ _ _ (.id _ R)) R R R (.sl _ _ _ (Aw (f:=eU8) (λ_=>R) _)) R R hb6 (by decide) ?_
    refine rm 1 R (Jb (Ar (Ab (Au (sv R (Bp R R) (rm 1 R (Ah ?_)))))))
    obtain rfl:=SJ h
    exact⟨(n4,((wI (s4.1+1)),(s4.2++u5))),_,hk4,⟨R,R,R,R,trivial⟩,R,zG _⟩
   ·refine C3 (As (As (Bi (Ab ?_))))
    obtain rfl:=SJ h
    obtain rfl:_=x4:=hk4
    exact⟨s4.2,_,ho4,⟨R,trivial⟩,R⟩
 ·skip
  refine Bl ?_
  obtain⟨x8,hx8,ho8⟩:=Ae h
  refine lpo (G:=Nat×(Int×Int)) (λg=>[(0,L7 (SL a0 (eL eU8))),(3,L7 (Ii6 g.2.1)),(9,L7 (SL a0 (eL eU8))),(10,L7 (Ii6 (a0.length:Int))),(11,L7 (Ii6 g.2.2))]) (λg=>[]) (λg=>Cz (Ed a0) g.1 g.2=some x8) (λg=>g.1) (fuel,(0,0)) hx8 ⟨R,R,R,R,R,trivial⟩ [] R (λ_=>R) ?_
  clear hx8 h
  rintro⟨n8,s8⟩ h
  obtain⟨n8,y8,rfl,h,hk8⟩:=Cw h
  unfold Ed at h
  refine csr (sv R (Bv R R) (Ah (Bj (ccI h R (λh=>?_) (λh=>?_)))))
  ·refine Bf (Ab (Bj (Bl (Bj (Au ?_)))))
   obtain⟨u9,hu9,h⟩:=Ae h
   refine sv R (B4 (f:=(eL eU8)) Se (λ_=>R) R R R R hu9) ?_
   refine sv R (B0 L3 R (.cp _) R) (rm 1 R (Ah (csr (rm 2 R (sv R (Ap Aa5 R) (sv R (Bp R R) (rm 1 R (Ah (csr (rm 1 R (sv R (Bv R R) (Ah (ccI h R (λh=>?_) (λh=>?_))))))))))))))
   ·cases h
   ·refine Bf (Ar (Ab (Au (sv R (Bp R R) (rm 1 R (Ah ?_))))))
    obtain rfl:=SJ h
    exact⟨(n8,((wI (s8.1+(u9.length:Int))),(wI (s8.2+1)))),_,hk8,⟨R,R,R,R,R,trivial⟩,R,zG _⟩
  ·refine C3 (As (As (Bi (Ab ?_))))
   obtain rfl:=SJ h
   obtain rfl:_=x8:=hk8
   exact⟨s8.1,_,ho8,⟨R,R,trivial⟩,R⟩
def Rk (a0:List UInt8):Option Bh :=
 (Im [a0,[(UInt8.ofBitVec (0#8))]]).bind λv1=>some (Bh.mk a0 v1 false)
theorem Ac6 {a0:List UInt8} {r:Bh} (h:Rk a0=some r):Bt Qx0 65 [.one (SL a0 eU8)] (·=.s (.agg (EL.el r))):=by
 unfold Rk at h
 refine A1 Tryz.func65 R (nt:=9) R (Nbl R) ?_
 intro w0 S0
 refine csr (Br R A1g (Ah (csr (rm 1 R (sv R (Az R) ?_)))))
 refine D7 R Tryz.underlying56 ei5 R R (zI.1 R) (by decide) ?_
 refine Ql [.box [Znl,Znl,.b false],.arr 5 1 0 ([(UInt8.ofBitVec (0#8))].flatMap eU8)] R ?_
 refine Aif 5 R (by(repeat' first|exact Ho.nil _|apply Ho.cons|apply Hl.one|apply Hl.agg|exact C5.nil|exact C5.ls _ _ _ _ _ _ R (Aw (f:=eU8) (λ_=>R) ([(UInt8.ofBitVec (0#8))]:List UInt8)).symm|exact C5.ls _ _ _ _ _ _ R (Aw (f:=eU8) (λ_=>R) _).symm|exact C5.id _ R|exact Cv.nil _|apply Cv.cons)) ?_
 refine Ai6 (out:=([a0,[(UInt8.ofBitVec (0#8))]]:List (List UInt8)).flatMap (eL eU8)) R Tryz.underlying25 Aid (Aq R (Aq R A0)) (.cons _ _ _ _ _ _ _ R R (Nbl R) (.cons _ _ _ _ _ _ _ R R (Nbl R) (.nil _))) R (by decide) ?_
 refine Aif 6 R (by(repeat' first|exact Ho.nil _|apply Ho.cons|apply Hl.one|apply Hl.agg|exact C5.nil|exact C5.ls _ _ _ _ _ _ R (Aw (f:=(eL eU8)) (λ_=>R) ([a0,[(UInt8.ofBitVec (0#8))]]:List (List UInt8))).symm|exact C5.ls _ _ _ _ _ _ R (Aw (f:=(eL eU8)) (λ_=>R) _).symm|exact C5.ls _ _ _ _ _ _ R (Aw (f:=eU8) (λ_=>R) _).symm|exact C5.id _ R|exact Cv.nil _|apply Cv.cons)) ?_
 obtain⟨v1,hv1,h⟩:=Ae h
 refine I0 (x':=L7 (.ls 3 v1.length)) (M':=[.box [Znl,Znl,.b false],.arr 5 1 ([(UInt8.ofBitVec (0#8))].flatMap eU8).length ([(UInt8.ofBitVec (0#8))].flatMap eU8),.arr 56 1 ([a0,[(UInt8.ofBitVec (0#8))]].flatMap (eL eU8)).length ([a0,[(UInt8.ofBitVec (0#8))]].flatMap (eL eU8)),.arr 5 1 0 (v1.flatMap eU8)]) [] R A22 (.func _) (Ac R Ag) (We hv1) R R (by decide) R R R ?_
 refine sv R (A2 A1g A4z (Aq R (Aq R A0)) (.cons _ _ _ _ _ _ _ R R (Nbl R) (.cons _ _ _ _ _ _ _ R R (Nbl R) (.nil _)))) (sst A6w R R R R R (Ah (Bq ?_)))
 obtain rfl:=SJ h
 refine⟨Or.inr R,_,_,_,(Ad (ra Ac4 R R R) Aj),(by(repeat' first|exact Ho.nil _|apply Ho.cons|apply Hl.one|apply Hl.agg|exact C5.nil|exact C5.ls _ _ _ _ _ _ R (Aw (f:=(eL eU8)) (λ_=>R) _).symm|exact C5.ls _ _ _ _ _ _ R (Aw (f:=eU8) (λ_=>R) _).symm|exact C5.id _ R|exact Cv.nil _|apply Cv.cons)),?_⟩
 rfl
def Kf (a0:Int) (b1:Unit):Option (List A4) :=
 if (decide (0<(wI (a0-(wI (0-0)))))) then(if 0<(wI (a0-(wI (0-0))))/\(wI (a0-(wI (0-0))))*((64:Nat):Int)<=281474976710656 then(if (0:Int)<=0/\0<=((List.replicate (wI (a0-(wI (0-0)))).toNat Tb).length:Int) then(some ((List.replicate (wI (a0-(wI (0-0)))).toNat Tb).take (0:Int).toNat)) else none) else none) else(some ([]:List A4))
def Kp (a0:Int):Option (List A4) :=
 if (decide (a0<0)) then none else(Kf a0 ())
theorem Ye {a0:Int} {r:(List A4)} (h:Kp a0=some r):Dw Qx0 268 [] [.one (Znl),.one (Ii6 a0)] (λy m'=>y=L7 (.ls 0 r.length)/\m'=[.arr 142 4 0 (r.flatMap Ax)]):=by
 unfold Kp at h
 refine Dn Tryz.func268 R (nt:=27) R (Nbl R) ?_
 intro w0 S0 X0 H0
 refine csr (rm 1 R (Ah (Bj (csr (rm 1 R (sv R (Bv R R) (Ah (cj (Unit) (λb1=>[(0,L7 (Znl)),(1,L7 (Ii6 a0))]) (λb1=>[]) (λb1=>Kf a0 b1=some r) (λ_=>R) (λb1 h=>?_) ?_))))))))
 ·unfold Kf at h
  refine Bj (csr (rm 2 R (sv R (G9 Acb R) (rm 1 R (sv R (F5 Acb R) (sv R (Ph R R) (sv R (Ph R R) (rm 1 R (Ah (csr (rm 1 R (sv R (Dr R R) (Ah (ccI h R (λh=>?_) (λh=>?_)))))))))))))))
  ·refine Au (rm 2 R (sv R (G9 Acb R) (sv R (Oh Acb R R) (sv R (Az R) ?_))))
   obtain⟨hm2,h⟩:=Cs h
   refine Ak9 (f:=Ax) (z:=Tb) R Tryz.underlying30 Anc Tryz.underlying3 (λ_=>R) R R R hm2 (by decide) ?_
   refine rm 1 R (sv R (F5 Acb R) ?_)
   obtain⟨hs3,h⟩:=Cs h
   refine Aei (f:=Ax) R Acb (λ_=>R) R R R R R hs3 ?_
   refine rm 1 R (Ah (csr (rm 2 R (Ah (Bq ?_)))))
   obtain rfl:=SJ h
   exact⟨Or.inr R,_,[1],[.one (.ls 0 ((List.replicate (wI (a0-(wI (0-0)))).toNat Tb).take (0:Int).toNat).length)],[.arr 142 4 0 (((List.replicate (wI (a0-(wI (0-0)))).toNat Tb).take (0:Int).toNat).flatMap Ax)],(Ad (rt R) Aj),R,R,⟨by decide,R⟩,R,R,⟨R,R⟩⟩
  ·refine Bf (Ab (csr (rm 2 R (Ah ?_))))
   refine Dl 142 4 4 (by decide) R ?_
   refine Bq ?_
   obtain rfl:=SJ h
   exact⟨Or.inr R,_,[0],[.one (.ls 0 ([]:List A4).length)],[.arr 142 4 0 (([]:List A4).flatMap Ax)],(Ad (rt R) Aj),R,R,⟨by decide,R⟩,R,R,⟨R,R⟩⟩
 ·skip
  refine ccI h R (λh=>?_) (λh=>?_)
  ·cases h
  ·refine Bf (Ab ?_)
   exact⟨(),_,h,⟨R,R,trivial⟩,R⟩
def Mn (b3:(List A4)):Option (List A4) :=
 some b3
def Eh (a0:List (List A4)) (s4:Int×(List A4)):Option (LB (Int×(List A4)) ((List A4))) :=
 if (decide (s4.1<(a0.length:Int))) then((idx a0 s4.1).bind λu5=>if (s4.2.length+u5.length)*64<=140737488355328 then(some (.cont ((wI (s4.1+1)),(s4.2++u5)))) else none) else(some (.brk s4.2))
def Iy (a0:List (List A4)) (b1:Int):Option (List A4) :=
 (Kp b1).bind λv2=>(Cz (Eh a0) fuel (0,v2)).bind λe7=>Mn e7
def Ej (a0:List (List A4)) (s8:Int×Int):Option (LB (Int×Int) (Int)) :=
 if (decide (s8.2<(a0.length:Int))) then((idx a0 s8.2).bind λu9=>if (decide ((wI (s8.1+(u9.length:Int)))<0)) then none else(some (.cont ((wI (s8.1+(u9.length:Int))),(wI (s8.2+1)))))) else(some (.brk s8.1))
def F6 (a0:List (List A4)):Option (List A4) :=
 (Cz (Ej a0) fuel (0,0)).bind λe10=>Iy a0 e10
theorem V1 {a0:List (List A4)} {r:(List A4)} (h:F6 a0=some r):Dw Qx0 250 [] [.one (SL a0 (eL Ax))] (λy m'=>y=L7 (.ls 0 r.length)/\m'=[.arr 142 4 0 (r.flatMap Ax)]):=by
 unfold F6 at h
 refine Dn Tryz.func250 R (nt:=36) R (Nbl R) ?_
 intro w0 S0 X0 H0
 refine csr (rm 1 R (Ah (csr (rm 1 R (Ah (Bj (csr (rm 1 R (sv R (Ap Ari R) (rm 1 R (Ah (cj (Int) (λb1=>[(0,L7 (SL a0 (eL Ax))),(3,L7 (Ii6 b1))]) (λb1=>[]) (λb1=>Iy a0 b1=some r) (λ_=>R) (λb1 h=>?_) ?_))))))))))))
 ·unfold Iy at h
  refine csr (sv R (Az R) ?_)
  obtain⟨v2,hv2,h⟩:=Ae h
  refine I0 (x':=L7 (.ls 0 v2.length)) (M':=[.arr 142 4 0 (v2.flatMap Ax)]) [] R A27 (.func _) (Ac R (Ac R Ag)) (Ye hv2) R R (by decide) R R R ?_
  refine rm 1 R (Ah (Bj (csr (rm 1 R (sv R (Ap Ari R) (rm 1 R (Ah (cj ((List A4)) (λb3=>[(6,L7 (.ls 0 b3.length))]) (λb3=>[.arr 142 4 0 (b3.flatMap Ax)]) (λb3=>Mn b3=some r) (λ_=>R) (λb3 h=>?_) ?_))))))))
  ·unfold Mn at h
   refine csr (rm 2 R (Ah (Bq ?_)))
   obtain rfl:=SJ h
   exact⟨Or.inr R,_,[0],[.one (.ls 0 b3.length)],[.arr 142 4 0 (b3.flatMap Ax)],(Ad (rt R) Aj),R,R,⟨by decide,R⟩,R,R,⟨R,R⟩⟩
  ·skip
   refine Bl ?_
   obtain⟨x4,hx4,ho4⟩:=Ae h
   refine lpo (G:=Nat×(Int×(List A4))) (λg=>[(6,L7 (.ls 0 g.2.2.length)),(25,L7 (SL a0 (eL Ax))),(26,L7 (Ii6 (a0.length:Int))),(27,L7 (Ii6 g.2.1))]) (λg=>[.arr 142 4 0 (g.2.2.flatMap Ax)]) (λg=>Cz (Eh a0) g.1 g.2=some x4) (λg=>g.1) (fuel,(0,v2)) hx4 ⟨R,R,R,R,trivial⟩ [] R (λ_=>R) ?_
   clear hx4 h
   rintro⟨n4,s4⟩ h
   obtain⟨n4,y4,rfl,h,hk4⟩:=Cw h
   unfold Eh at h
   refine csr (sv R (Bv R R) (Ah (Bj (ccI h R (λh=>?_) (λh=>?_)))))
   ·refine Bf (Ab (Bj (Bl (Bj (Au ?_)))))
    obtain⟨u5,hu5,h⟩:=Ae h
    refine sv R (B4 (f:=(eL Ax)) Ari (λ_=>R) R R R R hu5) ?_
    refine sv R (B0 Ah8 R (.cp _) R) (rm 1 R (Ah (Au (rm 1 R (sv R (Az R) ?_)))))
    obtain⟨hb6,h⟩:=Cs h
    refine U1 (f:=Ax) (xs:=s4.2) (us:=u5) R Tryz.underlying30 Anc A4p (λ_=>R) R R (.one _ _ _ _ (.id _ R)) R R R (.sl _ _ _ (Aw (f:=Ax) (λ_=>R) _)) R R hb6 (by decide) ?_
    refine rm 1 R (Jb (Ar (Ab (Au (sv R (Bp R R) (rm 1 R (Ah ?_)))))))
    obtain rfl:=SJ h
    exact⟨(n4,((wI (s4.1+1)),(s4.2++u5))),_,hk4,⟨R,R,R,R,trivial⟩,R,zG _⟩
   ·refine C3 (As (As (Bi (Ab ?_))))
    obtain rfl:=SJ h
    obtain rfl:_=x4:=hk4
    exact⟨s4.2,_,ho4,⟨R,trivial⟩,R⟩
 ·skip
  refine Bl ?_
  obtain⟨x8,hx8,ho8⟩:=Ae h
  refine lpo (G:=Nat×(Int×Int)) (λg=>[(0,L7 (SL a0 (eL Ax))),(3,L7 (Ii6 g.2.1)),(9,L7 (SL a0 (eL Ax))),(10,L7 (Ii6 (a0.length:Int))),(11,L7 (Ii6 g.2.2))]) (λg=>[]) (λg=>Cz (Ej a0) g.1 g.2=some x8) (λg=>g.1) (fuel,(0,0)) hx8 ⟨R,R,R,R,R,trivial⟩ [] R (λ_=>R) ?_
  clear hx8 h
  rintro⟨n8,s8⟩ h
  obtain⟨n8,y8,rfl,h,hk8⟩:=Cw h
  unfold Ej at h
  refine csr (sv R (Bv R R) (Ah (Bj (ccI h R (λh=>?_) (λh=>?_)))))
  ·refine Bf (Ab (Bj (Bl (Bj (Au ?_)))))
   obtain⟨u9,hu9,h⟩:=Ae h
   refine sv R (B4 (f:=(eL Ax)) Ari (λ_=>R) R R R R hu9) ?_
   refine sv R (B0 Ah8 R (.cp _) R) (rm 1 R (Ah (csr (rm 2 R (sv R (Ap Acb R) (sv R (Bp R R) (rm 1 R (Ah (csr (rm 1 R (sv R (Bv R R) (Ah (ccI h R (λh=>?_) (λh=>?_))))))))))))))
   ·cases h
   ·refine Bf (Ar (Ab (Au (sv R (Bp R R) (rm 1 R (Ah ?_))))))
    obtain rfl:=SJ h
    exact⟨(n8,((wI (s8.1+(u9.length:Int))),(wI (s8.2+1)))),_,hk8,⟨R,R,R,R,R,trivial⟩,R,zG _⟩
  ·refine C3 (As (As (Bi (Ab ?_))))
   obtain rfl:=SJ h
   obtain rfl:_=x8:=hk8
   exact⟨s8.1,_,ho8,⟨R,R,trivial⟩,R⟩
def Od (a0:B3) (a1:Int) (a2:Bh) (b1:Unit):Option (B3×Int) :=
 (H9 a0.L).bind λv2=>(J0 (A4.mk a1 a2)).bind λv3=>if (Agh v2 v3) then(some ((B3.mk a0.L),0)) else(if (decide (128<=(a0.L.length:Int))) then(some ((B3.mk ([]:List A4)),8)) else((F6 [a0.L,[(A4.mk a1 a2)]]).bind λv4=>some ((B3.mk v4),0)))
def Ht (a0:B3) (a1:Int) (a2:Bh):Option (B3×Int) :=
 (Gg (B3.mk a0.L)).bind λv5=>if (!v5) then(some ((B3.mk ([]:List A4)),1)) else((Dv (A4.mk a1 a2)).bind λv6=>if (!v6) then(some ((B3.mk ([]:List A4)),1)) else(Od a0 a1 a2 ()))
theorem Aa6 {a0:B3} {a1:Int} {a2:Bh} {r:B3×Int} (h:Ht a0 a1 a2=some r):Bt Qx0 199 [.agg [SL a0.L Ax],.one (Ii6 a1),.agg (EL.el a2)] (·=.tup [.agg [SL r.1.L Ax],.one (Ii6 r.2)]):=by
 unfold Ht at h
 refine A1 Tryz.func199 R (nt:=46) R (Nbl R) ?_
 intro w0 S0
 refine csr (Er R R (Er R R (Br R As2 (rm 1 R (Ah (csr (rm 1 R (ld Ac4 R R R R (sv R (A2 Amu A20 (Aq R (Aq R A0)) (.cons _ _ _ _ _ _ _ R R (Nbl R) (.cons _ _ _ _ _ _ _ R R (Nbl R) (.nil _)))) (Br R Amu (sst Aqm R R R R R (Ah (Bj (Bj (cj3 (Unit) (λb1=>[(3,L7 (.lp 0 0)),(6,L7 (.lp 2 0)),(8,L7 (.lp 3 0))]) (λb1=>[.box [SL a0.L Ax],.box (EL.el a2),.box [Znl],.box [Ii6 a1,SL a2.Lo eU8,SL a2.Hi eU8,.b a2.Open]]) (λb1=>Od a0 a1 a2 b1=some r) (λ_=>R) (λb1 h=>?_) ?_)))))))))))))))
 ·unfold Od at h
  refine Bj (Bj (Adc ?_))
  obtain⟨v2,hv2,h⟩:=Ae h
  obtain⟨v3,hv3,h⟩:=Ae h
  refine Kb [2] [0,1,3,0,15,31,63,127,127,255,1023] [[.box [SL a0.L Ax],.box (EL.el a2),.box [Znl],.box [Ii6 a1,SL a2.Lo eU8,SL a2.Hi eU8,.b a2.Open],.hole],[.box [SL a0.L Ax],.box (EL.el a2),.box [Znl],.box [Ii6 a1,SL a2.Lo eU8,SL a2.Hi eU8,.b a2.Open],Xb Eb v2]] (by kernel_rfl) mixed (by kernel_rfl) (by decide) R R R R ?_
  refine ev (A6 0 R R) R R (Aa Uc R) (ev (A6 0 R R) R R (l1 Ah8 R R R) (ee (x:=L7 (.mp 0 4)) 0 R R R R R (λζ=>?_) ?_))
  ·refine Agm 4 R Azk (.func _) (Ac R Ag) (Ta hv2) R R R ?_
   exact U9
  refine ev (B9 (md:=[.box [SL a0.L Ax],.box (EL.el a2),.box [Znl],.box [Ii6 a1,SL a2.Lo eU8,SL a2.Hi eU8,.b a2.Open],.dead]) ⟨⟨R,⟨R,⟨R,⟨R,⟨trivial,trivial⟩⟩⟩⟩⟩,⟨⟨R,⟨R,⟨R,⟨R,⟨trivial,trivial⟩⟩⟩⟩⟩,trivial⟩⟩) R R (lo Adj R R R) (ed (A6 1 R R) R R (Cm Azt (Ac R Ag) R (Sa hv3)) (ev (A6 1 R R) R R (Amo (M:=v2) (k:=v3) A0g Tryz.underlying299 zv3 R R R) (ev (A6 1 R R) R R (Cf R) (ev (A6 1 R R) R R (Ak R R) (ev (A6 1 R R) R R (Ak R R) (ev (A6 1 R R) R R (G0 R) (ev (A6 1 R R) R R (G0 R) (Adr (Ab (csr (rm 1 R (Ah (ccI h R (λh=>?_) (λh=>?_))))))))))))))
  ·refine csr (ld Afg R R R R (sst Auj R R R R R (rm 1 R (Ah (Bq (Af ?_))))))
   obtain rfl:=SJ h
   exact dn (Ad (ra Afg R R R) (Ad (rt R) Aj)) (Ao R) R
  ·refine Bf (Ab (Bj (csr (fl Uc Ah8 R R R R R R (sv R (Ap Acb R) (sv R (Ii R R) (Ah (ccI h R (λh=>?_) (λh=>?_)))))))))
   ·refine csr (sv R (A2 As2 Ayb A0 (.nil _)) (sst Auj R R R R R (rm 1 R (Ah (Bq (Af ?_))))))
    obtain rfl:=SJ h
    exact dn (Ad (ra Afg R R R) (Ad (rt R) Aj)) (I8 R) R
   ·refine Bf (Ab (csr (fl Uc Ah8 R R R R R R (sv R (lo Adj R R R) ?_))))
    refine D7 R Tryz.underlying30 Anc R R (zI.1 R) (by decide) ?_
    refine Ql [.box [SL a0.L Ax],.box (EL.el a2),.box [Znl],.box [Ii6 a1,SL a2.Lo eU8,SL a2.Hi eU8,.b a2.Open],Xb Eb v2,.arr 142 4 0 ([(A4.mk a1 a2)].flatMap Ax)] R ?_
    refine Aif 42 R (by(repeat' first|exact Ho.nil _|apply Ho.cons|apply Hl.one|apply Hl.agg|exact C5.nil|exact C5.ls _ _ _ _ _ _ R (Aw (f:=Ax) (λ_=>R) ([(A4.mk a1 a2)]:List A4)).symm|exact C5.ls _ _ _ _ _ _ R (Aw (f:=Ax) (λ_=>R) _).symm|exact C5.id _ R|exact Cv.nil _|apply Cv.cons)) ?_
    refine Ai6 (out:=([a0.L,[(A4.mk a1 a2)]]:List (List A4)).flatMap (eL Ax)) R Tryz.underlying396 A5k (Aq R (Aq R A0)) (.cons _ _ _ _ _ _ _ R R (Nbl R) (.cons _ _ _ _ _ _ _ R R (Nbl R) (.nil _))) R (by decide) ?_
    refine Aif 43 R (by(repeat' first|exact Ho.nil _|apply Ho.cons|apply Hl.one|apply Hl.agg|exact C5.nil|exact C5.ls _ _ _ _ _ _ R (Aw (f:=(eL Ax)) (λ_=>R) ([a0.L,[(A4.mk a1 a2)]]:List (List A4))).symm|exact C5.ls _ _ _ _ _ _ R (Aw (f:=(eL Ax)) (λ_=>R) _).symm|exact C5.ls _ _ _ _ _ _ R (Aw (f:=Ax) (λ_=>R) _).symm|exact C5.id _ R|exact Cv.nil _|apply Cv.cons)) ?_
    obtain⟨v4,hv4,h⟩:=Ae h
    refine I0 (x':=L7 (.ls 7 v4.length)) (M':=[.box [SL a0.L Ax],.box (EL.el a2),.box [Znl],.box [Ii6 a1,SL a2.Lo eU8,SL a2.Hi eU8,.b a2.Open],Xb Eb v2,.arr 142 4 ([(A4.mk a1 a2)].flatMap Ax).length ([(A4.mk a1 a2)].flatMap Ax),.arr 30 1 ([a0.L,[(A4.mk a1 a2)]].flatMap (eL Ax)).length ([a0.L,[(A4.mk a1 a2)]].flatMap (eL Ax)),.arr 142 4 0 (v4.flatMap Ax)]) [] R A4g (.func _) (Ac R Ag) (V1 hv4) R R (by decide) R R R ?_
    refine sv R (A2 As2 Ayb (Aq R A0) (.cons _ _ _ _ _ _ _ R R (Nbl R) (.nil _))) (sst Auj R R R R R (rm 1 R (Ah (Bq ?_))))
    obtain rfl:=SJ h
    refine⟨Or.inr R,_,_,_,(Ad (ra Afg R R R) (Ad (rt R) Aj)),(by(repeat' first|exact Ho.nil _|apply Ho.cons|apply Hl.one|apply Hl.agg|exact C5.nil|exact C5.ls _ _ _ _ _ _ R (Aw (f:=(eL Ax)) (λ_=>R) _).symm|exact C5.ls _ _ _ _ _ _ R (Aw (f:=Ax) (λ_=>R) _).symm|exact C5.id _ R|exact Cv.nil _|apply Cv.cons)),?_⟩
    rfl
 ·skip
  refine Au (sv R (lo Afg R R R) ?_)
  obtain⟨v5,hv5,h⟩:=Ae h
  refine Bb R A0a (Ac R Ag) (Ao R) (Us hv5) (sv R (Bz R) (rm 1 R (ssI 17 h R (λh=>?_) (λh=>?_))))
  ·refine rm 4 R (Ah (Ce R (λ_=>?_) (λhx=>Bool.noConfusion hx)))
   refine csr (sv R (A2 As2 Ayb A0 (.nil _)) (sst Auj R R R R R (rm 1 R (Ah (Bq (Af ?_))))))
   obtain rfl:=SJ h
   exact dn (Ad (ra Afg R R R) (Ad (rt R) Aj)) (I8 R) R
  ·refine son R R R (ld Adj R R R R (son R R R ?_))
   obtain⟨v6,hv6,h⟩:=Ae h
   refine Bb R Ax1 (Ac R Ag) (Ao R) (Re hv6) (son R R R (sv R (Bz R) (rm 1 R (Ah (ccI h R (λh=>?_) (λh=>?_))))))
   ·refine csr (sv R (A2 As2 Ayb A0 (.nil _)) (sst Auj R R R R R (rm 1 R (Ah (Bq (Af ?_))))))
    obtain rfl:=SJ h
    exact dn (Ad (ra Afg R R R) (Ad (rt R) Aj)) (I8 R) R
   ·refine Bf (Ab ?_)
    exact⟨(),_,h,⟨R,R,R,trivial⟩,R⟩
def Ea (a0:List A3):Option (List A3) :=
 if (([]:List A3).length+a0.length)*64<=140737488355328 then(some (([]:List A3)++a0)) else none
theorem R2 {a0:List A3} {r:(List A3)} (h:Ea a0=some r):Dw Qx0 200 [] [.one (SL a0 Bc)] (λy m'=>y=L7 (.ls 0 r.length)/\m'=[.arr 139 8 0 (r.flatMap Bc)]):=by
 unfold Ea at h
 refine Dn Tryz.func200 R (nt:=8) R (Nbl R) ?_
 intro w0 S0 X0 H0
 refine csr (rm 1 R (Ah (Bj (csr (rm 1 R (Afl R Tryz.underlying29 R (λnq hnq=>?_)))))))
 cases nq
 ·skip
  refine Ah (Ce R (λhx=>Bool.noConfusion hx) (λ_=>?_))
  refine Bf (Ab (csr (U2 R Tryz.underlying29 Ajy (sv R (Az R) ?_))))
  obtain⟨hb1,h⟩:=Cs h
  refine U1 (f:=Bc) (xs:=([]:List A3)) (us:=a0) R Tryz.underlying29 Ajy A2f (λ_=>R) R R (.one _ _ _ _ (.id _ R)) R R R (.sl _ _ _ (Aw (f:=Bc) (λ_=>R) _)) R R hb1 (by decide) ?_
  refine rm 1 R (Ah (Bq ?_))
  obtain rfl:=SJ h
  exact⟨Or.inr R,_,[0],[.one (.ls 0 (([]:List A3)++a0).length)],[.arr 139 8 0 ((([]:List A3)++a0).flatMap Bc)],(Ad (rt R) Aj),R,R,⟨by decide,R⟩,R,R,⟨R,R⟩⟩
 ·obtain rfl:=zY (hnq rfl)
  replace h:(some ([]:List A3))=some r:=by first|exact h|(rw[if_pos (by decide)] at h;exact h)
  refine Ah (Ce R (λ_=>?_) (λhx=>Bool.noConfusion hx))
  refine csr (rm 1 R (Ah ?_))
  refine Dl 139 8 2 (by decide) R ?_
  refine Bq (Af ?_)
  obtain rfl:=SJ h
  exact⟨Or.inr R,_,[0],[.one (.ls 0 ([]:List A3).length)],[.arr 139 8 0 (([]:List A3).flatMap Bc)],(Ad (rt R) Aj),R,R,⟨by decide,R⟩,R,R,⟨R,R⟩⟩
def Mi (a0:A3) (a1:A3):Option Bool :=
 if (decide (a0.State=2)) then(some (decide (a0.End<=a1.Begin))) else(some false)
theorem Vo {a0:A3} {a1:A3} {r:Bool} (h:Mi a0 a1=some r):Bt Qx0 251 [.agg (EL.el a0),.agg (EL.el a1)] (·=L7 (.b r)):=by
 unfold Mi at h
 refine A1 Tryz.func251 R (nt:=15) R (Nbl R) ?_
 intro w0 S0
 refine csr (Er R R (Er R R (rm 1 R (Ah (csr (fl Qb ti3 R R R R R R (sv R (B6 R R) (rm 1 R (ssI 8 h R (λh=>?_) (λh=>?_))))))))))
 ·refine son R R R (sv R (Aa Rq R) (son R R R (sv R (l1 ti3 R R R) (son R R R (sv R (Aa Wk R) (son R R R (sv R (l1 ti3 R R R) (son R R R (sv R (Dk R R) (rm 2 R (Ah (Bq ?_))))))))))))
  obtain rfl:=SJ h
  exact dnT R R R R
 ·refine rm 7 R (Ah (Bq ?_))
  obtain rfl:=SJ h
  exact dnT R R R R
def Fb (a0:A3) (a1:A3):Option Bool :=
 (Mi a0 a1).bind λv1=>if (!v1) then((Mi a1 a0).bind λv2=>some (!v2)) else(some false)
theorem Qq {a0:A3} {a1:A3} {r:Bool} (h:Fb a0 a1=some r):Bt Qx0 201 [.agg (EL.el a0),.agg (EL.el a1)] (·=L7 (.b r)):=by
 unfold Fb at h
 refine A1 Tryz.func201 R (nt:=15) R (Nbl R) ?_
 intro w0 S0
 refine csr (Er R R (Er R R (rm 1 R (Ah (csr (ld J8 R R R R (sv R (lo J8 R R R) ?_)))))))
 obtain⟨v1,hv1,h⟩:=Ae h
 refine Bb R A0j (Ac R (Ac R Ag)) (Ao R) (Vo hv1) (sv R (Bz R) (rm 1 R (ssI 9 h R (λh=>?_) (λh=>?_))))
 ·refine son R R R (ld J8 R R R R (son R R R (ld J8 R R R R (son R R R ?_))))
  obtain⟨v2,hv2,h⟩:=Ae h
  refine Bb R A0j (Ac R (Ac R Ag)) (Ao R) (Vo hv2) (son R R R (sv R (Bz R) (rm 2 R (Ah (Bq ?_)))))
  obtain rfl:=SJ h
  exact dnT R R R R
 ·refine rm 6 R (Ah (Bq ?_))
  obtain rfl:=SJ h
  exact dnT R R R R
def Pf (b1:Unit):Option Bool :=
 some false
def Fy (a0:A3) (a1:Bh) (s2:Int):Option (LR (Int) (Unit) (Bool)) :=
 if (decide (s2<(a0.Keys.length:Int))) then((idx a0.Keys s2).bind λu3=>(Hp a1 u3).bind λv4=>if v4 then(some (.ret true)) else(some (.cont (wI (s2+1))))) else(some (.brk ()))
def Md (a0:A3) (a1:Bh):Option Bool :=
 (Iz (Fy a0 a1) fuel 0).bind λx=>match x with | .inl r=>some r | .inr e5=>Pf e5
theorem Y9 {a0:A3} {a1:Bh} {r:Bool} (h:Md a0 a1=some r):Bt Qx0 202 [.agg (EL.el a0),.agg (EL.el a1)] (·=L7 (.b r)):=by
 unfold Md at h
 refine A1 Tryz.func202 R (nt:=18) R (Nbl R) ?_
 intro w0 S0
 refine csr (Er R R (Er R R (rm 1 R (Ah (Bj (csr (fl Ve Xo R R R R R R (sv R (Ap Se R) (rm 1 R (Ah (cj (Unit) (λb1=>[]) (λb1=>[.box (EL.el a0),.box (EL.el a1)]) (λb1=>Pf b1=some r) (λ_=>R) (λb1 h=>?_) ?_)))))))))))
 ·unfold Pf at h
  refine csr (rm 1 R (Ah (Bq ?_)))
  obtain rfl:=SJ h
  exact dnT R R R R
 ·skip
  refine Bl ?_
  obtain⟨x2,hx2,ho2⟩:=Ae h
  refine lpo (G:=Nat×(Int)) (λg=>[(3,L7 (.lp 1 0)),(8,L7 (SL a0.Keys (eL eU8))),(9,L7 (Ii6 (a0.Keys.length:Int))),(10,L7 (Ii6 g.2))]) (λg=>[.box (EL.el a0),.box (EL.el a1)]) (λg=>Iz (Fy a0 a1) g.1 g.2=some x2) (λg=>g.1) (fuel,0) hx2 ⟨R,R,R,R,trivial⟩ [] R (λ_=>R) ?_
  clear hx2 h
  rintro⟨n2,s2⟩ h
  obtain⟨n2,y2,rfl,h,hk2⟩:=Dj h
  unfold Fy at h
  refine csr (sv R (Bv R R) (Ah (Bj (ccI h R (λh=>?_) (λh=>?_)))))
  ·refine Bf (Ab (Bj (Bl (Bj (Au ?_)))))
   obtain⟨u3,hu3,h⟩:=Ae h
   refine sv R (B4 (f:=(eL eU8)) Se (λ_=>R) R R R R hu3) ?_
   refine sv R (B0 L3 R (.cp _) R) (rm 1 R (Ah (csr (ld Ac4 R R R R (sv R (Az R) ?_)))))
   obtain⟨v4,hv4,h⟩:=Ae h
   refine Bb R Aoi (Ac R (Ac R Ag)) (Ao R) (N0 hv4) (Ah (ccI h R (λh=>?_) (λh=>?_)))
   ·refine csr (rm 1 R (Ah (Bq (Av (Af (Af (Av (Af ?_))))))))
    obtain rfl:=SJ h
    obtain rfl:Sum.inl _=x2:=hk2
    replace ho2:some _=some _:=ho2
    obtain rfl:=zD ho2
    exact dnT R R R R
   ·refine Bf (Ar (Ab (Au (sv R (Bp R R) (rm 1 R (Ah ?_))))))
    obtain rfl:=SJ h
    exact⟨(n2,(wI (s2+1))),_,hk2,⟨R,R,R,R,trivial⟩,R,zG _⟩
  ·refine C3 (As (As (Bi (Ab ?_))))
   obtain rfl:=SJ h
   obtain rfl:_=x2:=hk2
   exact⟨(),_,ho2,trivial,R⟩
def Ib  : Option Unit :=
 some ()
theorem Sy  {r:Unit} (h:Ib=some r):Dw Qx0 203 [] [] (λy m'=>y=.s (.agg [.raw (.func (.func 252) #[] #[]),.raw (.func (.func 253) #[] #[])])/\m'=[]):=by
 unfold Ib at h
 refine Dn Tryz.func203 R (nt:=2) R (Nbl R) ?_
 intro w0 S0 X0 H0
 refine csr (Br R Ayr (Ah (csr (sv R (A2 Ayr A2g (Aq R (Aq R A0)) (.cons _ _ _ _ _ _ _ R R (Nbl R) (.cons _ _ _ _ _ _ _ R R (Nbl R) (.nil _)))) (sst A1n R R R R R (Ah (Bq ?_)))))))
 obtain rfl:=SJ h
 exact⟨Or.inr R,_,[],[.agg [.raw (.func (.func 252) #[] #[]),.raw (.func (.func 253) #[] #[])]],[],(Ad (ra A1o R R R) Aj),R,R,⟨by decide,R⟩,R,R,⟨R,R⟩⟩
def L2 (a0:A3):Option A3 :=
 some ({a0 with Out:=true})
theorem V4 {a0:A3} {r:A3} (h:L2 a0=some r):Bt Qx0 252 [.agg (EL.el a0)] (·=.s (.agg (EL.el r))):=by
 unfold L2 at h
 refine A1 Tryz.func252 R (nt:=5) R (Nbl R) ?_
 intro w0 S0
 refine csr (Er R R (Br R U7 (Ah (csr (sv R (Aa Aj4 R) (sst sz4 R R R R R (Ah (csr (ld J8 R R R R (sst Ub R R R R R (Ah (Bq ?_))))))))))))
 obtain rfl:=SJ h
 exact dnA R J8 R (.lp _ _ _ R) (Nbl R) R R
def Lr (a0:A3):Option A3 :=
 some ({a0 with In:=true})
theorem V8 {a0:A3} {r:A3} (h:Lr a0=some r):Bt Qx0 253 [.agg (EL.el a0)] (·=.s (.agg (EL.el r))):=by
 unfold Lr at h
 refine A1 Tryz.func253 R (nt:=5) R (Nbl R) ?_
 intro w0 S0
 refine csr (Er R R (Br R U7 (Ah (csr (sv R (Aa Ai3 R) (sst sz4 R R R R R (Ah (csr (ld J8 R R R R (sst Ub R R R R R (Ah (Bq ?_))))))))))))
 obtain rfl:=SJ h
 exact dnA R J8 R (.lp _ _ _ R) (Nbl R) R R
def F1 (a0:List A3) (a1:Int) (a2:Int):Option (List A3) :=
 (idx a0 a1).bind λu1=>(L2 u1).bind λv2=>(idx a0 a1).bind λu3=>(idx (a0.set a1.toNat v2) a2).bind λu4=>(Lr u4).bind λv5=>(idx (a0.set a1.toNat v2) a2).bind λu6=>some ((a0.set a1.toNat v2).set a2.toNat v5)
theorem Rc {a0:List A3} {a1:Int} {a2:Int} {r:(List A3)} (h:F1 a0 a1 a2=some r):Dw Qx0 204 [.arr 139 8 0 (a0.flatMap Bc)] [.agg [.raw (.func (.func 252) #[] #[]),.raw (.func (.func 253) #[] #[])],.one (.ls 0 a0.length),.one (Ii6 a1),.one (Ii6 a2)] (λy m'=>y=.tup []/\m'=[.arr 139 8 0 (r.flatMap Bc)]):=by
 unfold F1 at h
 refine Dn Tryz.func204 R (nt:=28) R (Nbl R) ?_
 intro w0 S0 X0 H0
 refine csr (Er R R (Ah (Bj ?_)))
 obtain⟨u1,hu1,h⟩:=Ae h
 obtain⟨v2,hv2,h⟩:=Ae h
 obtain⟨u3,hu3,h⟩:=Ae h
 refine Kb [10] [0,0,0,4,0,0,48,112,252,511,1023] [[.arr 139 8 0 (a0.flatMap Bc),.box [.raw (.func (.func 252) #[] #[]),.raw (.func (.func 253) #[] #[])]],[.arr 139 8 0 ((a0.set a1.toNat v2).flatMap Bc),.box [.raw (.func (.func 252) #[] #[]),.raw (.func (.func 253) #[] #[])]]] (by kernel_rfl) mixed (by kernel_rfl) (by decide) R R R R ?_
 refine ev (A6 0 R R) R R (Az R) (ev (A6 0 R R) R R (Az R) (ev (A6 0 R R) R R (Aa Au3 R) (ev (A6 0 R R) R R (l1 Ax4 R R R) (ev (A6 0 R R) R R (Az R) (ev (A6 0 R R) R R (Az R) ?_)))))
 refine ev (A6 0 rfl rfl) rfl rfl (G8 (f:=Bc) R8 (λ_=>rfl) rfl rfl rfl (by first|rfl|exact List.length_set.symm) rfl hu1) ?_
 refine ev (A6 0 R R) R R (Pt (f:=Bc) (sz:=8) 0 J8 (λ_=>R) R R R R (Jd hu1).2 (Nbl R) R) ?_
 refine ed (A6 0 R R) R R (V5 A1l (.raw _ _ R) (Ac R Ag) R (V4 hv2)) ?_
 refine ev (A6 0 rfl rfl) rfl rfl (G8 (f:=Bc) R8 (λ_=>rfl) rfl rfl rfl (by first|rfl|exact List.length_set.symm) rfl hu3) ?_
 refine ee0 0 R R R R (λζ=>?_) ?_
 ·refine Ab2 (f:=Bc) (u':=v2) (sz:=8) 0 Ub (λ_=>rfl) rfl rfl rfl rfl (by first|rfl|exact List.length_set.symm) rfl rfl (zI.1 rfl) (Jd hu3).2 (Nbl rfl) rfl ?_
  exact U9
 refine Adr (Ab (Zm 1 (y:=L7 (.ls 0 a0.length)) (L7 (.ls 0 (a0.set a1.toNat v2).length)) R (congrArg (λn=>AV.s (.one (.ls 0 n))) List.length_set.symm) ?_))
 refine Zm 8 (y:=L7 (.ls 0 a0.length)) (L7 (.ls 0 (a0.set a1.toNat v2).length)) R (congrArg (λn=>AV.s (.one (.ls 0 n))) List.length_set.symm) ?_
 refine Zm 12 (y:=L7 (.ls 0 a0.length)) (L7 (.ls 0 (a0.set a1.toNat v2).length)) R (congrArg (λn=>AV.s (.one (.ls 0 n))) List.length_set.symm) ?_
 obtain⟨u4,hu4,h⟩:=Ae h
 obtain⟨v5,hv5,h⟩:=Ae h
 obtain⟨u6,hu6,h⟩:=Ae h
 refine Kb [10] [0,0,0,4,0,0,48,112,252,511,1023] [[.arr 139 8 0 ((a0.set a1.toNat v2).flatMap Bc),.box [.raw (.func (.func 252) #[] #[]),.raw (.func (.func 253) #[] #[])]],[.arr 139 8 0 (((a0.set a1.toNat v2).set a2.toNat v5).flatMap Bc),.box [.raw (.func (.func 252) #[] #[]),.raw (.func (.func 253) #[] #[])]]] (by kernel_rfl) mixed (by kernel_rfl) (by decide) R R R R ?_
 refine ev (A6 0 R R) R R (Az R) (ev (A6 0 R R) R R (Az R) (ev (A6 0 R R) R R (Aa Aut R) (ev (A6 0 R R) R R (l1 Ax4 R R R) (ev (A6 0 R R) R R (Az R) (ev (A6 0 R R) R R (Az R) ?_)))))
 refine ev (A6 0 rfl rfl) rfl rfl (G8 (f:=Bc) R8 (λ_=>rfl) rfl rfl rfl (by first|rfl|exact List.length_set.symm) rfl hu4) ?_
 refine ev (A6 0 R R) R R (Pt (f:=Bc) (sz:=8) 0 J8 (λ_=>R) R R R R (Jd hu4).2 (Nbl R) R) ?_
 refine ed (A6 0 R R) R R (V5 A29 (.raw _ _ R) (Ac R Ag) R (V8 hv5)) ?_
 refine ev (A6 0 rfl rfl) rfl rfl (G8 (f:=Bc) R8 (λ_=>rfl) rfl rfl rfl (by first|rfl|exact List.length_set.symm) rfl hu6) ?_
 refine ee0 0 R R R R (λζ=>?_) ?_
 ·refine Ab2 (f:=Bc) (u':=v5) (sz:=8) 0 Ub (λ_=>rfl) rfl rfl rfl rfl (by first|rfl|exact List.length_set.symm) rfl rfl (zI.1 rfl) (Jd hu6).2 (Nbl rfl) rfl ?_
  exact U9
 refine Adr ?_
 obtain rfl:=SJ h
 exact⟨Or.inl R,_,[0],[],[.arr 139 8 0 (((a0.set a1.toNat v2).set a2.toNat v5).flatMap Bc)],Aj,R,R,⟨by decide,R⟩,R,R,⟨R,R⟩⟩
def J7 (a0:A3):Option Bool :=
 if a0.In then(some a0.Out) else(some false)
theorem Rr {a0:A3} {r:Bool} (h:J7 a0=some r):Bt Qx0 205 [.agg (EL.el a0)] (·=L7 (.b r)):=by
 unfold J7 at h
 refine A1 Tryz.func205 R (nt:=9) R (Nbl R) ?_
 intro w0 S0
 refine csr (Er R R (rm 1 R (Ah (csr (fl Ai3 ti4 R R R R R R (rm 1 R (ssI 5 h R (λh=>?_) (λh=>?_))))))))
 ·refine son R R R (sv R (Aa Aj4 R) (son R R R (sv R (l1 ti4 R R R) (rm 2 R (Ah (Bq ?_))))))
  obtain rfl:=SJ h
  exact dnT R R R R
 ·refine rm 4 R (Ah (Bq ?_))
  obtain rfl:=SJ h
  exact dnT R R R R
def L8 (v3:B3×Int) (b5:(List A3)):Option (Be×Int) :=
 some ((Be.mk b5 v3.1),0)
def O8 (v2:Int) (s6:Int×(List A3)) (b8:Unit):Option (LR (Int×(List A3)) ((List A3)) (Be×Int)) :=
 (Ib).bind λv9=>(F1 s6.2 v2 s6.1).bind λv10=>if v10.length=s6.2.length then((idx v10 s6.1).bind λu12=>(J7 u12).bind λv13=>if v13 then(some (.ret (Jg,10))) else(some (.cont ((wI (s6.1+1)),v10)))) else none
def Fp (a2:Bh) (v2:Int) (v4:(List A3)) (s6:Int×(List A3)):Option (LR (Int×(List A3)) ((List A3)) (Be×Int)) :=
 if (decide (s6.1<(v4.length:Int))) then((idx s6.2 s6.1).bind λu7=>if (!decide (u7.State=2)) then(some (.cont ((wI (s6.1+1)),s6.2))) else((idx s6.2 v2).bind λu14=>(Fb u7 u14).bind λv15=>if (!v15) then(some (.cont ((wI (s6.1+1)),s6.2))) else((Md u7 (Bh.mk a2.Lo a2.Hi a2.Open)).bind λv16=>if (!v16) then(some (.cont ((wI (s6.1+1)),s6.2))) else(O8 v2 s6 ())))) else(some (.brk s6.2))
def Gb (a0:Be) (a1:Int) (a2:Bh):Option (Be×Int) :=
 (Lq a0).bind λv1=>if (!v1) then(some (Jg,1)) else((Gf a0 a1).bind λv2=>if (decide (v2<0)) then(some (Jg,7)) else((Ht a0.Reads a1 a2).bind λv3=>if (!decide (v3.2=0)) then(some (Jg,v3.2)) else((Ea a0.Txs).bind λv4=>(Iz (Fp a2 v2 v4) fuel (0,v4)).bind λx=>match x with | .inl r=>some r | .inr e17=>L8 v3 e17)))
theorem Acl {a0:Be} {a1:Int} {a2:Bh} {r:Be×Int} (h:Gb a0 a1 a2=some r):Bt Qx0 136 [.agg (EL.el a0),.one (Ii6 a1),.agg (EL.el a2)] (·=.tup [.agg (EL.el r.1),.one (Ii6 r.2)]):=by
 unfold Gb at h
 refine A1 Tryz.func136 R (nt:=79) R (Nbl R) ?_
 intro w0 S0
 refine csr (Er R R (Er R R (Br R Zq (rm 1 R (Ah (Bj (csr (sv R (lo Sx R R R) ?_))))))))
 obtain⟨v1,hv1,h⟩:=Ae h
 refine Bb R A0y (Ac R Ag) (Ao R) (Q7 hv1) (sv R (Bz R) (Ah (ccI h R (λh=>?_) (λh=>?_))))
 ·refine csr (sv R (A2 Zq Afp A0 (.nil _)) (sst Z6 R R R R R (rm 1 R (Ah (Bq (Af ?_))))))
  obtain rfl:=SJ h
  exact dn (Ad (ra Sx R R R) (Ad (rt R) Aj)) (I8 R) R
 ·refine Bf (Ab (csr (ld Sx R R R R (sv R (Az R) ?_))))
  obtain⟨v2,hv2,h⟩:=Ae h
  refine Bb R Avu (Ac R (Ac R Ag)) (Ao R) (Qr hv2) (rm 1 R (Ah (Bj (csr (rm 1 R (sv R (Bv R R) (Ah (ccI h R (λh=>?_) (λh=>?_)))))))))
  ·refine csr (sv R (A2 Zq Afp A0 (.nil _)) (sst Z6 R R R R R (rm 1 R (Ah (Bq (Af ?_))))))
   obtain rfl:=SJ h
   exact dn (Ad (ra Sx R R R) (Ad (rt R) Aj)) (I8 R) R
  ·refine Bf (Ab (csr (sv R (Aa Vy R) (ld Afg R R R R (rm 1 R (sv R (lo Ac4 R R R) ?_))))))
   obtain⟨v3,hv3,h⟩:=Ae h
   refine Bb R A3j (Ac R (Ac R (Ac R Ag))) (Ao R) (Aa6 hv3) (sv R (Cf R) (sv R (Ak R R) (sv R (Ak R R) (Br R As2 (sst Auj R R R R R (rm 1 R (Ah (Bj (csr (rm 1 R (sv R (Cc R R) (Ah (ccI h R (λh=>?_) (λh=>?_))))))))))))))
   ·refine csr (sv R (A2 Zq Afp A0 (.nil _)) (rm 1 R (sst Z6 R R R R R (rm 1 R (Ah (Bq (Af ?_)))))))
    obtain rfl:=SJ h
    exact dn (Ad (ra Sx R R R) (Ad (rt R) Aj)) (I8 R) R
   ·refine Bf (Ab (csr (sv R (Aa Oy R) (sv R (l1 Abz R R R) ?_))))
    obtain⟨v4,hv4,h⟩:=Ae h
    refine I0 (x':=L7 (.ls 4 v4.length)) (M':=[.box (EL.el a0),.box (EL.el a2),.box [Znl,Znl],.box [SL v3.1.L Ax],.arr 139 8 0 (v4.flatMap Bc)]) [] R Ayu (.func _) (Ac R Ag) (R2 hv4) R R (by decide) R R R ?_
    refine rm 1 R (Ah (Bj (csr (rm 1 R (sv R (H6 R8 R R (Aw (f:=Bc) (λ_=>R) _).symm) ?_)))))
    refine rm 1 R (Ah (cj ((List A3)) (λb5=>[(6,L7 (.lp 2 0)),(9,L7 (.lp 3 0)),(11,L7 (.ls 4 b5.length))]) (λb5=>[.box (EL.el a0),.box (EL.el a2),.box [Znl,Znl],.box [SL v3.1.L Ax],.arr 139 8 0 (b5.flatMap Bc)]) (λb5=>L8 v3 b5=some r) (λ_=>R) (λb5 h=>?_) ?_))
    ·unfold L8 at h
     refine csr (rm 1 R (ld Afg R R R R (sv R (A2 Zq Afp (Aq R (Aq R A0)) (.cons _ _ _ _ _ _ _ R R (Nbl R) (.cons _ _ _ _ _ _ _ R R (Nbl R) (.nil _)))) (sst Z6 R R R R R (rm 1 R (Ah (Bq ?_)))))))
     obtain rfl:=SJ h
     refine⟨Or.inr R,_,_,_,(Ad (ra Sx R R R) (Ad (rt R) Aj)),(by(repeat' first|exact Ho.nil _|apply Ho.cons|apply Hl.one|apply Hl.agg|exact C5.nil|exact C5.ls _ _ _ _ _ _ R (Aw (f:=Bc) (λ_=>R) _).symm|exact C5.id _ R|exact Cv.nil _|apply Cv.cons)),?_⟩
     rfl
    ·skip
     refine Bl ?_
     obtain⟨x6,hx6,ho6⟩:=Ae h
     refine lpo (G:=Nat×(Int×(List A3))) (λg=>[(5,L7 (.lp 1 0)),(6,L7 (.lp 2 0)),(8,L7 (Ii6 v2)),(9,L7 (.lp 3 0)),(11,L7 (.ls 4 g.2.2.length)),(39,L7 (.ls 4 g.2.2.length)),(40,L7 (Ii6 (v4.length:Int))),(41,L7 (Ii6 g.2.1))]) (λg=>[.box (EL.el a0),.box (EL.el a2),.box [Znl,Znl],.box [SL v3.1.L Ax],.arr 139 8 0 (g.2.2.flatMap Bc)]) (λg=>Iz (Fp a2 v2 v4) g.1 g.2=some x6) (λg=>g.1) (fuel,(0,v4)) hx6 ⟨R,R,R,R,R,R,R,R,trivial⟩ [] R (λ_=>R) ?_
     clear hx6 h
     rintro⟨n6,s6⟩ h
     obtain⟨n6,y6,rfl,h,hk6⟩:=Dj h
     unfold Fp at h
     refine csr (sv R (Bv R R) (Ah (Bj (ccI h R (λh=>?_) (λh=>?_)))))
     ·refine Bf (Ab (Bj (Bl (csr (sv R (Az R) ?_)))))
      obtain⟨u7,hu7,h⟩:=Ae h
      refine sv R (G8 (f:=Bc) R8 (λ_=>R) R R R R R hu7) ?_
      refine sv R (Pt (f:=Bc) (sz:=8) 0 J8 (λ_=>R) R R R R (Jd hu7).2 (Nbl R) R) ?_
      refine Br R U7 (rm 1 R (sst Ub R R R R R (Ah (Bj (Bj (cj3 (Unit) (λb8=>[(5,L7 (.lp 1 0)),(6,L7 (.lp 2 0)),(8,L7 (Ii6 v2)),(9,L7 (.lp 3 0)),(11,L7 (.ls 4 s6.2.length)),(12,L7 (Ii6 s6.1)),(39,L7 (.ls 4 s6.2.length)),(40,L7 (Ii6 (v4.length:Int))),(41,L7 (Ii6 s6.1))]) (λb8=>[.box (EL.el a0),.box (EL.el a2),.box [Znl,Znl],.box [SL v3.1.L Ax],.arr 139 8 0 (s6.2.flatMap Bc),.box (EL.el u7)]) (λb8=>O8 v2 s6 b8=some y6) (λ_=>R) (λb8 h=>?_) ?_))))))
      ·unfold O8 at h
       refine Bj (Au ?_)
       obtain⟨v9,hv9,h⟩:=Ae h
       refine I0 (x':=.s (.agg [.raw (.func (.func 252) #[] #[]),.raw (.func (.func 253) #[] #[])])) (M':=[.box (EL.el a0),.box (EL.el a2),.box [Znl,Znl],.box [SL v3.1.L Ax],.arr 139 8 0 (s6.2.flatMap Bc),.box (EL.el u7)]) [] R Ay4 (.func _) Ag (Sy hv9) R R (by decide) R R R ?_
       refine rm 2 R (sv R (Az R) ?_)
       obtain⟨v10,hv10,h⟩:=Ae h
       refine I0 (x':=.tup []) (M':=[.box (EL.el a0),.box (EL.el a2),.box [Znl,Znl],.box [SL v3.1.L Ax],.arr 139 8 0 (v10.flatMap Bc),.box (EL.el u7)]) [4] R A0e (.func _) (Ac R (Ac R (Ac R (Ac R Ag)))) (Rc hv10) R R (by decide) R R R ?_
       obtain⟨hl11,h⟩:=Cs h
       refine Nn 11 (y:=L7 (.ls 4 s6.2.length)) (L7 (.ls 4 v10.length)) R (congrArg (λn=>AV.s (.one (.ls 4 n))) hl11.symm) ?_
       refine Nn 39 (y:=L7 (.ls 4 s6.2.length)) (L7 (.ls 4 v10.length)) R (congrArg (λn=>AV.s (.one (.ls 4 n))) hl11.symm) ?_
       refine Nn 65 (y:=L7 (.ls 4 s6.2.length)) (L7 (.ls 4 v10.length)) R (congrArg (λn=>AV.s (.one (.ls 4 n))) hl11.symm) ?_
       refine Ah (csr (rm 1 R (sv R (Az R) ?_)))
       obtain⟨u12,hu12,h⟩:=Ae h
       refine sv R (G8 (f:=Bc) R8 (λ_=>R) R R R R R hu12) ?_
       refine sv R (Pt (f:=Bc) (sz:=8) 0 J8 (λ_=>R) R R R R (Jd hu12).2 (Nbl R) R) ?_
       obtain⟨v13,hv13,h⟩:=Ae h
       refine Bb R Awd (Ac R Ag) (Ao R) (Rr hv13) (Ah (ccI h R (λh=>?_) (λh=>?_)))
       ·refine csr (sv R (A2 Zq Afp A0 (.nil _)) (sst Z6 R R R R R (rm 1 R (Ah (Bq (Av (Af (Af (Av (Af ?_))))))))))
        obtain rfl:=SJ h
        obtain rfl:Sum.inl _=x6:=hk6
        replace ho6:some _=some _:=ho6
        obtain rfl:=zD ho6
        exact dn (Ad (ra Sx R R R) (Ad (rt R) Aj)) (I8 R) R
       ·refine Bf (Ar (Ab (Au (sv R (Bp R R) (rm 1 R (Ah ?_))))))
        obtain rfl:=SJ h
        exact⟨(n6,((wI (s6.1+1)),v10)),_,hk6,⟨R,R,R,R,R,R,R,R,trivial⟩,R,zG _⟩
      ·skip
       refine Ue mixed (by kernel_rfl) ?_
       refine dv R (Aa Qb R) (dv R (l1 ti3 R R R) (dv R (Cc R R) (dv R (Az R) (Qd 49 R (λhc=>?_) (λhc=>?_)))))
       ·replace h:=Q5 hc h
        clear hc
        refine C0 R R R R (C0 R R R R (C0 R R R R (C0 R R R R (C0 R R R R (C0 R R R R (C0 R R R R (dv R (Ch R R) (dv R (Az R) (C0 R R R R (C0 R R R R (C0 R R R R (C0 R R R R (dv R (Ch R R) (U8 (Ab (Ce R (λ_=>?_) (λhx=>Bool.noConfusion hx)))))))))))))))))
        refine C3 (As (Bi (Ab (Au (sv R (Bp R R) (rm 1 R (Ah ?_)))))))
        obtain rfl:=SJ h
        exact⟨(n6,((wI (s6.1+1)),s6.2)),_,hk6,⟨R,R,R,R,R,R,R,R,trivial⟩,R,zG _⟩
       ·replace h:=Qy hc h
        clear hc
        refine dvg R R R (lo J8 R R R) (dvg R R R (Az R) (dvg R R R (Az R) ?_))
        obtain⟨u14,hu14,h⟩:=Ae h
        refine dvg R R R (G8 (f:=Bc) R8 (λ_=>R) R R R R R hu14) ?_
        refine dvg R R R (Pt (f:=Bc) (sz:=8) 0 J8 (λ_=>R) R R R R (Jd hu14).2 (Nbl R) R) ?_
        obtain⟨v15,hv15,h⟩:=Ae h
        refine ddg R R R (Cm Avf (Ac R (Ac R Ag)) R (Qq hv15)) (dvg R R R (Bz R) (dv R (Cl R R) (dv R (Az R) (Qd 58 R (λhc=>?_) (λhc=>?_)))))
        ·replace h:=Q5 hc h
         clear hc
         refine C0 R R R R (C0 R R R R (C0 R R R R (C0 R R R R (dv R (Ch R R) (U8 (Ab (Ce R (λ_=>?_) (λhx=>Bool.noConfusion hx))))))))
         refine C3 (As (Bi (Ab (Au (sv R (Bp R R) (rm 1 R (Ah ?_)))))))
         obtain rfl:=SJ h
         exact⟨(n6,((wI (s6.1+1)),s6.2)),_,hk6,⟨R,R,R,R,R,R,R,R,trivial⟩,R,zG _⟩
        ·replace h:=Qy hc h
         clear hc
         refine dvg R R R (lo J8 R R R) (dvg R R R (lo Ac4 R R R) ?_)
         obtain⟨v16,hv16,h⟩:=Ae h
         refine ddg R R R (Cm A3f (Ac R (Ac R Ag)) R (Y9 hv16)) (dvg R R R (Bz R) (dv R (Cl R R) (U8 (Ab (ccI h R (λh=>?_) (λh=>?_))))))
         ·refine C3 (As (Bi (Ab (Au (sv R (Bp R R) (rm 1 R (Ah ?_)))))))
          obtain rfl:=SJ h
          exact⟨(n6,((wI (s6.1+1)),s6.2)),_,hk6,⟨R,R,R,R,R,R,R,R,trivial⟩,R,zG _⟩
         ·refine Bf (Ab ?_)
          exact⟨(),_,h,⟨R,R,R,R,R,R,R,R,R,trivial⟩,R⟩
     ·refine C3 (As (As (Bi (Ab ?_))))
      obtain rfl:=SJ h
      obtain rfl:_=x6:=hk6
      exact⟨s6.2,_,ho6,⟨R,R,R,trivial⟩,R⟩
def Lp (a0:Ai) (a1:Bg) (a2:Bh):Option (Ai×Int) :=
 (Gb a0.Cert a1.ID a2).bind λv1=>if (!decide (v1.2=0)) then((C9 a0 a1).bind λv2=>some (v2,v1.2)) else(some ({a0 with Cert:=v1.1},0))
theorem Xl {a0:Ai} {a1:Bg} {a2:Bh} {r:Ai×Int} (h:Lp a0 a1 a2=some r):Bt Qx0 64 [.agg (EL.el a0),.agg (EL.el a1),.agg (EL.el a2)] (·=.tup [.agg (EL.el r.1),.one (Ii6 r.2)]):=by
 unfold Lp at h
 refine A1 Tryz.func64 R (nt:=28) R (Nbl R) ?_
 intro w0 S0
 refine csr (Er R R (Er R R (Er R R (Br R Tg (rm 1 R (Ah (csr (sv R (Aa R7 R) (ld Sx R R R R (fl Tv ti3 R R R R R R (sv R (lo Ac4 R R R) ?_)))))))))))
 obtain⟨v1,hv1,h⟩:=Ae h
 refine Bb R A3e (Ac R (Ac R (Ac R Ag))) (Ao R) (Acl hv1) (sv R (Cf R) (sv R (Ak R R) (sv R (Ak R R) (Br R Zq (sst Z6 R R R R R (rm 1 R (Ah (Bj (csr (rm 1 R (sv R (Cc R R) (Ah (ccI h R (λh=>?_) (λh=>?_))))))))))))))
 ·refine csr (ld Dq R R R R (sv R (lo Zc R R R) ?_))
  obtain⟨v2,hv2,h⟩:=Ae h
  refine Bb R Aw7 (Ac R (Ac R Ag)) (Ao R) (I4 hv2) (rm 1 R (sst Kn R R R R R (rm 1 R (Ah (Bq (Af ?_))))))
  obtain rfl:=SJ h
  exact dn (Ad (ra Dq R R R) (Ad (rt R) Aj)) (Ao R) R
 ·refine Bf (Ab (csr (ld Sx R R R R (sv R (Aa R7 R) (sst Z6 R R R R R (Ah (csr (ld Dq R R R R (sst Kn R R R R R (rm 1 R (Ah (Bq ?_))))))))))))
  obtain rfl:=SJ h
  exact dn (Ad (ra Dq R R R) (Ad (rt R) Aj)) (Ao R) R
def Eg (a0:List UInt8) (a1:List UInt8):Option Bool :=
 (Jp a1 a0).bind λv1=>some (decide (0<=v1))
theorem Pj {a0:List UInt8} {a1:List UInt8} {r:Bool} (h:Eg a0 a1=some r):Bt Qx0 148 [.one (SL a0 eU8),.one (SL a1 eU8)] (·=L7 (.b r)):=by
 unfold Eg at h
 refine A1 Tryz.func148 R (nt:=9) R (Nbl R) ?_
 intro w0 S0
 refine csr (rm 1 R (Ah (csr (rm 1 R (sv R (Az R) ?_)))))
 obtain⟨v1,hv1,h⟩:=Ae h
 refine Bb R Ao7 (Ac R (Ac R Ag)) (Ao R) (Ns hv1) (sv R (Ii R R) (rm 1 R (Ah (Bq ?_))))
 obtain rfl:=SJ h
 exact dnT R R R R
def F8 (b1:Unit):Option Int :=
 some (-1)
def En (a0:List (List UInt8)) (a1:List UInt8) (s2:Int):Option (LR (Int) (Unit) (Int)) :=
 if (decide (s2<(a0.length:Int))) then((idx a0 s2).bind λu3=>(Eg a1 u3).bind λv4=>if v4 then(some (.ret s2)) else(some (.cont (wI (s2+1))))) else(some (.brk ()))
def Iv (a0:List (List UInt8)) (a1:List UInt8):Option Int :=
 (Iz (En a0 a1) fuel 0).bind λx=>match x with | .inl r=>some r | .inr e5=>F8 e5
theorem Ut {a0:List (List UInt8)} {a1:List UInt8} {r:Int} (h:Iv a0 a1=some r):Bt Qx0 147 [.one (SL a0 (eL eU8)),.one (.fn 148 [SL a1 eU8] [])] (·=L7 (Ii6 r)):=by
 unfold Iv at h
 refine A1 Tryz.func147 R (nt:=19) R (Nbl R) ?_
 intro w0 S0
 refine csr (rm 1 R (Ah (Bj (csr (rm 1 R (sv R (Ap Se R) (rm 1 R (Ah (cj (Unit) (λb1=>[]) (λb1=>[]) (λb1=>F8 b1=some r) (λ_=>R) (λb1 h=>?_) ?_)))))))))
 ·unfold F8 at h
  refine csr (rm 1 R (Ah (Bq ?_)))
  obtain rfl:=SJ h
  exact dnT R R R R
 ·skip
  refine Bl ?_
  obtain⟨x2,hx2,ho2⟩:=Ae h
  refine lpo (G:=Nat×(Int)) (λg=>[(0,L7 (SL a0 (eL eU8))),(1,L7 (.fn 148 [SL a1 eU8] [])),(7,L7 (Ii6 (a0.length:Int))),(8,L7 (Ii6 g.2))]) (λg=>[]) (λg=>Iz (En a0 a1) g.1 g.2=some x2) (λg=>g.1) (fuel,0) hx2 ⟨R,R,R,R,trivial⟩ [] R (λ_=>R) ?_
  clear hx2 h
  rintro⟨n2,s2⟩ h
  obtain⟨n2,y2,rfl,h,hk2⟩:=Dj h
  unfold En at h
  refine csr (sv R (Bv R R) (Ah (Bj (ccI h R (λh=>?_) (λh=>?_)))))
  ·refine Bf (Ab (Bj (Bl (csr (rm 2 R (Ah (csr (rm 2 R (sv R (Az R) ?_)))))))))
   obtain⟨u3,hu3,h⟩:=Ae h
   refine sv R (B4 (f:=(eL eU8)) Se (λ_=>R) R R R R hu3) ?_
   refine sv R (B0 L3 R (.cp _) R) ?_
   obtain⟨v4,hv4,h⟩:=Ae h
   refine sd R (V5 Ayo (.fn _ _ _ _ R) (Ac R Ag) R (Pj hv4)) (Ah (ccI h R (λh=>?_) (λh=>?_)))
   ·refine csr (rm 2 R (Ah (Bq (Av (Af (Af (Av (Af ?_))))))))
    obtain rfl:=SJ h
    obtain rfl:Sum.inl _=x2:=hk2
    replace ho2:some _=some _:=ho2
    obtain rfl:=zD ho2
    exact dnT R R R R
   ·refine Bf (Ar (Ab (Au (sv R (Bp R R) (rm 1 R (Ah ?_))))))
    obtain rfl:=SJ h
    exact⟨(n2,(wI (s2+1))),_,hk2,⟨R,R,R,R,trivial⟩,R,zG _⟩
  ·refine C3 (As (As (Bi (Ab ?_))))
   obtain rfl:=SJ h
   obtain rfl:_=x2:=hk2
   exact⟨(),_,ho2,trivial,R⟩
def Ly (a0:List (List UInt8)) (a1:List UInt8):Option (Int×Bool) :=
 (Iv a0 a1).bind λv1=>if (decide (v1<0)) then(some ((a0.length:Int),false)) else((idx a0 v1).bind λu2=>(Fs u2 a1).bind λv3=>some (v1,v3))
theorem Sz {a0:List (List UInt8)} {a1:List UInt8} {r:Int×Bool} (h:Ly a0 a1=some r):Bt Qx0 69 [.one (SL a0 (eL eU8)),.one (SL a1 eU8)] (·=.tup [.one (Ii6 r.1),.one (.b r.2)]):=by
 unfold Ly at h
 refine A1 Tryz.func69 R (nt:=22) R (Nbl R) ?_
 intro w0 S0
 refine csr (rm 2 R (Ah (csr (rm 2 R (sv R (Wi (Xv R R Sn) Sn) ?_)))))
 obtain⟨v1,hv1,h⟩:=Ae h
 refine sd R (V5 Ayg (.func _) (Ac R (Ac R Ag)) R (Ut hv1)) (rm 1 R (Ah (Bj (csr (rm 1 R (sv R (Bv R R) (Ah (ccI h R (λh=>?_) (λh=>?_)))))))))
 ·refine csr (rm 1 R (sv R (Ap Se R) (rm 2 R (Ah (Bq (Af ?_))))))
  obtain rfl:=SJ h
  exact dn (Ad (rt R) (Ad (rt R) Aj)) (Ao R) R
 ·refine Bf (Ab (csr (rm 2 R (sv R (Az R) ?_))))
  obtain⟨u2,hu2,h⟩:=Ae h
  refine sv R (B4 (f:=(eL eU8)) Se (λ_=>R) R R R R hu2) ?_
  refine sv R (B0 L3 R (.cp _) R) (sv R (Az R) ?_)
  obtain⟨v3,hv3,h⟩:=Ae h
  refine Bb R Awf (Ac R (Ac R Ag)) (Ao R) (Pw hv3) (rm 2 R (Ah (Bq ?_)))
  obtain rfl:=SJ h
  exact dn (Ad (rt R) (Ad (rt R) Aj)) (Ao R) R
def Jc (a1:Int) (s1:Int) (x1:Int×A8):Option ((Int) ⊕ (Nat×(Int))) :=
 if (decide (x1.2.Ts<=a1)) then(some (.inr (0,x1.1))) else(some (.inl s1))
def M1 (s2:Int):Option Int :=
 some (-1)
def Mr (s3:Int):Option Int :=
 some s3
def Kw (a0:Am) (a1:Int):Option Int :=
 (Amg a0).bind λL1=>(Tj (Jc a1) L1 0).bind λe=>Ag2 M1 Mr (λ_ _=>none) e
theorem Uf {a0:Am} {a1:Int} {r:Int} (h:Kw a0 a1=some r):Bt Qx0 218 [.agg [SL a0.L A9],.one (Ii6 a1)] (·=L7 (Ii6 r)):=by
 unfold Kw at h
 refine Zi Tryz.func218 R (nt:=16) R (Nbl R) ?_
 intro w0 S0
 refine Adl (Kc R (λw0 S0 X0 m0 H0=>?_))
 refine Aof R R R (Aof R R R (Br R zi3 (Ah (Adl (Adl (Kc R (λw0 S0 X0 m0 H0=>?_)))))))
 refine sv R (Bs (ys:=[SL a0.L A9]) Qo R (.cp _) R R) (Bb R Awg (Ac R Ag) (Ao R) M9 (Ah (Aeb ?_)))
 obtain⟨L1,hL1,h⟩:=Ae h
 obtain⟨e1,he1,h⟩:=Ae h
 refine Ajr (Jc a1) L1 (λx1=>.one (Ii6 x1.1)) (λx1=>.agg (EL.el x1.2)) (λs1=>[.box [Ii6 s1]]) 0 he1 R Aw1 R (Aje hL1) R R R (λ_=>R) (λ_=>Uz R) ?_ ?_ ?_ ?_
 ·clear h
  intro x1 s1 y1 l h w0 S0 X0 H0
  unfold Jc at h
  refine Adl (Kc R (λw0 S0 X0 m0 H0=>?_))
  refine rm 1 R (Ah (Kc R (λw0 S0 X0 m0 H0=>?_)))
  refine Br R Afv (sst Ajl R R R R R (Ah (λw0 S0 X0 H0=>?_)))
  refine Aeb (Adl (Kc R (λw0 S0 X0 m0 H0=>?_)))
  refine fl Wm ti3 R R R R R R (sv R (B0 ti3 R (.cp _) R) (sv R (Dk R R) (Ah (Auy R (λhc=>?_) (λhc=>?_)))))
  ·replace h:=Q5 hc h
   clear hc
   refine Adl (Kc R (λw0 S0 X0 m0 H0=>?_))
   refine rm 1 R (sst sz3 R R R R R (Ah (Awh (Av ?_))))
   obtain rfl:=SJ h
   exact⟨x1.1,_,R,R⟩
  ·replace h:=Qy hc h
   clear hc
   refine Ayd (Ar ?_)
   obtain rfl:=SJ h
   exact⟨s1,_,R,R⟩
 ·intro s2 hs
  obtain rfl:=hs
  replace h:M1 s2=some r:=h
  unfold M1 at h
  refine Ar (Ab (Adl (Kc R (λw0 S0 X0 m0 H0=>?_))))
  refine sst sz3 R R R R R (Ah (Awh ?_))
  obtain rfl:=SJ h
  exact dn (Ad (Ak5.one _ _ _ _ _ ti3 R (.lp _ _ _ R) R) Aj) (Ao R) R
 ·intro s3 hs
  obtain rfl:=hs
  replace h:Mr s3=some r:=h
  unfold Mr at h
  refine Av (Af ?_)
  obtain rfl:=SJ h
  exact dn (Ad (Ak5.one _ _ _ _ _ ti3 R (.lp _ _ _ R) R) Aj) (Ao R) R
 ·intro id s hs
  obtain rfl:=hs
  replace h:none=some r:=h
  cases h
def Ga (a0:Am) (a1:Int):Option (A8×Bool) :=
 (Kw a0 a1).bind λv1=>if (decide (v1<0)) then(some ((A8.mk 0 ([]:List UInt8) false),false)) else((idx a0.L v1).bind λu2=>some (u2,true))
theorem Acz {a0:Am} {a1:Int} {r:A8×Bool} (h:Ga a0 a1=some r):Bt Qx0 149 [.agg [SL a0.L A9],.one (Ii6 a1)] (·=.tup [.agg (EL.el r.1),.one (.b r.2)]):=by
 unfold Ga at h
 refine A1 Tryz.func149 R (nt:=18) R (Nbl R) ?_
 intro w0 S0
 refine csr (Er R R (Br R Afv (rm 1 R (Ah (csr (ld Qo R R R R (sv R (Az R) ?_)))))))
 obtain⟨v1,hv1,h⟩:=Ae h
 refine Bb R Az1 (Ac R (Ac R Ag)) (Ao R) (Uf hv1) (rm 1 R (Ah (Bj (csr (rm 1 R (sv R (Bv R R) (Ah (ccI h R (λh=>?_) (λh=>?_)))))))))
 ·refine csr (sv R (A2 Afv Ayz A0 (.nil _)) (sst Ajl R R R R R (rm 1 R (Ah (Bq (Af ?_))))))
  obtain rfl:=SJ h
  exact dn (Ad (ra Ah3 R R R) (Ad (rt R) Aj)) (I8 R) R
 ·refine Bf (Ab (csr (fl T5 Aa8 R R R R R R (sv R (Az R) ?_))))
  obtain⟨u2,hu2,h⟩:=Ae h
  refine sv R (B4 (f:=A9) W8 (λ_=>R) R R R R hu2) ?_
  refine sv R (Bs (ys:=[Ii6 u2.Ts,SL u2.Val eU8,.b u2.Del]) Ah3 R (.cp _) R R) (sst Ajl R R R R R (rm 1 R (Ah (Bq ?_))))
  obtain rfl:=SJ h
  exact dn (Ad (ra Ah3 R R R) (Ad (rt R) Aj)) (Ao R) R
def Mo (v1:A8×Bool) (b2:Unit):Option ((List UInt8)×Bool) :=
 some (v1.1.Val,true)
def Ih (a0:Am) (a1:Int):Option ((List UInt8)×Bool) :=
 (Ga a0 a1).bind λv1=>if (!v1.2) then(some (([]:List UInt8),false)) else(if v1.1.Del then(some (([]:List UInt8),false)) else(Mo v1 ()))
theorem Ui {a0:Am} {a1:Int} {r:(List UInt8)×Bool} (h:Ih a0 a1=some r):Bt Qx0 70 [.agg [SL a0.L A9],.one (Ii6 a1)] (·=.tup [.one (SL r.1 eU8),.one (.b r.2)]):=by
 unfold Ih at h
 refine A1 Tryz.func70 R (nt:=22) R (Nbl R) ?_
 intro w0 S0
 refine csr (Er R R (rm 2 R (Ah (csr (ld Qo R R R R (sv R (Az R) ?_))))))
 obtain⟨v1,hv1,h⟩:=Ae h
 refine Bb R A1m (Ac R (Ac R Ag)) (Ao R) (Acz hv1) (sv R (Cf R) (sv R (Ak R R) (sv R (Ak R R) (Br R Afv (sst Ajl R R R R R (rm 1 R (Ah (Bj (Bj (cj3 (Unit) (λb2=>[(6,L7 (.lp 1 0))]) (λb2=>[.box [SL a0.L A9],.box (EL.el v1.1)]) (λb2=>Mo v1 b2=some r) (λ_=>R) (λb2 h=>?_) ?_))))))))))
 ·unfold Mo at h
  refine csr (fl Aej L3 R R R R R R (rm 2 R (Ah (Bq ?_))))
  obtain rfl:=SJ h
  exact dn (Ad (rt R) (Ad (rt R) Aj)) (Ao R) R
 ·skip
  refine Au (rm 1 R (sv R (Bz R) (rm 1 R (ssI 16 h R (λh=>?_) (λh=>?_)))))
  ·refine rm 3 R (Ah (Ce R (λ_=>?_) (λhx=>Bool.noConfusion hx)))
   refine csr (rm 2 R (Ah (Bq (Af ?_))))
   obtain rfl:=SJ h
   exact dn (Ad (rt R) (Ad (rt R) Aj)) (I8 R) R
  ·refine son R R R (sv R (Aa Aek R) (son R R R (sv R (l1 ti4 R R R) (rm 1 R (Ah (ccI h R (λh=>?_) (λh=>?_)))))))
   ·refine csr (rm 2 R (Ah (Bq (Af ?_))))
    obtain rfl:=SJ h
    exact dn (Ad (rt R) (Ad (rt R) Aj)) (I8 R) R
   ·refine Bf (Ab ?_)
    exact⟨(),_,h,⟨R,trivial⟩,R⟩
def O7 (a0:B2) (a2:Int) (v1:Int×Bool) (b2:Unit):Option ((List UInt8)×Bool) :=
 (idx a0.Chains v1.1).bind λu3=>(Ih u3 a2).bind λv4=>some (v4.1,v4.2)
def L0 (a0:B2) (a1:List UInt8) (a2:Int):Option ((List UInt8)×Bool) :=
 (Ly a0.Keys a1).bind λv1=>if (!v1.2) then(some (([]:List UInt8),false)) else((Dh a0).bind λv5=>if (!v5) then(some (([]:List UInt8),false)) else(O7 a0 a2 v1 ()))
theorem Ab0 {a0:B2} {a1:List UInt8} {a2:Int} {r:(List UInt8)×Bool} (h:L0 a0 a1 a2=some r):Bt Qx0 28 [.agg (EL.el a0),.one (SL a1 eU8),.one (Ii6 a2)] (·=.tup [.one (SL r.1 eU8),.one (.b r.2)]):=by
 unfold L0 at h
 refine A1 Tryz.func28 R (nt:=33) R (Nbl R) ?_
 intro w0 S0
 refine csr (Er R R (rm 2 R (Ah (csr (fl R9 Xo R R R R R R (sv R (Az R) ?_))))))
 obtain⟨v1,hv1,h⟩:=Ae h
 refine Bb R A03 (Ac R (Ac R Ag)) (Ao R) (Sz hv1) (sv R (Cf R) (sv R (Ak R R) (sv R (Ak R R) (rm 2 R (Ah (Bj (Bj (cj3 (Unit) (λb2=>[(2,L7 (Ii6 a2)),(3,L7 (.lp 0 0)),(8,L7 (Ii6 v1.1))]) (λb2=>[.box (EL.el a0)]) (λb2=>O7 a0 a2 v1 b2=some r) (λ_=>R) (λb2 h=>?_) ?_))))))))
 ·unfold O7 at h
  refine csr (fl Qp Aig R R R R R R (sv R (Az R) ?_))
  obtain⟨u3,hu3,h⟩:=Ae h
  refine sv R (B4 (f:=Ay) Am3 (λ_=>R) R R R R hu3) ?_
  refine sv R (Bs (ys:=[SL u3.L A9]) Qo R (.cp _) R R) (sv R (Az R) ?_)
  obtain⟨v4,hv4,h⟩:=Ae h
  refine Bb R A4l (Ac R (Ac R Ag)) (Ao R) (Ui hv4) (sv R (Ak R R) (sv R (Ak R R) (rm 2 R (Ah (Bq ?_)))))
  obtain rfl:=SJ h
  exact dn (Ad (rt R) (Ad (rt R) Aj)) (Ao R) R
 ·skip
  refine Au (rm 1 R (sv R (Bz R) (rm 1 R (ssI 19 h R (λh=>?_) (λh=>?_)))))
  ·refine rm 4 R (Ah (Ce R (λ_=>?_) (λhx=>Bool.noConfusion hx)))
   refine csr (rm 2 R (Ah (Bq (Af ?_))))
   obtain rfl:=SJ h
   exact dn (Ad (rt R) (Ad (rt R) Aj)) (I8 R) R
  ·refine son R R R (ld Yw R R R R (son R R R ?_))
   obtain⟨v5,hv5,h⟩:=Ae h
   refine Bb R Ax7 (Ac R Ag) (Ao R) (L9 hv5) (son R R R (sv R (Bz R) (rm 1 R (Ah (ccI h R (λh=>?_) (λh=>?_))))))
   ·refine csr (rm 2 R (Ah (Bq (Af ?_))))
    obtain rfl:=SJ h
    exact dn (Ad (rt R) (Ad (rt R) Aj)) (I8 R) R
   ·refine Bf (Ab ?_)
    exact⟨(),_,h,⟨R,R,R,trivial⟩,R⟩
def Pg (a0:Ai) (a1:Int) (a2:List UInt8):Option (Ai×(List UInt8)×Bool×Int) :=
 (Hu a0 a1).bind λv1=>if (!decide (v1.2=0)) then((Dx a0 v1.2).bind λv2=>some (v2,([]:List UInt8),false,v1.2)) else((Fa a2).bind λv3=>if (!v3) then(some (a0,([]:List UInt8),false,1)) else((O3 v1.1.Buf a2).bind λv4=>if v4.2 then(some (a0,v4.1.Val,(!v4.1.Del),0)) else((Rk a2).bind λv5=>(Lp a0 v1.1 v5).bind λv6=>if (!decide (v6.2=0)) then(some (v6.1,([]:List UInt8),false,v6.2)) else((L0 v6.1.Store a2 v1.1.Snap).bind λv7=>some (v6.1,v7.1,v7.2,0)))))
theorem U6 {a0:Ai} {a1:Int} {a2:List UInt8} {r:Ai×(List UInt8)×Bool×Int} (h:Pg a0 a1 a2=some r):Bt Qx0 24 [.agg (EL.el a0),.one (Ii6 a1),.one (SL a2 eU8)] (·=.tup [.agg (EL.el r.1),.one (SL r.2.1 eU8),.one (.b r.2.2.1),.one (Ii6 r.2.2.2)]):=by
 unfold Pg at h
 refine A1 Tryz.func24 R (nt:=70) R (Nbl R) ?_
 intro w0 S0
 refine csr (Er R R (Br R Tg (rm 3 R (Ah (csr (ld Dq R R R R (sv R (Az R) ?_)))))))
 obtain⟨v1,hv1,h⟩:=Ae h
 refine Bb R Axw (Ac R (Ac R Ag)) (Ao R) (O4 hv1) (sv R (Cf R) (sv R (Ak R R) (sv R (Ak R R) (Br R Ad7 (sst Adv R R R R R (rm 1 R (Ah (Bj (csr (rm 1 R (sv R (Cc R R) (Ah (ccI h R (λh=>?_) (λh=>?_))))))))))))))
 ·refine csr (ld Dq R R R R (sv R (Az R) ?_))
  obtain⟨v2,hv2,h⟩:=Ae h
  refine Bb R Awb (Ac R (Ac R Ag)) (Ao R) (J9 hv2) (rm 1 R (sst Kn R R R R R (rm 3 R (Ah (Bq (Af ?_))))))
  obtain rfl:=SJ h
  exact dn (Ad (ra Dq R R R) (Ad (rt R) (Ad (rt R) (Ad (rt R) Aj)))) (I8 R) R
 ·refine Bf (Ab (Bj (csr (sv R (Az R) ?_))))
  obtain⟨v3,hv3,h⟩:=Ae h
  refine Bb R A01 (Ac R Ag) (Ao R) (Pz hv3) (sv R (Bz R) (Ah (ccI h R (λh=>?_) (λh=>?_))))
  ·refine csr (ld Dq R R R R (sst Kn R R R R R (rm 3 R (Ah (Bq (Af ?_))))))
   obtain rfl:=SJ h
   exact dn (Ad (ra Dq R R R) (Ad (rt R) (Ad (rt R) (Ad (rt R) Aj)))) (I8 R) R
  ·refine Bf (Ab (Bj (csr (sv R (Aa Yr R) (ld Ajb R R R R (sv R (Az R) ?_))))))
   obtain⟨v4,hv4,h⟩:=Ae h
   refine Bb R A6u (Ac R (Ac R Ag)) (Ao R) (Aa9 hv4) (sv R (Cf R) (sv R (Ak R R) (sv R (Ak R R) (Br R Aml (sst Ao8 R R R R R (rm 1 R (Ah (csr (rm 1 R (Ah (ccI h R (λh=>?_) (λh=>?_))))))))))))
   ·refine Bj ?_
    refine Kb [6] [0,0,2,0,8,24,1,71,255,511] [[.box (EL.el a0),.box Zba,.box (EL.el v1.1),.box (EL.el v4.1)],[.box (EL.el a0),.box (EL.el a0),.box (EL.el v1.1),.box (EL.el v4.1)]] (by kernel_rfl) mixed (by kernel_rfl) (by decide) R R R R ?_
    refine evs (md:=[.box (EL.el a0),.dead,.box (EL.el v1.1),.box (EL.el v4.1)]) (λhS=>ev (A6 0 R R) R R (lo Dq R R R) (ev (B9 hS) R R (Aa Y0 R) (ev (B9 hS) R R (l1 L3 R R R) (ev (B9 hS) R R (Aa Abr R) (ev (B9 hS) R R (l1 ti4 R R R) (ev (B9 hS) R R (Bz R) (ee0 0 R R R R (λζ=>?_) ?_))))))) ⟨⟨R,⟨trivial,⟨R,⟨R,trivial⟩⟩⟩⟩,⟨⟨R,⟨trivial,⟨R,⟨R,trivial⟩⟩⟩⟩,trivial⟩⟩
    ·refine sst Kn R R R R R (Ql [.box (EL.el a0),.box (EL.el a0),.box (EL.el v1.1),.box (EL.el v4.1)] R ?_)
     exact U9
    refine ev (A6 1 R R) R R (G0 R) (ev (A6 1 R R) R R (G0 R) (ev (A6 1 R R) R R (G0 R) (Adr (Ab (Bq (Af ?_))))))
    obtain rfl:=SJ h
    exact dn (Ad (ra Dq R R R) (Ad (rt R) (Ad (rt R) (Ad (rt R) Aj)))) (Ao R) R
   ·refine Bf (Ab (Bj ?_))
    obtain⟨v5,hv5,h⟩:=Ae h
    obtain⟨v6,hv6,h⟩:=Ae h
    refine Kb [8] [0,0,0,4,15,31,63,63,127,511] [[.box (EL.el a0),.box Zba,.box (EL.el v1.1),.box (EL.el v4.1)],[.box (EL.el v6.1),.box Zba,.box (EL.el v1.1),.box (EL.el v4.1)]] (by kernel_rfl) mixed (by kernel_rfl) (by decide) R R R R ?_
    refine ev (A6 0 R R) R R (lo Dq R R R) (ev (A6 0 R R) R R (lo Zc R R R) (ev (A6 0 R R) R R (Az R) (ed (A6 0 R R) R R (Cm A53 (Ac R Ag) R (Ac6 hv5)) (ed (A6 0 R R) R R (Cm A47 (Ac R (Ac R (Ac R Ag))) R (Xl hv6)) (ev (A6 0 R R) R R (Cf R) (ev (A6 0 R R) R R (Ak R R) (ev (B9 (md:=[.dead,.box Zba,.box (EL.el v1.1),.box (EL.el v4.1)]) ⟨⟨trivial,⟨R,⟨R,⟨R,trivial⟩⟩⟩⟩,⟨⟨trivial,⟨R,⟨R,⟨R,trivial⟩⟩⟩⟩,trivial⟩⟩) R R (Ak R R) (ee0 0 R R R R (λζ=>?_) ?_))))))))
    ·refine sst Kn R R R R R (Ql [.box (EL.el v6.1),.box Zba,.box (EL.el v1.1),.box (EL.el v4.1)] R ?_)
     exact U9
    refine ev (A6 1 R R) R R (G0 R) (Adr (Ab (Bj (csr (rm 1 R (sv R (Cc R R) (Ah (ccI h R (λh=>?_) (λh=>?_)))))))))
    ·refine csr (ld Dq R R R R (rm 1 R (sst Kn R R R R R (rm 3 R (Ah (Bq (Af ?_)))))))
     obtain rfl:=SJ h
     exact dn (Ad (ra Dq R R R) (Ad (rt R) (Ad (rt R) (Ad (rt R) Aj)))) (I8 R) R
    ·refine Bf (Ab (csr (sv R (Aa K5 R) (ld Yw R R R R (rm 1 R (sv R (Aa Afr R) (sv R (l1 ti3 R R R) ?_)))))))
     obtain⟨v7,hv7,h⟩:=Ae h
     refine Bb R A5w (Ac R (Ac R (Ac R Ag))) (Ao R) (Ab0 hv7) (sv R (Cf R) (sv R (Ak R R) (sv R (Ak R R) (rm 2 R (Ah (csr (ld Dq R R R R (rm 2 R (sst Kn R R R R R (rm 3 R (Ah (Bq ?_))))))))))))
     obtain rfl:=SJ h
     exact dn (Ad (ra Dq R R R) (Ad (rt R) (Ad (rt R) (Ad (rt R) Aj)))) (Ao R) R
def Jw (a0:List A7):Option (List A7) :=
 if (([]:List A7).length+a0.length)*56<=140737488355328 then(some (([]:List A7)++a0)) else none
theorem Wy {a0:List A7} {r:(List A7)} (h:Jw a0=some r):Dw Qx0 126 [] [.one (SL a0 A5)] (λy m'=>y=L7 (.ls 0 r.length)/\m'=[.arr 99 3 0 (r.flatMap A5)]):=by
 unfold Jw at h
 refine Dn Tryz.func126 R (nt:=8) R (Nbl R) ?_
 intro w0 S0 X0 H0
 refine csr (rm 1 R (Ah (Bj (csr (rm 1 R (Afl R Tryz.underlying84 R (λnq hnq=>?_)))))))
 cases nq
 ·skip
  refine Ah (Ce R (λhx=>Bool.noConfusion hx) (λ_=>?_))
  refine Bf (Ab (csr (U2 R Tryz.underlying84 A3g (sv R (Az R) ?_))))
  obtain⟨hb1,h⟩:=Cs h
  refine U1 (f:=A5) (xs:=([]:List A7)) (us:=a0) R Tryz.underlying84 A3g A6p (λ_=>R) R R (.one _ _ _ _ (.id _ R)) R R R (.sl _ _ _ (Aw (f:=A5) (λ_=>R) _)) R R hb1 (by decide) ?_
  refine rm 1 R (Ah (Bq ?_))
  obtain rfl:=SJ h
  exact⟨Or.inr R,_,[0],[.one (.ls 0 (([]:List A7)++a0).length)],[.arr 99 3 0 ((([]:List A7)++a0).flatMap A5)],(Ad (rt R) Aj),R,R,⟨by decide,R⟩,R,R,⟨R,R⟩⟩
 ·obtain rfl:=zY (hnq rfl)
  replace h:(some ([]:List A7))=some r:=by first|exact h|(rw[if_pos (by decide)] at h;exact h)
  refine Ah (Ce R (λ_=>?_) (λhx=>Bool.noConfusion hx))
  refine csr (rm 1 R (Ah ?_))
  refine Dl 99 3 2 (by decide) R ?_
  refine Bq (Af ?_)
  obtain rfl:=SJ h
  exact⟨Or.inr R,_,[0],[.one (.ls 0 ([]:List A7).length)],[.arr 99 3 0 (([]:List A7).flatMap A5)],(Ad (rt R) Aj),R,R,⟨by decide,R⟩,R,R,⟨R,R⟩⟩
section
open Go.Lib
set_option maxHeartbeats 4000000 in
theorem Am2 (b n c vb vc:Nat) (vs:List Value) (w:World) (i0:TypeInfo) (hi0:Tryz.prog.info? 99=some i0) (hs0:i0.size=3) (hroom:n+1<=c) (hc63:c<=9223372036854775807)
  (hvl:vs.length=3) (hsp:∀ j,j<3->(w.cell? ⟨b,n*3+j,none⟩).isSome=true) (hfz:∀ j,j<3->w.frozen? ⟨b,n*3+j,none⟩=false)
  (hvs:∀ j v,vs[j]? = some v->w.cell? ⟨vb,j,none⟩=some v) (h1v:∀ v∈vs,v.oneCell'=true) :
  Calls Tryz.prog 127 #[.slice (some ⟨b,0,none⟩) n c,.int .i64 n,.slice (some ⟨vb,0,none⟩) 1 vc] w λe w' =>
   e=.returned (.slice (some ⟨b,0,none⟩) (n+1) c)/\w'=w.setCells b (n*3) vs:=by
 have hsrc:_root_.Go.Src Tryz.prog i0.size 84 (.slice (some ⟨vb,0,none⟩) 1 vc) 1 vs w:=by
  rw[hs0]
  exact _root_.Go.Src.ofSlice w Tryz.underlying84 ⟨vb,0,none⟩ 1 vc vs (by omega) (λj u hj=>by rw[Addr.add_lit,yE];exact hvs j u hj) h1v
 go_enter Tryz.func127,Tryz.ntmps127
 go_wp2_with (at_builtin;refine wpList_append_room_src _ rfl _ _ 84 84 rfl 99 i0 Tryz.underlying84 hi0 b 0 n c rfl _ rfl 1 vs hsrc hroom (by rw[hvl,hs0,yE];exact hsp) (by rw[hvl,hs0,yE];exact hfz) ?_)
 go_ret
 refine⟨R,?_⟩
 first|rfl|(simp;done)|(simp [hs0];done)
set_option maxHeartbeats 4000000 in
theorem Agt (b n c vb vc:Nat) (cs vs:List Value) (w:World) (i0:TypeInfo) (hi0:Tryz.prog.info? 99=some i0) (hz0:i0.zero=some (.agg #[.slice none 0 0,.slice none 0 0,.bool false])) (hs0:i0.size=3) (hnc:n<=c) (hroom:c<n+1) (hn63:n+1<=9223372036854775807)
  (hfit:Builtin.nextslicecap (n+1) c*i0.bytes<=281474976710656) (hcl:cs.length=n*3) (hvl:vs.length=3)
  (hcs:∀ j v,cs[j]? = some v->w.cell? ⟨b,j,none⟩=some v) (hvs:∀ j v,vs[j]? = some v->w.cell? ⟨vb,j,none⟩=some v) (h1v:∀ v∈vs,v.oneCell'=true) :
  Calls Tryz.prog 127 #[.slice (some ⟨b,0,none⟩) n c,.int .i64 n,.slice (some ⟨vb,0,none⟩) 1 vc] w λe w' =>
   e=.returned (.slice (some ⟨w.heap.size,0,none⟩) (n+1) (grownCap w (n+1) c 99)) /\
   w'=w.drew.alloc (.cells ((cs++vs).toArray++Builtin.zeroCells (Value.cells (.agg #[.slice none 0 0,.slice none 0 0,.bool false])) (grownCap w (n+1) c 99-(n+1))) 99):=by
 have hsrc:_root_.Go.Src Tryz.prog i0.size 84 (.slice (some ⟨vb,0,none⟩) 1 vc) 1 vs w:=by
  rw[hs0]
  exact _root_.Go.Src.ofSlice w Tryz.underlying84 ⟨vb,0,none⟩ 1 vc vs (by omega) (λj u hj=>by rw[Addr.add_lit,yE];exact hvs j u hj) h1v
 have hold:(Builtin.firstCells i0.size n (.slice (some ⟨b,0,none⟩) n c)).run Tryz.prog w.drew=.ok cs.toArray w.drew:=by
  rw[hs0]
  exact run_firstCells_some w.drew 3 n ⟨b,0,none⟩ n c cs (by omega) (λj v hj=>by rw[Addr.add_lit,yE];exact hcs j v hj)
 have hrun:∀ ty,(Builtin.append_ #[84,84] ty #[.slice (some ⟨b,0,none⟩) n c,.slice (some ⟨vb,0,none⟩) 1 vc]).run Tryz.prog w=.ok (.slice (some ⟨w.heap.size,0,none⟩) (n+1) (grownCap w (n+1) c 99)) (w.drew.alloc (.cells ((cs++vs).toArray++Builtin.zeroCells (Value.cells (.agg #[.slice none 0 0,.slice none 0 0,.bool false])) (grownCap w (n+1) c 99-(n+1))) 99)):=λty =>
  run_append_grow_src w 84 84 ty 99 i0 _ Tryz.underlying84 hi0 hz0 (some ⟨b,0,none⟩) n c cs hold _ 1 vs hsrc hroom (by omega) hfit
 go_enter Tryz.func127,Tryz.ntmps127
 go_wp2_with (at_builtin;refine Lib.wpList_append_run _ rfl _ _ _ _ rfl _ _ rfl rfl _ _ (hrun _) ?_)
 all_goals (go_ret;first|exact⟨rfl,rfl⟩|exact⟨rfl,by simp [Value.cells]⟩)
set_option maxHeartbeats 4000000 in
theorem Ag8 (b n c i vb vc:Nat) (cs vs:List Value) (w:World) (hs0:(Tryz.prog.info? 99).map (·.size)=some 3) (hi:i<n) (hroom:n+1<=c) (hc63:c<=9223372036854775807) (hvb:vb≠b)
  (hcl:cs.length=n*3) (hvl:vs.length=3)
  (hcs:∀ j v,cs[j]? = some v->w.cell? ⟨b,j,none⟩=some v) (hsp:∀ j,j<(n+1)*3->(w.cell? ⟨b,j,none⟩).isSome=true) (hfz:∀ j,j<(n+1)*3->w.frozen? ⟨b,j,none⟩=false)
  (hvs:∀ j v,vs[j]? = some v->w.cell? ⟨vb,j,none⟩=some v) (h1c:∀ v∈cs,v.oneCell'=true) (h1v:∀ v∈vs,v.oneCell'=true)
  (tA tB:TypeId) (kA kB:Nat) (hsa:w.shape? vb=some (tA,kA)) (hsb:w.shape? b=some (tB,kB)) (hkB:kB≠0) (hfa:w.frozen? ⟨vb,0,none⟩=false) (hfe:w.frozen? ⟨vb,kA,none⟩=false) :
  Calls Tryz.prog 127 #[.slice (some ⟨b,0,none⟩) n c,.int .i64 i,.slice (some ⟨vb,0,none⟩) 1 vc] w λe w' =>
   e=.returned (.slice (some ⟨b,0,none⟩) (n+1) c)/\w'=(w.drew.setCells b ((i+1)*3) (cs.drop ((i)*3))).setCells b ((i)*3) vs:=by
 have hz2:¬ ((i:Int)=(n:Int)):=by omega
 have hz3:¬ ((c:Int)<(n:Int)+1):=by omega
 have mixed:Tryz.prog.follows .mixedOrders=true:=by kernel_rfl
 have hov:∀ lb cb,(callFunc 192 #[.slice (some ⟨vb,0,none⟩) 1 vc,.slice (some ⟨b,(i+1)*3,none⟩) lb cb]).run Tryz.prog w=.ok (.value (.bool false)) w:=λlb cb=>by
  rw[run_callFunc_extern Tryz.func192 (by kernel_rfl) (by kernel_rfl) (by kernel_rfl) (e:=Extern.SlicesOverlaps.overlaps #[84,84] #[4]) (by kernel_rfl),
   Lib.run_overlaps_apart w 84 4 99 Tryz.underlying84 3 (λw=>Di hs0 w) ⟨vb,0,none⟩ ⟨b,(i+1)*3,none⟩ 1 vc lb cb hvb tA tB kA kB hsa hsb hkB hfa hfe]
  rfl
 have hdl:(cs.drop ((i)*3)).length=(n-i)*3:=by rw[yC,hcl];omega
 have hw1:IntKind.i64.wrap ((i:Int)+1)=(i:Int)+1:=by rw[IntKind.wrap_i64];omega
 have hb1:(0:Int)<=(i:Int)+1:=by omega
 have hin:i<=n:=by omega
 have htn:((i:Int)+1).toNat=i+1:=by omega
 have hb2:¬ (c=i+1):=by omega
 have hb3:(i:Int)<=(n:Int)+1:=by omega
 have hb4:¬ (c=i):=by omega
 have hcp1:∀ ty dc sc,(Builtin.copy_ #[84,84] ty #[.slice (some ⟨b,(i+1)*3,none⟩) (n-i) dc,.slice (some ⟨b,(i)*3,none⟩) (n+1-i) sc]).run Tryz.prog w.drew=.ok (goInt (n-i:Nat)) (w.drew.setCells b ((i+1)*3) (cs.drop ((i)*3))):=λty dc sc =>
  Ja w.drew _ _ ty 99 b ((i+1)*3) (n-i) dc ⟨b,(i)*3,none⟩ (n+1-i) sc 3 (n-i) (cs.drop ((i)*3)) Tryz.underlying84 hs0 (by simp only[kE];split <;> omega) hdl
   (λj v hj=>by rw[Addr.add_lit];exact hcs ((i)*3+j) v (by rwa [yJ] at hj))
   (λj hj=>hsp _ (by rw[hdl] at hj;omega)) (λj hj=>hfz _ (by rw[hdl] at hj;omega)) (λv hv=>h1c v (w6 hv))
 obtain⟨W1,hW1⟩:∃ W1,W1=w.drew.setCells b ((i+1)*3) (cs.drop ((i)*3)):=⟨_,rfl⟩
 have hsp1:∀ k,k<(n+1)*3->(W1.cell? ⟨b,k,none⟩).isSome=true:=λk hk=>by
  rw[hW1]
  exact isSome_setCells b (cs.drop ((i)*3)) ((i+1)*3) w.drew (λj hj=>hsp _ (by rw[hdl] at hj;omega)) _ (hsp k hk)
 have hcp2:∀ (W:World),(∀ x,W.cell? x=W1.cell? x)->(∀ x,W.frozen? x=W1.frozen? x)->∀ ty dc,(Builtin.copy_ #[84,84] ty #[.slice (some ⟨b,(i)*3,none⟩) (n+1-i) dc,.slice (some ⟨vb,0,none⟩) 1 vc]).run Tryz.prog W=.ok (goInt (1:Nat)) (W.setCells b ((i)*3) vs):=λW hWc hWf ty dc =>
  Ja W _ _ ty 99 b ((i)*3) (n+1-i) dc ⟨vb,0,none⟩ 1 vc 3 1 vs Tryz.underlying84 hs0 (by simp only[kE];split <;> omega) (by omega)
   (λj v hj=>by
    rw[Addr.add_lit,hWc,hW1,yE,World.cell?_setCells_out b _ _ _ _ (λh _=>absurd h hvb)]
    exact hvs j v hj)
   (λj hj=>by rw[hWc];exact hsp1 _ (by omega)) (λj hj=>by rw[hWf,hW1,World.frozen?_setCells];exact hfz _ (by omega)) h1v
 rw[<- hW1] at hcp1
 go_enter Tryz.func127,Tryz.ntmps127
 go_wp2_with (simp only[hov])
 go_region_law_o (refine step_copy_runI rfl _ _ 84 84 rfl _ _ (by simp [Act.eval,Act.put]) (by simp [Act.eval,Act.put]) (hcp1 _ _ _) ?_)
 go_wp2_with (at_builtin;refine wpList_copy_runI _ rfl _ _ 84 84 rfl _ _ rfl rfl (hcp2 _ (λ_=>rfl) (λ_=>rfl) _ _) ?_)
 go_ret
 first|exact⟨rfl,rfl⟩|exact⟨rfl,by rw[hW1]⟩
set_option maxHeartbeats 4000000 in
theorem Ain (b n c i vb vc:Nat) (cs vs:List Value) (w:World) (i0:TypeInfo) (hi0:Tryz.prog.info? 99=some i0) (hz0:i0.zero=some (.agg #[.slice none 0 0,.slice none 0 0,.bool false])) (hs0:i0.size=3) (hi:i<n) (hnc:n<=c) (hroom:c<n+1) (hn63:n+1<=4611686018427387904)
  (hb48:(n+1)*i0.bytes<=281474976710656) (hfit:Builtin.nextslicecap (n+1) c*i0.bytes<=281474976710656) (hcl:cs.length=n*3) (hvl:vs.length=3)
  (hcs:∀ j v,cs[j]? = some v->w.cell? ⟨b,j,none⟩=some v) (hvs:∀ j v,vs[j]? = some v->w.cell? ⟨vb,j,none⟩=some v) (h1c:∀ v∈cs,v.oneCell'=true) (h1v:∀ v∈vs,v.oneCell'=true) :
  Calls Tryz.prog 127 #[.slice (some ⟨b,0,none⟩) n c,.int .i64 i,.slice (some ⟨vb,0,none⟩) 1 vc] w λe w' =>
   e=.returned (.slice (some ⟨w.heap.size,0,none⟩) (n+1) (grownCap w (n+1) c 99)) /\
   w'=(((w.alloc (.cells ((cs.take ((i)*3)).toArray++Builtin.zeroCells (Value.cells (.agg #[.slice none 0 0,.slice none 0 0,.bool false])) (n+1-i)++Builtin.zeroCells (Value.cells (.agg #[.slice none 0 0,.slice none 0 0,.bool false])) (grownCap w (n+1) c 99-(n+1))) 99)).drew.setCells w.heap.size ((i)*3) vs).drew).setCells w.heap.size ((i+1)*3) (cs.drop ((i)*3)):=by
 have mixed:Tryz.prog.follows .mixedOrders=true:=by kernel_rfl
 have hz2:¬ ((i:Int)=(n:Int)):=by omega
 have hz3:(c:Int)<(n:Int)+1:=by omega
 have hsz:(Tryz.prog.info? 99).map (·.size)=some 3:=by rw[hi0];simp [hs0]
 have hbw:b<w.heap.size:=block_lt_of_cell (hcs 0 _ (zB (by omega)))
 have hvw:vb<w.heap.size:=block_lt_of_cell (hvs 0 _ (zB (by omega)))
 have hkk:(n:Int)+1-(i:Int)=((n+1-i:Nat):Int):=by omega
 have hik:i+(n+1-i)=n+1:=by omega
 have htl:(cs.take ((i)*3)).length=i*3:=by rw[zK];omega
 have hold:(Builtin.firstCells i0.size i (.slice (some ⟨b,0,none⟩) i c)).run Tryz.prog w.drew=.ok (cs.take ((i)*3)).toArray w.drew:=by
  rw[hs0]
  exact run_firstCells_some w.drew 3 i ⟨b,0,none⟩ i c (cs.take ((i)*3)) htl (λj v hj=>by
   rw[Addr.add_lit,yE]
   rw[yL] at hj
   split at hj
   ·exact hcs j v hj
   ·cases hj)
 have hrz:∀ ty,(Builtin.append_ #[84,3] ty #[.slice (some ⟨b,0,none⟩) i c,.int .i64 ((n:Int)+1-(i:Int))]).run Tryz.prog w =
   .ok (.slice (some ⟨w.heap.size,0,none⟩) (n+1) (grownCap w (n+1) c 99)) (w.drew.alloc (.cells ((cs.take ((i)*3)).toArray++Builtin.zeroCells (Value.cells (.agg #[.slice none 0 0,.slice none 0 0,.bool false])) (n+1-i)++Builtin.zeroCells (Value.cells (.agg #[.slice none 0 0,.slice none 0 0,.bool false])) (grownCap w (n+1) c 99-(n+1))) 99)):=λty=>by
  have h:=Lib.run_append_grow_zeros w 84 3 ty 99 i0 _ .i64 .i64 Tryz.underlying84 Tryz.underlying3 hi0 hz0 (some ⟨b,0,none⟩) i c (cs.take ((i)*3)) hold (n+1-i) (by omega) (by omega) (by omega) (by omega) (yO (xA _ (by omega)) hb48) (by rw[hik];exact hfit)
  rw[hik] at h
  rw[hkk]
  exact h
 obtain⟨G,hG⟩:∃ G,G=grownCap w (n+1) c 99:=⟨_,rfl⟩
 obtain⟨ROW,hROW⟩:∃ ROW:Array Value,ROW=(cs.take ((i)*3)).toArray++Builtin.zeroCells (Value.cells (.agg #[.slice none 0 0,.slice none 0 0,.bool false])) (n+1-i)++Builtin.zeroCells (Value.cells (.agg #[.slice none 0 0,.slice none 0 0,.bool false])) (G-(n+1)):=⟨_,rfl⟩
 rw[<- hG] at hrz ⊢
 rw[<- hROW] at hrz ⊢
 have hzc:∀ k,(Builtin.zeroCells (Value.cells (.agg #[.slice none 0 0,.slice none 0 0,.bool false])) k).size=k*3:=λk=>by simp [Builtin.zeroCells,Value.cells]
 have hRl:(n+1)*3<=ROW.size:=by
  rw[hROW,yQ,yQ,hzc,hzc,z7,htl]
  omega
 obtain⟨W1,hW1⟩:∃ W1,W1=w.drew.alloc (.cells ROW 99):=⟨_,rfl⟩
 rw[<- hW1] at hrz
 have hN:∀ j,j<(n+1)*3->(W1.cell? ⟨w.heap.size,j,none⟩).isSome=true:=λj hj=>by
  rw[hW1,World.cell?_alloc_at (w:=w.drew) ROW _ w.heap.size j rfl,zS (by omega)];rfl
 have hNf:∀ j,W1.frozen? ⟨w.heap.size,j,none⟩=false:=λj=>by rw[hW1];exact World.frozen?_alloc_at (w:=w.drew) ROW _ w.heap.size j rfl
 have hOb:∀ j v,w.cell? ⟨b,j,none⟩=some v->W1.cell? ⟨b,j,none⟩=some v:=λj v h=>by rw[hW1,World.cell?_alloc_past (w:=w.drew) _ b j hbw];exact h
 have hOv:∀ j v,w.cell? ⟨vb,j,none⟩=some v->W1.cell? ⟨vb,j,none⟩=some v:=λj v h=>by rw[hW1,World.cell?_alloc_past (w:=w.drew) _ vb j hvw];exact h
 have hcpA:∀ (W:World),(∀ x,W.cell? x=W1.cell? x)->(∀ x,W.frozen? x=W1.frozen? x)->∀ ty dc,(Builtin.copy_ #[84,84] ty #[.slice (some ⟨w.heap.size,(i)*3,none⟩) (n+1-i) dc,.slice (some ⟨vb,0,none⟩) 1 vc]).run Tryz.prog W=.ok (goInt (1:Nat)) (W.setCells w.heap.size ((i)*3) vs):=λW hWc hWf ty dc =>
  Ja W _ _ ty 99 w.heap.size ((i)*3) (n+1-i) dc ⟨vb,0,none⟩ 1 vc 3 1 vs Tryz.underlying84 hsz (by simp only[kE];split <;> omega) (by omega)
   (λj v hj=>by rw[Addr.add_lit,hWc,yE];exact hOv _ v (hvs j v hj))
   (λj hj=>by rw[hWc];exact hN _ (by omega)) (λj hj=>by rw[hWf];exact hNf _) h1v
 have hGn:n+1<=G:=by rw[hG];exact grownCap_ge w _ _ _
 have hG63:G<=9223372036854775807:=by
  have:=grownCap_le_maxLen w (n+1) c 99 (by unfold maxLen;omega)
  rw[<- hG] at this
  unfold maxLen at this
  omega
 have hGi:¬ (G=i):=by omega
 have hGim:¬ (G=i+1):=by omega
 have hci:¬ (c=i):=by omega
 have hbN:b≠w.heap.size:=by omega
 have hdl:(cs.drop ((i)*3)).length=(n-i)*3:=by rw[yC,hcl];omega
 have hcpB:∀ (W:World),(∀ x,W.cell? x=(W1.setCells w.heap.size ((i)*3) vs).cell? x)->(∀ x,W.frozen? x=(W1.setCells w.heap.size ((i)*3) vs).frozen? x)->∀ ty dc sc,(Builtin.copy_ #[84,84] ty #[.slice (some ⟨w.heap.size,(i+1)*3,none⟩) (n-i) dc,.slice (some ⟨b,(i)*3,none⟩) (n-i) sc]).run Tryz.prog W=.ok (goInt (n-i:Nat)) (W.setCells w.heap.size ((i+1)*3) (cs.drop ((i)*3))):=λW hWc hWf ty dc sc =>
  Ja W _ _ ty 99 w.heap.size ((i+1)*3) (n-i) dc ⟨b,(i)*3,none⟩ (n-i) sc 3 (n-i) (cs.drop ((i)*3)) Tryz.underlying84 hsz (by simp only[kE];split <;> omega) hdl
   (λj v hj=>by
    rw[Addr.add_lit,hWc,World.cell?_setCells_out _ _ _ _ _ (λh _=>absurd h hbN)]
    exact hOb _ v (hcs ((i)*3+j) v (by rwa [yJ] at hj)))
   (λj hj=>by rw[hWc];exact isSome_setCells w.heap.size vs ((i)*3) W1 (λt ht=>hN _ (by omega)) _ (hN _ (by rw[hdl] at hj;omega)))
   (λj hj=>by rw[hWf,World.frozen?_setCells];exact hNf _) (λv hv=>h1c v (w6 hv))
 subst hW1
 have hE1:∀ x,((w.alloc (.cells ROW 99)).drew).cell? x=(w.drew.alloc (.cells ROW 99)).cell? x:=λx=>rfl
 have hE2:∀ x,((w.alloc (.cells ROW 99)).drew).frozen? x=(w.drew.alloc (.cells ROW 99)).frozen? x:=λx=>rfl
 have hF1:∀ x,(((w.alloc (.cells ROW 99)).drew.setCells w.heap.size ((i)*3) vs).drew).cell? x=((w.drew.alloc (.cells ROW 99)).setCells w.heap.size ((i)*3) vs).cell? x:=λx=>rfl
 have hF2:∀ x,(((w.alloc (.cells ROW 99)).drew.setCells w.heap.size ((i)*3) vs).drew).frozen? x=((w.drew.alloc (.cells ROW 99)).setCells w.heap.size ((i)*3) vs).frozen? x:=λx=>rfl
 have hw1:IntKind.i64.wrap ((i:Int)+1)=(i:Int)+1:=by rw[IntKind.wrap_i64];omega
 have hb1:(0:Int)<=(i:Int)+1:=by omega
 have hin:i<=n:=by omega
 have htn:((i:Int)+1).toNat=i+1:=by omega
 have hb3:(i:Int)<=(n:Int):=by omega
 clear hkk hik hold hROW hG hRl htl hzc
 go_enter Tryz.func127,Tryz.ntmps127
 go_wp2_with (first
  | (at_builtin;refine Lib.wpList_append_run _ rfl _ _ _ _ rfl _ _ rfl rfl _ _ (hrz _) ?_)
  | (at_builtin;refine wpList_copy_runI _ rfl _ _ 84 84 rfl _ _ rfl rfl (hcpA _ hE1 hE2 _ _) ?_)
  | (at_builtin;refine wpList_copy_runI _ rfl _ _ 84 84 rfl _ _ rfl rfl (hcpB _ (λ_=>rfl) (λ_=>rfl) _ _ _) ?_))
 go_region_law_o (refine step_copy_runI rfl _ _ 84 84 rfl (.slice (some ⟨w.heap.size,(i+1)*3,none⟩) (n-i) (G-(i+1))) (.slice (some ⟨b,(i)*3,none⟩) (n-i) (c-i)) (by simp [Act.eval,Act.put]) (by simp [Act.eval,Act.put]) (hcpB _ hF1 hF2 3 (G-(i+1)) (c-i)) ?_)
 go_wp2
 go_ret
 exact⟨R,R⟩
set_option maxHeartbeats 4000000 in
theorem Amv (vb vc:Nat) (vs:List Value) (w:World) (i0:TypeInfo) (hi0:Tryz.prog.info? 99=some i0) (hz0:i0.zero=some (.agg #[.slice none 0 0,.slice none 0 0,.bool false])) (hs0:i0.size=3)
  (hfit:Builtin.nextslicecap (0+1) 0*i0.bytes<=281474976710656) (hvl:vs.length=3)
  (hvs:∀ j v,vs[j]? = some v->w.cell? ⟨vb,j,none⟩=some v) (h1v:∀ v∈vs,v.oneCell'=true) :
  Calls Tryz.prog 127 #[.slice none 0 0,.int .i64 ((0:Nat):Int),.slice (some ⟨vb,0,none⟩) 1 vc] w λe w' =>
   e=.returned (.slice (some ⟨w.heap.size,0,none⟩) (0+1) (grownCap w (0+1) 0 99)) /\
   w'=w.drew.alloc (.cells (([]++vs).toArray++Builtin.zeroCells (Value.cells (.agg #[.slice none 0 0,.slice none 0 0,.bool false])) (grownCap w (0+1) 0 99-(0+1))) 99):=by
 have hsrc:_root_.Go.Src Tryz.prog i0.size 84 (.slice (some ⟨vb,0,none⟩) 1 vc) 1 vs w:=by
  rw[hs0]
  exact _root_.Go.Src.ofSlice w Tryz.underlying84 ⟨vb,0,none⟩ 1 vc vs (by omega) (λj u hj=>by rw[Addr.add_lit,yE];exact hvs j u hj) h1v
 have hold:(Builtin.firstCells i0.size 0 (.slice none 0 0)).run Tryz.prog w.drew=.ok ([]:List Value).toArray w.drew:=by
  rw[hs0]
  exact run_firstCells_none w.drew 3 0 0 0
 have hrun:∀ ty,(Builtin.append_ #[84,84] ty #[.slice none 0 0,.slice (some ⟨vb,0,none⟩) 1 vc]).run Tryz.prog w=.ok (.slice (some ⟨w.heap.size,0,none⟩) (0+1) (grownCap w (0+1) 0 99)) (w.drew.alloc (.cells (([]++vs).toArray++Builtin.zeroCells (Value.cells (.agg #[.slice none 0 0,.slice none 0 0,.bool false])) (grownCap w (0+1) 0 99-(0+1))) 99)):=λty =>
  run_append_grow_src w 84 84 ty 99 i0 _ Tryz.underlying84 hi0 hz0 none 0 0 [] hold _ 1 vs hsrc (by omega) (by omega) hfit
 go_enter Tryz.func127,Tryz.ntmps127
 go_wp2_with (at_builtin;refine Lib.wpList_append_run _ rfl _ _ _ _ rfl _ _ rfl rfl _ _ (hrun _) ?_)
 all_goals (go_ret;first|exact⟨rfl,rfl⟩|exact⟨rfl,by simp [Value.cells]⟩)
theorem Aim:(Tryz.prog.info? 99).map (λi=>(i.zero,i.size,i.bytes))=some (some (.agg #[.slice none 0 0,.slice none 0 0,.bool false]),3,56):=by kernel_rfl
theorem Arc {cs vs:List Lf} {n i:Nat} (hcl:cs.length=n*3) (hvl:vs.length=3) (hi:i<=n) (hn:(n+1)*56<=140737488355328) :
  Dw Qx0 127 [.arr 99 3 0 cs,.arr 99 3 0 vs] [.one (.ls 0 n),.one (Ii6 (i:Int)),.one (.ls 1 1)] (λy m'=>y=L7 (.ls 0 (n+1))/\m'=[.arr 99 3 0 (cs.take (i*3)++vs++cs.drop (i*3)),.dead]):=by
 refine Zf (by decide) hcl hvl (λw v1 vb vc cur2 xs ys hown hg2 hcell hyl hne hx1 hy1=>?_)
 obtain⟨i0,hi0,hz0,hs0,hb0⟩:=info_parts Aim
 have hxl:=hown.1
 have hfitG:∀ {old},old<n+1->Builtin.nextslicecap (n+1) old*i0.bytes<=281474976710656:=λh=>growslice_fits h (by rw[hb0];exact hn)
 have hsz':(Tryz.prog.info? 99).map (·.size)=some 3:=by rw[hi0];simp [hs0]
 have hzc:∀ k,(Builtin.zeroCells (Value.cells (.agg #[.slice none 0 0,.slice none 0 0,.bool false])) k).size=k*3:=λk=>by simp [Builtin.zeroCells,Value.cells]
 have hg63:∀ c,grownCap w (n+1) c 99<=maxLen:=λc=>grownCap_le_maxLen w (n+1) c 99 (by unfold maxLen;omega)
 have hgge:∀ c,n+1<=grownCap w (n+1) c 99:=λc=>grownCap_ge w _ _ _
 rcases hown.2 with⟨rfl,h0⟩|⟨g,cap,cur,rfl,_,hg,hnc,hcm,hcs,hct⟩
 ·subst h0
  have hi0':i=0:=by omega
  subst hi0'
  have hx0:xs=[]:=jT.1 (hxl.trans (wT _))
  subst hx0
  refine(Amv vb vc ys w i0 hi0 hz0 hs0 (hfitG (by omega)) hyl hcell hy1).mono ?_
  rintro e w' ⟨rfl,rfl⟩
  refine⟨_,w.heap.size,R,Qu (hgge 0) (hg63 0) ?_ ?_,.inr (zN _)⟩
  ·have:=hgge 0
   rw[yQ,hzc,z7,wX,hyl];omega
  ·rw[xJ,yU,xX (by rw[wX,hyl])]
   simp
 ·have hcur:cur.toList.length=cap*3:=by rw[z8];exact hcs
  have hcell1:∀ j v,xs[j]? = some v->w.cell? ⟨g,j,none⟩=some v:=λj v hj=>by
   unfold World.cell?
   rw[hg]
   rw[<- hct,yL] at hj
   split at hj
   ·simpa using hj
   ·cases hj
  have hc63:cap<=9223372036854775807:=by unfold maxLen at hcm;exact hcm
  have hsome:∀ j,j<cap*3->(w.cell? ⟨g,j,none⟩).isSome=true:=λj hj=>by
   unfold World.cell?
   rw[hg]
   show(cur[j]?).isSome=true
   rw[zS (by omega)];rfl
  have hfrz:∀ j,w.frozen? ⟨g,j,none⟩=false:=λj=>by
   unfold World.frozen?
   rw[hg]
   show(decide (0<=j)&&decide (j<0))=false
   rw[decide_eq_false (zR j),jC]
  have hfrz2:∀ j,w.frozen? ⟨vb,j,none⟩=false:=λj=>by
   unfold World.frozen?
   rw[hg2]
   show(decide (0<=j)&&decide (j<0))=false
   rw[decide_eq_false (zR j),jC]
  have hvb:vb≠g:=λe=>hne (by rw[e];rfl)
  rcases Nat.lt_or_eq_of_le hi with hlt|rfl
  ·rcases zO cap (n+1) with hroom|hroom
   ·refine(Ain g n cap i vb vc xs ys w i0 hi0 hz0 hs0 hlt hnc hroom (by omega) (by rw[hb0];omega) (hfitG hroom) hxl hyl hcell1 hcell hx1 hy1).mono ?_
    rintro e w' ⟨rfl,rfl⟩
    have hge:=hgge cap
    have htl:(xs.take (i*3)).length=i*3:=by rw[zK];omega
    have:=Wh (E:=99) (sz:=3) (w:=w) (row:=(xs.take (i*3)).toArray++Builtin.zeroCells (Value.cells (.agg #[.slice none 0 0,.slice none 0 0,.bool false])) (n+1-i)++Builtin.zeroCells (Value.cells (.agg #[.slice none 0 0,.slice none 0 0,.bool false])) (grownCap w (n+1) cap 99-(n+1))) (xs:=xs.take (i*3)) (vs:=ys) (D:=xs.drop (i*3)) hlt hge (hg63 cap)
     (by rw[yQ,yQ,hzc,hzc,z7,htl];omega) hyl (by rw[yC,hxl];omega)
     (by rw[xJ,xJ,yU,xO,xX htl])
    refine⟨_,w.heap.size,R,?_,.inr (zN _)⟩
    first|exact this|simpa only [kC] using this
   ·refine(Ag8 g n cap i vb vc xs ys w hsz' hlt hroom hc63 hvb hxl hyl hcell1 (λj hj=>hsome j (by omega)) (λj _=>hfrz j) hcell hx1 hy1 99 99 cur2.size cur.size (by unfold World.shape?;rw[hg2]) (by unfold World.shape?;rw[hg]) (by omega) (hfrz2 _) (hfrz2 _)).mono ?_
    rintro e w' ⟨rfl,rfl⟩
    have:=Vk (E:=99) (sz:=3) (b:=g) (vs:=ys) hg hlt hroom hcm hcs hyl
    rw[hct] at this
    refine⟨_,g,R,?_,.inl R⟩
    first|exact this|simpa only [kC] using this
  ·have hxe:xs.take (i*3)++ys++xs.drop (i*3)=xs++ys:=by
    rw[yX (by omega),wV (by omega),xG]
   rw[hxe]
   rcases zO cap (i+1) with hroom|hroom
   ·refine(Agt g i cap vb vc xs ys w i0 hi0 hz0 hs0 hnc hroom (by omega) (hfitG hroom) hxl hyl hcell1 hcell hy1).mono ?_
    rintro e w' ⟨rfl,rfl⟩
    have hge:=hgge cap
    refine⟨_,w.heap.size,R,Qu hge (hg63 cap) ?_ ?_,.inr (zN _)⟩
    ·rw[yQ,hzc,z7,zH,hxl,hyl];omega
    ·rw[xJ,yU,xX (by rw[zH,hxl,hyl];omega)]
   ·refine(Am2 g i cap vb vc ys w i0 hi0 hs0 hroom hc63 hyl (λj hj=>hsome _ (by omega)) (λj _=>hfrz _) hcell hy1).mono ?_
    rintro e w' ⟨rfl,rfl⟩
    have:=Yb (E:=99) (sz:=3) (n:=i) (b:=g) (vs:=ys) hg hroom hcm hcs hyl
    rw[hct] at this
    exact⟨_,g,R,this,.inl R⟩
end
def Px (a0:List A7) (a1:Int) (a2:List A7):Option (List A7):=Aqz 56 a0 a1 a2
theorem Xf {a0:List A7} {a1:Int} {a2 r:List A7} (h:Px a0 a1 a2=some r):Dw Qx0 127 [.arr 99 3 0 (a0.flatMap A5),.arr 99 3 0 (a2.flatMap A5)] [.one (.ls 0 a0.length),.one (Ii6 a1),.one (.ls 1 a2.length)] (λy m'=>y=L7 (.ls 0 r.length)/\m'=[.arr 99 3 0 (r.flatMap A5),.dead]) :=
 Apb (f:=A5) (λ_=>rfl) Arc h
def Lb (a0:B7) (a1:A7) (b1:Unit):Option (B7×Int) :=
 (Fc a0).bind λv2=>(Ly v2 a1.Key).bind λv3=>(Jw a0.L).bind λv4=>if v3.2 then((idx v4 v3.1).bind λu5=>some ((B7.mk (v4.set v3.1.toNat a1)),0)) else(if (decide (16<=(v4.length:Int))) then(some ((B7.mk ([]:List A7)),8)) else((Px v4 v3.1 [a1]).bind λv6=>some ((B7.mk v6),0)))
def Em (a0:B7) (a1:A7):Option (B7×Int) :=
 (Ft (B7.mk a0.L)).bind λv7=>if (!v7) then(some ((B7.mk ([]:List A7)),1)) else((Da (A7.mk a1.Key a1.Val a1.Del)).bind λv8=>if (!v8) then(some ((B7.mk ([]:List A7)),1)) else(Lb a0 a1 ()))
theorem Aa2 {a0:B7} {a1:A7} {r:B7×Int} (h:Em a0 a1=some r):Bt Qx0 53 [.agg [SL a0.L A5],.agg (EL.el a1)] (·=.tup [.agg [SL r.1.L A5],.one (Ii6 r.2)]):=by
 unfold Em at h
 refine A1 Tryz.func53 R (nt:=46) R (Nbl R) ?_
 intro w0 S0
 refine csr (Er R R (Er R R (Br R Aw0 (rm 1 R (Ah (Bj (Bj (cj3 (Unit) (λb1=>[(2,L7 (.lp 0 0)),(3,L7 (.lp 1 0)),(4,L7 (.lp 2 0))]) (λb1=>[.box [SL a0.L A5],.box (EL.el a1),.box [Znl]]) (λb1=>Lb a0 a1 b1=some r) (λ_=>R) (λb1 h=>?_) ?_))))))))
 ·unfold Lb at h
  refine Bj ?_
  obtain⟨v2,hv2,h⟩:=Ae h
  obtain⟨v3,hv3,h⟩:=Ae h
  refine Kb [] [0,1,0,4,15,31,63,63,127,511] [[.box [SL a0.L A5],.box (EL.el a1),.box [Znl]]] (by kernel_rfl) mixed (by kernel_rfl) (by decide) R R R R ?_
  refine ev (A6 0 R R) R R (lo Ajb R R R) (ed (A6 0 R R) R R (Cm Ayq (Ac R Ag) R (Sd hv2)) (ev (A6 0 R R) R R (Aa Tn R) (ev (A6 0 R R) R R (l1 L3 R R R) (ed (A6 0 R R) R R (Cm A03 (Ac R (Ac R Ag)) R (Sz hv3)) (ev (A6 0 R R) R R (Cf R) (ev (A6 0 R R) R R (Ak R R) (ev (A6 0 R R) R R (Ak R R) (ev (A6 0 R R) R R (G0 R) (ev (A6 0 R R) R R (G0 R) (Adr (Ab (csr (sv R (Aa Xn R) (sv R (l1 Am4 R R R) ?_))))))))))))))
  obtain⟨v4,hv4,h⟩:=Ae h
  refine I0 (x':=L7 (.ls 3 v4.length)) (M':=[.box [SL a0.L A5],.box (EL.el a1),.box [Znl],.arr 99 3 0 (v4.flatMap A5)]) [] R A2r (.func _) (Ac R Ag) (Wy hv4) R R (by decide) R R R ?_
  refine rm 1 R (Ah (Bj (csr (rm 1 R (Ah (ccI h R (λh=>?_) (λh=>?_)))))))
  ·refine csr (rm 2 R (sv R (lo Aij R R R) ?_))
   obtain⟨u5,hu5,h⟩:=Ae h
   refine sv R (G8 (f:=A5) Zh (λ_=>R) R R R R R hu5) ?_
   refine Ab2 (f:=A5) (u':=a1) (sz:=3) 0 Ao8 (λ_=>R) R R R R R R R (zI.1 R) (Jd hu5).2 (Nbl R) R ?_
   refine Nn 28 (y:=L7 (.ls 3 v4.length)) (L7 (.ls 3 (v4.set v3.1.toNat a1).length)) R (congrArg (λn=>AV.s (.one (.ls 3 n))) List.length_set.symm) ?_
   refine Nn 8 (y:=L7 (.ls 3 v4.length)) (L7 (.ls 3 (v4.set v3.1.toNat a1).length)) R (congrArg (λn=>AV.s (.one (.ls 3 n))) List.length_set.symm) ?_
   refine Nn 30 (y:=L7 (.ls 3 v4.length)) (L7 (.ls 3 (v4.set v3.1.toNat a1).length)) R (congrArg (λn=>AV.s (.one (.ls 3 n))) List.length_set.symm) ?_
   refine Ah (csr (rm 1 R (sv R (A2 Aw0 Ayt (Aq R A0) (.cons _ _ _ _ _ _ _ R R (Nbl R) (.nil _))) (sst Avd R R R R R (rm 1 R (Ah (Bq (Af ?_))))))))
   obtain rfl:=SJ h
   refine⟨Or.inr R,_,_,_,(Ad (ra Ajb R R R) (Ad (rt R) Aj)),(by(repeat' first|exact Ho.nil _|apply Ho.cons|apply Hl.one|apply Hl.agg|exact C5.nil|exact C5.ls _ _ _ _ _ _ R (Aw (f:=A5) (λ_=>R) _).symm|exact C5.id _ R|exact Cv.nil _|apply Cv.cons)),?_⟩
   rfl
  ·refine Bf (Ab (Bj (csr (rm 1 R (sv R (H6 Zh R R (Aw (f:=A5) (λ_=>R) _).symm) ?_)))))
   refine sv R (Ii R R) (Ah (ccI h R (λh=>?_) (λh=>?_)))
   ·refine csr (sv R (A2 Aw0 Ayt A0 (.nil _)) (sst Avd R R R R R (rm 1 R (Ah (Bq (Af ?_))))))
    obtain rfl:=SJ h
    exact dn (Ad (ra Ajb R R R) (Ad (rt R) Aj)) (I8 R) R
   ·refine Bf (Ab (csr (rm 2 R (sv R (lo Aij R R R) ?_))))
    refine D7 R Tryz.underlying84 A3g R R (zI.1 R) (by decide) ?_
    refine Ql [.box [SL a0.L A5],.box (EL.el a1),.box [Znl],.arr 99 3 0 (v4.flatMap A5),.arr 99 3 0 ([a1].flatMap A5)] R ?_
    obtain⟨v6,hv6,h⟩:=Ae h
    refine I0 (x':=L7 (.ls 3 v6.length)) (M':=[.box [SL a0.L A5],.box (EL.el a1),.box [Znl],.arr 99 3 0 (v6.flatMap A5),.dead]) [3,4] R A2t (.func _) (Ac R (Ac R (Ac R Ag))) (Xf hv6) R R (by decide) R R R ?_
    refine sv R (A2 Aw0 Ayt (Aq R A0) (.cons _ _ _ _ _ _ _ R R (Nbl R) (.nil _))) (sst Avd R R R R R (rm 1 R (Ah (Bq ?_))))
    obtain rfl:=SJ h
    refine⟨Or.inr R,_,_,_,(Ad (ra Ajb R R R) (Ad (rt R) Aj)),(by(repeat' first|exact Ho.nil _|apply Ho.cons|apply Hl.one|apply Hl.agg|exact C5.nil|exact C5.ls _ _ _ _ _ _ R (Aw (f:=A5) (λ_=>R) _).symm|exact C5.id _ R|exact Cv.nil _|apply Cv.cons)),?_⟩
    rfl
 ·skip
  refine Au (sv R (lo Ajb R R R) ?_)
  obtain⟨v7,hv7,h⟩:=Ae h
  refine Bb R Au7 (Ac R Ag) (Ao R) (Py hv7) (sv R (Bz R) (rm 1 R (ssI 12 h R (λh=>?_) (λh=>?_))))
  ·refine rm 4 R (Ah (Ce R (λ_=>?_) (λhx=>Bool.noConfusion hx)))
   refine csr (sv R (A2 Aw0 Ayt A0 (.nil _)) (sst Avd R R R R R (rm 1 R (Ah (Bq (Af ?_))))))
   obtain rfl:=SJ h
   exact dn (Ad (ra Ajb R R R) (Ad (rt R) Aj)) (I8 R) R
  ·refine son R R R (ld Aij R R R R (son R R R ?_))
   obtain⟨v8,hv8,h⟩:=Ae h
   refine Bb R Ayv (Ac R Ag) (Ao R) (Qi hv8) (son R R R (sv R (Bz R) (rm 1 R (Ah (ccI h R (λh=>?_) (λh=>?_))))))
   ·refine csr (sv R (A2 Aw0 Ayt A0 (.nil _)) (sst Avd R R R R R (rm 1 R (Ah (Bq (Af ?_))))))
    obtain rfl:=SJ h
    exact dn (Ad (ra Ajb R R R) (Ad (rt R) Aj)) (I8 R) R
   ·refine Bf (Ab ?_)
    exact⟨(),_,h,⟨R,R,R,trivial⟩,R⟩
def Sk (a0:Ai) (a1:Bg) (a2:Int):Option Ai :=
 (T2 a2 1).bind λv1=>if v1 then(some a0) else((C9 a0 a1).bind λv2=>some v2)
theorem Ab7 {a0:Ai} {a1:Bg} {a2:Int} {r:Ai} (h:Sk a0 a1 a2=some r):Bt Qx0 66 [.agg (EL.el a0),.agg (EL.el a1),.one (.raw (.iface 62 (.int .i64 a2)))] (·=.s (.agg (EL.el r))):=by
 unfold Sk at h
 refine A1 Tryz.func66 R (nt:=14) R (Nbl R) ?_
 intro w0 S0
 refine csr (Er R R (Er R R (Br R Tg (Ah (Bj (csr (rm 1 R (sv R (Aks Tryz.underlying62 R) ?_))))))))
 obtain⟨v1,hv1,h⟩:=Ae h
 refine Bb R A1x (Ac R (Ac R Ag)) (Ao R) (Aa7 hv1) (Ah (ccI h R (λh=>?_) (λh=>?_)))
 ·refine csr (ld Dq R R R R (sst Kn R R R R R (Ah (Bq (Af ?_)))))
  obtain rfl:=SJ h
  exact dnA R Dq R (.lp _ _ _ R) (Nbl R) R R
 ·refine Bf (Ab (csr (ld Dq R R R R (sv R (lo Zc R R R) ?_))))
  obtain⟨v2,hv2,h⟩:=Ae h
  refine Bb R Aw7 (Ac R (Ac R Ag)) (Ao R) (I4 hv2) (sst Kn R R R R R (Ah (Bq ?_)))
  obtain rfl:=SJ h
  exact dnA R Dq R (.lp _ _ _ R) (Nbl R) R R
def Jn (a0:List Bg):Option (List Bg) :=
 if (([]:List Bg).length+a0.length)*64<=140737488355328 then(some (([]:List Bg)++a0)) else none
theorem Wx {a0:List Bg} {r:(List Bg)} (h:Jn a0=some r):Dw Qx0 139 [] [.one (SL a0 Bu)] (λy m'=>y=L7 (.ls 0 r.length)/\m'=[.arr 88 6 0 (r.flatMap Bu)]):=by
 unfold Jn at h
 refine Dn Tryz.func139 R (nt:=8) R (Nbl R) ?_
 intro w0 S0 X0 H0
 refine csr (rm 1 R (Ah (Bj (csr (rm 1 R (Afl R Tryz.underlying38 R (λnq hnq=>?_)))))))
 cases nq
 ·skip
  refine Ah (Ce R (λhx=>Bool.noConfusion hx) (λ_=>?_))
  refine Bf (Ab (csr (U2 R Tryz.underlying38 Auu (sv R (Az R) ?_))))
  obtain⟨hb1,h⟩:=Cs h
  refine U1 (f:=Bu) (xs:=([]:List Bg)) (us:=a0) R Tryz.underlying38 Auu A3m (λ_=>R) R R (.one _ _ _ _ (.id _ R)) R R R (.sl _ _ _ (Aw (f:=Bu) (λ_=>R) _)) R R hb1 (by decide) ?_
  refine rm 1 R (Ah (Bq ?_))
  obtain rfl:=SJ h
  exact⟨Or.inr R,_,[0],[.one (.ls 0 (([]:List Bg)++a0).length)],[.arr 88 6 0 ((([]:List Bg)++a0).flatMap Bu)],(Ad (rt R) Aj),R,R,⟨by decide,R⟩,R,R,⟨R,R⟩⟩
 ·obtain rfl:=zY (hnq rfl)
  replace h:(some ([]:List Bg))=some r:=by first|exact h|(rw[if_pos (by decide)] at h;exact h)
  refine Ah (Ce R (λ_=>?_) (λhx=>Bool.noConfusion hx))
  refine csr (rm 1 R (Ah ?_))
  refine Dl 88 6 2 (by decide) R ?_
  refine Bq (Af ?_)
  obtain rfl:=SJ h
  exact⟨Or.inr R,_,[0],[.one (.ls 0 ([]:List Bg).length)],[.arr 88 6 0 (([]:List Bg).flatMap Bu)],(Ad (rt R) Aj),R,R,⟨by decide,R⟩,R,R,⟨R,R⟩⟩
def O6 (a0:Ai) (a1:Bg):Option Ai :=
 (Jn a0.Open).bind λv1=>(Es (Ai.mk (B2.mk a0.Store.Keys a0.Store.Chains a0.Store.Ts) (Be.mk a0.Cert.Txs (B3.mk a0.Cert.Reads.L)) (Bn.mk a0.Toks.L) a0.Open a0.Next) a1.ID).bind λv2=>(idx v1 v2).bind λu3=>some (Ai.mk (B2.mk a0.Store.Keys a0.Store.Chains a0.Store.Ts) (Be.mk a0.Cert.Txs (B3.mk a0.Cert.Reads.L)) (Bn.mk a0.Toks.L) (v1.set v2.toNat a1) a0.Next)
theorem Yo {a0:Ai} {a1:Bg} {r:Ai} (h:O6 a0 a1=some r):Bt Qx0 67 [.agg (EL.el a0),.agg (EL.el a1)] (·=.s (.agg (EL.el r))):=by
 unfold O6 at h
 refine A1 Tryz.func67 R (nt:=19) R (Nbl R) ?_
 intro w0 S0
 refine csr (Er R R (Er R R (Br R Tg (Ah (csr (sv R (Aa Td R) (sv R (l1 Ai9 R R R) ?_)))))))
 obtain⟨v1,hv1,h⟩:=Ae h
 refine I0 (x':=L7 (.ls 3 v1.length)) (M':=[.box (EL.el a0),.box (EL.el a1),.box Zba,.arr 88 6 0 (v1.flatMap Bu)]) [] R A1i (.func _) (Ac R Ag) (Wx hv1) R R (by decide) R R R ?_
 refine rm 1 R (Ah (Bj ?_))
 obtain⟨v2,hv2,h⟩:=Ae h
 obtain⟨u3,hu3,h⟩:=Ae h
 refine Kb [7] [0,0,0,4,14,0,63,127] [[.box (EL.el a0),.box (EL.el a1),.box Zba,.arr 88 6 0 (v1.flatMap Bu)],[.box (EL.el a0),.box (EL.el a1),.box Zba,.arr 88 6 0 ((v1.set v2.toNat a1).flatMap Bu)]] (by kernel_rfl) mixed (by kernel_rfl) (by decide) R R R R ?_
 refine ev (A6 0 R R) R R (Az R) (ev (A6 0 R R) R R (lo Dq R R R) (ev (A6 0 R R) R R (Aa Tv R) (ev (A6 0 R R) R R (l1 ti3 R R R) (ed (A6 0 R R) R R (Cm A16 (Ac R (Ac R Ag)) R (S9 hv2)) (ev (A6 0 R R) R R (lo Zc R R R) ?_)))))
 refine ev (A6 0 rfl rfl) rfl rfl (G8 (f:=Bu) Aay (λ_=>rfl) rfl rfl rfl (by first|rfl|exact List.length_set.symm) rfl hu3) ?_
 refine ee0 0 R R R R (λζ=>?_) ?_
 ·refine Ab2 (f:=Bu) (u':=a1) (sz:=6) 0 Adv (λ_=>rfl) rfl rfl rfl rfl (by first|rfl|exact List.length_set.symm) rfl rfl (zI.1 rfl) (Jd hu3).2 (Nbl rfl) rfl ?_
  exact U9
 refine Adr (Ab (Zm 8 (y:=L7 (.ls 3 v1.length)) (L7 (.ls 3 (v1.set v2.toNat a1).length)) R (congrArg (λn=>AV.s (.one (.ls 3 n))) List.length_set.symm) ?_))
 refine Zm 5 (y:=L7 (.ls 3 v1.length)) (L7 (.ls 3 (v1.set v2.toNat a1).length)) R (congrArg (λn=>AV.s (.one (.ls 3 n))) List.length_set.symm) ?_
 refine Zm 9 (y:=L7 (.ls 3 v1.length)) (L7 (.ls 3 (v1.set v2.toNat a1).length)) R (congrArg (λn=>AV.s (.one (.ls 3 n))) List.length_set.symm) ?_
 refine csr (rm 1 R (sv R (Aa Td R) (sst A4j R R R R R (Ah (csr (ld Dq R R R R (sst Kn R R R R R (Ah (Bq ?_)))))))))
 obtain rfl:=SJ h
 refine⟨Or.inr R,_,_,_,(Ad (ra Dq R R R) Aj),(by(repeat' first|exact Ho.nil _|apply Ho.cons|apply Hl.one|apply Hl.agg|exact C5.nil|exact C5.ls _ _ _ _ _ _ R (Aw (f:=Bu) (λ_=>R) _).symm|exact C5.id _ R|exact Cv.nil _|apply Cv.cons)),?_⟩
 rfl
def Pb (a0:Ai) (a1:Int) (a2:A7):Option (Ai×Int) :=
 (Hu a0 a1).bind λv1=>if (!decide (v1.2=0)) then((Dx a0 v1.2).bind λv2=>some (v2,v1.2)) else(if v1.1.RO then(some (a0,7)) else((Em v1.1.Buf a2).bind λv3=>if (!decide (v3.2=0)) then((Sk a0 v1.1 v3.2).bind λv4=>some (v4,v3.2)) else((O6 a0 ({v1.1 with Buf:=v3.1})).bind λv5=>some (v5,0))))
theorem Va {a0:Ai} {a1:Int} {a2:A7} {r:Ai×Int} (h:Pb a0 a1 a2=some r):Bt Qx0 25 [.agg (EL.el a0),.one (Ii6 a1),.agg (EL.el a2)] (·=.tup [.agg (EL.el r.1),.one (Ii6 r.2)]):=by
 unfold Pb at h
 refine A1 Tryz.func25 R (nt:=46) R (Nbl R) ?_
 intro w0 S0
 refine csr (Er R R (Er R R (Br R Tg (rm 1 R (Ah (csr (ld Dq R R R R (sv R (Az R) ?_))))))))
 obtain⟨v1,hv1,h⟩:=Ae h
 refine Bb R Axw (Ac R (Ac R Ag)) (Ao R) (O4 hv1) (sv R (Cf R) (sv R (Ak R R) (sv R (Ak R R) (Br R Ad7 (sst Adv R R R R R (rm 1 R (Ah (Bj (csr (rm 1 R (sv R (Cc R R) (Ah (ccI h R (λh=>?_) (λh=>?_))))))))))))))
 ·refine csr (ld Dq R R R R (sv R (Az R) ?_))
  obtain⟨v2,hv2,h⟩:=Ae h
  refine Bb R Awb (Ac R (Ac R Ag)) (Ao R) (J9 hv2) (rm 1 R (sst Kn R R R R R (rm 1 R (Ah (Bq (Af ?_))))))
  obtain rfl:=SJ h
  exact dn (Ad (ra Dq R R R) (Ad (rt R) Aj)) (Ao R) R
 ·refine Bf (Ab (Bj (csr (fl Akh ti4 R R R R R R (Ah (ccI h R (λh=>?_) (λh=>?_)))))))
  ·refine csr (ld Dq R R R R (sst Kn R R R R R (rm 1 R (Ah (Bq (Af ?_))))))
   obtain rfl:=SJ h
   exact dn (Ad (ra Dq R R R) (Ad (rt R) Aj)) (Ao R) R
  ·refine Bf (Ab (csr (sv R (Aa Yr R) (ld Ajb R R R R (sv R (lo Aij R R R) ?_)))))
   obtain⟨v3,hv3,h⟩:=Ae h
   refine Bb R A5g (Ac R (Ac R Ag)) (Ao R) (Aa2 hv3) (sv R (Cf R) (sv R (Ak R R) (sv R (Ak R R) (Br R Aw0 (sst Avd R R R R R (rm 1 R (Ah (Bj (csr (rm 1 R (sv R (Cc R R) (Ah (ccI h R (λh=>?_) (λh=>?_))))))))))))))
   ·refine csr (ld Dq R R R R (ld Zc R R R R (rm 1 R (sv R (Aks Tryz.underlying62 R) ?_))))
    obtain⟨v4,hv4,h⟩:=Ae h
    refine Bb R A5l (Ac R (Ac R (Ac R Ag))) (Ao R) (Ab7 hv4) (rm 1 R (sst Kn R R R R R (rm 1 R (Ah (Bq (Af ?_))))))
    obtain rfl:=SJ h
    exact dn (Ad (ra Dq R R R) (Ad (rt R) Aj)) (Ao R) R
   ·refine Bf (Ab (csr (ld Ajb R R R R (sv R (Aa Yr R) (sst Avd R R R R R (Ah (csr (ld Dq R R R R (sv R (lo Zc R R R) ?_)))))))))
    obtain⟨v5,hv5,h⟩:=Ae h
    refine Bb R A59 (Ac R (Ac R Ag)) (Ao R) (Yo hv5) (sst Kn R R R R R (rm 1 R (Ah (Bq ?_))))
    obtain rfl:=SJ h
    exact dn (Ad (ra Dq R R R) (Ad (rt R) Aj)) (Ao R) R
def Pu (b1:(List (List UInt8))):Option (List (List UInt8)) :=
 some b1
def P9 (a0:B7) (s2:Int×(List (List UInt8))):Option (LB (Int×(List (List UInt8))) ((List (List UInt8)))) :=
 if (decide (s2.1<(a0.L.length:Int))) then((idx a0.L s2.1).bind λu3=>if (s2.2.length+[u3.Key].length)*24<=140737488355328 then(some (.cont ((wI (s2.1+1)),(s2.2++[u3.Key])))) else none) else(some (.brk s2.2))
def Nk (a0:B7):Option (List (List UInt8)) :=
 (Cz (P9 a0) fuel (0,([]:List (List UInt8)))).bind λe5=>Pu e5
theorem Aac {a0:B7} {r:(List (List UInt8))} (h:Nk a0=some r):Bt Qx0 141 [.agg [SL a0.L A5]] (·=L7 (SL r (eL eU8))):=by
 unfold Nk at h
 refine A1 Tryz.func141 R (nt:=20) R (Nbl R) ?_
 intro w0 S0
 refine csr (Er R R (rm 1 R (Ah (csr (rm 1 R (Ah (Bj (csr (fl Xn Am4 R R R R R R (sv R (Ap Zh R) (rm 1 R (Ah ?_))))))))))))
 refine Dl 56 1 3 (by decide) R ?_
 refine cj ((List (List UInt8))) (λb1=>[(3,L7 (.ls 1 b1.length))]) (λb1=>[.box [SL a0.L A5],.arr 56 1 0 (b1.flatMap (eL eU8))]) (λb1=>Pu b1=some r) (λ_=>R) (λb1 h=>?_) ?_
 ·unfold Pu at h
  refine csr (rm 2 R (Ah (Bq ?_)))
  obtain rfl:=SJ h
  refine⟨Or.inr R,_,_,_,(Ad (rt R) Aj),(by(repeat' first|exact Ho.nil _|apply Ho.cons|apply Hl.one|apply Hl.agg|exact C5.nil|exact C5.ls _ _ _ _ _ _ R (Aw (f:=(eL eU8)) (λ_=>R) _).symm|exact C5.id _ R|exact Cv.nil _|apply Cv.cons)),?_⟩
  rfl
 ·skip
  refine Bl ?_
  obtain⟨x2,hx2,ho2⟩:=Ae h
  refine lpo (G:=Nat×(Int×(List (List UInt8)))) (λg=>[(3,L7 (.ls 1 g.2.2.length)),(7,L7 (SL a0.L A5)),(8,L7 (Ii6 (a0.L.length:Int))),(9,L7 (Ii6 g.2.1))]) (λg=>[.box [SL a0.L A5],.arr 56 1 0 (g.2.2.flatMap (eL eU8))]) (λg=>Cz (P9 a0) g.1 g.2=some x2) (λg=>g.1) (fuel,(0,([]:List (List UInt8)))) hx2 ⟨R,R,R,R,trivial⟩ [] R (λ_=>R) ?_
  clear hx2 h
  rintro⟨n2,s2⟩ h
  obtain⟨n2,y2,rfl,h,hk2⟩:=Cw h
  unfold P9 at h
  refine csr (sv R (Bv R R) (Ah (Bj (ccI h R (λh=>?_) (λh=>?_)))))
  ·refine Bf (Ab (Bj (Bl (Bj (Au ?_)))))
   obtain⟨u3,hu3,h⟩:=Ae h
   refine sv R (B4 (f:=A5) Zh (λ_=>R) R R R R hu3) ?_
   refine sv R (Bs (ys:=[SL u3.Key eU8,SL u3.Val eU8,.b u3.Del]) Aij R (.cp _) R R) (Br R Aml (sst Ao8 R R R R R (Ah (Au (rm 1 R (sv R (Aa Tn R) (sv R (l1 L3 R R R) ?_)))))))
   refine D7 R Tryz.underlying25 Aid R R (zI.1 R) (by decide) ?_
   refine Ql [.box [SL a0.L A5],.arr 56 1 0 (s2.2.flatMap (eL eU8)),.box (EL.el u3),.arr 56 1 0 ([u3.Key].flatMap (eL eU8))] R ?_
   obtain⟨hb4,h⟩:=Cs h
   refine U1 (f:=(eL eU8)) (xs:=s2.2) (us:=[u3.Key]) R Tryz.underlying25 Aid Av5 (λ_=>R) R R (.one _ _ _ _ (.ls _ _ _ _ _ _ R (Aw (f:=(eL eU8)) (λ_=>R) [u3.Key]).symm)) R R R (.sl _ _ _ (Aw (f:=(eL eU8)) (λ_=>R) _)) R R hb4 (by decide) ?_
   refine rm 1 R (Jb (Ar (Ab (Au (sv R (Bp R R) (rm 1 R (Ah ?_)))))))
   obtain rfl:=SJ h
   exact⟨(n2,((wI (s2.1+1)),(s2.2++[u3.Key]))),_,hk2,⟨R,R,R,R,trivial⟩,R,zG _⟩
  ·refine C3 (As (As (Bi (Ab ?_))))
   obtain rfl:=SJ h
   obtain rfl:_=x2:=hk2
   exact⟨s2.2,_,ho2,⟨R,trivial⟩,R⟩
def Qf (b2:Unit):Option Bool :=
 some true
def Gq (a0:Be) (a2:Int) (s3:Int):Option (LR (Int) (Unit) (Bool)) :=
 if (decide (s3<(a0.Txs.length:Int))) then((idx a0.Txs s3).bind λu4=>if (decide (a2<=u4.End)) then(some (.ret false)) else(some (.cont (wI (s3+1))))) else(some (.brk ()))
def Gw (a0:Be) (a2:Int) (b1:Unit):Option Bool :=
 (Iz (Gq a0 a2) fuel 0).bind λx=>match x with | .inl r=>some r | .inr e5=>Qf e5
def Nh (a0:Be) (a1:A3) (a2:Int) (a3:List (List UInt8)):Option Bool :=
 if (decide (a2<=a1.Begin)) then(some false) else(if (decide (1099511627776<a2)) then(some false) else((Hy a3).bind λv6=>if (!v6) then(some false) else(if a1.RO then(if (decide (0<(a3.length:Int))) then(some false) else(Gw a0 a2 ())) else(Gw a0 a2 ()))))
theorem Zz {a0:Be} {a1:A3} {a2:Int} {a3:List (List UInt8)} {r:Bool} (h:Nh a0 a1 a2 a3=some r):Bt Qx0 209 [.agg (EL.el a0),.agg (EL.el a1),.one (Ii6 a2),.one (SL a3 (eL eU8))] (·=L7 (.b r)):=by
 unfold Nh at h
 refine A1 Tryz.func209 R (nt:=45) R (Nbl R) ?_
 intro w0 S0
 refine csr (Er R R (Er R R (rm 1 R (Ah (Bj (Bj (cj3 (Unit) (λb1=>[(2,L7 (Ii6 a2)),(4,L7 (.lp 0 0))]) (λb1=>[.box (EL.el a0),.box (EL.el a1)]) (λb1=>Gw a0 a2 b1=some r) (λ_=>R) (λb1 h=>?_) ?_)))))))
 ·unfold Gw at h
  refine Bj (csr (fl Oy Abz R R R R R R (sv R (Ap R8 R) (rm 1 R (Ah (cj (Unit) (λb2=>[]) (λb2=>[.box (EL.el a0),.box (EL.el a1)]) (λb2=>Qf b2=some r) (λ_=>R) (λb2 h=>?_) ?_))))))
  ·unfold Qf at h
   refine csr (rm 1 R (Ah (Bq ?_)))
   obtain rfl:=SJ h
   exact dnT R R R R
  ·skip
   refine Bl ?_
   obtain⟨x3,hx3,ho3⟩:=Ae h
   refine lpo (G:=Nat×(Int)) (λg=>[(2,L7 (Ii6 a2)),(34,L7 (SL a0.Txs Bc)),(35,L7 (Ii6 (a0.Txs.length:Int))),(36,L7 (Ii6 g.2))]) (λg=>[.box (EL.el a0),.box (EL.el a1)]) (λg=>Iz (Gq a0 a2) g.1 g.2=some x3) (λg=>g.1) (fuel,0) hx3 ⟨R,R,R,R,trivial⟩ [] R (λ_=>R) ?_
   clear hx3 h
   rintro⟨n3,s3⟩ h
   obtain⟨n3,y3,rfl,h,hk3⟩:=Dj h
   unfold Gq at h
   refine csr (sv R (Bv R R) (Ah (Bj (ccI h R (λh=>?_) (λh=>?_)))))
   ·refine Bf (Ab (Bj (Bl (Bj (Au ?_)))))
    obtain⟨u4,hu4,h⟩:=Ae h
    refine sv R (B4 (f:=Bc) R8 (λ_=>R) R R R R hu4) ?_
    refine sv R (Bs (ys:=[Ii6 u4.ID,Ii6 u4.Begin,Ii6 u4.End,Ii6 u4.State,.b u4.In,.b u4.Out,.b u4.RO,SL u4.Keys (eL eU8)]) J8 R (.cp _) R R) (Br R U7 (sst Ub R R R R R (Ah (csr (rm 1 R (fl Rq ti3 R R R R R R (sv R (Dk R R) (Ah (ccI h R (λh=>?_) (λh=>?_))))))))))
    ·refine csr (rm 1 R (Ah (Bq (Av (Af (Af (Av (Af ?_))))))))
     obtain rfl:=SJ h
     obtain rfl:Sum.inl _=x3:=hk3
     replace ho3:some _=some _:=ho3
     obtain rfl:=zD ho3
     exact dnT R R R R
    ·refine Bf (Ar (Ab (Au (sv R (Bp R R) (rm 1 R (Ah ?_))))))
     obtain rfl:=SJ h
     exact⟨(n3,(wI (s3+1))),_,hk3,⟨R,R,R,R,trivial⟩,R,zG _⟩
   ·refine C3 (As (As (Bi (Ab ?_))))
    obtain rfl:=SJ h
    obtain rfl:_=x3:=hk3
    exact⟨(),_,ho3,trivial,R⟩
 ·skip
  refine Au (rm 1 R (fl Wk ti3 R R R R R R (sv R (Dk R R) (rm 1 R (ssI 15 h R (λh=>?_) (λh=>?_))))))
  ·refine rm 12 R (Cp R R R (Cp R R R (Cp R R R (rm 2 R (Ah (Ce R (λ_=>?_) (λhx=>Bool.noConfusion hx)))))))
   refine csr (rm 1 R (Ah (Bq (Af ?_))))
   obtain rfl:=SJ h
   exact dnT R R R R
  ·refine rm 1 R (son R R R (sv R (Dr R R) (rm 2 R (ssI 19 h R (λh=>?_) (λh=>?_)))))
   ·refine rm 8 R (Cp R R R (Cp R R R (Cp R R R (rm 2 R (Ah (Ce R (λ_=>?_) (λhx=>Bool.noConfusion hx)))))))
    refine csr (rm 1 R (Ah (Bq (Af ?_))))
    obtain rfl:=SJ h
    exact dnT R R R R
   ·refine rm 1 R (son R R R ?_)
    obtain⟨v6,hv6,h⟩:=Ae h
    refine Bb R Azl (Ac R Ag) (Ao R) (Sr hv6) (son R R R (sv R (Bz R) (rm 2 R (ssI 24 h R (λh=>?_) (λh=>?_)))))
    ·refine rm 3 R (Cp R R R (Cp R R R (Cp R R R (rm 2 R (Ah (Ce R (λ_=>?_) (λhx=>Bool.noConfusion hx)))))))
     refine csr (rm 1 R (Ah (Bq (Af ?_))))
     obtain rfl:=SJ h
     exact dnT R R R R
    ·refine son R R R (sv R (Aa Afa R) (son R R R (sv R (l1 ti4 R R R) (rm 1 R (ssI 27 h R (λh=>?_) (λh=>?_))))))
     ·refine rm 1 R (son R R R (sv R (Ap Se R) (son R R R (sv R (Dr R R) (rm 2 R (Ah (ccI h R (λh=>?_) (λh=>?_))))))))
      ·refine csr (rm 1 R (Ah (Bq (Af ?_))))
       obtain rfl:=SJ h
       exact dnT R R R R
      ·refine Bf (Ab ?_)
       exact⟨(),_,h,⟨R,R,trivial⟩,R⟩
     ·refine rm 5 R (Ah (Ce R (λhx=>Bool.noConfusion hx) (λ_=>?_)))
      refine Bf (Ab ?_)
      exact⟨(),_,h,⟨R,R,trivial⟩,R⟩
def Ol (b1:Unit):Option Bool :=
 some false
def Hg (s2:Int) (b5:Unit):Option (LR (Int) (Unit) (Bool)) :=
 some (.cont (wI (s2+1)))
def Fh (a2:List (List UInt8)) (u3:A3) (s6:Int):Option (LR (Int) (Unit) (Bool)) :=
 if (decide (s6<(a2.length:Int))) then((idx a2 s6).bind λu7=>(Ly u3.Keys u7).bind λv8=>if v8.2 then(some (.ret true)) else(some (.cont (wI (s6+1))))) else(some (.brk ()))
def Kg (a2:List (List UInt8)) (s2:Int) (u3:A3) (b4:Unit):Option (LR (Int) (Unit) (Bool)) :=
 (Iz (Fh a2 u3) fuel 0).bind λx=>match x with | .inl r=>some (.ret r) | .inr e9=>Hg s2 e9
def Fo (a0:Be) (a1:A3) (a2:List (List UInt8)) (s2:Int):Option (LR (Int) (Unit) (Bool)) :=
 if (decide (s2<(a0.Txs.length:Int))) then((idx a0.Txs s2).bind λu3=>if (!decide (u3.State=2)) then(some (.cont (wI (s2+1)))) else((Fb a1 u3).bind λv10=>if (!v10) then(some (.cont (wI (s2+1)))) else(Kg a2 s2 u3 ()))) else(some (.brk ()))
def H8 (a0:Be) (a1:A3) (a2:List (List UInt8)):Option Bool :=
 (Iz (Fo a0 a1 a2) fuel 0).bind λx=>match x with | .inl r=>some r | .inr e11=>Ol e11
theorem X7 {a0:Be} {a1:A3} {a2:List (List UInt8)} {r:Bool} (h:H8 a0 a1 a2=some r):Bt Qx0 210 [.agg (EL.el a0),.agg (EL.el a1),.one (SL a2 (eL eU8))] (·=L7 (.b r)):=by
 unfold H8 at h
 refine A1 Tryz.func210 R (nt:=45) R (Nbl R) ?_
 intro w0 S0
 refine csr (Er R R (Er R R (rm 1 R (Ah (Bj (csr (fl Oy Abz R R R R R R (sv R (Ap R8 R) (rm 1 R (Ah (cj (Unit) (λb1=>[]) (λb1=>[.box (EL.el a0),.box (EL.el a1)]) (λb1=>Ol b1=some r) (λ_=>R) (λb1 h=>?_) ?_)))))))))))
 ·unfold Ol at h
  refine csr (rm 1 R (Ah (Bq ?_)))
  obtain rfl:=SJ h
  exact dnT R R R R
 ·skip
  refine Bl ?_
  obtain⟨x2,hx2,ho2⟩:=Ae h
  refine lpo (G:=Nat×(Int)) (λg=>[(2,L7 (SL a2 (eL eU8))),(4,L7 (.lp 1 0)),(14,L7 (SL a0.Txs Bc)),(15,L7 (Ii6 (a0.Txs.length:Int))),(16,L7 (Ii6 g.2))]) (λg=>[.box (EL.el a0),.box (EL.el a1)]) (λg=>Iz (Fo a0 a1 a2) g.1 g.2=some x2) (λg=>g.1) (fuel,0) hx2 ⟨R,R,R,R,R,trivial⟩ [] R (λ_=>R) ?_
  clear hx2 h
  rintro⟨n2,s2⟩ h
  obtain⟨n2,y2,rfl,h,hk2⟩:=Dj h
  unfold Fo at h
  refine csr (sv R (Bv R R) (Ah (Bj (ccI h R (λh=>?_) (λh=>?_)))))
  ·refine Bf (Ab (Bj (Bl (Bj (Au ?_)))))
   obtain⟨u3,hu3,h⟩:=Ae h
   refine sv R (B4 (f:=Bc) R8 (λ_=>R) R R R R hu3) ?_
   refine sv R (Bs (ys:=[Ii6 u3.ID,Ii6 u3.Begin,Ii6 u3.End,Ii6 u3.State,.b u3.In,.b u3.Out,.b u3.RO,SL u3.Keys (eL eU8)]) J8 R (.cp _) R R) (Br R U7 (sst Ub R R R R R (Ah (Bj (Bj (cj3 (Unit) (λb4=>[(2,L7 (SL a2 (eL eU8))),(4,L7 (.lp 1 0)),(8,L7 (.lp 2 0)),(14,L7 (SL a0.Txs Bc)),(15,L7 (Ii6 (a0.Txs.length:Int))),(16,L7 (Ii6 s2))]) (λb4=>[.box (EL.el a0),.box (EL.el a1),.box (EL.el u3)]) (λb4=>Kg a2 s2 u3 b4=some y2) (λ_=>R) (λb4 h=>?_) ?_))))))
   ·unfold Kg at h
    refine csr (rm 1 R (sv R (Ap Se R) (rm 1 R (Ah (Atu (Unit) (λb5=>[(2,L7 (SL a2 (eL eU8))),(4,L7 (.lp 1 0)),(14,L7 (SL a0.Txs Bc)),(15,L7 (Ii6 (a0.Txs.length:Int))),(16,L7 (Ii6 s2))]) (λb5=>[.box (EL.el a0),.box (EL.el a1),.box (EL.el u3)]) (λb5=>Hg s2 b5=some y2) (λ_ _=>Acn R) (λ_ _=>Uz R) (λ_ _=>Nbl R) (λb5 h=>?_) ?_)))))
    ·unfold Hg at h
     refine Au (sv R (Bp R R) (rm 1 R (Ah ?_)))
     obtain rfl:=SJ h
     exact⟨(n2,(wI (s2+1))),_,hk2,⟨R,R,R,R,R,trivial⟩,R,zG _⟩
    ·skip
     refine Bl ?_
     obtain⟨x6,hx6,ho6⟩:=Ae h
     refine lpo (G:=Nat×(Int)) (λg=>[(2,L7 (SL a2 (eL eU8))),(4,L7 (.lp 1 0)),(8,L7 (.lp 2 0)),(14,L7 (SL a0.Txs Bc)),(15,L7 (Ii6 (a0.Txs.length:Int))),(16,L7 (Ii6 s2)),(29,L7 (SL a2 (eL eU8))),(30,L7 (Ii6 (a2.length:Int))),(31,L7 (Ii6 g.2))]) (λg=>[.box (EL.el a0),.box (EL.el a1),.box (EL.el u3)]) (λg=>Iz (Fh a2 u3) g.1 g.2=some x6) (λg=>g.1) (fuel,0) hx6 ⟨R,R,R,R,R,R,R,R,R,trivial⟩ [] R (λ_=>R) ?_
     clear hx6 h
     rintro⟨n6,s6⟩ h
     obtain⟨n6,y6,rfl,h,hk6⟩:=Dj h
     unfold Fh at h
     refine csr (sv R (Bv R R) (Ah (Bj (ccI h R (λh=>?_) (λh=>?_)))))
     ·refine Bf (Ab (Bj (Bl (Bj (Au ?_)))))
      obtain⟨u7,hu7,h⟩:=Ae h
      refine sv R (B4 (f:=(eL eU8)) Se (λ_=>R) R R R R hu7) ?_
      refine sv R (B0 L3 R (.cp _) R) (rm 1 R (Ah (csr (fl Ve Xo R R R R R R (sv R (Az R) ?_)))))
      obtain⟨v8,hv8,h⟩:=Ae h
      refine Bb R A03 (Ac R (Ac R Ag)) (Ao R) (Sz hv8) (sv R (Cf R) (sv R (Ak R R) (sv R (Ak R R) (rm 2 R (Ah (csr (rm 1 R (Ah (ccI h R (λh=>?_) (λh=>?_))))))))))
      ·refine csr (rm 1 R (Ah (Bq (Av (Af (Af (Av (Av (Af (Af (Av (Af ?_))))))))))))
       obtain rfl:=SJ h
       obtain rfl:Sum.inl _=x6:=hk6
       replace ho6:some _=some _:=ho6
       obtain rfl:=zD ho6
       obtain rfl:Sum.inl _=x2:=hk2
       replace ho2:some _=some _:=ho2
       obtain rfl:=zD ho2
       exact dnT R R R R
      ·refine Bf (Ar (Ab (Au (sv R (Bp R R) (rm 1 R (Ah ?_))))))
       obtain rfl:=SJ h
       exact⟨(n6,(wI (s6+1))),_,hk6,⟨R,R,R,R,R,R,R,R,R,trivial⟩,R,zG _⟩
     ·refine C3 (As (As (Bi (Ar (Ab ?_)))))
      obtain rfl:=SJ h
      obtain rfl:_=x6:=hk6
      exact⟨(),_,ho6,⟨R,R,R,R,R,trivial⟩,R⟩
   ·skip
    refine Au (fl Qb ti3 R R R R R R (sv R (Cc R R) (rm 1 R (ssI 23 h R (λh=>?_) (λh=>?_)))))
    ·refine rm 5 R (Ah (Ce R (λ_=>?_) (λhx=>Bool.noConfusion hx)))
     refine C3 (As (Bi (Ab (Au (sv R (Bp R R) (rm 1 R (Ah ?_)))))))
     obtain rfl:=SJ h
     exact⟨(n2,(wI (s2+1))),_,hk2,⟨R,R,R,R,R,trivial⟩,R,zG _⟩
    ·refine son R R R (ld J8 R R R R (son R R R (ld J8 R R R R (son R R R ?_))))
     obtain⟨v10,hv10,h⟩:=Ae h
     refine Bb R Avf (Ac R (Ac R Ag)) (Ao R) (Qq hv10) (son R R R (sv R (Bz R) (rm 1 R (Ah (ccI h R (λh=>?_) (λh=>?_))))))
     ·refine C3 (As (Bi (Ab (Au (sv R (Bp R R) (rm 1 R (Ah ?_)))))))
      obtain rfl:=SJ h
      exact⟨(n2,(wI (s2+1))),_,hk2,⟨R,R,R,R,R,trivial⟩,R,zG _⟩
     ·refine Bf (Ab ?_)
      exact⟨(),_,h,⟨R,R,R,R,R,R,trivial⟩,R⟩
  ·refine C3 (As (As (Bi (Ab ?_))))
   obtain rfl:=SJ h
   obtain rfl:_=x2:=hk2
   exact⟨(),_,ho2,trivial,R⟩
def Amh:Go.Shelf.Ren:=⟨λ| 5=>269|8=>191|7=>278|19=>246|20=>247|10=>282|11=>283|12=>284|13=>285|14=>286|15=>287|16=>288|17=>289|18=>290|30=>293|31=>263|32=>264|33=>294|34=>295|35=>296|40=>297|n=>n,λ| 23=>225|25=>3|3=>3|32=>307|22=>225|0=>0|44=>365|46=>367|4=>4|36=>359|35=>358|41=>177|5=>5|9=>9|53=>389|57=>393|63=>404|64=>405|n=>n,λ| n=>n⟩
theorem Azj:Go.Proofs.SlLaysM.n5 Qx0 Amh:={
 mixed:=by kernel_rfl,
 f5 :=⟨ "slices.Sort[[]int,int]", by decide, Tryz.func269.trans (congrArg some (by kernel_rfl))⟩,
 f7 :=⟨ "slices.pdqsortOrdered[int]", by decide, Tryz.func278.trans (congrArg some (by kernel_rfl))⟩,
 f8:=Tryz.func191.trans (congrArg some (by kernel_rfl)),
 f10 :=⟨ "slices.insertionSortOrdered[int]", by decide, Tryz.func282.trans (congrArg some (by kernel_rfl))⟩,
 f11 :=⟨ "slices.heapSortOrdered[int]", by decide, Tryz.func283.trans (congrArg some (by kernel_rfl))⟩,
 f12 :=⟨ "slices.breakPatternsOrdered[int]", by decide, Tryz.func284.trans (congrArg some (by kernel_rfl))⟩,
 f13 :=⟨ "slices.choosePivotOrdered[int]", by decide, Tryz.func285.trans (congrArg some (by kernel_rfl))⟩,
 f14 :=⟨ "slices.reverseRangeOrdered[int]", by decide, Tryz.func286.trans (congrArg some (by kernel_rfl))⟩,
 f15 :=⟨ "slices.partialInsertionSortOrdered[int]", by decide, Tryz.func287.trans (congrArg some (by kernel_rfl))⟩,
 f16 :=⟨ "cmp.Less[int]", by decide, Tryz.func288.trans (congrArg some (by kernel_rfl))⟩,
 f17 :=⟨ "slices.partitionEqualOrdered[int]", by decide, Tryz.func289.trans (congrArg some (by kernel_rfl))⟩,
 f18 :=⟨ "slices.partitionOrdered[int]", by decide, Tryz.func290.trans (congrArg some (by kernel_rfl))⟩,
 f19:=Tryz.func246.trans (congrArg some (by kernel_rfl)),
 f20:=Tryz.func247.trans (congrArg some (by kernel_rfl)),
 f30 :=⟨ "slices.siftDownOrdered[int]", by decide, Tryz.func293.trans (congrArg some (by kernel_rfl))⟩,
 f31:=Tryz.func263.trans (congrArg some (by kernel_rfl)),
 f32:=Tryz.func264.trans (congrArg some (by kernel_rfl)),
 f33 :=⟨ "slices.medianAdjacentOrdered[int]", by decide, Tryz.func294.trans (congrArg some (by kernel_rfl))⟩,
 f34 :=⟨ "slices.medianOrdered[int]", by decide, Tryz.func295.trans (congrArg some (by kernel_rfl))⟩,
 f35 :=⟨ "cmp.isNaN[int]", by decide, Tryz.func296.trans (congrArg some (by kernel_rfl))⟩,
 f40 :=⟨ "slices.order2Ordered[int]", by decide, Tryz.func297.trans (congrArg some (by kernel_rfl))⟩,
 t0:=Tryz.underlying0,
 a0:=Tryz.isAgg0,
 z0:=Tryz.sizeOf0,
 v0:=Tryz.zeroValue0,
 t3:=Tryz.underlying3,
 a3:=Tryz.isAgg3,
 z3:=Tryz.sizeOf3,
 v3:=Tryz.zeroValue3,
 t4:=Tryz.underlying4,
 a4:=Tryz.isAgg4,
 z4:=Tryz.sizeOf4,
 v4:=Tryz.zeroValue4,
 t5:=Tryz.underlying5,
 a5:=Tryz.isAgg5,
 z5:=Tryz.sizeOf5,
 v5:=Tryz.zeroValue5,
 t9:=Tryz.underlying9,
 a9:=Tryz.isAgg9,
 z9:=Tryz.sizeOf9,
 v9:=Tryz.zeroValue9,
 t22:=Tryz.underlying225,
 a22:=Tryz.isAgg225,
 z22:=Tryz.sizeOf225,
 v22:=Tryz.zeroValue225,
 t23:=Tryz.underlying225,
 a23:=Tryz.isAgg225,
 z23:=Tryz.sizeOf225,
 v23:=Tryz.zeroValue225,
 t25:=Tryz.underlying3,
 a25:=Tryz.isAgg3,
 z25:=Tryz.sizeOf3,
 v25:=Tryz.zeroValue3,
 t32:=Tryz.underlying307,
 a32:=Tryz.isAgg307,
 z32:=Tryz.sizeOf307,
 v32:=Tryz.zeroValue307,
 t35:=Tryz.underlying358,
 a35:=Tryz.isAgg358,
 z35:=Tryz.sizeOf358,
 v35:=Tryz.zeroValue358,
 t36:=Tryz.underlying359,
 a36:=Tryz.isAgg359,
 z36:=Tryz.sizeOf359,
 v36:=Tryz.zeroValue359,
 t41:=Tryz.underlying177,
 a41:=Tryz.isAgg177,
 z41:=Tryz.sizeOf177,
 v41:=Tryz.zeroValue177,
 t44:=Tryz.underlying365,
 a44:=Tryz.isAgg365,
 z44:=Tryz.sizeOf365,
 v44:=Tryz.zeroValue365,
 t46:=Tryz.underlying367,
 a46:=Tryz.isAgg367,
 z46:=Tryz.sizeOf367,
 v46:=Tryz.zeroValue367,
 t53:=Tryz.underlying389,
 a53:=Tryz.isAgg389,
 z53:=Tryz.sizeOf389,
 v53:=Tryz.zeroValue389,
 t57:=Tryz.underlying393,
 a57:=Tryz.isAgg393,
 z57:=Tryz.sizeOf393,
 v57:=Tryz.zeroValue393,
 t63:=Tryz.underlying404,
 a63:=Tryz.isAgg404,
 z63:=Tryz.sizeOf404,
 v63:=Tryz.zeroValue404,
 t64:=Tryz.underlying405,
 a64:=Tryz.isAgg405,
 z64:=Tryz.sizeOf405,
 v64:=Tryz.zeroValue405 }
def O9 (a0:List Int):Option (List Int):=if a0.length<=1000000000000000000 then some (a0.mergeSort λx y=>decide (x<=y)) else none
theorem Y1 {a0 r:List Int} (h:O9 a0=some r):Dw Qx0 269 [.arr 3 1 0 (a0.flatMap eI)] [.one (.ls 0 a0.length)] (λy m'=>y=.tup []/\m'=[.arr 3 1 0 (r.flatMap eI)]):=by
 unfold O9 at h
 obtain⟨hn,h⟩:=Cs h
 obtain rfl:=SJ h
 exact Ave Azj hn
def Al5:Go.Shelf.Ren:=⟨λ| 43=>270|n=>n,λ| 22=>225|23=>3|3=>3|4=>4|0=>0|n=>n,λ| n=>n⟩
theorem Azx:Go.Proofs.SlLaysE.n43 Qx0 Al5:={
 mixed:=by kernel_rfl,
 f43 :=⟨ "slices.Compact[[]int,int]", by decide, Tryz.func270.trans (congrArg some (by kernel_rfl))⟩,
 t0:=Tryz.underlying0,
 a0:=Tryz.isAgg0,
 z0:=Tryz.sizeOf0,
 v0:=Tryz.zeroValue0,
 t3:=Tryz.underlying3,
 a3:=Tryz.isAgg3,
 z3:=Tryz.sizeOf3,
 v3:=Tryz.zeroValue3,
 t4:=Tryz.underlying4,
 a4:=Tryz.isAgg4,
 z4:=Tryz.sizeOf4,
 v4:=Tryz.zeroValue4,
 t22:=Tryz.underlying225,
 a22:=Tryz.isAgg225,
 z22:=Tryz.sizeOf225,
 v22:=Tryz.zeroValue225,
 a23:=Tryz.isAgg3,
 z23:=Tryz.sizeOf3 }
theorem Al0:Bt Qx0 270 [.one (Znl)] (·=L7 (Znl)):=by
 refine A1 Tryz.func270 R (nt:=61) R (Nbl R) ?_
 intro w0 S0
 refine csr (rm 1 R (Ah (Bj (csr (rm 1 R (sv R (F5 Ava R) (sv R (Bv R R) (Ah ?_))))))))
 refine Ce R (λ_=>?_) (λhx=>absurd hx (by decide))
 refine csr (rm 2 R (Ah (Bq (Af (⟨Or.inr R,_,_,_,(Ad (rt R) Aj),(Ao R),?_⟩)))))
 rfl
def Lw (a0:List Int):Option (List Int):=if a0.length<=1000000000000000000 then some (Al6 a0) else none
theorem Wb {a0 r:List Int} (h:Lw a0=some r):Dw Qx0 270 [.arr 3 1 0 (a0.flatMap eI)] [.one (.ls 0 a0.length)] (λy m'=>y=L7 (.ls 1 r.length)/\m'=[.dead,.arr 3 1 0 (r.flatMap eI)]):=by
 unfold Lw at h
 obtain⟨hn,h⟩:=Cs h
 obtain rfl:=SJ h
 exact Awo Azx hn (Go.Proofs.EqlAt.intD _ _ .i64) (Go.Proofs.NeqAt.intD _ _ .i64) Tryz.zeroValue3 Al0
def Ji (b1:(List Int)):Option (List Int) :=
 (O9 b1).bind λv2=>if v2.length=b1.length then((Lw v2).bind λv4=>some v4) else none
def Gu (a0:B3) (a1:List UInt8) (s5:Int×(List Int)):Option (LB (Int×(List Int)) ((List Int))) :=
 if (decide (s5.1<(a0.L.length:Int))) then((idx a0.L s5.1).bind λu6=>(Hp u6.Rng a1).bind λv7=>if v7 then(if (s5.2.length+[u6.Tx].length)*8<=140737488355328 then(some (.cont ((wI (s5.1+1)),(s5.2++[u6.Tx])))) else none) else(some (.cont ((wI (s5.1+1)),s5.2)))) else(some (.brk s5.2))
def K7 (a0:B3) (a1:List UInt8):Option (List Int) :=
 (Cz (Gu a0 a1) fuel (0,([]:List Int))).bind λe9=>Ji e9
theorem T8 {a0:B3} {a1:List UInt8} {r:(List Int)} (h:K7 a0 a1=some r):Bt Qx0 254 [.agg [SL a0.L Ax],.one (SL a1 eU8)] (·=L7 (SL r eI)):=by
 unfold K7 at h
 refine A1 Tryz.func254 R (nt:=29) R (Nbl R) ?_
 intro w0 S0
 refine csr (Er R R (rm 1 R (Ah (csr (rm 1 R (Ah (Bj (csr (fl Uc Ah8 R R R R R R (sv R (Ap Acb R) (rm 1 R (Ah ?_))))))))))))
 refine Dl 3 1 5 (by decide) R ?_
 refine cj ((List Int)) (λb1=>[(5,L7 (.ls 1 b1.length))]) (λb1=>[.box [SL a0.L Ax],.arr 3 1 0 (b1.flatMap eI)]) (λb1=>Ji b1=some r) (λ_=>R) (λb1 h=>?_) ?_
 ·unfold Ji at h
  refine csr (sv R (Az R) ?_)
  obtain⟨v2,hv2,h⟩:=Ae h
  refine I0 (x':=.tup []) (M':=[.box [SL a0.L Ax],.arr 3 1 0 (v2.flatMap eI)]) [1] R A4a (.func _) (Ac R Ag) (Y1 hv2) R R (by decide) R R R ?_
  obtain⟨hl3,h⟩:=Cs h
  refine Nn 5 (y:=L7 (.ls 1 b1.length)) (L7 (.ls 1 v2.length)) R (congrArg (λn=>AV.s (.one (.ls 1 n))) hl3.symm) ?_
  refine Nn 25 (y:=L7 (.ls 1 b1.length)) (L7 (.ls 1 v2.length)) R (congrArg (λn=>AV.s (.one (.ls 1 n))) hl3.symm) ?_
  refine Ah (csr (sv R (Az R) ?_))
  obtain⟨v4,hv4,h⟩:=Ae h
  refine I0 (x':=L7 (.ls 2 v4.length)) (M':=[.box [SL a0.L Ax],.dead,.arr 3 1 0 (v4.flatMap eI)]) [1] R A3i (.func _) (Ac R Ag) (Wb hv4) R R (by decide) R R R ?_
  refine rm 1 R (Ah (Bq ?_))
  obtain rfl:=SJ h
  refine⟨Or.inr R,_,_,_,(Ad (rt R) Aj),(by(repeat' first|exact Ho.nil _|apply Ho.cons|apply Hl.one|apply Hl.agg|exact C5.nil|exact C5.ls _ _ _ _ _ _ R (Aw (f:=eI) (λ_=>R) _).symm|exact C5.id _ R|exact Cv.nil _|apply Cv.cons)),?_⟩
  rfl
 ·skip
  refine Bl ?_
  obtain⟨x5,hx5,ho5⟩:=Ae h
  refine lpo (G:=Nat×(Int×(List Int))) (λg=>[(1,L7 (SL a1 eU8)),(5,L7 (.ls 1 g.2.2.length)),(9,L7 (SL a0.L Ax)),(10,L7 (Ii6 (a0.L.length:Int))),(11,L7 (Ii6 g.2.1))]) (λg=>[.box [SL a0.L Ax],.arr 3 1 0 (g.2.2.flatMap eI)]) (λg=>Cz (Gu a0 a1) g.1 g.2=some x5) (λg=>g.1) (fuel,(0,([]:List Int))) hx5 ⟨R,R,R,R,R,trivial⟩ [] R (λ_=>R) ?_
  clear hx5 h
  rintro⟨n5,s5⟩ h
  obtain⟨n5,y5,rfl,h,hk5⟩:=Cw h
  unfold Gu at h
  refine csr (sv R (Bv R R) (Ah (Bj (ccI h R (λh=>?_) (λh=>?_)))))
  ·refine Bf (Ab (Bj (Bl (Bj (Au ?_)))))
   obtain⟨u6,hu6,h⟩:=Ae h
   refine sv R (B4 (f:=Ax) Acb (λ_=>R) R R R R hu6) ?_
   refine sv R (Bs (ys:=[Ii6 u6.Tx,SL u6.Rng.Lo eU8,SL u6.Rng.Hi eU8,.b u6.Rng.Open]) Adj R (.cp _) R R) (Br R Amu (sst Aqm R R R R R (Ah (csr (sv R (Aa Yd R) (ld Ac4 R R R R (sv R (Az R) ?_)))))))
   obtain⟨v7,hv7,h⟩:=Ae h
   refine Bb R Aoi (Ac R (Ac R Ag)) (Ao R) (N0 hv7) (Ah (ccI h R (λh=>?_) (λh=>?_)))
   ·refine Au (rm 1 R (sv R (Aa Ab9 R) (sv R (l1 ti3 R R R) ?_)))
    refine D7 R Tryz.underlying225 ei3 R R (zI.1 R) (by decide) ?_
    refine Ql [.box [SL a0.L Ax],.arr 3 1 0 (s5.2.flatMap eI),.box (EL.el u6),.arr 3 1 0 ([u6.Tx].flatMap eI)] R ?_
    obtain⟨hb8,h⟩:=Cs h
    refine U1 (f:=eI) (xs:=s5.2) (us:=[u6.Tx]) R Tryz.underlying225 ei3 Aos (λ_=>R) R R (.one _ _ _ _ (.ls _ _ _ _ _ _ R (Aw (f:=eI) (λ_=>R) [u6.Tx]).symm)) R R R (.sl _ _ _ (Aw (f:=eI) (λ_=>R) _)) R R hb8 (by decide) ?_
    refine rm 1 R (Jb (Ar (Ab (Au (sv R (Bp R R) (rm 1 R (Ah ?_)))))))
    obtain rfl:=SJ h
    exact⟨(n5,((wI (s5.1+1)),(s5.2++[u6.Tx]))),_,hk5,⟨R,R,R,R,R,trivial⟩,R,zG _⟩
   ·refine Bf (Ar (Ab (Au (sv R (Bp R R) (rm 1 R (Ah ?_))))))
    obtain rfl:=SJ h
    exact⟨(n5,((wI (s5.1+1)),s5.2)),_,hk5,⟨R,R,R,R,R,trivial⟩,R,zG _⟩
  ·refine C3 (As (As (Bi (Ab ?_))))
   obtain rfl:=SJ h
   obtain rfl:_=x5:=hk5
   exact⟨s5.2,_,ho5,⟨R,trivial⟩,R⟩
def N1 (b1:(List Int)):Option (List Int) :=
 some b1
def Ny (a0:Be) (a1:List (List UInt8)) (s2:Int×(List Int)):Option (LB (Int×(List Int)) ((List Int))) :=
 if (decide (s2.1<(a1.length:Int))) then((idx a1 s2.1).bind λu3=>(K7 a0.Reads u3).bind λv4=>if (s2.2.length+v4.length)*8<=140737488355328 then(some (.cont ((wI (s2.1+1)),(s2.2++v4)))) else none) else(some (.brk s2.2))
def T0 (a0:Be) (a1:List (List UInt8)):Option (List Int) :=
 (Cz (Ny a0 a1) fuel (0,([]:List Int))).bind λe6=>N1 e6
theorem Aic {a0:Be} {a1:List (List UInt8)} {r:(List Int)} (h:T0 a0 a1=some r):Bt Qx0 212 [.agg (EL.el a0),.one (SL a1 (eL eU8))] (·=L7 (SL r eI)):=by
 unfold T0 at h
 refine A1 Tryz.func212 R (nt:=22) R (Nbl R) ?_
 intro w0 S0
 refine csr (Er R R (rm 1 R (Ah (csr (rm 1 R (Ah (Bj (csr (rm 1 R (sv R (Ap Se R) (rm 1 R (Ah ?_))))))))))))
 refine Dl 3 1 5 (by decide) R ?_
 refine cj ((List Int)) (λb1=>[(5,L7 (.ls 1 b1.length))]) (λb1=>[.box (EL.el a0),.arr 3 1 0 (b1.flatMap eI)]) (λb1=>N1 b1=some r) (λ_=>R) (λb1 h=>?_) ?_
 ·unfold N1 at h
  refine csr (rm 2 R (Ah (Bq ?_)))
  obtain rfl:=SJ h
  refine⟨Or.inr R,_,_,_,(Ad (rt R) Aj),(by(repeat' first|exact Ho.nil _|apply Ho.cons|apply Hl.one|apply Hl.agg|exact C5.nil|exact C5.ls _ _ _ _ _ _ R (Aw (f:=eI) (λ_=>R) _).symm|exact C5.id _ R|exact Cv.nil _|apply Cv.cons)),?_⟩
  rfl
 ·skip
  refine Bl ?_
  obtain⟨x2,hx2,ho2⟩:=Ae h
  refine lpo (G:=Nat×(Int×(List Int))) (λg=>[(2,L7 (.lp 0 0)),(5,L7 (.ls 1 g.2.2.length)),(8,L7 (SL a1 (eL eU8))),(9,L7 (Ii6 (a1.length:Int))),(10,L7 (Ii6 g.2.1))]) (λg=>[.box (EL.el a0),.arr 3 1 0 (g.2.2.flatMap eI)]) (λg=>Cz (Ny a0 a1) g.1 g.2=some x2) (λg=>g.1) (fuel,(0,([]:List Int))) hx2 ⟨R,R,R,R,R,trivial⟩ [] R (λ_=>R) ?_
  clear hx2 h
  rintro⟨n2,s2⟩ h
  obtain⟨n2,y2,rfl,h,hk2⟩:=Cw h
  unfold Ny at h
  refine csr (sv R (Bv R R) (Ah (Bj (ccI h R (λh=>?_) (λh=>?_)))))
  ·refine Bf (Ab (Bj (Bl (Bj (Au ?_)))))
   obtain⟨u3,hu3,h⟩:=Ae h
   refine sv R (B4 (f:=(eL eU8)) Se (λ_=>R) R R R R hu3) ?_
   refine sv R (B0 L3 R (.cp _) R) (rm 1 R (Ah (Au (rm 1 R (sv R (Aa Vy R) (ld Afg R R R R (sv R (Az R) ?_)))))))
   obtain⟨v4,hv4,h⟩:=Ae h
   refine Bb R A0n (Ac R (Ac R Ag)) (Ao R) (T8 hv4) ?_
   obtain⟨hb5,h⟩:=Cs h
   refine U1 (f:=eI) (xs:=s2.2) (us:=v4) R Tryz.underlying225 ei3 Aos (λ_=>R) R R (.one _ _ _ _ (.id _ R)) R R R (.sl _ _ _ (Aw (f:=eI) (λ_=>R) _)) R R hb5 (by decide) ?_
   refine rm 1 R (Jb (Ar (Ab (Au (sv R (Bp R R) (rm 1 R (Ah ?_)))))))
   obtain rfl:=SJ h
   exact⟨(n2,((wI (s2.1+1)),(s2.2++v4))),_,hk2,⟨R,R,R,R,R,trivial⟩,R,zG _⟩
  ·refine C3 (As (As (Bi (Ab ?_))))
   obtain rfl:=SJ h
   obtain rfl:_=x2:=hk2
   exact⟨s2.2,_,ho2,⟨R,trivial⟩,R⟩
def Mk (b1:(List Int)):Option (List Int) :=
 some b1
def El (a0:Be) (a1:List (List UInt8)) (s2:Int×(List Int)):Option (LB (Int×(List Int)) ((List Int))) :=
 if (decide (s2.1<(a1.length:Int))) then((idx a1 s2.1).bind λu3=>(K7 a0.Reads u3).bind λv4=>if (s2.2.length+v4.length)*8<=140737488355328 then(some (.cont ((wI (s2.1+1)),(s2.2++v4)))) else none) else(some (.brk s2.2))
def Ip (a0:Be) (a1:List (List UInt8)):Option (List Int) :=
 (Cz (El a0 a1) fuel (0,([]:List Int))).bind λe6=>Mk e6
theorem Vw {a0:Be} {a1:List (List UInt8)} {r:(List Int)} (h:Ip a0 a1=some r):Dw Qx0 212 [] [.agg (EL.el a0),.one (SL a1 (eL eU8))] (λy m'=>y=L7 (.ls 0 r.length)/\m'=[.arr 3 1 0 (r.flatMap eI)]):=by
 unfold Ip at h
 refine Dn Tryz.func212 R (nt:=22) R (Nbl R) ?_
 intro w0 S0 X0 H0
 refine csr (Er R R (rm 1 R (Ah (csr (rm 1 R (Ah (Bj (csr (rm 1 R (sv R (Ap Se R) (rm 1 R (Ah ?_))))))))))))
 refine Dl 3 1 5 (by decide) R ?_
 refine cj ((List Int)) (λb1=>[(5,L7 (.ls 1 b1.length))]) (λb1=>[.box (EL.el a0),.arr 3 1 0 (b1.flatMap eI)]) (λb1=>Mk b1=some r) (λ_=>R) (λb1 h=>?_) ?_
 ·unfold Mk at h
  refine csr (rm 2 R (Ah (Bq ?_)))
  obtain rfl:=SJ h
  exact⟨Or.inr R,_,[1],[.one (.ls 0 b1.length)],[.arr 3 1 0 (b1.flatMap eI)],(Ad (rt R) Aj),R,R,⟨by decide,R⟩,R,R,⟨R,R⟩⟩
 ·skip
  refine Bl ?_
  obtain⟨x2,hx2,ho2⟩:=Ae h
  refine lpo (G:=Nat×(Int×(List Int))) (λg=>[(2,L7 (.lp 0 0)),(5,L7 (.ls 1 g.2.2.length)),(8,L7 (SL a1 (eL eU8))),(9,L7 (Ii6 (a1.length:Int))),(10,L7 (Ii6 g.2.1))]) (λg=>[.box (EL.el a0),.arr 3 1 0 (g.2.2.flatMap eI)]) (λg=>Cz (El a0 a1) g.1 g.2=some x2) (λg=>g.1) (fuel,(0,([]:List Int))) hx2 ⟨R,R,R,R,R,trivial⟩ [] R (λ_=>R) ?_
  clear hx2 h
  rintro⟨n2,s2⟩ h
  obtain⟨n2,y2,rfl,h,hk2⟩:=Cw h
  unfold El at h
  refine csr (sv R (Bv R R) (Ah (Bj (ccI h R (λh=>?_) (λh=>?_)))))
  ·refine Bf (Ab (Bj (Bl (Bj (Au ?_)))))
   obtain⟨u3,hu3,h⟩:=Ae h
   refine sv R (B4 (f:=(eL eU8)) Se (λ_=>R) R R R R hu3) ?_
   refine sv R (B0 L3 R (.cp _) R) (rm 1 R (Ah (Au (rm 1 R (sv R (Aa Vy R) (ld Afg R R R R (sv R (Az R) ?_)))))))
   obtain⟨v4,hv4,h⟩:=Ae h
   refine Bb R A0n (Ac R (Ac R Ag)) (Ao R) (T8 hv4) ?_
   obtain⟨hb5,h⟩:=Cs h
   refine U1 (f:=eI) (xs:=s2.2) (us:=v4) R Tryz.underlying225 ei3 Aos (λ_=>R) R R (.one _ _ _ _ (.id _ R)) R R R (.sl _ _ _ (Aw (f:=eI) (λ_=>R) _)) R R hb5 (by decide) ?_
   refine rm 1 R (Jb (Ar (Ab (Au (sv R (Bp R R) (rm 1 R (Ah ?_)))))))
   obtain rfl:=SJ h
   exact⟨(n2,((wI (s2.1+1)),(s2.2++v4))),_,hk2,⟨R,R,R,R,R,trivial⟩,R,zG _⟩
  ·refine C3 (As (As (Bi (Ab ?_))))
   obtain rfl:=SJ h
   obtain rfl:_=x2:=hk2
   exact⟨s2.2,_,ho2,⟨R,trivial⟩,R⟩
def Pe (b1:(List A3)):Option (Bool×(List A3)) :=
 some (true,b1)
def Ls (a1:Int) (s2:Int×(List A3)) (u3:A3) (b4:Unit):Option (LR (Int×(List A3)) ((List A3)) (Bool×(List A3))) :=
 (Ib).bind λv5=>(F1 s2.2 s2.1 a1).bind λv6=>if v6.length=s2.2.length then(if (decide (u3.State=2)) then((idx v6 s2.1).bind λu8=>(J7 u8).bind λv9=>if v9 then(some (.ret (false,v6))) else(some (.cont ((wI (s2.1+1)),v6)))) else(some (.cont ((wI (s2.1+1)),v6)))) else none
def F2 (a0:List A3) (a1:Int) (a2:List Int) (s2:Int×(List A3)):Option (LR (Int×(List A3)) ((List A3)) (Bool×(List A3))) :=
 if (decide (s2.1<(a0.length:Int))) then((idx s2.2 s2.1).bind λu3=>if (decide (s2.1=a1)) then(some (.cont ((wI (s2.1+1)),s2.2))) else((D4 a2 u3.ID).bind λv10=>if (!v10) then(some (.cont ((wI (s2.1+1)),s2.2))) else((idx s2.2 a1).bind λu11=>(Fb u3 u11).bind λv12=>if (!v12) then(some (.cont ((wI (s2.1+1)),s2.2))) else(Ls a1 s2 u3 ())))) else(some (.brk s2.2))
def Mc (a0:List A3) (a1:Int) (a2:List Int):Option (Bool×(List A3)) :=
 (Iz (F2 a0 a1 a2) fuel (0,a0)).bind λx=>match x with | .inl r=>some r | .inr e13=>Pe e13
theorem Yq {a0:List A3} {a1:Int} {a2:List Int} {r:Bool×(List A3)} (h:Mc a0 a1 a2=some r):Dw Qx0 211 [.arr 139 8 0 (a0.flatMap Bc)] [.one (.ls 0 a0.length),.one (Ii6 a1),.one (SL a2 eI)] (λy m'=>y=L7 (.b r.1)/\m'=[.arr 139 8 0 (r.2.flatMap Bc)]):=by
 unfold Mc at h
 refine Dn Tryz.func211 R (nt:=51) R (Nbl R) ?_
 intro w0 S0 X0 H0
 refine csr (rm 1 R (Ah (Bj (csr (rm 1 R (sv R (H6 R8 R R (Aw (f:=Bc) (λ_=>R) _).symm) ?_))))))
 refine rm 1 R (Ah (cj ((List A3)) (λb1=>[]) (λb1=>[.arr 139 8 0 (b1.flatMap Bc)]) (λb1=>Pe b1=some r) (λ_=>R) (λb1 h=>?_) ?_))
 ·unfold Pe at h
  refine csr (rm 1 R (Ah (Bq ?_)))
  obtain rfl:=SJ h
  exact⟨Or.inr R,_,[0],[.one (.b true)],[.arr 139 8 0 (b1.flatMap Bc)],(Ad (rt R) Aj),R,R,⟨by decide,R⟩,R,R,⟨R,R⟩⟩
 ·skip
  refine Bl ?_
  obtain⟨x2,hx2,ho2⟩:=Ae h
  refine lpo (G:=Nat×(Int×(List A3))) (λg=>[(0,L7 (.ls 0 g.2.2.length)),(1,L7 (Ii6 a1)),(2,L7 (SL a2 eI)),(9,L7 (.ls 0 g.2.2.length)),(10,L7 (Ii6 (a0.length:Int))),(11,L7 (Ii6 g.2.1))]) (λg=>[.arr 139 8 0 (g.2.2.flatMap Bc)]) (λg=>Iz (F2 a0 a1 a2) g.1 g.2=some x2) (λg=>g.1) (fuel,(0,a0)) hx2 ⟨R,R,R,R,R,R,trivial⟩ [] R (λ_=>R) ?_
  clear hx2 h
  rintro⟨n2,s2⟩ h
  obtain⟨n2,y2,rfl,h,hk2⟩:=Dj h
  unfold F2 at h
  refine csr (sv R (Bv R R) (Ah (Bj (ccI h R (λh=>?_) (λh=>?_)))))
  ·refine Bf (Ab (Bj (Bl (csr (sv R (Az R) ?_)))))
   obtain⟨u3,hu3,h⟩:=Ae h
   refine sv R (G8 (f:=Bc) R8 (λ_=>R) R R R R R hu3) ?_
   refine sv R (Pt (f:=Bc) (sz:=8) 0 J8 (λ_=>R) R R R R (Jd hu3).2 (Nbl R) R) ?_
   refine Br R U7 (rm 1 R (sst Ub R R R R R (Ah (Bj (Bj (cj3 (Unit) (λb4=>[(0,L7 (.ls 0 s2.2.length)),(1,L7 (Ii6 a1)),(2,L7 (SL a2 eI)),(7,L7 (Ii6 s2.1)),(8,L7 (.lp 1 0)),(9,L7 (.ls 0 s2.2.length)),(10,L7 (Ii6 (a0.length:Int))),(11,L7 (Ii6 s2.1))]) (λb4=>[.arr 139 8 0 (s2.2.flatMap Bc),.box (EL.el u3)]) (λb4=>Ls a1 s2 u3 b4=some y2) (λ_=>R) (λb4 h=>?_) ?_))))))
   ·unfold Ls at h
    refine Bj (Au ?_)
    obtain⟨v5,hv5,h⟩:=Ae h
    refine I0 (x':=.s (.agg [.raw (.func (.func 252) #[] #[]),.raw (.func (.func 253) #[] #[])])) (M':=[.arr 139 8 0 (s2.2.flatMap Bc),.box (EL.el u3)]) [] R Ay4 (.func _) Ag (Sy hv5) R R (by decide) R R R ?_
    refine rm 2 R (sv R (Az R) ?_)
    obtain⟨v6,hv6,h⟩:=Ae h
    refine I0 (x':=.tup []) (M':=[.arr 139 8 0 (v6.flatMap Bc),.box (EL.el u3)]) [0] R A0e (.func _) (Ac R (Ac R (Ac R (Ac R Ag)))) (Rc hv6) R R (by decide) R R R ?_
    obtain⟨hl7,h⟩:=Cs h
    refine Nn 0 (y:=L7 (.ls 0 s2.2.length)) (L7 (.ls 0 v6.length)) R (congrArg (λn=>AV.s (.one (.ls 0 n))) hl7.symm) ?_
    refine Nn 9 (y:=L7 (.ls 0 s2.2.length)) (L7 (.ls 0 v6.length)) R (congrArg (λn=>AV.s (.one (.ls 0 n))) hl7.symm) ?_
    refine Nn 36 (y:=L7 (.ls 0 s2.2.length)) (L7 (.ls 0 v6.length)) R (congrArg (λn=>AV.s (.one (.ls 0 n))) hl7.symm) ?_
    refine Ah (csr (fl Qb ti3 R R R R R R (sv R (B6 R R) (rm 1 R (ssI 43 h R (λh=>?_) (λh=>?_))))))
    ·refine rm 2 R (son R R R ?_)
     obtain⟨u8,hu8,h⟩:=Ae h
     refine sv R (G8 (f:=Bc) R8 (λ_=>R) R R R R R hu8) ?_
     refine son R R R (sv R (Pt (f:=Bc) (sz:=8) 0 J8 (λ_=>R) R R R R (Jd hu8).2 (Nbl R) R) ?_)
     refine son R R R ?_
     obtain⟨v9,hv9,h⟩:=Ae h
     refine Bb R Awd (Ac R Ag) (Ao R) (Rr hv9) (rm 1 R (Ah (ccI h R (λh=>?_) (λh=>?_))))
     ·refine csr (rm 1 R (Ah (Bq (Av (Af (Af (Av (Af ?_))))))))
      obtain rfl:=SJ h
      obtain rfl:Sum.inl _=x2:=hk2
      replace ho2:some _=some _:=ho2
      obtain rfl:=zD ho2
      exact⟨Or.inr R,_,[0],[.one (.b false)],[.arr 139 8 0 (v6.flatMap Bc)],(Ad (rt R) Aj),R,R,⟨by decide,R⟩,R,R,⟨R,R⟩⟩
     ·refine Bf (Ar (Ab (Au (sv R (Bp R R) (rm 1 R (Ah ?_))))))
      obtain rfl:=SJ h
      exact⟨(n2,((wI (s2.1+1)),v6)),_,hk2,⟨R,R,R,R,R,R,trivial⟩,R,zG _⟩
    ·refine rm 6 R (Ah (Ce R (λhx=>Bool.noConfusion hx) (λ_=>?_)))
     refine Bf (Ar (Ab (Au (sv R (Bp R R) (rm 1 R (Ah ?_))))))
     obtain rfl:=SJ h
     exact⟨(n2,((wI (s2.1+1)),v6)),_,hk2,⟨R,R,R,R,R,R,trivial⟩,R,zG _⟩
   ·skip
    refine Ue mixed (by kernel_rfl) ?_
    refine dv R (Az R) (dv R (Az R) (dv R (B6 R R) (dv R (Az R) (Qd 19 R (λhc=>?_) (λhc=>?_)))))
    ·replace h:=Q5 hc h
     clear hc
     refine C0 R R R R (C0 R R R R (C0 R R R R (C0 R R R R (C0 R R R R (dv R (Ch R R) (dv R (Az R) (C0 R R R R (C0 R R R R (C0 R R R R (C0 R R R R (C0 R R R R (C0 R R R R (C0 R R R R (dv R (Ch R R) (U8 (Ab (Ce R (λ_=>?_) (λhx=>Bool.noConfusion hx))))))))))))))))))
     refine C3 (As (Bi (Ab (Au (sv R (Bp R R) (rm 1 R (Ah ?_)))))))
     obtain rfl:=SJ h
     exact⟨(n2,((wI (s2.1+1)),s2.2)),_,hk2,⟨R,R,R,R,R,R,trivial⟩,R,zG _⟩
    ·replace h:=Qy hc h
     clear hc
     refine dvg R R R (Az R) (dvg R R R (Aa Vb R) (dvg R R R (l1 ti3 R R R) ?_))
     obtain⟨v10,hv10,h⟩:=Ae h
     refine ddg R R R (Cm Aur (Ac R (Ac R Ag)) R (Mm hv10)) (dvg R R R (Bz R) (dv R (Cl R R) (dv R (Az R) (Qd 26 R (λhc=>?_) (λhc=>?_)))))
     ·replace h:=Q5 hc h
      clear hc
      refine C0 R R R R (C0 R R R R (C0 R R R R (C0 R R R R (C0 R R R R (C0 R R R R (C0 R R R R (dv R (Ch R R) (U8 (Ab (Ce R (λ_=>?_) (λhx=>Bool.noConfusion hx)))))))))))
      refine C3 (As (Bi (Ab (Au (sv R (Bp R R) (rm 1 R (Ah ?_)))))))
      obtain rfl:=SJ h
      exact⟨(n2,((wI (s2.1+1)),s2.2)),_,hk2,⟨R,R,R,R,R,R,trivial⟩,R,zG _⟩
     ·replace h:=Qy hc h
      clear hc
      refine dvg R R R (lo J8 R R R) (dvg R R R (Az R) (dvg R R R (Az R) ?_))
      obtain⟨u11,hu11,h⟩:=Ae h
      refine dvg R R R (G8 (f:=Bc) R8 (λ_=>R) R R R R R hu11) ?_
      refine dvg R R R (Pt (f:=Bc) (sz:=8) 0 J8 (λ_=>R) R R R R (Jd hu11).2 (Nbl R) R) ?_
      obtain⟨v12,hv12,h⟩:=Ae h
      refine ddg R R R (Cm Avf (Ac R (Ac R Ag)) R (Qq hv12)) (dvg R R R (Bz R) (dv R (Cl R R) (U8 (Ab (ccI h R (λh=>?_) (λh=>?_))))))
      ·refine C3 (As (Bi (Ab (Au (sv R (Bp R R) (rm 1 R (Ah ?_)))))))
       obtain rfl:=SJ h
       exact⟨(n2,((wI (s2.1+1)),s2.2)),_,hk2,⟨R,R,R,R,R,R,trivial⟩,R,zG _⟩
      ·refine Bf (Ab ?_)
       exact⟨(),_,h,⟨R,R,R,R,R,R,R,R,trivial⟩,R⟩
  ·refine C3 (As (As (Bi (Ab ?_))))
   obtain rfl:=SJ h
   obtain rfl:_=x2:=hk2
   exact⟨s2.2,_,ho2,trivial,R⟩
def My (a0:Be) (a2:Int) (a3:List (List UInt8)) (v2:Int) (b8:(List A3)):Option (Be×Int) :=
 (idx b8 v2).bind λu9=>(idx (b8.set v2.toNat ({u9 with State:=2})) v2).bind λu10=>(idx ((b8.set v2.toNat ({u9 with State:=2})).set v2.toNat ({u10 with End:=a2})) v2).bind λu11=>some ((Be.mk (((b8.set v2.toNat ({u9 with State:=2})).set v2.toNat ({u10 with End:=a2})).set v2.toNat ({u11 with Keys:=a3})) (B3.mk a0.Reads.L)),0)
def Dy (a0:Be) (a1:Int) (a2:Int) (a3:List (List UInt8)):Option (Be×Int) :=
 (Lq a0).bind λv1=>if (!v1) then(some (Jg,1)) else((Gf a0 a1).bind λv2=>if (decide (v2<0)) then(some (Jg,7)) else((idx a0.Txs v2).bind λu3=>(Nh a0 u3 a2 a3).bind λv4=>if (!v4) then(some (Jg,1)) else((idx a0.Txs v2).bind λu5=>(H8 a0 u5 a3).bind λv6=>if v6 then(some (Jg,9)) else((Ea a0.Txs).bind λv7=>(Ip (Be.mk a0.Txs (B3.mk a0.Reads.L)) a3).bind λv12=>(Mc v7 v2 v12).bind λv13=>if v13.2.length=v7.length then(if (!v13.1) then(some (Jg,10)) else((idx v13.2 v2).bind λu15=>(J7 u15).bind λv16=>if v16 then(some (Jg,10)) else(My a0 a2 a3 v2 v13.2))) else none))))
theorem Zx {a0:Be} {a1:Int} {a2:Int} {a3:List (List UInt8)} {r:Be×Int} (h:Dy a0 a1 a2 a3=some r):Bt Qx0 140 [.agg (EL.el a0),.one (Ii6 a1),.one (Ii6 a2),.one (SL a3 (eL eU8))] (·=.tup [.agg (EL.el r.1),.one (Ii6 r.2)]):=by
 unfold Dy at h
 refine A1 Tryz.func140 R (nt:=81) R (Nbl R) ?_
 intro w0 S0
 refine csr (Er R R (Br R Zq (rm 1 R (Ah (Bj (csr (sv R (lo Sx R R R) ?_)))))))
 obtain⟨v1,hv1,h⟩:=Ae h
 refine Bb R A0y (Ac R Ag) (Ao R) (Q7 hv1) (sv R (Bz R) (Ah (ccI h R (λh=>?_) (λh=>?_))))
 ·refine csr (sv R (A2 Zq Afp A0 (.nil _)) (sst Z6 R R R R R (rm 1 R (Ah (Bq (Af ?_))))))
  obtain rfl:=SJ h
  exact dn (Ad (ra Sx R R R) (Ad (rt R) Aj)) (I8 R) R
 ·refine Bf (Ab (csr (ld Sx R R R R (sv R (Az R) ?_))))
  obtain⟨v2,hv2,h⟩:=Ae h
  refine Bb R Avu (Ac R (Ac R Ag)) (Ao R) (Qr hv2) (rm 1 R (Ah (Bj (Bl (csr (rm 1 R (sv R (Bv R R) (rm 1 R (Ah (ccI h R (λh=>?_) (λh=>?_)))))))))))
  ·refine csr (sv R (A2 Zq Afp A0 (.nil _)) (sst Z6 R R R R R (rm 1 R (Ah (Bq (Av (Af ?_)))))))
   obtain rfl:=SJ h
   exact dn (Ad (ra Sx R R R) (Ad (rt R) Aj)) (I8 R) R
  ·refine Bj ?_
   refine Ue mixed (by kernel_rfl) ?_
   refine dv R (lo Sx R R R) (dv R (Aa Oy R) (dv R (l1 Abz R R R) (dv R (Az R) ?_)))
   obtain⟨u3,hu3,h⟩:=Ae h
   refine dv R (B4 (f:=Bc) R8 (λ_=>R) R R R R hu3) ?_
   refine dv R (Bs (ys:=[Ii6 u3.ID,Ii6 u3.Begin,Ii6 u3.End,Ii6 u3.State,.b u3.In,.b u3.Out,.b u3.RO,SL u3.Keys (eL eU8)]) J8 R (.cp _) R R) (dv R (Az R) (dv R (Az R) ?_))
   obtain⟨v4,hv4,h⟩:=Ae h
   refine dd R (Cm A2z (Ac R (Ac R (Ac R (Ac R Ag)))) R (Zz hv4)) (dv R (Bz R) (dv R (G0 R) (U8 (Ab (ccI h R (λh=>?_) (λh=>?_))))))
   ·refine csr (sv R (A2 Zq Afp A0 (.nil _)) (sst Z6 R R R R R (rm 1 R (Ah (Bq (Av (Af ?_)))))))
    obtain rfl:=SJ h
    exact dn (Ad (ra Sx R R R) (Ad (rt R) Aj)) (I8 R) R
   ·refine Bj ?_
    refine Ue mixed (by kernel_rfl) ?_
    refine dv R (lo Sx R R R) (dv R (Aa Oy R) (dv R (l1 Abz R R R) (dv R (Az R) ?_)))
    obtain⟨u5,hu5,h⟩:=Ae h
    refine dv R (B4 (f:=Bc) R8 (λ_=>R) R R R R hu5) ?_
    refine dv R (Bs (ys:=[Ii6 u5.ID,Ii6 u5.Begin,Ii6 u5.End,Ii6 u5.State,.b u5.In,.b u5.Out,.b u5.RO,SL u5.Keys (eL eU8)]) J8 R (.cp _) R R) (dv R (Az R) ?_)
    obtain⟨v6,hv6,h⟩:=Ae h
    refine dd R (Cm A1e (Ac R (Ac R (Ac R Ag))) R (X7 hv6)) (dv R (G0 R) (U8 (Ab (ccI h R (λh=>?_) (λh=>?_)))))
    ·refine csr (sv R (A2 Zq Afp A0 (.nil _)) (sst Z6 R R R R R (rm 1 R (Ah (Bq (Av (Af ?_)))))))
     obtain rfl:=SJ h
     exact dn (Ad (ra Sx R R R) (Ad (rt R) Aj)) (I8 R) R
    ·refine Bf (Ar (Ab (csr (sv R (Aa Oy R) (sv R (l1 Abz R R R) ?_)))))
     obtain⟨v7,hv7,h⟩:=Ae h
     refine I0 (x':=L7 (.ls 2 v7.length)) (M':=[.box (EL.el a0),.box [Znl,Znl],.arr 139 8 0 (v7.flatMap Bc)]) [] R Ayu (.func _) (Ac R Ag) (R2 hv7) R R (by decide) R R R ?_
     refine rm 1 R (Ah (Bj (Bj (cj3 ((List A3)) (λb8=>[(2,L7 (Ii6 a2)),(3,L7 (SL a3 (eL eU8))),(4,L7 (.lp 0 0)),(8,L7 (.lp 1 0)),(10,L7 (Ii6 v2)),(11,L7 (.ls 2 b8.length))]) (λb8=>[.box (EL.el a0),.box [Znl,Znl],.arr 139 8 0 (b8.flatMap Bc)]) (λb8=>My a0 a2 a3 v2 b8=some r) (λ_=>R) (λb8 h=>?_) ?_))))
     ·unfold My at h
      refine csr (rm 7 R (sv R (Az R) ?_))
      obtain⟨u9,hu9,h⟩:=Ae h
      refine sv R (G8 (f:=Bc) R8 (λ_=>R) R R R R R hu9) ?_
      refine sv R (I5 Qb R R (Aw (f:=Bc) (λ_=>R) _).symm) ?_
      refine Ab2 (f:=Bc) (u':={u9 with State:=2}) (sz:=8) 3 sz3 (λ_=>R) R R R R R R R (zI.1 R) (Jd hu9).2 (Nbl R) R ?_
      refine Nn 11 (y:=L7 (.ls 2 b8.length)) (L7 (.ls 2 (b8.set v2.toNat ({u9 with State:=2})).length)) R (congrArg (λn=>AV.s (.one (.ls 2 n))) List.length_set.symm) ?_
      refine Nn 63 (y:=L7 (.ls 2 b8.length)) (L7 (.ls 2 (b8.set v2.toNat ({u9 with State:=2})).length)) R (congrArg (λn=>AV.s (.one (.ls 2 n))) List.length_set.symm) ?_
      refine Nn 65 (y:=L7 (.ls 2 b8.length)) (L7 (.ls 2 (b8.set v2.toNat ({u9 with State:=2})).length)) R (congrArg (λn=>AV.s (.one (.ls 2 n))) List.length_set.symm) ?_
      refine Nn 67 (y:=L7 (.ls 2 b8.length)) (L7 (.ls 2 (b8.set v2.toNat ({u9 with State:=2})).length)) R (congrArg (λn=>AV.s (.one (.ls 2 n))) List.length_set.symm) ?_
      obtain⟨u10,hu10,h⟩:=Ae h
      refine sv R (G8 (f:=Bc) R8 (λ_=>R) R R R R R hu10) ?_
      refine sv R (I5 Rq R R (Aw (f:=Bc) (λ_=>R) _).symm) ?_
      refine Ab2 (f:=Bc) (u':={u10 with End:=a2}) (sz:=8) 2 sz3 (λ_=>R) R R R R R R R (zI.1 R) (Jd hu10).2 (Nbl R) R ?_
      refine Nn 11 (y:=L7 (.ls 2 (b8.set v2.toNat ({u9 with State:=2})).length)) (L7 (.ls 2 ((b8.set v2.toNat ({u9 with State:=2})).set v2.toNat ({u10 with End:=a2})).length)) R (congrArg (λn=>AV.s (.one (.ls 2 n))) List.length_set.symm) ?_
      refine Nn 63 (y:=L7 (.ls 2 (b8.set v2.toNat ({u9 with State:=2})).length)) (L7 (.ls 2 ((b8.set v2.toNat ({u9 with State:=2})).set v2.toNat ({u10 with End:=a2})).length)) R (congrArg (λn=>AV.s (.one (.ls 2 n))) List.length_set.symm) ?_
      refine Nn 65 (y:=L7 (.ls 2 (b8.set v2.toNat ({u9 with State:=2})).length)) (L7 (.ls 2 ((b8.set v2.toNat ({u9 with State:=2})).set v2.toNat ({u10 with End:=a2})).length)) R (congrArg (λn=>AV.s (.one (.ls 2 n))) List.length_set.symm) ?_
      refine Nn 67 (y:=L7 (.ls 2 (b8.set v2.toNat ({u9 with State:=2})).length)) (L7 (.ls 2 ((b8.set v2.toNat ({u9 with State:=2})).set v2.toNat ({u10 with End:=a2})).length)) R (congrArg (λn=>AV.s (.one (.ls 2 n))) List.length_set.symm) ?_
      obtain⟨u11,hu11,h⟩:=Ae h
      refine sv R (G8 (f:=Bc) R8 (λ_=>R) R R R R R hu11) ?_
      refine sv R (I5 Ve R R (Aw (f:=Bc) (λ_=>R) _).symm) ?_
      refine Ab2 (f:=Bc) (u':={u11 with Keys:=a3}) (sz:=8) 7 A25 (λ_=>R) R R R R R R R (zI.1 R) (Jd hu11).2 (Nbl R) R ?_
      refine Nn 11 (y:=L7 (.ls 2 ((b8.set v2.toNat ({u9 with State:=2})).set v2.toNat ({u10 with End:=a2})).length)) (L7 (.ls 2 (((b8.set v2.toNat ({u9 with State:=2})).set v2.toNat ({u10 with End:=a2})).set v2.toNat ({u11 with Keys:=a3})).length)) R (congrArg (λn=>AV.s (.one (.ls 2 n))) List.length_set.symm) ?_
      refine Nn 63 (y:=L7 (.ls 2 ((b8.set v2.toNat ({u9 with State:=2})).set v2.toNat ({u10 with End:=a2})).length)) (L7 (.ls 2 (((b8.set v2.toNat ({u9 with State:=2})).set v2.toNat ({u10 with End:=a2})).set v2.toNat ({u11 with Keys:=a3})).length)) R (congrArg (λn=>AV.s (.one (.ls 2 n))) List.length_set.symm) ?_
      refine Nn 65 (y:=L7 (.ls 2 ((b8.set v2.toNat ({u9 with State:=2})).set v2.toNat ({u10 with End:=a2})).length)) (L7 (.ls 2 (((b8.set v2.toNat ({u9 with State:=2})).set v2.toNat ({u10 with End:=a2})).set v2.toNat ({u11 with Keys:=a3})).length)) R (congrArg (λn=>AV.s (.one (.ls 2 n))) List.length_set.symm) ?_
      refine Nn 67 (y:=L7 (.ls 2 ((b8.set v2.toNat ({u9 with State:=2})).set v2.toNat ({u10 with End:=a2})).length)) (L7 (.ls 2 (((b8.set v2.toNat ({u9 with State:=2})).set v2.toNat ({u10 with End:=a2})).set v2.toNat ({u11 with Keys:=a3})).length)) R (congrArg (λn=>AV.s (.one (.ls 2 n))) List.length_set.symm) ?_
      refine Ah (csr (rm 1 R (sv R (Aa Vy R) (ld Afg R R R R (sv R (A2 Zq Afp (Aq R (Aq R A0)) (.cons _ _ _ _ _ _ _ R R (Nbl R) (.cons _ _ _ _ _ _ _ R R (Nbl R) (.nil _)))) (sst Z6 R R R R R (rm 1 R (Ah (Bq ?_)))))))))
      obtain rfl:=SJ h
      refine⟨Or.inr R,_,_,_,(Ad (ra Sx R R R) (Ad (rt R) Aj)),(by(repeat' first|exact Ho.nil _|apply Ho.cons|apply Hl.one|apply Hl.agg|exact C5.nil|exact C5.ls _ _ _ _ _ _ R (Aw (f:=Bc) (λ_=>R) _).symm|exact C5.id _ R|exact Cv.nil _|apply Cv.cons)),?_⟩
      rfl
     ·skip
      refine Au (rm 2 R (ld Sx R R R R (sv R (Az R) ?_)))
      obtain⟨v12,hv12,h⟩:=Ae h
      refine I0 (x':=L7 (.ls 3 v12.length)) (M':=[.box (EL.el a0),.box [Znl,Znl],.arr 139 8 0 (v7.flatMap Bc),.arr 3 1 0 (v12.flatMap eI)]) [] R A3c (.func _) (Ac R (Ac R Ag)) (Vw hv12) R R (by decide) R R R ?_
      refine Aif 52 R (by(repeat' first|exact Ho.nil _|apply Ho.cons|apply Hl.one|apply Hl.agg|exact C5.nil|exact C5.ls _ _ _ _ _ _ R (Aw (f:=Bc) (λ_=>R) _).symm|exact C5.ls _ _ _ _ _ _ R (Aw (f:=eI) (λ_=>R) _).symm|exact C5.id _ R|exact Cv.nil _|apply Cv.cons)) ?_
      obtain⟨v13,hv13,h⟩:=Ae h
      refine I0 (x':=L7 (.b v13.1)) (M':=[.box (EL.el a0),.box [Znl,Znl],.arr 139 8 0 (v13.2.flatMap Bc),.arr 3 1 (v12.flatMap eI).length (v12.flatMap eI)]) [2] R A1a (.func _) (Ac R (Ac R (Ac R Ag))) (Yq hv13) R R (by decide) R R R ?_
      obtain⟨hl14,h⟩:=Cs h
      refine Nn 47 (y:=L7 (.ls 2 v7.length)) (L7 (.ls 2 v13.2.length)) R (congrArg (λn=>AV.s (.one (.ls 2 n))) hl14.symm) ?_
      refine Nn 11 (y:=L7 (.ls 2 v7.length)) (L7 (.ls 2 v13.2.length)) R (congrArg (λn=>AV.s (.one (.ls 2 n))) hl14.symm) ?_
      refine Nn 48 (y:=L7 (.ls 2 v7.length)) (L7 (.ls 2 v13.2.length)) R (congrArg (λn=>AV.s (.one (.ls 2 n))) hl14.symm) ?_
      refine sv R (Bz R) (rm 1 R (ssI 55 h R (λh=>?_) (λh=>?_)))
      ·refine rm 6 R (Ah (Ce R (λ_=>?_) (λhx=>Bool.noConfusion hx)))
       refine csr (sv R (A2 Zq Afp A0 (.nil _)) (sst Z6 R R R R R (rm 1 R (Ah (Bq (Af ?_))))))
       obtain rfl:=SJ h
       exact dn (Ad (ra Sx R R R) (Ad (rt R) Aj)) (I8 R) R
      ·refine rm 2 R (son R R R ?_)
       obtain⟨u15,hu15,h⟩:=Ae h
       refine sv R (G8 (f:=Bc) R8 (λ_=>R) R R R R R hu15) ?_
       refine son R R R (sv R (Pt (f:=Bc) (sz:=8) 0 J8 (λ_=>R) R R R R (Jd hu15).2 (Nbl R) R) ?_)
       refine son R R R ?_
       obtain⟨v16,hv16,h⟩:=Ae h
       refine Bb R Awd (Ac R Ag) (Ao R) (Rr hv16) (rm 1 R (Ah (ccI h R (λh=>?_) (λh=>?_))))
       ·refine csr (sv R (A2 Zq Afp A0 (.nil _)) (sst Z6 R R R R R (rm 1 R (Ah (Bq (Af ?_))))))
        obtain rfl:=SJ h
        exact dn (Ad (ra Sx R R R) (Ad (rt R) Aj)) (I8 R) R
       ·refine Bf (Ab ?_)
        exact⟨v13.2,_,h,⟨R,R,R,R,R,R,trivial⟩,R⟩
def Jo (a0:Bn) (a1:Int) (a2:Int) (a3:Int) (b1:Unit):Option (Bn×Int) :=
 (E8 a0 a1).bind λv2=>if (decide (v2.1.State=2)) then(some (Cx,7)) else(if (!decide (v2.1.State=1)) then(some (Cx,14)) else(if (!decide (v2.1.Attempt=a2)) then(some (Cx,14)) else((Dd a0 (Ba.mk a1 a2 2 a3)).bind λv3=>some (v3.1,v3.2))))
def G3 (a0:Bn) (a1:Int) (a2:Int) (a3:Int):Option (Bn×Int) :=
 (De a0).bind λv4=>if (!v4) then(some (Cx,1)) else((Cy a1 a2).bind λv5=>if (!v5) then(some (Cx,1)) else((G4 a3).bind λv6=>if (!v6) then(some (Cx,1)) else(Jo a0 a1 a2 a3 ())))
theorem Xe {a0:Bn} {a1:Int} {a2:Int} {a3:Int} {r:Bn×Int} (h:G3 a0 a1 a2 a3=some r):Bt Qx0 142 [.agg [SL a0.L Al],.one (Ii6 a1),.one (Ii6 a2),.one (Ii6 a3)] (·=.tup [.agg [SL r.1.L Al],.one (Ii6 r.2)]):=by
 unfold G3 at h
 refine A1 Tryz.func142 R (nt:=57) R (Nbl R) ?_
 intro w0 S0
 refine csr (Er R R (Br R X1 (rm 1 R (Ah (Bj (Bj (cj3 (Unit) (λb1=>[(1,L7 (Ii6 a1)),(2,L7 (Ii6 a2)),(3,L7 (Ii6 a3)),(4,L7 (.lp 0 0)),(8,L7 (.lp 1 0))]) (λb1=>[.box [SL a0.L Al],.box [Znl]]) (λb1=>Jo a0 a1 a2 a3 b1=some r) (λ_=>R) (λb1 h=>?_) ?_)))))))
 ·unfold Jo at h
  refine csr (ld P3 R R R R (sv R (Az R) ?_))
  obtain⟨v2,hv2,h⟩:=Ae h
  refine Bb R Azv (Ac R (Ac R Ag)) (Ao R) (Li hv2) (sv R (Cf R) (sv R (Ak R R) (sv R (Ak R R) (Br R W5 (sst Ab6 R R R R R (rm 1 R (Ah (Bj (Bl (csr (fl Wj ti3 R R R R R R (sv R (B6 R R) (rm 1 R (Ah (ccI h R (λh=>?_) (λh=>?_))))))))))))))))
  ·refine csr (sv R (A2 X1 Aec A0 (.nil _)) (sst Vr R R R R R (rm 1 R (Ah (Bq (Av (Af ?_)))))))
   obtain rfl:=SJ h
   exact dn (Ad (ra P3 R R R) (Ad (rt R) Aj)) (I8 R) R
  ·refine csr (fl Wj ti3 R R R R R R (sv R (Cc R R) (rm 1 R (ssI 42 h R (λh=>?_) (λh=>?_)))))
   ·refine rm 6 R (Ah (Ce R (λ_=>?_) (λhx=>Bool.noConfusion hx)))
    refine csr (sv R (A2 X1 Aec A0 (.nil _)) (sst Vr R R R R R (rm 1 R (Ah (Bq (Av (Af ?_)))))))
    obtain rfl:=SJ h
    exact dn (Ad (ra P3 R R R) (Ad (rt R) Aj)) (I8 R) R
   ·refine son R R R (sv R (Aa V0 R) (son R R R (sv R (l1 ti3 R R R) (rm 1 R (son R R R (sv R (Cc R R) (rm 2 R (Ah (ccI h R (λh=>?_) (λh=>?_))))))))))
    ·refine csr (sv R (A2 X1 Aec A0 (.nil _)) (sst Vr R R R R R (rm 1 R (Ah (Bq (Av (Af ?_)))))))
     obtain rfl:=SJ h
     exact dn (Ad (ra P3 R R R) (Ad (rt R) Aj)) (I8 R) R
    ·refine Bf (Ar (Ab (csr (ld P3 R R R R (rm 3 R (sv R (A2 W5 Aj0 (Aq R (Aq R (Aq R (Aq R A0)))) (.cons _ _ _ _ _ _ _ R R (Nbl R) (.cons _ _ _ _ _ _ _ R R (Nbl R) (.cons _ _ _ _ _ _ _ R R (Nbl R) (.cons _ _ _ _ _ _ _ R R (Nbl R) (.nil _)))))) ?_))))))
     obtain⟨v3,hv3,h⟩:=Ae h
     refine Bb R Amt (Ac R (Ac R Ag)) (Ao R) (Ic hv3) (sv R (Ak R R) (sv R (Ak R R) (sst Vr R R R R R (rm 1 R (Ah (Bq ?_))))))
     obtain rfl:=SJ h
     exact dn (Ad (ra P3 R R R) (Ad (rt R) Aj)) (Ao R) R
 ·skip
  refine Au (sv R (lo P3 R R R) ?_)
  obtain⟨v4,hv4,h⟩:=Ae h
  refine Bb R Az0 (Ac R Ag) (Ao R) (Ll hv4) (sv R (Bz R) (rm 1 R (ssI 15 h R (λh=>?_) (λh=>?_))))
  ·refine rm 10 R (Ah (Ce R (λ_=>?_) (λhx=>Bool.noConfusion hx)))
   refine csr (sv R (A2 X1 Aec A0 (.nil _)) (sst Vr R R R R R (rm 1 R (Ah (Bq (Af ?_))))))
   obtain rfl:=SJ h
   exact dn (Ad (ra P3 R R R) (Ad (rt R) Aj)) (I8 R) R
  ·refine rm 2 R (son R R R ?_)
   obtain⟨v5,hv5,h⟩:=Ae h
   refine Bb R Al4 (Ac R (Ac R Ag)) (Ao R) (Ee hv5) (son R R R (sv R (Bz R) (rm 2 R (ssI 21 h R (λh=>?_) (λh=>?_)))))
   ·refine rm 4 R (Ah (Ce R (λ_=>?_) (λhx=>Bool.noConfusion hx)))
    refine csr (sv R (A2 X1 Aec A0 (.nil _)) (sst Vr R R R R R (rm 1 R (Ah (Bq (Af ?_))))))
    obtain rfl:=SJ h
    exact dn (Ad (ra P3 R R R) (Ad (rt R) Aj)) (I8 R) R
   ·refine rm 1 R (son R R R ?_)
    obtain⟨v6,hv6,h⟩:=Ae h
    refine Bb R Aym (Ac R Ag) (Ao R) (R5 hv6) (son R R R (sv R (Bz R) (rm 1 R (Ah (ccI h R (λh=>?_) (λh=>?_))))))
    ·refine csr (sv R (A2 X1 Aec A0 (.nil _)) (sst Vr R R R R R (rm 1 R (Ah (Bq (Af ?_))))))
     obtain rfl:=SJ h
     exact dn (Ad (ra P3 R R R) (Ad (rt R) Aj)) (I8 R) R
    ·refine Bf (Ab ?_)
     exact⟨(),_,h,⟨R,R,R,R,R,trivial⟩,R⟩
def Ev (b1:(List (List UInt8))):Option Bool :=
 (Et b1).bind λv2=>some v2
def Dt (s3:Int×(List (List UInt8))) (u4:A7) (b5:Unit):Option (LR (Int×(List (List UInt8))) ((List (List UInt8))) (Bool)) :=
 if (s3.2.length+[u4.Key].length)*24<=140737488355328 then(some (.cont ((wI (s3.1+1)),(s3.2++[u4.Key])))) else none
def Ey (a0:List A7) (s3:Int×(List (List UInt8))):Option (LR (Int×(List (List UInt8))) ((List (List UInt8))) (Bool)) :=
 if (decide (s3.1<(a0.length:Int))) then((idx a0 s3.1).bind λu4=>if (decide (32<(u4.Val.length:Int))) then(some (.ret false)) else(if u4.Del then(if (decide (0<(u4.Val.length:Int))) then(some (.ret false)) else(Dt s3 u4 ())) else(Dt s3 u4 ()))) else(some (.brk s3.2))
end Go.Proofs.YtkblaobhhoebaaaGreat.Abs
