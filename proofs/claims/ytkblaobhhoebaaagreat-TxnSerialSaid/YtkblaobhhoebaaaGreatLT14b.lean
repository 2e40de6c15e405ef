/-
 t
-/
import Derived.Test.YtkblaobhhoebaaaGreatLT14a
set_option linter.unusedVariables false
set_option linter.unusedSimpArgs false
namespace Go.Proofs.YtkblaobhhoebaaaGreat.Abs
open Go.RowKit Go.Proofs
set_option maxRecDepth 100000
def Gb (a0:List Ao) (a1:Int) (a2:Int):Option (List Ao) :=
 (idx a0 a1).bind λu1=>(Mf u1).bind λv2=>(idx a0 a1).bind λu3=>(idx (a0.set a1.toNat v2) a2).bind λu4=>(Mh u4).bind λv5=>(idx (a0.set a1.toNat v2) a2).bind λu6=>some ((a0.set a1.toNat v2).set a2.toNat v5)
theorem On {a0:List Ao} {a1:Int} {a2:Int} {r:(List Ao)} (h:Gb a0 a1 a2=some r):Cv Qx0 204 [.arr 139 8 0 (a0.flatMap Az)] [.agg [.raw (.func (.func 252) #[] #[]),.raw (.func (.func 253) #[] #[])],.one (.ls 0 a0.length),.one (Ii6 a1),.one (Ii6 a2)] (λy m'=>y=.tup []/\m'=[.arr 139 8 0 (r.flatMap Az)]):=by
 refine Cs Tryz.func204 R (nt:=28) R (Nbl R) ?_
 intro w0 S0 X0 H0
 refine crs R (Bb ?_)
 obtain⟨u1,hu1,h⟩:=Aa h
 obtain⟨v2,hv2,h⟩:=Aa h
 obtain⟨u3,hu3,h⟩:=Aa h
 refine Hs [10] [0,0,0,4,0,0,48,112,252,511,1023] [[.arr 139 8 0 (a0.flatMap Az),.box [.raw (.func (.func 252) #[] #[]),.raw (.func (.func 253) #[] #[])]],[.arr 139 8 0 ((a0.set a1.toNat v2).flatMap Az),.box [.raw (.func (.func 252) #[] #[]),.raw (.func (.func 253) #[] #[])]]] (by kernel_rfl) mixed (by kernel_rfl) (by decide) R R R R ?_
 refine ev (Aw 0 R R) R R (Bj R) (ev (Aw 0 R R) R R (Bj R) (ev (Aw 0 R R) R R (Ah Ash R) (ev (Aw 0 R R) R R (l1 Av1 R R R) (ev (Aw 0 R R) R R (Bj R) (ev (Aw 0 R R) R R (Bj R) ?_)))))
 refine ev (Aw 0 rfl rfl) rfl rfl (Gc (f:=Az) Tu (λ_=>rfl) rfl rfl rfl (by first|rfl|exact List.length_set.symm) rfl hu1) ?_
 refine ev (Aw 0 R R) R R (Np (f:=Az) (sz:=8) 0 Nz fR R R R R (Ft hu1).2 (Nbl R) R) ?_
 refine ed (Aw 0 R R) R R (Ty (fk R) (.raw _ _ R) (Af R A2) R (Uf hv2)) ?_
 refine ev (Aw 0 rfl rfl) rfl rfl (Gc (f:=Az) Tu (λ_=>rfl) rfl rfl rfl (by first|rfl|exact List.length_set.symm) rfl hu3) ?_
 refine ee0 0 R R R R (λζ=>?_) ?_
 ·refine Aa1 (f:=Az) (u':=v2) (sz:=8) 0 Av4 (λ_=>rfl) rfl rfl rfl rfl (by first|rfl|exact List.length_set.symm) rfl rfl (zL.1 rfl) (Ft hu3).2 (Nbl rfl) rfl ?_
  exact Tt
 refine Abz (Ag (Ya 1 (y:=L7 (.ls 0 a0.length)) (L7 (.ls 0 (a0.set a1.toNat v2).length)) R (congrArg (λn=>AV.s (.one (.ls 0 n))) List.length_set.symm) ?_))
 refine Ya 8 (y:=L7 (.ls 0 a0.length)) (L7 (.ls 0 (a0.set a1.toNat v2).length)) R (congrArg (λn=>AV.s (.one (.ls 0 n))) List.length_set.symm) ?_
 refine Ya 12 (y:=L7 (.ls 0 a0.length)) (L7 (.ls 0 (a0.set a1.toNat v2).length)) R (congrArg (λn=>AV.s (.one (.ls 0 n))) List.length_set.symm) ?_
 obtain⟨u4,hu4,h⟩:=Aa h
 obtain⟨v5,hv5,h⟩:=Aa h
 obtain⟨u6,hu6,h⟩:=Aa h
 refine Hs [10] [0,0,0,4,0,0,48,112,252,511,1023] [[.arr 139 8 0 ((a0.set a1.toNat v2).flatMap Az),.box [.raw (.func (.func 252) #[] #[]),.raw (.func (.func 253) #[] #[])]],[.arr 139 8 0 (((a0.set a1.toNat v2).set a2.toNat v5).flatMap Az),.box [.raw (.func (.func 252) #[] #[]),.raw (.func (.func 253) #[] #[])]]] (by kernel_rfl) mixed (by kernel_rfl) (by decide) R R R R ?_
 refine ev (Aw 0 R R) R R (Bj R) (ev (Aw 0 R R) R R (Bj R) (ev (Aw 0 R R) R R (Ah At9 R) (ev (Aw 0 R R) R R (l1 Av1 R R R) (ev (Aw 0 R R) R R (Bj R) (ev (Aw 0 R R) R R (Bj R) ?_)))))
 refine ev (Aw 0 rfl rfl) rfl rfl (Gc (f:=Az) Tu (λ_=>rfl) rfl rfl rfl (by first|rfl|exact List.length_set.symm) rfl hu4) ?_
 refine ev (Aw 0 R R) R R (Np (f:=Az) (sz:=8) 0 Nz fR R R R R (Ft hu4).2 (Nbl R) R) ?_
 refine ed (Aw 0 R R) R R (Ty (fk R) (.raw _ _ R) (Af R A2) R (T7 hv5)) ?_
 refine ev (Aw 0 rfl rfl) rfl rfl (Gc (f:=Az) Tu (λ_=>rfl) rfl rfl rfl (by first|rfl|exact List.length_set.symm) rfl hu6) ?_
 refine ee0 0 R R R R (λζ=>?_) ?_
 ·refine Aa1 (f:=Az) (u':=v5) (sz:=8) 0 Av4 (λ_=>rfl) rfl rfl rfl rfl (by first|rfl|exact List.length_set.symm) rfl rfl (zL.1 rfl) (Ft hu6).2 (Nbl rfl) rfl ?_
  exact Tt
 refine Abz ?_
 cases SJ h
 exact⟨Or.inl R,_,[0],[],[.arr 139 8 0 (((a0.set a1.toNat v2).set a2.toNat v5).flatMap Az)],A4,R,R,⟨by decide,R⟩,R,R,⟨R,R⟩⟩
def I3 (a0:Ao):Option Bool :=
 if a0.In then(some a0.Out) else(some false)
theorem Pd {a0:Ao} {r:Bool} (h:I3 a0=some r):A6 Qx0 205 [.agg (EL.el a0)] (·=L7 (.b r)):=by
 refine An Tryz.func205 R (nt:=9) R (Nbl R) ?_
 intro w0 S0
 refine crs R (csr (rx 3 R (ssI 5 h R (λh=>?_) (λh=>?_))))
 ·refine rsn R (Bn ?_)
  cases SJ h
  exact dnT R R R R
 ·refine rsn R (Bn ?_)
  cases SJ h
  exact dnT R R R R
def L8 (v3:Be×Int) (b5:(List Ao)):Option (Ay×Int) :=
 some ((Ay.mk b5 v3.1),0)
def Pb (v2:Int) (s6:Int×(List Ao)) (b8:Unit):Option (LR (Int×(List Ao)) ((List Ao)) (Ay×Int)) :=
 (Hw).bind λv9=>(Gb s6.2 v2 s6.1).bind λv10=>if v10.length=s6.2.length then((idx v10 s6.1).bind λu12=>(I3 u12).bind λv13=>if v13 then(some (.ret (G8,10))) else(some (.cont ((wI (s6.1+1)),v10)))) else none
def E6 (a2:Ar) (v2:Int) (v4:(List Ao)) (s6:Int×(List Ao)):Option (LR (Int×(List Ao)) ((List Ao)) (Ay×Int)) :=
 if (decide (s6.1<(v4.length:Int))) then((idx s6.2 s6.1).bind λu7=>if (!decide (u7.State=2)) then(some (.cont ((wI (s6.1+1)),s6.2))) else((idx s6.2 v2).bind λu14=>(Ey u7 u14).bind λv15=>if (!v15) then(some (.cont ((wI (s6.1+1)),s6.2))) else((L6 u7 (Ar.mk a2.Lo a2.Hi a2.Open)).bind λv16=>if (!v16) then(some (.cont ((wI (s6.1+1)),s6.2))) else(Pb v2 s6 ())))) else(some (.brk s6.2))
def Fp (a0:Ay) (a1:Int) (a2:Ar):Option (Ay×Int) :=
 (Jw a0).bind λv1=>if (!v1) then(some (G8,1)) else((F6 a0 a1).bind λv2=>if (decide (v2<0)) then(some (G8,7)) else((Hb a0.Reads a1 a2).bind λv3=>if (!decide (v3.2=0)) then(some (G8,v3.2)) else((Dk a0.Txs).bind λv4=>(Gj (E6 a2 v2 v4) fuel (0,v4)).bind λx=>match x with | .inl r=>some r | .inr e17=>L8 v3 e17)))
theorem Z2 {a0:Ay} {a1:Int} {a2:Ar} {r:Ay×Int} (h:Fp a0 a1 a2=some r):A6 Qx0 136 [.agg (EL.el a0),.one (Ii6 a1),.agg (EL.el a2)] (·=.tup [.agg (EL.el r.1),.one (Ii6 r.2)]):=by
 refine An Tryz.func136 R (nt:=79) R (Nbl R) ?_
 intro w0 S0
 refine crs R (Bb (csr (rx 1 R ?_)))
 obtain⟨v1,hv1,h⟩:=Aa h
 refine scI R R (Og hv1) (rsn R (ccI h R (λh=>?_) (λh=>?_)))
 ·refine crs R (crt ?_)
  cases SJ h
  exact dE R (F1 R) R
 ·refine csn (csr (rx 2 R ?_))
  obtain⟨v2,hv2,h⟩:=Aa h
  refine scI R R (N8 hv2) (rsn R (Bb (crs R (ccI h R (λh=>?_) (λh=>?_)))))
  ·refine crs R (crt ?_)
   cases SJ h
   exact dE R (F1 R) R
  ·refine csn (csr (rx 4 R ?_))
   obtain⟨v3,hv3,h⟩:=Aa h
   refine scI R R (Y6 hv3) (rsn R (Bb (crs R (ccI h R (λh=>?_) (λh=>?_)))))
   ·refine crs R (crt ?_)
    cases SJ h
    exact dE R (F1 R) R
   ·refine csn (csr (rx 2 R ?_))
    obtain⟨v4,hv4,h⟩:=Aa h
    refine Gi (x':=L7 (.ls 4 v4.length)) (M':=[BE a0,BE a2,.box [Znl,Znl],.box [SL v3.1.L Aj],.arr 139 8 0 (v4.flatMap Az)]) [] R (fk R) (.func _) (Af R A2) (Pr hv4) R R (by decide) R R R ?_
    refine rsn R (Bb (csr (rm 1 R (sv R (Fw Tu R R (Aq (f:=Az) fR _).symm) ?_))))
    refine rsn R (cj ((List Ao)) (λb5=>[(6,L7 (.lp 2 0)),(9,L7 (.lp 3 0)),(11,L7 (.ls 4 b5.length))]) (λb5=>[BE a0,BE a2,.box [Znl,Znl],.box [SL v3.1.L Aj],.arr 139 8 0 (b5.flatMap Az)]) (λb5=>L8 v3 b5=some r) fR (λb5 h=>?_) ?_)
    ·refine crs R (Bn ?_)
     cases SJ h
     refine⟨Or.inr R,_,_,_,(Au (ra Aj8 R R R) (Au (rt R) A4)),pb,?_⟩
     rfl
    ·refine Bh ?_
     obtain⟨x6,hx6,ho6⟩:=Aa h
     refine lpn (α:=Int×(List Ao)) (λg=>[(5,L7 (.lp 1 0)),(6,L7 (.lp 2 0)),(8,L7 (Ii6 v2)),(9,L7 (.lp 3 0)),(11,L7 (.ls 4 g.2.2.length)),(39,L7 (.ls 4 g.2.2.length)),(40,L7 (Ii6 (v4.length:Int))),(41,L7 (Ii6 g.2.1))]) (λg=>[BE a0,BE a2,.box [Znl,Znl],.box [SL v3.1.L Aj],.arr 139 8 0 (g.2.2.flatMap Az)]) (λg=>Gj (E6 a2 v2 v4) g.1 g.2=some x6) (fuel,(0,v4)) hx6 R R fR ?_
     rintro⟨n6,s6⟩ h
     obtain⟨n6,y6,rfl,h,hk6⟩:=Ct h
     refine crs R (Bb (ccI h R (λh=>?_) (λh=>?_)))
     ·refine csn (Bb (Bh (csr (rx 1 R ?_))))
      obtain⟨u7,hu7,h⟩:=Aa h
      refine sv R (Gc (f:=Az) Tu fR R R R R R hu7) ?_
      refine sv R (Np (f:=Az) (sz:=8) 0 Nz fR R R R R (Ft hu7).2 (Nbl R) R) ?_
      refine rsn R (Bb (Bb (cj3 (Unit) (λb8=>[(5,L7 (.lp 1 0)),(6,L7 (.lp 2 0)),(8,L7 (Ii6 v2)),(9,L7 (.lp 3 0)),(11,L7 (.ls 4 s6.2.length)),(12,L7 (Ii6 s6.1)),(39,L7 (.ls 4 s6.2.length)),(40,L7 (Ii6 (v4.length:Int))),(41,L7 (Ii6 s6.1))]) (λb8=>[BE a0,BE a2,.box [Znl,Znl],.box [SL v3.1.L Aj],.arr 139 8 0 (s6.2.flatMap Az),BE u7]) (λb8=>Pb v2 s6 b8=some y6) fR (λb8 h=>?_) ?_)))
      ·refine Bb (Bg ?_)
       obtain⟨v9,hv9,h⟩:=Aa h
       refine Gi (x':=.s (.agg [.raw (.func (.func 252) #[] #[]),.raw (.func (.func 253) #[] #[])])) (M':=[BE a0,BE a2,.box [Znl,Znl],.box [SL v3.1.L Aj],.arr 139 8 0 (s6.2.flatMap Az),BE u7]) [] R (fk R) (.func _) A2 (Q0 hv9) R R (by decide) R R R ?_
       refine rx 3 R ?_
       obtain⟨v10,hv10,h⟩:=Aa h
       refine Gi (x':=.tup []) (M':=[BE a0,BE a2,.box [Znl,Znl],.box [SL v3.1.L Aj],.arr 139 8 0 (v10.flatMap Az),BE u7]) [4] R (fk R) (.func _) (Af R (Af R (Af R (Af R A2)))) (On hv10) R R (by decide) R R R ?_
       obtain⟨hl11,h⟩:=B5 h
       refine Kk 11 (y:=L7 (.ls 4 s6.2.length)) (L7 (.ls 4 v10.length)) R (congrArg (λn=>AV.s (.one (.ls 4 n))) hl11.symm) ?_
       refine Kk 39 (y:=L7 (.ls 4 s6.2.length)) (L7 (.ls 4 v10.length)) R (congrArg (λn=>AV.s (.one (.ls 4 n))) hl11.symm) ?_
       refine Kk 65 (y:=L7 (.ls 4 s6.2.length)) (L7 (.ls 4 v10.length)) R (congrArg (λn=>AV.s (.one (.ls 4 n))) hl11.symm) ?_
       refine Oy (csr (rx 2 R ?_))
       obtain⟨u12,hu12,h⟩:=Aa h
       refine sv R (Gc (f:=Az) Tu fR R R R R R hu12) ?_
       refine sv R (Np (f:=Az) (sz:=8) 0 Nz fR R R R R (Ft hu12).2 (Nbl R) R) ?_
       obtain⟨v13,hv13,h⟩:=Aa h
       refine scI R R (Pd hv13) (Oy (ccI h R (λh=>?_) (λh=>?_)))
       ·refine crs R (Bn (br5 ?_))
        cases SJ h
        obtain rfl:Sum.inl _=x6:=hk6
        obtain rfl:=zD ho6
        exact dE R (F1 R) R
       ·refine cbn (cgs R ?_)
        cases SJ h
        exact lx (n6,((wI (s6.1+1)),v10)) hk6 R R
      ·refine U4 mixed (by kernel_rfl) ?_
       refine dv R (Ah Ac4 R) (dv R (l1 ti3 R R R) (dv R (Ac3 R R) (dv R (Bj R) (Qh 49 R (λhc=>?_) (λhc=>?_)))))
       ·replace h:=P8 hc h
        clear hc
        refine Dy R R R R (Dy R R R R (Dy R R R R (Dy R R R R (Dy R R R R (Dy R R R R (Dy R R R R (dv R (Cp R R) (dv R (Bj R) (Dy R R R R (Dy R R R R (Dy R R R R (Dy R R R R (dv R (Cp R R) (Vp (Ag (B1 R (λ_=>?_) (λhx=>Bool.noConfusion hx)))))))))))))))))
        refine Tm (Cw (Ez (Ag (cgs R ?_))))
        cases SJ h
        exact lx (n6,((wI (s6.1+1)),s6.2)) hk6 R R
       ·replace h:=P3 hc h
        clear hc
        refine dvg R R R (lo Nz R R R) (dvg R R R (Bj R) (dvg R R R (Bj R) ?_))
        obtain⟨u14,hu14,h⟩:=Aa h
        refine dvg R R R (Gc (f:=Az) Tu fR R R R R R hu14) ?_
        refine dvg R R R (Np (f:=Az) (sz:=8) 0 Nz fR R R R R (Ft hu14).2 (Nbl R) R) ?_
        obtain⟨v15,hv15,h⟩:=Aa h
        refine ddg R R R (Cf (fk R) (Af R (Af R A2)) R (Oc hv15)) (dvg R R R (S7 R) (dv R (Cn R R) (dv R (Bj R) (Qh 58 R (λhc=>?_) (λhc=>?_)))))
        ·replace h:=P8 hc h
         clear hc
         refine Dy R R R R (Dy R R R R (Dy R R R R (Dy R R R R (dv R (Cp R R) (Vp (Ag (B1 R (λ_=>?_) (λhx=>Bool.noConfusion hx))))))))
         refine Tm (Cw (Ez (Ag (cgs R ?_))))
         cases SJ h
         exact lx (n6,((wI (s6.1+1)),s6.2)) hk6 R R
        ·replace h:=P3 hc h
         clear hc
         refine dvg R R R (lo Nz R R R) (dvg R R R (lo Asq R R R) ?_)
         obtain⟨v16,hv16,h⟩:=Aa h
         refine ddg R R R (Cf (fk R) (Af R (Af R A2)) R (Ws hv16)) (dvg R R R (S7 R) (dv R (Cn R R) (Vp (Ag (ccI h R (λh=>?_) (λh=>?_))))))
         ·refine Tm (Cw (Ez (Ag (cgs R ?_))))
          cases SJ h
          exact lx (n6,((wI (s6.1+1)),s6.2)) hk6 R R
         ·refine csn ?_
          exact⟨(),_,h,(ml R),R⟩
     ·refine cx5 ?_
      cases SJ h
      obtain rfl:_=x6:=hk6
      exact⟨s6.2,_,ho6,(ml R),R⟩
def G2 (a0:Ab) (a1:Ax) (a2:Ar):Option (Ab×Int) :=
 (Fp a0.Cert a1.ID a2).bind λv1=>if (!decide (v1.2=0)) then((Cd a0 a1).bind λv2=>some (v2,v1.2)) else(some ({a0 with Cert:=v1.1},0))
theorem Vl {a0:Ab} {a1:Ax} {a2:Ar} {r:Ab×Int} (h:G2 a0 a1 a2=some r):A6 Qx0 64 [.agg (EL.el a0),.agg (EL.el a1),.agg (EL.el a2)] (·=.tup [.agg (EL.el r.1),.one (Ii6 r.2)]):=by
 refine An Tryz.func64 R (nt:=28) R (Nbl R) ?_
 intro w0 S0
 refine crs R (csr (rx 5 R ?_))
 obtain⟨v1,hv1,h⟩:=Aa h
 refine scI R R (Z2 hv1) (rsn R (Bb (crs R (ccI h R (λh=>?_) (λh=>?_)))))
 ·refine csr (rx 2 R ?_)
  obtain⟨v2,hv2,h⟩:=Aa h
  refine scI R R (Gp hv2) (rsn R (crt ?_))
  cases SJ h
  exact dE R (Bq R) R
 ·refine csn (crs R (crs R (Bn ?_)))
  cases SJ h
  exact dE R (Bq R) R
def Eb (a0:List UInt8) (a1:List UInt8):Option Bool :=
 (Ij a1 a0).bind λv1=>some (decide (0<=v1))
theorem Mm {a0:List UInt8} {a1:List UInt8} {r:Bool} (h:Eb a0 a1=some r):A6 Qx0 148 [.one (SL a0 eU8),.one (SL a1 eU8)] (·=L7 (.b r)):=by
 refine An Tryz.func148 R (nt:=9) R (Nbl R) ?_
 intro w0 S0
 refine crs R (csr (rx 2 R ?_))
 obtain⟨v1,hv1,h⟩:=Aa h
 refine scI R R (Kb hv1) (rsn R (Bn ?_))
 cases SJ h
 exact dnT R R R R
def G9 (b1:Unit):Option Int :=
 some (-1)
def En (a0:List (List UInt8)) (a1:List UInt8) (s2:Int):Option (LR (Int) (Unit) (Int)) :=
 if (decide (s2<(a0.length:Int))) then((idx a0 s2).bind λu3=>(Eb a1 u3).bind λv4=>if v4 then(some (.ret s2)) else(some (.cont (wI (s2+1))))) else(some (.brk ()))
def I7 (a0:List (List UInt8)) (a1:List UInt8):Option Int :=
 (Gj (En a0 a1) fuel 0).bind λx=>match x with | .inl r=>some r | .inr e5=>G9 e5
theorem Sr {a0:List (List UInt8)} {a1:List UInt8} {r:Int} (h:I7 a0 a1=some r):A6 Qx0 147 [.one (SL a0 (eL eU8)),.one (.fn 148 [SL a1 eU8] [])] (·=L7 (Ii6 r)):=by
 refine An Tryz.func147 R (nt:=19) R (Nbl R) ?_
 intro w0 S0
 refine crs R (Bb (crs R (cj (Unit) (λb1=>[]) (λb1=>[]) (λb1=>G9 b1=some r) fR (λb1 h=>?_) ?_)))
 ·refine crs R (Bn ?_)
  cases SJ h
  exact dnT R R R R
 ·refine Bh ?_
  obtain⟨x2,hx2,ho2⟩:=Aa h
  refine lpn (α:=Int) (λg=>[(0,L7 (SL a0 (eL eU8))),(1,L7 (.fn 148 [SL a1 eU8] [])),(7,L7 (Ii6 (a0.length:Int))),(8,L7 (Ii6 g.2))]) (λg=>[]) (λg=>Gj (En a0 a1) g.1 g.2=some x2) (fuel,0) hx2 R R fR ?_
  rintro⟨n2,s2⟩ h
  obtain⟨n2,y2,rfl,h,hk2⟩:=Ct h
  refine crs R (Bb (ccI h R (λh=>?_) (λh=>?_)))
  ·refine csn (Bb (Bh (crs R (csr (rx 3 R ?_)))))
   obtain⟨u3,hu3,h⟩:=Aa h
   refine sv R (Bl (f:=(eL eU8)) Ab4 fR R R R R hu3) ?_
   refine rx 1 R ?_
   obtain⟨v4,hv4,h⟩:=Aa h
   refine sd R (Ty (fk R) (.fn _ _ _ _ R) (Af R A2) R (Mm hv4)) (Oy (ccI h R (λh=>?_) (λh=>?_)))
   ·refine crs R (Bn (br5 ?_))
    cases SJ h
    obtain rfl:Sum.inl _=x2:=hk2
    obtain rfl:=zD ho2
    exact dnT R R R R
   ·refine cbn (cgs R ?_)
    cases SJ h
    exact lx (n2,(wI (s2+1))) hk2 R R
  ·refine cx5 ?_
   cases SJ h
   obtain rfl:_=x2:=hk2
   exact⟨(),_,ho2,trivial,R⟩
def Kr (a0:List (List UInt8)) (a1:List UInt8):Option (Int×Bool) :=
 (I7 a0 a1).bind λv1=>if (decide (v1<0)) then(some ((a0.length:Int),false)) else((idx a0 v1).bind λu2=>(Dz u2 a1).bind λv3=>some (v1,v3))
theorem Qs {a0:List (List UInt8)} {a1:List UInt8} {r:Int×Bool} (h:Kr a0 a1=some r):A6 Qx0 69 [.one (SL a0 (eL eU8)),.one (SL a1 eU8)] (·=.tup [.one (Ii6 r.1),.one (.b r.2)]):=by
 refine An Tryz.func69 R (nt:=22) R (Nbl R) ?_
 intro w0 S0
 refine crs R (csr (rm 2 R (sv R (Ua (Vw R R Qc) Qc) ?_)))
 obtain⟨v1,hv1,h⟩:=Aa h
 refine sd R (Ty (fk R) (.func _) (Af R (Af R A2)) R (Sr hv1)) (rsn R (Bb (crs R (ccI h R (λh=>?_) (λh=>?_)))))
 ·refine crs R (crt ?_)
  cases SJ h
  exact dE R (Bq R) R
 ·refine csn (csr (rx 3 R ?_))
  obtain⟨u2,hu2,h⟩:=Aa h
  refine sv R (Bl (f:=(eL eU8)) Ab4 fR R R R R hu2) ?_
  refine rx 2 R ?_
  obtain⟨v3,hv3,h⟩:=Aa h
  refine scI R R (M3 hv3) (rsn R (Bn ?_))
  cases SJ h
  exact dE R (Bq R) R
def Js (a1:Int) (s1:Int) (x1:Int×Ak):Option ((Int) ⊕ (Nat×(Int))) :=
 if (decide (x1.2.Ts<=a1)) then(some (.inr (0,x1.1))) else(some (.inl s1))
def M7 (s2:Int):Option Int :=
 some (-1)
def M6 (s3:Int):Option Int :=
 some s3
def Kj (a0:Ac) (a1:Int):Option Int :=
 (Ai4 a0).bind λL1=>(Rm (Js a1) L1 0).bind λe=>Ad5 M7 M6 (λ_ _=>none) e
theorem Sf {a0:Ac} {a1:Int} {r:Int} (h:Kj a0 a1=some r):A6 Qx0 218 [.agg [SL a0.L Av],.one (Ii6 a1)] (·=L7 (Ii6 r)):=by
 refine Xl Tryz.func218 R (nt:=16) R (Nbl R) ?_
 intro w0 S0
 refine Aa7 (Hd R (λw0 S0 X0 m0 H0=>?_))
 refine Akf R R R (Akf R R R (rsn R (Aa7 (Aa7 (Hd R (λw0 S0 X0 m0 H0=>?_))))))
 refine sv R (A8 (ys:=[SL a0.L Av]) V3 R (.cp _) R R) (scI R R Jz (Oy (Abg ?_)))
 obtain⟨L1,hL1,h⟩:=Aa h
 obtain⟨e1,he1,h⟩:=Aa h
 refine Agu (Js a1) L1 (λx1=>.one (Ii6 x1.1)) (λx1=>.agg (EL.el x1.2)) (λs1=>[.box [Ii6 s1]]) 0 he1 R (fk R) R (Agq hL1) R R R fR (λ_=>M1 R) ?_ ?_ ?_ ?_
 ·clear h
  intro x1 s1 y1 l h w0 S0 X0 H0
  refine Aa7 (Hd R (λw0 S0 X0 m0 H0=>?_))
  refine rsn R (Hd R (λw0 S0 X0 m0 H0=>?_))
  refine rsn R (λw0 S0 X0 H0=>?_)
  refine Abg (Aa7 (Hd R (λw0 S0 X0 m0 H0=>?_)))
  refine rsn R (Ar5 R (λhc=>?_) (λhc=>?_))
  ·replace h:=P8 hc h
   clear hc
   refine Aa7 (Hd R (λw0 S0 X0 m0 H0=>?_))
   refine rsn R (Ar6 (D5 ?_))
   cases SJ h
   exact⟨x1.1,_,R,R⟩
  ·replace h:=P3 hc h
   clear hc
   refine Aw6 (A0 ?_)
   cases SJ h
   exact⟨s1,_,R,R⟩
 ·intro s2 hs
  obtain rfl:=hs
  replace h:M7 s2=some r:=h
  refine A0 (Ag (Aa7 (Hd R (λw0 S0 X0 m0 H0=>?_))))
  refine rsn R (Ar6 ?_)
  cases SJ h
  exact dE R (Bq R) R
 ·intro s3 hs
  obtain rfl:=hs
  replace h:M6 s3=some r:=h
  refine br2 ?_
  cases SJ h
  exact dE R (Bq R) R
 ·intro id s hs
  obtain rfl:=hs
  replace h:none=some r:=h
  cases h
def Eo (a0:Ac) (a1:Int):Option (Ak×Bool) :=
 (Kj a0 a1).bind λv1=>if (decide (v1<0)) then(some ((Ak.mk 0 ([]:List UInt8) false),false)) else((idx a0.L v1).bind λu2=>some (u2,true))
theorem Aac {a0:Ac} {a1:Int} {r:Ak×Bool} (h:Eo a0 a1=some r):A6 Qx0 149 [.agg [SL a0.L Av],.one (Ii6 a1)] (·=.tup [.agg (EL.el r.1),.one (.b r.2)]):=by
 refine An Tryz.func149 R (nt:=18) R (Nbl R) ?_
 intro w0 S0
 refine crs R (csr (rx 2 R ?_))
 obtain⟨v1,hv1,h⟩:=Aa h
 refine scI R R (Sf hv1) (rsn R (Bb (crs R (ccI h R (λh=>?_) (λh=>?_)))))
 ·refine crs R (crt ?_)
  cases SJ h
  exact dE R (F1 R) R
 ·refine csn (csr (rx 3 R ?_))
  obtain⟨u2,hu2,h⟩:=Aa h
  refine sv R (Bl (f:=Av) Zn fR R R R R hu2) ?_
  refine sv R (A8 (ys:=[Ii6 u2.Ts,SL u2.Val eU8,.b u2.Del]) Avl R (.cp _) R R) (rsn R (Bn ?_))
  cases SJ h
  exact dE R (Bq R) R
def Mt (v1:Ak×Bool) (b2:Unit):Option ((List UInt8)×Bool) :=
 some (v1.1.Val,true)
def Ep (a0:Ac) (a1:Int):Option ((List UInt8)×Bool) :=
 (Eo a0 a1).bind λv1=>if (!v1.2) then(some (([]:List UInt8),false)) else(if v1.1.Del then(some (([]:List UInt8),false)) else(Mt v1 ()))
theorem Sg {a0:Ac} {a1:Int} {r:(List UInt8)×Bool} (h:Ep a0 a1=some r):A6 Qx0 70 [.agg [SL a0.L Av],.one (Ii6 a1)] (·=.tup [.one (SL r.1 eU8),.one (.b r.2)]):=by
 refine An Tryz.func70 R (nt:=22) R (Nbl R) ?_
 intro w0 S0
 refine crs R (csr (rx 2 R ?_))
 obtain⟨v1,hv1,h⟩:=Aa h
 refine scI R R (Aac hv1) (rsn R (Bb (Bb (cj3 (Unit) (λb2=>[(6,L7 (.lp 1 0))]) (λb2=>[.box [SL a0.L Av],BE v1.1]) (λb2=>Mt v1 b2=some r) fR (λb2 h=>?_) ?_))))
 ·refine crs R (Bn ?_)
  cases SJ h
  exact dE R (Bq R) R
 ·refine Bg (rx 3 R (ssI 16 h R (λh=>?_) (λh=>?_)))
  ·refine rsn R (B1 R (λ_=>?_) (λhx=>Bool.noConfusion hx))
   refine crs R (crt ?_)
   cases SJ h
   exact dE R (F1 R) R
  ·refine rsn R (ccI h R (λh=>?_) (λh=>?_))
   ·refine crs R (crt ?_)
    cases SJ h
    exact dE R (F1 R) R
   ·refine csn ?_
    exact⟨(),_,h,(ml R),R⟩
def O7 (a0:Bc) (a2:Int) (v1:Int×Bool) (b2:Unit):Option ((List UInt8)×Bool) :=
 (idx a0.Chains v1.1).bind λu3=>(Ep u3 a2).bind λv4=>some (v4.1,v4.2)
def Fo (a0:Bc) (a1:List UInt8) (a2:Int):Option ((List UInt8)×Bool) :=
 (Kr a0.Keys a1).bind λv1=>if (!v1.2) then(some (([]:List UInt8),false)) else((Cy a0).bind λv5=>if (!v5) then(some (([]:List UInt8),false)) else(O7 a0 a2 v1 ()))
theorem Zy {a0:Bc} {a1:List UInt8} {a2:Int} {r:(List UInt8)×Bool} (h:Fo a0 a1 a2=some r):A6 Qx0 28 [.agg (EL.el a0),.one (SL a1 eU8),.one (Ii6 a2)] (·=.tup [.one (SL r.1 eU8),.one (.b r.2)]):=by
 refine An Tryz.func28 R (nt:=33) R (Nbl R) ?_
 intro w0 S0
 refine crs R (csr (rx 3 R ?_))
 obtain⟨v1,hv1,h⟩:=Aa h
 refine scI R R (Qs hv1) (rsn R (Bb (Bb (cj3 (Unit) (λb2=>[(2,L7 (Ii6 a2)),(3,L7 (.lp 0 0)),(8,L7 (Ii6 v1.1))]) (λb2=>[BE a0]) (λb2=>O7 a0 a2 v1 b2=some r) fR (λb2 h=>?_) ?_))))
 ·refine csr (rx 3 R ?_)
  obtain⟨u3,hu3,h⟩:=Aa h
  refine sv R (Bl (f:=Al) Au1 fR R R R R hu3) ?_
  refine sv R (A8 (ys:=[SL u3.L Av]) V3 R (.cp _) R R) (rx 1 R ?_)
  obtain⟨v4,hv4,h⟩:=Aa h
  refine scI R R (Sg hv4) (rsn R (Bn ?_))
  cases SJ h
  exact dE R (Bq R) R
 ·refine Bg (rx 3 R (ssI 19 h R (λh=>?_) (λh=>?_)))
  ·refine rsn R (B1 R (λ_=>?_) (λhx=>Bool.noConfusion hx))
   refine crs R (crt ?_)
   cases SJ h
   exact dE R (F1 R) R
  ·refine rx 1 R (son R R R ?_)
   obtain⟨v5,hv5,h⟩:=Aa h
   refine scI R R (I0 hv5) (rsn R (ccI h R (λh=>?_) (λh=>?_)))
   ·refine crs R (crt ?_)
    cases SJ h
    exact dE R (F1 R) R
   ·refine csn ?_
    exact⟨(),_,h,(ml R),R⟩
def Ke (a0:Ab) (a1:Int) (a2:List UInt8):Option (Ab×(List UInt8)×Bool×Int) :=
 (Fq a0 a1).bind λv1=>if (!decide (v1.2=0)) then((Ck a0 v1.2).bind λv2=>some (v2,([]:List UInt8),false,v1.2)) else((Dr a2).bind λv3=>if (!v3) then(some (a0,([]:List UInt8),false,1)) else((I5 v1.1.Buf a2).bind λv4=>if v4.2 then(some (a0,v4.1.Val,(!v4.1.Del),0)) else((Rt a2).bind λv5=>(G2 a0 v1.1 v5).bind λv6=>if (!decide (v6.2=0)) then(some (v6.1,([]:List UInt8),false,v6.2)) else((Fo v6.1.Store a2 v1.1.Snap).bind λv7=>some (v6.1,v7.1,v7.2,0)))))
theorem S9 {a0:Ab} {a1:Int} {a2:List UInt8} {r:Ab×(List UInt8)×Bool×Int} (h:Ke a0 a1 a2=some r):A6 Qx0 24 [.agg (EL.el a0),.one (Ii6 a1),.one (SL a2 eU8)] (·=.tup [.agg (EL.el r.1),.one (SL r.2.1 eU8),.one (.b r.2.2.1),.one (Ii6 r.2.2.2)]):=by
 refine An Tryz.func24 R (nt:=70) R (Nbl R) ?_
 intro w0 S0
 refine crs R (csr (rx 2 R ?_))
 obtain⟨v1,hv1,h⟩:=Aa h
 refine scI R R (Lw hv1) (rsn R (Bb (crs R (ccI h R (λh=>?_) (λh=>?_)))))
 ·refine csr (rx 2 R ?_)
  obtain⟨v2,hv2,h⟩:=Aa h
  refine scI R R (Hf hv2) (rsn R (crt ?_))
  cases SJ h
  exact dE R (F1 R) R
 ·refine csn (Bb (csr (rx 1 R ?_)))
  obtain⟨v3,hv3,h⟩:=Aa h
  refine scI R R (Ns hv3) (rsn R (ccI h R (λh=>?_) (λh=>?_)))
  ·refine crs R (crt ?_)
   cases SJ h
   exact dE R (F1 R) R
  ·refine csn (Bb (csr (rx 3 R ?_)))
   obtain⟨v4,hv4,h⟩:=Aa h
   refine scI R R (Y4 hv4) (rsn R (crs R (ccI h R (λh=>?_) (λh=>?_))))
   ·refine Bb ?_
    refine Hs [6] [0,0,2,0,8,24,1,71,255,511] [[BE a0,.box Zba,BE v1.1,BE v4.1],[BE a0,BE a0,BE v1.1,BE v4.1]] (by kernel_rfl) mixed (by kernel_rfl) (by decide) R R R R ?_
    refine evs (md:=[BE a0,.dead,BE v1.1,BE v4.1]) (λhS=>ev (Aw 0 R R) R R (lo Aii R R R) (ev (Bp hS) R R (Ah Ard R) (ev (Bp hS) R R (l1 Yz R R R) (ev (Bp hS) R R (Ah Arq R) (ev (Bp hS) R R (l1 ti4 R R R) (ev (Bp hS) R R (S7 R) (ee0 0 R R R R (λζ=>?_) ?_))))))) ⟨⟨R,⟨trivial,⟨R,⟨R,trivial⟩⟩⟩⟩,⟨⟨R,⟨trivial,⟨R,⟨R,trivial⟩⟩⟩⟩,trivial⟩⟩
    ·refine rx 1 R (Pf [BE a0,BE a0,BE v1.1,BE v4.1] R ?_)
     exact Tt
    refine ev (Aw 1 R R) R R (Hh R) (ev (Aw 1 R R) R R (Hh R) (ev (Aw 1 R R) R R (Hh R) (Abz (Ag (crt ?_)))))
    cases SJ h
    exact dE R (Bq R) R
   ·refine csn (Bb ?_)
    obtain⟨v5,hv5,h⟩:=Aa h
    obtain⟨v6,hv6,h⟩:=Aa h
    refine Hs [8] [0,0,0,4,15,31,63,63,127,511] [[BE a0,.box Zba,BE v1.1,BE v4.1],[BE v6.1,.box Zba,BE v1.1,BE v4.1]] (by kernel_rfl) mixed (by kernel_rfl) (by decide) R R R R ?_
    refine ev (Aw 0 R R) R R (lo Aii R R R) (ev (Aw 0 R R) R R (lo Ao8 R R R) (ev (Aw 0 R R) R R (Bj R) (ed (Aw 0 R R) R R (Cf (fk R) (Af R A2) R (Aa4 hv5)) (ed (Aw 0 R R) R R (Cf (fk R) (Af R (Af R (Af R A2))) R (Vl hv6)) (ev (Aw 0 R R) R R (Wf R) (ev (Aw 0 R R) R R (Ei R R) (ev (Bp (md:=[.dead,.box Zba,BE v1.1,BE v4.1]) ⟨⟨trivial,⟨R,⟨R,⟨R,trivial⟩⟩⟩⟩,⟨⟨trivial,⟨R,⟨R,⟨R,trivial⟩⟩⟩⟩,trivial⟩⟩) R R (Ei R R) (ee0 0 R R R R (λζ=>?_) ?_))))))))
    ·refine rx 1 R (Pf [BE v6.1,.box Zba,BE v1.1,BE v4.1] R ?_)
     exact Tt
    refine ev (Aw 1 R R) R R (Hh R) (Abz (Ag (Bb (crs R (ccI h R (λh=>?_) (λh=>?_))))))
    ·refine crs R (crt ?_)
     cases SJ h
     exact dE R (F1 R) R
    ·refine csn (csr (rx 5 R ?_))
     obtain⟨v7,hv7,h⟩:=Aa h
     refine scI R R (Zy hv7) (rsn R (crs R (Bn ?_)))
     cases SJ h
     exact dE R (Bq R) R
def Jq (a0:List Ae):Option (List Ae) :=
 if (([]:List Ae).length+a0.length)*56<=140737488355328 then(some (([]:List Ae)++a0)) else none
theorem Ux {a0:List Ae} {r:(List Ae)} (h:Jq a0=some r):Cv Qx0 126 [] [.one (SL a0 Am)] (λy m'=>y=L7 (.ls 0 r.length)/\m'=[.arr 99 3 0 (r.flatMap Am)]):=by
 refine Cs Tryz.func126 R (nt:=8) R (Nbl R) ?_
 intro w0 S0 X0 H0
 refine crs R (Bb (csr (rm 1 R (Ab6 R Tryz.underlying84 R (λnq hnq=>?_)))))
 cases nq
 ·refine Oy (B1 R (λhx=>Bool.noConfusion hx) (λ_=>?_))
  refine csn (csr (Sz R Tryz.underlying84 Ayh (rx 1 R ?_)))
  obtain⟨hb1,h⟩:=B5 h
  refine Tp (f:=Am) (xs:=([]:List Ae)) (us:=a0) R Tryz.underlying84 Ayh A0o fR R R (.one _ _ _ _ (.id _ R)) R R R (.sl _ _ _ (Aq (f:=Am) fR _)) R R hb1 (by decide) ?_
  refine rsn R (Bn ?_)
  cases SJ h
  exact⟨Or.inr R,_,[0],[.one (.ls 0 (([]:List Ae)++a0).length)],[.arr 99 3 0 ((([]:List Ae)++a0).flatMap Am)],(Au (rt R) A4),R,R,⟨by decide,R⟩,R,R,⟨R,R⟩⟩
 ·obtain rfl:=z7 (hnq rfl)
  replace h:(some ([]:List Ae))=some r:=by first|exact h|(rw[if_pos (by decide)] at h;exact h)
  refine Oy (B1 R (λ_=>?_) (λhx=>Bool.noConfusion hx))
  refine crs R ?_
  refine Cq 99 3 2 (by decide) R ?_
  refine crt ?_
  cases SJ h
  exact⟨Or.inr R,_,[0],[.one (.ls 0 ([]:List Ae).length)],[.arr 99 3 0 (([]:List Ae).flatMap Am)],(Au (rt R) A4),R,R,⟨by decide,R⟩,R,R,⟨R,R⟩⟩
section
open Go.Lib
set_option maxHeartbeats 4000000 in
theorem Ajc (b n c vb vc:Nat) (vs:List Value) (w:World) (i0:TypeInfo) (hi0:Tryz.prog.info? 99=some i0) (hs0:i0.size=3) (hroom:n+1<=c) (hc63:c<=9223372036854775807)
  (hvl:vs.length=3) (hsp:∀ j,j<3->(w.cell? ⟨b,n*3+j,none⟩).isSome=true) (hfz:∀ j,j<3->w.frozen? ⟨b,n*3+j,none⟩=false)
  (hvs:∀ j v,vs[j]? = some v->w.cell? ⟨vb,j,none⟩=some v) (h1v:∀ v∈vs,v.oneCell'=true) :
  Calls Tryz.prog 127 #[.slice (some ⟨b,0,none⟩) n c,.int .i64 n,.slice (some ⟨vb,0,none⟩) 1 vc] w λe w' =>
   e=.returned (.slice (some ⟨b,0,none⟩) (n+1) c)/\w'=w.setCells b (n*3) vs:=by
 have hsrc:_root_.Go.Src Tryz.prog i0.size 84 (.slice (some ⟨vb,0,none⟩) 1 vc) 1 vs w:=by
  rw[hs0]
  exact _root_.Go.Src.ofSlice w Tryz.underlying84 ⟨vb,0,none⟩ 1 vc vs (by omega) (λj u hj=>by rw[Addr.add_lit,yK];exact hvs j u hj) h1v
 go_enter Tryz.func127,Tryz.ntmps127
 go_wp2_with (at_builtin;refine wpList_append_room_src _ rfl _ _ 84 84 rfl 99 i0 Tryz.underlying84 hi0 b 0 n c rfl _ rfl 1 vs hsrc hroom (by rw[hvl,hs0,yK];exact hsp) (by rw[hvl,hs0,yK];exact hfz) ?_)
 go_ret
 refine⟨R,?_⟩
 first|rfl|(simp;done)|(simp [hs0];done)
set_option maxHeartbeats 4000000 in
theorem Add (b n c vb vc:Nat) (cs vs:List Value) (w:World) (i0:TypeInfo) (hi0:Tryz.prog.info? 99=some i0) (hz0:i0.zero=some (.agg #[.slice none 0 0,.slice none 0 0,.bool false])) (hs0:i0.size=3) (hnc:n<=c) (hroom:c<n+1) (hn63:n+1<=9223372036854775807)
  (hfit:Builtin.nextslicecap (n+1) c*i0.bytes<=281474976710656) (hcl:cs.length=n*3) (hvl:vs.length=3)
  (hcs:∀ j v,cs[j]? = some v->w.cell? ⟨b,j,none⟩=some v) (hvs:∀ j v,vs[j]? = some v->w.cell? ⟨vb,j,none⟩=some v) (h1v:∀ v∈vs,v.oneCell'=true) :
  Calls Tryz.prog 127 #[.slice (some ⟨b,0,none⟩) n c,.int .i64 n,.slice (some ⟨vb,0,none⟩) 1 vc] w λe w' =>
   e=.returned (.slice (some ⟨w.heap.size,0,none⟩) (n+1) (grownCap w (n+1) c 99)) /\
   w'=w.drew.alloc (.cells ((cs++vs).toArray++Builtin.zeroCells (Value.cells (.agg #[.slice none 0 0,.slice none 0 0,.bool false])) (grownCap w (n+1) c 99-(n+1))) 99):=by
 have hsrc:_root_.Go.Src Tryz.prog i0.size 84 (.slice (some ⟨vb,0,none⟩) 1 vc) 1 vs w:=by
  rw[hs0]
  exact _root_.Go.Src.ofSlice w Tryz.underlying84 ⟨vb,0,none⟩ 1 vc vs (by omega) (λj u hj=>by rw[Addr.add_lit,yK];exact hvs j u hj) h1v
 have hold:(Builtin.firstCells i0.size n (.slice (some ⟨b,0,none⟩) n c)).run Tryz.prog w.drew=.ok cs.toArray w.drew:=by
  rw[hs0]
  exact run_firstCells_some w.drew 3 n ⟨b,0,none⟩ n c cs (by omega) (λj v hj=>by rw[Addr.add_lit,yK];exact hcs j v hj)
 have hrun:∀ ty,(Builtin.append_ #[84,84] ty #[.slice (some ⟨b,0,none⟩) n c,.slice (some ⟨vb,0,none⟩) 1 vc]).run Tryz.prog w=.ok (.slice (some ⟨w.heap.size,0,none⟩) (n+1) (grownCap w (n+1) c 99)) (w.drew.alloc (.cells ((cs++vs).toArray++Builtin.zeroCells (Value.cells (.agg #[.slice none 0 0,.slice none 0 0,.bool false])) (grownCap w (n+1) c 99-(n+1))) 99)):=λty =>
  run_append_grow_src w 84 84 ty 99 i0 _ Tryz.underlying84 hi0 hz0 (some ⟨b,0,none⟩) n c cs hold _ 1 vs hsrc hroom (by omega) hfit
 go_enter Tryz.func127,Tryz.ntmps127
 go_wp2_with (at_builtin;refine Lib.wpList_append_run _ rfl _ _ _ _ rfl _ _ rfl rfl _ _ (hrun _) ?_)
 all_goals (go_ret;first|exact⟨rfl,rfl⟩|exact⟨rfl,by simp [Value.cells]⟩)
set_option maxHeartbeats 4000000 in
theorem Aev (b n c i vb vc:Nat) (cs vs:List Value) (w:World) (hs0:(Tryz.prog.info? 99).map (·.size)=some 3) (hi:i<n) (hroom:n+1<=c) (hc63:c<=9223372036854775807) (hvb:vb≠b)
  (hcl:cs.length=n*3) (hvl:vs.length=3)
  (hcs:∀ j v,cs[j]? = some v->w.cell? ⟨b,j,none⟩=some v) (hsp:∀ j,j<(n+1)*3->(w.cell? ⟨b,j,none⟩).isSome=true) (hfz:∀ j,j<(n+1)*3->w.frozen? ⟨b,j,none⟩=false)
  (hvs:∀ j v,vs[j]? = some v->w.cell? ⟨vb,j,none⟩=some v) (h1c:∀ v∈cs,v.oneCell'=true) (h1v:∀ v∈vs,v.oneCell'=true)
  (tA tB:TypeId) (kA kB:Nat) (hsa:w.shape? vb=some (tA,kA)) (hsb:w.shape? b=some (tB,kB)) (hkB:kB≠0) (hfa:w.frozen? ⟨vb,0,none⟩=false) (hfe:w.frozen? ⟨vb,kA,none⟩=false) :
  Calls Tryz.prog 127 #[.slice (some ⟨b,0,none⟩) n c,.int .i64 i,.slice (some ⟨vb,0,none⟩) 1 vc] w λe w' =>
   e=.returned (.slice (some ⟨b,0,none⟩) (n+1) c)/\w'=(w.drew.setCells b ((i+1)*3) (cs.drop ((i)*3))).setCells b ((i)*3) vs:=by
 have hz2:¬ ((i:Int)=(n:Int)):=by omega
 have hz3:¬ ((c:Int)<(n:Int)+1):=by omega
 have mixed:Tryz.prog.follows .mixedOrders=true:=by kernel_rfl
 have hov:∀ lb cb,(callFunc 192 #[.slice (some ⟨vb,0,none⟩) 1 vc,.slice (some ⟨b,(i+1)*3,none⟩) lb cb]).run Tryz.prog w=.ok (.value (.bool false)) w:=λlb cb=>by
  rw[run_callFunc_extern Tryz.func192 (by kernel_rfl) (by kernel_rfl) (by kernel_rfl) (e:=Extern.SlicesOverlaps.overlaps #[84,84] #[4]) (by kernel_rfl),
   Lib.run_overlaps_apart w 84 4 99 Tryz.underlying84 3 (λw=>Ci hs0 w) ⟨vb,0,none⟩ ⟨b,(i+1)*3,none⟩ 1 vc lb cb hvb tA tB kA kB hsa hsb hkB hfa hfe]
  rfl
 have hdl:(cs.drop ((i)*3)).length=(n-i)*3:=by rw[yB,hcl];omega
 have hw1:IntKind.i64.wrap ((i:Int)+1)=(i:Int)+1:=by rw[IntKind.wrap_i64];omega
 have hb1:(0:Int)<=(i:Int)+1:=by omega
 have hin:i<=n:=by omega
 have htn:((i:Int)+1).toNat=i+1:=by omega
 have hb2:¬ (c=i+1):=by omega
 have hb3:(i:Int)<=(n:Int)+1:=by omega
 have hb4:¬ (c=i):=by omega
 have hcp1:∀ ty dc sc,(Builtin.copy_ #[84,84] ty #[.slice (some ⟨b,(i+1)*3,none⟩) (n-i) dc,.slice (some ⟨b,(i)*3,none⟩) (n+1-i) sc]).run Tryz.prog w.drew=.ok (goInt (n-i:Nat)) (w.drew.setCells b ((i+1)*3) (cs.drop ((i)*3))):=λty dc sc =>
  Gl w.drew _ _ ty 99 b ((i+1)*3) (n-i) dc ⟨b,(i)*3,none⟩ (n+1-i) sc 3 (n-i) (cs.drop ((i)*3)) Tryz.underlying84 hs0 (by simp only[kR];split <;> omega) hdl
   (λj v hj=>by rw[Addr.add_lit];exact hcs ((i)*3+j) v (by rwa [yH] at hj))
   (λj hj=>hsp _ (by rw[hdl] at hj;omega)) (λj hj=>hfz _ (by rw[hdl] at hj;omega)) (λv hv=>h1c v (kE hv))
 obtain⟨W1,hW1⟩:∃ W1,W1=w.drew.setCells b ((i+1)*3) (cs.drop ((i)*3)):=⟨_,rfl⟩
 have hsp1:∀ k,k<(n+1)*3->(W1.cell? ⟨b,k,none⟩).isSome=true:=λk hk=>by
  rw[hW1]
  exact isSome_setCells b (cs.drop ((i)*3)) ((i+1)*3) w.drew (λj hj=>hsp _ (by rw[hdl] at hj;omega)) _ (hsp k hk)
 have hcp2:∀ (W:World),(∀ x,W.cell? x=W1.cell? x)->(∀ x,W.frozen? x=W1.frozen? x)->∀ ty dc,(Builtin.copy_ #[84,84] ty #[.slice (some ⟨b,(i)*3,none⟩) (n+1-i) dc,.slice (some ⟨vb,0,none⟩) 1 vc]).run Tryz.prog W=.ok (goInt (1:Nat)) (W.setCells b ((i)*3) vs):=λW hWc hWf ty dc =>
  Gl W _ _ ty 99 b ((i)*3) (n+1-i) dc ⟨vb,0,none⟩ 1 vc 3 1 vs Tryz.underlying84 hs0 (by simp only[kR];split <;> omega) (by omega)
   (λj v hj=>by
    rw[Addr.add_lit,hWc,hW1,yK,World.cell?_setCells_out b _ _ _ _ (λh _=>absurd h hvb)]
    exact hvs j v hj)
   (λj hj=>by rw[hWc];exact hsp1 _ (by omega)) (λj hj=>by rw[hWf,hW1,World.frozen?_setCells];exact hfz _ (by omega)) h1v
 rw[<- hW1] at hcp1
 go_enter Tryz.func127,Tryz.ntmps127
 go_wp2_with (simp only[hov])
 go_region_law_o (refine step_copy_runI rfl _ _ 84 84 rfl _ _ (by simp [Act.eval,Act.put]) (by simp [Act.eval,Act.put]) (hcp1 _ _ _) ?_)
 go_wp2_with (at_builtin;refine wpList_copy_runI _ rfl _ _ 84 84 rfl _ _ rfl rfl (hcp2 _ (λ_=>rfl) (λ_=>rfl) _ _) ?_)
 go_ret
 first|exact⟨rfl,rfl⟩|exact⟨rfl,by rw[hW1]⟩
set_option maxHeartbeats 4000000 in
theorem Agb (b n c i vb vc:Nat) (cs vs:List Value) (w:World) (i0:TypeInfo) (hi0:Tryz.prog.info? 99=some i0) (hz0:i0.zero=some (.agg #[.slice none 0 0,.slice none 0 0,.bool false])) (hs0:i0.size=3) (hi:i<n) (hnc:n<=c) (hroom:c<n+1) (hn63:n+1<=4611686018427387904)
  (hb48:(n+1)*i0.bytes<=281474976710656) (hfit:Builtin.nextslicecap (n+1) c*i0.bytes<=281474976710656) (hcl:cs.length=n*3) (hvl:vs.length=3)
  (hcs:∀ j v,cs[j]? = some v->w.cell? ⟨b,j,none⟩=some v) (hvs:∀ j v,vs[j]? = some v->w.cell? ⟨vb,j,none⟩=some v) (h1c:∀ v∈cs,v.oneCell'=true) (h1v:∀ v∈vs,v.oneCell'=true) :
  Calls Tryz.prog 127 #[.slice (some ⟨b,0,none⟩) n c,.int .i64 i,.slice (some ⟨vb,0,none⟩) 1 vc] w λe w' =>
   e=.returned (.slice (some ⟨w.heap.size,0,none⟩) (n+1) (grownCap w (n+1) c 99)) /\
   w'=(((w.alloc (.cells ((cs.take ((i)*3)).toArray++Builtin.zeroCells (Value.cells (.agg #[.slice none 0 0,.slice none 0 0,.bool false])) (n+1-i)++Builtin.zeroCells (Value.cells (.agg #[.slice none 0 0,.slice none 0 0,.bool false])) (grownCap w (n+1) c 99-(n+1))) 99)).drew.setCells w.heap.size ((i)*3) vs).drew).setCells w.heap.size ((i+1)*3) (cs.drop ((i)*3)):=by
 have mixed:Tryz.prog.follows .mixedOrders=true:=by kernel_rfl
 have hz2:¬ ((i:Int)=(n:Int)):=by omega
 have hz3:(c:Int)<(n:Int)+1:=by omega
 have hsz:(Tryz.prog.info? 99).map (·.size)=some 3:=by rw[hi0];simp [hs0]
 have hbw:b<w.heap.size:=block_lt_of_cell (hcs 0 _ (zC (by omega)))
 have hvw:vb<w.heap.size:=block_lt_of_cell (hvs 0 _ (zC (by omega)))
 have hkk:(n:Int)+1-(i:Int)=((n+1-i:Nat):Int):=by omega
 have hik:i+(n+1-i)=n+1:=by omega
 have htl:(cs.take ((i)*3)).length=i*3:=by rw[zN];omega
 have hold:(Builtin.firstCells i0.size i (.slice (some ⟨b,0,none⟩) i c)).run Tryz.prog w.drew=.ok (cs.take ((i)*3)).toArray w.drew:=by
  rw[hs0]
  exact run_firstCells_some w.drew 3 i ⟨b,0,none⟩ i c (cs.take ((i)*3)) htl (λj v hj=>by
   rw[Addr.add_lit,yK]
   rw[yF] at hj
   split at hj
   ·exact hcs j v hj
   ·cases hj)
 have hrz:∀ ty,(Builtin.append_ #[84,3] ty #[.slice (some ⟨b,0,none⟩) i c,.int .i64 ((n:Int)+1-(i:Int))]).run Tryz.prog w =
   .ok (.slice (some ⟨w.heap.size,0,none⟩) (n+1) (grownCap w (n+1) c 99)) (w.drew.alloc (.cells ((cs.take ((i)*3)).toArray++Builtin.zeroCells (Value.cells (.agg #[.slice none 0 0,.slice none 0 0,.bool false])) (n+1-i)++Builtin.zeroCells (Value.cells (.agg #[.slice none 0 0,.slice none 0 0,.bool false])) (grownCap w (n+1) c 99-(n+1))) 99)):=λty=>by
  have h:=Lib.run_append_grow_zeros w 84 3 ty 99 i0 _ .i64 .i64 Tryz.underlying84 Tryz.underlying3 hi0 hz0 (some ⟨b,0,none⟩) i c (cs.take ((i)*3)) hold (n+1-i) (by omega) (by omega) (by omega) (by omega) (yP (yZ _ (by omega)) hb48) (by rw[hik];exact hfit)
  rw[hik] at h
  rw[hkk]
  exact h
 obtain⟨G,hG⟩:∃ G,G=grownCap w (n+1) c 99:=⟨_,rfl⟩
 obtain⟨ROW,hROW⟩:∃ ROW:Array Value,ROW=(cs.take ((i)*3)).toArray++Builtin.zeroCells (Value.cells (.agg #[.slice none 0 0,.slice none 0 0,.bool false])) (n+1-i)++Builtin.zeroCells (Value.cells (.agg #[.slice none 0 0,.slice none 0 0,.bool false])) (G-(n+1)):=⟨_,rfl⟩
 rw[<- hG] at hrz ⊢
 rw[<- hROW] at hrz ⊢
 have hzc:∀ k,(Builtin.zeroCells (Value.cells (.agg #[.slice none 0 0,.slice none 0 0,.bool false])) k).size=k*3:=λk=>by simp [Builtin.zeroCells,Value.cells]
 have hRl:(n+1)*3<=ROW.size:=by
  rw[hROW,yY,yY,hzc,hzc,yE,htl]
  omega
 obtain⟨W1,hW1⟩:∃ W1,W1=w.drew.alloc (.cells ROW 99):=⟨_,rfl⟩
 rw[<- hW1] at hrz
 have hN:∀ j,j<(n+1)*3->(W1.cell? ⟨w.heap.size,j,none⟩).isSome=true:=λj hj=>by
  rw[hW1,World.cell?_alloc_at (w:=w.drew) ROW _ w.heap.size j rfl,zR (by omega)];rfl
 have hNf:∀ j,W1.frozen? ⟨w.heap.size,j,none⟩=false:=λj=>by rw[hW1];exact World.frozen?_alloc_at (w:=w.drew) ROW _ w.heap.size j rfl
 have hOb:∀ j v,w.cell? ⟨b,j,none⟩=some v->W1.cell? ⟨b,j,none⟩=some v:=λj v h=>by rw[hW1,World.cell?_alloc_past (w:=w.drew) _ b j hbw];exact h
 have hOv:∀ j v,w.cell? ⟨vb,j,none⟩=some v->W1.cell? ⟨vb,j,none⟩=some v:=λj v h=>by rw[hW1,World.cell?_alloc_past (w:=w.drew) _ vb j hvw];exact h
 have hcpA:∀ (W:World),(∀ x,W.cell? x=W1.cell? x)->(∀ x,W.frozen? x=W1.frozen? x)->∀ ty dc,(Builtin.copy_ #[84,84] ty #[.slice (some ⟨w.heap.size,(i)*3,none⟩) (n+1-i) dc,.slice (some ⟨vb,0,none⟩) 1 vc]).run Tryz.prog W=.ok (goInt (1:Nat)) (W.setCells w.heap.size ((i)*3) vs):=λW hWc hWf ty dc =>
  Gl W _ _ ty 99 w.heap.size ((i)*3) (n+1-i) dc ⟨vb,0,none⟩ 1 vc 3 1 vs Tryz.underlying84 hsz (by simp only[kR];split <;> omega) (by omega)
   (λj v hj=>by rw[Addr.add_lit,hWc,yK];exact hOv _ v (hvs j v hj))
   (λj hj=>by rw[hWc];exact hN _ (by omega)) (λj hj=>by rw[hWf];exact hNf _) h1v
 have hGn:n+1<=G:=by rw[hG];exact grownCap_ge w _ _ _
 have hG63:G<=9223372036854775807:=by
  have:=grownCap_le_maxLen w (n+1) c 99 (by unfold maxLen;omega)
  rw[<- hG] at this
  unfold maxLen at this
  omega
 have hGi:¬ (G=i):=by omega
 have hGim:¬ (G=i+1):=by omega
 have hci:¬ (c=i):=by omega
 have hbN:b≠w.heap.size:=by omega
 have hdl:(cs.drop ((i)*3)).length=(n-i)*3:=by rw[yB,hcl];omega
 have hcpB:∀ (W:World),(∀ x,W.cell? x=(W1.setCells w.heap.size ((i)*3) vs).cell? x)->(∀ x,W.frozen? x=(W1.setCells w.heap.size ((i)*3) vs).frozen? x)->∀ ty dc sc,(Builtin.copy_ #[84,84] ty #[.slice (some ⟨w.heap.size,(i+1)*3,none⟩) (n-i) dc,.slice (some ⟨b,(i)*3,none⟩) (n-i) sc]).run Tryz.prog W=.ok (goInt (n-i:Nat)) (W.setCells w.heap.size ((i+1)*3) (cs.drop ((i)*3))):=λW hWc hWf ty dc sc =>
  Gl W _ _ ty 99 w.heap.size ((i+1)*3) (n-i) dc ⟨b,(i)*3,none⟩ (n-i) sc 3 (n-i) (cs.drop ((i)*3)) Tryz.underlying84 hsz (by simp only[kR];split <;> omega) hdl
   (λj v hj=>by
    rw[Addr.add_lit,hWc,World.cell?_setCells_out _ _ _ _ _ (λh _=>absurd h hbN)]
    exact hOb _ v (hcs ((i)*3+j) v (by rwa [yH] at hj)))
   (λj hj=>by rw[hWc];exact isSome_setCells w.heap.size vs ((i)*3) W1 (λt ht=>hN _ (by omega)) _ (hN _ (by rw[hdl] at hj;omega)))
   (λj hj=>by rw[hWf,World.frozen?_setCells];exact hNf _) (λv hv=>h1c v (kE hv))
 subst hW1
 have hE1:∀ x,((w.alloc (.cells ROW 99)).drew).cell? x=(w.drew.alloc (.cells ROW 99)).cell? x:=λx=>rfl
 have hE2:∀ x,((w.alloc (.cells ROW 99)).drew).frozen? x=(w.drew.alloc (.cells ROW 99)).frozen? x:=λx=>rfl
 have hF1:∀ x,(((w.alloc (.cells ROW 99)).drew.setCells w.heap.size ((i)*3) vs).drew).cell? x=((w.drew.alloc (.cells ROW 99)).setCells w.heap.size ((i)*3) vs).cell? x:=λx=>rfl
 have hF2:∀ x,(((w.alloc (.cells ROW 99)).drew.setCells w.heap.size ((i)*3) vs).drew).frozen? x=((w.drew.alloc (.cells ROW 99)).setCells w.heap.size ((i)*3) vs).frozen? x:=λx=>rfl
 have hw1:IntKind.i64.wrap ((i:Int)+1)=(i:Int)+1:=by rw[IntKind.wrap_i64];omega
 have hb1:(0:Int)<=(i:Int)+1:=by omega
 have hin:i<=n:=by omega
 have htn:((i:Int)+1).toNat=i+1:=by omega
 have hb3:(i:Int)<=(n:Int):=by omega
 clear hkk hik hold hROW hG hRl htl hzc
 go_enter Tryz.func127,Tryz.ntmps127
 go_wp2_with (first
  | (at_builtin;refine Lib.wpList_append_run _ rfl _ _ _ _ rfl _ _ rfl rfl _ _ (hrz _) ?_)
  | (at_builtin;refine wpList_copy_runI _ rfl _ _ 84 84 rfl _ _ rfl rfl (hcpA _ hE1 hE2 _ _) ?_)
  | (at_builtin;refine wpList_copy_runI _ rfl _ _ 84 84 rfl _ _ rfl rfl (hcpB _ (λ_=>rfl) (λ_=>rfl) _ _ _) ?_))
 go_region_law_o (refine step_copy_runI rfl _ _ 84 84 rfl (.slice (some ⟨w.heap.size,(i+1)*3,none⟩) (n-i) (G-(i+1))) (.slice (some ⟨b,(i)*3,none⟩) (n-i) (c-i)) (by simp [Act.eval,Act.put]) (by simp [Act.eval,Act.put]) (hcpB _ hF1 hF2 3 (G-(i+1)) (c-i)) ?_)
 go_wp2
 go_ret
 exact⟨R,R⟩
set_option maxHeartbeats 4000000 in
theorem Ai1 (vb vc:Nat) (vs:List Value) (w:World) (i0:TypeInfo) (hi0:Tryz.prog.info? 99=some i0) (hz0:i0.zero=some (.agg #[.slice none 0 0,.slice none 0 0,.bool false])) (hs0:i0.size=3)
  (hfit:Builtin.nextslicecap (0+1) 0*i0.bytes<=281474976710656) (hvl:vs.length=3)
  (hvs:∀ j v,vs[j]? = some v->w.cell? ⟨vb,j,none⟩=some v) (h1v:∀ v∈vs,v.oneCell'=true) :
  Calls Tryz.prog 127 #[.slice none 0 0,.int .i64 ((0:Nat):Int),.slice (some ⟨vb,0,none⟩) 1 vc] w λe w' =>
   e=.returned (.slice (some ⟨w.heap.size,0,none⟩) (0+1) (grownCap w (0+1) 0 99)) /\
   w'=w.drew.alloc (.cells (([]++vs).toArray++Builtin.zeroCells (Value.cells (.agg #[.slice none 0 0,.slice none 0 0,.bool false])) (grownCap w (0+1) 0 99-(0+1))) 99):=by
 have hsrc:_root_.Go.Src Tryz.prog i0.size 84 (.slice (some ⟨vb,0,none⟩) 1 vc) 1 vs w:=by
  rw[hs0]
  exact _root_.Go.Src.ofSlice w Tryz.underlying84 ⟨vb,0,none⟩ 1 vc vs (by omega) (λj u hj=>by rw[Addr.add_lit,yK];exact hvs j u hj) h1v
 have hold:(Builtin.firstCells i0.size 0 (.slice none 0 0)).run Tryz.prog w.drew=.ok ([]:List Value).toArray w.drew:=by
  rw[hs0]
  exact run_firstCells_none w.drew 3 0 0 0
 have hrun:∀ ty,(Builtin.append_ #[84,84] ty #[.slice none 0 0,.slice (some ⟨vb,0,none⟩) 1 vc]).run Tryz.prog w=.ok (.slice (some ⟨w.heap.size,0,none⟩) (0+1) (grownCap w (0+1) 0 99)) (w.drew.alloc (.cells (([]++vs).toArray++Builtin.zeroCells (Value.cells (.agg #[.slice none 0 0,.slice none 0 0,.bool false])) (grownCap w (0+1) 0 99-(0+1))) 99)):=λty =>
  run_append_grow_src w 84 84 ty 99 i0 _ Tryz.underlying84 hi0 hz0 none 0 0 [] hold _ 1 vs hsrc (by omega) (by omega) hfit
 go_enter Tryz.func127,Tryz.ntmps127
 go_wp2_with (at_builtin;refine Lib.wpList_append_run _ rfl _ _ _ _ rfl _ _ rfl rfl _ _ (hrun _) ?_)
 all_goals (go_ret;first|exact⟨rfl,rfl⟩|exact⟨rfl,by simp [Value.cells]⟩)
theorem Agl:(Tryz.prog.info? 99).map (λi=>(i.zero,i.size,i.bytes))=some (some (.agg #[.slice none 0 0,.slice none 0 0,.bool false]),3,56):=by kernel_rfl
theorem Apm {cs vs:List Lf} {n i:Nat} (hcl:cs.length=n*3) (hvl:vs.length=3) (hi:i<=n) (hn:(n+1)*56<=140737488355328) :
  Cv Qx0 127 [.arr 99 3 0 cs,.arr 99 3 0 vs] [.one (.ls 0 n),.one (Ii6 (i:Int)),.one (.ls 1 1)] (λy m'=>y=L7 (.ls 0 (n+1))/\m'=[.arr 99 3 0 (cs.take (i*3)++vs++cs.drop (i*3)),.dead]):=by
 refine Yc (by decide) hcl hvl (λw v1 vb vc cur2 xs ys hown hg2 hcell hyl hne hx1 hy1=>?_)
 obtain⟨i0,hi0,hz0,hs0,hb0⟩:=info_parts Agl
 have hxl:=hown.1
 have hfitG:∀ {old},old<n+1->Builtin.nextslicecap (n+1) old*i0.bytes<=281474976710656:=λh=>growslice_fits h (by rw[hb0];exact hn)
 have hsz':(Tryz.prog.info? 99).map (·.size)=some 3:=by rw[hi0];simp [hs0]
 have hzc:∀ k,(Builtin.zeroCells (Value.cells (.agg #[.slice none 0 0,.slice none 0 0,.bool false])) k).size=k*3:=λk=>by simp [Builtin.zeroCells,Value.cells]
 have hg63:∀ c,grownCap w (n+1) c 99<=maxLen:=λc=>grownCap_le_maxLen w (n+1) c 99 (by unfold maxLen;omega)
 have hgge:∀ c,n+1<=grownCap w (n+1) c 99:=λc=>grownCap_ge w _ _ _
 rcases hown.2 with⟨rfl,h0⟩|⟨g,cap,cur,rfl,_,hg,hnc,hcm,hcs,hct⟩
 ·subst h0
  have hi0':i=0:=by omega
  subst hi0'
  have hx0:xs=[]:=j8.1 (hxl.trans (kG _))
  subst hx0
  refine(Ai1 vb vc ys w i0 hi0 hz0 hs0 (hfitG (by omega)) hyl hcell hy1).mono ?_
  rintro e w' ⟨rfl,rfl⟩
  refine⟨_,w.heap.size,R,N0 (hgge 0) (hg63 0) ?_ ?_,.inr (zO _)⟩
  ·have:=hgge 0
   rw[yY,hzc,yE,wZ,hyl];omega
  ·rw[xR,xA,wK (by rw[wZ,hyl])]
   simp
 ·have hcur:cur.toList.length=cap*3:=by rw[zX];exact hcs
  have hcell1:∀ j v,xs[j]? = some v->w.cell? ⟨g,j,none⟩=some v:=λj v hj=>by
   unfold World.cell?
   rw[hg]
   rw[<- hct,yF] at hj
   split at hj
   ·simpa using hj
   ·cases hj
  have hc63:cap<=9223372036854775807:=by unfold maxLen at hcm;exact hcm
  have hsome:∀ j,j<cap*3->(w.cell? ⟨g,j,none⟩).isSome=true:=λj hj=>by
   unfold World.cell?
   rw[hg]
   show(cur[j]?).isSome=true
   rw[zR (by omega)];rfl
  have hfrz:∀ j,w.frozen? ⟨g,j,none⟩=false:=λj=>by
   unfold World.frozen?
   rw[hg]
   show(decide (0<=j)&&decide (j<0))=false
   rw[decide_eq_false (zW j),jF]
  have hfrz2:∀ j,w.frozen? ⟨vb,j,none⟩=false:=λj=>by
   unfold World.frozen?
   rw[hg2]
   show(decide (0<=j)&&decide (j<0))=false
   rw[decide_eq_false (zW j),jF]
  have hvb:vb≠g:=λe=>hne (by rw[e];rfl)
  rcases Nat.lt_or_eq_of_le hi with hlt|rfl
  ·rcases zU cap (n+1) with hroom|hroom
   ·refine(Agb g n cap i vb vc xs ys w i0 hi0 hz0 hs0 hlt hnc hroom (by omega) (by rw[hb0];omega) (hfitG hroom) hxl hyl hcell1 hcell hx1 hy1).mono ?_
    rintro e w' ⟨rfl,rfl⟩
    have hge:=hgge cap
    have htl:(xs.take (i*3)).length=i*3:=by rw[zN];omega
    have:=Ui (E:=99) (sz:=3) (w:=w) (row:=(xs.take (i*3)).toArray++Builtin.zeroCells (Value.cells (.agg #[.slice none 0 0,.slice none 0 0,.bool false])) (n+1-i)++Builtin.zeroCells (Value.cells (.agg #[.slice none 0 0,.slice none 0 0,.bool false])) (grownCap w (n+1) cap 99-(n+1))) (xs:=xs.take (i*3)) (vs:=ys) (D:=xs.drop (i*3)) hlt hge (hg63 cap)
     (by rw[yY,yY,hzc,hzc,yE,htl];omega) hyl (by rw[yB,hxl];omega)
     (by rw[xR,xR,xA,xM,wK htl])
    refine⟨_,w.heap.size,R,?_,.inr (zO _)⟩
    first|exact this|simpa only [k9] using this
   ·refine(Aev g n cap i vb vc xs ys w hsz' hlt hroom hc63 hvb hxl hyl hcell1 (λj hj=>hsome j (by omega)) (λj _=>hfrz j) hcell hx1 hy1 99 99 cur2.size cur.size (by unfold World.shape?;rw[hg2]) (by unfold World.shape?;rw[hg]) (by omega) (hfrz2 _) (hfrz2 _)).mono ?_
    rintro e w' ⟨rfl,rfl⟩
    have:=Sw (E:=99) (sz:=3) (b:=g) (vs:=ys) hg hlt hroom hcm hcs hyl
    rw[hct] at this
    refine⟨_,g,R,?_,.inl R⟩
    first|exact this|simpa only [k9] using this
  ·have hxe:xs.take (i*3)++ys++xs.drop (i*3)=xs++ys:=by
    rw[yO (by omega),w7 (by omega),xG]
   rw[hxe]
   rcases zU cap (i+1) with hroom|hroom
   ·refine(Add g i cap vb vc xs ys w i0 hi0 hz0 hs0 hnc hroom (by omega) (hfitG hroom) hxl hyl hcell1 hcell hy1).mono ?_
    rintro e w' ⟨rfl,rfl⟩
    have hge:=hgge cap
    refine⟨_,w.heap.size,R,N0 hge (hg63 cap) ?_ ?_,.inr (zO _)⟩
    ·rw[yY,hzc,yE,zH,hxl,hyl];omega
    ·rw[xR,xA,wK (by rw[zH,hxl,hyl];omega)]
   ·refine(Ajc g i cap vb vc ys w i0 hi0 hs0 hroom hc63 hyl (λj hj=>hsome _ (by omega)) (λj _=>hfrz _) hcell hy1).mono ?_
    rintro e w' ⟨rfl,rfl⟩
    have:=V6 (E:=99) (sz:=3) (n:=i) (b:=g) (vs:=ys) hg hroom hcm hcs hyl
    rw[hct] at this
    exact⟨_,g,R,this,.inl R⟩
end
def Mz (a0:List Ae) (a1:Int) (a2:List Ae):Option (List Ae):=An9 56 a0 a1 a2
theorem U2 {a0:List Ae} {a1:Int} {a2 r:List Ae} (h:Mz a0 a1 a2=some r):Cv Qx0 127 [.arr 99 3 0 (a0.flatMap Am),.arr 99 3 0 (a2.flatMap Am)] [.one (.ls 0 a0.length),.one (Ii6 a1),.one (.ls 1 a2.length)] (λy m'=>y=L7 (.ls 0 r.length)/\m'=[.arr 99 3 0 (r.flatMap Am),.dead]) :=
 Amb (f:=Am) (λ_=>rfl) Apm h
def K8 (a0:Bf) (a1:Ae) (b1:Unit):Option (Bf×Int) :=
 (Dn a0).bind λv2=>(Kr v2 a1.Key).bind λv3=>(Jq a0.L).bind λv4=>if v3.2 then((idx v4 v3.1).bind λu5=>some ((Bf.mk (v4.set v3.1.toNat a1)),0)) else(if (decide (16<=(v4.length:Int))) then(some ((Bf.mk ([]:List Ae)),8)) else((Mz v4 v3.1 [a1]).bind λv6=>some ((Bf.mk v6),0)))
def Br (a0:Bf) (a1:Ae):Option (Bf×Int) :=
 (E8 (Bf.mk a0.L)).bind λv7=>if (!v7) then(some ((Bf.mk ([]:List Ae)),1)) else((Ca (Ae.mk a1.Key a1.Val a1.Del)).bind λv8=>if (!v8) then(some ((Bf.mk ([]:List Ae)),1)) else(K8 a0 a1 ()))
theorem Ph {a0:Bf} {a1:Ae} {r:Bf×Int} (h:Br a0 a1=some r):A6 Qx0 53 [.agg [SL a0.L Am],.agg (EL.el a1)] (·=.tup [.agg [SL r.1.L Am],.one (Ii6 r.2)]):=by
 refine An Tryz.func53 R (nt:=46) R (Nbl R) ?_
 intro w0 S0
 refine crs R (Bb (Bb (cj3 (Unit) (λb1=>[(2,L7 (.lp 0 0)),(3,L7 (.lp 1 0)),(4,L7 (.lp 2 0))]) (λb1=>[.box [SL a0.L Am],BE a1,.box [Znl]]) (λb1=>K8 a0 a1 b1=some r) fR (λb1 h=>?_) ?_)))
 ·refine Bb ?_
  obtain⟨v2,hv2,h⟩:=Aa h
  obtain⟨v3,hv3,h⟩:=Aa h
  refine Hs [] [0,1,0,4,15,31,63,63,127,511] [[.box [SL a0.L Am],BE a1,.box [Znl]]] (by kernel_rfl) mixed (by kernel_rfl) (by decide) R R R R ?_
  refine ev (Aw 0 R R) R R (lo Aut R R R) (ed (Aw 0 R R) R R (Cf (fk R) (Af R A2) R (Px hv2)) (ev (Aw 0 R R) R R (Ah Ab1 R) (ev (Aw 0 R R) R R (l1 Yz R R R) (ed (Aw 0 R R) R R (Cf (fk R) (Af R (Af R A2)) R (Qs hv3)) (ev (Aw 0 R R) R R (Wf R) (ev (Aw 0 R R) R R (Ei R R) (ev (Aw 0 R R) R R (Ei R R) (ev (Aw 0 R R) R R (Hh R) (ev (Aw 0 R R) R R (Hh R) (Abz (Ag (csr (rx 2 R ?_)))))))))))))
  obtain⟨v4,hv4,h⟩:=Aa h
  refine Gi (x':=L7 (.ls 3 v4.length)) (M':=[.box [SL a0.L Am],BE a1,.box [Znl],.arr 99 3 0 (v4.flatMap Am)]) [] R (fk R) (.func _) (Af R A2) (Ux hv4) R R (by decide) R R R ?_
  refine rsn R (Bb (crs R (ccI h R (λh=>?_) (λh=>?_))))
  ·refine csr (rx 3 R ?_)
   obtain⟨u5,hu5,h⟩:=Aa h
   refine sv R (Gc (f:=Am) Ag5 fR R R R R R hu5) ?_
   refine Aa1 (f:=Am) (u':=a1) (sz:=3) 0 Azv fR R R R R R R R (zL.1 R) (Ft hu5).2 (Nbl R) R ?_
   refine Kk 28 (y:=L7 (.ls 3 v4.length)) (L7 (.ls 3 (v4.set v3.1.toNat a1).length)) R (congrArg (λn=>AV.s (.one (.ls 3 n))) List.length_set.symm) ?_
   refine Kk 8 (y:=L7 (.ls 3 v4.length)) (L7 (.ls 3 (v4.set v3.1.toNat a1).length)) R (congrArg (λn=>AV.s (.one (.ls 3 n))) List.length_set.symm) ?_
   refine Kk 30 (y:=L7 (.ls 3 v4.length)) (L7 (.ls 3 (v4.set v3.1.toNat a1).length)) R (congrArg (λn=>AV.s (.one (.ls 3 n))) List.length_set.symm) ?_
   refine Oy (crs R (crt ?_))
   cases SJ h
   refine⟨Or.inr R,_,_,_,(Au (ra Aut R R R) (Au (rt R) A4)),pb,?_⟩
   rfl
  ·refine csn (Bb (csr (rm 1 R (sv R (Fw Ag5 R R (Aq (f:=Am) fR _).symm) ?_))))
   refine rsn R (ccI h R (λh=>?_) (λh=>?_))
   ·refine crs R (crt ?_)
    cases SJ h
    exact dE R (F1 R) R
   ·refine csn (csr (rx 3 R ?_))
    refine Eg R Tryz.underlying84 Ayh R R (zL.1 R) (by decide) ?_
    refine Pf [.box [SL a0.L Am],BE a1,.box [Znl],.arr 99 3 0 (v4.flatMap Am),.arr 99 3 0 ([a1].flatMap Am)] R ?_
    obtain⟨v6,hv6,h⟩:=Aa h
    refine Gi (x':=L7 (.ls 3 v6.length)) (M':=[.box [SL a0.L Am],BE a1,.box [Znl],.arr 99 3 0 (v6.flatMap Am),.dead]) [3,4] R (fk R) (.func _) (Af R (Af R (Af R A2))) (U2 hv6) R R (by decide) R R R ?_
    refine rsn R (Bn ?_)
    cases SJ h
    refine⟨Or.inr R,_,_,_,(Au (ra Aut R R R) (Au (rt R) A4)),pb,?_⟩
    rfl
 ·refine Bg (rx 1 R ?_)
  obtain⟨v7,hv7,h⟩:=Aa h
  refine scI R R (Nh hv7) (rx 2 R (ssI 12 h R (λh=>?_) (λh=>?_)))
  ·refine rsn R (B1 R (λ_=>?_) (λhx=>Bool.noConfusion hx))
   refine crs R (crt ?_)
   cases SJ h
   exact dE R (F1 R) R
  ·refine rx 1 R (son R R R ?_)
   obtain⟨v8,hv8,h⟩:=Aa h
   refine scI R R (M5 hv8) (rsn R (ccI h R (λh=>?_) (λh=>?_)))
   ·refine crs R (crt ?_)
    cases SJ h
    exact dE R (F1 R) R
   ·refine csn ?_
    exact⟨(),_,h,(ml R),R⟩
def P4 (a0:Ab) (a1:Ax) (a2:Int):Option Ab :=
 (Ol a2 1).bind λv1=>if v1 then(some a0) else((Cd a0 a1).bind λv2=>some v2)
theorem Aal {a0:Ab} {a1:Ax} {a2:Int} {r:Ab} (h:P4 a0 a1 a2=some r):A6 Qx0 66 [.agg (EL.el a0),.agg (EL.el a1),.one (.raw (.iface 62 (.int .i64 a2)))] (·=.s (.agg (EL.el r))):=by
 refine An Tryz.func66 R (nt:=14) R (Nbl R) ?_
 intro w0 S0
 refine crs R (Bb (csr (rm 1 R (sv R (Ahh Tryz.underlying62 R) ?_))))
 obtain⟨v1,hv1,h⟩:=Aa h
 refine scI R R (Y3 hv1) (Oy (ccI h R (λh=>?_) (λh=>?_)))
 ·refine crs R (crt ?_)
  cases SJ h
  exact dnA R Aii R (.lp _ _ _ R) (Nbl R) R R
 ·refine csn (csr (rx 2 R ?_))
  obtain⟨v2,hv2,h⟩:=Aa h
  refine scI R R (Gp hv2) (rsn R (Bn ?_))
  cases SJ h
  exact dnA R Aii R (.lp _ _ _ R) (Nbl R) R R
def Jt (a0:List Ax):Option (List Ax) :=
 if (([]:List Ax).length+a0.length)*64<=140737488355328 then(some (([]:List Ax)++a0)) else none
theorem Vd {a0:List Ax} {r:(List Ax)} (h:Jt a0=some r):Cv Qx0 139 [] [.one (SL a0 A7)] (λy m'=>y=L7 (.ls 0 r.length)/\m'=[.arr 88 6 0 (r.flatMap A7)]):=by
 refine Cs Tryz.func139 R (nt:=8) R (Nbl R) ?_
 intro w0 S0 X0 H0
 refine crs R (Bb (csr (rm 1 R (Ab6 R Tryz.underlying38 R (λnq hnq=>?_)))))
 cases nq
 ·refine Oy (B1 R (λhx=>Bool.noConfusion hx) (λ_=>?_))
  refine csn (csr (Sz R Tryz.underlying38 Aue (rx 1 R ?_)))
  obtain⟨hb1,h⟩:=B5 h
  refine Tp (f:=A7) (xs:=([]:List Ax)) (us:=a0) R Tryz.underlying38 Aue Ayj fR R R (.one _ _ _ _ (.id _ R)) R R R (.sl _ _ _ (Aq (f:=A7) fR _)) R R hb1 (by decide) ?_
  refine rsn R (Bn ?_)
  cases SJ h
  exact⟨Or.inr R,_,[0],[.one (.ls 0 (([]:List Ax)++a0).length)],[.arr 88 6 0 ((([]:List Ax)++a0).flatMap A7)],(Au (rt R) A4),R,R,⟨by decide,R⟩,R,R,⟨R,R⟩⟩
 ·obtain rfl:=z7 (hnq rfl)
  replace h:(some ([]:List Ax))=some r:=by first|exact h|(rw[if_pos (by decide)] at h;exact h)
  refine Oy (B1 R (λ_=>?_) (λhx=>Bool.noConfusion hx))
  refine crs R ?_
  refine Cq 88 6 2 (by decide) R ?_
  refine crt ?_
  cases SJ h
  exact⟨Or.inr R,_,[0],[.one (.ls 0 ([]:List Ax).length)],[.arr 88 6 0 (([]:List Ax).flatMap A7)],(Au (rt R) A4),R,R,⟨by decide,R⟩,R,R,⟨R,R⟩⟩
def Md (a0:Ab) (a1:Ax):Option Ab :=
 (Jt a0.Open).bind λv1=>(Dc (Ab.mk (Bc.mk a0.Store.Keys a0.Store.Chains a0.Store.Ts) (Ay.mk a0.Cert.Txs (Be.mk a0.Cert.Reads.L)) (A1.mk a0.Toks.L) a0.Open a0.Next) a1.ID).bind λv2=>(idx v1 v2).bind λu3=>some (Ab.mk (Bc.mk a0.Store.Keys a0.Store.Chains a0.Store.Ts) (Ay.mk a0.Cert.Txs (Be.mk a0.Cert.Reads.L)) (A1.mk a0.Toks.L) (v1.set v2.toNat a1) a0.Next)
theorem Xf {a0:Ab} {a1:Ax} {r:Ab} (h:Md a0 a1=some r):A6 Qx0 67 [.agg (EL.el a0),.agg (EL.el a1)] (·=.s (.agg (EL.el r))):=by
 refine An Tryz.func67 R (nt:=19) R (Nbl R) ?_
 intro w0 S0
 refine crs R (csr (rx 2 R ?_))
 obtain⟨v1,hv1,h⟩:=Aa h
 refine Gi (x':=L7 (.ls 3 v1.length)) (M':=[BE a0,BE a1,.box Zba,.arr 88 6 0 (v1.flatMap A7)]) [] R (fk R) (.func _) (Af R A2) (Vd hv1) R R (by decide) R R R ?_
 refine rsn R (Bb ?_)
 obtain⟨v2,hv2,h⟩:=Aa h
 obtain⟨u3,hu3,h⟩:=Aa h
 refine Hs [7] [0,0,0,4,14,0,63,127] [[BE a0,BE a1,.box Zba,.arr 88 6 0 (v1.flatMap A7)],[BE a0,BE a1,.box Zba,.arr 88 6 0 ((v1.set v2.toNat a1).flatMap A7)]] (by kernel_rfl) mixed (by kernel_rfl) (by decide) R R R R ?_
 refine ev (Aw 0 R R) R R (Bj R) (ev (Aw 0 R R) R R (lo Aii R R R) (ev (Aw 0 R R) R R (Ah Ana R) (ev (Aw 0 R R) R R (l1 ti3 R R R) (ed (Aw 0 R R) R R (Cf (fk R) (Af R (Af R A2)) R (Qy hv2)) (ev (Aw 0 R R) R R (lo Ao8 R R R) ?_)))))
 refine ev (Aw 0 rfl rfl) rfl rfl (Gc (f:=A7) Aih (λ_=>rfl) rfl rfl rfl (by first|rfl|exact List.length_set.symm) rfl hu3) ?_
 refine ee0 0 R R R R (λζ=>?_) ?_
 ·refine Aa1 (f:=A7) (u':=a1) (sz:=6) 0 A0z (λ_=>rfl) rfl rfl rfl rfl (by first|rfl|exact List.length_set.symm) rfl rfl (zL.1 rfl) (Ft hu3).2 (Nbl rfl) rfl ?_
  exact Tt
 refine Abz (Ag (Ya 8 (y:=L7 (.ls 3 v1.length)) (L7 (.ls 3 (v1.set v2.toNat a1).length)) R (congrArg (λn=>AV.s (.one (.ls 3 n))) List.length_set.symm) ?_))
 refine Ya 5 (y:=L7 (.ls 3 v1.length)) (L7 (.ls 3 (v1.set v2.toNat a1).length)) R (congrArg (λn=>AV.s (.one (.ls 3 n))) List.length_set.symm) ?_
 refine Ya 9 (y:=L7 (.ls 3 v1.length)) (L7 (.ls 3 (v1.set v2.toNat a1).length)) R (congrArg (λn=>AV.s (.one (.ls 3 n))) List.length_set.symm) ?_
 refine crs R (crs R (Bn ?_))
 cases SJ h
 refine⟨Or.inr R,_,_,_,(Au (ra Aii R R R) A4),pb,?_⟩
 rfl
def Kl (a0:Ab) (a1:Int) (a2:Ae):Option (Ab×Int) :=
 (Fq a0 a1).bind λv1=>if (!decide (v1.2=0)) then((Ck a0 v1.2).bind λv2=>some (v2,v1.2)) else(if v1.1.RO then(some (a0,7)) else((Br v1.1.Buf a2).bind λv3=>if (!decide (v3.2=0)) then((P4 a0 v1.1 v3.2).bind λv4=>some (v4,v3.2)) else((Md a0 ({v1.1 with Buf:=v3.1})).bind λv5=>some (v5,0))))
theorem S8 {a0:Ab} {a1:Int} {a2:Ae} {r:Ab×Int} (h:Kl a0 a1 a2=some r):A6 Qx0 25 [.agg (EL.el a0),.one (Ii6 a1),.agg (EL.el a2)] (·=.tup [.agg (EL.el r.1),.one (Ii6 r.2)]):=by
 refine An Tryz.func25 R (nt:=46) R (Nbl R) ?_
 intro w0 S0
 refine crs R (csr (rx 2 R ?_))
 obtain⟨v1,hv1,h⟩:=Aa h
 refine scI R R (Lw hv1) (rsn R (Bb (crs R (ccI h R (λh=>?_) (λh=>?_)))))
 ·refine csr (rx 2 R ?_)
  obtain⟨v2,hv2,h⟩:=Aa h
  refine scI R R (Hf hv2) (rsn R (crt ?_))
  cases SJ h
  exact dE R (Bq R) R
 ·refine csn (Bb (crs R (ccI h R (λh=>?_) (λh=>?_))))
  ·refine crs R (crt ?_)
   cases SJ h
   exact dE R (Bq R) R
  ·refine csn (csr (rx 3 R ?_))
   obtain⟨v3,hv3,h⟩:=Aa h
   refine scI R R (Ph hv3) (rsn R (Bb (crs R (ccI h R (λh=>?_) (λh=>?_)))))
   ·refine csr (rx 3 R (sv R (Ahh Tryz.underlying62 R) ?_))
    obtain⟨v4,hv4,h⟩:=Aa h
    refine scI R R (Aal hv4) (rsn R (crt ?_))
    cases SJ h
    exact dE R (Bq R) R
   ·refine csn (crs R (csr (rx 2 R ?_)))
    obtain⟨v5,hv5,h⟩:=Aa h
    refine scI R R (Xf hv5) (rsn R (Bn ?_))
    cases SJ h
    exact dE R (Bq R) R
def Q9 (b1:(List (List UInt8))):Option (List (List UInt8)) :=
 some b1
def Rs (a0:Bf) (s2:Int×(List (List UInt8))):Option (LB (Int×(List (List UInt8))) ((List (List UInt8)))) :=
 if (decide (s2.1<(a0.L.length:Int))) then((idx a0.L s2.1).bind λu3=>if (s2.2.length+[u3.Key].length)*24<=140737488355328 then(some (.cont ((wI (s2.1+1)),(s2.2++[u3.Key])))) else none) else(some (.brk s2.2))
def H9 (a0:Bf):Option (List (List UInt8)) :=
 (B8 (Rs a0) fuel (0,([]:List (List UInt8)))).bind λe5=>Q9 e5
theorem Xs {a0:Bf} {r:(List (List UInt8))} (h:H9 a0=some r):A6 Qx0 141 [.agg [SL a0.L Am]] (·=L7 (SL r (eL eU8))):=by
 refine An Tryz.func141 R (nt:=20) R (Nbl R) ?_
 intro w0 S0
 refine crs R (crs R (Bb (crs R ?_)))
 refine Cq 56 1 3 (by decide) R ?_
 refine cj ((List (List UInt8))) (λb1=>[(3,L7 (.ls 1 b1.length))]) (λb1=>[.box [SL a0.L Am],.arr 56 1 0 (b1.flatMap (eL eU8))]) (λb1=>Q9 b1=some r) fR (λb1 h=>?_) ?_
 ·refine crs R (Bn ?_)
  cases SJ h
  refine⟨Or.inr R,_,_,_,(Au (rt R) A4),pb,?_⟩
  rfl
 ·refine Bh ?_
  obtain⟨x2,hx2,ho2⟩:=Aa h
  refine lpn (α:=Int×(List (List UInt8))) (λg=>[(3,L7 (.ls 1 g.2.2.length)),(7,L7 (SL a0.L Am)),(8,L7 (Ii6 (a0.L.length:Int))),(9,L7 (Ii6 g.2.1))]) (λg=>[.box [SL a0.L Am],.arr 56 1 0 (g.2.2.flatMap (eL eU8))]) (λg=>B8 (Rs a0) g.1 g.2=some x2) (fuel,(0,([]:List (List UInt8)))) hx2 R R fR ?_
  rintro⟨n2,s2⟩ h
  obtain⟨n2,y2,rfl,h,hk2⟩:=Cb h
  refine crs R (Bb (ccI h R (λh=>?_) (λh=>?_)))
  ·refine csn (csb ?_)
   obtain⟨u3,hu3,h⟩:=Aa h
   refine sv R (Bl (f:=Am) Ag5 fR R R R R hu3) ?_
   refine sv R (A8 (ys:=[SL u3.Key eU8,SL u3.Val eU8,.b u3.Del]) Auj R (.cp _) R R) (rsn R (Bg (rx 3 R ?_)))
   refine Eg R Tryz.underlying25 Ae9 R R (zL.1 R) (by decide) ?_
   refine Pf [.box [SL a0.L Am],.arr 56 1 0 (s2.2.flatMap (eL eU8)),BE u3,.arr 56 1 0 ([u3.Key].flatMap (eL eU8))] R ?_
   obtain⟨hb4,h⟩:=B5 h
   refine Tp (f:=(eL eU8)) (xs:=s2.2) (us:=[u3.Key]) R Tryz.underlying25 Ae9 Aus fR R R (.one _ _ _ _ (.ls _ _ _ _ _ _ R (Aq (f:=(eL eU8)) fR [u3.Key]).symm)) R R R (.sl _ _ _ (Aq (f:=(eL eU8)) fR _)) R R hb4 (by decide) ?_
   refine rm 1 R (Fi (A0 (Ag (cgs R ?_))))
   cases SJ h
   exact lx (n2,((wI (s2.1+1)),(s2.2++[u3.Key]))) hk2 R R
  ·refine cx5 ?_
   cases SJ h
   obtain rfl:_=x2:=hk2
   exact⟨s2.2,_,ho2,(ml R),R⟩
def Q6 (b2:Unit):Option Bool :=
 some true
def Gz (a0:Ay) (a2:Int) (s3:Int):Option (LR (Int) (Unit) (Bool)) :=
 if (decide (s3<(a0.Txs.length:Int))) then((idx a0.Txs s3).bind λu4=>if (decide (a2<=u4.End)) then(some (.ret false)) else(some (.cont (wI (s3+1))))) else(some (.brk ()))
def G0 (a0:Ay) (a2:Int) (b1:Unit):Option Bool :=
 (Gj (Gz a0 a2) fuel 0).bind λx=>match x with | .inl r=>some r | .inr e5=>Q6 e5
def My (a0:Ay) (a1:Ao) (a2:Int) (a3:List (List UInt8)):Option Bool :=
 if (decide (a2<=a1.Begin)) then(some false) else(if (decide (1099511627776<a2)) then(some false) else((Hv a3).bind λv6=>if (!v6) then(some false) else(if a1.RO then(if (decide (0<(a3.length:Int))) then(some false) else(G0 a0 a2 ())) else(G0 a0 a2 ()))))
theorem X8 {a0:Ay} {a1:Ao} {a2:Int} {a3:List (List UInt8)} {r:Bool} (h:My a0 a1 a2 a3=some r):A6 Qx0 209 [.agg (EL.el a0),.agg (EL.el a1),.one (Ii6 a2),.one (SL a3 (eL eU8))] (·=L7 (.b r)):=by
 refine An Tryz.func209 R (nt:=45) R (Nbl R) ?_
 intro w0 S0
 refine crs R (Bb (Bb (cj3 (Unit) (λb1=>[(2,L7 (Ii6 a2)),(4,L7 (.lp 0 0))]) (λb1=>[BE a0,BE a1]) (λb1=>G0 a0 a2 b1=some r) fR (λb1 h=>?_) ?_)))
 ·refine Bb (crs R (cj (Unit) (λb2=>[]) (λb2=>[BE a0,BE a1]) (λb2=>Q6 b2=some r) fR (λb2 h=>?_) ?_))
  ·refine crs R (Bn ?_)
   cases SJ h
   exact dnT R R R R
  ·refine Bh ?_
   obtain⟨x3,hx3,ho3⟩:=Aa h
   refine lpn (α:=Int) (λg=>[(2,L7 (Ii6 a2)),(34,L7 (SL a0.Txs Az)),(35,L7 (Ii6 (a0.Txs.length:Int))),(36,L7 (Ii6 g.2))]) (λg=>[BE a0,BE a1]) (λg=>Gj (Gz a0 a2) g.1 g.2=some x3) (fuel,0) hx3 R R fR ?_
   rintro⟨n3,s3⟩ h
   obtain⟨n3,y3,rfl,h,hk3⟩:=Ct h
   refine crs R (Bb (ccI h R (λh=>?_) (λh=>?_)))
   ·refine csn (csb ?_)
    obtain⟨u4,hu4,h⟩:=Aa h
    refine sv R (Bl (f:=Az) Tu fR R R R R hu4) ?_
    refine sv R (A8 (ys:=[Ii6 u4.ID,Ii6 u4.Begin,Ii6 u4.End,Ii6 u4.State,.b u4.In,.b u4.Out,.b u4.RO,SL u4.Keys (eL eU8)]) Nz R (.cp _) R R) (rsn R (crs R (ccI h R (λh=>?_) (λh=>?_))))
    ·refine crs R (Bn (br5 ?_))
     cases SJ h
     obtain rfl:Sum.inl _=x3:=hk3
     obtain rfl:=zD ho3
     exact dnT R R R R
    ·refine cbn (cgs R ?_)
     cases SJ h
     exact lx (n3,(wI (s3+1))) hk3 R R
   ·refine cx5 ?_
    cases SJ h
    obtain rfl:_=x3:=hk3
    exact⟨(),_,ho3,trivial,R⟩
 ·refine Bg (rx 5 R (ssI 15 h R (λh=>?_) (λh=>?_)))
  ·refine rsn R (B1 R (λ_=>?_) (λhx=>Bool.noConfusion hx))
   refine crs R (crt ?_)
   cases SJ h
   exact dnT R R R R
  ·refine rx 4 R (ssI 19 h R (λh=>?_) (λh=>?_))
   ·refine rsn R (B1 R (λ_=>?_) (λhx=>Bool.noConfusion hx))
    refine crs R (crt ?_)
    cases SJ h
    exact dnT R R R R
   ·refine rm 1 R (son R R R ?_)
    obtain⟨v6,hv6,h⟩:=Aa h
    refine scI R R (Qo hv6) (rx 3 R (ssI 24 h R (λh=>?_) (λh=>?_)))
    ·refine rsn R (B1 R (λ_=>?_) (λhx=>Bool.noConfusion hx))
     refine crs R (crt ?_)
     cases SJ h
     exact dnT R R R R
    ·refine rx 3 R (ssI 27 h R (λh=>?_) (λh=>?_))
     ·refine rsn R (ccI h R (λh=>?_) (λh=>?_))
      ·refine crs R (crt ?_)
       cases SJ h
       exact dnT R R R R
      ·refine csn ?_
       exact⟨(),_,h,(ml R),R⟩
     ·refine rsn R (B1 R (λhx=>Bool.noConfusion hx) (λ_=>?_))
      refine csn ?_
      exact⟨(),_,h,(ml R),R⟩
def Pm (b1:Unit):Option Bool :=
 some false
def Hq (s2:Int) (b5:Unit):Option (LR (Int) (Unit) (Bool)) :=
 some (.cont (wI (s2+1)))
def Fh (a2:List (List UInt8)) (u3:Ao) (s6:Int):Option (LR (Int) (Unit) (Bool)) :=
 if (decide (s6<(a2.length:Int))) then((idx a2 s6).bind λu7=>(Kr u3.Keys u7).bind λv8=>if v8.2 then(some (.ret true)) else(some (.cont (wI (s6+1))))) else(some (.brk ()))
def Ls (a2:List (List UInt8)) (s2:Int) (u3:Ao) (b4:Unit):Option (LR (Int) (Unit) (Bool)) :=
 (Gj (Fh a2 u3) fuel 0).bind λx=>match x with | .inl r=>some (.ret r) | .inr e9=>Hq s2 e9
def Ff (a0:Ay) (a1:Ao) (a2:List (List UInt8)) (s2:Int):Option (LR (Int) (Unit) (Bool)) :=
 if (decide (s2<(a0.Txs.length:Int))) then((idx a0.Txs s2).bind λu3=>if (!decide (u3.State=2)) then(some (.cont (wI (s2+1)))) else((Ey a1 u3).bind λv10=>if (!v10) then(some (.cont (wI (s2+1)))) else(Ls a2 s2 u3 ()))) else(some (.brk ()))
def Hr (a0:Ay) (a1:Ao) (a2:List (List UInt8)):Option Bool :=
 (Gj (Ff a0 a1 a2) fuel 0).bind λx=>match x with | .inl r=>some r | .inr e11=>Pm e11
theorem Vs {a0:Ay} {a1:Ao} {a2:List (List UInt8)} {r:Bool} (h:Hr a0 a1 a2=some r):A6 Qx0 210 [.agg (EL.el a0),.agg (EL.el a1),.one (SL a2 (eL eU8))] (·=L7 (.b r)):=by
 refine An Tryz.func210 R (nt:=45) R (Nbl R) ?_
 intro w0 S0
 refine crs R (Bb (crs R (cj (Unit) (λb1=>[]) (λb1=>[BE a0,BE a1]) (λb1=>Pm b1=some r) fR (λb1 h=>?_) ?_)))
 ·refine crs R (Bn ?_)
  cases SJ h
  exact dnT R R R R
 ·refine Bh ?_
  obtain⟨x2,hx2,ho2⟩:=Aa h
  refine lpn (α:=Int) (λg=>[(2,L7 (SL a2 (eL eU8))),(4,L7 (.lp 1 0)),(14,L7 (SL a0.Txs Az)),(15,L7 (Ii6 (a0.Txs.length:Int))),(16,L7 (Ii6 g.2))]) (λg=>[BE a0,BE a1]) (λg=>Gj (Ff a0 a1 a2) g.1 g.2=some x2) (fuel,0) hx2 R R fR ?_
  rintro⟨n2,s2⟩ h
  obtain⟨n2,y2,rfl,h,hk2⟩:=Ct h
  refine crs R (Bb (ccI h R (λh=>?_) (λh=>?_)))
  ·refine csn (csb ?_)
   obtain⟨u3,hu3,h⟩:=Aa h
   refine sv R (Bl (f:=Az) Tu fR R R R R hu3) ?_
   refine sv R (A8 (ys:=[Ii6 u3.ID,Ii6 u3.Begin,Ii6 u3.End,Ii6 u3.State,.b u3.In,.b u3.Out,.b u3.RO,SL u3.Keys (eL eU8)]) Nz R (.cp _) R R) (rsn R (Bb (Bb (cj3 (Unit) (λb4=>[(2,L7 (SL a2 (eL eU8))),(4,L7 (.lp 1 0)),(8,L7 (.lp 2 0)),(14,L7 (SL a0.Txs Az)),(15,L7 (Ii6 (a0.Txs.length:Int))),(16,L7 (Ii6 s2))]) (λb4=>[BE a0,BE a1,BE u3]) (λb4=>Ls a2 s2 u3 b4=some y2) fR (λb4 h=>?_) ?_))))
   ·refine crs R (Ahr (Unit) (λb5=>[(2,L7 (SL a2 (eL eU8))),(4,L7 (.lp 1 0)),(14,L7 (SL a0.Txs Az)),(15,L7 (Ii6 (a0.Txs.length:Int))),(16,L7 (Ii6 s2))]) (λb5=>[BE a0,BE a1,BE u3]) (λb5=>Hq s2 b5=some y2) (λ_ _=>T9 R) (λ_ _=>M1 R) (λ_ _=>Nbl R) (λb5 h=>?_) ?_)
    ·refine cgs R ?_
     cases SJ h
     exact lx (n2,(wI (s2+1))) hk2 R R
    ·refine Bh ?_
     obtain⟨x6,hx6,ho6⟩:=Aa h
     refine lpn (α:=Int) (λg=>[(2,L7 (SL a2 (eL eU8))),(4,L7 (.lp 1 0)),(8,L7 (.lp 2 0)),(14,L7 (SL a0.Txs Az)),(15,L7 (Ii6 (a0.Txs.length:Int))),(16,L7 (Ii6 s2)),(29,L7 (SL a2 (eL eU8))),(30,L7 (Ii6 (a2.length:Int))),(31,L7 (Ii6 g.2))]) (λg=>[BE a0,BE a1,BE u3]) (λg=>Gj (Fh a2 u3) g.1 g.2=some x6) (fuel,0) hx6 R R fR ?_
     rintro⟨n6,s6⟩ h
     obtain⟨n6,y6,rfl,h,hk6⟩:=Ct h
     refine crs R (Bb (ccI h R (λh=>?_) (λh=>?_)))
     ·refine csn (csb ?_)
      obtain⟨u7,hu7,h⟩:=Aa h
      refine sv R (Bl (f:=(eL eU8)) Ab4 fR R R R R hu7) ?_
      refine rsn R (csr (rx 3 R ?_))
      obtain⟨v8,hv8,h⟩:=Aa h
      refine scI R R (Qs hv8) (rsn R (crs R (ccI h R (λh=>?_) (λh=>?_))))
      ·refine crs R (Bn (br3 (D5 (br5 ?_))))
       cases SJ h
       obtain rfl:Sum.inl _=x6:=hk6
       obtain rfl:=zD ho6
       obtain rfl:Sum.inl _=x2:=hk2
       obtain rfl:=zD ho2
       exact dnT R R R R
      ·refine cbn (cgs R ?_)
       cases SJ h
       exact lx (n6,(wI (s6+1))) hk6 R R
     ·refine Tm (Cw (Cw (Ez (A0 (Ag ?_)))))
      cases SJ h
      obtain rfl:_=x6:=hk6
      exact⟨(),_,ho6,(ml R),R⟩
   ·refine Bg (rx 4 R (ssI 23 h R (λh=>?_) (λh=>?_)))
    ·refine rsn R (B1 R (λ_=>?_) (λhx=>Bool.noConfusion hx))
     refine Tm (Cw (Ez (Ag (cgs R ?_))))
     cases SJ h
     exact lx (n2,(wI (s2+1))) hk2 R R
    ·refine rx 2 R (son R R R ?_)
     obtain⟨v10,hv10,h⟩:=Aa h
     refine scI R R (Oc hv10) (rsn R (ccI h R (λh=>?_) (λh=>?_)))
     ·refine Tm (Cw (Ez (Ag (cgs R ?_))))
      cases SJ h
      exact lx (n2,(wI (s2+1))) hk2 R R
     ·refine csn ?_
      exact⟨(),_,h,(ml R),R⟩
  ·refine cx5 ?_
   cases SJ h
   obtain rfl:_=x2:=hk2
   exact⟨(),_,ho2,trivial,R⟩
def Aiy:Go.Shelf.Ren:=⟨λ| 5=>269|8=>191|7=>278|19=>246|20=>247|10=>282|11=>283|12=>284|13=>285|14=>286|15=>287|16=>288|17=>289|18=>290|30=>293|31=>263|32=>264|33=>294|34=>295|35=>296|40=>297|n=>n,λ| 23=>225|25=>3|3=>3|32=>307|22=>225|0=>0|44=>365|46=>367|4=>4|36=>359|35=>358|41=>177|5=>5|9=>9|53=>389|57=>393|63=>404|64=>405|n=>n,λ| n=>n⟩
theorem Aw1:Go.Proofs.SlLaysM.n5 Qx0 Aiy:={
 mixed:=by kernel_rfl,
 f5 :=⟨ "slices.Sort[[]int,int]", by decide, Tryz.func269.trans (congrArg some (by kernel_rfl))⟩,
 f7 :=⟨ "slices.pdqsortOrdered[int]", by decide, Tryz.func278.trans (congrArg some (by kernel_rfl))⟩,
 f8:=Tryz.func191.trans (congrArg some (by kernel_rfl)),
 f10 :=⟨ "slices.insertionSortOrdered[int]", by decide, Tryz.func282.trans (congrArg some (by kernel_rfl))⟩,
 f11 :=⟨ "slices.heapSortOrdered[int]", by decide, Tryz.func283.trans (congrArg some (by kernel_rfl))⟩,
 f12 :=⟨ "slices.breakPatternsOrdered[int]", by decide, Tryz.func284.trans (congrArg some (by kernel_rfl))⟩,
 f13 :=⟨ "slices.choosePivotOrdered[int]", by decide, Tryz.func285.trans (congrArg some (by kernel_rfl))⟩,
 f14 :=⟨ "slices.reverseRangeOrdered[int]", by decide, Tryz.func286.trans (congrArg some (by kernel_rfl))⟩,
 f15 :=⟨ "slices.partialInsertionSortOrdered[int]", by decide, Tryz.func287.trans (congrArg some (by kernel_rfl))⟩,
 f16 :=⟨ "cmp.Less[int]", by decide, Tryz.func288.trans (congrArg some (by kernel_rfl))⟩,
 f17 :=⟨ "slices.partitionEqualOrdered[int]", by decide, Tryz.func289.trans (congrArg some (by kernel_rfl))⟩,
 f18 :=⟨ "slices.partitionOrdered[int]", by decide, Tryz.func290.trans (congrArg some (by kernel_rfl))⟩,
 f19:=Tryz.func246.trans (congrArg some (by kernel_rfl)),
 f20:=Tryz.func247.trans (congrArg some (by kernel_rfl)),
 f30 :=⟨ "slices.siftDownOrdered[int]", by decide, Tryz.func293.trans (congrArg some (by kernel_rfl))⟩,
 f31:=Tryz.func263.trans (congrArg some (by kernel_rfl)),
 f32:=Tryz.func264.trans (congrArg some (by kernel_rfl)),
 f33 :=⟨ "slices.medianAdjacentOrdered[int]", by decide, Tryz.func294.trans (congrArg some (by kernel_rfl))⟩,
 f34 :=⟨ "slices.medianOrdered[int]", by decide, Tryz.func295.trans (congrArg some (by kernel_rfl))⟩,
 f35 :=⟨ "cmp.isNaN[int]", by decide, Tryz.func296.trans (congrArg some (by kernel_rfl))⟩,
 f40 :=⟨ "slices.order2Ordered[int]", by decide, Tryz.func297.trans (congrArg some (by kernel_rfl))⟩,
 t0:=Tryz.underlying0,
 a0:=Tryz.isAgg0,
 z0:=Tryz.sizeOf0,
 v0:=Tryz.zeroValue0,
 t3:=Tryz.underlying3,
 a3:=Tryz.isAgg3,
 z3:=Tryz.sizeOf3,
 v3:=Tryz.zeroValue3,
 t4:=Tryz.underlying4,
 a4:=Tryz.isAgg4,
 z4:=Tryz.sizeOf4,
 v4:=Tryz.zeroValue4,
 t5:=Tryz.underlying5,
 a5:=Tryz.isAgg5,
 z5:=Tryz.sizeOf5,
 v5:=Tryz.zeroValue5,
 t9:=Tryz.underlying9,
 a9:=Tryz.isAgg9,
 z9:=Tryz.sizeOf9,
 v9:=Tryz.zeroValue9,
 t22:=Tryz.underlying225,
 a22:=Tryz.isAgg225,
 z22:=Tryz.sizeOf225,
 v22:=Tryz.zeroValue225,
 t23:=Tryz.underlying225,
 a23:=Tryz.isAgg225,
 z23:=Tryz.sizeOf225,
 v23:=Tryz.zeroValue225,
 t25:=Tryz.underlying3,
 a25:=Tryz.isAgg3,
 z25:=Tryz.sizeOf3,
 v25:=Tryz.zeroValue3,
 t32:=Tryz.underlying307,
 a32:=Tryz.isAgg307,
 z32:=Tryz.sizeOf307,
 v32:=Tryz.zeroValue307,
 t35:=Tryz.underlying358,
 a35:=Tryz.isAgg358,
 z35:=Tryz.sizeOf358,
 v35:=Tryz.zeroValue358,
 t36:=Tryz.underlying359,
 a36:=Tryz.isAgg359,
 z36:=Tryz.sizeOf359,
 v36:=Tryz.zeroValue359,
 t41:=Tryz.underlying177,
 a41:=Tryz.isAgg177,
 z41:=Tryz.sizeOf177,
 v41:=Tryz.zeroValue177,
 t44:=Tryz.underlying365,
 a44:=Tryz.isAgg365,
 z44:=Tryz.sizeOf365,
 v44:=Tryz.zeroValue365,
 t46:=Tryz.underlying367,
 a46:=Tryz.isAgg367,
 z46:=Tryz.sizeOf367,
 v46:=Tryz.zeroValue367,
 t53:=Tryz.underlying389,
 a53:=Tryz.isAgg389,
 z53:=Tryz.sizeOf389,
 v53:=Tryz.zeroValue389,
 t57:=Tryz.underlying393,
 a57:=Tryz.isAgg393,
 z57:=Tryz.sizeOf393,
 v57:=Tryz.zeroValue393,
 t63:=Tryz.underlying404,
 a63:=Tryz.isAgg404,
 z63:=Tryz.sizeOf404,
 v63:=Tryz.zeroValue404,
 t64:=Tryz.underlying405,
 a64:=Tryz.isAgg405,
 z64:=Tryz.sizeOf405,
 v64:=Tryz.zeroValue405 }
def Pe (a0:List Int):Option (List Int):=if a0.length<=1000000000000000000 then some (a0.mergeSort λx y=>decide (x<=y)) else none
theorem Xb {a0 r:List Int} (h:Pe a0=some r):Cv Qx0 269 [.arr 3 1 0 (a0.flatMap eI)] [.one (.ls 0 a0.length)] (λy m'=>y=.tup []/\m'=[.arr 3 1 0 (r.flatMap eI)]):=by
 obtain⟨hn,h⟩:=B5 h
 cases SJ h
 exact Ati Aw1 hn
def Ai3:Go.Shelf.Ren:=⟨λ| 43=>270|n=>n,λ| 22=>225|23=>3|3=>3|4=>4|0=>0|n=>n,λ| n=>n⟩
theorem Avg:Go.Proofs.SlLaysE.n43 Qx0 Ai3:={
 mixed:=by kernel_rfl,
 f43 :=⟨ "slices.Compact[[]int,int]", by decide, Tryz.func270.trans (congrArg some (by kernel_rfl))⟩,
 t0:=Tryz.underlying0,
 a0:=Tryz.isAgg0,
 z0:=Tryz.sizeOf0,
 v0:=Tryz.zeroValue0,
 t3:=Tryz.underlying3,
 a3:=Tryz.isAgg3,
 z3:=Tryz.sizeOf3,
 v3:=Tryz.zeroValue3,
 t4:=Tryz.underlying4,
 a4:=Tryz.isAgg4,
 z4:=Tryz.sizeOf4,
 v4:=Tryz.zeroValue4,
 t22:=Tryz.underlying225,
 a22:=Tryz.isAgg225,
 z22:=Tryz.sizeOf225,
 v22:=Tryz.zeroValue225,
 a23:=Tryz.isAgg3,
 z23:=Tryz.sizeOf3 }
theorem Aj4:A6 Qx0 270 [.one (Znl)] (·=L7 (Znl)):=by
 refine An Tryz.func270 R (nt:=61) R (Nbl R) ?_
 intro w0 S0
 refine crs R (Bb (csr (rm 1 R (sv R (Ef Awu R) (rsn R ?_)))))
 refine B1 R (λ_=>?_) (λhx=>absurd hx (by decide))
 refine crs R (crt (⟨Or.inr R,_,_,_,(Au (rt R) A4),(Bq R),?_⟩))
 rfl
def Ml (a0:List Int):Option (List Int):=if a0.length<=1000000000000000000 then some (Aj6 a0) else none
theorem T4 {a0 r:List Int} (h:Ml a0=some r):Cv Qx0 270 [.arr 3 1 0 (a0.flatMap eI)] [.one (.ls 0 a0.length)] (λy m'=>y=L7 (.ls 1 r.length)/\m'=[.dead,.arr 3 1 0 (r.flatMap eI)]):=by
 obtain⟨hn,h⟩:=B5 h
 cases SJ h
 exact Asa Avg hn (Go.Proofs.EqlAt.intD _ _ .i64) (Go.Proofs.NeqAt.intD _ _ .i64) Tryz.zeroValue3 Aj4
def Jm (b1:(List Int)):Option (List Int) :=
 (Pe b1).bind λv2=>if v2.length=b1.length then((Ml v2).bind λv4=>some v4) else none
def Gy (a0:Be) (a1:List UInt8) (s5:Int×(List Int)):Option (LB (Int×(List Int)) ((List Int))) :=
 if (decide (s5.1<(a0.L.length:Int))) then((idx a0.L s5.1).bind λu6=>(Gw u6.Rng a1).bind λv7=>if v7 then(if (s5.2.length+[u6.Tx].length)*8<=140737488355328 then(some (.cont ((wI (s5.1+1)),(s5.2++[u6.Tx])))) else none) else(some (.cont ((wI (s5.1+1)),s5.2)))) else(some (.brk s5.2))
def Kf (a0:Be) (a1:List UInt8):Option (List Int) :=
 (B8 (Gy a0 a1) fuel (0,([]:List Int))).bind λe9=>Jm e9
theorem Sj {a0:Be} {a1:List UInt8} {r:(List Int)} (h:Kf a0 a1=some r):A6 Qx0 254 [.agg [SL a0.L Aj],.one (SL a1 eU8)] (·=L7 (SL r eI)):=by
 refine An Tryz.func254 R (nt:=29) R (Nbl R) ?_
 intro w0 S0
 refine crs R (crs R (Bb (crs R ?_)))
 refine Cq 3 1 5 (by decide) R ?_
 refine cj ((List Int)) (λb1=>[(5,L7 (.ls 1 b1.length))]) (λb1=>[.box [SL a0.L Aj],.arr 3 1 0 (b1.flatMap eI)]) (λb1=>Jm b1=some r) fR (λb1 h=>?_) ?_
 ·refine csr (rx 1 R ?_)
  obtain⟨v2,hv2,h⟩:=Aa h
  refine Gi (x':=.tup []) (M':=[.box [SL a0.L Aj],.arr 3 1 0 (v2.flatMap eI)]) [1] R (fk R) (.func _) (Af R A2) (Xb hv2) R R (by decide) R R R ?_
  obtain⟨hl3,h⟩:=B5 h
  refine Kk 5 (y:=L7 (.ls 1 b1.length)) (L7 (.ls 1 v2.length)) R (congrArg (λn=>AV.s (.one (.ls 1 n))) hl3.symm) ?_
  refine Kk 25 (y:=L7 (.ls 1 b1.length)) (L7 (.ls 1 v2.length)) R (congrArg (λn=>AV.s (.one (.ls 1 n))) hl3.symm) ?_
  refine Oy (csr (rx 1 R ?_))
  obtain⟨v4,hv4,h⟩:=Aa h
  refine Gi (x':=L7 (.ls 2 v4.length)) (M':=[.box [SL a0.L Aj],.dead,.arr 3 1 0 (v4.flatMap eI)]) [1] R (fk R) (.func _) (Af R A2) (T4 hv4) R R (by decide) R R R ?_
  refine rsn R (Bn ?_)
  cases SJ h
  refine⟨Or.inr R,_,_,_,(Au (rt R) A4),pb,?_⟩
  rfl
 ·refine Bh ?_
  obtain⟨x5,hx5,ho5⟩:=Aa h
  refine lpn (α:=Int×(List Int)) (λg=>[(1,L7 (SL a1 eU8)),(5,L7 (.ls 1 g.2.2.length)),(9,L7 (SL a0.L Aj)),(10,L7 (Ii6 (a0.L.length:Int))),(11,L7 (Ii6 g.2.1))]) (λg=>[.box [SL a0.L Aj],.arr 3 1 0 (g.2.2.flatMap eI)]) (λg=>B8 (Gy a0 a1) g.1 g.2=some x5) (fuel,(0,([]:List Int))) hx5 R R fR ?_
  rintro⟨n5,s5⟩ h
  obtain⟨n5,y5,rfl,h,hk5⟩:=Cb h
  refine crs R (Bb (ccI h R (λh=>?_) (λh=>?_)))
  ·refine csn (csb ?_)
   obtain⟨u6,hu6,h⟩:=Aa h
   refine sv R (Bl (f:=Aj) Aie fR R R R R hu6) ?_
   refine sv R (A8 (ys:=[Ii6 u6.Tx,SL u6.Rng.Lo eU8,SL u6.Rng.Hi eU8,.b u6.Rng.Open]) Amz R (.cp _) R R) (rsn R (csr (rx 3 R ?_)))
   obtain⟨v7,hv7,h⟩:=Aa h
   refine scI R R (Kh hv7) (Oy (ccI h R (λh=>?_) (λh=>?_)))
   ·refine Bg (rx 3 R ?_)
    refine Eg R Tryz.underlying225 ei3 R R (zL.1 R) (by decide) ?_
    refine Pf [.box [SL a0.L Aj],.arr 3 1 0 (s5.2.flatMap eI),BE u6,.arr 3 1 0 ([u6.Tx].flatMap eI)] R ?_
    obtain⟨hb8,h⟩:=B5 h
    refine Tp (f:=eI) (xs:=s5.2) (us:=[u6.Tx]) R Tryz.underlying225 ei3 Al5 fR R R (.one _ _ _ _ (.ls _ _ _ _ _ _ R (Aq (f:=eI) fR [u6.Tx]).symm)) R R R (.sl _ _ _ (Aq (f:=eI) fR _)) R R hb8 (by decide) ?_
    refine rm 1 R (Fi (A0 (Ag (cgs R ?_))))
    cases SJ h
    exact lx (n5,((wI (s5.1+1)),(s5.2++[u6.Tx]))) hk5 R R
   ·refine cbn (cgs R ?_)
    cases SJ h
    exact lx (n5,((wI (s5.1+1)),s5.2)) hk5 R R
  ·refine cx5 ?_
   cases SJ h
   obtain rfl:_=x5:=hk5
   exact⟨s5.2,_,ho5,(ml R),R⟩
def Ox (b1:(List Int)):Option (List Int) :=
 some b1
def O5 (a0:Ay) (a1:List (List UInt8)) (s2:Int×(List Int)):Option (LB (Int×(List Int)) ((List Int))) :=
 if (decide (s2.1<(a1.length:Int))) then((idx a1 s2.1).bind λu3=>(Kf a0.Reads u3).bind λv4=>if (s2.2.length+v4.length)*8<=140737488355328 then(some (.cont ((wI (s2.1+1)),(s2.2++v4)))) else none) else(some (.brk s2.2))
def Wu (a0:Ay) (a1:List (List UInt8)):Option (List Int) :=
 (B8 (O5 a0 a1) fuel (0,([]:List Int))).bind λe6=>Ox e6
theorem Afe {a0:Ay} {a1:List (List UInt8)} {r:(List Int)} (h:Wu a0 a1=some r):A6 Qx0 212 [.agg (EL.el a0),.one (SL a1 (eL eU8))] (·=L7 (SL r eI)):=by
 refine An Tryz.func212 R (nt:=22) R (Nbl R) ?_
 intro w0 S0
 refine crs R (crs R (Bb (crs R ?_)))
 refine Cq 3 1 5 (by decide) R ?_
 refine cj ((List Int)) (λb1=>[(5,L7 (.ls 1 b1.length))]) (λb1=>[BE a0,.arr 3 1 0 (b1.flatMap eI)]) (λb1=>Ox b1=some r) fR (λb1 h=>?_) ?_
 ·refine crs R (Bn ?_)
  cases SJ h
  refine⟨Or.inr R,_,_,_,(Au (rt R) A4),pb,?_⟩
  rfl
 ·refine Bh ?_
  obtain⟨x2,hx2,ho2⟩:=Aa h
  refine lpn (α:=Int×(List Int)) (λg=>[(2,L7 (.lp 0 0)),(5,L7 (.ls 1 g.2.2.length)),(8,L7 (SL a1 (eL eU8))),(9,L7 (Ii6 (a1.length:Int))),(10,L7 (Ii6 g.2.1))]) (λg=>[BE a0,.arr 3 1 0 (g.2.2.flatMap eI)]) (λg=>B8 (O5 a0 a1) g.1 g.2=some x2) (fuel,(0,([]:List Int))) hx2 R R fR ?_
  rintro⟨n2,s2⟩ h
  obtain⟨n2,y2,rfl,h,hk2⟩:=Cb h
  refine crs R (Bb (ccI h R (λh=>?_) (λh=>?_)))
  ·refine csn (csb ?_)
   obtain⟨u3,hu3,h⟩:=Aa h
   refine sv R (Bl (f:=(eL eU8)) Ab4 fR R R R R hu3) ?_
   refine rsn R (Bg (rx 4 R ?_))
   obtain⟨v4,hv4,h⟩:=Aa h
   refine scI R R (Sj hv4) ?_
   obtain⟨hb5,h⟩:=B5 h
   refine Tp (f:=eI) (xs:=s2.2) (us:=v4) R Tryz.underlying225 ei3 Al5 fR R R (.one _ _ _ _ (.id _ R)) R R R (.sl _ _ _ (Aq (f:=eI) fR _)) R R hb5 (by decide) ?_
   refine rm 1 R (Fi (A0 (Ag (cgs R ?_))))
   cases SJ h
   exact lx (n2,((wI (s2.1+1)),(s2.2++v4))) hk2 R R
  ·refine cx5 ?_
   cases SJ h
   obtain rfl:_=x2:=hk2
   exact⟨s2.2,_,ho2,(ml R),R⟩
def Nw (b1:(List Int)):Option (List Int) :=
 some b1
def D9 (a0:Ay) (a1:List (List UInt8)) (s2:Int×(List Int)):Option (LB (Int×(List Int)) ((List Int))) :=
 if (decide (s2.1<(a1.length:Int))) then((idx a1 s2.1).bind λu3=>(Kf a0.Reads u3).bind λv4=>if (s2.2.length+v4.length)*8<=140737488355328 then(some (.cont ((wI (s2.1+1)),(s2.2++v4)))) else none) else(some (.brk s2.2))
def Im (a0:Ay) (a1:List (List UInt8)):Option (List Int) :=
 (B8 (D9 a0 a1) fuel (0,([]:List Int))).bind λe6=>Nw e6
theorem Ue {a0:Ay} {a1:List (List UInt8)} {r:(List Int)} (h:Im a0 a1=some r):Cv Qx0 212 [] [.agg (EL.el a0),.one (SL a1 (eL eU8))] (λy m'=>y=L7 (.ls 0 r.length)/\m'=[.arr 3 1 0 (r.flatMap eI)]):=by
 refine Cs Tryz.func212 R (nt:=22) R (Nbl R) ?_
 intro w0 S0 X0 H0
 refine crs R (crs R (Bb (crs R ?_)))
 refine Cq 3 1 5 (by decide) R ?_
 refine cj ((List Int)) (λb1=>[(5,L7 (.ls 1 b1.length))]) (λb1=>[BE a0,.arr 3 1 0 (b1.flatMap eI)]) (λb1=>Nw b1=some r) fR (λb1 h=>?_) ?_
 ·refine crs R (Bn ?_)
  obtain rfl:=SJ h
  exact⟨Or.inr R,_,[1],[.one (.ls 0 b1.length)],[.arr 3 1 0 (b1.flatMap eI)],(Au (rt R) A4),R,R,⟨by decide,R⟩,R,R,⟨R,R⟩⟩
 ·refine Bh ?_
  obtain⟨x2,hx2,ho2⟩:=Aa h
  refine lpn (α:=Int×(List Int)) (λg=>[(2,L7 (.lp 0 0)),(5,L7 (.ls 1 g.2.2.length)),(8,L7 (SL a1 (eL eU8))),(9,L7 (Ii6 (a1.length:Int))),(10,L7 (Ii6 g.2.1))]) (λg=>[BE a0,.arr 3 1 0 (g.2.2.flatMap eI)]) (λg=>B8 (D9 a0 a1) g.1 g.2=some x2) (fuel,(0,([]:List Int))) hx2 R R fR ?_
  rintro⟨n2,s2⟩ h
  obtain⟨n2,y2,rfl,h,hk2⟩:=Cb h
  refine crs R (Bb (ccI h R (λh=>?_) (λh=>?_)))
  ·refine csn (csb ?_)
   obtain⟨u3,hu3,h⟩:=Aa h
   refine sv R (Bl (f:=(eL eU8)) Ab4 fR R R R R hu3) ?_
   refine rsn R (Bg (rx 4 R ?_))
   obtain⟨v4,hv4,h⟩:=Aa h
   refine scI R R (Sj hv4) ?_
   obtain⟨hb5,h⟩:=B5 h
   refine Tp (f:=eI) (xs:=s2.2) (us:=v4) R Tryz.underlying225 ei3 Al5 fR R R (.one _ _ _ _ (.id _ R)) R R R (.sl _ _ _ (Aq (f:=eI) fR _)) R R hb5 (by decide) ?_
   refine rm 1 R (Fi (A0 (Ag (cgs R ?_))))
   cases SJ h
   exact lx (n2,((wI (s2.1+1)),(s2.2++v4))) hk2 R R
  ·refine cx5 ?_
   cases SJ h
   obtain rfl:_=x2:=hk2
   exact⟨s2.2,_,ho2,(ml R),R⟩
def Qq (b1:(List Ao)):Option (Bool×(List Ao)) :=
 some (true,b1)
def Mj (a1:Int) (s2:Int×(List Ao)) (u3:Ao) (b4:Unit):Option (LR (Int×(List Ao)) ((List Ao)) (Bool×(List Ao))) :=
 (Hw).bind λv5=>(Gb s2.2 s2.1 a1).bind λv6=>if v6.length=s2.2.length then(if (decide (u3.State=2)) then((idx v6 s2.1).bind λu8=>(I3 u8).bind λv9=>if v9 then(some (.ret (false,v6))) else(some (.cont ((wI (s2.1+1)),v6)))) else(some (.cont ((wI (s2.1+1)),v6)))) else none
def Ga (a0:List Ao) (a1:Int) (a2:List Int) (s2:Int×(List Ao)):Option (LR (Int×(List Ao)) ((List Ao)) (Bool×(List Ao))) :=
 if (decide (s2.1<(a0.length:Int))) then((idx s2.2 s2.1).bind λu3=>if (decide (s2.1=a1)) then(some (.cont ((wI (s2.1+1)),s2.2))) else((Dv a2 u3.ID).bind λv10=>if (!v10) then(some (.cont ((wI (s2.1+1)),s2.2))) else((idx s2.2 a1).bind λu11=>(Ey u3 u11).bind λv12=>if (!v12) then(some (.cont ((wI (s2.1+1)),s2.2))) else(Mj a1 s2 u3 ())))) else(some (.brk s2.2))
def L5 (a0:List Ao) (a1:Int) (a2:List Int):Option (Bool×(List Ao)) :=
 (Gj (Ga a0 a1 a2) fuel (0,a0)).bind λx=>match x with | .inl r=>some r | .inr e13=>Qq e13
theorem W0 {a0:List Ao} {a1:Int} {a2:List Int} {r:Bool×(List Ao)} (h:L5 a0 a1 a2=some r):Cv Qx0 211 [.arr 139 8 0 (a0.flatMap Az)] [.one (.ls 0 a0.length),.one (Ii6 a1),.one (SL a2 eI)] (λy m'=>y=L7 (.b r.1)/\m'=[.arr 139 8 0 (r.2.flatMap Az)]):=by
 refine Cs Tryz.func211 R (nt:=51) R (Nbl R) ?_
 intro w0 S0 X0 H0
 refine crs R (Bb (csr (rm 1 R (sv R (Fw Tu R R (Aq (f:=Az) fR _).symm) ?_))))
 refine rsn R (cj ((List Ao)) (λb1=>[]) (λb1=>[.arr 139 8 0 (b1.flatMap Az)]) (λb1=>Qq b1=some r) fR (λb1 h=>?_) ?_)
 ·refine crs R (Bn ?_)
  obtain rfl:=SJ h
  exact⟨Or.inr R,_,[0],[.one (.b true)],[.arr 139 8 0 (b1.flatMap Az)],(Au (rt R) A4),R,R,⟨by decide,R⟩,R,R,⟨R,R⟩⟩
 ·refine Bh ?_
  obtain⟨x2,hx2,ho2⟩:=Aa h
  refine lpn (α:=Int×(List Ao)) (λg=>[(0,L7 (.ls 0 g.2.2.length)),(1,L7 (Ii6 a1)),(2,L7 (SL a2 eI)),(9,L7 (.ls 0 g.2.2.length)),(10,L7 (Ii6 (a0.length:Int))),(11,L7 (Ii6 g.2.1))]) (λg=>[.arr 139 8 0 (g.2.2.flatMap Az)]) (λg=>Gj (Ga a0 a1 a2) g.1 g.2=some x2) (fuel,(0,a0)) hx2 R R fR ?_
  rintro⟨n2,s2⟩ h
  obtain⟨n2,y2,rfl,h,hk2⟩:=Ct h
  refine crs R (Bb (ccI h R (λh=>?_) (λh=>?_)))
  ·refine csn (Bb (Bh (csr (rx 1 R ?_))))
   obtain⟨u3,hu3,h⟩:=Aa h
   refine sv R (Gc (f:=Az) Tu fR R R R R R hu3) ?_
   refine sv R (Np (f:=Az) (sz:=8) 0 Nz fR R R R R (Ft hu3).2 (Nbl R) R) ?_
   refine rsn R (Bb (Bb (cj3 (Unit) (λb4=>[(0,L7 (.ls 0 s2.2.length)),(1,L7 (Ii6 a1)),(2,L7 (SL a2 eI)),(7,L7 (Ii6 s2.1)),(8,L7 (.lp 1 0)),(9,L7 (.ls 0 s2.2.length)),(10,L7 (Ii6 (a0.length:Int))),(11,L7 (Ii6 s2.1))]) (λb4=>[.arr 139 8 0 (s2.2.flatMap Az),BE u3]) (λb4=>Mj a1 s2 u3 b4=some y2) fR (λb4 h=>?_) ?_)))
   ·refine Bb (Bg ?_)
    obtain⟨v5,hv5,h⟩:=Aa h
    refine Gi (x':=.s (.agg [.raw (.func (.func 252) #[] #[]),.raw (.func (.func 253) #[] #[])])) (M':=[.arr 139 8 0 (s2.2.flatMap Az),BE u3]) [] R (fk R) (.func _) A2 (Q0 hv5) R R (by decide) R R R ?_
    refine rx 3 R ?_
    obtain⟨v6,hv6,h⟩:=Aa h
    refine Gi (x':=.tup []) (M':=[.arr 139 8 0 (v6.flatMap Az),BE u3]) [0] R (fk R) (.func _) (Af R (Af R (Af R (Af R A2)))) (On hv6) R R (by decide) R R R ?_
    obtain⟨hl7,h⟩:=B5 h
    refine Kk 0 (y:=L7 (.ls 0 s2.2.length)) (L7 (.ls 0 v6.length)) R (congrArg (λn=>AV.s (.one (.ls 0 n))) hl7.symm) ?_
    refine Kk 9 (y:=L7 (.ls 0 s2.2.length)) (L7 (.ls 0 v6.length)) R (congrArg (λn=>AV.s (.one (.ls 0 n))) hl7.symm) ?_
    refine Kk 36 (y:=L7 (.ls 0 s2.2.length)) (L7 (.ls 0 v6.length)) R (congrArg (λn=>AV.s (.one (.ls 0 n))) hl7.symm) ?_
    refine Oy (csr (rx 4 R (ssI 43 h R (λh=>?_) (λh=>?_))))
    ·refine rm 2 R (son R R R ?_)
     obtain⟨u8,hu8,h⟩:=Aa h
     refine sv R (Gc (f:=Az) Tu fR R R R R R hu8) ?_
     refine son R R R (sv R (Np (f:=Az) (sz:=8) 0 Nz fR R R R R (Ft hu8).2 (Nbl R) R) ?_)
     refine son R R R ?_
     obtain⟨v9,hv9,h⟩:=Aa h
     refine scI R R (Pd hv9) (rsn R (ccI h R (λh=>?_) (λh=>?_)))
     ·refine crs R (Bn (br5 ?_))
      cases SJ h
      obtain rfl:Sum.inl _=x2:=hk2
      obtain rfl:=zD ho2
      exact⟨Or.inr R,_,[0],[.one (.b false)],[.arr 139 8 0 (v6.flatMap Az)],(Au (rt R) A4),R,R,⟨by decide,R⟩,R,R,⟨R,R⟩⟩
     ·refine cbn (cgs R ?_)
      cases SJ h
      exact lx (n2,((wI (s2.1+1)),v6)) hk2 R R
    ·refine rsn R (B1 R (λhx=>Bool.noConfusion hx) (λ_=>?_))
     refine cbn (cgs R ?_)
     cases SJ h
     exact lx (n2,((wI (s2.1+1)),v6)) hk2 R R
   ·refine U4 mixed (by kernel_rfl) ?_
    refine dv R (Bj R) (dv R (Bj R) (dv R (Nb R R) (dv R (Bj R) (Qh 19 R (λhc=>?_) (λhc=>?_)))))
    ·replace h:=P8 hc h
     clear hc
     refine Dy R R R R (Dy R R R R (Dy R R R R (Dy R R R R (Dy R R R R (dv R (Cp R R) (dv R (Bj R) (Dy R R R R (Dy R R R R (Dy R R R R (Dy R R R R (Dy R R R R (Dy R R R R (Dy R R R R (dv R (Cp R R) (Vp (Ag (B1 R (λ_=>?_) (λhx=>Bool.noConfusion hx))))))))))))))))))
     refine Tm (Cw (Ez (Ag (cgs R ?_))))
     cases SJ h
     exact lx (n2,((wI (s2.1+1)),s2.2)) hk2 R R
    ·replace h:=P3 hc h
     clear hc
     refine dvg R R R (Bj R) (dvg R R R (Ah Aui R) (dvg R R R (l1 ti3 R R R) ?_))
     obtain⟨v10,hv10,h⟩:=Aa h
     refine ddg R R R (Cf (fk R) (Af R (Af R A2)) R (Ja hv10)) (dvg R R R (S7 R) (dv R (Cn R R) (dv R (Bj R) (Qh 26 R (λhc=>?_) (λhc=>?_)))))
     ·replace h:=P8 hc h
      clear hc
      refine Dy R R R R (Dy R R R R (Dy R R R R (Dy R R R R (Dy R R R R (Dy R R R R (Dy R R R R (dv R (Cp R R) (Vp (Ag (B1 R (λ_=>?_) (λhx=>Bool.noConfusion hx)))))))))))
      refine Tm (Cw (Ez (Ag (cgs R ?_))))
      cases SJ h
      exact lx (n2,((wI (s2.1+1)),s2.2)) hk2 R R
     ·replace h:=P3 hc h
      clear hc
      refine dvg R R R (lo Nz R R R) (dvg R R R (Bj R) (dvg R R R (Bj R) ?_))
      obtain⟨u11,hu11,h⟩:=Aa h
      refine dvg R R R (Gc (f:=Az) Tu fR R R R R R hu11) ?_
      refine dvg R R R (Np (f:=Az) (sz:=8) 0 Nz fR R R R R (Ft hu11).2 (Nbl R) R) ?_
      obtain⟨v12,hv12,h⟩:=Aa h
      refine ddg R R R (Cf (fk R) (Af R (Af R A2)) R (Oc hv12)) (dvg R R R (S7 R) (dv R (Cn R R) (Vp (Ag (ccI h R (λh=>?_) (λh=>?_))))))
      ·refine Tm (Cw (Ez (Ag (cgs R ?_))))
       cases SJ h
       exact lx (n2,((wI (s2.1+1)),s2.2)) hk2 R R
      ·refine csn ?_
       exact⟨(),_,h,(ml R),R⟩
  ·refine cx5 ?_
   cases SJ h
   obtain rfl:_=x2:=hk2
   exact⟨s2.2,_,ho2,trivial,R⟩
def Na (a0:Ay) (a2:Int) (a3:List (List UInt8)) (v2:Int) (b8:(List Ao)):Option (Ay×Int) :=
 (idx b8 v2).bind λu9=>(idx (b8.set v2.toNat ({u9 with State:=2})) v2).bind λu10=>(idx ((b8.set v2.toNat ({u9 with State:=2})).set v2.toNat ({u10 with End:=a2})) v2).bind λu11=>some ((Ay.mk (((b8.set v2.toNat ({u9 with State:=2})).set v2.toNat ({u10 with End:=a2})).set v2.toNat ({u11 with Keys:=a3})) (Be.mk a0.Reads.L)),0)
def C8 (a0:Ay) (a1:Int) (a2:Int) (a3:List (List UInt8)):Option (Ay×Int) :=
 (Jw a0).bind λv1=>if (!v1) then(some (G8,1)) else((F6 a0 a1).bind λv2=>if (decide (v2<0)) then(some (G8,7)) else((idx a0.Txs v2).bind λu3=>(My a0 u3 a2 a3).bind λv4=>if (!v4) then(some (G8,1)) else((idx a0.Txs v2).bind λu5=>(Hr a0 u5 a3).bind λv6=>if v6 then(some (G8,9)) else((Dk a0.Txs).bind λv7=>(Im (Ay.mk a0.Txs (Be.mk a0.Reads.L)) a3).bind λv12=>(L5 v7 v2 v12).bind λv13=>if v13.2.length=v7.length then(if (!v13.1) then(some (G8,10)) else((idx v13.2 v2).bind λu15=>(I3 u15).bind λv16=>if v16 then(some (G8,10)) else(Na a0 a2 a3 v2 v13.2))) else none))))
theorem Xp {a0:Ay} {a1:Int} {a2:Int} {a3:List (List UInt8)} {r:Ay×Int} (h:C8 a0 a1 a2 a3=some r):A6 Qx0 140 [.agg (EL.el a0),.one (Ii6 a1),.one (Ii6 a2),.one (SL a3 (eL eU8))] (·=.tup [.agg (EL.el r.1),.one (Ii6 r.2)]):=by
 refine An Tryz.func140 R (nt:=81) R (Nbl R) ?_
 intro w0 S0
 refine crs R (Bb (csr (rx 1 R ?_)))
 obtain⟨v1,hv1,h⟩:=Aa h
 refine scI R R (Og hv1) (rsn R (ccI h R (λh=>?_) (λh=>?_)))
 ·refine crs R (crt ?_)
  cases SJ h
  exact dE R (F1 R) R
 ·refine csn (csr (rx 2 R ?_))
  obtain⟨v2,hv2,h⟩:=Aa h
  refine scI R R (N8 hv2) (rsn R (Bb (Bh (crs R (ccI h R (λh=>?_) (λh=>?_))))))
  ·refine crs R (Bn (br2 ?_))
   cases SJ h
   exact dE R (F1 R) R
  ·refine Bb ?_
   refine U4 mixed (by kernel_rfl) ?_
   refine dv R (lo Aj8 R R R) (dv R (Ah Ahu R) (dv R (l1 Axm R R R) (dv R (Bj R) ?_)))
   obtain⟨u3,hu3,h⟩:=Aa h
   refine dv R (Bl (f:=Az) Tu fR R R R R hu3) ?_
   refine dv R (A8 (ys:=[Ii6 u3.ID,Ii6 u3.Begin,Ii6 u3.End,Ii6 u3.State,.b u3.In,.b u3.Out,.b u3.RO,SL u3.Keys (eL eU8)]) Nz R (.cp _) R R) (dv R (Bj R) (dv R (Bj R) ?_))
   obtain⟨v4,hv4,h⟩:=Aa h
   refine dd R (Cf (fk R) (Af R (Af R (Af R (Af R A2)))) R (X8 hv4)) (dv R (S7 R) (dv R (Hh R) (Vp (Ag (ccI h R (λh=>?_) (λh=>?_))))))
   ·refine crs R (Bn (br2 ?_))
    cases SJ h
    exact dE R (F1 R) R
   ·refine Bb ?_
    refine U4 mixed (by kernel_rfl) ?_
    refine dv R (lo Aj8 R R R) (dv R (Ah Ahu R) (dv R (l1 Axm R R R) (dv R (Bj R) ?_)))
    obtain⟨u5,hu5,h⟩:=Aa h
    refine dv R (Bl (f:=Az) Tu fR R R R R hu5) ?_
    refine dv R (A8 (ys:=[Ii6 u5.ID,Ii6 u5.Begin,Ii6 u5.End,Ii6 u5.State,.b u5.In,.b u5.Out,.b u5.RO,SL u5.Keys (eL eU8)]) Nz R (.cp _) R R) (dv R (Bj R) ?_)
    obtain⟨v6,hv6,h⟩:=Aa h
    refine dd R (Cf (fk R) (Af R (Af R (Af R A2))) R (Vs hv6)) (dv R (Hh R) (Vp (Ag (ccI h R (λh=>?_) (λh=>?_)))))
    ·refine crs R (Bn (br2 ?_))
     cases SJ h
     exact dE R (F1 R) R
    ·refine cbn (csr (rx 2 R ?_))
     obtain⟨v7,hv7,h⟩:=Aa h
     refine Gi (x':=L7 (.ls 2 v7.length)) (M':=[BE a0,.box [Znl,Znl],.arr 139 8 0 (v7.flatMap Az)]) [] R (fk R) (.func _) (Af R A2) (Pr hv7) R R (by decide) R R R ?_
     refine rsn R (Bb (Bb (cj3 ((List Ao)) (λb8=>[(2,L7 (Ii6 a2)),(3,L7 (SL a3 (eL eU8))),(4,L7 (.lp 0 0)),(8,L7 (.lp 1 0)),(10,L7 (Ii6 v2)),(11,L7 (.ls 2 b8.length))]) (λb8=>[BE a0,.box [Znl,Znl],.arr 139 8 0 (b8.flatMap Az)]) (λb8=>Na a0 a2 a3 v2 b8=some r) fR (λb8 h=>?_) ?_)))
     ·refine csr (rx 8 R ?_)
      obtain⟨u9,hu9,h⟩:=Aa h
      refine sv R (Gc (f:=Az) Tu fR R R R R R hu9) ?_
      refine sv R (Mc Ac4 R R (Aq (f:=Az) fR _).symm) ?_
      refine Aa1 (f:=Az) (u':={u9 with State:=2}) (sz:=8) 3 sz3 fR R R R R R R R (zL.1 R) (Ft hu9).2 (Nbl R) R ?_
      refine Kk 11 (y:=L7 (.ls 2 b8.length)) (L7 (.ls 2 (b8.set v2.toNat ({u9 with State:=2})).length)) R (congrArg (λn=>AV.s (.one (.ls 2 n))) List.length_set.symm) ?_
      refine Kk 63 (y:=L7 (.ls 2 b8.length)) (L7 (.ls 2 (b8.set v2.toNat ({u9 with State:=2})).length)) R (congrArg (λn=>AV.s (.one (.ls 2 n))) List.length_set.symm) ?_
      refine Kk 65 (y:=L7 (.ls 2 b8.length)) (L7 (.ls 2 (b8.set v2.toNat ({u9 with State:=2})).length)) R (congrArg (λn=>AV.s (.one (.ls 2 n))) List.length_set.symm) ?_
      refine Kk 67 (y:=L7 (.ls 2 b8.length)) (L7 (.ls 2 (b8.set v2.toNat ({u9 with State:=2})).length)) R (congrArg (λn=>AV.s (.one (.ls 2 n))) List.length_set.symm) ?_
      obtain⟨u10,hu10,h⟩:=Aa h
      refine sv R (Gc (f:=Az) Tu fR R R R R R hu10) ?_
      refine sv R (Mc Afj R R (Aq (f:=Az) fR _).symm) ?_
      refine Aa1 (f:=Az) (u':={u10 with End:=a2}) (sz:=8) 2 sz3 fR R R R R R R R (zL.1 R) (Ft hu10).2 (Nbl R) R ?_
      refine Kk 11 (y:=L7 (.ls 2 (b8.set v2.toNat ({u9 with State:=2})).length)) (L7 (.ls 2 ((b8.set v2.toNat ({u9 with State:=2})).set v2.toNat ({u10 with End:=a2})).length)) R (congrArg (λn=>AV.s (.one (.ls 2 n))) List.length_set.symm) ?_
      refine Kk 63 (y:=L7 (.ls 2 (b8.set v2.toNat ({u9 with State:=2})).length)) (L7 (.ls 2 ((b8.set v2.toNat ({u9 with State:=2})).set v2.toNat ({u10 with End:=a2})).length)) R (congrArg (λn=>AV.s (.one (.ls 2 n))) List.length_set.symm) ?_
      refine Kk 65 (y:=L7 (.ls 2 (b8.set v2.toNat ({u9 with State:=2})).length)) (L7 (.ls 2 ((b8.set v2.toNat ({u9 with State:=2})).set v2.toNat ({u10 with End:=a2})).length)) R (congrArg (λn=>AV.s (.one (.ls 2 n))) List.length_set.symm) ?_
      refine Kk 67 (y:=L7 (.ls 2 (b8.set v2.toNat ({u9 with State:=2})).length)) (L7 (.ls 2 ((b8.set v2.toNat ({u9 with State:=2})).set v2.toNat ({u10 with End:=a2})).length)) R (congrArg (λn=>AV.s (.one (.ls 2 n))) List.length_set.symm) ?_
      obtain⟨u11,hu11,h⟩:=Aa h
      refine sv R (Gc (f:=Az) Tu fR R R R R R hu11) ?_
      refine sv R (Mc As3 R R (Aq (f:=Az) fR _).symm) ?_
      refine Aa1 (f:=Az) (u':={u11 with Keys:=a3}) (sz:=8) 7 A0k fR R R R R R R R (zL.1 R) (Ft hu11).2 (Nbl R) R ?_
      refine Kk 11 (y:=L7 (.ls 2 ((b8.set v2.toNat ({u9 with State:=2})).set v2.toNat ({u10 with End:=a2})).length)) (L7 (.ls 2 (((b8.set v2.toNat ({u9 with State:=2})).set v2.toNat ({u10 with End:=a2})).set v2.toNat ({u11 with Keys:=a3})).length)) R (congrArg (λn=>AV.s (.one (.ls 2 n))) List.length_set.symm) ?_
      refine Kk 63 (y:=L7 (.ls 2 ((b8.set v2.toNat ({u9 with State:=2})).set v2.toNat ({u10 with End:=a2})).length)) (L7 (.ls 2 (((b8.set v2.toNat ({u9 with State:=2})).set v2.toNat ({u10 with End:=a2})).set v2.toNat ({u11 with Keys:=a3})).length)) R (congrArg (λn=>AV.s (.one (.ls 2 n))) List.length_set.symm) ?_
      refine Kk 65 (y:=L7 (.ls 2 ((b8.set v2.toNat ({u9 with State:=2})).set v2.toNat ({u10 with End:=a2})).length)) (L7 (.ls 2 (((b8.set v2.toNat ({u9 with State:=2})).set v2.toNat ({u10 with End:=a2})).set v2.toNat ({u11 with Keys:=a3})).length)) R (congrArg (λn=>AV.s (.one (.ls 2 n))) List.length_set.symm) ?_
      refine Kk 67 (y:=L7 (.ls 2 ((b8.set v2.toNat ({u9 with State:=2})).set v2.toNat ({u10 with End:=a2})).length)) (L7 (.ls 2 (((b8.set v2.toNat ({u9 with State:=2})).set v2.toNat ({u10 with End:=a2})).set v2.toNat ({u11 with Keys:=a3})).length)) R (congrArg (λn=>AV.s (.one (.ls 2 n))) List.length_set.symm) ?_
      refine Oy (crs R (Bn ?_))
      cases SJ h
      refine⟨Or.inr R,_,_,_,(Au (ra Aj8 R R R) (Au (rt R) A4)),pb,?_⟩
      rfl
     ·refine Bg (rx 4 R ?_)
      obtain⟨v12,hv12,h⟩:=Aa h
      refine Gi (x':=L7 (.ls 3 v12.length)) (M':=[BE a0,.box [Znl,Znl],.arr 139 8 0 (v7.flatMap Az),.arr 3 1 0 (v12.flatMap eI)]) [] R (fk R) (.func _) (Af R (Af R A2)) (Ue hv12) R R (by decide) R R R ?_
      refine Ahd 52 R pb ?_
      obtain⟨v13,hv13,h⟩:=Aa h
      refine Gi (x':=L7 (.b v13.1)) (M':=[BE a0,.box [Znl,Znl],.arr 139 8 0 (v13.2.flatMap Az),.arr 3 1 (v12.flatMap eI).length (v12.flatMap eI)]) [2] R (fk R) (.func _) (Af R (Af R (Af R A2))) (W0 hv13) R R (by decide) R R R ?_
      obtain⟨hl14,h⟩:=B5 h
      refine Kk 47 (y:=L7 (.ls 2 v7.length)) (L7 (.ls 2 v13.2.length)) R (congrArg (λn=>AV.s (.one (.ls 2 n))) hl14.symm) ?_
      refine Kk 11 (y:=L7 (.ls 2 v7.length)) (L7 (.ls 2 v13.2.length)) R (congrArg (λn=>AV.s (.one (.ls 2 n))) hl14.symm) ?_
      refine Kk 48 (y:=L7 (.ls 2 v7.length)) (L7 (.ls 2 v13.2.length)) R (congrArg (λn=>AV.s (.one (.ls 2 n))) hl14.symm) ?_
      refine rx 2 R (ssI 55 h R (λh=>?_) (λh=>?_))
      ·refine rsn R (B1 R (λ_=>?_) (λhx=>Bool.noConfusion hx))
       refine crs R (crt ?_)
       cases SJ h
       exact dE R (F1 R) R
      ·refine rm 2 R (son R R R ?_)
       obtain⟨u15,hu15,h⟩:=Aa h
       refine sv R (Gc (f:=Az) Tu fR R R R R R hu15) ?_
       refine son R R R (sv R (Np (f:=Az) (sz:=8) 0 Nz fR R R R R (Ft hu15).2 (Nbl R) R) ?_)
       refine son R R R ?_
       obtain⟨v16,hv16,h⟩:=Aa h
       refine scI R R (Pd hv16) (rsn R (ccI h R (λh=>?_) (λh=>?_)))
       ·refine crs R (crt ?_)
        cases SJ h
        exact dE R (F1 R) R
       ·refine csn ?_
        exact⟨v13.2,_,h,(ml R),R⟩
def Kg (a0:A1) (a1:Int) (a2:Int) (a3:Int) (b1:Unit):Option (A1×Int) :=
 (Er a0 a1).bind λv2=>if (decide (v2.1.State=2)) then(some (B3,7)) else(if (!decide (v2.1.State=1)) then(some (B3,14)) else(if (!decide (v2.1.Attempt=a2)) then(some (B3,14)) else((Cu a0 (As.mk a1 a2 2 a3)).bind λv3=>some (v3.1,v3.2))))
def G3 (a0:A1) (a1:Int) (a2:Int) (a3:Int):Option (A1×Int) :=
 (Cx a0).bind λv4=>if (!v4) then(some (B3,1)) else((Cg a1 a2).bind λv5=>if (!v5) then(some (B3,1)) else((G7 a3).bind λv6=>if (!v6) then(some (B3,1)) else(Kg a0 a1 a2 a3 ())))
theorem U9 {a0:A1} {a1:Int} {a2:Int} {a3:Int} {r:A1×Int} (h:G3 a0 a1 a2 a3=some r):A6 Qx0 142 [.agg [SL a0.L Ad],.one (Ii6 a1),.one (Ii6 a2),.one (Ii6 a3)] (·=.tup [.agg [SL r.1.L Ad],.one (Ii6 r.2)]):=by
 refine An Tryz.func142 R (nt:=57) R (Nbl R) ?_
 intro w0 S0
 refine crs R (Bb (Bb (cj3 (Unit) (λb1=>[(1,L7 (Ii6 a1)),(2,L7 (Ii6 a2)),(3,L7 (Ii6 a3)),(4,L7 (.lp 0 0)),(8,L7 (.lp 1 0))]) (λb1=>[.box [SL a0.L Ad],.box [Znl]]) (λb1=>Kg a0 a1 a2 a3 b1=some r) fR (λb1 h=>?_) ?_)))
 ·refine csr (rx 2 R ?_)
  obtain⟨v2,hv2,h⟩:=Aa h
  refine scI R R (Ht hv2) (rsn R (Bb (Bh (crs R (ccI h R (λh=>?_) (λh=>?_))))))
  ·refine crs R (Bn (br2 ?_))
   cases SJ h
   exact dE R (F1 R) R
  ·refine csr (rx 4 R (ssI 42 h R (λh=>?_) (λh=>?_)))
   ·refine rsn R (B1 R (λ_=>?_) (λhx=>Bool.noConfusion hx))
    refine crs R (Bn (br2 ?_))
    cases SJ h
    exact dE R (F1 R) R
   ·refine rsn R (ccI h R (λh=>?_) (λh=>?_))
    ·refine crs R (Bn (br2 ?_))
     cases SJ h
     exact dE R (F1 R) R
    ·refine cbn (csr (rx 5 R ?_))
     obtain⟨v3,hv3,h⟩:=Aa h
     refine scI R R (Fz hv3) (rsn R (Bn ?_))
     cases SJ h
     exact dE R (Bq R) R
 ·refine Bg (rx 1 R ?_)
  obtain⟨v4,hv4,h⟩:=Aa h
  refine scI R R (Hy hv4) (rx 2 R (ssI 15 h R (λh=>?_) (λh=>?_)))
  ·refine rsn R (B1 R (λ_=>?_) (λhx=>Bool.noConfusion hx))
   refine crs R (crt ?_)
   cases SJ h
   exact dE R (F1 R) R
  ·refine rm 2 R (son R R R ?_)
   obtain⟨v5,hv5,h⟩:=Aa h
   refine scI R R (C7 hv5) (rx 3 R (ssI 21 h R (λh=>?_) (λh=>?_)))
   ·refine rsn R (B1 R (λ_=>?_) (λhx=>Bool.noConfusion hx))
    refine crs R (crt ?_)
    cases SJ h
    exact dE R (F1 R) R
   ·refine rm 1 R (son R R R ?_)
    obtain⟨v6,hv6,h⟩:=Aa h
    refine scI R R (Pt hv6) (rsn R (ccI h R (λh=>?_) (λh=>?_)))
    ·refine crs R (crt ?_)
     cases SJ h
     exact dE R (F1 R) R
    ·refine csn ?_
     exact⟨(),_,h,(ml R),R⟩
def E3 (b1:(List (List UInt8))):Option Bool :=
 (El b1).bind λv2=>some v2
def Di (s3:Int×(List (List UInt8))) (u4:Ae) (b5:Unit):Option (LR (Int×(List (List UInt8))) ((List (List UInt8))) (Bool)) :=
 if (s3.2.length+[u4.Key].length)*24<=140737488355328 then(some (.cont ((wI (s3.1+1)),(s3.2++[u4.Key])))) else none
def E4 (a0:List Ae) (s3:Int×(List (List UInt8))):Option (LR (Int×(List (List UInt8))) ((List (List UInt8))) (Bool)) :=
 if (decide (s3.1<(a0.length:Int))) then((idx a0 s3.1).bind λu4=>if (decide (32<(u4.Val.length:Int))) then(some (.ret false)) else(if u4.Del then(if (decide (0<(u4.Val.length:Int))) then(some (.ret false)) else(Di s3 u4 ())) else(Di s3 u4 ()))) else(some (.brk s3.2))
def Gv (a0:List Ae):Option Bool :=
 (Gj (E4 a0) fuel (0,([]:List (List UInt8)))).bind λx=>match x with | .inl r=>some r | .inr e7=>E3 e7
theorem S6 {a0:List Ae} {r:Bool} (h:Gv a0=some r):A6 Qx0 213 [.one (SL a0 Am)] (·=L7 (.b r)):=by
 refine An Tryz.func213 R (nt:=34) R (Nbl R) ?_
 intro w0 S0
 refine crs R (crs R (Bb (crs R ?_)))
 refine Cq 56 1 3 (by decide) R ?_
 refine cj ((List (List UInt8))) (λb1=>[(3,L7 (.ls 0 b1.length))]) (λb1=>[.arr 56 1 0 (b1.flatMap (eL eU8))]) (λb1=>E3 b1=some r) fR (λb1 h=>?_) ?_
 ·refine csr (rx 1 R ?_)
  refine Ahd 32 R pb ?_
  obtain⟨v2,hv2,h⟩:=Aa h
  refine scI R R (Ou hv2) (rsn R (Bn ?_))
  cases SJ h
  exact dnT R R R R
 ·refine Bh ?_
  obtain⟨x3,hx3,ho3⟩:=Aa h
  refine lpn (α:=Int×(List (List UInt8))) (λg=>[(3,L7 (.ls 0 g.2.2.length)),(6,L7 (SL a0 Am)),(7,L7 (Ii6 (a0.length:Int))),(8,L7 (Ii6 g.2.1))]) (λg=>[.arr 56 1 0 (g.2.2.flatMap (eL eU8))]) (λg=>Gj (E4 a0) g.1 g.2=some x3) (fuel,(0,([]:List (List UInt8)))) hx3 R R fR ?_
  rintro⟨n3,s3⟩ h
  obtain⟨n3,y3,rfl,h,hk3⟩:=Ct h
  refine crs R (Bb (ccI h R (λh=>?_) (λh=>?_)))
  ·refine csn (csb ?_)
   obtain⟨u4,hu4,h⟩:=Aa h
   refine sv R (Bl (f:=Am) Ag5 fR R R R R hu4) ?_
   refine sv R (A8 (ys:=[SL u4.Key eU8,SL u4.Val eU8,.b u4.Del]) Auj R (.cp _) R R) (rsn R (Bb (Bb (cj3 (Unit) (λb5=>[(3,L7 (.ls 0 s3.2.length)),(5,L7 (.lp 1 0)),(6,L7 (SL a0 Am)),(7,L7 (Ii6 (a0.length:Int))),(8,L7 (Ii6 s3.1))]) (λb5=>[.arr 56 1 0 (s3.2.flatMap (eL eU8)),BE u4]) (λb5=>Di s3 u4 b5=some y3) fR (λb5 h=>?_) ?_))))
   ·refine Bg (rx 3 R ?_)
    refine Eg R Tryz.underlying25 Ae9 R R (zL.1 R) (by decide) ?_
    refine Pf [.arr 56 1 0 (s3.2.flatMap (eL eU8)),BE u4,.arr 56 1 0 ([u4.Key].flatMap (eL eU8))] R ?_
    obtain⟨hb6,h⟩:=B5 h
    refine Tp (f:=(eL eU8)) (xs:=s3.2) (us:=[u4.Key]) R Tryz.underlying25 Ae9 Aus fR R R (.one _ _ _ _ (.ls _ _ _ _ _ _ R (Aq (f:=(eL eU8)) fR [u4.Key]).symm)) R R R (.sl _ _ _ (Aq (f:=(eL eU8)) fR _)) R R hb6 (by decide) ?_
    refine rm 1 R (Fi (A0 (Ag (cgs R ?_))))
    cases SJ h
    exact lx (n3,((wI (s3.1+1)),(s3.2++[u4.Key]))) hk3 R R
   ·refine Bg (rx 5 R (ssI 16 h R (λh=>?_) (λh=>?_)))
    ·refine rsn R (B1 R (λ_=>?_) (λhx=>Bool.noConfusion hx))
     refine crs R (crt (br5 ?_))
     cases SJ h
     obtain rfl:Sum.inl _=x3:=hk3
     obtain rfl:=zD ho3
     exact dnT R R R R
    ·refine rx 3 R (ssI 19 h R (λh=>?_) (λh=>?_))
     ·refine rsn R (ccI h R (λh=>?_) (λh=>?_))
      ·refine crs R (crt (br5 ?_))
       cases SJ h
       obtain rfl:Sum.inl _=x3:=hk3
       obtain rfl:=zD ho3
       exact dnT R R R R
      ·refine csn ?_
       exact⟨(),_,h,(ml R),R⟩
     ·refine rsn R (B1 R (λhx=>Bool.noConfusion hx) (λ_=>?_))
      refine csn ?_
      exact⟨(),_,h,(ml R),R⟩
  ·refine cx5 ?_
   cases SJ h
   obtain rfl:_=x3:=hk3
   exact⟨s3.2,_,ho3,(ml R),R⟩
def X4 (a0:List (List UInt8)):Option (List (List UInt8)) :=
 if (([]:List (List UInt8)).length+a0.length)*24<=140737488355328 then(some (([]:List (List UInt8))++a0)) else none
theorem Ag1 {a0:List (List UInt8)} {r:(List (List UInt8))} (h:X4 a0=some r):A6 Qx0 214 [.one (SL a0 (eL eU8))] (·=L7 (SL r (eL eU8))):=by
 refine An Tryz.func214 R (nt:=8) R (Nbl R) ?_
 intro w0 S0
 refine crs R (Bb (csr (rm 1 R (Ab6 R Tryz.underlying25 R (λnq hnq=>?_)))))
 cases nq
 ·refine Oy (B1 R (λhx=>Bool.noConfusion hx) (λ_=>?_))
  refine csn (csr (Sz R Tryz.underlying25 Ae9 (rx 1 R ?_)))
  obtain⟨hb1,h⟩:=B5 h
  refine Tp (f:=(eL eU8)) (xs:=([]:List (List UInt8))) (us:=a0) R Tryz.underlying25 Ae9 Aus fR R R (.one _ _ _ _ (.id _ R)) R R R (.sl _ _ _ (Aq (f:=(eL eU8)) fR _)) R R hb1 (by decide) ?_
  refine rsn R (Bn ?_)
  cases SJ h
  refine⟨Or.inr R,_,_,_,(Au (rt R) A4),pb,?_⟩
  rfl
 ·obtain rfl:=z7 (hnq rfl)
  replace h:(some ([]:List (List UInt8)))=some r:=by first|exact h|(rw[if_pos (by decide)] at h;exact h)
  refine Oy (B1 R (λ_=>?_) (λhx=>Bool.noConfusion hx))
  refine crs R (crt ?_)
  cases SJ h
  exact dE R (F1 R) R
def Xz (a0:List Ac):Option (List Ac) :=
 if (([]:List Ac).length+a0.length)*24<=140737488355328 then(some (([]:List Ac)++a0)) else none
theorem Afp {a0:List Ac} {r:(List Ac)} (h:Xz a0=some r):A6 Qx0 215 [.one (SL a0 Al)] (·=L7 (SL r Al)):=by
 refine An Tryz.func215 R (nt:=8) R (Nbl R) ?_
 intro w0 S0
 refine crs R (Bb (csr (rm 1 R (Ab6 R Tryz.underlying26 R (λnq hnq=>?_)))))
 cases nq
 ·refine Oy (B1 R (λhx=>Bool.noConfusion hx) (λ_=>?_))
  refine csn (csr (Sz R Tryz.underlying26 Agd (rx 1 R ?_)))
  obtain⟨hb1,h⟩:=B5 h
  refine Tp (f:=Al) (xs:=([]:List Ac)) (us:=a0) R Tryz.underlying26 Agd Axv fR R R (.one _ _ _ _ (.id _ R)) R R R (.sl _ _ _ (Aq (f:=Al) fR _)) R R hb1 (by decide) ?_
  refine rsn R (Bn ?_)
  cases SJ h
  refine⟨Or.inr R,_,_,_,(Au (rt R) A4),pb,?_⟩
  rfl
 ·obtain rfl:=z7 (hnq rfl)
  replace h:(some ([]:List Ac))=some r:=by first|exact h|(rw[if_pos (by decide)] at h;exact h)
  refine Oy (B1 R (λ_=>?_) (λhx=>Bool.noConfusion hx))
  refine crs R (crt ?_)
  cases SJ h
  exact dE R (F1 R) R
def Jh (a0:List (List UInt8)):Option (List (List UInt8)) :=
 if (([]:List (List UInt8)).length+a0.length)*24<=140737488355328 then(some (([]:List (List UInt8))++a0)) else none
theorem Ps {a0:List (List UInt8)} {r:(List (List UInt8))} (h:Jh a0=some r):Cv Qx0 214 [] [.one (SL a0 (eL eU8))] (λy m'=>y=L7 (.ls 0 r.length)/\m'=[.arr 56 1 0 (r.flatMap (eL eU8))]):=by
 refine Cs Tryz.func214 R (nt:=8) R (Nbl R) ?_
 intro w0 S0 X0 H0
 refine crs R (Bb (csr (rm 1 R (Ab6 R Tryz.underlying25 R (λnq hnq=>?_)))))
 cases nq
 ·refine Oy (B1 R (λhx=>Bool.noConfusion hx) (λ_=>?_))
  refine csn (csr (Sz R Tryz.underlying25 Ae9 (rx 1 R ?_)))
  obtain⟨hb1,h⟩:=B5 h
  refine Tp (f:=(eL eU8)) (xs:=([]:List (List UInt8))) (us:=a0) R Tryz.underlying25 Ae9 Aus fR R R (.one _ _ _ _ (.id _ R)) R R R (.sl _ _ _ (Aq (f:=(eL eU8)) fR _)) R R hb1 (by decide) ?_
  refine rsn R (Bn ?_)
  cases SJ h
  exact⟨Or.inr R,_,[0],[.one (.ls 0 (([]:List (List UInt8))++a0).length)],[.arr 56 1 0 ((([]:List (List UInt8))++a0).flatMap (eL eU8))],(Au (rt R) A4),R,R,⟨by decide,R⟩,R,R,⟨R,R⟩⟩
 ·obtain rfl:=z7 (hnq rfl)
  replace h:(some ([]:List (List UInt8)))=some r:=by first|exact h|(rw[if_pos (by decide)] at h;exact h)
  refine Oy (B1 R (λ_=>?_) (λhx=>Bool.noConfusion hx))
  refine crs R ?_
  refine Cq 56 1 2 (by decide) R ?_
  refine crt ?_
  cases SJ h
  exact⟨Or.inr R,_,[0],[.one (.ls 0 ([]:List (List UInt8)).length)],[.arr 56 1 0 (([]:List (List UInt8)).flatMap (eL eU8))],(Au (rt R) A4),R,R,⟨by decide,R⟩,R,R,⟨R,R⟩⟩
def Jo (a0:List Ac):Option (List Ac) :=
 if (([]:List Ac).length+a0.length)*24<=140737488355328 then(some (([]:List Ac)++a0)) else none
theorem Pz {a0:List Ac} {r:(List Ac)} (h:Jo a0=some r):Cv Qx0 215 [] [.one (SL a0 Al)] (λy m'=>y=L7 (.ls 0 r.length)/\m'=[.arr 134 1 0 (r.flatMap Al)]):=by
 refine Cs Tryz.func215 R (nt:=8) R (Nbl R) ?_
 intro w0 S0 X0 H0
 refine crs R (Bb (csr (rm 1 R (Ab6 R Tryz.underlying26 R (λnq hnq=>?_)))))
 cases nq
 ·refine Oy (B1 R (λhx=>Bool.noConfusion hx) (λ_=>?_))
  refine csn (csr (Sz R Tryz.underlying26 Agd (rx 1 R ?_)))
  obtain⟨hb1,h⟩:=B5 h
  refine Tp (f:=Al) (xs:=([]:List Ac)) (us:=a0) R Tryz.underlying26 Agd Axv fR R R (.one _ _ _ _ (.id _ R)) R R R (.sl _ _ _ (Aq (f:=Al) fR _)) R R hb1 (by decide) ?_
  refine rsn R (Bn ?_)
  cases SJ h
  exact⟨Or.inr R,_,[0],[.one (.ls 0 (([]:List Ac)++a0).length)],[.arr 134 1 0 ((([]:List Ac)++a0).flatMap Al)],(Au (rt R) A4),R,R,⟨by decide,R⟩,R,R,⟨R,R⟩⟩
 ·obtain rfl:=z7 (hnq rfl)
  replace h:(some ([]:List Ac))=some r:=by first|exact h|(rw[if_pos (by decide)] at h;exact h)
  refine Oy (B1 R (λ_=>?_) (λhx=>Bool.noConfusion hx))
  refine crs R ?_
  refine Cq 134 1 2 (by decide) R ?_
  refine crt ?_
  cases SJ h
  exact⟨Or.inr R,_,[0],[.one (.ls 0 ([]:List Ac).length)],[.arr 134 1 0 (([]:List Ac).flatMap Al)],(Au (rt R) A4),R,R,⟨by decide,R⟩,R,R,⟨R,R⟩⟩
def Gk (b1:Unit):Option Int :=
 some (-1)
def D3 (a0:List (List UInt8)) (a1:List UInt8) (s2:Int):Option (LR (Int) (Unit) (Int)) :=
 if (decide (s2<(a0.length:Int))) then((idx a0 s2).bind λu3=>(Eb a1 u3).bind λv4=>if v4 then(some (.ret s2)) else(some (.cont (wI (s2+1))))) else(some (.brk ()))
def Ip (a0:List (List UInt8)) (a1:List UInt8):Option Int :=
 (Gj (D3 a0 a1) fuel 0).bind λx=>match x with | .inl r=>some r | .inr e5=>Gk e5
theorem Ry {a0:List (List UInt8)} {a1:List UInt8} {r:Int} (h:Ip a0 a1=some r):Cv Qx0 147 [.arr 56 1 0 (a0.flatMap (eL eU8))] [.one (.ls 0 a0.length),.one (.fn 148 [SL a1 eU8] [])] (λy m'=>y=L7 (Ii6 r)/\m'=[.arr 56 1 0 (a0.flatMap (eL eU8))]):=by
 refine Cs Tryz.func147 R (nt:=19) R (Nbl R) ?_
 intro w0 S0 X0 H0
 refine crs R (Bb (csr (rm 1 R (sv R (Fw Ab4 R R (Aq (f:=(eL eU8)) fR _).symm) ?_))))
 refine rsn R (cj (Unit) (λb1=>[]) (λb1=>[.arr 56 1 0 (a0.flatMap (eL eU8))]) (λb1=>Gk b1=some r) fR (λb1 h=>?_) ?_)
 ·refine crs R (Bn ?_)
  cases SJ h
  exact⟨Or.inr R,_,[0],[.one (Ii6 (-1))],[.arr 56 1 0 (a0.flatMap (eL eU8))],(Au (rt R) A4),R,R,⟨by decide,R⟩,R,R,⟨R,R⟩⟩
 ·refine Bh ?_
  obtain⟨x2,hx2,ho2⟩:=Aa h
  refine lpn (α:=Int) (λg=>[(0,L7 (.ls 0 a0.length)),(1,L7 (.fn 148 [SL a1 eU8] [])),(7,L7 (Ii6 (a0.length:Int))),(8,L7 (Ii6 g.2))]) (λg=>[.arr 56 1 0 (a0.flatMap (eL eU8))]) (λg=>Gj (D3 a0 a1) g.1 g.2=some x2) (fuel,0) hx2 R R fR ?_
  rintro⟨n2,s2⟩ h
  obtain⟨n2,y2,rfl,h,hk2⟩:=Ct h
  refine crs R (Bb (ccI h R (λh=>?_) (λh=>?_)))
  ·refine csn (Bb (Bh (crs R (csr (rx 3 R ?_)))))
   obtain⟨u3,hu3,h⟩:=Aa h
   refine sv R (Gc (f:=(eL eU8)) Ab4 fR R R R R R hu3) ?_
   refine sv R (Ahs (f:=(eL eU8)) 0 Yz fR R R R R (Ft hu3).2 R) ?_
   obtain⟨v4,hv4,h⟩:=Aa h
   refine sd R (Ty (fk R) (.fn _ _ _ _ R) (Af R A2) R (Mm hv4)) (Oy (ccI h R (λh=>?_) (λh=>?_)))
   ·refine crs R (Bn (br5 ?_))
    cases SJ h
    obtain rfl:Sum.inl _=x2:=hk2
    obtain rfl:=zD ho2
    exact⟨Or.inr R,_,[0],[.one (Ii6 s2)],[.arr 56 1 0 (a0.flatMap (eL eU8))],(Au (rt R) A4),R,R,⟨by decide,R⟩,R,R,⟨R,R⟩⟩
   ·refine cbn (cgs R ?_)
    cases SJ h
    exact lx (n2,(wI (s2+1))) hk2 R R
  ·refine cx5 ?_
   cases SJ h
   obtain rfl:_=x2:=hk2
   exact⟨(),_,ho2,trivial,R⟩
def Of (a0:List (List UInt8)) (a1:List UInt8):Option (Int×Bool) :=
 (Ip a0 a1).bind λv1=>if (decide (v1<0)) then(some ((a0.length:Int),false)) else((idx a0 v1).bind λu2=>(Dz u2 a1).bind λv3=>some (v1,v3))
theorem Yx {a0:List (List UInt8)} {a1:List UInt8} {r:Int×Bool} (h:Of a0 a1=some r):Cv Qx0 69 [.arr 56 1 0 (a0.flatMap (eL eU8))] [.one (.ls 0 a0.length),.one (SL a1 eU8)] (λy m'=>y=.tup [.one (Ii6 r.1),.one (.b r.2)]/\m'=[.arr 56 1 0 (a0.flatMap (eL eU8))]):=by
 refine Cs Tryz.func69 R (nt:=22) R (Nbl R) ?_
 intro w0 S0 X0 H0
 refine crs R (csr (rm 2 R (sv R (Ua (Vw R R Qc) Qc) ?_)))
 obtain⟨v1,hv1,h⟩:=Aa h
 refine Gi (x':=L7 (Ii6 v1)) (M':=[.arr 56 1 0 (a0.flatMap (eL eU8))]) [0] R (fk R) (.func _) (Af R (Af R A2)) (Ry hv1) R R (by decide) R R R ?_
 refine rsn R (Bb (crs R (ccI h R (λh=>?_) (λh=>?_))))
 ·refine csr (rm 1 R (sv R (Fw Ab4 R R (Aq (f:=(eL eU8)) fR _).symm) ?_))
  refine rsn R (crt ?_)
  cases SJ h
  exact⟨Or.inr R,_,[0],[.one (Ii6 (a0.length:Int)),.one (.b false)],[.arr 56 1 0 (a0.flatMap (eL eU8))],(Au (rt R) (Au (rt R) A4)),R,R,⟨by decide,R⟩,R,R,⟨R,R⟩⟩
 ·refine csn (csr (rx 3 R ?_))
  obtain⟨u2,hu2,h⟩:=Aa h
  refine sv R (Gc (f:=(eL eU8)) Ab4 fR R R R R R hu2) ?_
  refine sv R (Ahs (f:=(eL eU8)) 0 Yz fR R R R R (Ft hu2).2 R) ?_
  refine rx 1 R ?_
  obtain⟨v3,hv3,h⟩:=Aa h
  refine scI R R (M3 hv3) (rsn R (Bn ?_))
  cases SJ h
  exact⟨Or.inr R,_,[0],[.one (Ii6 v1),.one (.b v3)],[.arr 56 1 0 (a0.flatMap (eL eU8))],(Au (rt R) (Au (rt R) A4)),R,R,⟨by decide,R⟩,R,R,⟨R,R⟩⟩
section
open Go.Lib
set_option maxHeartbeats 4000000 in
theorem Aix (b n c vb vc:Nat) (vs:List Value) (w:World) (i0:TypeInfo) (hi0:Tryz.prog.info? 56=some i0) (hs0:i0.size=1) (hroom:n+1<=c) (hc63:c<=9223372036854775807)
  (hvl:vs.length=1) (hsp:∀ j,j<1->(w.cell? ⟨b,n*1+j,none⟩).isSome=true) (hfz:∀ j,j<1->w.frozen? ⟨b,n*1+j,none⟩=false)
  (hvs:∀ j v,vs[j]? = some v->w.cell? ⟨vb,j,none⟩=some v) (h1v:∀ v∈vs,v.oneCell'=true) :
  Calls Tryz.prog 255 #[.slice (some ⟨b,0,none⟩) n c,.int .i64 n,.slice (some ⟨vb,0,none⟩) 1 vc] w λe w' =>
   e=.returned (.slice (some ⟨b,0,none⟩) (n+1) c)/\w'=w.setCells b (n*1) vs:=by
 have hsrc:_root_.Go.Src Tryz.prog i0.size 25 (.slice (some ⟨vb,0,none⟩) 1 vc) 1 vs w:=by
  rw[hs0]
  exact _root_.Go.Src.ofSlice w Tryz.underlying25 ⟨vb,0,none⟩ 1 vc vs (by omega) (λj u hj=>by rw[Addr.add_lit,yK];exact hvs j u hj) h1v
 go_enter Tryz.func255,Tryz.ntmps255
 go_wp2_with (at_builtin;refine wpList_append_room_src _ rfl _ _ 25 25 rfl 56 i0 Tryz.underlying25 hi0 b 0 n c rfl _ rfl 1 vs hsrc hroom (by rw[hvl,hs0,yK];exact hsp) (by rw[hvl,hs0,yK];exact hfz) ?_)
 go_ret
 refine⟨R,?_⟩
 first|rfl|(simp;done)|(simp [hs0];done)
set_option maxHeartbeats 4000000 in
theorem Adz (b n c vb vc:Nat) (cs vs:List Value) (w:World) (i0:TypeInfo) (hi0:Tryz.prog.info? 56=some i0) (hz0:i0.zero=some (.slice none 0 0)) (hs0:i0.size=1) (hnc:n<=c) (hroom:c<n+1) (hn63:n+1<=9223372036854775807)
  (hfit:Builtin.nextslicecap (n+1) c*i0.bytes<=281474976710656) (hcl:cs.length=n*1) (hvl:vs.length=1)
  (hcs:∀ j v,cs[j]? = some v->w.cell? ⟨b,j,none⟩=some v) (hvs:∀ j v,vs[j]? = some v->w.cell? ⟨vb,j,none⟩=some v) (h1v:∀ v∈vs,v.oneCell'=true) :
  Calls Tryz.prog 255 #[.slice (some ⟨b,0,none⟩) n c,.int .i64 n,.slice (some ⟨vb,0,none⟩) 1 vc] w λe w' =>
   e=.returned (.slice (some ⟨w.heap.size,0,none⟩) (n+1) (grownCap w (n+1) c 56)) /\
   w'=w.drew.alloc (.cells ((cs++vs).toArray++Builtin.zeroCells (Value.cells (.slice none 0 0)) (grownCap w (n+1) c 56-(n+1))) 56):=by
 have hsrc:_root_.Go.Src Tryz.prog i0.size 25 (.slice (some ⟨vb,0,none⟩) 1 vc) 1 vs w:=by
  rw[hs0]
  exact _root_.Go.Src.ofSlice w Tryz.underlying25 ⟨vb,0,none⟩ 1 vc vs (by omega) (λj u hj=>by rw[Addr.add_lit,yK];exact hvs j u hj) h1v
 have hold:(Builtin.firstCells i0.size n (.slice (some ⟨b,0,none⟩) n c)).run Tryz.prog w.drew=.ok cs.toArray w.drew:=by
  rw[hs0]
  exact run_firstCells_some w.drew 1 n ⟨b,0,none⟩ n c cs (by omega) (λj v hj=>by rw[Addr.add_lit,yK];exact hcs j v hj)
 have hrun:∀ ty,(Builtin.append_ #[25,25] ty #[.slice (some ⟨b,0,none⟩) n c,.slice (some ⟨vb,0,none⟩) 1 vc]).run Tryz.prog w=.ok (.slice (some ⟨w.heap.size,0,none⟩) (n+1) (grownCap w (n+1) c 56)) (w.drew.alloc (.cells ((cs++vs).toArray++Builtin.zeroCells (Value.cells (.slice none 0 0)) (grownCap w (n+1) c 56-(n+1))) 56)):=λty =>
  run_append_grow_src w 25 25 ty 56 i0 _ Tryz.underlying25 hi0 hz0 (some ⟨b,0,none⟩) n c cs hold _ 1 vs hsrc hroom (by omega) hfit
 go_enter Tryz.func255,Tryz.ntmps255
 go_wp2_with (at_builtin;refine Lib.wpList_append_run _ rfl _ _ _ _ rfl _ _ rfl rfl _ _ (hrun _) ?_)
 all_goals (go_ret;first|exact⟨rfl,rfl⟩|exact⟨rfl,by simp [Value.cells]⟩)
set_option maxHeartbeats 4000000 in
theorem Adn (b n c i vb vc:Nat) (cs vs:List Value) (w:World) (hs0:(Tryz.prog.info? 56).map (·.size)=some 1) (hi:i<n) (hroom:n+1<=c) (hc63:c<=9223372036854775807) (hvb:vb≠b)
  (hcl:cs.length=n*1) (hvl:vs.length=1)
  (hcs:∀ j v,cs[j]? = some v->w.cell? ⟨b,j,none⟩=some v) (hsp:∀ j,j<(n+1)*1->(w.cell? ⟨b,j,none⟩).isSome=true) (hfz:∀ j,j<(n+1)*1->w.frozen? ⟨b,j,none⟩=false)
  (hvs:∀ j v,vs[j]? = some v->w.cell? ⟨vb,j,none⟩=some v) (h1c:∀ v∈cs,v.oneCell'=true) (h1v:∀ v∈vs,v.oneCell'=true)
  (tA tB:TypeId) (kA kB:Nat) (hsa:w.shape? vb=some (tA,kA)) (hsb:w.shape? b=some (tB,kB)) (hkB:kB≠0) (hfa:w.frozen? ⟨vb,0,none⟩=false) (hfe:w.frozen? ⟨vb,kA,none⟩=false) :
  Calls Tryz.prog 255 #[.slice (some ⟨b,0,none⟩) n c,.int .i64 i,.slice (some ⟨vb,0,none⟩) 1 vc] w λe w' =>
   e=.returned (.slice (some ⟨b,0,none⟩) (n+1) c)/\w'=(w.drew.setCells b (i+1) (cs.drop (i))).setCells b (i) vs:=by
 have hz2:¬ ((i:Int)=(n:Int)):=by omega
 have hz3:¬ ((c:Int)<(n:Int)+1):=by omega
 have mixed:Tryz.prog.follows .mixedOrders=true:=by kernel_rfl
 have hov:∀ lb cb,(callFunc 271 #[.slice (some ⟨vb,0,none⟩) 1 vc,.slice (some ⟨b,i+1,none⟩) lb cb]).run Tryz.prog w=.ok (.value (.bool false)) w:=λlb cb=>by
  rw[run_callFunc_extern Tryz.func271 (by kernel_rfl) (by kernel_rfl) (by kernel_rfl) (e:=Extern.SlicesOverlaps.overlaps #[25,25] #[4]) (by kernel_rfl),
   Lib.run_overlaps_apart w 25 4 56 Tryz.underlying25 1 (λw=>Ci hs0 w) ⟨vb,0,none⟩ ⟨b,i+1,none⟩ 1 vc lb cb hvb tA tB kA kB hsa hsb hkB hfa hfe]
  rfl
 have hdl:(cs.drop (i)).length=(n-i)*1:=by rw[yB,hcl];omega
 have hw1:IntKind.i64.wrap ((i:Int)+1)=(i:Int)+1:=by rw[IntKind.wrap_i64];omega
 have hb1:(0:Int)<=(i:Int)+1:=by omega
 have hin:i<=n:=by omega
 have htn:((i:Int)+1).toNat=i+1:=by omega
 have hb2:¬ (c=i+1):=by omega
 have hb3:(i:Int)<=(n:Int)+1:=by omega
 have hb4:¬ (c=i):=by omega
 have hcp1:∀ ty dc sc,(Builtin.copy_ #[25,25] ty #[.slice (some ⟨b,i+1,none⟩) (n-i) dc,.slice (some ⟨b,i,none⟩) (n+1-i) sc]).run Tryz.prog w.drew=.ok (goInt (n-i:Nat)) (w.drew.setCells b (i+1) (cs.drop (i))):=λty dc sc =>
  Gl w.drew _ _ ty 56 b (i+1) (n-i) dc ⟨b,i,none⟩ (n+1-i) sc 1 (n-i) (cs.drop (i)) Tryz.underlying25 hs0 (by simp only[kR];split <;> omega) hdl
   (λj v hj=>by rw[Addr.add_lit];exact hcs (i+j) v (by rwa [yH] at hj))
   (λj hj=>hsp _ (by rw[hdl] at hj;omega)) (λj hj=>hfz _ (by rw[hdl] at hj;omega)) (λv hv=>h1c v (kE hv))
 obtain⟨W1,hW1⟩:∃ W1,W1=w.drew.setCells b (i+1) (cs.drop (i)):=⟨_,rfl⟩
 have hsp1:∀ k,k<(n+1)*1->(W1.cell? ⟨b,k,none⟩).isSome=true:=λk hk=>by
  rw[hW1]
  exact isSome_setCells b (cs.drop (i)) (i+1) w.drew (λj hj=>hsp _ (by rw[hdl] at hj;omega)) _ (hsp k hk)
 have hcp2:∀ (W:World),(∀ x,W.cell? x=W1.cell? x)->(∀ x,W.frozen? x=W1.frozen? x)->∀ ty dc,(Builtin.copy_ #[25,25] ty #[.slice (some ⟨b,i,none⟩) (n+1-i) dc,.slice (some ⟨vb,0,none⟩) 1 vc]).run Tryz.prog W=.ok (goInt (1:Nat)) (W.setCells b (i) vs):=λW hWc hWf ty dc =>
  Gl W _ _ ty 56 b (i) (n+1-i) dc ⟨vb,0,none⟩ 1 vc 1 1 vs Tryz.underlying25 hs0 (by simp only[kR];split <;> omega) (by omega)
   (λj v hj=>by
    rw[Addr.add_lit,hWc,hW1,yK,World.cell?_setCells_out b _ _ _ _ (λh _=>absurd h hvb)]
    exact hvs j v hj)
   (λj hj=>by rw[hWc];exact hsp1 _ (by omega)) (λj hj=>by rw[hWf,hW1,World.frozen?_setCells];exact hfz _ (by omega)) h1v
 rw[<- hW1] at hcp1
 go_enter Tryz.func255,Tryz.ntmps255
 go_wp2_with (simp only[hov])
 go_region_law_o (refine step_copy_runI rfl _ _ 25 25 rfl _ _ (by simp [Act.eval,Act.put]) (by simp [Act.eval,Act.put]) (hcp1 _ _ _) ?_)
 go_wp2_with (at_builtin;refine wpList_copy_runI _ rfl _ _ 25 25 rfl _ _ rfl rfl (hcp2 _ (λ_=>rfl) (λ_=>rfl) _ _) ?_)
 go_ret
 first|exact⟨rfl,rfl⟩|exact⟨rfl,by rw[hW1]⟩
set_option maxHeartbeats 4000000 in
theorem Af5 (b n c i vb vc:Nat) (cs vs:List Value) (w:World) (i0:TypeInfo) (hi0:Tryz.prog.info? 56=some i0) (hz0:i0.zero=some (.slice none 0 0)) (hs0:i0.size=1) (hi:i<n) (hnc:n<=c) (hroom:c<n+1) (hn63:n+1<=4611686018427387904)
  (hb48:(n+1)*i0.bytes<=281474976710656) (hfit:Builtin.nextslicecap (n+1) c*i0.bytes<=281474976710656) (hcl:cs.length=n*1) (hvl:vs.length=1)
  (hcs:∀ j v,cs[j]? = some v->w.cell? ⟨b,j,none⟩=some v) (hvs:∀ j v,vs[j]? = some v->w.cell? ⟨vb,j,none⟩=some v) (h1c:∀ v∈cs,v.oneCell'=true) (h1v:∀ v∈vs,v.oneCell'=true) :
  Calls Tryz.prog 255 #[.slice (some ⟨b,0,none⟩) n c,.int .i64 i,.slice (some ⟨vb,0,none⟩) 1 vc] w λe w' =>
   e=.returned (.slice (some ⟨w.heap.size,0,none⟩) (n+1) (grownCap w (n+1) c 56)) /\
   w'=(((w.alloc (.cells ((cs.take (i)).toArray++Builtin.zeroCells (Value.cells (.slice none 0 0)) (n+1-i)++Builtin.zeroCells (Value.cells (.slice none 0 0)) (grownCap w (n+1) c 56-(n+1))) 56)).drew.setCells w.heap.size (i) vs).drew).setCells w.heap.size (i+1) (cs.drop (i)):=by
 have mixed:Tryz.prog.follows .mixedOrders=true:=by kernel_rfl
 have hz2:¬ ((i:Int)=(n:Int)):=by omega
 have hz3:(c:Int)<(n:Int)+1:=by omega
 have hsz:(Tryz.prog.info? 56).map (·.size)=some 1:=by rw[hi0];simp [hs0]
 have hbw:b<w.heap.size:=block_lt_of_cell (hcs 0 _ (zC (by omega)))
 have hvw:vb<w.heap.size:=block_lt_of_cell (hvs 0 _ (zC (by omega)))
 have hkk:(n:Int)+1-(i:Int)=((n+1-i:Nat):Int):=by omega
 have hik:i+(n+1-i)=n+1:=by omega
 have htl:(cs.take (i)).length=i*1:=by rw[zN];omega
 have hold:(Builtin.firstCells i0.size i (.slice (some ⟨b,0,none⟩) i c)).run Tryz.prog w.drew=.ok (cs.take (i)).toArray w.drew:=by
  rw[hs0]
  exact run_firstCells_some w.drew 1 i ⟨b,0,none⟩ i c (cs.take (i)) htl (λj v hj=>by
   rw[Addr.add_lit,yK]
   rw[yF] at hj
   split at hj
   ·exact hcs j v hj
   ·cases hj)
 have hrz:∀ ty,(Builtin.append_ #[25,3] ty #[.slice (some ⟨b,0,none⟩) i c,.int .i64 ((n:Int)+1-(i:Int))]).run Tryz.prog w =
   .ok (.slice (some ⟨w.heap.size,0,none⟩) (n+1) (grownCap w (n+1) c 56)) (w.drew.alloc (.cells ((cs.take (i)).toArray++Builtin.zeroCells (Value.cells (.slice none 0 0)) (n+1-i)++Builtin.zeroCells (Value.cells (.slice none 0 0)) (grownCap w (n+1) c 56-(n+1))) 56)):=λty=>by
  have h:=Lib.run_append_grow_zeros w 25 3 ty 56 i0 _ .i64 .i64 Tryz.underlying25 Tryz.underlying3 hi0 hz0 (some ⟨b,0,none⟩) i c (cs.take (i)) hold (n+1-i) (by omega) (by omega) (by omega) (by omega) (yP (yZ _ (by omega)) hb48) (by rw[hik];exact hfit)
  rw[hik] at h
  rw[hkk]
  exact h
 obtain⟨G,hG⟩:∃ G,G=grownCap w (n+1) c 56:=⟨_,rfl⟩
 obtain⟨ROW,hROW⟩:∃ ROW:Array Value,ROW=(cs.take (i)).toArray++Builtin.zeroCells (Value.cells (.slice none 0 0)) (n+1-i)++Builtin.zeroCells (Value.cells (.slice none 0 0)) (G-(n+1)):=⟨_,rfl⟩
 rw[<- hG] at hrz ⊢
 rw[<- hROW] at hrz ⊢
 have hzc:∀ k,(Builtin.zeroCells (Value.cells (.slice none 0 0)) k).size=k*1:=λk=>by simp [Builtin.zeroCells,Value.cells]
 have hRl:(n+1)*1<=ROW.size:=by
  rw[hROW,yY,yY,hzc,hzc,yE,htl]
  omega
 obtain⟨W1,hW1⟩:∃ W1,W1=w.drew.alloc (.cells ROW 56):=⟨_,rfl⟩
 rw[<- hW1] at hrz
 have hN:∀ j,j<(n+1)*1->(W1.cell? ⟨w.heap.size,j,none⟩).isSome=true:=λj hj=>by
  rw[hW1,World.cell?_alloc_at (w:=w.drew) ROW _ w.heap.size j rfl,zR (by omega)];rfl
 have hNf:∀ j,W1.frozen? ⟨w.heap.size,j,none⟩=false:=λj=>by rw[hW1];exact World.frozen?_alloc_at (w:=w.drew) ROW _ w.heap.size j rfl
 have hOb:∀ j v,w.cell? ⟨b,j,none⟩=some v->W1.cell? ⟨b,j,none⟩=some v:=λj v h=>by rw[hW1,World.cell?_alloc_past (w:=w.drew) _ b j hbw];exact h
 have hOv:∀ j v,w.cell? ⟨vb,j,none⟩=some v->W1.cell? ⟨vb,j,none⟩=some v:=λj v h=>by rw[hW1,World.cell?_alloc_past (w:=w.drew) _ vb j hvw];exact h
 have hcpA:∀ (W:World),(∀ x,W.cell? x=W1.cell? x)->(∀ x,W.frozen? x=W1.frozen? x)->∀ ty dc,(Builtin.copy_ #[25,25] ty #[.slice (some ⟨w.heap.size,i,none⟩) (n+1-i) dc,.slice (some ⟨vb,0,none⟩) 1 vc]).run Tryz.prog W=.ok (goInt (1:Nat)) (W.setCells w.heap.size (i) vs):=λW hWc hWf ty dc =>
  Gl W _ _ ty 56 w.heap.size (i) (n+1-i) dc ⟨vb,0,none⟩ 1 vc 1 1 vs Tryz.underlying25 hsz (by simp only[kR];split <;> omega) (by omega)
   (λj v hj=>by rw[Addr.add_lit,hWc,yK];exact hOv _ v (hvs j v hj))
   (λj hj=>by rw[hWc];exact hN _ (by omega)) (λj hj=>by rw[hWf];exact hNf _) h1v
 have hGn:n+1<=G:=by rw[hG];exact grownCap_ge w _ _ _
 have hG63:G<=9223372036854775807:=by
  have:=grownCap_le_maxLen w (n+1) c 56 (by unfold maxLen;omega)
  rw[<- hG] at this
  unfold maxLen at this
  omega
 have hGi:¬ (G=i):=by omega
 have hGim:¬ (G=i+1):=by omega
 have hci:¬ (c=i):=by omega
 have hbN:b≠w.heap.size:=by omega
 have hdl:(cs.drop (i)).length=(n-i)*1:=by rw[yB,hcl];omega
 have hcpB:∀ (W:World),(∀ x,W.cell? x=(W1.setCells w.heap.size (i) vs).cell? x)->(∀ x,W.frozen? x=(W1.setCells w.heap.size (i) vs).frozen? x)->∀ ty dc sc,(Builtin.copy_ #[25,25] ty #[.slice (some ⟨w.heap.size,i+1,none⟩) (n-i) dc,.slice (some ⟨b,i,none⟩) (n-i) sc]).run Tryz.prog W=.ok (goInt (n-i:Nat)) (W.setCells w.heap.size (i+1) (cs.drop (i))):=λW hWc hWf ty dc sc =>
  Gl W _ _ ty 56 w.heap.size (i+1) (n-i) dc ⟨b,i,none⟩ (n-i) sc 1 (n-i) (cs.drop (i)) Tryz.underlying25 hsz (by simp only[kR];split <;> omega) hdl
   (λj v hj=>by
    rw[Addr.add_lit,hWc,World.cell?_setCells_out _ _ _ _ _ (λh _=>absurd h hbN)]
    exact hOb _ v (hcs (i+j) v (by rwa [yH] at hj)))
   (λj hj=>by rw[hWc];exact isSome_setCells w.heap.size vs (i) W1 (λt ht=>hN _ (by omega)) _ (hN _ (by rw[hdl] at hj;omega)))
   (λj hj=>by rw[hWf,World.frozen?_setCells];exact hNf _) (λv hv=>h1c v (kE hv))
 subst hW1
 have hE1:∀ x,((w.alloc (.cells ROW 56)).drew).cell? x=(w.drew.alloc (.cells ROW 56)).cell? x:=λx=>rfl
 have hE2:∀ x,((w.alloc (.cells ROW 56)).drew).frozen? x=(w.drew.alloc (.cells ROW 56)).frozen? x:=λx=>rfl
 have hF1:∀ x,(((w.alloc (.cells ROW 56)).drew.setCells w.heap.size (i) vs).drew).cell? x=((w.drew.alloc (.cells ROW 56)).setCells w.heap.size (i) vs).cell? x:=λx=>rfl
 have hF2:∀ x,(((w.alloc (.cells ROW 56)).drew.setCells w.heap.size (i) vs).drew).frozen? x=((w.drew.alloc (.cells ROW 56)).setCells w.heap.size (i) vs).frozen? x:=λx=>rfl
 have hw1:IntKind.i64.wrap ((i:Int)+1)=(i:Int)+1:=by rw[IntKind.wrap_i64];omega
 have hb1:(0:Int)<=(i:Int)+1:=by omega
 have hin:i<=n:=by omega
 have htn:((i:Int)+1).toNat=i+1:=by omega
 have hb3:(i:Int)<=(n:Int):=by omega
 clear hkk hik hold hROW hG hRl htl hzc
 go_enter Tryz.func255,Tryz.ntmps255
 go_wp2_with (first
  | (at_builtin;refine Lib.wpList_append_run _ rfl _ _ _ _ rfl _ _ rfl rfl _ _ (hrz _) ?_)
  | (at_builtin;refine wpList_copy_runI _ rfl _ _ 25 25 rfl _ _ rfl rfl (hcpA _ hE1 hE2 _ _) ?_)
  | (at_builtin;refine wpList_copy_runI _ rfl _ _ 25 25 rfl _ _ rfl rfl (hcpB _ (λ_=>rfl) (λ_=>rfl) _ _ _) ?_))
 go_region_law_o (refine step_copy_runI rfl _ _ 25 25 rfl (.slice (some ⟨w.heap.size,i+1,none⟩) (n-i) (G-(i+1))) (.slice (some ⟨b,i,none⟩) (n-i) (c-i)) (by simp [Act.eval,Act.put]) (by simp [Act.eval,Act.put]) (hcpB _ hF1 hF2 3 (G-(i+1)) (c-i)) ?_)
 go_wp2
 go_ret
 exact⟨R,R⟩
set_option maxHeartbeats 4000000 in
theorem Ajb (vb vc:Nat) (vs:List Value) (w:World) (i0:TypeInfo) (hi0:Tryz.prog.info? 56=some i0) (hz0:i0.zero=some (.slice none 0 0)) (hs0:i0.size=1)
  (hfit:Builtin.nextslicecap (0+1) 0*i0.bytes<=281474976710656) (hvl:vs.length=1)
  (hvs:∀ j v,vs[j]? = some v->w.cell? ⟨vb,j,none⟩=some v) (h1v:∀ v∈vs,v.oneCell'=true) :
  Calls Tryz.prog 255 #[.slice none 0 0,.int .i64 ((0:Nat):Int),.slice (some ⟨vb,0,none⟩) 1 vc] w λe w' =>
   e=.returned (.slice (some ⟨w.heap.size,0,none⟩) (0+1) (grownCap w (0+1) 0 56)) /\
   w'=w.drew.alloc (.cells (([]++vs).toArray++Builtin.zeroCells (Value.cells (.slice none 0 0)) (grownCap w (0+1) 0 56-(0+1))) 56):=by
 have hsrc:_root_.Go.Src Tryz.prog i0.size 25 (.slice (some ⟨vb,0,none⟩) 1 vc) 1 vs w:=by
  rw[hs0]
  exact _root_.Go.Src.ofSlice w Tryz.underlying25 ⟨vb,0,none⟩ 1 vc vs (by omega) (λj u hj=>by rw[Addr.add_lit,yK];exact hvs j u hj) h1v
 have hold:(Builtin.firstCells i0.size 0 (.slice none 0 0)).run Tryz.prog w.drew=.ok ([]:List Value).toArray w.drew:=by
  rw[hs0]
  exact run_firstCells_none w.drew 1 0 0 0
 have hrun:∀ ty,(Builtin.append_ #[25,25] ty #[.slice none 0 0,.slice (some ⟨vb,0,none⟩) 1 vc]).run Tryz.prog w=.ok (.slice (some ⟨w.heap.size,0,none⟩) (0+1) (grownCap w (0+1) 0 56)) (w.drew.alloc (.cells (([]++vs).toArray++Builtin.zeroCells (Value.cells (.slice none 0 0)) (grownCap w (0+1) 0 56-(0+1))) 56)):=λty =>
  run_append_grow_src w 25 25 ty 56 i0 _ Tryz.underlying25 hi0 hz0 none 0 0 [] hold _ 1 vs hsrc (by omega) (by omega) hfit
 go_enter Tryz.func255,Tryz.ntmps255
 go_wp2_with (at_builtin;refine Lib.wpList_append_run _ rfl _ _ _ _ rfl _ _ rfl rfl _ _ (hrun _) ?_)
 all_goals (go_ret;first|exact⟨rfl,rfl⟩|exact⟨rfl,by simp [Value.cells]⟩)
theorem Afm:(Tryz.prog.info? 56).map (λi=>(i.zero,i.size,i.bytes))=some (some (.slice none 0 0),1,24):=by kernel_rfl
theorem Aot {cs vs:List Lf} {n i:Nat} (hcl:cs.length=n*1) (hvl:vs.length=1) (hi:i<=n) (hn:(n+1)*24<=140737488355328) :
  Cv Qx0 255 [.arr 56 1 0 cs,.arr 56 1 0 vs] [.one (.ls 0 n),.one (Ii6 (i:Int)),.one (.ls 1 1)] (λy m'=>y=L7 (.ls 0 (n+1))/\m'=[.arr 56 1 0 (cs.take (i*1)++vs++cs.drop (i*1)),.dead]):=by
 refine Yc (by decide) hcl hvl (λw v1 vb vc cur2 xs ys hown hg2 hcell hyl hne hx1 hy1=>?_)
 obtain⟨i0,hi0,hz0,hs0,hb0⟩:=info_parts Afm
 have hxl:=hown.1
 have hfitG:∀ {old},old<n+1->Builtin.nextslicecap (n+1) old*i0.bytes<=281474976710656:=λh=>growslice_fits h (by rw[hb0];exact hn)
 have hsz':(Tryz.prog.info? 56).map (·.size)=some 1:=by rw[hi0];simp [hs0]
 have hzc:∀ k,(Builtin.zeroCells (Value.cells (.slice none 0 0)) k).size=k*1:=λk=>by simp [Builtin.zeroCells,Value.cells]
 have hg63:∀ c,grownCap w (n+1) c 56<=maxLen:=λc=>grownCap_le_maxLen w (n+1) c 56 (by unfold maxLen;omega)
 have hgge:∀ c,n+1<=grownCap w (n+1) c 56:=λc=>grownCap_ge w _ _ _
 rcases hown.2 with⟨rfl,h0⟩|⟨g,cap,cur,rfl,_,hg,hnc,hcm,hcs,hct⟩
 ·subst h0
  have hi0':i=0:=by omega
  subst hi0'
  have hx0:xs=[]:=j8.1 (hxl.trans (kG _))
  subst hx0
  refine(Ajb vb vc ys w i0 hi0 hz0 hs0 (hfitG (by omega)) hyl hcell hy1).mono ?_
  rintro e w' ⟨rfl,rfl⟩
  refine⟨_,w.heap.size,R,N0 (hgge 0) (hg63 0) ?_ ?_,.inr (zO _)⟩
  ·have:=hgge 0
   rw[yY,hzc,yE,wZ,hyl];omega
  ·rw[xR,xA,wK (by rw[wZ,hyl])]
   simp
 ·have hcur:cur.toList.length=cap*1:=by rw[zX];exact hcs
  have hcell1:∀ j v,xs[j]? = some v->w.cell? ⟨g,j,none⟩=some v:=λj v hj=>by
   unfold World.cell?
   rw[hg]
   rw[<- hct,yF] at hj
   split at hj
   ·simpa using hj
   ·cases hj
  have hc63:cap<=9223372036854775807:=by unfold maxLen at hcm;exact hcm
  have hsome:∀ j,j<cap*1->(w.cell? ⟨g,j,none⟩).isSome=true:=λj hj=>by
   unfold World.cell?
   rw[hg]
   show(cur[j]?).isSome=true
   rw[zR (by omega)];rfl
  have hfrz:∀ j,w.frozen? ⟨g,j,none⟩=false:=λj=>by
   unfold World.frozen?
   rw[hg]
   show(decide (0<=j)&&decide (j<0))=false
   rw[decide_eq_false (zW j),jF]
  have hfrz2:∀ j,w.frozen? ⟨vb,j,none⟩=false:=λj=>by
   unfold World.frozen?
   rw[hg2]
   show(decide (0<=j)&&decide (j<0))=false
   rw[decide_eq_false (zW j),jF]
  have hvb:vb≠g:=λe=>hne (by rw[e];rfl)
  rcases Nat.lt_or_eq_of_le hi with hlt|rfl
  ·rcases zU cap (n+1) with hroom|hroom
   ·refine(Af5 g n cap i vb vc xs ys w i0 hi0 hz0 hs0 hlt hnc hroom (by omega) (by rw[hb0];omega) (hfitG hroom) hxl hyl hcell1 hcell hx1 hy1).mono ?_
    rintro e w' ⟨rfl,rfl⟩
    have hge:=hgge cap
    have htl:(xs.take (i*1)).length=i*1:=by rw[zN];omega
    have:=Ui (E:=56) (sz:=1) (w:=w) (row:=(xs.take (i*1)).toArray++Builtin.zeroCells (Value.cells (.slice none 0 0)) (n+1-i)++Builtin.zeroCells (Value.cells (.slice none 0 0)) (grownCap w (n+1) cap 56-(n+1))) (xs:=xs.take (i*1)) (vs:=ys) (D:=xs.drop (i*1)) hlt hge (hg63 cap)
     (by rw[yY,yY,hzc,hzc,yE,htl];omega) hyl (by rw[yB,hxl];omega)
     (by rw[xR,xR,xA,xM,wK htl])
    refine⟨_,w.heap.size,R,?_,.inr (zO _)⟩
    first|exact this|simpa only [k9] using this
   ·refine(Adn g n cap i vb vc xs ys w hsz' hlt hroom hc63 hvb hxl hyl hcell1 (λj hj=>hsome j (by omega)) (λj _=>hfrz j) hcell hx1 hy1 56 56 cur2.size cur.size (by unfold World.shape?;rw[hg2]) (by unfold World.shape?;rw[hg]) (by omega) (hfrz2 _) (hfrz2 _)).mono ?_
    rintro e w' ⟨rfl,rfl⟩
    have:=Sw (E:=56) (sz:=1) (b:=g) (vs:=ys) hg hlt hroom hcm hcs hyl
    rw[hct] at this
    refine⟨_,g,R,?_,.inl R⟩
    first|exact this|simpa only [k9] using this
  ·have hxe:xs.take (i*1)++ys++xs.drop (i*1)=xs++ys:=by
    rw[yO (by omega),w7 (by omega),xG]
   rw[hxe]
   rcases zU cap (i+1) with hroom|hroom
   ·refine(Adz g i cap vb vc xs ys w i0 hi0 hz0 hs0 hnc hroom (by omega) (hfitG hroom) hxl hyl hcell1 hcell hy1).mono ?_
    rintro e w' ⟨rfl,rfl⟩
    have hge:=hgge cap
    refine⟨_,w.heap.size,R,N0 hge (hg63 cap) ?_ ?_,.inr (zO _)⟩
    ·rw[yY,hzc,yE,zH,hxl,hyl];omega
    ·rw[xR,xA,wK (by rw[zH,hxl,hyl];omega)]
   ·refine(Aix g i cap vb vc ys w i0 hi0 hs0 hroom hc63 hyl (λj hj=>hsome _ (by omega)) (λj _=>hfrz _) hcell hy1).mono ?_
    rintro e w' ⟨rfl,rfl⟩
    have:=V6 (E:=56) (sz:=1) (n:=i) (b:=g) (vs:=ys) hg hroom hcm hcs hyl
    rw[hct] at this
    exact⟨_,g,R,this,.inl R⟩
end
def Re (a0:List (List UInt8)) (a1:Int) (a2:List (List UInt8)):Option (List (List UInt8)):=An9 24 a0 a1 a2
theorem U5 {a0:List (List UInt8)} {a1:Int} {a2 r:List (List UInt8)} (h:Re a0 a1 a2=some r):Cv Qx0 255 [.arr 56 1 0 (a0.flatMap (eL eU8)),.arr 56 1 0 (a2.flatMap (eL eU8))] [.one (.ls 0 a0.length),.one (Ii6 a1),.one (.ls 1 a2.length)] (λy m'=>y=L7 (.ls 0 r.length)/\m'=[.arr 56 1 0 (r.flatMap (eL eU8)),.dead]) :=
 Amb (f:=(eL eU8)) (λ_=>rfl) Aot h
section
open Go.Lib
set_option maxHeartbeats 4000000 in
theorem Ajr (b n c vb vc:Nat) (vs:List Value) (w:World) (i0:TypeInfo) (hi0:Tryz.prog.info? 134=some i0) (hs0:i0.size=1) (hroom:n+1<=c) (hc63:c<=9223372036854775807)
  (hvl:vs.length=1) (hsp:∀ j,j<1->(w.cell? ⟨b,n*1+j,none⟩).isSome=true) (hfz:∀ j,j<1->w.frozen? ⟨b,n*1+j,none⟩=false)
  (hvs:∀ j v,vs[j]? = some v->w.cell? ⟨vb,j,none⟩=some v) (h1v:∀ v∈vs,v.oneCell'=true) :
  Calls Tryz.prog 256 #[.slice (some ⟨b,0,none⟩) n c,.int .i64 n,.slice (some ⟨vb,0,none⟩) 1 vc] w λe w' =>
   e=.returned (.slice (some ⟨b,0,none⟩) (n+1) c)/\w'=w.setCells b (n*1) vs:=by
 have hsrc:_root_.Go.Src Tryz.prog i0.size 26 (.slice (some ⟨vb,0,none⟩) 1 vc) 1 vs w:=by
  rw[hs0]
  exact _root_.Go.Src.ofSlice w Tryz.underlying26 ⟨vb,0,none⟩ 1 vc vs (by omega) (λj u hj=>by rw[Addr.add_lit,yK];exact hvs j u hj) h1v
 go_enter Tryz.func256,Tryz.ntmps256
 go_wp2_with (at_builtin;refine wpList_append_room_src _ rfl _ _ 26 26 rfl 134 i0 Tryz.underlying26 hi0 b 0 n c rfl _ rfl 1 vs hsrc hroom (by rw[hvl,hs0,yK];exact hsp) (by rw[hvl,hs0,yK];exact hfz) ?_)
 go_ret
 refine⟨R,?_⟩
 first|rfl|(simp;done)|(simp [hs0];done)
set_option maxHeartbeats 4000000 in
theorem Ado (b n c vb vc:Nat) (cs vs:List Value) (w:World) (i0:TypeInfo) (hi0:Tryz.prog.info? 134=some i0) (hz0:i0.zero=some (.agg #[.slice none 0 0])) (hs0:i0.size=1) (hnc:n<=c) (hroom:c<n+1) (hn63:n+1<=9223372036854775807)
  (hfit:Builtin.nextslicecap (n+1) c*i0.bytes<=281474976710656) (hcl:cs.length=n*1) (hvl:vs.length=1)
  (hcs:∀ j v,cs[j]? = some v->w.cell? ⟨b,j,none⟩=some v) (hvs:∀ j v,vs[j]? = some v->w.cell? ⟨vb,j,none⟩=some v) (h1v:∀ v∈vs,v.oneCell'=true) :
  Calls Tryz.prog 256 #[.slice (some ⟨b,0,none⟩) n c,.int .i64 n,.slice (some ⟨vb,0,none⟩) 1 vc] w λe w' =>
   e=.returned (.slice (some ⟨w.heap.size,0,none⟩) (n+1) (grownCap w (n+1) c 134)) /\
   w'=w.drew.alloc (.cells ((cs++vs).toArray++Builtin.zeroCells (Value.cells (.agg #[.slice none 0 0])) (grownCap w (n+1) c 134-(n+1))) 134):=by
 have hsrc:_root_.Go.Src Tryz.prog i0.size 26 (.slice (some ⟨vb,0,none⟩) 1 vc) 1 vs w:=by
  rw[hs0]
  exact _root_.Go.Src.ofSlice w Tryz.underlying26 ⟨vb,0,none⟩ 1 vc vs (by omega) (λj u hj=>by rw[Addr.add_lit,yK];exact hvs j u hj) h1v
 have hold:(Builtin.firstCells i0.size n (.slice (some ⟨b,0,none⟩) n c)).run Tryz.prog w.drew=.ok cs.toArray w.drew:=by
  rw[hs0]
  exact run_firstCells_some w.drew 1 n ⟨b,0,none⟩ n c cs (by omega) (λj v hj=>by rw[Addr.add_lit,yK];exact hcs j v hj)
 have hrun:∀ ty,(Builtin.append_ #[26,26] ty #[.slice (some ⟨b,0,none⟩) n c,.slice (some ⟨vb,0,none⟩) 1 vc]).run Tryz.prog w=.ok (.slice (some ⟨w.heap.size,0,none⟩) (n+1) (grownCap w (n+1) c 134)) (w.drew.alloc (.cells ((cs++vs).toArray++Builtin.zeroCells (Value.cells (.agg #[.slice none 0 0])) (grownCap w (n+1) c 134-(n+1))) 134)):=λty =>
  run_append_grow_src w 26 26 ty 134 i0 _ Tryz.underlying26 hi0 hz0 (some ⟨b,0,none⟩) n c cs hold _ 1 vs hsrc hroom (by omega) hfit
 go_enter Tryz.func256,Tryz.ntmps256
 go_wp2_with (at_builtin;refine Lib.wpList_append_run _ rfl _ _ _ _ rfl _ _ rfl rfl _ _ (hrun _) ?_)
 all_goals (go_ret;first|exact⟨rfl,rfl⟩|exact⟨rfl,by simp [Value.cells]⟩)
set_option maxHeartbeats 4000000 in
theorem Ade (b n c i vb vc:Nat) (cs vs:List Value) (w:World) (hs0:(Tryz.prog.info? 134).map (·.size)=some 1) (hi:i<n) (hroom:n+1<=c) (hc63:c<=9223372036854775807) (hvb:vb≠b)
  (hcl:cs.length=n*1) (hvl:vs.length=1)
  (hcs:∀ j v,cs[j]? = some v->w.cell? ⟨b,j,none⟩=some v) (hsp:∀ j,j<(n+1)*1->(w.cell? ⟨b,j,none⟩).isSome=true) (hfz:∀ j,j<(n+1)*1->w.frozen? ⟨b,j,none⟩=false)
  (hvs:∀ j v,vs[j]? = some v->w.cell? ⟨vb,j,none⟩=some v) (h1c:∀ v∈cs,v.oneCell'=true) (h1v:∀ v∈vs,v.oneCell'=true)
  (tA tB:TypeId) (kA kB:Nat) (hsa:w.shape? vb=some (tA,kA)) (hsb:w.shape? b=some (tB,kB)) (hkB:kB≠0) (hfa:w.frozen? ⟨vb,0,none⟩=false) (hfe:w.frozen? ⟨vb,kA,none⟩=false) :
  Calls Tryz.prog 256 #[.slice (some ⟨b,0,none⟩) n c,.int .i64 i,.slice (some ⟨vb,0,none⟩) 1 vc] w λe w' =>
   e=.returned (.slice (some ⟨b,0,none⟩) (n+1) c)/\w'=(w.drew.setCells b (i+1) (cs.drop (i))).setCells b (i) vs:=by
 have hz2:¬ ((i:Int)=(n:Int)):=by omega
 have hz3:¬ ((c:Int)<(n:Int)+1):=by omega
 have mixed:Tryz.prog.follows .mixedOrders=true:=by kernel_rfl
 have hov:∀ lb cb,(callFunc 273 #[.slice (some ⟨vb,0,none⟩) 1 vc,.slice (some ⟨b,i+1,none⟩) lb cb]).run Tryz.prog w=.ok (.value (.bool false)) w:=λlb cb=>by
  rw[run_callFunc_extern Tryz.func273 (by kernel_rfl) (by kernel_rfl) (by kernel_rfl) (e:=Extern.SlicesOverlaps.overlaps #[26,26] #[4]) (by kernel_rfl),
   Lib.run_overlaps_apart w 26 4 134 Tryz.underlying26 1 (λw=>Ci hs0 w) ⟨vb,0,none⟩ ⟨b,i+1,none⟩ 1 vc lb cb hvb tA tB kA kB hsa hsb hkB hfa hfe]
  rfl
 have hdl:(cs.drop (i)).length=(n-i)*1:=by rw[yB,hcl];omega
 have hw1:IntKind.i64.wrap ((i:Int)+1)=(i:Int)+1:=by rw[IntKind.wrap_i64];omega
 have hb1:(0:Int)<=(i:Int)+1:=by omega
 have hin:i<=n:=by omega
 have htn:((i:Int)+1).toNat=i+1:=by omega
 have hb2:¬ (c=i+1):=by omega
 have hb3:(i:Int)<=(n:Int)+1:=by omega
 have hb4:¬ (c=i):=by omega
 have hcp1:∀ ty dc sc,(Builtin.copy_ #[26,26] ty #[.slice (some ⟨b,i+1,none⟩) (n-i) dc,.slice (some ⟨b,i,none⟩) (n+1-i) sc]).run Tryz.prog w.drew=.ok (goInt (n-i:Nat)) (w.drew.setCells b (i+1) (cs.drop (i))):=λty dc sc =>
  Gl w.drew _ _ ty 134 b (i+1) (n-i) dc ⟨b,i,none⟩ (n+1-i) sc 1 (n-i) (cs.drop (i)) Tryz.underlying26 hs0 (by simp only[kR];split <;> omega) hdl
   (λj v hj=>by rw[Addr.add_lit];exact hcs (i+j) v (by rwa [yH] at hj))
   (λj hj=>hsp _ (by rw[hdl] at hj;omega)) (λj hj=>hfz _ (by rw[hdl] at hj;omega)) (λv hv=>h1c v (kE hv))
 obtain⟨W1,hW1⟩:∃ W1,W1=w.drew.setCells b (i+1) (cs.drop (i)):=⟨_,rfl⟩
 have hsp1:∀ k,k<(n+1)*1->(W1.cell? ⟨b,k,none⟩).isSome=true:=λk hk=>by
  rw[hW1]
  exact isSome_setCells b (cs.drop (i)) (i+1) w.drew (λj hj=>hsp _ (by rw[hdl] at hj;omega)) _ (hsp k hk)
 have hcp2:∀ (W:World),(∀ x,W.cell? x=W1.cell? x)->(∀ x,W.frozen? x=W1.frozen? x)->∀ ty dc,(Builtin.copy_ #[26,26] ty #[.slice (some ⟨b,i,none⟩) (n+1-i) dc,.slice (some ⟨vb,0,none⟩) 1 vc]).run Tryz.prog W=.ok (goInt (1:Nat)) (W.setCells b (i) vs):=λW hWc hWf ty dc =>
  Gl W _ _ ty 134 b (i) (n+1-i) dc ⟨vb,0,none⟩ 1 vc 1 1 vs Tryz.underlying26 hs0 (by simp only[kR];split <;> omega) (by omega)
   (λj v hj=>by
    rw[Addr.add_lit,hWc,hW1,yK,World.cell?_setCells_out b _ _ _ _ (λh _=>absurd h hvb)]
    exact hvs j v hj)
   (λj hj=>by rw[hWc];exact hsp1 _ (by omega)) (λj hj=>by rw[hWf,hW1,World.frozen?_setCells];exact hfz _ (by omega)) h1v
 rw[<- hW1] at hcp1
 go_enter Tryz.func256,Tryz.ntmps256
 go_wp2_with (simp only[hov])
 go_region_law_o (refine step_copy_runI rfl _ _ 26 26 rfl _ _ (by simp [Act.eval,Act.put]) (by simp [Act.eval,Act.put]) (hcp1 _ _ _) ?_)
 go_wp2_with (at_builtin;refine wpList_copy_runI _ rfl _ _ 26 26 rfl _ _ rfl rfl (hcp2 _ (λ_=>rfl) (λ_=>rfl) _ _) ?_)
 go_ret
 first|exact⟨rfl,rfl⟩|exact⟨rfl,by rw[hW1]⟩
set_option maxHeartbeats 4000000 in
theorem Afq (b n c i vb vc:Nat) (cs vs:List Value) (w:World) (i0:TypeInfo) (hi0:Tryz.prog.info? 134=some i0) (hz0:i0.zero=some (.agg #[.slice none 0 0])) (hs0:i0.size=1) (hi:i<n) (hnc:n<=c) (hroom:c<n+1) (hn63:n+1<=4611686018427387904)
  (hb48:(n+1)*i0.bytes<=281474976710656) (hfit:Builtin.nextslicecap (n+1) c*i0.bytes<=281474976710656) (hcl:cs.length=n*1) (hvl:vs.length=1)
  (hcs:∀ j v,cs[j]? = some v->w.cell? ⟨b,j,none⟩=some v) (hvs:∀ j v,vs[j]? = some v->w.cell? ⟨vb,j,none⟩=some v) (h1c:∀ v∈cs,v.oneCell'=true) (h1v:∀ v∈vs,v.oneCell'=true) :
  Calls Tryz.prog 256 #[.slice (some ⟨b,0,none⟩) n c,.int .i64 i,.slice (some ⟨vb,0,none⟩) 1 vc] w λe w' =>
   e=.returned (.slice (some ⟨w.heap.size,0,none⟩) (n+1) (grownCap w (n+1) c 134)) /\
   w'=(((w.alloc (.cells ((cs.take (i)).toArray++Builtin.zeroCells (Value.cells (.agg #[.slice none 0 0])) (n+1-i)++Builtin.zeroCells (Value.cells (.agg #[.slice none 0 0])) (grownCap w (n+1) c 134-(n+1))) 134)).drew.setCells w.heap.size (i) vs).drew).setCells w.heap.size (i+1) (cs.drop (i)):=by
 have mixed:Tryz.prog.follows .mixedOrders=true:=by kernel_rfl
 have hz2:¬ ((i:Int)=(n:Int)):=by omega
 have hz3:(c:Int)<(n:Int)+1:=by omega
 have hsz:(Tryz.prog.info? 134).map (·.size)=some 1:=by rw[hi0];simp [hs0]
 have hbw:b<w.heap.size:=block_lt_of_cell (hcs 0 _ (zC (by omega)))
 have hvw:vb<w.heap.size:=block_lt_of_cell (hvs 0 _ (zC (by omega)))
 have hkk:(n:Int)+1-(i:Int)=((n+1-i:Nat):Int):=by omega
 have hik:i+(n+1-i)=n+1:=by omega
 have htl:(cs.take (i)).length=i*1:=by rw[zN];omega
 have hold:(Builtin.firstCells i0.size i (.slice (some ⟨b,0,none⟩) i c)).run Tryz.prog w.drew=.ok (cs.take (i)).toArray w.drew:=by
  rw[hs0]
  exact run_firstCells_some w.drew 1 i ⟨b,0,none⟩ i c (cs.take (i)) htl (λj v hj=>by
   rw[Addr.add_lit,yK]
   rw[yF] at hj
   split at hj
   ·exact hcs j v hj
   ·cases hj)
 have hrz:∀ ty,(Builtin.append_ #[26,3] ty #[.slice (some ⟨b,0,none⟩) i c,.int .i64 ((n:Int)+1-(i:Int))]).run Tryz.prog w =
   .ok (.slice (some ⟨w.heap.size,0,none⟩) (n+1) (grownCap w (n+1) c 134)) (w.drew.alloc (.cells ((cs.take (i)).toArray++Builtin.zeroCells (Value.cells (.agg #[.slice none 0 0])) (n+1-i)++Builtin.zeroCells (Value.cells (.agg #[.slice none 0 0])) (grownCap w (n+1) c 134-(n+1))) 134)):=λty=>by
  have h:=Lib.run_append_grow_zeros w 26 3 ty 134 i0 _ .i64 .i64 Tryz.underlying26 Tryz.underlying3 hi0 hz0 (some ⟨b,0,none⟩) i c (cs.take (i)) hold (n+1-i) (by omega) (by omega) (by omega) (by omega) (yP (yZ _ (by omega)) hb48) (by rw[hik];exact hfit)
  rw[hik] at h
  rw[hkk]
  exact h
 obtain⟨G,hG⟩:∃ G,G=grownCap w (n+1) c 134:=⟨_,rfl⟩
 obtain⟨ROW,hROW⟩:∃ ROW:Array Value,ROW=(cs.take (i)).toArray++Builtin.zeroCells (Value.cells (.agg #[.slice none 0 0])) (n+1-i)++Builtin.zeroCells (Value.cells (.agg #[.slice none 0 0])) (G-(n+1)):=⟨_,rfl⟩
 rw[<- hG] at hrz ⊢
 rw[<- hROW] at hrz ⊢
 have hzc:∀ k,(Builtin.zeroCells (Value.cells (.agg #[.slice none 0 0])) k).size=k*1:=λk=>by simp [Builtin.zeroCells,Value.cells]
 have hRl:(n+1)*1<=ROW.size:=by
  rw[hROW,yY,yY,hzc,hzc,yE,htl]
  omega
 obtain⟨W1,hW1⟩:∃ W1,W1=w.drew.alloc (.cells ROW 134):=⟨_,rfl⟩
 rw[<- hW1] at hrz
 have hN:∀ j,j<(n+1)*1->(W1.cell? ⟨w.heap.size,j,none⟩).isSome=true:=λj hj=>by
  rw[hW1,World.cell?_alloc_at (w:=w.drew) ROW _ w.heap.size j rfl,zR (by omega)];rfl
 have hNf:∀ j,W1.frozen? ⟨w.heap.size,j,none⟩=false:=λj=>by rw[hW1];exact World.frozen?_alloc_at (w:=w.drew) ROW _ w.heap.size j rfl
 have hOb:∀ j v,w.cell? ⟨b,j,none⟩=some v->W1.cell? ⟨b,j,none⟩=some v:=λj v h=>by rw[hW1,World.cell?_alloc_past (w:=w.drew) _ b j hbw];exact h
 have hOv:∀ j v,w.cell? ⟨vb,j,none⟩=some v->W1.cell? ⟨vb,j,none⟩=some v:=λj v h=>by rw[hW1,World.cell?_alloc_past (w:=w.drew) _ vb j hvw];exact h
 have hcpA:∀ (W:World),(∀ x,W.cell? x=W1.cell? x)->(∀ x,W.frozen? x=W1.frozen? x)->∀ ty dc,(Builtin.copy_ #[26,26] ty #[.slice (some ⟨w.heap.size,i,none⟩) (n+1-i) dc,.slice (some ⟨vb,0,none⟩) 1 vc]).run Tryz.prog W=.ok (goInt (1:Nat)) (W.setCells w.heap.size (i) vs):=λW hWc hWf ty dc =>
  Gl W _ _ ty 134 w.heap.size (i) (n+1-i) dc ⟨vb,0,none⟩ 1 vc 1 1 vs Tryz.underlying26 hsz (by simp only[kR];split <;> omega) (by omega)
   (λj v hj=>by rw[Addr.add_lit,hWc,yK];exact hOv _ v (hvs j v hj))
   (λj hj=>by rw[hWc];exact hN _ (by omega)) (λj hj=>by rw[hWf];exact hNf _) h1v
 have hGn:n+1<=G:=by rw[hG];exact grownCap_ge w _ _ _
 have hG63:G<=9223372036854775807:=by
  have:=grownCap_le_maxLen w (n+1) c 134 (by unfold maxLen;omega)
  rw[<- hG] at this
  unfold maxLen at this
  omega
 have hGi:¬ (G=i):=by omega
 have hGim:¬ (G=i+1):=by omega
 have hci:¬ (c=i):=by omega
 have hbN:b≠w.heap.size:=by omega
 have hdl:(cs.drop (i)).length=(n-i)*1:=by rw[yB,hcl];omega
 have hcpB:∀ (W:World),(∀ x,W.cell? x=(W1.setCells w.heap.size (i) vs).cell? x)->(∀ x,W.frozen? x=(W1.setCells w.heap.size (i) vs).frozen? x)->∀ ty dc sc,(Builtin.copy_ #[26,26] ty #[.slice (some ⟨w.heap.size,i+1,none⟩) (n-i) dc,.slice (some ⟨b,i,none⟩) (n-i) sc]).run Tryz.prog W=.ok (goInt (n-i:Nat)) (W.setCells w.heap.size (i+1) (cs.drop (i))):=λW hWc hWf ty dc sc =>
  Gl W _ _ ty 134 w.heap.size (i+1) (n-i) dc ⟨b,i,none⟩ (n-i) sc 1 (n-i) (cs.drop (i)) Tryz.underlying26 hsz (by simp only[kR];split <;> omega) hdl
   (λj v hj=>by
    rw[Addr.add_lit,hWc,World.cell?_setCells_out _ _ _ _ _ (λh _=>absurd h hbN)]
    exact hOb _ v (hcs (i+j) v (by rwa [yH] at hj)))
   (λj hj=>by rw[hWc];exact isSome_setCells w.heap.size vs (i) W1 (λt ht=>hN _ (by omega)) _ (hN _ (by rw[hdl] at hj;omega)))
   (λj hj=>by rw[hWf,World.frozen?_setCells];exact hNf _) (λv hv=>h1c v (kE hv))
 subst hW1
 have hE1:∀ x,((w.alloc (.cells ROW 134)).drew).cell? x=(w.drew.alloc (.cells ROW 134)).cell? x:=λx=>rfl
 have hE2:∀ x,((w.alloc (.cells ROW 134)).drew).frozen? x=(w.drew.alloc (.cells ROW 134)).frozen? x:=λx=>rfl
 have hF1:∀ x,(((w.alloc (.cells ROW 134)).drew.setCells w.heap.size (i) vs).drew).cell? x=((w.drew.alloc (.cells ROW 134)).setCells w.heap.size (i) vs).cell? x:=λx=>rfl
 have hF2:∀ x,(((w.alloc (.cells ROW 134)).drew.setCells w.heap.size (i) vs).drew).frozen? x=((w.drew.alloc (.cells ROW 134)).setCells w.heap.size (i) vs).frozen? x:=λx=>rfl
 have hw1:IntKind.i64.wrap ((i:Int)+1)=(i:Int)+1:=by rw[IntKind.wrap_i64];omega
 have hb1:(0:Int)<=(i:Int)+1:=by omega
 have hin:i<=n:=by omega
 have htn:((i:Int)+1).toNat=i+1:=by omega
 have hb3:(i:Int)<=(n:Int):=by omega
 clear hkk hik hold hROW hG hRl htl hzc
 go_enter Tryz.func256,Tryz.ntmps256
 go_wp2_with (first
  | (at_builtin;refine Lib.wpList_append_run _ rfl _ _ _ _ rfl _ _ rfl rfl _ _ (hrz _) ?_)
  | (at_builtin;refine wpList_copy_runI _ rfl _ _ 26 26 rfl _ _ rfl rfl (hcpA _ hE1 hE2 _ _) ?_)
  | (at_builtin;refine wpList_copy_runI _ rfl _ _ 26 26 rfl _ _ rfl rfl (hcpB _ (λ_=>rfl) (λ_=>rfl) _ _ _) ?_))
 go_region_law_o (refine step_copy_runI rfl _ _ 26 26 rfl (.slice (some ⟨w.heap.size,i+1,none⟩) (n-i) (G-(i+1))) (.slice (some ⟨b,i,none⟩) (n-i) (c-i)) (by simp [Act.eval,Act.put]) (by simp [Act.eval,Act.put]) (hcpB _ hF1 hF2 3 (G-(i+1)) (c-i)) ?_)
 go_wp2
 go_ret
 exact⟨R,R⟩
set_option maxHeartbeats 4000000 in
theorem Ajt (vb vc:Nat) (vs:List Value) (w:World) (i0:TypeInfo) (hi0:Tryz.prog.info? 134=some i0) (hz0:i0.zero=some (.agg #[.slice none 0 0])) (hs0:i0.size=1)
  (hfit:Builtin.nextslicecap (0+1) 0*i0.bytes<=281474976710656) (hvl:vs.length=1)
  (hvs:∀ j v,vs[j]? = some v->w.cell? ⟨vb,j,none⟩=some v) (h1v:∀ v∈vs,v.oneCell'=true) :
  Calls Tryz.prog 256 #[.slice none 0 0,.int .i64 ((0:Nat):Int),.slice (some ⟨vb,0,none⟩) 1 vc] w λe w' =>
   e=.returned (.slice (some ⟨w.heap.size,0,none⟩) (0+1) (grownCap w (0+1) 0 134)) /\
   w'=w.drew.alloc (.cells (([]++vs).toArray++Builtin.zeroCells (Value.cells (.agg #[.slice none 0 0])) (grownCap w (0+1) 0 134-(0+1))) 134):=by
 have hsrc:_root_.Go.Src Tryz.prog i0.size 26 (.slice (some ⟨vb,0,none⟩) 1 vc) 1 vs w:=by
  rw[hs0]
  exact _root_.Go.Src.ofSlice w Tryz.underlying26 ⟨vb,0,none⟩ 1 vc vs (by omega) (λj u hj=>by rw[Addr.add_lit,yK];exact hvs j u hj) h1v
 have hold:(Builtin.firstCells i0.size 0 (.slice none 0 0)).run Tryz.prog w.drew=.ok ([]:List Value).toArray w.drew:=by
  rw[hs0]
  exact run_firstCells_none w.drew 1 0 0 0
 have hrun:∀ ty,(Builtin.append_ #[26,26] ty #[.slice none 0 0,.slice (some ⟨vb,0,none⟩) 1 vc]).run Tryz.prog w=.ok (.slice (some ⟨w.heap.size,0,none⟩) (0+1) (grownCap w (0+1) 0 134)) (w.drew.alloc (.cells (([]++vs).toArray++Builtin.zeroCells (Value.cells (.agg #[.slice none 0 0])) (grownCap w (0+1) 0 134-(0+1))) 134)):=λty =>
  run_append_grow_src w 26 26 ty 134 i0 _ Tryz.underlying26 hi0 hz0 none 0 0 [] hold _ 1 vs hsrc (by omega) (by omega) hfit
 go_enter Tryz.func256,Tryz.ntmps256
 go_wp2_with (at_builtin;refine Lib.wpList_append_run _ rfl _ _ _ _ rfl _ _ rfl rfl _ _ (hrun _) ?_)
 all_goals (go_ret;first|exact⟨rfl,rfl⟩|exact⟨rfl,by simp [Value.cells]⟩)
theorem Agh:(Tryz.prog.info? 134).map (λi=>(i.zero,i.size,i.bytes))=some (some (.agg #[.slice none 0 0]),1,24):=by kernel_rfl
theorem Ap9 {cs vs:List Lf} {n i:Nat} (hcl:cs.length=n*1) (hvl:vs.length=1) (hi:i<=n) (hn:(n+1)*24<=140737488355328) :
  Cv Qx0 256 [.arr 134 1 0 cs,.arr 134 1 0 vs] [.one (.ls 0 n),.one (Ii6 (i:Int)),.one (.ls 1 1)] (λy m'=>y=L7 (.ls 0 (n+1))/\m'=[.arr 134 1 0 (cs.take (i*1)++vs++cs.drop (i*1)),.dead]):=by
 refine Yc (by decide) hcl hvl (λw v1 vb vc cur2 xs ys hown hg2 hcell hyl hne hx1 hy1=>?_)
 obtain⟨i0,hi0,hz0,hs0,hb0⟩:=info_parts Agh
 have hxl:=hown.1
 have hfitG:∀ {old},old<n+1->Builtin.nextslicecap (n+1) old*i0.bytes<=281474976710656:=λh=>growslice_fits h (by rw[hb0];exact hn)
 have hsz':(Tryz.prog.info? 134).map (·.size)=some 1:=by rw[hi0];simp [hs0]
 have hzc:∀ k,(Builtin.zeroCells (Value.cells (.agg #[.slice none 0 0])) k).size=k*1:=λk=>by simp [Builtin.zeroCells,Value.cells]
 have hg63:∀ c,grownCap w (n+1) c 134<=maxLen:=λc=>grownCap_le_maxLen w (n+1) c 134 (by unfold maxLen;omega)
 have hgge:∀ c,n+1<=grownCap w (n+1) c 134:=λc=>grownCap_ge w _ _ _
 rcases hown.2 with⟨rfl,h0⟩|⟨g,cap,cur,rfl,_,hg,hnc,hcm,hcs,hct⟩
 ·subst h0
  have hi0':i=0:=by omega
  subst hi0'
  have hx0:xs=[]:=j8.1 (hxl.trans (kG _))
  subst hx0
  refine(Ajt vb vc ys w i0 hi0 hz0 hs0 (hfitG (by omega)) hyl hcell hy1).mono ?_
  rintro e w' ⟨rfl,rfl⟩
  refine⟨_,w.heap.size,R,N0 (hgge 0) (hg63 0) ?_ ?_,.inr (zO _)⟩
  ·have:=hgge 0
   rw[yY,hzc,yE,wZ,hyl];omega
  ·rw[xR,xA,wK (by rw[wZ,hyl])]
   simp
 ·have hcur:cur.toList.length=cap*1:=by rw[zX];exact hcs
  have hcell1:∀ j v,xs[j]? = some v->w.cell? ⟨g,j,none⟩=some v:=λj v hj=>by
   unfold World.cell?
   rw[hg]
   rw[<- hct,yF] at hj
   split at hj
   ·simpa using hj
   ·cases hj
  have hc63:cap<=9223372036854775807:=by unfold maxLen at hcm;exact hcm
  have hsome:∀ j,j<cap*1->(w.cell? ⟨g,j,none⟩).isSome=true:=λj hj=>by
   unfold World.cell?
   rw[hg]
   show(cur[j]?).isSome=true
   rw[zR (by omega)];rfl
  have hfrz:∀ j,w.frozen? ⟨g,j,none⟩=false:=λj=>by
   unfold World.frozen?
   rw[hg]
   show(decide (0<=j)&&decide (j<0))=false
   rw[decide_eq_false (zW j),jF]
  have hfrz2:∀ j,w.frozen? ⟨vb,j,none⟩=false:=λj=>by
   unfold World.frozen?
   rw[hg2]
   show(decide (0<=j)&&decide (j<0))=false
   rw[decide_eq_false (zW j),jF]
  have hvb:vb≠g:=λe=>hne (by rw[e];rfl)
  rcases Nat.lt_or_eq_of_le hi with hlt|rfl
  ·rcases zU cap (n+1) with hroom|hroom
   ·refine(Afq g n cap i vb vc xs ys w i0 hi0 hz0 hs0 hlt hnc hroom (by omega) (by rw[hb0];omega) (hfitG hroom) hxl hyl hcell1 hcell hx1 hy1).mono ?_
    rintro e w' ⟨rfl,rfl⟩
    have hge:=hgge cap
    have htl:(xs.take (i*1)).length=i*1:=by rw[zN];omega
    have:=Ui (E:=134) (sz:=1) (w:=w) (row:=(xs.take (i*1)).toArray++Builtin.zeroCells (Value.cells (.agg #[.slice none 0 0])) (n+1-i)++Builtin.zeroCells (Value.cells (.agg #[.slice none 0 0])) (grownCap w (n+1) cap 134-(n+1))) (xs:=xs.take (i*1)) (vs:=ys) (D:=xs.drop (i*1)) hlt hge (hg63 cap)
     (by rw[yY,yY,hzc,hzc,yE,htl];omega) hyl (by rw[yB,hxl];omega)
     (by rw[xR,xR,xA,xM,wK htl])
    refine⟨_,w.heap.size,R,?_,.inr (zO _)⟩
    first|exact this|simpa only [k9] using this
   ·refine(Ade g n cap i vb vc xs ys w hsz' hlt hroom hc63 hvb hxl hyl hcell1 (λj hj=>hsome j (by omega)) (λj _=>hfrz j) hcell hx1 hy1 134 134 cur2.size cur.size (by unfold World.shape?;rw[hg2]) (by unfold World.shape?;rw[hg]) (by omega) (hfrz2 _) (hfrz2 _)).mono ?_
    rintro e w' ⟨rfl,rfl⟩
    have:=Sw (E:=134) (sz:=1) (b:=g) (vs:=ys) hg hlt hroom hcm hcs hyl
    rw[hct] at this
    refine⟨_,g,R,?_,.inl R⟩
    first|exact this|simpa only [k9] using this
  ·have hxe:xs.take (i*1)++ys++xs.drop (i*1)=xs++ys:=by
    rw[yO (by omega),w7 (by omega),xG]
   rw[hxe]
   rcases zU cap (i+1) with hroom|hroom
   ·refine(Ado g i cap vb vc xs ys w i0 hi0 hz0 hs0 hnc hroom (by omega) (hfitG hroom) hxl hyl hcell1 hcell hy1).mono ?_
    rintro e w' ⟨rfl,rfl⟩
    have hge:=hgge cap
    refine⟨_,w.heap.size,R,N0 hge (hg63 cap) ?_ ?_,.inr (zO _)⟩
    ·rw[yY,hzc,yE,zH,hxl,hyl];omega
    ·rw[xR,xA,wK (by rw[zH,hxl,hyl];omega)]
   ·refine(Ajr g i cap vb vc ys w i0 hi0 hs0 hroom hc63 hyl (λj hj=>hsome _ (by omega)) (λj _=>hfrz _) hcell hy1).mono ?_
    rintro e w' ⟨rfl,rfl⟩
    have:=V6 (E:=134) (sz:=1) (n:=i) (b:=g) (vs:=ys) hg hroom hcm hcs hyl
    rw[hct] at this
    exact⟨_,g,R,this,.inl R⟩
end
def Rr (a0:List Ac) (a1:Int) (a2:List Ac):Option (List Ac):=An9 24 a0 a1 a2
theorem Uy {a0:List Ac} {a1:Int} {a2 r:List Ac} (h:Rr a0 a1 a2=some r):Cv Qx0 256 [.arr 134 1 0 (a0.flatMap Al),.arr 134 1 0 (a2.flatMap Al)] [.one (.ls 0 a0.length),.one (Ii6 a1),.one (.ls 1 a2.length)] (λy m'=>y=L7 (.ls 0 r.length)/\m'=[.arr 134 1 0 (r.flatMap Al),.dead]) :=
 Amb (f:=Al) (λ_=>rfl) Ap9 h
def Ll (a0:Int) (b1:Unit):Option (List Ak) :=
 if (decide (0<(wI (a0-(wI (0-0)))))) then(if 0<(wI (a0-(wI (0-0))))/\(wI (a0-(wI (0-0))))*((40:Nat):Int)<=281474976710656 then(if (0:Int)<=0/\0<=((List.replicate (wI (a0-(wI (0-0)))).toNat (Ak.mk 0 ([]:List UInt8) false)).length:Int) then(some ((List.replicate (wI (a0-(wI (0-0)))).toNat (Ak.mk 0 ([]:List UInt8) false)).take (0:Int).toNat)) else none) else none) else(some ([]:List Ak))
def K7 (a0:Int):Option (List Ak) :=
 if (decide (a0<0)) then none else(Ll a0 ())
theorem V8 {a0:Int} {r:(List Ak)} (h:K7 a0=some r):Cv Qx0 281 [] [.one (Znl),.one (Ii6 a0)] (λy m'=>y=L7 (.ls 0 r.length)/\m'=[.arr 136 3 0 (r.flatMap Av)]):=by
 refine Cs Tryz.func281 R (nt:=27) R (Nbl R) ?_
 intro w0 S0 X0 H0
 refine crs R (Bb (crs R (cj (Unit) (λb1=>[(0,L7 (Znl)),(1,L7 (Ii6 a0))]) (λb1=>[]) (λb1=>Ll a0 b1=some r) fR (λb1 h=>?_) ?_)))
 ·refine Bb (csr (rm 2 R (sv R (E7 Zn R) (rm 1 R (sv R (Ef Zn R) (rsn R (crs R (ccI h R (λh=>?_) (λh=>?_)))))))))
  ·refine Bg (rm 2 R (sv R (E7 Zn R) (sv R (Kw Zn R R) (rx 1 R ?_))))
   obtain⟨hm2,h⟩:=B5 h
   refine Ahq (f:=Av) (z:=(Ak.mk 0 ([]:List UInt8) false)) R Tryz.underlying132 Am3 Tryz.underlying3 fR R R R hm2 (by decide) ?_
   refine rm 1 R (sv R (Ef Zn R) ?_)
   obtain⟨hs3,h⟩:=B5 h
   refine Ab0 (f:=Av) R Zn fR R R R R R hs3 ?_
   refine rsn R (crs R (Bn ?_))
   cases SJ h
   exact⟨Or.inr R,_,[1],[.one (.ls 0 ((List.replicate (wI (a0-(wI (0-0)))).toNat (Ak.mk 0 ([]:List UInt8) false)).take (0:Int).toNat).length)],[.arr 136 3 0 (((List.replicate (wI (a0-(wI (0-0)))).toNat (Ak.mk 0 ([]:List UInt8) false)).take (0:Int).toNat).flatMap Av)],(Au (rt R) A4),R,R,⟨by decide,R⟩,R,R,⟨R,R⟩⟩
  ·refine csn (crs R ?_)
   refine Cq 136 3 4 (by decide) R ?_
   refine Bn ?_
   cases SJ h
   exact⟨Or.inr R,_,[0],[.one (.ls 0 ([]:List Ak).length)],[.arr 136 3 0 (([]:List Ak).flatMap Av)],(Au (rt R) A4),R,R,⟨by decide,R⟩,R,R,⟨R,R⟩⟩
 ·refine ccI h R (λh=>?_) (λh=>?_)
  ·cases h
  ·refine csn ?_
   exact⟨(),_,h,(ml R),R⟩
def Nv (b3:(List Ak)):Option (List Ak) :=
 some b3
def D4 (a0:List (List Ak)) (s4:Int×(List Ak)):Option (LB (Int×(List Ak)) ((List Ak))) :=
 if (decide (s4.1<(a0.length:Int))) then((idx a0 s4.1).bind λu5=>if (s4.2.length+u5.length)*40<=140737488355328 then(some (.cont ((wI (s4.1+1)),(s4.2++u5)))) else none) else(some (.brk s4.2))
def I9 (a0:List (List Ak)) (b1:Int):Option (List Ak) :=
 (K7 b1).bind λv2=>(B8 (D4 a0) fuel (0,v2)).bind λe7=>Nv e7
def D6 (a0:List (List Ak)) (s8:Int×Int):Option (LB (Int×Int) (Int)) :=
 if (decide (s8.2<(a0.length:Int))) then((idx a0 s8.2).bind λu9=>if (decide ((wI (s8.1+(u9.length:Int)))<0)) then none else(some (.cont ((wI (s8.1+(u9.length:Int))),(wI (s8.2+1)))))) else(some (.brk s8.1))
def Ie (a0:List (List Ak)):Option (List Ak) :=
 (B8 (D6 a0) fuel (0,0)).bind λe10=>I9 a0 e10
theorem Ul {a0:List (List Ak)} {r:(List Ak)} (h:Ie a0=some r):Cv Qx0 275 [] [.one (SL a0 (eL Av))] (λy m'=>y=L7 (.ls 0 r.length)/\m'=[.arr 136 3 0 (r.flatMap Av)]):=by
 refine Cs Tryz.func275 R (nt:=36) R (Nbl R) ?_
 intro w0 S0 X0 H0
 refine crs R (crs R (Bb (crs R (cj (Int) (λb1=>[(0,L7 (SL a0 (eL Av))),(3,L7 (Ii6 b1))]) (λb1=>[]) (λb1=>I9 a0 b1=some r) fR (λb1 h=>?_) ?_))))
 ·refine csr (rx 1 R ?_)
  obtain⟨v2,hv2,h⟩:=Aa h
  refine Gi (x':=L7 (.ls 0 v2.length)) (M':=[.arr 136 3 0 (v2.flatMap Av)]) [] R (fk R) (.func _) (Af R (Af R A2)) (V8 hv2) R R (by decide) R R R ?_
  refine rsn R (Bb (crs R (cj ((List Ak)) (λb3=>[(6,L7 (.ls 0 b3.length))]) (λb3=>[.arr 136 3 0 (b3.flatMap Av)]) (λb3=>Nv b3=some r) fR (λb3 h=>?_) ?_)))
  ·refine crs R (Bn ?_)
   obtain rfl:=SJ h
   exact⟨Or.inr R,_,[0],[.one (.ls 0 b3.length)],[.arr 136 3 0 (b3.flatMap Av)],(Au (rt R) A4),R,R,⟨by decide,R⟩,R,R,⟨R,R⟩⟩
  ·refine Bh ?_
   obtain⟨x4,hx4,ho4⟩:=Aa h
   refine lpn (α:=Int×(List Ak)) (λg=>[(6,L7 (.ls 0 g.2.2.length)),(25,L7 (SL a0 (eL Av))),(26,L7 (Ii6 (a0.length:Int))),(27,L7 (Ii6 g.2.1))]) (λg=>[.arr 136 3 0 (g.2.2.flatMap Av)]) (λg=>B8 (D4 a0) g.1 g.2=some x4) (fuel,(0,v2)) hx4 R R fR ?_
   rintro⟨n4,s4⟩ h
   obtain⟨n4,y4,rfl,h,hk4⟩:=Cb h
   refine crs R (Bb (ccI h R (λh=>?_) (λh=>?_)))
   ·refine csn (csb ?_)
    obtain⟨u5,hu5,h⟩:=Aa h
    refine sv R (Bl (f:=(eL Av)) Avc fR R R R R hu5) ?_
    refine rsn R (Bg (rx 2 R ?_))
    obtain⟨hb6,h⟩:=B5 h
    refine Tp (f:=Av) (xs:=s4.2) (us:=u5) R Tryz.underlying132 Am3 Awb fR R R (.one _ _ _ _ (.id _ R)) R R R (.sl _ _ _ (Aq (f:=Av) fR _)) R R hb6 (by decide) ?_
    refine rm 1 R (Fi (A0 (Ag (cgs R ?_))))
    cases SJ h
    exact lx (n4,((wI (s4.1+1)),(s4.2++u5))) hk4 R R
   ·refine cx5 ?_
    cases SJ h
    obtain rfl:_=x4:=hk4
    exact⟨s4.2,_,ho4,(ml R),R⟩
 ·refine Bh ?_
  obtain⟨x8,hx8,ho8⟩:=Aa h
  refine lpn (α:=Int×Int) (λg=>[(0,L7 (SL a0 (eL Av))),(3,L7 (Ii6 g.2.1)),(9,L7 (SL a0 (eL Av))),(10,L7 (Ii6 (a0.length:Int))),(11,L7 (Ii6 g.2.2))]) (λg=>[]) (λg=>B8 (D6 a0) g.1 g.2=some x8) (fuel,(0,0)) hx8 R R fR ?_
  rintro⟨n8,s8⟩ h
  obtain⟨n8,y8,rfl,h,hk8⟩:=Cb h
  refine crs R (Bb (ccI h R (λh=>?_) (λh=>?_)))
  ·refine csn (csb ?_)
   obtain⟨u9,hu9,h⟩:=Aa h
   refine sv R (Bl (f:=(eL Av)) Avc fR R R R R hu9) ?_
   refine rsn R (crs R (crs R (ccI h R (λh=>?_) (λh=>?_))))
   ·cases h
   ·refine cbn (cgs R ?_)
    cases SJ h
    exact lx (n8,((wI (s8.1+(u9.length:Int))),(wI (s8.2+1)))) hk8 R R
  ·refine cx5 ?_
   cases SJ h
   obtain rfl:_=x8:=hk8
   exact⟨s8.1,_,ho8,(ml R),R⟩
def Nk (a0:Ac) (a1:Ak) (b1:Unit):Option (Ac×Int) :=
 (J0 a0).bind λv2=>if (decide (a1.Ts<=v2)) then(some ((Ac.mk ([]:List Ak)),7)) else((Ie [a0.L,[a1]]).bind λv3=>some ((Ac.mk v3),0))
def Mv (a0:Ac) (a1:Ak):Option (Ac×Int) :=
 (Ev (Ac.mk a0.L)).bind λv4=>if (!v4) then(some ((Ac.mk ([]:List Ak)),1)) else((Gq a1).bind λv5=>if (!v5) then(some ((Ac.mk ([]:List Ak)),1)) else(Nk a0 a1 ()))
theorem Yb {a0:Ac} {a1:Ak} {r:Ac×Int} (h:Mv a0 a1=some r):A6 Qx0 257 [.agg [SL a0.L Av],.agg (EL.el a1)] (·=.tup [.agg [SL r.1.L Av],.one (Ii6 r.2)]):=by
 refine An Tryz.func257 R (nt:=28) R (Nbl R) ?_
 intro w0 S0
 refine crs R (Bb (Bb (cj3 (Unit) (λb1=>[(2,L7 (.lp 0 0)),(3,L7 (.lp 1 0)),(4,L7 (.lp 2 0))]) (λb1=>[.box [SL a0.L Av],BE a1,.box [Znl]]) (λb1=>Nk a0 a1 b1=some r) fR (λb1 h=>?_) ?_)))
 ·refine Bb (Bb ?_)
  refine U4 mixed (by kernel_rfl) ?_
  refine dv R (Ah Atd R) (dv R (l1 ti3 R R R) (dv R (lo V3 R R R) ?_))
  obtain⟨v2,hv2,h⟩:=Aa h
  refine dd R (Cf (fk R) (Af R A2) R (Sp hv2)) (dv R (Xr R R) (Vp (Ag (ccI h R (λh=>?_) (λh=>?_)))))
  ·refine crs R (crt ?_)
   cases SJ h
   exact dE R (F1 R) R
  ·refine csn (csr (rx 3 R ?_))
   refine Eg R Tryz.underlying132 Am3 R R (zL.1 R) (by decide) ?_
   refine Pf [.box [SL a0.L Av],BE a1,.box [Znl],.arr 136 3 0 ([a1].flatMap Av)] R ?_
   refine Ahd 24 R (by(repeat' first|exact W6.nil _|apply W6.cons|apply Xk.one|apply Xk.agg|exact Oe.nil|exact Oe.ls _ _ _ _ _ _ R (Aq (f:=Av) fR ([a1]:List Ak)).symm|exact Oe.ls _ _ _ _ _ _ R (Aq (f:=Av) fR _).symm|exact Oe.id _ R|exact Qe.nil _|apply Qe.cons)) ?_
   refine Agi (out:=([a0.L,[a1]]:List (List Ak)).flatMap (eL Av)) R Tryz.underlying408 Axz (Bo R (Bo R Dh)) (.cons _ _ _ _ _ _ _ R R (Nbl R) (.cons _ _ _ _ _ _ _ R R (Nbl R) (.nil _))) R (by decide) ?_
   refine Ahd 25 R (by(repeat' first|exact W6.nil _|apply W6.cons|apply Xk.one|apply Xk.agg|exact Oe.nil|exact Oe.ls _ _ _ _ _ _ R (Aq (f:=(eL Av)) fR ([a0.L,[a1]]:List (List Ak))).symm|exact Oe.ls _ _ _ _ _ _ R (Aq (f:=(eL Av)) fR _).symm|exact Oe.ls _ _ _ _ _ _ R (Aq (f:=Av) fR _).symm|exact Oe.id _ R|exact Qe.nil _|apply Qe.cons)) ?_
   obtain⟨v3,hv3,h⟩:=Aa h
   refine Gi (x':=L7 (.ls 5 v3.length)) (M':=[.box [SL a0.L Av],BE a1,.box [Znl],.arr 136 3 ([a1].flatMap Av).length ([a1].flatMap Av),.arr 132 1 ([a0.L,[a1]].flatMap (eL Av)).length ([a0.L,[a1]].flatMap (eL Av)),.arr 136 3 0 (v3.flatMap Av)]) [] R (fk R) (.func _) (Af R A2) (Ul hv3) R R (by decide) R R R ?_
   refine rsn R (Bn ?_)
   cases SJ h
   refine⟨Or.inr R,_,_,_,(Au (ra V3 R R R) (Au (rt R) A4)),pb,?_⟩
   rfl
 ·refine Bg (rx 1 R ?_)
  obtain⟨v4,hv4,h⟩:=Aa h
  refine scI R R (Ny hv4) (rx 2 R (ssI 9 h R (λh=>?_) (λh=>?_)))
  ·refine rsn R (B1 R (λ_=>?_) (λhx=>Bool.noConfusion hx))
   refine crs R (crt ?_)
   cases SJ h
   exact dE R (F1 R) R
  ·refine rx 1 R (son R R R ?_)
   obtain⟨v5,hv5,h⟩:=Aa h
   refine scI R R (Pp hv5) (rsn R (ccI h R (λh=>?_) (λh=>?_)))
   ·refine crs R (crt ?_)
    cases SJ h
    exact dE R (F1 R) R
   ·refine csn ?_
    exact⟨(),_,h,(ml R),R⟩
def E2 (a2:Int) (a3:Ae) (v1:Int×Bool) (b2:(List (List UInt8))×(List Ac)):Option (Int×(List (List UInt8))×(List Ac)) :=
 (idx b2.2 v1.1).bind λu3=>(Mv u3 (Ak.mk a2 a3.Val a3.Del)).bind λv4=>if (decide (v4.2=0)) then((idx b2.2 v1.1).bind λu5=>some (a2,b2.1,(b2.2.set v1.1.toNat v4.1))) else(some (a2,b2.1,b2.2))
def Nc (a0:List (List UInt8)) (a1:List Ac) (a2:Int) (a3:Ae):Option (Int×(List (List UInt8))×(List Ac)) :=
 (Of a0 a3.Key).bind λv1=>if (!v1.2) then((Re a0 v1.1 [a3.Key]).bind λv6=>(Rr a1 v1.1 [(Ac.mk ([]:List Ak))]).bind λv7=>E2 a2 a3 v1 (v6,v7)) else(E2 a2 a3 v1 (a0,a1))
theorem Xn {a0:List (List UInt8)} {a1:List Ac} {a2:Int} {a3:Ae} {r:Int×(List (List UInt8))×(List Ac)} (h:Nc a0 a1 a2 a3=some r):Cv Qx0 216 [.arr 56 1 0 (a0.flatMap (eL eU8)),.arr 134 1 0 (a1.flatMap Al)] [.agg [.ls 0 a0.length,.ls 1 a1.length,Ii6 a2],.agg (EL.el a3)] (λy m'=>y=.s (.agg [.ls 0 r.2.1.length,.ls 1 r.2.2.length,Ii6 r.1])/\m'=[.arr 56 1 0 (r.2.1.flatMap (eL eU8)),.arr 134 1 0 (r.2.2.flatMap Al)]):=by
 refine Cs Tryz.func216 R (nt:=58) R (Nbl R) ?_
 intro w0 S0 X0 H0
 refine crs R (csr (rx 4 R ?_))
 obtain⟨v1,hv1,h⟩:=Aa h
 refine Gi (x':=.tup [.one (Ii6 v1.1),.one (.b v1.2)]) (M':=[.arr 56 1 0 (a0.flatMap (eL eU8)),.arr 134 1 0 (a1.flatMap Al),.box [.ls 0 a0.length,.ls 1 a1.length,Ii6 a2],BE a3,.box [Znl,Znl,Ii6 0]]) [0] R (fk R) (.func _) (Af R (Af R A2)) (Yx hv1) R R (by decide) R R R ?_
 refine rsn R (Bb (crs R (cj ((List (List UInt8))×(List Ac)) (λb2=>[(2,L7 (.lp 2 0)),(3,L7 (.lp 3 0)),(4,L7 (.lp 4 0)),(5,L7 (Ii6 v1.1))]) (λb2=>[.arr 56 1 0 (b2.1.flatMap (eL eU8)),.arr 134 1 0 (b2.2.flatMap Al),.box [.ls 0 b2.1.length,.ls 1 b2.2.length,Ii6 a2],BE a3,.box [Znl,Znl,Ii6 0]]) (λb2=>E2 a2 a3 v1 b2=some r) fR (λb2 h=>?_) ?_)))
 ·refine Bb (Aa2 ?_)
  obtain⟨u3,hu3,h⟩:=Aa h
  obtain⟨v4,hv4,h⟩:=Aa h
  refine Hs [16,17] [0,1,0,7,15,0,32,0,128,0,512,2016,4095,8191,16383,16383,0,98303,262143] [[.arr 56 1 0 (b2.1.flatMap (eL eU8)),.arr 134 1 0 (b2.2.flatMap Al),.box [.ls 0 b2.1.length,.ls 1 b2.2.length,Ii6 a2],BE a3,.box [Znl,Znl,Ii6 0],.hole],[.arr 56 1 0 (b2.1.flatMap (eL eU8)),.arr 134 1 0 (b2.2.flatMap Al),.box [.ls 0 b2.1.length,.ls 1 b2.2.length,Ii6 a2],BE a3,.box [Znl,Znl,Ii6 0],.box [Znl]],[.arr 56 1 0 (b2.1.flatMap (eL eU8)),.arr 134 1 0 (b2.2.flatMap Al),.box [.ls 0 b2.1.length,.ls 1 b2.2.length,Ii6 a2],BE a3,.box [Znl,Znl,Ii6 0],.box [SL v4.1.L Av]]] (by kernel_rfl) mixed (by kernel_rfl) (by decide) R R R R ?_
  refine evs (md:=[.arr 56 1 0 (b2.1.flatMap (eL eU8)),.arr 134 1 0 (b2.2.flatMap Al),.box [.ls 0 b2.1.length,.ls 1 b2.2.length,Ii6 a2],BE a3,.box [Znl,Znl,Ii6 0],.dead]) (λhS=>ev (Bp hS) R R (Ah Ae4 R) (ev (Bp hS) R R (l1 Avy R R R) (emv R R (λ_=>Bj R) ?_))) ⟨⟨R,⟨R,⟨R,⟨R,⟨R,⟨trivial,trivial⟩⟩⟩⟩⟩⟩,⟨⟨R,⟨R,⟨R,⟨R,⟨R,⟨trivial,trivial⟩⟩⟩⟩⟩⟩,⟨⟨R,⟨R,⟨R,⟨R,⟨R,⟨trivial,trivial⟩⟩⟩⟩⟩⟩,trivial⟩⟩⟩
  refine ev (Bp (md:=[.arr 56 1 0 (b2.1.flatMap (eL eU8)),.arr 134 1 0 (b2.2.flatMap Al),.box [.ls 0 b2.1.length,.ls 1 b2.2.length,Ii6 a2],BE a3,.box [Znl,Znl,Ii6 0],.dead]) ⟨⟨rfl,⟨rfl,⟨rfl,⟨rfl,⟨rfl,⟨trivial,trivial⟩⟩⟩⟩⟩⟩,⟨⟨rfl,⟨rfl,⟨rfl,⟨rfl,⟨rfl,⟨trivial,trivial⟩⟩⟩⟩⟩⟩,⟨⟨rfl,⟨rfl,⟨rfl,⟨rfl,⟨rfl,⟨trivial,trivial⟩⟩⟩⟩⟩⟩,trivial⟩⟩⟩) rfl rfl (Gc (f:=Al) Au1 (λ_=>rfl) rfl rfl rfl (by first|rfl|exact List.length_set.symm) rfl hu3) ?_
  refine ev (Bp (md:=[.arr 56 1 0 (b2.1.flatMap (eL eU8)),.arr 134 1 0 (b2.2.flatMap Al),.box [.ls 0 b2.1.length,.ls 1 b2.2.length,Ii6 a2],BE a3,.box [Znl,Znl,Ii6 0],.dead]) ⟨⟨R,⟨R,⟨R,⟨R,⟨R,⟨trivial,trivial⟩⟩⟩⟩⟩⟩,⟨⟨R,⟨R,⟨R,⟨R,⟨R,⟨trivial,trivial⟩⟩⟩⟩⟩⟩,⟨⟨R,⟨R,⟨R,⟨R,⟨R,⟨trivial,trivial⟩⟩⟩⟩⟩⟩,trivial⟩⟩⟩) R R (Np (f:=Al) (sz:=1) 0 V3 fR R R R R (Ft hu3).2 (Nbl R) R) ?_
  refine evs (md:=[.arr 56 1 0 (b2.1.flatMap (eL eU8)),.arr 134 1 0 (b2.2.flatMap Al),.box [.ls 0 b2.1.length,.ls 1 b2.2.length,Ii6 a2],BE a3,.box [Znl,Znl,Ii6 0],.dead]) (λhS=>ev (Bp hS) R R (Ah Aq9 R) (ev (Bp hS) R R (l1 ti3 R R R) (ev (Bp hS) R R (Ah Ard R) (ev (Bp hS) R R (l1 Yz R R R) (ev (Bp hS) R R (Ah Arq R) (ev (Bp hS) R R (l1 ti4 R R R) (ev (Bp hS) R R (O4 Ay0 Ayp (Bo R (Bo R (Bo R Dh))) (.cons _ _ _ _ _ _ _ R R (Nbl R) (.cons _ _ _ _ _ _ _ R R (Nbl R) (.cons _ _ _ _ _ _ _ R R (Nbl R) (.nil _))))) (ed (Bp hS) R R (Cf (fk R) (Af R (Af R A2)) R (Yb hv4)) (emv R R (λ_=>Wf R) ?_))))))))) ⟨⟨R,⟨R,⟨R,⟨R,⟨R,⟨trivial,trivial⟩⟩⟩⟩⟩⟩,⟨⟨R,⟨R,⟨R,⟨R,⟨R,⟨trivial,trivial⟩⟩⟩⟩⟩⟩,⟨⟨R,⟨R,⟨R,⟨R,⟨R,⟨trivial,trivial⟩⟩⟩⟩⟩⟩,trivial⟩⟩⟩
  refine evs (md:=[.arr 56 1 0 (b2.1.flatMap (eL eU8)),.arr 134 1 0 (b2.2.flatMap Al),.box [.ls 0 b2.1.length,.ls 1 b2.2.length,Ii6 a2],BE a3,.box [Znl,Znl,Ii6 0],.dead]) (λhS=>ev (Bp hS) R R (Ei R R) (ev (Bp hS) R R (Ei R R) (ee (x:=L7 (.lp 5 0)) 0 R R R R R (λζ=>?_) ?_))) ⟨⟨R,⟨R,⟨R,⟨R,⟨R,⟨trivial,trivial⟩⟩⟩⟩⟩⟩,⟨⟨R,⟨R,⟨R,⟨R,⟨R,⟨trivial,trivial⟩⟩⟩⟩⟩⟩,⟨⟨R,⟨R,⟨R,⟨R,⟨R,⟨trivial,trivial⟩⟩⟩⟩⟩⟩,trivial⟩⟩⟩
  ·refine Lz 5 R Ax7 R ?_
   exact Tt
  refine ee0 1 R R R R (λζ=>?_) ?_
  ·refine rx 1 R (Pf [.arr 56 1 0 (b2.1.flatMap (eL eU8)),.arr 134 1 0 (b2.2.flatMap Al),.box [.ls 0 b2.1.length,.ls 1 b2.2.length,Ii6 a2],BE a3,.box [Znl,Znl,Ii6 0],.box [SL v4.1.L Av]] R ?_)
   exact Tt
  refine ev (Aw 2 R R) R R (Hh R) (Abz (Ag (Bb (crs R (ccI h R (λh=>?_) (λh=>?_))))))
  ·refine Bg (rx 4 R ?_)
   obtain⟨u5,hu5,h⟩:=Aa h
   refine sv R (Gc (f:=Al) Au1 fR R R R R R hu5) ?_
   refine Aa1 (f:=Al) (u':=v4.1) (sz:=1) 0 Ax6 fR R R R R R R R (zL.1 R) (Ft hu5).2 (Nbl R) R ?_
   refine Kk 36 (y:=L7 (.ls 1 b2.2.length)) (L7 (.ls 1 (b2.2.set v1.1.toNat v4.1).length)) R (congrArg (λn=>AV.s (.one (.ls 1 n))) List.length_set.symm) ?_
   refine Kk 53 (y:=L7 (.ls 1 b2.2.length)) (L7 (.ls 1 (b2.2.set v1.1.toNat v4.1).length)) R (congrArg (λn=>AV.s (.one (.ls 1 n))) List.length_set.symm) ?_
   refine Pf [.arr 56 1 0 (b2.1.flatMap (eL eU8)),.arr 134 1 0 ((b2.2.set v1.1.toNat v4.1).flatMap Al),.box [.ls 0 b2.1.length,.ls 1 b2.2.length,Ii6 a2],BE a3,.box [Znl,Znl,Ii6 0],.box [SL v4.1.L Av]] R ?_
   refine Pf [.arr 56 1 0 (b2.1.flatMap (eL eU8)),.arr 134 1 0 ((b2.2.set v1.1.toNat v4.1).flatMap Al),.box [.ls 0 b2.1.length,.ls 1 (b2.2.set v1.1.toNat v4.1).length,Ii6 a2],BE a3,.box [Znl,Znl,Ii6 0],.box [SL v4.1.L Av]] (by rw[yS]) ?_
   refine Oy (crs R (Bn ?_))
   obtain rfl:=SJ h
   exact⟨Or.inr R,_,[0,1],[.agg [.ls 0 b2.1.length,.ls 1 (b2.2.set v1.1.toNat v4.1).length,Ii6 a2]],[.arr 56 1 0 (b2.1.flatMap (eL eU8)),.arr 134 1 0 ((b2.2.set v1.1.toNat v4.1).flatMap Al)],(Au (ra At5 R R R) A4),R,R,⟨by decide,R⟩,R,R,⟨R,R⟩⟩
  ·refine csn (crs R (Bn ?_))
   obtain rfl:=SJ h
   exact⟨Or.inr R,_,[0,1],[.agg [.ls 0 b2.1.length,.ls 1 b2.2.length,Ii6 a2]],[.arr 56 1 0 (b2.1.flatMap (eL eU8)),.arr 134 1 0 (b2.2.flatMap Al)],(Au (ra At5 R R R) A4),R,R,⟨by decide,R⟩,R,R,⟨R,R⟩⟩
 ·refine ccI h R (λh=>?_) (λh=>?_)
  ·refine csr (rx 5 R ?_)
   refine Eg R Tryz.underlying25 Ae9 R R (zL.1 R) (by decide) ?_
   refine Pf [.arr 56 1 0 (a0.flatMap (eL eU8)),.arr 134 1 0 (a1.flatMap Al),.box [.ls 0 a0.length,.ls 1 a1.length,Ii6 a2],BE a3,.box [Znl,Znl,Ii6 0],.arr 56 1 0 ([a3.Key].flatMap (eL eU8))] R ?_
   obtain⟨v6,hv6,h⟩:=Aa h
   refine Gi (x':=L7 (.ls 0 v6.length)) (M':=[.arr 56 1 0 (v6.flatMap (eL eU8)),.arr 134 1 0 (a1.flatMap Al),.box [.ls 0 a0.length,.ls 1 a1.length,Ii6 a2],BE a3,.box [Znl,Znl,Ii6 0],.dead]) [0,5] R (fk R) (.func _) (Af R (Af R (Af R A2))) (U5 hv6) R R (by decide) R R R ?_
   refine rsn R (Bg (rx 4 R ?_))
   refine Ahd 30 R pb ?_
   refine Eg R Tryz.underlying26 Agd R R (zL.1 R) (by decide) ?_
   refine Pf [.arr 56 1 0 (v6.flatMap (eL eU8)),.arr 134 1 0 (a1.flatMap Al),.box [.ls 0 v6.length,.ls 1 a1.length,Ii6 a2],BE a3,.box [Znl,Znl,Ii6 0],.dead,.arr 134 1 0 ([(Ac.mk ([]:List Ak))].flatMap Al)] R ?_
   obtain⟨v7,hv7,h⟩:=Aa h
   refine Gi (x':=L7 (.ls 1 v7.length)) (M':=[.arr 56 1 0 (v6.flatMap (eL eU8)),.arr 134 1 0 (v7.flatMap Al),.box [.ls 0 v6.length,.ls 1 a1.length,Ii6 a2],BE a3,.box [Znl,Znl,Ii6 0],.dead,.dead]) [1,6] R (fk R) (.func _) (Af R (Af R (Af R A2))) (Uy hv7) R R (by decide) R R R ?_
   refine rsn R ?_
   exact⟨(v6,v7),_,h,(ml R),R⟩
  ·refine csn ?_
   exact⟨(a0,a1),_,h,(ml R),R⟩
def Kd (b5:(List (List UInt8))×(List Ac)×Int):Option (Bc×Int) :=
 if (decide (128<(b5.1.length:Int))) then(some (Ov,8)) else(some ((Bc.mk b5.1 b5.2.1 b5.2.2),0))
def Et (a2:List Ae) (s6:Int×(List (List UInt8))×(List Ac)×Int):Option (LB (Int×(List (List UInt8))×(List Ac)×Int) ((List (List UInt8))×(List Ac)×Int)) :=
 if (decide (s6.1<(a2.length:Int))) then((idx a2 s6.1).bind λu7=>(Nc s6.2.1 s6.2.2.1 s6.2.2.2 u7).bind λv8=>some (.cont ((wI (s6.1+1)),v8.2.1,v8.2.2,v8.1))) else(some (.brk (s6.2.1,s6.2.2.1,s6.2.2.2)))
def J5 (a0:Bc) (a1:Int) (a2:List Ae) (b2:Unit):Option (Bc×Int) :=
 (Jh a0.Keys).bind λv3=>(Jo a0.Chains).bind λv4=>(B8 (Et a2) fuel (0,v3,v4,a1)).bind λe9=>Kd e9
def Jy (a0:Bc) (a1:Int) (a2:List Ae) (b1:Unit):Option (Bc×Int) :=
 if (decide (a1<=a0.Ts)) then(some (Ov,7)) else(if (decide (1099511627776<a1)) then(some (Ov,7)) else(J5 a0 a1 a2 ()))
def Dq (a0:Bc) (a1:Int) (a2:List Ae):Option (Bc×Int) :=
 (Cy (Bc.mk a0.Keys a0.Chains a0.Ts)).bind λv10=>if (!v10) then(some (Ov,1)) else((Gv a2).bind λv11=>if (!v11) then(some (Ov,1)) else(Jy a0 a1 a2 ()))
theorem Ve {a0:Bc} {a1:Int} {a2:List Ae} {r:Bc×Int} (h:Dq a0 a1 a2=some r):A6 Qx0 143 [.agg (EL.el a0),.one (Ii6 a1),.one (SL a2 Am)] (·=.tup [.agg (EL.el r.1),.one (Ii6 r.2)]):=by
 refine An Tryz.func143 R (nt:=53) R (Nbl R) ?_
 intro w0 S0
 refine crs R (Bb (Bb (cj3 (Unit) (λb1=>[(1,L7 (Ii6 a1)),(2,L7 (SL a2 Am)),(3,L7 (.lp 0 0)),(6,L7 (.lp 1 0))]) (λb1=>[BE a0,.box [Znl,Znl,Ii6 0]]) (λb1=>Jy a0 a1 a2 b1=some r) fR (λb1 h=>?_) ?_)))
 ·refine Bb (Bb (cj3 (Unit) (λb2=>[(1,L7 (Ii6 a1)),(2,L7 (SL a2 Am)),(3,L7 (.lp 0 0)),(6,L7 (.lp 1 0))]) (λb2=>[BE a0,.box [Znl,Znl,Ii6 0]]) (λb2=>J5 a0 a1 a2 b2=some r) fR (λb2 h=>?_) ?_))
  ·refine Bb (Aa2 (Aa2 (Aa2 ?_)))
   obtain⟨v3,hv3,h⟩:=Aa h
   obtain⟨v4,hv4,h⟩:=Aa h
   refine Am2 [2,5,8,9] [0,1,3,0,8,31,0,127,0,511] [([false,false,false,false],[BE a0,.box [Znl,Znl,Ii6 0],.hole,.hole,.hole]),([false,false,true,false],[BE a0,.box [Znl,Znl,Ii6 0],.hole,.hole,.box [Znl,Znl,Ii6 0]]),([true,false,false,false],[BE a0,.box [Znl,Znl,Ii6 0],.arr 56 1 0 (v3.flatMap (eL eU8)),.hole,.hole]),([true,false,true,false],[BE a0,.box [Znl,Znl,Ii6 0],.arr 56 1 0 (v3.flatMap (eL eU8)),.hole,.box [Znl,Znl,Ii6 0]]),([true,true,false,false],[BE a0,.box [Znl,Znl,Ii6 0],.arr 56 1 0 (v3.flatMap (eL eU8)),.arr 134 1 0 (v4.flatMap Al),.hole]),([true,true,true,false],[BE a0,.box [Znl,Znl,Ii6 0],.arr 56 1 0 (v3.flatMap (eL eU8)),.arr 134 1 0 (v4.flatMap Al),.box [Znl,Znl,Ii6 0]]),([true,true,true,true],[BE a0,.box [Znl,Znl,Ii6 0],.arr 56 1 0 (v3.flatMap (eL eU8)),.arr 134 1 0 (v4.flatMap Al),.box [.ls 2 v3.length,.ls 3 v4.length,Ii6 a1]])] (by kernel_rfl) mixed (by kernel_rfl) (by decide) R (by kernel_rfl) R R ?_
   refine Av3 R R (Cm R (Ah Ac8 R) (Cm R (Ah Ac8 R) (Bu R (Bu R (Bu R (Bu R (Bu R Fj))))))) (Av3 R R (Cm R (l1 Axn R R R) (Cm R (l1 Axn R R R) (Bu R (Bu R (Bu R (Bu R (Bu R Fj))))))) (mee (x:=L7 (.ls 2 v3.length)) 0 R R ?_ ?_))
   ·refine Cm R ⟨_,R,λζ=>?_⟩ ?_
    ·refine Xh (g:=(eL eU8)) (ys:=v3) 2 R (fk R) (.func _) (Af R A2) (Ps hv3) R fR R R R R ?_
     exact Tt
    refine Cm R ⟨_,R,λζ=>?_⟩ ?_
    ·refine Xh (g:=(eL eU8)) (ys:=v3) 2 R (fk R) (.func _) (Af R A2) (Ps hv3) R fR R R R R ?_
     exact Tt
    refine Bu R (Bu R (Bu R (Bu R (Bu R ?_))))
    exact Fj
   refine Av3 R R (Cm R (Ah Ae4 R) (Cm R (Ah Ae4 R) (Cm R (Ah Ae4 R) (Cm R (Ah Ae4 R) (Bu R (Bu R (Bu R Fj))))))) (Av3 R R (Cm R (l1 Avy R R R) (Cm R (l1 Avy R R R) (Cm R (l1 Avy R R R) (Cm R (l1 Avy R R R) (Bu R (Bu R (Bu R Fj))))))) (mee (x:=L7 (.ls 3 v4.length)) 1 R R ?_ ?_))
   ·refine Bu R (Bu R (Cm R ⟨_,R,λζ=>?_⟩ ?_))
    ·refine Xh (g:=Al) (ys:=v4) 3 R (fk R) (.func _) (Af R A2) (Pz hv4) R fR R R R R ?_
     exact Tt
    refine Cm R ⟨_,R,λζ=>?_⟩ ?_
    ·refine Xh (g:=Al) (ys:=v4) 3 R (fk R) (.func _) (Af R A2) (Pz hv4) R fR R R R R ?_
     exact Tt
    refine Bu R (Bu R (Bu R ?_))
    exact Fj
   refine Avi R R (λ_=>Bj R) ?_
   refine Av3 R R (Bu R (Bu R (Bu R (Bu R (Cm R (O4 Aw0 Azj (Bo R (Bo R (Bo R Dh))) (.cons _ _ _ _ _ _ _ R R (Nbl R) (.cons _ _ _ _ _ _ _ R R (Nbl R) (.cons _ _ _ _ _ _ _ R R (Nbl R) (.nil _))))) (Cm R (O4 Aw0 Azj (Bo R (Bo R (Bo R Dh))) (.cons _ _ _ _ _ _ _ R R (Nbl R) (.cons _ _ _ _ _ _ _ R R (Nbl R) (.cons _ _ _ _ _ _ _ R R (Nbl R) (.nil _))))) (Bu R Fj))))))) (mee (x:=L7 (.lp 4 0)) 2 R R ?_ ?_)
   ·refine Cm R ⟨_,R,λζ=>?_⟩ ?_
    ·refine Lz 4 R Aw0 R ?_
     exact Tt
    refine Bu R (Cm R ⟨_,R,λζ=>?_⟩ ?_)
    ·refine Lz 4 R Aw0 R ?_
     exact Tt
    refine Bu R (Cm R ⟨_,R,λζ=>?_⟩ ?_)
    ·refine Lz 4 R Aw0 R ?_
     exact Tt
    refine Bu R (Bu R ?_)
    exact Fj
   refine Ayu 3 R ?_ ?_
   ·refine Bu R (Bu R (Bu R (Bu R (Bu R (Cm R ⟨_,R,λζ=>?_⟩ ?_)))))
    ·refine rx 1 R (Pf [BE a0,.box [Znl,Znl,Ii6 0],.arr 56 1 0 (v3.flatMap (eL eU8)),.arr 134 1 0 (v4.flatMap Al),.box [.ls 2 v3.length,.ls 3 v4.length,Ii6 a1]] R ?_)
     exact Tt
    refine Bu R ?_
    exact Fj
   refine Avx (Ag (Bb (crs R (cj ((List (List UInt8))×(List Ac)×Int) (λb5=>[(6,L7 (.lp 1 0)),(8,L7 (.lp 4 0))]) (λb5=>[BE a0,.box [Znl,Znl,Ii6 0],.arr 56 1 0 (b5.1.flatMap (eL eU8)),.arr 134 1 0 (b5.2.1.flatMap Al),.box [.ls 2 b5.1.length,.ls 3 b5.2.1.length,Ii6 b5.2.2]]) (λb5=>Kd b5=some r) fR (λb5 h=>?_) ?_))))
   ·refine Bb (csr (rx 2 R (sv R (Fw Ab4 R R (Aq (f:=(eL eU8)) fR _).symm) ?_)))
    refine rsn R (ccI h R (λh=>?_) (λh=>?_))
    ·refine crs R (crt ?_)
     cases SJ h
     exact dE R (F1 R) R
    ·refine csn (crs R (Bn ?_))
     cases SJ h
     refine⟨Or.inr R,_,_,_,(Au (ra At5 R R R) (Au (rt R) A4)),pb,?_⟩
     rfl
   ·refine Bh ?_
    obtain⟨x6,hx6,ho6⟩:=Aa h
    refine lpn (α:=Int×(List (List UInt8))×(List Ac)×Int) (λg=>[(6,L7 (.lp 1 0)),(8,L7 (.lp 4 0)),(37,L7 (SL a2 Am)),(38,L7 (Ii6 (a2.length:Int))),(39,L7 (Ii6 g.2.1))]) (λg=>[BE a0,.box [Znl,Znl,Ii6 0],.arr 56 1 0 (g.2.2.1.flatMap (eL eU8)),.arr 134 1 0 (g.2.2.2.1.flatMap Al),.box [.ls 2 g.2.2.1.length,.ls 3 g.2.2.2.1.length,Ii6 g.2.2.2.2]]) (λg=>B8 (Et a2) g.1 g.2=some x6) (fuel,(0,v3,v4,a1)) hx6 R R fR ?_
    rintro⟨n6,s6⟩ h
    obtain⟨n6,y6,rfl,h,hk6⟩:=Cb h
    refine crs R (Bb (ccI h R (λh=>?_) (λh=>?_)))
    ·refine csn (csb ?_)
     obtain⟨u7,hu7,h⟩:=Aa h
     refine sv R (Bl (f:=Am) Ag5 fR R R R R hu7) ?_
     refine sv R (A8 (ys:=[SL u7.Key eU8,SL u7.Val eU8,.b u7.Del]) Auj R (.cp _) R R) (rsn R (Bg (rx 2 R ?_)))
     obtain⟨v8,hv8,h⟩:=Aa h
     refine Gi (x':=.s (.agg [.ls 2 v8.2.1.length,.ls 3 v8.2.2.length,Ii6 v8.1])) (M':=[BE a0,.box [Znl,Znl,Ii6 0],.arr 56 1 0 (v8.2.1.flatMap (eL eU8)),.arr 134 1 0 (v8.2.2.flatMap Al),.box [.ls 2 s6.2.1.length,.ls 3 s6.2.2.1.length,Ii6 s6.2.2.2],BE u7]) [2,3] R (fk R) (.func _) (Af R (Af R A2)) (Xn hv8) R R (by decide) R R R ?_
     refine rx 1 R (Fi (A0 (Ag (cgs R ?_))))
     cases SJ h
     exact lx (n6,((wI (s6.1+1)),v8.2.1,v8.2.2,v8.1)) hk6 R R
    ·refine cx5 ?_
     cases SJ h
     obtain rfl:_=x6:=hk6
     exact⟨(s6.2.1,s6.2.2.1,s6.2.2.2),_,ho6,(ml R),R⟩
  ·refine Bg (rx 5 R (ssI 24 h R (λh=>?_) (λh=>?_)))
   ·refine rsn R (B1 R (λ_=>?_) (λhx=>Bool.noConfusion hx))
    refine crs R (crt ?_)
    cases SJ h
    exact dE R (F1 R) R
   ·refine rsn R (ccI h R (λh=>?_) (λh=>?_))
    ·refine crs R (crt ?_)
     cases SJ h
     exact dE R (F1 R) R
    ·refine csn ?_
     exact⟨(),_,h,(ml R),R⟩
 ·refine Bg (rx 1 R ?_)
  obtain⟨v10,hv10,h⟩:=Aa h
  refine scI R R (I0 hv10) (rx 2 R (ssI 14 h R (λh=>?_) (λh=>?_)))
  ·refine rsn R (B1 R (λ_=>?_) (λhx=>Bool.noConfusion hx))
   refine crs R (crt ?_)
   cases SJ h
   exact dE R (F1 R) R
  ·refine rm 1 R (son R R R ?_)
   obtain⟨v11,hv11,h⟩:=Aa h
   refine scI R R (S6 hv11) (rsn R (ccI h R (λh=>?_) (λh=>?_)))
   ·refine crs R (crt ?_)
    cases SJ h
    exact dE R (F1 R) R
   ·refine csn ?_
    exact⟨(),_,h,(ml R),R⟩
def Rv (b1:Int):Option Int :=
 some b1
def G6 (a0:Ay) (s2:Int×Int):Option (LB (Int×Int) (Int)) :=
 if (decide (s2.2<(a0.Txs.length:Int))) then((idx a0.Txs s2.2).bind λu3=>if (decide (u3.State=1)) then(some (.cont ((if u3.Begin<s2.1 then u3.Begin else s2.1),(wI (s2.2+1))))) else(some (.cont (s2.1,(wI (s2.2+1)))))) else(some (.brk s2.1))
def Ju (a0:Ay) (a1:Int):Option Int :=
 (B8 (G6 a0) fuel (a1,0)).bind λe4=>Rv e4
theorem R7 {a0:Ay} {a1:Int} {r:Int} (h:Ju a0 a1=some r):A6 Qx0 146 [.agg (EL.el a0),.one (Ii6 a1)] (·=L7 (Ii6 r)):=by
 refine An Tryz.func146 R (nt:=23) R (Nbl R) ?_
 intro w0 S0
 refine crs R (Bb (crs R (cj (Int) (λb1=>[(1,L7 (Ii6 b1))]) (λb1=>[BE a0]) (λb1=>Rv b1=some r) fR (λb1 h=>?_) ?_)))
 ·refine crs R (Bn ?_)
  cases SJ h
  exact dnT R R R R
 ·refine Bh ?_
  obtain⟨x2,hx2,ho2⟩:=Aa h
  refine lpn (α:=Int×Int) (λg=>[(1,L7 (Ii6 g.2.1)),(8,L7 (SL a0.Txs Az)),(9,L7 (Ii6 (a0.Txs.length:Int))),(10,L7 (Ii6 g.2.2))]) (λg=>[BE a0]) (λg=>B8 (G6 a0) g.1 g.2=some x2) (fuel,(a1,0)) hx2 R R fR ?_
  rintro⟨n2,s2⟩ h
  obtain⟨n2,y2,rfl,h,hk2⟩:=Cb h
  refine crs R (Bb (ccI h R (λh=>?_) (λh=>?_)))
  ·refine csn (csb ?_)
   obtain⟨u3,hu3,h⟩:=Aa h
   refine sv R (Bl (f:=Az) Tu fR R R R R hu3) ?_
   refine sv R (A8 (ys:=[Ii6 u3.ID,Ii6 u3.Begin,Ii6 u3.End,Ii6 u3.State,.b u3.In,.b u3.Out,.b u3.RO,SL u3.Keys (eL eU8)]) Nz R (.cp _) R R) (rsn R (crs R (ccI h R (λh=>?_) (λh=>?_))))
   ·refine Bg (rx 3 R (sv R (Afz R R) (rm 1 R (Fi (A0 (Ag (cgs R ?_)))))))
    cases SJ h
    exact lx (n2,((if u3.Begin<s2.1 then u3.Begin else s2.1),(wI (s2.2+1)))) hk2 R R
   ·refine cbn (cgs R ?_)
    cases SJ h
    exact lx (n2,(s2.1,(wI (s2.2+1)))) hk2 R R
  ·refine cx5 ?_
   cases SJ h
   obtain rfl:_=x2:=hk2
   exact⟨s2.1,_,ho2,(ml R),R⟩
def N5 (a0:Ay) (b1:(List Int)):Option Ay :=
 (Iy a0 b1).bind λv2=>some v2
def H7 (a0:Ay) (s3:Int×(List Int)):Option (LB (Int×(List Int)) ((List Int))) :=
 if (decide (s3.1<(a0.Txs.length:Int))) then((idx a0.Txs s3.1).bind λu4=>if (decide (u4.State=2)) then((Ju a0 u4.End).bind λv5=>if (decide (u4.End<=v5)) then(if (s3.2.length+[u4.ID].length)*8<=140737488355328 then(some (.cont ((wI (s3.1+1)),(s3.2++[u4.ID])))) else none) else(some (.cont ((wI (s3.1+1)),s3.2)))) else(some (.cont ((wI (s3.1+1)),s3.2)))) else(some (.brk s3.2))
def I2 (a0:Ay):Option Ay :=
 (B8 (H7 a0) fuel (0,([]:List Int))).bind λe7=>N5 a0 e7
theorem Y1 {a0:Ay} {r:Ay} (h:I2 a0=some r):A6 Qx0 144 [.agg (EL.el a0)] (·=.s (.agg (EL.el r))):=by
 refine An Tryz.func144 R (nt:=34) R (Nbl R) ?_
 intro w0 S0
 refine crs R (crs R (Bb (crs R ?_)))
 refine Cq 3 1 3 (by decide) R ?_
 refine cj ((List Int)) (λb1=>[(1,L7 (.lp 0 0)),(2,L7 (.lp 1 0)),(3,L7 (.ls 2 b1.length))]) (λb1=>[BE a0,.box [Znl,Znl],.arr 3 1 0 (b1.flatMap eI)]) (λb1=>N5 a0 b1=some r) fR (λb1 h=>?_) ?_
 ·refine csr (rx 2 R ?_)
  refine Ahd 32 R pb ?_
  obtain⟨v2,hv2,h⟩:=Aa h
  refine scI R R (Ru hv2) (rsn R (Bn ?_))
  cases SJ h
  exact dnA R Aj8 R (.lp _ _ _ R) (Nbl R) R R
 ·refine Bh ?_
  obtain⟨x3,hx3,ho3⟩:=Aa h
  refine lpn (α:=Int×(List Int)) (λg=>[(1,L7 (.lp 0 0)),(2,L7 (.lp 1 0)),(3,L7 (.ls 2 g.2.2.length)),(7,L7 (SL a0.Txs Az)),(8,L7 (Ii6 (a0.Txs.length:Int))),(9,L7 (Ii6 g.2.1))]) (λg=>[BE a0,.box [Znl,Znl],.arr 3 1 0 (g.2.2.flatMap eI)]) (λg=>B8 (H7 a0) g.1 g.2=some x3) (fuel,(0,([]:List Int))) hx3 R R fR ?_
  rintro⟨n3,s3⟩ h
  obtain⟨n3,y3,rfl,h,hk3⟩:=Cb h
  refine crs R (Bb (ccI h R (λh=>?_) (λh=>?_)))
  ·refine csn (csb ?_)
   obtain⟨u4,hu4,h⟩:=Aa h
   refine sv R (Bl (f:=Az) Tu fR R R R R hu4) ?_
   refine sv R (A8 (ys:=[Ii6 u4.ID,Ii6 u4.Begin,Ii6 u4.End,Ii6 u4.State,.b u4.In,.b u4.Out,.b u4.RO,SL u4.Keys (eL eU8)]) Nz R (.cp _) R R) (rsn R (Bb ?_))
   refine U4 mixed (by kernel_rfl) ?_
   refine dv R (Ah Ac4 R) (dv R (l1 ti3 R R R) (dv R (Nb R R) (dv R (Bj R) (Qh 16 R (λhc=>?_) (λhc=>?_)))))
   ·replace h:=P8 hc h
    clear hc
    refine dvg R R R (lo Aj8 R R R) (dvg R R R (Ah Afj R) (dvg R R R (l1 ti3 R R R) ?_))
    obtain⟨v5,hv5,h⟩:=Aa h
    refine ddg R R R (Cf (fk R) (Af R (Af R A2)) R (R7 hv5)) (dvg R R R (Ah Afj R) (dvg R R R (l1 ti3 R R R) (dvg R R R (Afk R R) (dv R (Cp R R) (Vp (Ag (ccI h R (λh=>?_) (λh=>?_))))))))
    ·refine Bg (rx 3 R ?_)
     refine Eg R Tryz.underlying225 ei3 R R (zL.1 R) (by decide) ?_
     refine Pf [BE a0,.box [Znl,Znl],.arr 3 1 0 (s3.2.flatMap eI),BE u4,.arr 3 1 0 ([u4.ID].flatMap eI)] R ?_
     obtain⟨hb6,h⟩:=B5 h
     refine Tp (f:=eI) (xs:=s3.2) (us:=[u4.ID]) R Tryz.underlying225 ei3 Al5 fR R R (.one _ _ _ _ (.ls _ _ _ _ _ _ R (Aq (f:=eI) fR [u4.ID]).symm)) R R R (.sl _ _ _ (Aq (f:=eI) fR _)) R R hb6 (by decide) ?_
     refine rm 1 R (Fi (A0 (Ag (cgs R ?_))))
     cases SJ h
     exact lx (n3,((wI (s3.1+1)),(s3.2++[u4.ID]))) hk3 R R
    ·refine cbn (cgs R ?_)
     cases SJ h
     exact lx (n3,((wI (s3.1+1)),s3.2)) hk3 R R
   ·replace h:=P3 hc h
    clear hc
    refine Dy R R R R (Dy R R R R (Dy R R R R (Dy R R R R (Dy R R R R (Dy R R R R (Dy R R R R (dv R (Cn R R) (Vp (Ag (B1 R (λhx=>Bool.noConfusion hx) (λ_=>?_)))))))))))
    refine cbn (cgs R ?_)
    cases SJ h
    exact lx (n3,((wI (s3.1+1)),s3.2)) hk3 R R
  ·refine cx5 ?_
   cases SJ h
   obtain rfl:_=x3:=hk3
   exact⟨s3.2,_,ho3,(ml R),R⟩
def Jr (a0:List Ak):Option (List Ak) :=
 if (([]:List Ak).length+a0.length)*40<=140737488355328 then(some (([]:List Ak)++a0)) else none
theorem Vb {a0:List Ak} {r:(List Ak)} (h:Jr a0=some r):Cv Qx0 258 [] [.one (SL a0 Av)] (λy m'=>y=L7 (.ls 0 r.length)/\m'=[.arr 136 3 0 (r.flatMap Av)]):=by
 refine Cs Tryz.func258 R (nt:=8) R (Nbl R) ?_
 intro w0 S0 X0 H0
 refine crs R (Bb (csr (rm 1 R (Ab6 R Tryz.underlying132 R (λnq hnq=>?_)))))
 cases nq
 ·refine Oy (B1 R (λhx=>Bool.noConfusion hx) (λ_=>?_))
  refine csn (csr (Sz R Tryz.underlying132 Am3 (rx 1 R ?_)))
  obtain⟨hb1,h⟩:=B5 h
  refine Tp (f:=Av) (xs:=([]:List Ak)) (us:=a0) R Tryz.underlying132 Am3 Awb fR R R (.one _ _ _ _ (.id _ R)) R R R (.sl _ _ _ (Aq (f:=Av) fR _)) R R hb1 (by decide) ?_
  refine rsn R (Bn ?_)
  cases SJ h
  exact⟨Or.inr R,_,[0],[.one (.ls 0 (([]:List Ak)++a0).length)],[.arr 136 3 0 ((([]:List Ak)++a0).flatMap Av)],(Au (rt R) A4),R,R,⟨by decide,R⟩,R,R,⟨R,R⟩⟩
 ·obtain rfl:=z7 (hnq rfl)
  replace h:(some ([]:List Ak))=some r:=by first|exact h|(rw[if_pos (by decide)] at h;exact h)
  refine Oy (B1 R (λ_=>?_) (λhx=>Bool.noConfusion hx))
  refine crs R ?_
  refine Cq 136 3 2 (by decide) R ?_
  refine crt ?_
  cases SJ h
  exact⟨Or.inr R,_,[0],[.one (.ls 0 ([]:List Ak).length)],[.arr 136 3 0 (([]:List Ak).flatMap Av)],(Au (rt R) A4),R,R,⟨by decide,R⟩,R,R,⟨R,R⟩⟩
def Fe (a0:Ac) (b4:Int):Option Ac :=
 (cut a0.L b4 (a0.L.length:Int)).bind λc5=>(Jr c5).bind λv6=>some (Ac.mk v6)
def Lp (a0:Ac) (v1:Int) (b2:Unit):Option Ac :=
 (idx a0.L v1).bind λu3=>if u3.Del then(Fe a0 (wI (v1+1))) else(Fe a0 v1)
def La (a0:Ac) (a1:Int):Option Ac :=
 (Kj a0 a1).bind λv1=>if (decide (v1<0)) then(some (Ac.mk a0.L)) else((Ev (Ac.mk a0.L)).bind λv7=>if (!v7) then(some (Ac.mk a0.L)) else(Lp a0 v1 ()))
theorem We {a0:Ac} {a1:Int} {r:Ac} (h:La a0 a1=some r):A6 Qx0 217 [.agg [SL a0.L Av],.one (Ii6 a1)] (·=.s (.agg [SL r.L Av])):=by
 refine An Tryz.func217 R (nt:=31) R (Nbl R) ?_
 intro w0 S0
 refine crs R (csr (rx 2 R ?_))
 obtain⟨v1,hv1,h⟩:=Aa h
 refine scI R R (Sf hv1) (rsn R (Bb (Bb (cj3 (Unit) (λb2=>[(2,L7 (.lp 0 0)),(4,L7 (.lp 1 0)),(5,L7 (Ii6 v1))]) (λb2=>[.box [SL a0.L Av],.box [Znl]]) (λb2=>Lp a0 v1 b2=some r) fR (λb2 h=>?_) ?_))))
 ·refine Bb (csr (rx 3 R ?_))
  obtain⟨u3,hu3,h⟩:=Aa h
  refine sv R (Bl (f:=Av) Zn fR R R R R hu3) ?_
  refine sv R (A9 Ate R) (rsn R (cj (Int) (λb4=>[(2,L7 (.lp 0 0)),(4,L7 (.lp 1 0)),(5,L7 (Ii6 b4))]) (λb4=>[.box [SL a0.L Av],.box [Znl]]) (λb4=>Fe a0 b4=some r) fR (λb4 h=>?_) ?_))
  ·refine csr (rx 3 R ?_)
   obtain⟨c5,hc5,h⟩:=Aa h
   refine sv R (Uo (f:=Av) (lo:=b4) (hi:=(a0.L.length:Int)) Zn fR R R R (Mq R (Ro hc5).1.1) (by exact R) hc5) ?_
   obtain⟨v6,hv6,h⟩:=Aa h
   refine Gi (x':=L7 (.ls 2 v6.length)) (M':=[.box [SL a0.L Av],.box [Znl],.arr 136 3 0 (v6.flatMap Av)]) [] R (fk R) (.func _) (Af R A2) (Vb hv6) R R (by decide) R R R ?_
   refine rsn R (Bn ?_)
   cases SJ h
   refine⟨Or.inr R,_,_,_,(Au (ra V3 R R R) A4),pb,?_⟩
   rfl
  ·refine ccI h R (λh=>?_) (λh=>?_)
   ·refine cgs R ?_
    exact⟨(wI (v1+1)),_,h,(ml R),R⟩
   ·refine csn ?_
    exact⟨v1,_,h,(ml R),R⟩
 ·refine Bg (rx 3 R (ssI 11 h R (λh=>?_) (λh=>?_)))
  ·refine rsn R (B1 R (λ_=>?_) (λhx=>Bool.noConfusion hx))
   refine crs R (crt ?_)
   cases SJ h
   exact dnA R V3 R (.lp _ _ _ R) (Nbl R) R R
  ·refine rx 1 R (son R R R ?_)
   obtain⟨v7,hv7,h⟩:=Aa h
   refine scI R R (Ny hv7) (rsn R (ccI h R (λh=>?_) (λh=>?_)))
   ·refine crs R (crt ?_)
    cases SJ h
    exact dnA R V3 R (.lp _ _ _ R) (Nbl R) R R
   ·refine csn ?_
    exact⟨(),_,h,(ml R),R⟩
def Pw (a0:Bc) (b2:(List (List UInt8))×(List Ac)):Option Bc :=
 some (Bc.mk b2.1 b2.2 a0.Ts)
def Hl (a0:Bc) (a1:Int) (s3:Int×(List (List UInt8))×(List Ac)):Option (LB (Int×(List (List UInt8))×(List Ac)) ((List (List UInt8))×(List Ac))) :=
 if (decide (s3.1<(a0.Chains.length:Int))) then((idx a0.Chains s3.1).bind λu4=>(La u4 (if a0.Ts<a1 then a0.Ts else a1)).bind λv5=>if (decide (0<(v5.L.length:Int))) then((idx a0.Keys s3.1).bind λu6=>if (s3.2.1.length+([u6]:List (List UInt8)).length)*24<=140737488355328 then(if (s3.2.2.length+[v5].length)*24<=140737488355328 then(some (.cont ((wI (s3.1+1)),(s3.2.1++([u6]:List (List UInt8))),(s3.2.2++[v5])))) else none) else none) else(some (.cont ((wI (s3.1+1)),s3.2.1,s3.2.2)))) else(some (.brk (s3.2.1,s3.2.2)))
def Kp (a0:Bc) (a1:Int):Option Bc :=
 (Cy a0).bind λv1=>if (!v1) then(some a0) else((B8 (Hl a0 a1) fuel (0,([]:List (List UInt8)),([]:List Ac))).bind λe9=>Pw a0 e9)
theorem V9 {a0:Bc} {a1:Int} {r:Bc} (h:Kp a0 a1=some r):A6 Qx0 145 [.agg (EL.el a0),.one (Ii6 a1)] (·=.s (.agg (EL.el r))):=by
 refine An Tryz.func145 R (nt:=52) R (Nbl R) ?_
 intro w0 S0
 refine crs R (Bb (csr (rx 1 R ?_)))
 obtain⟨v1,hv1,h⟩:=Aa h
 refine scI R R (I0 hv1) (rsn R (ccI h R (λh=>?_) (λh=>?_)))
 ·refine crs R (crt ?_)
  cases SJ h
  exact dnA R At5 R (.lp _ _ _ R) (Nbl R) R R
 ·refine csn (crs R (Bb (crs R ?_)))
  refine Yn 56 1 2 0 (by decide) R R ?_
  refine Yn 134 1 2 1 (by decide) R R ?_
  refine cj ((List (List UInt8))×(List Ac)) (λb2=>[(4,L7 (.lp 1 0)),(5,L7 (.lp 2 0))]) (λb2=>[BE a0,.box [Znl,Znl,Ii6 0],.box [.ls 3 b2.1.length,.ls 4 b2.2.length,Ii6 a0.Ts],.arr 56 1 0 (b2.1.flatMap (eL eU8)),.arr 134 1 0 (b2.2.flatMap Al)]) (λb2=>Pw a0 b2=some r) fR (λb2 h=>?_) ?_
  ·refine crs R (Bn ?_)
   cases SJ h
   refine⟨Or.inr R,_,_,_,(Au (ra At5 R R R) A4),pb,?_⟩
   rfl
  ·refine Bh ?_
   obtain⟨x3,hx3,ho3⟩:=Aa h
   refine lpn (α:=Int×(List (List UInt8))×(List Ac)) (λg=>[(1,L7 (Ii6 a1)),(2,L7 (.lp 0 0)),(4,L7 (.lp 1 0)),(5,L7 (.lp 2 0)),(17,L7 (SL a0.Chains Al)),(18,L7 (Ii6 (a0.Chains.length:Int))),(19,L7 (Ii6 g.2.1))]) (λg=>[BE a0,.box [Znl,Znl,Ii6 0],.box [.ls 3 g.2.2.1.length,.ls 4 g.2.2.2.length,Ii6 a0.Ts],.arr 56 1 0 (g.2.2.1.flatMap (eL eU8)),.arr 134 1 0 (g.2.2.2.flatMap Al)]) (λg=>B8 (Hl a0 a1) g.1 g.2=some x3) (fuel,(0,([]:List (List UInt8)),([]:List Ac))) hx3 R R fR ?_
   rintro⟨n3,s3⟩ h
   obtain⟨n3,y3,rfl,h,hk3⟩:=Cb h
   refine crs R (Bb (ccI h R (λh=>?_) (λh=>?_)))
   ·refine csn (Bb (Bh (csr (rx 1 R ?_))))
    obtain⟨u4,hu4,h⟩:=Aa h
    refine sv R (Bl (f:=Al) Au1 fR R R R R hu4) ?_
    refine sv R (A8 (ys:=[SL u4.L Av]) V3 R (.cp _) R R) (rsn R (csr (rx 4 R (sv R (Afz R R) ?_))))
    obtain⟨v5,hv5,h⟩:=Aa h
    refine scI R R (We hv5) (rsn R (crs R (ccI h R (λh=>?_) (λh=>?_))))
    ·refine Bb ?_
     obtain⟨u6,hu6,h⟩:=Aa h
     obtain⟨hb7,h⟩:=B5 h
     refine Hs [8,10] [0,1,0,4,0,28,60,124,255,511,1023] [[BE a0,.box [Znl,Znl,Ii6 0],.box [.ls 3 s3.2.1.length,.ls 4 s3.2.2.length,Ii6 a0.Ts],.arr 56 1 0 (s3.2.1.flatMap (eL eU8)),.arr 134 1 0 (s3.2.2.flatMap Al),.box [SL u4.L Av],.box [SL v5.L Av]],[BE a0,.box [Znl,Znl,Ii6 0],.box [.ls 3 s3.2.1.length,.ls 4 s3.2.2.length,Ii6 a0.Ts],.arr 56 1 0 ((s3.2.1++([u6]:List (List UInt8))).flatMap (eL eU8)),.arr 134 1 0 (s3.2.2.flatMap Al),.box [SL u4.L Av],.box [SL v5.L Av]],[BE a0,.box [Znl,Znl,Ii6 0],.box [.ls 3 (s3.2.1++([u6]:List (List UInt8))).length,.ls 4 s3.2.2.length,Ii6 a0.Ts],.arr 56 1 0 ((s3.2.1++([u6]:List (List UInt8))).flatMap (eL eU8)),.arr 134 1 0 (s3.2.2.flatMap Al),.box [SL u4.L Av],.box [SL v5.L Av]]] (by kernel_rfl) mixed (by kernel_rfl) (by decide) R R R R ?_
     refine ev (Aw 0 R R) R R (Ah Ac8 R) (ev (Aw 0 R R) R R (l1 Axn R R R) (ev (Aw 0 R R) R R (Ah Ac8 R) (ev (Aw 0 R R) R R (l1 Axn R R R) (ev (Aw 0 R R) R R (Bj R) (ev (Aw 0 R R) R R (Bl (f:=(eL eU8)) Ab4 fR R R R R hu6) ?_)))))
     refine ev (Aw 0 R R) R R (C5 Yz R (.cp _) R) ?_
     refine ed (Aw 0 R R) R R (Z1 (out:=([u6]:List (List UInt8)).flatMap (eL eU8)) Tryz.underlying25 Ae9 (Bo R Dh) (.cons _ _ _ _ _ _ _ R R (Nbl R) (.nil _)) R (by decide)) ?_
     refine ee (x:=L7 (.ls 3 (s3.2.1++([u6]:List (List UInt8))).length)) 0 R R R R R (λζ=>?_) ?_
     ·refine Tp (f:=(eL eU8)) (xs:=s3.2.1) (us:=([u6]:List (List UInt8))) R Tryz.underlying25 Ae9 Aus fR R R (.one _ _ _ _ (.id _ R)) R R R (.sl _ _ _ (Aq (f:=(eL eU8)) fR _)) R R hb7 (by decide) ?_
      exact Tt
     refine ev (Aw 1 R R) R R (Ah Ac8 R) (ee0 1 R R R R (λζ=>?_) ?_)
     ·refine rx 1 R (Pf [BE a0,.box [Znl,Znl,Ii6 0],.box [.ls 3 (s3.2.1++([u6]:List (List UInt8))).length,.ls 4 s3.2.2.length,Ii6 a0.Ts],.arr 56 1 0 ((s3.2.1++([u6]:List (List UInt8))).flatMap (eL eU8)),.arr 134 1 0 (s3.2.2.flatMap Al),.box [SL u4.L Av],.box [SL v5.L Av]] R ?_)
      exact Tt
     refine Abz (Ag (Bg (rx 3 R ?_)))
     refine Eg R Tryz.underlying26 Agd R R (zL.1 R) (by decide) ?_
     refine Pf [BE a0,.box [Znl,Znl,Ii6 0],.box [.ls 3 (s3.2.1++([u6]:List (List UInt8))).length,.ls 4 s3.2.2.length,Ii6 a0.Ts],.arr 56 1 0 ((s3.2.1++([u6]:List (List UInt8))).flatMap (eL eU8)),.arr 134 1 0 (s3.2.2.flatMap Al),.box [SL u4.L Av],.box [SL v5.L Av],.arr 134 1 0 ([v5].flatMap Al)] R ?_
     obtain⟨hb8,h⟩:=B5 h
     refine Tp (f:=Al) (xs:=s3.2.2) (us:=[v5]) R Tryz.underlying26 Agd Axv fR R R (.one _ _ _ _ (.ls _ _ _ _ _ _ R (Aq (f:=Al) fR [v5]).symm)) R R R (.sl _ _ _ (Aq (f:=Al) fR _)) R R hb8 (by decide) ?_
     refine rx 2 R (Fi (A0 (Ag (cgs R ?_))))
     cases SJ h
     exact lx (n3,((wI (s3.1+1)),(s3.2.1++([u6]:List (List UInt8))),(s3.2.2++[v5]))) hk3 R R
    ·refine cbn (cgs R ?_)
     cases SJ h
     exact lx (n3,((wI (s3.1+1)),s3.2.1,s3.2.2)) hk3 R R
   ·refine cx5 ?_
    cases SJ h
    obtain rfl:_=x3:=hk3
    exact⟨(s3.2.1,s3.2.2),_,ho3,(ml R),R⟩
def Ly (a0:Ab) (a1:Ax) (a2:Int):Option (Ab×Int) :=
 if (decide (1099511627776<a2)) then(some (De,11)) else((H9 a1.Buf).bind λv1=>(C8 a0.Cert a1.ID a2 v1).bind λv2=>if (!decide (v2.2=0)) then(some (De,v2.2)) else((G3 a0.Toks a1.Token a1.Attempt a2).bind λv3=>if (!decide (v3.2=0)) then(some (De,v3.2)) else((Dq a0.Store a2 a1.Buf.L).bind λv4=>if (!decide (v4.2=0)) then(some (De,v4.2)) else((Kc a0 a1.ID).bind λv5=>(I2 v2.1).bind λv6=>(Ju v6 a2).bind λv7=>(Kp v4.1 v7).bind λv8=>some ((Ab.mk v8 v6 v3.1 v5.Open v5.Next),0)))))
theorem Y0 {a0:Ab} {a1:Ax} {a2:Int} {r:Ab×Int} (h:Ly a0 a1 a2=some r):A6 Qx0 68 [.agg (EL.el a0),.agg (EL.el a1),.one (Ii6 a2)] (·=.tup [.agg (EL.el r.1),.one (Ii6 r.2)]):=by
 refine An Tryz.func68 R (nt:=78) R (Nbl R) ?_
 intro w0 S0
 refine crs R (Bb (crs R (ccI h R (λh=>?_) (λh=>?_))))
 ·refine crs R (crt ?_)
  cases SJ h
  exact dE R (F1 R) R
 ·refine csn (Bb (Aa2 ?_))
  obtain⟨v1,hv1,h⟩:=Aa h
  obtain⟨v2,hv2,h⟩:=Aa h
  refine Hs [12,13] [0,1,0,4,0,0,32,96,255,511,1023,1023,0,6143,16383] [[BE a0,BE a1,.box Zba,.hole],[BE a0,BE a1,.box Zba,.box [Znl,Znl]],[BE a0,BE a1,.box Zba,BE v2.1]] (by kernel_rfl) mixed (by kernel_rfl) (by decide) R R R R ?_
  refine evs (md:=[BE a0,BE a1,.box Zba,.dead]) (λhS=>ev (Bp hS) R R (Ah Aqs R) (ev (Bp hS) R R (lo Aj8 R R R) (ev (Bp hS) R R (Ah Ana R) (ev (Bp hS) R R (l1 ti3 R R R) (emv R R (λ_=>Bj R) ?_))))) ⟨⟨R,⟨R,⟨R,⟨trivial,trivial⟩⟩⟩⟩,⟨⟨R,⟨R,⟨R,⟨trivial,trivial⟩⟩⟩⟩,⟨⟨R,⟨R,⟨R,⟨trivial,trivial⟩⟩⟩⟩,trivial⟩⟩⟩
  refine evs (md:=[BE a0,BE a1,.box Zba,.dead]) (λhS=>ev (Bp hS) R R (Ah Aq8 R) (ev (Bp hS) R R (lo Aut R R R) (ed (Bp hS) R R (Cf (fk R) (Af R A2) R (Xs hv1)) (ed (Bp hS) R R (Cf (fk R) (Af R (Af R (Af R (Af R A2)))) R (Xp hv2)) (emv R R (λ_=>Wf R) ?_))))) ⟨⟨R,⟨R,⟨R,⟨trivial,trivial⟩⟩⟩⟩,⟨⟨R,⟨R,⟨R,⟨trivial,trivial⟩⟩⟩⟩,⟨⟨R,⟨R,⟨R,⟨trivial,trivial⟩⟩⟩⟩,trivial⟩⟩⟩
  refine evs (md:=[BE a0,BE a1,.box Zba,.dead]) (λhS=>ev (Bp hS) R R (Ei R R) (ev (Bp hS) R R (Ei R R) (ee (x:=L7 (.lp 3 0)) 0 R R R R R (λζ=>?_) ?_))) ⟨⟨R,⟨R,⟨R,⟨trivial,trivial⟩⟩⟩⟩,⟨⟨R,⟨R,⟨R,⟨trivial,trivial⟩⟩⟩⟩,⟨⟨R,⟨R,⟨R,⟨trivial,trivial⟩⟩⟩⟩,trivial⟩⟩⟩
  ·refine Lz 3 R Azf R ?_
   exact Tt
  refine ee0 1 R R R R (λζ=>?_) ?_
  ·refine rx 1 R (Pf [BE a0,BE a1,.box Zba,BE v2.1] R ?_)
   exact Tt
  refine ev (Aw 2 R R) R R (Hh R) (Abz (Ag (Bb (crs R (ccI h R (λh=>?_) (λh=>?_))))))
  ·refine crs R (crt ?_)
   cases SJ h
   exact dE R (F1 R) R
  ·refine csn (csr (rx 7 R ?_))
   obtain⟨v3,hv3,h⟩:=Aa h
   refine scI R R (U9 hv3) (rsn R (Bb (crs R (ccI h R (λh=>?_) (λh=>?_)))))
   ·refine crs R (crt ?_)
    cases SJ h
    exact dE R (F1 R) R
   ·refine csn (csr (rx 6 R ?_))
    obtain⟨v4,hv4,h⟩:=Aa h
    refine scI R R (Ve hv4) (rsn R (Bb (crs R (ccI h R (λh=>?_) (λh=>?_)))))
    ·refine crs R (crt ?_)
     cases SJ h
     exact dE R (F1 R) R
    ·refine csn (csr (rx 3 R ?_))
     obtain⟨v5,hv5,h⟩:=Aa h
     refine scI R R (R1 hv5) (rsn R (crs R (csr (rx 1 R ?_))))
     obtain⟨v6,hv6,h⟩:=Aa h
     refine scI R R (Y1 hv6) (rsn R (Bb ?_))
     obtain⟨v7,hv7,h⟩:=Aa h
     obtain⟨v8,hv8,h⟩:=Aa h
     refine Hs [7] [0,0,2,0,14,31,63,127] [[BE a0,BE a1,.box Zba,BE v2.1,.box [SL v3.1.L Ad],BE v4.1,BE ({v5 with Cert:=v6,Toks:=v3.1})],[BE a0,BE a1,.box Zba,BE v2.1,.box [SL v3.1.L Ad],BE v4.1,.box [SL v8.Keys (eL eU8),SL v8.Chains Al,Ii6 v8.Ts,SL v6.Txs Az,SL v6.Reads.L Aj,SL v3.1.L Ad,SL v5.Open A7,Ii6 v5.Next]]] (by kernel_rfl) mixed (by kernel_rfl) (by decide) R R R R ?_
     refine ev (Aw 0 R R) R R (lo At5 R R R) (ev (Aw 0 R R) R R (Ah Aqs R) (ev (Aw 0 R R) R R (lo Aj8 R R R) (ev (Aw 0 R R) R R (Bj R) (ed (Aw 0 R R) R R (Cf (fk R) (Af R (Af R A2)) R (R7 hv7)) (ed (Aw 0 R R) R R (Cf (fk R) (Af R (Af R A2)) R (V9 hv8)) (ev (Aw 0 R R) R R (Ah Aq3 R) (ee0 0 R R R R (λζ=>?_) ?_)))))))
     ·refine rx 1 R (Pf [BE a0,BE a1,.box Zba,BE v2.1,.box [SL v3.1.L Ad],BE v4.1,.box [SL v8.Keys (eL eU8),SL v8.Chains Al,Ii6 v8.Ts,SL v6.Txs Az,SL v6.Reads.L Aj,SL v3.1.L Ad,SL v5.Open A7,Ii6 v5.Next]] R ?_)
      exact Tt
     refine Abz (Ag (crs R (Bn ?_)))
     cases SJ h
     exact dE R (Bq R) R
def Fu (a0:Ab) (a1:Int):Option (Ab×Int×Int) :=
 (Fq a0 a1).bind λv1=>if (!decide (v1.2=0)) then((Ck a0 v1.2).bind λv2=>some (v2,0,v1.2)) else((Ly a0 v1.1 (wI (a0.Store.Ts+1))).bind λv3=>if (!decide (v3.2=0)) then((Cd a0 v1.1).bind λv4=>some (v4,0,v3.2)) else(some (v3.1,(wI (a0.Store.Ts+1)),0)))
theorem Pi {a0:Ab} {a1:Int} {r:Ab×Int×Int} (h:Fu a0 a1=some r):A6 Qx0 27 [.agg (EL.el a0),.one (Ii6 a1)] (·=.tup [.agg (EL.el r.1),.one (Ii6 r.2.1),.one (Ii6 r.2.2)]):=by
 refine An Tryz.func27 R (nt:=42) R (Nbl R) ?_
 intro w0 S0
 refine crs R (csr (rx 2 R ?_))
 obtain⟨v1,hv1,h⟩:=Aa h
 refine scI R R (Lw hv1) (rsn R (Bb (crs R (ccI h R (λh=>?_) (λh=>?_)))))
 ·refine csr (rx 2 R ?_)
  obtain⟨v2,hv2,h⟩:=Aa h
  refine scI R R (Hf hv2) (rsn R (crt ?_))
  cases SJ h
  exact dE R (Bq R) R
 ·refine csn (crs R (csr (rx 3 R ?_)))
  obtain⟨v3,hv3,h⟩:=Aa h
  refine scI R R (Y0 hv3) (rsn R (Bb (crs R (ccI h R (λh=>?_) (λh=>?_)))))
  ·refine csr (rx 2 R ?_)
   obtain⟨v4,hv4,h⟩:=Aa h
   refine scI R R (Gp hv4) (rsn R (crt ?_))
   cases SJ h
   exact dE R (Bq R) R
  ·refine csn (crs R (Bn ?_))
   cases SJ h
   exact dE R (Bq R) R
def Un  : Option Bool :=
 (G4 De 1 1 false).bind λv1=>(G4 v1.1 2 1 false).bind λv2=>(Ke v2.1 v1.2.1 [(UInt8.ofBitVec (120#8))]).bind λv3=>(Ke v3.1 v2.2.1 [(UInt8.ofBitVec (121#8))]).bind λv4=>(Kl v4.1 v1.2.1 (Ae.mk [(UInt8.ofBitVec (121#8))] ([]:List UInt8) false)).bind λv5=>(Kl v5.1 v2.2.1 (Ae.mk [(UInt8.ofBitVec (120#8))] ([]:List UInt8) false)).bind λv6=>(Fu v6.1 v1.2.1).bind λv7=>(Fu v7.1 v2.2.1).bind λv8=>if (decide (v1.2.2=0)) then(if (decide (v2.2.2=0)) then(if (!v3.2.2.1) then(if (decide (v7.2.2=0)) then(if (decide (v7.2.1=1)) then(if (decide (v8.2.2=10)) then(if (decide ((v8.1.Open.length:Int)=0)) then((G1 v8.1).bind λv9=>some v9) else(some false)) else(some false)) else(some false)) else(some false)) else(some false)) else(some false)) else(some false)
theorem Aay  {r:Bool} (h:Un=some r):A6 Qx0 9 [] (·=L7 (.b r)):=by
 refine An Tryz.func9 R (nt:=109) R (Nbl R) ?_
 intro w0 S0
 refine crs R (csr (rx 1 R ?_))
 obtain⟨v1,hv1,h⟩:=Aa h
 refine scE R R (F1 R) (Q3 hv1) (rsn R (csr (rx 1 R ?_)))
 obtain⟨v2,hv2,h⟩:=Aa h
 refine scI R R (Q3 hv2) (rsn R (csr (rx 2 R ?_)))
 refine Eg R Tryz.underlying56 ei5 R R (zL.1 R) (by decide) ?_
 refine Pf [BE v2.1,.arr 5 1 0 ([(UInt8.ofBitVec (120#8))].flatMap eU8)] R ?_
 refine Zc R Tryz.underlying56 Tryz.underlying5 R R (Aq (f:=eU8) fR [(UInt8.ofBitVec (120#8))]).symm (by decide) ?_
 obtain⟨v3,hv3,h⟩:=Aa h
 refine scI R R (S9 hv3) (rsn R (csr (rx 2 R ?_)))
 refine Eg R Tryz.underlying56 ei5 R R (zL.1 R) (by decide) ?_
 refine Pf [BE v3.1,.dead,.arr 5 1 0 ([(UInt8.ofBitVec (121#8))].flatMap eU8)] R ?_
 refine Zc R Tryz.underlying56 Tryz.underlying5 R R (Aq (f:=eU8) fR [(UInt8.ofBitVec (121#8))]).symm (by decide) ?_
 obtain⟨v4,hv4,h⟩:=Aa h
 refine scI R R (S9 hv4) (rsn R (csr (rx 2 R ?_)))
 refine Eg R Tryz.underlying56 ei5 R R (zL.1 R) (by decide) ?_
 refine Pf [BE v4.1,.dead,.dead,.arr 5 1 0 ([(UInt8.ofBitVec (121#8))].flatMap eU8)] R ?_
 refine Zc R Tryz.underlying56 Tryz.underlying5 R R (Aq (f:=eU8) fR [(UInt8.ofBitVec (121#8))]).symm (by decide) ?_
 refine rx 1 R ?_
 obtain⟨v5,hv5,h⟩:=Aa h
 refine scE R R (F1 R) (S8 hv5) (rsn R (csr (rx 2 R ?_)))
 refine Eg R Tryz.underlying56 ei5 R R (zL.1 R) (by decide) ?_
 refine Pf [BE v5.1,.dead,.dead,.dead,.arr 5 1 0 ([(UInt8.ofBitVec (120#8))].flatMap eU8)] R ?_
 refine Zc R Tryz.underlying56 Tryz.underlying5 R R (Aq (f:=eU8) fR [(UInt8.ofBitVec (120#8))]).symm (by decide) ?_
 refine rx 1 R ?_
 obtain⟨v6,hv6,h⟩:=Aa h
 refine scE R R (F1 R) (S8 hv6) (rsn R (csr (rx 2 R ?_)))
 obtain⟨v7,hv7,h⟩:=Aa h
 refine scI R R (Pi hv7) (rsn R (csr (rx 2 R ?_)))
 obtain⟨v8,hv8,h⟩:=Aa h
 refine scI R R (Pi hv8) (rsn R (csr (rx 3 R (ssI 79 h R (λh=>?_) (λh=>?_)))))
 ·refine rx 4 R (ssI 83 h R (λh=>?_) (λh=>?_))
  ·refine rx 4 R (ssI 87 h R (λh=>?_) (λh=>?_))
   ·refine rx 4 R (ssI 91 h R (λh=>?_) (λh=>?_))
    ·refine rx 4 R (ssI 95 h R (λh=>?_) (λh=>?_))
     ·refine rx 4 R (ssI 99 h R (λh=>?_) (λh=>?_))
      ·refine rx 6 R (ssI 105 h R (λh=>?_) (λh=>?_))
       ·refine rx 1 R (son R R R ?_)
        obtain⟨v9,hv9,h⟩:=Aa h
        refine scI R R (I4 hv9) (rsn R (Bn ?_))
        cases SJ h
        exact dnT R R R R
       ·refine rsn R (Bn ?_)
        cases SJ h
        exact dnT R R R R
      ·refine rsn R (Bn ?_)
       cases SJ h
       exact dnT R R R R
     ·refine rsn R (Bn ?_)
      cases SJ h
      exact dnT R R R R
    ·refine rsn R (Bn ?_)
     cases SJ h
     exact dnT R R R R
   ·refine rsn R (Bn ?_)
    cases SJ h
    exact dnT R R R R
  ·refine rsn R (Bn ?_)
   cases SJ h
   exact dnT R R R R
 ·refine rsn R (Bn ?_)
  cases SJ h
  exact dnT R R R R
end Go.Proofs.YtkblaobhhoebaaaGreat.Abs
