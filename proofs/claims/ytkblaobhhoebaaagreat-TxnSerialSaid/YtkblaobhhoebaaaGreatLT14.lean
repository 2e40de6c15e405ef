/-
 t
-/
import Derived.Test.YtkblaobhhoebaaaGreatLT14b
set_option linter.unusedVariables false
set_option linter.unusedSimpArgs false
namespace Go.Proofs.YtkblaobhhoebaaaGreat.Abs
open Go.RowKit Go.Proofs
set_option maxRecDepth 100000
def P7 (a0:Ar):Option Bool :=
 if (decide ((a0.Lo.length:Int)<=100)) then(some (decide ((a0.Hi.length:Int)<=100))) else(some false)
theorem Z3 {a0:Ar} {r:Bool} (h:P7 a0=some r):A6 Qx0 29 [.agg (EL.el a0)] (·=L7 (.b r)):=by
 refine An Tryz.func29 R (nt:=13) R (Nbl R) ?_
 intro w0 S0
 refine crs R (csr (rx 5 R (ssI 7 h R (λh=>?_) (λh=>?_))))
 ·refine rsn R (Bn ?_)
  cases SJ h
  exact dnT R R R R
 ·refine rsn R (Bn ?_)
  cases SJ h
  exact dnT R R R R
def Tj (b1:Unit):Option Bool :=
 some true
def Ma (a0:List Dl) (s2:Int):Option (LR (Int) (Unit) (Bool)) :=
 if (decide (s2<(a0.length:Int))) then((idx a0 s2).bind λu3=>(P7 u3.Rng).bind λv4=>if (!v4) then(some (.ret false)) else((idx a0 s2).bind λu5=>if (decide (50<(u5.Key.length:Int))) then(some (.ret false)) else((idx a0 s2).bind λu6=>if (decide (100<(u6.Val.length:Int))) then(some (.ret false)) else(some (.cont (wI (s2+1))))))) else(some (.brk ()))
def Qa (a0:List Dl):Option Bool :=
 if (decide (80<(a0.length:Int))) then(some false) else((Gj (Ma a0) fuel 0).bind λx=>match x with | .inl r=>some r | .inr e7=>Tj e7)
theorem Aai {a0:List Dl} {r:Bool} (h:Qa a0=some r):A6 Qx0 10 [.one (SL a0 Dm)] (·=L7 (.b r)):=by
 refine An Tryz.func10 R (nt:=38) R (Nbl R) ?_
 intro w0 S0
 refine crs R (Bb (crs R (ccI h R (λh=>?_) (λh=>?_))))
 ·refine crs R (crt ?_)
  cases SJ h
  exact dnT R R R R
 ·refine csn (Bb (crs R (cj (Unit) (λb1=>[]) (λb1=>[]) (λb1=>Tj b1=some r) fR (λb1 h=>?_) ?_)))
  ·refine crs R (Bn ?_)
   cases SJ h
   exact dnT R R R R
  ·refine Bh ?_
   obtain⟨x2,hx2,ho2⟩:=Aa h
   refine lpn (α:=Int) (λg=>[(0,L7 (SL a0 Dm)),(3,L7 (Ii6 g.2))]) (λg=>[]) (λg=>Gj (Ma a0) g.1 g.2=some x2) (fuel,0) hx2 R R fR ?_
   rintro⟨n2,s2⟩ h
   obtain⟨n2,y2,rfl,h,hk2⟩:=Ct h
   refine Bb (crs R (ccI h R (λh=>?_) (λh=>?_)))
   ·refine csn (Bb (Bh (csr (rx 2 R ?_))))
    obtain⟨u3,hu3,h⟩:=Aa h
    refine sv R (Bl (f:=Dm) An6 fR R R R R hu3) ?_
    refine sv R (A9 Ahv R) (sv R (A8 (ys:=[SL u3.Rng.Lo eU8,SL u3.Rng.Hi eU8,.b u3.Rng.Open]) Asq R (.cp _) R R) ?_)
    obtain⟨v4,hv4,h⟩:=Aa h
    refine scI R R (Z3 hv4) (rx 2 R (ssI 20 h R (λh=>?_) (λh=>?_)))
    ·refine rsn R (B1 R (λ_=>?_) (λhx=>Bool.noConfusion hx))
     refine crs R (Bn (br5 ?_))
     cases SJ h
     obtain rfl:Sum.inl _=x2:=hk2
     obtain rfl:=zD ho2
     exact dnT R R R R
    ·refine rm 2 R (son R R R ?_)
     obtain⟨u5,hu5,h⟩:=Aa h
     refine sv R (Bl (f:=Dm) An6 fR R R R R hu5) ?_
     refine son R R R (sv R (A9 An0 R) (rx 5 R (ssI 29 h R (λh=>?_) (λh=>?_))))
     ·refine rsn R (B1 R (λ_=>?_) (λhx=>Bool.noConfusion hx))
      refine crs R (Bn (br5 ?_))
      cases SJ h
      obtain rfl:Sum.inl _=x2:=hk2
      obtain rfl:=zD ho2
      exact dnT R R R R
     ·refine rm 2 R (son R R R ?_)
      obtain⟨u6,hu6,h⟩:=Aa h
      refine sv R (Bl (f:=Dm) An6 fR R R R R hu6) ?_
      refine son R R R (sv R (A9 Awl R) (rsn R (ccI h R (λh=>?_) (λh=>?_))))
      ·refine crs R (Bn (br5 ?_))
       cases SJ h
       obtain rfl:Sum.inl _=x2:=hk2
       obtain rfl:=zD ho2
       exact dnT R R R R
      ·refine cbn (cgs R ?_)
       cases SJ h
       exact lx (n2,(wI (s2+1))) hk2 R R
   ·refine cx5 ?_
    cases SJ h
    obtain rfl:_=x2:=hk2
    exact⟨(),_,ho2,trivial,R⟩
def R0 (b2:(List A5)):Option (List A5) :=
 some b2
def Kt (a0:Bc) (a1:Ar) (a2:Int) (a3:Int) (s3:Int×(List A5)):Option (LB (Int×(List A5)) ((List A5))) :=
 if (decide (s3.1<(a0.Keys.length:Int))) then((idx a0.Keys s3.1).bind λu4=>if (decide (a3<=(s3.2.length:Int))) then(some (.brk s3.2)) else((Gw a1 u4).bind λv5=>if (!v5) then(some (.cont ((wI (s3.1+1)),s3.2))) else((idx a0.Chains s3.1).bind λu6=>(Ep u6 a2).bind λv7=>if v7.2 then(if (s3.2.length+[(A5.mk u4 v7.1)].length)*48<=140737488355328 then(some (.cont ((wI (s3.1+1)),(s3.2++[(A5.mk u4 v7.1)])))) else none) else(some (.cont ((wI (s3.1+1)),s3.2)))))) else(some (.brk s3.2))
def Fv (a0:Bc) (a1:Ar) (a2:Int) (a3:Int):Option (List A5) :=
 (Cy a0).bind λv1=>if (!v1) then(some ([]:List A5)) else((B8 (Kt a0 a1 a2 a3) fuel (0,([]:List A5))).bind λe9=>R0 e9)
theorem Tk {a0:Bc} {a1:Ar} {a2:Int} {a3:Int} {r:(List A5)} (h:Fv a0 a1 a2 a3=some r):A6 Qx0 54 [.agg (EL.el a0),.agg (EL.el a1),.one (Ii6 a2),.one (Ii6 a3)] (·=L7 (SL r Bi)):=by
 refine An Tryz.func54 R (nt:=54) R (Nbl R) ?_
 intro w0 S0
 refine crs R ?_
 refine Avn (λ_ _ h=>by rcases h with⟨h|h,_⟩ <;> cases h) ?_
 refine Bb (csr (rx 1 R ?_))
 obtain⟨v1,hv1,h⟩:=Aa h
 refine scI R R (I0 hv1) (rsn R (ccI h R (λh=>?_) (λh=>?_)))
 ·refine crs R (crt ?_)
  cases SJ h
  exact dE R (F1 R) R
 ·refine csn (crs R (Bb (Av5 (Ag (Bb (crs R ?_))))))
  refine Cq 157 2 9 (by decide) R ?_
  refine cj ((List A5)) (λb2=>[(9,L7 (.ls 2 b2.length))]) (λb2=>[BE a0,BE a1,.arr 157 2 0 (b2.flatMap Bi)]) (λb2=>R0 b2=some r) fR (λb2 h=>?_) ?_
  ·refine crs R (Bn ?_)
   cases SJ h
   refine⟨Or.inr R,_,_,_,(Au (rt R) A4),pb,?_⟩
   rfl
  ·refine Bh ?_
   obtain⟨x3,hx3,ho3⟩:=Aa h
   refine lpn (α:=Int×(List A5)) (λg=>[(2,L7 (Ii6 a2)),(3,L7 (Ii6 a3)),(4,L7 (.lp 0 0)),(5,L7 (.lp 1 0)),(9,L7 (.ls 2 g.2.2.length)),(18,L7 (SL a0.Keys (eL eU8))),(19,L7 (Ii6 (a0.Keys.length:Int))),(20,L7 (Ii6 g.2.1))]) (λg=>[BE a0,BE a1,.arr 157 2 0 (g.2.2.flatMap Bi)]) (λg=>B8 (Kt a0 a1 a2 a3) g.1 g.2=some x3) (fuel,(0,([]:List A5))) hx3 R R fR ?_
   rintro⟨n3,s3⟩ h
   obtain⟨n3,y3,rfl,h,hk3⟩:=Cb h
   refine crs R (Bb (ccI h R (λh=>?_) (λh=>?_)))
   ·refine csn (Bb (Bh (csr (rx 1 R ?_))))
    obtain⟨u4,hu4,h⟩:=Aa h
    refine sv R (Bl (f:=(eL eU8)) Ab4 fR R R R R hu4) ?_
    refine rsn R (Bb (Bh (csr (rm 1 R (sv R (Fw Alu R R (Aq (f:=Bi) fR _).symm) ?_)))))
    refine rsn R (ccI h R (λh=>?_) (λh=>?_))
    ·refine Tm (X7 R (Cw (X7 R (Cw (Cw (Ez (Ag ?_)))))))
     cases SJ h
     obtain rfl:_=x3:=hk3
     exact⟨s3.2,_,ho3,(ml R),R⟩
    ·refine csr (rx 2 R ?_)
     obtain⟨v5,hv5,h⟩:=Aa h
     refine scI R R (Kh hv5) (rsn R (ccI h R (λh=>?_) (λh=>?_)))
     ·refine Tm (X7 R (Cw (Ez (Ag (cgs R ?_)))))
      cases SJ h
      exact lx (n3,((wI (s3.1+1)),s3.2)) hk3 R R
     ·refine cbn (csr (rx 3 R ?_))
      obtain⟨u6,hu6,h⟩:=Aa h
      refine sv R (Bl (f:=Al) Au1 fR R R R R hu6) ?_
      refine sv R (A8 (ys:=[SL u6.L Av]) V3 R (.cp _) R R) (rx 1 R ?_)
      obtain⟨v7,hv7,h⟩:=Aa h
      refine scI R R (Sg hv7) (rsn R (crs R (ccI h R (λh=>?_) (λh=>?_))))
      ·refine Bg (rx 4 R ?_)
       refine Eg R Tryz.underlying61 Apc R R (zL.1 R) (by decide) ?_
       refine Pf [BE a0,BE a1,.arr 157 2 0 (s3.2.flatMap Bi),.arr 157 2 0 ([(A5.mk u4 v7.1)].flatMap Bi)] R ?_
       obtain⟨hb8,h⟩:=B5 h
       refine Tp (f:=Bi) (xs:=s3.2) (us:=[(A5.mk u4 v7.1)]) R Tryz.underlying61 Apc Azd fR R R (.one _ _ _ _ (.ls _ _ _ _ _ _ R (Aq (f:=Bi) fR [(A5.mk u4 v7.1)]).symm)) R R R (.sl _ _ _ (Aq (f:=Bi) fR _)) R R hb8 (by decide) ?_
       refine rm 1 R (Fi (A0 (Ag (cgs R ?_))))
       cases SJ h
       exact lx (n3,((wI (s3.1+1)),(s3.2++[(A5.mk u4 v7.1)]))) hk3 R R
      ·refine cbn (cgs R ?_)
       cases SJ h
       exact lx (n3,((wI (s3.1+1)),s3.2)) hk3 R R
   ·refine cx5 ?_
    cases SJ h
    obtain rfl:_=x3:=hk3
    exact⟨s3.2,_,ho3,(ml R),R⟩
def Mu (a0:Ab) (a2:Ar) (a3:Int) (v1:Ax×Int) (b3:Unit):Option (Ab×(List A5)×Int) :=
 (G2 a0 v1.1 a2).bind λv4=>if (!decide (v4.2=0)) then(some (v4.1,([]:List A5),v4.2)) else((Fv v4.1.Store a2 v1.1.Snap 128).bind λv5=>(Cc v1.1.Buf v5 a2 a3).bind λv6=>some (v4.1,v6,0))
def Mp (a0:Ab) (a1:Int) (a2:Ar) (a3:Int):Option (Ab×(List A5)×Int) :=
 (Fq a0 a1).bind λv1=>if (!decide (v1.2=0)) then((Ck a0 v1.2).bind λv2=>some (v2,([]:List A5),v1.2)) else((E1 a2).bind λv7=>if (!v7) then(some (a0,([]:List A5),1)) else((Fs a2).bind λv8=>if v8 then(some (a0,([]:List A5),1)) else(Mu a0 a2 a3 v1 ())))
theorem Aa6 {a0:Ab} {a1:Int} {a2:Ar} {a3:Int} {r:Ab×(List A5)×Int} (h:Mp a0 a1 a2 a3=some r):A6 Qx0 30 [.agg (EL.el a0),.one (Ii6 a1),.agg (EL.el a2),.one (Ii6 a3)] (·=.tup [.agg (EL.el r.1),.one (SL r.2.1 Bi),.one (Ii6 r.2.2)]):=by
 refine An Tryz.func30 R (nt:=58) R (Nbl R) ?_
 intro w0 S0
 refine crs R (csr (rx 2 R ?_))
 obtain⟨v1,hv1,h⟩:=Aa h
 refine scI R R (Lw hv1) (rsn R (Bb (crs R (ccI h R (λh=>?_) (λh=>?_)))))
 ·refine csr (rx 2 R ?_)
  obtain⟨v2,hv2,h⟩:=Aa h
  refine scI R R (Hf hv2) (rsn R (crt ?_))
  cases SJ h
  exact dE R (F1 R) R
 ·refine csn (Bb (Bb (cj3 (Unit) (λb3=>[(3,L7 (Ii6 a3)),(4,L7 (.lp 0 0)),(6,L7 (.lp 1 0)),(8,L7 (.lp 2 0)),(11,L7 (.lp 3 0))]) (λb3=>[BE a0,BE a2,.box Zba,BE v1.1]) (λb3=>Mu a0 a2 a3 v1 b3=some r) fR (λb3 h=>?_) ?_)))
  ·refine csr (rx 3 R ?_)
   obtain⟨v4,hv4,h⟩:=Aa h
   refine scI R R (Vl hv4) (rsn R (Bb (crs R (ccI h R (λh=>?_) (λh=>?_)))))
   ·refine crs R (crt ?_)
    cases SJ h
    exact dE R (F1 R) R
   ·refine csn (csr (rx 5 R ?_))
    obtain⟨v5,hv5,h⟩:=Aa h
    refine scI R R (Tk hv5) (rsn R (Bb ?_))
    obtain⟨v6,hv6,h⟩:=Aa h
    refine Hs [7] [0,0,2,0,0,0,62,127,255,511] [[BE v4.1,BE a2,.box Zba,BE v1.1],[BE v4.1,BE a2,BE v4.1,BE v1.1]] (by kernel_rfl) mixed (by kernel_rfl) (by decide) R R R R ?_
    refine ev (Aw 0 R R) R R (lo Aii R R R) (ev (Aw 0 R R) R R (Ah Aq8 R) (ev (Aw 0 R R) R R (lo Aut R R R) (ev (Aw 0 R R) R R (Bj R) (ev (Aw 0 R R) R R (lo Asq R R R) (ev (Aw 0 R R) R R (Bj R) (ed (Aw 0 R R) R R (Cf (fk R) (Af R (Af R (Af R (Af R A2)))) R (Kv hv6)) (ee0 0 R R R R (λζ=>?_) ?_)))))))
    ·refine rx 1 R (Pf [BE v4.1,BE a2,BE v4.1,BE v1.1] R ?_)
     exact Tt
    refine ev (Aw 1 R R) R R (Hh R) (ev (Aw 1 R R) R R (Hh R) (Abz (Ag (Bn ?_))))
    cases SJ h
    exact dE R (Bq R) R
  ·refine Bg (rx 1 R ?_)
   obtain⟨v7,hv7,h⟩:=Aa h
   refine scI R R (Pq hv7) (rx 2 R (ssI 29 h R (λh=>?_) (λh=>?_)))
   ·refine rsn R (B1 R (λ_=>?_) (λhx=>Bool.noConfusion hx))
    refine crs R (crt ?_)
    cases SJ h
    exact dE R (F1 R) R
   ·refine rx 1 R (son R R R ?_)
    obtain⟨v8,hv8,h⟩:=Aa h
    refine scI R R (Ti hv8) (rsn R (ccI h R (λh=>?_) (λh=>?_)))
    ·refine crs R (crt ?_)
     cases SJ h
     exact dE R (F1 R) R
    ·refine csn ?_
     exact⟨(),_,h,(ml R),R⟩
def K4 (a0:Ab) (a1:Int):Option (Ab×Int) :=
 (Fq a0 a1).bind λv1=>if (!decide (v1.2=0)) then((Ck a0 v1.2).bind λv2=>some (v2,v1.2)) else((Cd a0 v1.1).bind λv3=>some (v3,0))
theorem Z6 {a0:Ab} {a1:Int} {r:Ab×Int} (h:K4 a0 a1=some r):A6 Qx0 26 [.agg (EL.el a0),.one (Ii6 a1)] (·=.tup [.agg (EL.el r.1),.one (Ii6 r.2)]):=by
 refine An Tryz.func26 R (nt:=23) R (Nbl R) ?_
 intro w0 S0
 refine crs R (csr (rx 2 R ?_))
 obtain⟨v1,hv1,h⟩:=Aa h
 refine scI R R (Lw hv1) (rsn R (Bb (crs R (ccI h R (λh=>?_) (λh=>?_)))))
 ·refine csr (rx 2 R ?_)
  obtain⟨v2,hv2,h⟩:=Aa h
  refine scI R R (Hf hv2) (rsn R (crt ?_))
  cases SJ h
  exact dE R (Bq R) R
 ·refine csn (csr (rx 2 R ?_))
  obtain⟨v3,hv3,h⟩:=Aa h
  refine scI R R (Gp hv3) (rsn R (Bn ?_))
  cases SJ h
  exact dE R (Bq R) R
def C3 (v2:A1×Int×Int) (b6:Ab):Option (Ab×Int×Int) :=
 some (b6,v2.2.1,0)
def I1 (a0:Ab) (a1:Int) (a2:Int):Option (Ab×Int×Int) :=
 (G1 a0).bind λv1=>if (!v1) then(some (De,0,1)) else((Co a0.Toks a1 a2).bind λv2=>if (!decide (v2.2.2=0)) then((Ck a0 v2.2.2).bind λv3=>some (v3,0,v2.2.2)) else((Er v2.1 a1).bind λv4=>(J7 ({a0 with Toks:=v2.1}) a1).bind λv5=>if v5.2 then(if (decide (v4.1.State=3)) then(if (decide (v5.1.Attempt<=v4.1.Attempt)) then((Cd ({a0 with Toks:=v2.1}) v5.1).bind λv7=>C3 v2 v7) else(C3 v2 ({a0 with Toks:=v2.1}))) else(C3 v2 ({a0 with Toks:=v2.1}))) else(C3 v2 ({a0 with Toks:=v2.1}))))
theorem Yu {a0:Ab} {a1:Int} {a2:Int} {r:Ab×Int×Int} (h:I1 a0 a1 a2=some r):A6 Qx0 31 [.agg (EL.el a0),.one (Ii6 a1),.one (Ii6 a2)] (·=.tup [.agg (EL.el r.1),.one (Ii6 r.2.1),.one (Ii6 r.2.2)]):=by
 refine An Tryz.func31 R (nt:=67) R (Nbl R) ?_
 intro w0 S0
 refine crs R (Bb (csr (rx 1 R ?_)))
 obtain⟨v1,hv1,h⟩:=Aa h
 refine scI R R (I4 hv1) (rsn R (ccI h R (λh=>?_) (λh=>?_)))
 ·refine crs R (crt ?_)
  cases SJ h
  exact dE R (F1 R) R
 ·refine csn (csr (rx 4 R ?_))
  obtain⟨v2,hv2,h⟩:=Aa h
  refine scI R R (Q7 hv2) (rsn R (Bb (crs R (ccI h R (λh=>?_) (λh=>?_)))))
  ·refine csr (rx 2 R ?_)
   obtain⟨v3,hv3,h⟩:=Aa h
   refine scI R R (Hf hv3) (rsn R (crt ?_))
   cases SJ h
   exact dE R (Bq R) R
  ·refine csn (crs R (csr (rx 2 R ?_)))
   obtain⟨v4,hv4,h⟩:=Aa h
   refine scI R R (Ht hv4) (rsn R (Bb (csr (rx 2 R ?_))))
   obtain⟨v5,hv5,h⟩:=Aa h
   refine scI R R (R8 hv5) (rsn R (Bb (cj3 (Ab) (λb6=>[(3,L7 (.lp 0 0)),(6,L7 (.lp 1 0)),(10,L7 (Ii6 v2.2.1))]) (λb6=>[BE b6,.box Zba,.box [SL v2.1.L Ad],BE v4.1,BE v5.1]) (λb6=>C3 v2 b6=some r) fR (λb6 h=>?_) ?_)))
   ·refine crs R (Bn ?_)
    cases SJ h
    exact dE R (Bq R) R
   ·refine Bg (rm 2 R (ssI 50 h R (λh=>?_) (λh=>?_)))
    ·refine rx 5 R (ssI 55 h R (λh=>?_) (λh=>?_))
     ·refine rsn R (ccI h R (λh=>?_) (λh=>?_))
      ·refine Bg (rx 2 R ?_)
       obtain⟨v7,hv7,h⟩:=Aa h
       refine scI R R (Gp hv7) (rsn R ?_)
       exact⟨v7,_,h,(ml R),R⟩
      ·refine csn ?_
       exact⟨{a0 with Toks:=v2.1},_,h,(ml R),R⟩
     ·refine rsn R (B1 R (λhx=>Bool.noConfusion hx) (λ_=>?_))
      refine csn ?_
      exact⟨{a0 with Toks:=v2.1},_,h,(ml R),R⟩
    ·refine rsn R (B1 R (λhx=>Bool.noConfusion hx) (λ_=>?_))
     refine csn ?_
     exact⟨{a0 with Toks:=v2.1},_,h,(ml R),R⟩
def Lu (a0:Int) (b1:Unit):Option (List As) :=
 if (decide (0<(wI (a0-(wI (0-0)))))) then(if 0<(wI (a0-(wI (0-0))))/\(wI (a0-(wI (0-0))))*((32:Nat):Int)<=281474976710656 then(if (0:Int)<=0/\0<=((List.replicate (wI (a0-(wI (0-0)))).toNat (As.mk 0 0 0 0)).length:Int) then(some ((List.replicate (wI (a0-(wI (0-0)))).toNat (As.mk 0 0 0 0)).take (0:Int).toNat)) else none) else none) else(some ([]:List As))
def Km (a0:Int):Option (List As) :=
 if (decide (a0<0)) then none else(Lu a0 ())
theorem Wc {a0:Int} {r:(List As)} (h:Km a0=some r):Cv Qx0 220 [] [.one (Znl),.one (Ii6 a0)] (λy m'=>y=L7 (.ls 0 r.length)/\m'=[.arr 145 4 0 (r.flatMap Ad)]):=by
 refine Cs Tryz.func220 R (nt:=27) R (Nbl R) ?_
 intro w0 S0 X0 H0
 refine crs R (Bb (crs R (cj (Unit) (λb1=>[(0,L7 (Znl)),(1,L7 (Ii6 a0))]) (λb1=>[]) (λb1=>Lu a0 b1=some r) fR (λb1 h=>?_) ?_)))
 ·refine Bb (csr (rm 2 R (sv R (E7 Aj1 R) (rm 1 R (sv R (Ef Aj1 R) (rsn R (crs R (ccI h R (λh=>?_) (λh=>?_)))))))))
  ·refine Bg (rm 2 R (sv R (E7 Aj1 R) (sv R (Kw Aj1 R R) (rx 1 R ?_))))
   obtain⟨hm2,h⟩:=B5 h
   refine Avo (f:=Ad) (z:=(As.mk 0 0 0 0)) R Tryz.underlying35 Aj2 Tryz.underlying3 fR R R R hm2 (by decide) ?_
   refine rm 1 R (sv R (Ef Aj1 R) ?_)
   obtain⟨hs3,h⟩:=B5 h
   refine Ab0 (f:=Ad) R Aj1 fR R R R R R hs3 ?_
   refine rsn R (crs R (Bn ?_))
   cases SJ h
   exact⟨Or.inr R,_,[1],[.one (.ls 0 ((List.replicate (wI (a0-(wI (0-0)))).toNat (As.mk 0 0 0 0)).take (0:Int).toNat).length)],[.arr 145 4 0 (((List.replicate (wI (a0-(wI (0-0)))).toNat (As.mk 0 0 0 0)).take (0:Int).toNat).flatMap Ad)],(Au (rt R) A4),R,R,⟨by decide,R⟩,R,R,⟨R,R⟩⟩
  ·refine csn (crs R ?_)
   refine Cq 145 4 4 (by decide) R ?_
   refine Bn ?_
   cases SJ h
   exact⟨Or.inr R,_,[0],[.one (.ls 0 ([]:List As).length)],[.arr 145 4 0 (([]:List As).flatMap Ad)],(Au (rt R) A4),R,R,⟨by decide,R⟩,R,R,⟨R,R⟩⟩
 ·refine ccI h R (λh=>?_) (λh=>?_)
  ·cases h
  ·refine csn ?_
   exact⟨(),_,h,(ml R),R⟩
def Ot (b3:(List As)):Option (List As) :=
 some b3
def Es (a0:List (List As)) (s4:Int×(List As)):Option (LB (Int×(List As)) ((List As))) :=
 if (decide (s4.1<(a0.length:Int))) then((idx a0 s4.1).bind λu5=>if (s4.2.length+u5.length)*32<=140737488355328 then(some (.cont ((wI (s4.1+1)),(s4.2++u5)))) else none) else(some (.brk s4.2))
def J9 (a0:List (List As)) (b1:Int):Option (List As) :=
 (Km b1).bind λv2=>(B8 (Es a0) fuel (0,v2)).bind λe7=>Ot e7
def Ex (a0:List (List As)) (s8:Int×Int):Option (LB (Int×Int) (Int)) :=
 if (decide (s8.2<(a0.length:Int))) then((idx a0 s8.2).bind λu9=>if (decide ((wI (s8.1+(u9.length:Int)))<0)) then none else(some (.cont ((wI (s8.1+(u9.length:Int))),(wI (s8.2+1)))))) else(some (.brk s8.1))
def Jl (a0:List (List As)):Option (List As) :=
 (B8 (Ex a0) fuel (0,0)).bind λe10=>J9 a0 e10
theorem U8 {a0:List (List As)} {r:(List As)} (h:Jl a0=some r):A6 Qx0 151 [.one (SL a0 (eL Ad))] (·=L7 (SL r Ad)):=by
 refine An Tryz.func151 R (nt:=36) R (Nbl R) ?_
 intro w0 S0
 refine crs R (crs R (Bb (crs R (cj (Int) (λb1=>[(0,L7 (SL a0 (eL Ad))),(3,L7 (Ii6 b1))]) (λb1=>[]) (λb1=>J9 a0 b1=some r) fR (λb1 h=>?_) ?_))))
 ·refine csr (rx 1 R ?_)
  obtain⟨v2,hv2,h⟩:=Aa h
  refine Gi (x':=L7 (.ls 0 v2.length)) (M':=[.arr 145 4 0 (v2.flatMap Ad)]) [] R (fk R) (.func _) (Af R (Af R A2)) (Wc hv2) R R (by decide) R R R ?_
  refine rsn R (Bb (crs R (cj ((List As)) (λb3=>[(6,L7 (.ls 0 b3.length))]) (λb3=>[.arr 145 4 0 (b3.flatMap Ad)]) (λb3=>Ot b3=some r) fR (λb3 h=>?_) ?_)))
  ·refine crs R (Bn ?_)
   cases SJ h
   refine⟨Or.inr R,_,_,_,(Au (rt R) A4),pb,?_⟩
   rfl
  ·refine Bh ?_
   obtain⟨x4,hx4,ho4⟩:=Aa h
   refine lpn (α:=Int×(List As)) (λg=>[(6,L7 (.ls 0 g.2.2.length)),(25,L7 (SL a0 (eL Ad))),(26,L7 (Ii6 (a0.length:Int))),(27,L7 (Ii6 g.2.1))]) (λg=>[.arr 145 4 0 (g.2.2.flatMap Ad)]) (λg=>B8 (Es a0) g.1 g.2=some x4) (fuel,(0,v2)) hx4 R R fR ?_
   rintro⟨n4,s4⟩ h
   obtain⟨n4,y4,rfl,h,hk4⟩:=Cb h
   refine crs R (Bb (ccI h R (λh=>?_) (λh=>?_)))
   ·refine csn (csb ?_)
    obtain⟨u5,hu5,h⟩:=Aa h
    refine sv R (Bl (f:=(eL Ad)) Avv fR R R R R hu5) ?_
    refine rsn R (Bg (rx 2 R ?_))
    obtain⟨hb6,h⟩:=B5 h
    refine Tp (f:=Ad) (xs:=s4.2) (us:=u5) R Tryz.underlying35 Aj2 Axu fR R R (.one _ _ _ _ (.id _ R)) R R R (.sl _ _ _ (Aq (f:=Ad) fR _)) R R hb6 (by decide) ?_
    refine rm 1 R (Fi (A0 (Ag (cgs R ?_))))
    cases SJ h
    exact lx (n4,((wI (s4.1+1)),(s4.2++u5))) hk4 R R
   ·refine cx5 ?_
    cases SJ h
    obtain rfl:_=x4:=hk4
    exact⟨s4.2,_,ho4,(ml R),R⟩
 ·refine Bh ?_
  obtain⟨x8,hx8,ho8⟩:=Aa h
  refine lpn (α:=Int×Int) (λg=>[(0,L7 (SL a0 (eL Ad))),(3,L7 (Ii6 g.2.1)),(9,L7 (SL a0 (eL Ad))),(10,L7 (Ii6 (a0.length:Int))),(11,L7 (Ii6 g.2.2))]) (λg=>[]) (λg=>B8 (Ex a0) g.1 g.2=some x8) (fuel,(0,0)) hx8 R R fR ?_
  rintro⟨n8,s8⟩ h
  obtain⟨n8,y8,rfl,h,hk8⟩:=Cb h
  refine crs R (Bb (ccI h R (λh=>?_) (λh=>?_)))
  ·refine csn (csb ?_)
   obtain⟨u9,hu9,h⟩:=Aa h
   refine sv R (Bl (f:=(eL Ad)) Avv fR R R R R hu9) ?_
   refine rsn R (crs R (crs R (ccI h R (λh=>?_) (λh=>?_))))
   ·cases h
   ·refine cbn (cgs R ?_)
    cases SJ h
    exact lx (n8,((wI (s8.1+(u9.length:Int))),(wI (s8.2+1)))) hk8 R R
  ·refine cx5 ?_
   cases SJ h
   obtain rfl:_=x8:=hk8
   exact⟨s8.1,_,ho8,(ml R),R⟩
def Jv (a0:A1) (a1:Int) (b1:Unit):Option (A1×Int) :=
 (Er a0 a1).bind λv2=>if (!v2.2) then(some (B3,6)) else(if (decide (v2.1.State=1)) then(some (B3,7)) else((Ee a0 a1).bind λv3=>(cut a0.L 0 v3).bind λc4=>(cut a0.L (wI (v3+1)) (a0.L.length:Int)).bind λc5=>(Jl ([c4,c5]:List (List As))).bind λv6=>some ((A1.mk v6),0)))
def Gs (a0:A1) (a1:Int):Option (A1×Int) :=
 (Cx a0).bind λv7=>if (!v7) then(some (B3,1)) else((Cg a1 0).bind λv8=>if (!v8) then(some (B3,1)) else(Jv a0 a1 ()))
theorem Uz {a0:A1} {a1:Int} {r:A1×Int} (h:Gs a0 a1=some r):A6 Qx0 75 [.agg [SL a0.L Ad],.one (Ii6 a1)] (·=.tup [.agg [SL r.1.L Ad],.one (Ii6 r.2)]):=by
 refine An Tryz.func75 R (nt:=48) R (Nbl R) ?_
 intro w0 S0
 refine crs R (Bb (Bb (cj3 (Unit) (λb1=>[(1,L7 (Ii6 a1)),(2,L7 (.lp 0 0)),(4,L7 (.lp 1 0))]) (λb1=>[.box [SL a0.L Ad],.box [Znl]]) (λb1=>Jv a0 a1 b1=some r) fR (λb1 h=>?_) ?_)))
 ·refine csr (rx 2 R ?_)
  obtain⟨v2,hv2,h⟩:=Aa h
  refine scI R R (Ht hv2) (rsn R (Bb (Bh (crs R (ccI h R (λh=>?_) (λh=>?_))))))
  ·refine crs R (Bn (br2 ?_))
   cases SJ h
   exact dE R (F1 R) R
  ·refine crs R (ccI h R (λh=>?_) (λh=>?_))
   ·refine crs R (Bn (br2 ?_))
    cases SJ h
    exact dE R (F1 R) R
   ·refine cbn (csr (rx 2 R ?_))
    obtain⟨v3,hv3,h⟩:=Aa h
    refine scI R R (Ig hv3) (rsn R (Bb ?_))
    obtain⟨c4,hc4,h⟩:=Aa h
    obtain⟨c5,hc5,h⟩:=Aa h
    obtain⟨v6,hv6,h⟩:=Aa h
    refine Hs [12] [0,1,0,7,0,16,0,64,240,511,1023,2047,4095,8191] [[.box [SL a0.L Ad],.box [Znl],BE v2.1],[.box [SL a0.L Ad],.box [SL v6 Ad],BE v2.1]] (by kernel_rfl) mixed (by kernel_rfl) (by decide) R R R R ?_
    refine ev (Aw 0 R R) R R (Ah Aqy R) (ev (Aw 0 R R) R R (l1 Aza R R R) (ev (Aw 0 R R) R R (Bj R) (ev (Aw 0 R R) R R (Uo (f:=Ad) (lo:=0) (hi:=v3) Aj1 fR R R R R9 (Mq R (zAg (Ro hc4).1.1 (Ro hc4).1.2.1)) hc4) ?_)))
    refine ev (Aw 0 R R) R R (Ah Aqy R) (ev (Aw 0 R R) R R (l1 Aza R R R) (ev (Aw 0 R R) R R (Bj R) (ev (Aw 0 R R) R R (Agr R R) ?_)))
    refine ev (Aw 0 R R) R R (Uo (f:=Ad) (lo:=(wI (v3+1))) (hi:=(a0.L.length:Int)) Aj1 fR R R R (Mq R (Ro hc5).1.1) (by exact R) hc5) ?_
    refine ed (Aw 0 R R) R R (Z1 (out:=([c4,c5]:List (List As)).flatMap (eL Ad)) Tryz.underlying337 Az1 (Bo R (Bo R Dh)) (.cons _ _ _ _ _ _ _ R R (Nbl R) (.cons _ _ _ _ _ _ _ R R (Nbl R) (.nil _))) R (by decide)) ?_
    refine ed (Aw 0 R R) R R (Cf (fk R) (Af R A2) R (U8 hv6)) (ev (Aw 0 R R) R R (O4 Az4 Azq (Bo R Dh) (.cons _ _ _ _ _ _ _ R R (Nbl R) (.nil _))) (ee0 0 R R R R (λζ=>?_) ?_))
    ·refine rx 1 R (Pf [.box [SL a0.L Ad],.box [SL v6 Ad],BE v2.1] R ?_)
     exact Tt
    refine ev (Aw 1 R R) R R (Hh R) (Abz (Ag (Bn ?_)))
    cases SJ h
    exact dE R (Bq R) R
 ·refine Bg (rx 1 R ?_)
  obtain⟨v7,hv7,h⟩:=Aa h
  refine scI R R (Hy hv7) (rx 2 R (ssI 12 h R (λh=>?_) (λh=>?_)))
  ·refine rsn R (B1 R (λ_=>?_) (λhx=>Bool.noConfusion hx))
   refine crs R (crt ?_)
   cases SJ h
   exact dE R (F1 R) R
  ·refine rm 1 R (son R R R ?_)
   obtain⟨v8,hv8,h⟩:=Aa h
   refine scI R R (C7 hv8) (rsn R (ccI h R (λh=>?_) (λh=>?_)))
   ·refine crs R (crt ?_)
    cases SJ h
    exact dE R (F1 R) R
   ·refine csn ?_
    exact⟨(),_,h,(ml R),R⟩
def H6 (a0:Ab) (a1:Int):Option (Ab×Int) :=
 (G1 a0).bind λv1=>if (!v1) then(some (De,1)) else((Gs a0.Toks a1).bind λv2=>if (!decide (v2.2=0)) then((Ck a0 v2.2).bind λv3=>some (v3,v2.2)) else(some ({a0 with Toks:=v2.1},0)))
theorem X1 {a0:Ab} {a1:Int} {r:Ab×Int} (h:H6 a0 a1=some r):A6 Qx0 32 [.agg (EL.el a0),.one (Ii6 a1)] (·=.tup [.agg (EL.el r.1),.one (Ii6 r.2)]):=by
 refine An Tryz.func32 R (nt:=28) R (Nbl R) ?_
 intro w0 S0
 refine crs R (Bb (csr (rx 1 R ?_)))
 obtain⟨v1,hv1,h⟩:=Aa h
 refine scI R R (I4 hv1) (rsn R (ccI h R (λh=>?_) (λh=>?_)))
 ·refine crs R (crt ?_)
  cases SJ h
  exact dE R (F1 R) R
 ·refine csn (csr (rx 3 R ?_))
  obtain⟨v2,hv2,h⟩:=Aa h
  refine scI R R (Uz hv2) (rsn R (Bb (crs R (ccI h R (λh=>?_) (λh=>?_)))))
  ·refine csr (rx 2 R ?_)
   obtain⟨v3,hv3,h⟩:=Aa h
   refine scI R R (Hf hv3) (rsn R (crt ?_))
   cases SJ h
   exact dE R (Bq R) R
  ·refine csn (crs R (crs R (Bn ?_)))
   cases SJ h
   exact dE R (Bq R) R
def Qd (a0:Ab) (a1:Dl) (a2:Int):Option (Ab×Gg) :=
 if (decide (a1.What<=1)) then((G4 a0 a1.Token a1.Attempt a1.RO).bind λv1=>some (v1.1,(Gg.mk v1.2.1 false ([]:List UInt8) ([]:List A5) v1.2.2))) else(if (decide (a1.What<=3)) then((Ke a0 a2 a1.Key).bind λv2=>some (v2.1,(Gg.mk 0 v2.2.2.1 v2.2.1 ([]:List A5) v2.2.2.2))) else(if (decide (a1.What=4)) then((Mp a0 a2 a1.Rng 8).bind λv3=>some (v3.1,(Gg.mk 0 false ([]:List UInt8) v3.2.1 v3.2.2))) else(if (decide (a1.What<=7)) then((Kl a0 a2 (Ae.mk a1.Key a1.Val a1.Del)).bind λv4=>some (v4.1,(Gg.mk 0 false ([]:List UInt8) ([]:List A5) v4.2))) else(if (decide (a1.What<=10)) then((Fu a0 a2).bind λv5=>some (v5.1,(Gg.mk v5.2.1 false ([]:List UInt8) ([]:List A5) v5.2.2))) else(if (decide (a1.What=11)) then((K4 a0 a2).bind λv6=>some (v6.1,(Gg.mk 0 false ([]:List UInt8) ([]:List A5) v6.2))) else(if (decide (a1.What=12)) then((I1 a0 a1.Token a1.Attempt).bind λv7=>some (v7.1,(Gg.mk v7.2.1 false ([]:List UInt8) ([]:List A5) v7.2.2))) else((H6 a0 a1.Token).bind λv8=>some (v8.1,(Gg.mk 0 false ([]:List UInt8) ([]:List A5) v8.2)))))))))
theorem Aeg {a0:Ab} {a1:Dl} {a2:Int} {r:Ab×Gg} (h:Qd a0 a1 a2=some r):A6 Qx0 11 [.agg (EL.el a0),.agg (EL.el a1),.one (Ii6 a2)] (·=.tup [.agg (EL.el r.1),.agg (EL.el r.2)]):=by
 refine An Tryz.func11 R (nt:=162) R (Nbl R) ?_
 intro w0 S0
 refine crs R (Bb (Bh (crs R (ccI h R (λh=>?_) (λh=>?_)))))
 ·refine csr (rx 7 R ?_)
  obtain⟨v1,hv1,h⟩:=Aa h
  refine scI R R (Q3 hv1) (rsn R (crs R (Bn (br2 ?_))))
  cases SJ h
  exact dE R (F1 R) R
 ·refine crs R (ccI h R (λh=>?_) (λh=>?_))
  ·refine csr (rx 4 R ?_)
   obtain⟨v2,hv2,h⟩:=Aa h
   refine scI R R (S9 hv2) (rsn R (crs R (Bn (br2 ?_))))
   cases SJ h
   exact dE R (F1 R) R
  ·refine crs R (ccI h R (λh=>?_) (λh=>?_))
   ·refine csr (rx 4 R ?_)
    obtain⟨v3,hv3,h⟩:=Aa h
    refine scI R R (Aa6 hv3) (rsn R (crs R (Bn (br2 ?_))))
    cases SJ h
    exact dE R (F1 R) R
   ·refine crs R (ccI h R (λh=>?_) (λh=>?_))
    ·refine csr (rx 9 R ?_)
     obtain⟨v4,hv4,h⟩:=Aa h
     refine scI R R (S8 hv4) (rsn R (crs R (Bn (br2 ?_))))
     cases SJ h
     exact dE R (F1 R) R
    ·refine crs R (ccI h R (λh=>?_) (λh=>?_))
     ·refine csr (rx 2 R ?_)
      obtain⟨v5,hv5,h⟩:=Aa h
      refine scI R R (Pi hv5) (rsn R (crs R (Bn (br2 ?_))))
      cases SJ h
      exact dE R (F1 R) R
     ·refine crs R (ccI h R (λh=>?_) (λh=>?_))
      ·refine csr (rx 2 R ?_)
       obtain⟨v6,hv6,h⟩:=Aa h
       refine scI R R (Z6 hv6) (rsn R (crs R (Bn (br2 ?_))))
       cases SJ h
       exact dE R (F1 R) R
      ·refine crs R (ccI h R (λh=>?_) (λh=>?_))
       ·refine csr (rx 5 R ?_)
        obtain⟨v7,hv7,h⟩:=Aa h
        refine scI R R (Yu hv7) (rsn R (crs R (Bn (br2 ?_))))
        cases SJ h
        exact dE R (F1 R) R
       ·refine cbn (csr (rx 3 R ?_))
        obtain⟨v8,hv8,h⟩:=Aa h
        refine scI R R (X1 hv8) (rsn R (crs R (Bn ?_)))
        cases SJ h
        exact dE R (F1 R) R
def N9 (b1:Ab×(List Ai)):Option (Ab×(List Ai)) :=
 some (b1.1,b1.2)
def B7 (s2:Int×Ab×(List Ai)×(List Ai)) (v5:Ab×Gg) (b9:(List Ai)×(List Ai)):Option (LB (Int×Ab×(List Ai)×(List Ai)) (Ab×(List Ai))) :=
 some (.cont ((wI (s2.1+1)),v5.1,b9.1,b9.2))
def Ch (a0:List Dl) (s2:Int×Ab×(List Ai)×(List Ai)) (b3:Int) (v5:Ab×Gg) (b8:(List Ai)):Option (LB (Int×Ab×(List Ai)×(List Ai)) (Ab×(List Ai))) :=
 (idx a0 s2.1).bind λu10=>if (decide (7<u10.What)) then((idx a0 s2.1).bind λu11=>if (decide (u11.What<=10)) then(if (decide (v5.2.e_=0)) then(if (decide (b3<(b8.length:Int))) then((idx b8 b3).bind λu12=>(idx (b8.set b3.toNat ({u12 with end_:=v5.2.n_})) b3).bind λu13=>if (s2.2.2.1.length+[u13].length)*48<=140737488355328/\v5.2.n_≠0 then(B7 s2 v5 ((s2.2.2.1++[u13]),(b8.set b3.toNat ({u12 with end_:=v5.2.n_})))) else none) else(B7 s2 v5 (s2.2.2.1,b8))) else(B7 s2 v5 (s2.2.2.1,b8))) else(B7 s2 v5 (s2.2.2.1,b8))) else(B7 s2 v5 (s2.2.2.1,b8))
def C4 (a0:List Dl) (s2:Int×Ab×(List Ai)×(List Ai)) (b3:Int) (v5:Ab×Gg) (b7:(List Ai)):Option (LB (Int×Ab×(List Ai)×(List Ai)) (Ab×(List Ai))) :=
 (idx a0 s2.1).bind λu15=>if (decide (1<u15.What)) then((idx a0 s2.1).bind λu16=>if (decide (u16.What<=7)) then(if (decide (v5.2.e_=0)) then(if (decide (b3<(b7.length:Int))) then((idx b7 b3).bind λu17=>(idx a0 s2.1).bind λu18=>if (u17.acts_.length+([(B9.mk u18 v5.2)]:List B9).length)<=maxLen/\(u17.acts_.length+([(B9.mk u18 v5.2)]:List B9).length)*216<=140737488355328/\u17.end_=0 then(Ch a0 s2 b3 v5 (b7.set b3.toNat ({u17 with acts_:=(u17.acts_++([(B9.mk u18 v5.2)]:List B9))}))) else none) else(Ch a0 s2 b3 v5 b7)) else(Ch a0 s2 b3 v5 b7)) else(Ch a0 s2 b3 v5 b7)) else(Ch a0 s2 b3 v5 b7)
def Bv (a0:List Dl) (s2:Int×Ab×(List Ai)×(List Ai)) (b3:Int) (v5:Ab×Gg) (b6:Unit):Option (LB (Int×Ab×(List Ai)×(List Ai)) (Ab×(List Ai))) :=
 (idx a0 s2.1).bind λu21=>if (decide (u21.What<=1)) then(if (decide (v5.2.e_=0)) then(if (s2.2.2.2.length+[(Ai.mk v5.2.n_ s2.2.1.Store.Ts 0 [])].length)*48<=140737488355328 then(C4 a0 s2 b3 v5 (s2.2.2.2++[(Ai.mk v5.2.n_ s2.2.1.Store.Ts 0 [])])) else none) else(C4 a0 s2 b3 v5 s2.2.2.2)) else(C4 a0 s2 b3 v5 s2.2.2.2)
def C0 (a0:List Dl) (s2:Int×Ab×(List Ai)×(List Ai)) (b3:Int):Option (LB (Int×Ab×(List Ai)×(List Ai)) (Ab×(List Ai))) :=
 (idx a0 s2.1).bind λu4=>(Qd s2.2.1 u4 b3).bind λv5=>if (decide (v5.2.e_=1)) then(if (decide (v5.1.Next=0)) then(some (.cont ((wI (s2.1+1)),s2.2.1,s2.2.2.1,s2.2.2.2))) else(Bv a0 s2 b3 v5 ())) else(Bv a0 s2 b3 v5 ())
def Ic (a0:List Dl) (s2:Int×Ab×(List Ai)×(List Ai)):Option (LB (Int×Ab×(List Ai)×(List Ai)) (Ab×(List Ai))) :=
 if (decide (s2.1<(a0.length:Int))) then(if (decide (0<(s2.2.2.2.length:Int))) then((idx a0 s2.1).bind λu23=>if (s2.2.2.2.length:Int)≠0 then(C0 a0 s2 ((wI ((BitVec.ofInt 64 u23.N &&& BitVec.ofInt 64 65535).toNat:Int)).tmod (s2.2.2.2.length:Int))) else none) else(C0 a0 s2 0)) else(some (.brk (s2.2.1,s2.2.2.1)))
def Ha (a0:List Dl):Option (Ab×(List Ai)) :=
 (B8 (Ic a0) fuel (0,De,([]:List Ai),([]:List Ai))).bind λe25=>N9 e25
class PlayC:Prop where
 c:∀ {a0:List Dl} {r:Ab×(List Ai)},Ha a0=some r->A6 Qx0 17 [.one (SL a0 Dm)] (·=.tup [.agg (EL.el r.1),.one (SL r.2 Cl)])
theorem Y8 [PlayC] {a0:List Dl} {r:Ab×(List Ai)} (h:Ha a0=some r):A6 Qx0 17 [.one (SL a0 Dm)] (·=.tup [.agg (EL.el r.1),.one (SL r.2 Cl)]):=PlayC.c h
def R5 (b1:(List Ae)):Option (List Ae) :=
 some b1
def K5 (a0:Ai) (s2:Int×(List Ae)):Option (LB (Int×(List Ae)) ((List Ae))) :=
 if (decide (s2.1<(a0.acts_.length:Int))) then((idx a0.acts_ s2.1).bind λu3=>if (decide (u3.o_.What<5)) then(some (.cont ((wI (s2.1+1)),s2.2))) else((Br (Bf.mk s2.2) (Ae.mk u3.o_.Key u3.o_.Val u3.o_.Del)).bind λv4=>if (decide (v4.2=0)) then(some (.cont ((wI (s2.1+1)),v4.1.L))) else(some (.cont ((wI (s2.1+1)),s2.2))))) else(some (.brk s2.2))
def L3 (a0:Ai):Option (List Ae) :=
 (B8 (K5 a0) fuel (0,([]:List Ae))).bind λe5=>R5 e5
theorem Te {a0:Ai} {r:(List Ae)} (h:L3 a0=some r):A6 Qx0 50 [.agg (EL.el a0)] (·=L7 (SL r Am)):=by
 refine An Tryz.func50 R (nt:=42) R (Nbl R) ?_
 intro w0 S0
 refine crs R (crs R (Bb (crs R (cj ((List Ae)) (λb1=>[(3,L7 (.lp 1 0))]) (λb1=>[BE a0,.box [SL b1 Am]]) (λb1=>R5 b1=some r) fR (λb1 h=>?_) ?_))))
 ·refine crs R (Bn ?_)
  cases SJ h
  exact dnT R R R R
 ·refine Bh (Uj 1 0 R R Oe.nil R ?_)
  obtain⟨x2,hx2,ho2⟩:=Aa h
  refine lpn (α:=Int×(List Ae)) (λg=>[(1,L7 (.lp 0 0)),(3,L7 (.lp 1 0)),(4,L7 (Ii6 g.2.1))]) (λg=>[BE a0,.box [SL g.2.2 Am]]) (λg=>B8 (K5 a0) g.1 g.2=some x2) (fuel,(0,([]:List Ae))) hx2 R R fR ?_
  rintro⟨n2,s2⟩ h
  obtain⟨n2,y2,rfl,h,hk2⟩:=Cb h
  refine Bb (crs R (ccI h R (λh=>?_) (λh=>?_)))
  ·refine csn (Bb (Bh (csr (rx 3 R ?_))))
   obtain⟨u3,hu3,h⟩:=Aa h
   refine sv R (Bl (f:=Dj) Axt fR R R R R hu3) ?_
   refine sv R (A9 Afh R) (sv R (A8 (ys:=[Ii6 u3.o_.What,Ii6 u3.o_.N,Ii6 u3.o_.Token,Ii6 u3.o_.Attempt,.b u3.o_.RO,.b u3.o_.Del,SL u3.o_.Key eU8,SL u3.o_.Val eU8,SL u3.o_.Rng.Lo eU8,SL u3.o_.Rng.Hi eU8,.b u3.o_.Rng.Open]) Aw3 R (.cp _) R R) (rsn R (Bb (crs R (ccI h R (λh=>?_) (λh=>?_))))))
   ·refine Tm (Cw (Ez (Ag (cgs R ?_))))
    cases SJ h
    exact lx (n2,((wI (s2.1+1)),s2.2)) hk2 R R
   ·refine csn (csr (rx 8 R ?_))
    obtain⟨v4,hv4,h⟩:=Aa h
    refine scI R R (Ph hv4) (rsn R (crs R (ccI h R (λh=>?_) (λh=>?_))))
    ·refine Bg (rx 2 R (Fi (A0 (Ag (cgs R ?_)))))
     cases SJ h
     exact lx (n2,((wI (s2.1+1)),v4.1.L)) hk2 R R
    ·refine cbn (cgs R ?_)
     cases SJ h
     exact lx (n2,((wI (s2.1+1)),s2.2)) hk2 R R
  ·refine cx5 ?_
   cases SJ h
   obtain rfl:_=x2:=hk2
   exact⟨s2.2,_,ho2,(ml R),R⟩
def Qm (a0:List UInt8) (a1:List UInt8) (b1:Unit):Option Int :=
 if (decide ((a0.length:Int)<(a1.length:Int))) then(some (-1)) else(if (decide ((a1.length:Int)<(a0.length:Int))) then(some 1) else(some 0))
def Qw (a0:List UInt8) (a1:List UInt8) (s2:Int) (b3:Unit):Option (LR (Int) (Unit) (Int)) :=
 (idx a0 s2).bind λu4=>(idx a1 s2).bind λu5=>if (decide ((u4.toBitVec.toNat:Int)<(u5.toBitVec.toNat:Int))) then(some (.ret (-1))) else((idx a0 s2).bind λu6=>(idx a1 s2).bind λu7=>if (decide ((u7.toBitVec.toNat:Int)<(u6.toBitVec.toNat:Int))) then(some (.ret 1)) else(some (.cont (wI (s2+1)))))
def M9 (a0:List UInt8) (a1:List UInt8) (s2:Int):Option (LR (Int) (Unit) (Int)) :=
 if (decide (s2<(a0.length:Int))) then(if (decide (s2<(a1.length:Int))) then(Qw a0 a1 s2 ()) else(some (.brk ()))) else(some (.brk ()))
def Ow (a0:List UInt8) (a1:List UInt8):Option Int :=
 (Gj (M9 a0 a1) fuel 0).bind λx=>match x with | .inl r=>some r | .inr e8=>Qm a0 a1 e8
theorem Vj {a0:List UInt8} {a1:List UInt8} {r:Int} (h:Ow a0 a1=some r):A6 Qx0 168 [.one (SL a0 eU8),.one (SL a1 eU8)] (·=L7 (Ii6 r)):=by
 refine An Tryz.func168 R (nt:=46) R (Nbl R) ?_
 intro w0 S0
 refine crs R (Bb (crs R (cj (Unit) (λb1=>[(0,L7 (SL a0 eU8)),(1,L7 (SL a1 eU8))]) (λb1=>[]) (λb1=>Qm a0 a1 b1=some r) fR (λb1 h=>?_) ?_)))
 ·refine Bb (crs R (ccI h R (λh=>?_) (λh=>?_)))
  ·refine crs R (crt ?_)
   cases SJ h
   exact dnT R R R R
  ·refine csn (Bb (crs R (ccI h R (λh=>?_) (λh=>?_))))
   ·refine crs R (crt ?_)
    cases SJ h
    exact dnT R R R R
   ·refine csn (crs R (Bn ?_))
    cases SJ h
    exact dnT R R R R
 ·refine Bh ?_
  obtain⟨x2,hx2,ho2⟩:=Aa h
  refine lpn (α:=Int) (λg=>[(0,L7 (SL a0 eU8)),(1,L7 (SL a1 eU8)),(5,L7 (Ii6 g.2))]) (λg=>[]) (λg=>Gj (M9 a0 a1) g.1 g.2=some x2) (fuel,0) hx2 R R fR ?_
  rintro⟨n2,s2⟩ h
  obtain⟨n2,y2,rfl,h,hk2⟩:=Ct h
  refine Bb (Bb (cj3 (Unit) (λb3=>[(0,L7 (SL a0 eU8)),(1,L7 (SL a1 eU8)),(5,L7 (Ii6 s2))]) (λb3=>[]) (λb3=>Qw a0 a1 s2 b3=some y2) fR (λb3 h=>?_) ?_))
  ·refine Bb (Bh (Bb (Bb ?_)))
   refine U4 mixed (by kernel_rfl) ?_
   refine dv R (Bj R) (dv R (Bj R) ?_)
   obtain⟨u4,hu4,h⟩:=Aa h
   refine dv R (Bl (f:=eU8) Ai5 fR R R R R hu4) ?_
   refine dv R (C5 ti5 R (.cp _) R) (dv R (Bj R) (dv R (Bj R) ?_))
   obtain⟨u5,hu5,h⟩:=Aa h
   refine dv R (Bl (f:=eU8) Ai5 fR R R R R hu5) ?_
   refine dv R (C5 ti5 R (.cp _) R) (dv R (Afo R R) (Vp (Ag (ccI h R (λh=>?_) (λh=>?_)))))
   ·refine crs R (crt (br5 ?_))
    cases SJ h
    obtain rfl:Sum.inl _=x2:=hk2
    obtain rfl:=zD ho2
    exact dnT R R R R
   ·refine csn (Bb ?_)
    refine U4 mixed (by kernel_rfl) ?_
    refine dv R (Bj R) (dv R (Bj R) ?_)
    obtain⟨u6,hu6,h⟩:=Aa h
    refine dv R (Bl (f:=eU8) Ai5 fR R R R R hu6) ?_
    refine dv R (C5 ti5 R (.cp _) R) (dv R (Bj R) (dv R (Bj R) ?_))
    obtain⟨u7,hu7,h⟩:=Aa h
    refine dv R (Bl (f:=eU8) Ai5 fR R R R R hu7) ?_
    refine dv R (C5 ti5 R (.cp _) R) (dv R (Ago R R) (Vp (Ag (ccI h R (λh=>?_) (λh=>?_)))))
    ·refine crs R (Bn (br5 ?_))
     cases SJ h
     obtain rfl:Sum.inl _=x2:=hk2
     obtain rfl:=zD ho2
     exact dnT R R R R
    ·refine cbn (cgs R ?_)
     cases SJ h
     exact lx (n2,(wI (s2+1))) hk2 R R
  ·refine Bg (rx 5 R (ssI 10 h R (λh=>?_) (λh=>?_)))
   ·refine rsn R (ccI h R (λh=>?_) (λh=>?_))
    ·refine csn ?_
     exact⟨(),_,h,(ml R),R⟩
    ·refine cx5 ?_
     cases SJ h
     obtain rfl:_=x2:=hk2
     exact⟨(),_,ho2,(ml R),R⟩
   ·refine rsn R (B1 R (λhx=>Bool.noConfusion hx) (λ_=>?_))
    refine cx5 ?_
    cases SJ h
    obtain rfl:_=x2:=hk2
    exact⟨(),_,ho2,(ml R),R⟩
def Oz (a0:Ar) (a1:List UInt8):Option Bool :=
 (Ow a1 a0.Lo).bind λv1=>if (decide (0<=v1)) then(if a0.Open then(some true) else((Ow a1 a0.Hi).bind λv2=>some (decide (v2<0)))) else(some false)
theorem Vk {a0:Ar} {a1:List UInt8} {r:Bool} (h:Oz a0 a1=some r):A6 Qx0 118 [.agg (EL.el a0),.one (SL a1 eU8)] (·=L7 (.b r)):=by
 refine An Tryz.func118 R (nt:=21) R (Nbl R) ?_
 intro w0 S0
 refine crs R (csr (rx 3 R ?_))
 obtain⟨v1,hv1,h⟩:=Aa h
 refine scI R R (Vj hv1) (rx 2 R (ssI 10 h R (λh=>?_) (λh=>?_)))
 ·refine rx 3 R (ssI 13 h R (λh=>?_) (λh=>?_))
  ·refine rsn R (Bn ?_)
   cases SJ h
   exact dnT R R R R
  ·refine rx 3 R (son R R R ?_)
   obtain⟨v2,hv2,h⟩:=Aa h
   refine scI R R (Vj hv2) (rsn R (Bn ?_))
   cases SJ h
   exact dnT R R R R
 ·refine rsn R (Bn ?_)
  cases SJ h
  exact dnT R R R R
def Qj (b1:Unit):Option Bool :=
 some false
def Ii (s2:Int) (b4:Unit):Option (LR (Int) (Unit) (Bool)) :=
 some (.cont (wI (s2+1)))
def F5 (a1:List Ae) (u3:B9) (s5:Int):Option (LR (Int) (Unit) (Bool)) :=
 if (decide (s5<(a1.length:Int))) then(if (decide (u3.o_.What<=3)) then((idx a1 s5).bind λu6=>if (u3.o_.Key==u6.Key) then(some (.ret true)) else(if (decide (u3.o_.What=4)) then((idx a1 s5).bind λu7=>(Oz u3.o_.Rng u7.Key).bind λv8=>if v8 then(some (.ret true)) else(some (.cont (wI (s5+1))))) else(some (.cont (wI (s5+1)))))) else(if (decide (u3.o_.What=4)) then((idx a1 s5).bind λu9=>(Oz u3.o_.Rng u9.Key).bind λv10=>if v10 then(some (.ret true)) else(some (.cont (wI (s5+1))))) else(some (.cont (wI (s5+1)))))) else(some (.brk ()))
def F2 (a0:Ai) (a1:List Ae) (s2:Int):Option (LR (Int) (Unit) (Bool)) :=
 if (decide (s2<(a0.acts_.length:Int))) then((idx a0.acts_ s2).bind λu3=>(Gj (F5 a1 u3) fuel 0).bind λx=>match x with | .inl r=>some (.ret r) | .inr e11=>Ii s2 e11) else(some (.brk ()))
def Gm (a0:Ai) (a1:List Ae):Option Bool :=
 (Gj (F2 a0 a1) fuel 0).bind λx=>match x with | .inl r=>some r | .inr e12=>Qj e12
theorem Ng {a0:Ai} {a1:List Ae} {r:Bool} (h:Gm a0 a1=some r):A6 Qx0 51 [.agg (EL.el a0),.one (SL a1 Am)] (·=L7 (.b r)):=by
 refine An Tryz.func51 R (nt:=57) R (Nbl R) ?_
 intro w0 S0
 refine crs R (Bb (crs R (cj (Unit) (λb1=>[]) (λb1=>[BE a0]) (λb1=>Qj b1=some r) fR (λb1 h=>?_) ?_)))
 ·refine crs R (Bn ?_)
  cases SJ h
  exact dnT R R R R
 ·refine Bh ?_
  obtain⟨x2,hx2,ho2⟩:=Aa h
  refine lpn (α:=Int) (λg=>[(1,L7 (SL a1 Am)),(2,L7 (.lp 0 0)),(5,L7 (Ii6 g.2))]) (λg=>[BE a0]) (λg=>Gj (F2 a0 a1) g.1 g.2=some x2) (fuel,0) hx2 R R fR ?_
  rintro⟨n2,s2⟩ h
  obtain⟨n2,y2,rfl,h,hk2⟩:=Ct h
  refine Bb (crs R (ccI h R (λh=>?_) (λh=>?_)))
  ·refine csn (Bb (Bh (csr (rx 3 R ?_))))
   obtain⟨u3,hu3,h⟩:=Aa h
   refine sv R (Bl (f:=Dj) Axt fR R R R R hu3) ?_
   refine sv R (A9 Afh R) (sv R (A8 (ys:=[Ii6 u3.o_.What,Ii6 u3.o_.N,Ii6 u3.o_.Token,Ii6 u3.o_.Attempt,.b u3.o_.RO,.b u3.o_.Del,SL u3.o_.Key eU8,SL u3.o_.Val eU8,SL u3.o_.Rng.Lo eU8,SL u3.o_.Rng.Hi eU8,.b u3.o_.Rng.Open]) Aw3 R (.cp _) R R) (rsn R (crs R (Ahr (Unit) (λb4=>[(1,L7 (SL a1 Am)),(2,L7 (.lp 0 0)),(5,L7 (Ii6 s2))]) (λb4=>[BE a0,BE u3.o_]) (λb4=>Ii s2 b4=some y2) (λ_ _=>T9 R) (λ_ _=>M1 R) (λ_ _=>Nbl R) (λb4 h=>?_) ?_))))
   ·refine cgs R ?_
    cases SJ h
    exact lx (n2,(wI (s2+1))) hk2 R R
   ·refine Bh ?_
    obtain⟨x5,hx5,ho5⟩:=Aa h
    refine lpn (α:=Int) (λg=>[(1,L7 (SL a1 Am)),(2,L7 (.lp 0 0)),(5,L7 (Ii6 s2)),(6,L7 (.lp 1 0)),(7,L7 (Ii6 g.2))]) (λg=>[BE a0,BE u3.o_]) (λg=>Gj (F5 a1 u3) g.1 g.2=some x5) (fuel,0) hx5 R R fR ?_
    rintro⟨n5,s5⟩ h
    obtain⟨n5,y5,rfl,h,hk5⟩:=Ct h
    refine Bb (crs R (ccI h R (λh=>?_) (λh=>?_)))
    ·refine csn (Bb (Bh (Bb ?_)))
     refine U4 mixed (by kernel_rfl) ?_
     refine dv R (Ah Yf R) (dv R (l1 ti3 R R R) (dv R (Xr R R) (dv R (Bj R) (Qh 30 R (λhc=>?_) (λhc=>?_)))))
     ·replace h:=P8 hc h
      clear hc
      refine dvg R R R (Ah An0 R) (dvg R R R (l1 Yz R R R) (dvg R R R (Mw (l:=u3.o_.Key) Tryz.underlying56 Tryz.underlying5 Tryz.underlying9 R R R) (dvg R R R (Bj R) (dvg R R R (Bj R) ?_))))
      obtain⟨u6,hu6,h⟩:=Aa h
      refine dvg R R R (Bl (f:=Am) Ag5 fR R R R R hu6) ?_
      refine dvg R R R (A9 Ab1 R) (dvg R R R (C5 Yz R (.cp _) R) (dvg R R R (Mw (l:=u6.Key) Tryz.underlying56 Tryz.underlying5 Tryz.underlying9 R R R) (dvg R R R (Wt R R) (dv R (Cp R R) (dv R (Bj R) (Qh 42 R (λhc=>?_) (λhc=>?_)))))))
      ·replace h:=P8 hc h
       clear hc
       refine Dy R R R R (Dy R R R R (Dy R R R R (Dy R R R R (Tw R R R (Tw R R R (Tw R R R (Tw R R R (Tw R R R (Tw R R R (Tw R R R (Tw R R R (Dy R R R R (dv R (Cp R R) (Vp (Ag (B1 R (λ_=>?_) (λhx=>Bool.noConfusion hx)))))))))))))))))
       refine crs R (Bn (br3 (D5 (br5 ?_))))
       cases SJ h
       obtain rfl:Sum.inl _=x5:=hk5
       obtain rfl:=zD ho5
       obtain rfl:Sum.inl _=x2:=hk2
       obtain rfl:=zD ho2
       exact dnT R R R R
      ·replace h:=P3 hc h
       clear hc
       refine dvg R R R (Ah Yf R) (dvg R R R (l1 ti3 R R R) (dvg R R R (Nb R R) (dvg R R R (Bj R) (Qh 46 R (λhc=>?_) (λhc=>?_)))))
       ·replace h:=P8 hc h
        clear hc
        refine dvg R R R (Ah Ahv R) (dvg R R R (lo Asq R R R) (dvg R R R (Bj R) (dvg R R R (Bj R) ?_)))
        obtain⟨u7,hu7,h⟩:=Aa h
        refine dvg R R R (Bl (f:=Am) Ag5 fR R R R R hu7) ?_
        refine dvg R R R (A9 Ab1 R) (dvg R R R (C5 Yz R (.cp _) R) ?_)
        obtain⟨v8,hv8,h⟩:=Aa h
        refine ddg R R R (Cf (fk R) (Af R (Af R A2)) R (Vk hv8)) (dvg R R R (Cp R R) (dv R (Cn R R) (Vp (Ag (ccI h R (λh=>?_) (λh=>?_))))))
        ·refine crs R (Bn (br3 (D5 (br5 ?_))))
         cases SJ h
         obtain rfl:Sum.inl _=x5:=hk5
         obtain rfl:=zD ho5
         obtain rfl:Sum.inl _=x2:=hk2
         obtain rfl:=zD ho2
         exact dnT R R R R
        ·refine cbn (cgs R ?_)
         cases SJ h
         exact lx (n5,(wI (s5+1))) hk5 R R
       ·replace h:=P3 hc h
        clear hc
        refine Dy R R R R (Dy R R R R (Dy R R R R (Dy R R R R (Dy R R R R (Dy R R R R (Dy R R R R (Dy R R R R (dvg R R R (Cn R R) (dv R (Cn R R) (Vp (Ag (B1 R (λhx=>Bool.noConfusion hx) (λ_=>?_)))))))))))))
        refine cbn (cgs R ?_)
        cases SJ h
        exact lx (n5,(wI (s5+1))) hk5 R R
     ·replace h:=P3 hc h
      clear hc
      refine Dy R R R R (Dy R R R R (Dy R R R R (Dy R R R R (Dy R R R R (Dy R R R R (Dy R R R R (Dy R R R R (Dy R R R R (Dy R R R R (dv R (Cn R R) (dv R (Bj R) (dvg R R R (Ah Yf R) (dvg R R R (l1 ti3 R R R) (dvg R R R (Nb R R) (dvg R R R (Bj R) (Qh 46 R (λhc=>?_) (λhc=>?_)))))))))))))))))
      ·replace h:=P8 hc h
       clear hc
       refine dvg R R R (Ah Ahv R) (dvg R R R (lo Asq R R R) (dvg R R R (Bj R) (dvg R R R (Bj R) ?_)))
       obtain⟨u9,hu9,h⟩:=Aa h
       refine dvg R R R (Bl (f:=Am) Ag5 fR R R R R hu9) ?_
       refine dvg R R R (A9 Ab1 R) (dvg R R R (C5 Yz R (.cp _) R) ?_)
       obtain⟨v10,hv10,h⟩:=Aa h
       refine ddg R R R (Cf (fk R) (Af R (Af R A2)) R (Vk hv10)) (dvg R R R (Cp R R) (dv R (Cn R R) (Vp (Ag (ccI h R (λh=>?_) (λh=>?_))))))
       ·refine crs R (Bn (br3 (D5 (br5 ?_))))
        cases SJ h
        obtain rfl:Sum.inl _=x5:=hk5
        obtain rfl:=zD ho5
        obtain rfl:Sum.inl _=x2:=hk2
        obtain rfl:=zD ho2
        exact dnT R R R R
       ·refine cbn (cgs R ?_)
        cases SJ h
        exact lx (n5,(wI (s5+1))) hk5 R R
      ·replace h:=P3 hc h
       clear hc
       refine Dy R R R R (Dy R R R R (Dy R R R R (Dy R R R R (Dy R R R R (Dy R R R R (Dy R R R R (Dy R R R R (dvg R R R (Cn R R) (dv R (Cn R R) (Vp (Ag (B1 R (λhx=>Bool.noConfusion hx) (λ_=>?_)))))))))))))
       refine cbn (cgs R ?_)
       cases SJ h
       exact lx (n5,(wI (s5+1))) hk5 R R
    ·refine Tm (Cw (Cw (Ez (A0 (Ag ?_)))))
     cases SJ h
     obtain rfl:_=x5:=hk5
     exact⟨(),_,ho5,(ml R),R⟩
  ·refine cx5 ?_
   cases SJ h
   obtain rfl:_=x2:=hk2
   exact⟨(),_,ho2,trivial,R⟩
def L9 (a0:Ai) (a1:Ai) (v1:(List Ae)) (v2:(List Ae)) (b3:Unit):Option Bool :=
 if (decide (a0.end_<=a1.snap_)) then((Gm a1 v1).bind λv4=>if v4 then(some true) else(if (decide (a0.snap_<a1.end_)) then((Gm a0 v2).bind λv5=>some v5) else(some false))) else(if (decide (a0.snap_<a1.end_)) then((Gm a0 v2).bind λv6=>some v6) else(some false))
def L4 (s7:Int) (b8:Unit):Option (LR (Int) (Unit) (Bool)) :=
 some (.cont (wI (s7+1)))
def Iw (a0:Ai) (a1:Ai) (v1:(List Ae)) (v2:(List Ae)) (s7:Int) (s9:Int):Option (LR (Int) (Unit) (Bool)) :=
 if (decide (s9<(v2.length:Int))) then((idx v1 s7).bind λu10=>(idx v2 s9).bind λu11=>if (u10.Key==u11.Key) then(if (decide (a0.end_<a1.end_)) then(some (.ret true)) else(some (.cont (wI (s9+1))))) else(some (.cont (wI (s9+1))))) else(some (.brk ()))
def Iz (a0:Ai) (a1:Ai) (v1:(List Ae)) (v2:(List Ae)) (s7:Int):Option (LR (Int) (Unit) (Bool)) :=
 if (decide (s7<(v1.length:Int))) then((Gj (Iw a0 a1 v1 v2 s7) fuel 0).bind λx=>match x with | .inl r=>some (.ret r) | .inr e12=>L4 s7 e12) else(some (.brk ()))
def P9 (a0:Ai) (a1:Ai):Option Bool :=
 (L3 a0).bind λv1=>(L3 a1).bind λv2=>(Gj (Iz a0 a1 v1 v2) fuel 0).bind λx=>match x with | .inl r=>some r | .inr e13=>L9 a0 a1 v1 v2 e13
theorem Aaf {a0:Ai} {a1:Ai} {r:Bool} (h:P9 a0 a1=some r):A6 Qx0 18 [.agg (EL.el a0),.agg (EL.el a1)] (·=L7 (.b r)):=by
 refine An Tryz.func18 R (nt:=67) R (Nbl R) ?_
 intro w0 S0
 refine crs R (csr (rx 1 R ?_))
 obtain⟨v1,hv1,h⟩:=Aa h
 refine scI R R (Te hv1) (rsn R (csr (rx 1 R ?_)))
 obtain⟨v2,hv2,h⟩:=Aa h
 refine scI R R (Te hv2) (rsn R (Bb (crs R (cj (Unit) (λb3=>[(2,L7 (.lp 0 0)),(3,L7 (.lp 1 0)),(5,L7 (SL v1 Am)),(6,L7 (SL v2 Am))]) (λb3=>[BE a0,BE a1]) (λb3=>L9 a0 a1 v1 v2 b3=some r) fR (λb3 h=>?_) ?_))))
 ·refine csr (rx 6 R (ssI 50 h R (λh=>?_) (λh=>?_)))
  ·refine rx 2 R (son R R R ?_)
   obtain⟨v4,hv4,h⟩:=Aa h
   refine scI R R (Ng hv4) (rm 2 R (ssI 55 h R (λh=>?_) (λh=>?_)))
   ·refine rsn R (Bn ?_)
    cases SJ h
    exact dnT R R R R
   ·refine rx 6 R (ssI 61 h R (λh=>?_) (λh=>?_))
    ·refine rx 2 R (son R R R ?_)
     obtain⟨v5,hv5,h⟩:=Aa h
     refine scI R R (Ng hv5) (rsn R (Bn ?_))
     cases SJ h
     exact dnT R R R R
    ·refine rsn R (Bn ?_)
     cases SJ h
     exact dnT R R R R
  ·refine rx 11 R (ssI 61 h R (λh=>?_) (λh=>?_))
   ·refine rx 2 R (son R R R ?_)
    obtain⟨v6,hv6,h⟩:=Aa h
    refine scI R R (Ng hv6) (rsn R (Bn ?_))
    cases SJ h
    exact dnT R R R R
   ·refine rsn R (Bn ?_)
    cases SJ h
    exact dnT R R R R
 ·refine Bh ?_
  obtain⟨x7,hx7,ho7⟩:=Aa h
  refine lpn (α:=Int) (λg=>[(2,L7 (.lp 0 0)),(3,L7 (.lp 1 0)),(5,L7 (SL v1 Am)),(6,L7 (SL v2 Am)),(7,L7 (Ii6 g.2))]) (λg=>[BE a0,BE a1]) (λg=>Gj (Iz a0 a1 v1 v2) g.1 g.2=some x7) (fuel,0) hx7 R R fR ?_
  rintro⟨n7,s7⟩ h
  obtain⟨n7,y7,rfl,h,hk7⟩:=Ct h
  refine Bb (crs R (ccI h R (λh=>?_) (λh=>?_)))
  ·refine csn (Bb (Bh (crs R (Ahr (Unit) (λb8=>[(2,L7 (.lp 0 0)),(3,L7 (.lp 1 0)),(5,L7 (SL v1 Am)),(6,L7 (SL v2 Am)),(7,L7 (Ii6 s7))]) (λb8=>[BE a0,BE a1]) (λb8=>L4 s7 b8=some y7) (λ_ _=>T9 R) (λ_ _=>M1 R) (λ_ _=>Nbl R) (λb8 h=>?_) ?_))))
   ·refine cgs R ?_
    cases SJ h
    exact lx (n7,(wI (s7+1))) hk7 R R
   ·refine Bh ?_
    obtain⟨x9,hx9,ho9⟩:=Aa h
    refine lpn (α:=Int) (λg=>[(2,L7 (.lp 0 0)),(3,L7 (.lp 1 0)),(5,L7 (SL v1 Am)),(6,L7 (SL v2 Am)),(7,L7 (Ii6 s7)),(8,L7 (Ii6 g.2))]) (λg=>[BE a0,BE a1]) (λg=>Gj (Iw a0 a1 v1 v2 s7) g.1 g.2=some x9) (fuel,0) hx9 R R fR ?_
    rintro⟨n9,s9⟩ h
    obtain⟨n9,y9,rfl,h,hk9⟩:=Ct h
    refine Bb (crs R (ccI h R (λh=>?_) (λh=>?_)))
    ·refine csn (Bb (Bh (Bb ?_)))
     refine U4 mixed (by kernel_rfl) ?_
     refine dv R (Bj R) (dv R (Bj R) ?_)
     obtain⟨u10,hu10,h⟩:=Aa h
     refine dv R (Bl (f:=Am) Ag5 fR R R R R hu10) ?_
     refine dv R (A9 Ab1 R) (dv R (C5 Yz R (.cp _) R) (dv R (Mw (l:=u10.Key) Tryz.underlying56 Tryz.underlying5 Tryz.underlying9 R R R) (dv R (Bj R) (dv R (Bj R) ?_))))
     obtain⟨u11,hu11,h⟩:=Aa h
     refine dv R (Bl (f:=Am) Ag5 fR R R R R hu11) ?_
     refine dv R (A9 Ab1 R) (dv R (C5 Yz R (.cp _) R) (dv R (Mw (l:=u11.Key) Tryz.underlying56 Tryz.underlying5 Tryz.underlying9 R R R) (dv R (Wt R R) (dv R (Bj R) (Qh 38 R (λhc=>?_) (λhc=>?_))))))
     ·replace h:=P8 hc h
      clear hc
      refine dvg R R R (Ah Akh R) (dvg R R R (l1 ti3 R R R) (dvg R R R (Ah Akh R) (dvg R R R (l1 ti3 R R R) (dvg R R R (Afo R R) (dv R (Cp R R) (Vp (Ag (ccI h R (λh=>?_) (λh=>?_)))))))))
      ·refine crs R (Bn (br3 (D5 (br5 ?_))))
       cases SJ h
       obtain rfl:Sum.inl _=x9:=hk9
       obtain rfl:=zD ho9
       obtain rfl:Sum.inl _=x7:=hk7
       obtain rfl:=zD ho7
       exact dnT R R R R
      ·refine cbn (cgs R ?_)
       cases SJ h
       exact lx (n9,(wI (s9+1))) hk9 R R
     ·replace h:=P3 hc h
      clear hc
      refine Dy R R R R (Dy R R R R (Dy R R R R (Dy R R R R (Dy R R R R (dv R (Cn R R) (Vp (Ag (B1 R (λhx=>Bool.noConfusion hx) (λ_=>?_)))))))))
      refine cbn (cgs R ?_)
      cases SJ h
      exact lx (n9,(wI (s9+1))) hk9 R R
    ·refine Tm (Cw (Cw (Ez (A0 (Ag ?_)))))
     cases SJ h
     obtain rfl:_=x9:=hk9
     exact⟨(),_,ho9,(ml R),R⟩
  ·refine cx5 ?_
   cases SJ h
   obtain rfl:_=x7:=hk7
   exact⟨(),_,ho7,(ml R),R⟩
def Vo (b1:Unit):Option Bool :=
 some true
def Od (a0:List A5) (a1:List A5) (s2:Int):Option (LR (Int) (Unit) (Bool)) :=
 if (decide (s2<(a0.length:Int))) then((idx a0 s2).bind λu3=>(idx a1 s2).bind λu4=>if (!(u3.Key==u4.Key)) then(some (.ret false)) else((idx a0 s2).bind λu5=>(idx a1 s2).bind λu6=>if (!(u5.Val==u6.Val)) then(some (.ret false)) else(some (.cont (wI (s2+1)))))) else(some (.brk ()))
def Qk (a0:List A5) (a1:List A5):Option Bool :=
 if (!decide ((a0.length:Int)=(a1.length:Int))) then(some false) else((Gj (Od a0 a1) fuel 0).bind λx=>match x with | .inl r=>some r | .inr e7=>Vo e7)
theorem Wz {a0:List A5} {a1:List A5} {r:Bool} (h:Qk a0 a1=some r):A6 Qx0 20 [.one (SL a0 Bi),.one (SL a1 Bi)] (·=L7 (.b r)):=by
 refine An Tryz.func20 R (nt:=45) R (Nbl R) ?_
 intro w0 S0
 refine crs R (Bb (crs R (ccI h R (λh=>?_) (λh=>?_))))
 ·refine crs R (crt ?_)
  cases SJ h
  exact dnT R R R R
 ·refine csn (Bb (crs R (cj (Unit) (λb1=>[]) (λb1=>[]) (λb1=>Vo b1=some r) fR (λb1 h=>?_) ?_)))
  ·refine crs R (Bn ?_)
   cases SJ h
   exact dnT R R R R
  ·refine Bh ?_
   obtain⟨x2,hx2,ho2⟩:=Aa h
   refine lpn (α:=Int) (λg=>[(0,L7 (SL a0 Bi)),(1,L7 (SL a1 Bi)),(5,L7 (Ii6 g.2))]) (λg=>[]) (λg=>Gj (Od a0 a1) g.1 g.2=some x2) (fuel,0) hx2 R R fR ?_
   rintro⟨n2,s2⟩ h
   obtain⟨n2,y2,rfl,h,hk2⟩:=Ct h
   refine Bb (crs R (ccI h R (λh=>?_) (λh=>?_)))
   ·refine csn (Bb (Bh (Bb ?_)))
    refine U4 mixed (by kernel_rfl) ?_
    refine dv R (Bj R) (dv R (Bj R) ?_)
    obtain⟨u3,hu3,h⟩:=Aa h
    refine dv R (Bl (f:=Bi) Alu fR R R R R hu3) ?_
    refine dv R (A9 Afy R) (dv R (C5 Yz R (.cp _) R) (dv R (Mw (l:=u3.Key) Tryz.underlying56 Tryz.underlying5 Tryz.underlying9 R R R) (dv R (Bj R) (dv R (Bj R) ?_))))
    obtain⟨u4,hu4,h⟩:=Aa h
    refine dv R (Bl (f:=Bi) Alu fR R R R R hu4) ?_
    refine dv R (A9 Afy R) (dv R (C5 Yz R (.cp _) R) (dv R (Mw (l:=u4.Key) Tryz.underlying56 Tryz.underlying5 Tryz.underlying9 R R R) (dv R (Aab R R) (dv R (Bj R) (Qh 30 R (λhc=>?_) (λhc=>?_))))))
    ·replace h:=P8 hc h
     clear hc
     refine Dy R R R R (Dy R R R R (Dy R R R R (Dy R R R R (Dy R R R R (Dy R R R R (Dy R R R R (Dy R R R R (Dy R R R R (Dy R R R R (Dy R R R R (Dy R R R R (Dy R R R R (dv R (Cp R R) (Vp (Ag (B1 R (λ_=>?_) (λhx=>Bool.noConfusion hx)))))))))))))))))
     refine crs R (Bn (br5 ?_))
     cases SJ h
     obtain rfl:Sum.inl _=x2:=hk2
     obtain rfl:=zD ho2
     exact dnT R R R R
    ·replace h:=P3 hc h
     clear hc
     refine dvg R R R (Bj R) (dvg R R R (Bj R) ?_)
     obtain⟨u5,hu5,h⟩:=Aa h
     refine dvg R R R (Bl (f:=Bi) Alu fR R R R R hu5) ?_
     refine dvg R R R (A9 Agp R) (dvg R R R (C5 Yz R (.cp _) R) (dvg R R R (Mw (l:=u5.Val) Tryz.underlying56 Tryz.underlying5 Tryz.underlying9 R R R) (dvg R R R (Bj R) (dvg R R R (Bj R) ?_))))
     obtain⟨u6,hu6,h⟩:=Aa h
     refine dvg R R R (Bl (f:=Bi) Alu fR R R R R hu6) ?_
     refine dvg R R R (A9 Agp R) (dvg R R R (C5 Yz R (.cp _) R) (dvg R R R (Mw (l:=u6.Val) Tryz.underlying56 Tryz.underlying5 Tryz.underlying9 R R R) (dvg R R R (Aab R R) (dv R (Cn R R) (Vp (Ag (ccI h R (λh=>?_) (λh=>?_))))))))
     ·refine crs R (Bn (br5 ?_))
      cases SJ h
      obtain rfl:Sum.inl _=x2:=hk2
      obtain rfl:=zD ho2
      exact dnT R R R R
     ·refine cbn (cgs R ?_)
      cases SJ h
      exact lx (n2,(wI (s2+1))) hk2 R R
   ·refine cx5 ?_
    cases SJ h
    obtain rfl:_=x2:=hk2
    exact⟨(),_,ho2,trivial,R⟩
def Kn (a0:List A5) (b1:(List Ae)):Option ((List A5)×Bool) :=
 (Cc (Bf.mk b1) a0 (Ar.mk ([]:List UInt8) ([]:List UInt8) true) 1000).bind λv2=>some (v2,true)
def N7 (s3:Int×(List Ae)) (u5:B9) (b7:Bool×(List UInt8)):Option (LR (Int×(List Ae)) ((List Ae)) ((List A5)×Bool)) :=
 if (!(b7.1==u5.x_.found_)) then(some (.ret (([]:List A5),false))) else(if (!(b7.2==u5.x_.v_)) then(some (.ret (([]:List A5),false))) else(some (.cont ((wI (s3.1+1)),s3.2))))
def Fy (u4:B9) (v6:(List A5)) (s8:Bool×(List UInt8)×Int):Option (LB (Bool×(List UInt8)×Int) (Bool×(List UInt8))) :=
 if (decide (s8.2.2<(v6.length:Int))) then((idx v6 s8.2.2).bind λu9=>if (u9.Key==u4.o_.Key) then((idx v6 s8.2.2).bind λu10=>some (.cont (true,u10.Val,(wI (s8.2.2+1))))) else(some (.cont (s8.1,s8.2.1,(wI (s8.2.2+1)))))) else(some (.brk (s8.1,s8.2.1)))
def Ld (a0:List A5) (a1:Ai) (s3:Int×(List Ae)):Option (LR (Int×(List Ae)) ((List Ae)) ((List A5)×Bool)) :=
 if (decide (s3.1<(a1.acts_.length:Int))) then((idx a1.acts_ s3.1).bind λu4=>(idx a1.acts_ s3.1).bind λu5=>(Cc (Bf.mk s3.2) a0 (Ar.mk ([]:List UInt8) ([]:List UInt8) true) 1000).bind λv6=>if (decide (u4.o_.What<=3)) then((B8 (Fy u4 v6) fuel (false,([]:List UInt8),0)).bind λe11=>N7 s3 u5 e11) else(if (decide (u4.o_.What=4)) then((Cc (Bf.mk s3.2) a0 u4.o_.Rng 8).bind λv12=>(Qk v12 u5.x_.l_).bind λv13=>if (!v13) then(some (.ret (([]:List A5),false))) else(some (.cont ((wI (s3.1+1)),s3.2)))) else((Br (Bf.mk s3.2) (Ae.mk u4.o_.Key u4.o_.Val u4.o_.Del)).bind λv14=>if (!decide (v14.2=0)) then(some (.ret (([]:List A5),false))) else(some (.cont ((wI (s3.1+1)),v14.1.L)))))) else(some (.brk s3.2))
def Lx (a0:List A5) (a1:Ai):Option ((List A5)×Bool) :=
 (Gj (Ld a0 a1) fuel (0,([]:List Ae))).bind λx=>match x with | .inl r=>some r | .inr e15=>Kn a0 e15
theorem Yr {a0:List A5} {a1:Ai} {r:(List A5)×Bool} (h:Lx a0 a1=some r):A6 Qx0 19 [.one (SL a0 Bi),.agg (EL.el a1)] (·=.tup [.one (SL r.1 Bi),.one (.b r.2)]):=by
 refine An Tryz.func19 R (nt:=111) R (Nbl R) ?_
 intro w0 S0
 refine crs R (crs R (crs R (Bb (crs R (cj ((List Ae)) (λb1=>[(0,L7 (SL a0 Bi)),(6,L7 (.lp 1 0)),(7,L7 (.lp 2 0))]) (λb1=>[BE a1,.box [SL b1 Am],.box [Znl,Znl,.b true]]) (λb1=>Kn a0 b1=some r) fR (λb1 h=>?_) ?_)))))
 ·refine csr (rx 3 R ?_)
  obtain⟨v2,hv2,h⟩:=Aa h
  refine scE R R (F1 R) (Kv hv2) (rsn R (Bn ?_))
  cases SJ h
  exact dE R (Bq R) R
 ·refine Bh (Uj 1 0 R R Oe.nil R ?_)
  obtain⟨x3,hx3,ho3⟩:=Aa h
  refine lpn (α:=Int×(List Ae)) (λg=>[(0,L7 (SL a0 Bi)),(3,L7 (.lp 0 0)),(6,L7 (.lp 1 0)),(7,L7 (.lp 2 0)),(8,L7 (Ii6 g.2.1))]) (λg=>[BE a1,.box [SL g.2.2 Am],.box [Znl,Znl,.b true]]) (λg=>Gj (Ld a0 a1) g.1 g.2=some x3) (fuel,(0,([]:List Ae))) hx3 R R fR ?_
  rintro⟨n3,s3⟩ h
  obtain⟨n3,y3,rfl,h,hk3⟩:=Ct h
  refine Bb (crs R (ccI h R (λh=>?_) (λh=>?_)))
  ·refine csn (Bb (Bh (csr (rx 3 R ?_))))
   obtain⟨u4,hu4,h⟩:=Aa h
   refine sv R (Bl (f:=Dj) Axt fR R R R R hu4) ?_
   refine sv R (A9 Afh R) (sv R (A8 (ys:=[Ii6 u4.o_.What,Ii6 u4.o_.N,Ii6 u4.o_.Token,Ii6 u4.o_.Attempt,.b u4.o_.RO,.b u4.o_.Del,SL u4.o_.Key eU8,SL u4.o_.Val eU8,SL u4.o_.Rng.Lo eU8,SL u4.o_.Rng.Hi eU8,.b u4.o_.Rng.Open]) Aw3 R (.cp _) R R) (rsn R (csr (rx 3 R ?_))))
   obtain⟨u5,hu5,h⟩:=Aa h
   refine sv R (Bl (f:=Dj) Axt fR R R R R hu5) ?_
   refine sv R (A9 Ass R) (sv R (A8 (ys:=[Ii6 u5.x_.n_,.b u5.x_.found_,SL u5.x_.v_ eU8,SL u5.x_.l_ Bi,Ii6 u5.x_.e_]) Azg R (.cp _) R R) (rsn R (csr (rx 3 R ?_))))
   obtain⟨v6,hv6,h⟩:=Aa h
   refine scE R R (F1 R) (Kv hv6) (rsn R (Bh (crs R (ccI h R (λh=>?_) (λh=>?_)))))
   ·refine crs R (crs R (Bb (crs R (cj (Bool×(List UInt8)) (λb7=>[(0,L7 (SL a0 Bi)),(3,L7 (.lp 0 0)),(6,L7 (.lp 1 0)),(7,L7 (.lp 2 0)),(8,L7 (Ii6 s3.1)),(10,L7 (.lp 4 0)),(12,L7 (.b b7.1)),(13,L7 (SL b7.2 eU8))]) (λb7=>[BE a1,.box [SL s3.2 Am],.box [Znl,Znl,.b true],BE u4.o_,BE u5.x_]) (λb7=>N7 s3 u5 b7=some y3) fR (λb7 h=>?_) ?_))))
    ·refine csr (rx 3 R (sv R (Aqe Tryz.underlying4 R R) (rm 1 R (ssI 86 h R (λh=>?_) (λh=>?_)))))
     ·refine rsn R (B1 R (λ_=>?_) (λhx=>Bool.noConfusion hx))
      refine crs R (Bn (D5 (br5 ?_)))
      cases SJ h
      obtain rfl:Sum.inl _=x3:=hk3
      obtain rfl:=zD ho3
      exact dE R (F1 R) R
     ·refine rm 1 R (son R R R (sv R (Mw (l:=b7.2) Tryz.underlying56 Tryz.underlying5 Tryz.underlying9 R R R) (rx 2 R (son R R R (sv R (Mw (l:=u5.x_.v_) Tryz.underlying56 Tryz.underlying5 Tryz.underlying9 R R R) (son R R R (sv R (Aab R R) (rsn R (ccI h R (λh=>?_) (λh=>?_))))))))))
      ·refine crs R (Bn (D5 (br5 ?_)))
       cases SJ h
       obtain rfl:Sum.inl _=x3:=hk3
       obtain rfl:=zD ho3
       exact dE R (F1 R) R
      ·refine Vu (A0 (A0 (Ag (cgs R ?_))))
       cases SJ h
       exact lx (n3,((wI (s3.1+1)),s3.2)) hk3 R R
    ·refine Bh ?_
     refine Ay9 13 R pb ?_
     obtain⟨x8,hx8,ho8⟩:=Aa h
     refine lpn (α:=Bool×(List UInt8)×Int) (λg=>[(0,L7 (SL a0 Bi)),(3,L7 (.lp 0 0)),(6,L7 (.lp 1 0)),(7,L7 (.lp 2 0)),(8,L7 (Ii6 s3.1)),(9,L7 (.lp 3 0)),(10,L7 (.lp 4 0)),(11,L7 (SL v6 Bi)),(12,L7 (.b g.2.1)),(13,L7 (SL g.2.2.1 eU8)),(14,L7 (Ii6 g.2.2.2))]) (λg=>[BE a1,.box [SL s3.2 Am],.box [Znl,Znl,.b true],BE u4.o_,BE u5.x_]) (λg=>B8 (Fy u4 v6) g.1 g.2=some x8) (fuel,(false,([]:List UInt8),0)) hx8 R R fR ?_
     rintro⟨n8,s8⟩ h
     obtain⟨n8,y8,rfl,h,hk8⟩:=Cb h
     refine Bb (crs R (ccI h R (λh=>?_) (λh=>?_)))
     ·refine csn (Bb (Bh (Bb ?_)))
      refine U4 mixed (by kernel_rfl) ?_
      refine dv R (Bj R) (dv R (Bj R) ?_)
      obtain⟨u9,hu9,h⟩:=Aa h
      refine dv R (Bl (f:=Bi) Alu fR R R R R hu9) ?_
      refine dv R (A9 Afy R) (dv R (C5 Yz R (.cp _) R) (dv R (Mw (l:=u9.Key) Tryz.underlying56 Tryz.underlying5 Tryz.underlying9 R R R) (dv R (Ah An0 R) (dv R (l1 Yz R R R) (dv R (Mw (l:=u4.o_.Key) Tryz.underlying56 Tryz.underlying5 Tryz.underlying9 R R R) (dv R (Wt R R) (Vp (Ag (ccI h R (λh=>?_) (λh=>?_))))))))))
      ·refine crs R (Bg (rx 2 R ?_))
       obtain⟨u10,hu10,h⟩:=Aa h
       refine sv R (Bl (f:=Bi) Alu fR R R R R hu10) ?_
       refine sv R (A9 Agp R) (rx 2 R (Fi (A0 (Ag (cgs R ?_)))))
       cases SJ h
       exact lx (n8,(true,u10.Val,(wI (s8.2.2+1)))) hk8 R R
      ·refine cbn (cgs R ?_)
       cases SJ h
       exact lx (n8,(s8.1,s8.2.1,(wI (s8.2.2+1)))) hk8 R R
     ·refine cx5 ?_
      cases SJ h
      obtain rfl:_=x8:=hk8
      exact⟨(s8.1,s8.2.1),_,ho8,(ml R),R⟩
   ·refine crs R (ccI h R (λh=>?_) (λh=>?_))
    ·refine Bb ?_
     refine U4 mixed (by kernel_rfl) ?_
     refine dv R (lo Aut R R R) (dv R (Bj R) (dv R (Ah Ahv R) (dv R (lo Asq R R R) ?_)))
     obtain⟨v12,hv12,h⟩:=Aa h
     refine dd R (Cf (fk R) (Af R (Af R (Af R (Af R A2)))) R (Kv hv12)) (dv R (Ah Awt R) (dv R (l1 A0m R R R) ?_))
     obtain⟨v13,hv13,h⟩:=Aa h
     refine dd R (Cf (fk R) (Af R (Af R A2)) R (Wz hv13)) (dv R (S7 R) (Vp (Ag (ccI h R (λh=>?_) (λh=>?_)))))
     ·refine crs R (Bn (D5 (br5 ?_)))
      cases SJ h
      obtain rfl:Sum.inl _=x3:=hk3
      obtain rfl:=zD ho3
      exact dE R (F1 R) R
     ·refine Vu (A0 (A0 (Ag (cgs R ?_))))
      cases SJ h
      exact lx (n3,((wI (s3.1+1)),s3.2)) hk3 R R
    ·refine csr (rx 8 R ?_)
     obtain⟨v14,hv14,h⟩:=Aa h
     refine scI R R (Ph hv14) (rsn R (Bb (crs R (ccI h R (λh=>?_) (λh=>?_)))))
     ·refine crs R (crt (D5 (br5 ?_)))
      cases SJ h
      obtain rfl:Sum.inl _=x3:=hk3
      obtain rfl:=zD ho3
      exact dE R (F1 R) R
     ·refine csn (Bg (rx 2 R (Fi (A0 (A0 (Ag (cgs R ?_)))))))
      cases SJ h
      exact lx (n3,((wI (s3.1+1)),v14.1.L)) hk3 R R
  ·refine cx5 ?_
   cases SJ h
   obtain rfl:_=x3:=hk3
   exact⟨s3.2,_,ho3,(ml R),R⟩
def Mb (a0:Bc):Option (List A5) :=
 (Fv a0 (Ar.mk ([]:List UInt8) ([]:List UInt8) true) a0.Ts (a0.Keys.length:Int)).bind λv1=>some v1
theorem W7 {a0:Bc} {r:(List A5)} (h:Mb a0=some r):A6 Qx0 21 [.agg (EL.el a0)] (·=L7 (SL r Bi)):=by
 refine An Tryz.func21 R (nt:=11) R (Nbl R) ?_
 intro w0 S0
 refine crs R (csr (rx 7 R ?_))
 obtain⟨v1,hv1,h⟩:=Aa h
 refine scE R R (F1 R) (Tk hv1) (rsn R (Bn ?_))
 cases SJ h
 exact dnT R R R R
def Iq (v1:Bool) (v3:Ab×(List Ai)) (b4:(List A5)):Option Bool :=
 if v1 then((Mb v3.1.Store).bind λv5=>(Qk b4 v5).bind λv6=>if v6 then((G1 v3.1).bind λv7=>some v7) else(some false)) else(some false)
def Mg (s8:(List Ai)×(List A5)) (b9:Int):Option (LR ((List Ai)×(List A5)) ((List A5)) (Bool)) :=
 if (decide (b9<0)) then(some (.ret false)) else((idx s8.1 b9).bind λu10=>(Lx s8.2 u10).bind λv11=>if (!v11.2) then(some (.ret false)) else((cut s8.1 0 b9).bind λc12=>if (([]:List Ai).length+c12.length)*48<=140737488355328 then((cut s8.1 (wI (b9+1)) (s8.1.length:Int)).bind λc14=>if ((([]:List Ai)++c12).length+c14.length)*48<=140737488355328 then(some (.cont (((([]:List Ai)++c12)++c14),v11.1))) else none) else none))
def Lk (s16:Int×Int) (b18:Bool):Option (LB (Int×Int) (Int)) :=
 if (!b18) then(some (.cont (s16.2,(wI (s16.2+1))))) else(some (.cont (s16.1,(wI (s16.2+1)))))
def Fb (s8:(List Ai)×(List A5)) (s16:Int×Int) (s19:Bool×Int):Option (LB (Bool×Int) (Bool)) :=
 if (decide (s19.2<(s8.1.length:Int))) then(if s19.1 then(some (.cont (true,(wI (s19.2+1))))) else(if (!decide (s19.2=s16.2)) then((idx s8.1 s19.2).bind λu20=>(idx s8.1 s16.2).bind λu21=>(P9 u20 u21).bind λv22=>some (.cont (v22,(wI (s19.2+1))))) else(some (.cont (false,(wI (s19.2+1))))))) else(some (.brk s19.1))
def Lr (s8:(List Ai)×(List A5)) (s16:Int×Int) (b17:Unit):Option (LB (Int×Int) (Int)) :=
 (B8 (Fb s8 s16) fuel (false,0)).bind λe23=>Lk s16 e23
def Du (s8:(List Ai)×(List A5)) (s16:Int×Int):Option (LB (Int×Int) (Int)) :=
 if (decide (s16.2<(s8.1.length:Int))) then(if (decide (s16.1<0)) then(Lr s8 s16 ()) else(some (.brk s16.1))) else(some (.brk s16.1))
def F7 (s8:(List Ai)×(List A5)):Option (LR ((List Ai)×(List A5)) ((List A5)) (Bool)) :=
 if (decide (0<(s8.1.length:Int))) then((B8 (Du s8) fuel ((-1),0)).bind λe24=>Mg s8 e24) else(some (.brk s8.2))
def Pj (a0:List Dl):Option Bool :=
 (Un).bind λv1=>(Qa a0).bind λv2=>if (!v2) then(some v1) else((Ha a0).bind λv3=>(Gj F7 fuel (v3.2,([]:List A5))).bind λx=>match x with | .inl r=>some r | .inr e25=>Iq v1 v3 e25)
theorem Xd [PlayC] {a0:List Dl} {r:Bool} (h:Pj a0=some r):A6 Qx0 4 [.one (SL a0 Dm)] (·=L7 (.b r)):=by
 refine An Tryz.func4 R (nt:=101) R (Nbl R) ?_
 intro w0 S0
 refine crs R (Bb (Bg ?_))
 obtain⟨v1,hv1,h⟩:=Aa h
 refine scI R R (Aay hv1) (rsn R (Bb (csr (rx 1 R ?_))))
 obtain⟨v2,hv2,h⟩:=Aa h
 refine scI R R (Aai hv2) (rsn R (ccI h R (λh=>?_) (λh=>?_)))
 ·refine crs R (crt ?_)
  cases SJ h
  exact dnT R R R R
 ·refine csn (csr (rx 1 R ?_))
  obtain⟨v3,hv3,h⟩:=Aa h
  refine scI R R (Y8 hv3) (rsn R (crs R (Bb (cj ((List A5)) (λb4=>[(3,L7 (.b v1)),(4,L7 (.lp 0 0)),(6,L7 (SL b4 Bi))]) (λb4=>[BE v3.1]) (λb4=>Iq v1 v3 b4=some r) fR (λb4 h=>?_) ?_))))
  ·refine csr (rm 2 R (ssI 90 h R (λh=>?_) (λh=>?_)))
   ·refine rx 3 R (son R R R ?_)
    obtain⟨v5,hv5,h⟩:=Aa h
    refine scI R R (W7 hv5) (son R R R ?_)
    obtain⟨v6,hv6,h⟩:=Aa h
    refine scI R R (Wz hv6) (rm 2 R (ssI 97 h R (λh=>?_) (λh=>?_)))
    ·refine rx 1 R (son R R R ?_)
     obtain⟨v7,hv7,h⟩:=Aa h
     refine scI R R (I4 hv7) (rsn R (Bn ?_))
     cases SJ h
     exact dnT R R R R
    ·refine rsn R (Bn ?_)
     cases SJ h
     exact dnT R R R R
   ·refine rsn R (Bn ?_)
    cases SJ h
    exact dnT R R R R
  ·refine Bh ?_
   refine Ay9 6 R pb ?_
   obtain⟨x8,hx8,ho8⟩:=Aa h
   refine lpn (α:=(List Ai)×(List A5)) (λg=>[(3,L7 (.b v1)),(4,L7 (.lp 0 0)),(5,L7 (SL g.2.1 Cl)),(6,L7 (SL g.2.2 Bi))]) (λg=>[BE v3.1]) (λg=>Gj F7 g.1 g.2=some x8) (fuel,(v3.2,([]:List A5))) hx8 R R fR ?_
   rintro⟨n8,s8⟩ h
   obtain⟨n8,y8,rfl,h,hk8⟩:=Ct h
   refine Bb (crs R (ccI h R (λh=>?_) (λh=>?_)))
   ·refine csn (Bh (crs R (Bb (crs R (cj (Int) (λb9=>[(3,L7 (.b v1)),(4,L7 (.lp 0 0)),(5,L7 (SL s8.1 Cl)),(6,L7 (SL s8.2 Bi)),(7,L7 (Ii6 b9))]) (λb9=>[BE v3.1]) (λb9=>Mg s8 b9=some y8) fR (λb9 h=>?_) ?_)))))
    ·refine Bb (crs R (ccI h R (λh=>?_) (λh=>?_)))
     ·refine crs R (crt (br2 (br2 ?_)))
      cases SJ h
      obtain rfl:Sum.inl _=x8:=hk8
      obtain rfl:=zD ho8
      exact dnT R R R R
     ·refine csn (csr (rx 3 R ?_))
      obtain⟨u10,hu10,h⟩:=Aa h
      refine sv R (Bl (f:=Cl) Ajg fR R R R R hu10) ?_
      refine sv R (A8 (ys:=[Ii6 u10.id_,Ii6 u10.snap_,Ii6 u10.end_,SL u10.acts_ Dj]) Axo R (.cp _) R R) ?_
      obtain⟨v11,hv11,h⟩:=Aa h
      refine scI R R (Yr hv11) (rsn R (Bb (crs R (ccI h R (λh=>?_) (λh=>?_)))))
      ·refine crs R (crt (br2 (br2 ?_)))
       cases SJ h
       obtain rfl:Sum.inl _=x8:=hk8
       obtain rfl:=zD ho8
       exact dnT R R R R
      ·refine csn (crs R (crs R (csr (rx 3 R ?_))))
       obtain⟨c12,hc12,h⟩:=Aa h
       refine sv R (Uo (f:=Cl) (lo:=0) (hi:=b9) Ajg fR R R R R9 (Mq R (zAg (Ro hc12).1.1 (Ro hc12).1.2.1)) hc12) ?_
       refine Avz 79 4 77 (by decide) R ?_
       obtain⟨hb13,h⟩:=B5 h
       refine Tp (f:=Cl) (xs:=([]:List Ai)) (us:=c12) R Tryz.underlying73 Auw Axk fR R R (.one _ _ _ _ (.id _ R)) R R R (.sl _ _ _ (Aq (f:=Cl) fR _)) R R hb13 (by decide) ?_
       refine rsn R (csr (rx 4 R ?_))
       obtain⟨c14,hc14,h⟩:=Aa h
       refine sv R (Uo (f:=Cl) (lo:=(wI (b9+1))) (hi:=(s8.1.length:Int)) Ajg fR R R R (Mq R (Ro hc14).1.1) (by exact R) hc14) ?_
       obtain⟨hb15,h⟩:=B5 h
       refine Tp (f:=Cl) (xs:=(([]:List Ai)++c12)) (us:=c14) R Tryz.underlying73 Auw Axk fR R R (.one _ _ _ _ (.id _ R)) R R R (.sl _ _ _ (Aq (f:=Cl) fR _)) R R hb15 (by decide) ?_
       refine rsn R (Bg (rx 2 R ?_))
       refine Ahd 5 R pb ?_
       refine Fi (A0 (Ag ?_))
       cases SJ h
       exact lx (n8,(((([]:List Ai)++c12)++c14),v11.1)) hk8 R R
    ·refine Bh ?_
     obtain⟨x16,hx16,ho16⟩:=Aa h
     refine lpn (α:=Int×Int) (λg=>[(3,L7 (.b v1)),(4,L7 (.lp 0 0)),(5,L7 (SL s8.1 Cl)),(6,L7 (SL s8.2 Bi)),(7,L7 (Ii6 g.2.1)),(8,L7 (Ii6 g.2.2))]) (λg=>[BE v3.1]) (λg=>B8 (Du s8) g.1 g.2=some x16) (fuel,((-1),0)) hx16 R R fR ?_
     rintro⟨n16,s16⟩ h
     obtain⟨n16,y16,rfl,h,hk16⟩:=Cb h
     refine Bb (Bb (cj3 (Unit) (λb17=>[(3,L7 (.b v1)),(4,L7 (.lp 0 0)),(5,L7 (SL s8.1 Cl)),(6,L7 (SL s8.2 Bi)),(7,L7 (Ii6 s16.1)),(8,L7 (Ii6 s16.2))]) (λb17=>[BE v3.1]) (λb17=>Lr s8 s16 b17=some y16) fR (λb17 h=>?_) ?_))
     ·refine Bb (Bh (crs R (Bb (crs R (cj (Bool) (λb18=>[(3,L7 (.b v1)),(4,L7 (.lp 0 0)),(5,L7 (SL s8.1 Cl)),(6,L7 (SL s8.2 Bi)),(7,L7 (Ii6 s16.1)),(8,L7 (Ii6 s16.2)),(9,L7 (.b b18))]) (λb18=>[BE v3.1]) (λb18=>Lk s16 b18=some y16) fR (λb18 h=>?_) ?_)))))
      ·refine crs R (ccI h R (λh=>?_) (λh=>?_))
       ·refine Bg (rm 2 R (Fi (A0 (Ag (cgs R ?_)))))
        cases SJ h
        exact lx (n16,(s16.2,(wI (s16.2+1)))) hk16 R R
       ·refine cbn (cgs R ?_)
        cases SJ h
        exact lx (n16,(s16.1,(wI (s16.2+1)))) hk16 R R
      ·refine Bh ?_
       obtain⟨x19,hx19,ho19⟩:=Aa h
       refine lpn (α:=Bool×Int) (λg=>[(3,L7 (.b v1)),(4,L7 (.lp 0 0)),(5,L7 (SL s8.1 Cl)),(6,L7 (SL s8.2 Bi)),(7,L7 (Ii6 s16.1)),(8,L7 (Ii6 s16.2)),(9,L7 (.b g.2.1)),(10,L7 (Ii6 g.2.2))]) (λg=>[BE v3.1]) (λg=>B8 (Fb s8 s16) g.1 g.2=some x19) (fuel,(false,0)) hx19 R R fR ?_
       rintro⟨n19,s19⟩ h
       obtain⟨n19,y19,rfl,h,hk19⟩:=Cb h
       refine Bb (crs R (ccI h R (λh=>?_) (λh=>?_)))
       ·refine csn (Bb (Bh ?_))
        refine Awh mixed (by kernel_rfl) ?_
        refine dv R (Bj R) (dv R (Bj R) (Qh 44 R (λhc=>?_) (λhc=>?_)))
        ·replace h:=P8 hc h
         clear hc
         refine Dy R R R R (Dy R R R R (Dy R R R R (Dy R R R R (Tw R R R (Tw R R R (Tw R R R (Tw R R R (Tw R R R (Tw R R R (Tw R R R (Tw R R R (Tw R R R (Dy R R R R (dv R (Cp R R) (dv R (Hh R) (Vp (A0 (Ag (cgs R ?_)))))))))))))))))))
         cases SJ h
         exact lx (n19,(true,(wI (s19.2+1)))) hk19 R R
        ·replace h:=P3 hc h
         clear hc
         refine dvg R R R (Bj R) (dvg R R R (Bj R) (dvg R R R (Ac3 R R) (dvg R R R (Bj R) (Qh 48 R (λhc=>?_) (λhc=>?_)))))
         ·replace h:=P8 hc h
          clear hc
          refine dvg R R R (Bj R) (dvg R R R (Bj R) ?_)
          obtain⟨u20,hu20,h⟩:=Aa h
          refine dvg R R R (Bl (f:=Cl) Ajg fR R R R R hu20) ?_
          refine dvg R R R (A8 (ys:=[Ii6 u20.id_,Ii6 u20.snap_,Ii6 u20.end_,SL u20.acts_ Dj]) Axo R (.cp _) R R) (dvg R R R (Bj R) (dvg R R R (Bj R) ?_))
          obtain⟨u21,hu21,h⟩:=Aa h
          refine dvg R R R (Bl (f:=Cl) Ajg fR R R R R hu21) ?_
          refine dvg R R R (A8 (ys:=[Ii6 u21.id_,Ii6 u21.snap_,Ii6 u21.end_,SL u21.acts_ Dj]) Axo R (.cp _) R R) ?_
          obtain⟨v22,hv22,h⟩:=Aa h
          refine ddg R R R (Cf (fk R) (Af R (Af R A2)) R (Aaf hv22)) (dvg R R R (Cp R R) (dv R (Cn R R) (dv R (Hh R) (Vp (A0 (Ag (cgs R ?_)))))))
          cases SJ h
          exact lx (n19,(v22,(wI (s19.2+1)))) hk19 R R
         ·replace h:=P3 hc h
          clear hc
          refine Dy R R R R (Dy R R R R (Dy R R R R (Dy R R R R (Dy R R R R (Dy R R R R (Dy R R R R (Dy R R R R (Dy R R R R (dvg R R R (Cn R R) (dv R (Cn R R) (dv R (Hh R) (Vp (A0 (Ag (cgs R ?_)))))))))))))))
          cases SJ h
          exact lx (n19,(false,(wI (s19.2+1)))) hk19 R R
       ·refine cx5 ?_
        cases SJ h
        obtain rfl:_=x19:=hk19
        exact⟨s19.1,_,ho19,(ml R),R⟩
     ·refine Bg (rx 5 R (ssI 31 h R (λh=>?_) (λh=>?_)))
      ·refine rsn R (ccI h R (λh=>?_) (λh=>?_))
       ·refine csn ?_
        exact⟨(),_,h,(ml R),R⟩
       ·refine cx5 ?_
        cases SJ h
        obtain rfl:_=x16:=hk16
        exact⟨s16.1,_,ho16,(ml R),R⟩
      ·refine rsn R (B1 R (λhx=>Bool.noConfusion hx) (λ_=>?_))
       refine cx5 ?_
       cases SJ h
       obtain rfl:_=x16:=hk16
       exact⟨s16.1,_,ho16,(ml R),R⟩
   ·refine cx5 ?_
    cases SJ h
    obtain rfl:_=x8:=hk8
    exact⟨s8.2,_,ho8,(ml R),R⟩
end Go.Proofs.YtkblaobhhoebaaaGreat.Abs
