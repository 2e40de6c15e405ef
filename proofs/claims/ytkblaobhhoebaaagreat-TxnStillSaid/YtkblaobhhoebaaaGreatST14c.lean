/-
 t
-/
import Derived.Test.YtkblaobhhoebaaaGreatST14b
set_option linter.unusedVariables false
set_option linter.unusedSimpArgs false
namespace Go.Proofs.YtkblaobhhoebaaaGreat.Abs
open Go.RowKit Go.Proofs
set_option maxRecDepth 100000
def Gc (a0:List A7):Option Bool :=
 (Iz (Ey a0) fuel (0,([]:List (List UInt8)))).bind λx=>match x with | .inl r=>some r | .inr e7=>Ev e7
theorem Vi {a0:List A7} {r:Bool} (h:Gc a0=some r):Bt Qx0 213 [.one (SL a0 A5)] (·=L7 (.b r)):=by
 unfold Gc at h
 refine A1 Tryz.func213 R (nt:=34) R (Nbl R) ?_
 intro w0 S0
 refine csr (rm 1 R (Ah (csr (rm 1 R (Ah (Bj (csr (rm 1 R (sv R (Ap Zh R) (rm 1 R (Ah ?_)))))))))))
 refine Dl 56 1 3 (by decide) R ?_
 refine cj ((List (List UInt8))) (λb1=>[(3,L7 (.ls 0 b1.length))]) (λb1=>[.arr 56 1 0 (b1.flatMap (eL eU8))]) (λb1=>Ev b1=some r) (λ_=>R) (λb1 h=>?_) ?_
 ·unfold Ev at h
  refine csr (sv R (Az R) ?_)
  refine Aif 32 R (by(repeat' first|exact Ho.nil _|apply Ho.cons|apply Hl.one|apply Hl.agg|exact C5.nil|exact C5.ls _ _ _ _ _ _ R (Aw (f:=(eL eU8)) (λ_=>R) _).symm|exact C5.id _ R|exact Cv.nil _|apply Cv.cons)) ?_
  obtain⟨v2,hv2,h⟩:=Ae h
  refine Bb R A0k (Ac R Ag) (Ao R) (Ri hv2) (rm 1 R (Ah (Bq ?_)))
  obtain rfl:=SJ h
  exact dnT R R R R
 ·skip
  refine Bl ?_
  obtain⟨x3,hx3,ho3⟩:=Ae h
  refine lpo (G:=Nat×(Int×(List (List UInt8)))) (λg=>[(3,L7 (.ls 0 g.2.2.length)),(6,L7 (SL a0 A5)),(7,L7 (Ii6 (a0.length:Int))),(8,L7 (Ii6 g.2.1))]) (λg=>[.arr 56 1 0 (g.2.2.flatMap (eL eU8))]) (λg=>Iz (Ey a0) g.1 g.2=some x3) (λg=>g.1) (fuel,(0,([]:List (List UInt8)))) hx3 ⟨R,R,R,R,trivial⟩ [] R (λ_=>R) ?_
  clear hx3 h
  rintro⟨n3,s3⟩ h
  obtain⟨n3,y3,rfl,h,hk3⟩:=Dj h
  unfold Ey at h
  refine csr (sv R (Bv R R) (Ah (Bj (ccI h R (λh=>?_) (λh=>?_)))))
  ·refine Bf (Ab (Bj (Bl (Bj (Au ?_)))))
   obtain⟨u4,hu4,h⟩:=Ae h
   refine sv R (B4 (f:=A5) Zh (λ_=>R) R R R R hu4) ?_
   refine sv R (Bs (ys:=[SL u4.Key eU8,SL u4.Val eU8,.b u4.Del]) Aij R (.cp _) R R) (Br R Aml (sst Ao8 R R R R R (Ah (Bj (Bj (cj3 (Unit) (λb5=>[(3,L7 (.ls 0 s3.2.length)),(5,L7 (.lp 1 0)),(6,L7 (SL a0 A5)),(7,L7 (Ii6 (a0.length:Int))),(8,L7 (Ii6 s3.1))]) (λb5=>[.arr 56 1 0 (s3.2.flatMap (eL eU8)),.box (EL.el u4)]) (λb5=>Dt s3 u4 b5=some y3) (λ_=>R) (λb5 h=>?_) ?_))))))
   ·unfold Dt at h
    refine Au (rm 1 R (sv R (Aa Tn R) (sv R (l1 L3 R R R) ?_)))
    refine D7 R Tryz.underlying25 Aid R R (zI.1 R) (by decide) ?_
    refine Ql [.arr 56 1 0 (s3.2.flatMap (eL eU8)),.box (EL.el u4),.arr 56 1 0 ([u4.Key].flatMap (eL eU8))] R ?_
    obtain⟨hb6,h⟩:=Cs h
    refine U1 (f:=(eL eU8)) (xs:=s3.2) (us:=[u4.Key]) R Tryz.underlying25 Aid Av5 (λ_=>R) R R (.one _ _ _ _ (.ls _ _ _ _ _ _ R (Aw (f:=(eL eU8)) (λ_=>R) [u4.Key]).symm)) R R R (.sl _ _ _ (Aw (f:=(eL eU8)) (λ_=>R) _)) R R hb6 (by decide) ?_
    refine rm 1 R (Jb (Ar (Ab (Au (sv R (Bp R R) (rm 1 R (Ah ?_)))))))
    obtain rfl:=SJ h
    exact⟨(n3,((wI (s3.1+1)),(s3.2++[u4.Key]))),_,hk3,⟨R,R,R,R,trivial⟩,R,zG _⟩
   ·skip
    refine Au (fl Y0 L3 R R R R R R (sv R (Ap Aa5 R) (sv R (Dr R R) (rm 1 R (ssI 16 h R (λh=>?_) (λh=>?_))))))
    ·refine rm 3 R (Cp R R R (Cp R R R (Cp R R R (Cp R R R (rm 2 R (Ah (Ce R (λ_=>?_) (λhx=>Bool.noConfusion hx))))))))
     refine csr (rm 1 R (Ah (Bq (Af (Av (Af (Af (Av (Af ?_)))))))))
     obtain rfl:=SJ h
     obtain rfl:Sum.inl _=x3:=hk3
     replace ho3:some _=some _:=ho3
     obtain rfl:=zD ho3
     exact dnT R R R R
    ·refine son R R R (sv R (Aa Abr R) (son R R R (sv R (l1 ti4 R R R) (rm 1 R (ssI 19 h R (λh=>?_) (λh=>?_))))))
     ·refine son R R R (sv R (Aa Y0 R) (son R R R (sv R (l1 L3 R R R) (son R R R (sv R (Ap Aa5 R) (son R R R (sv R (Dr R R) (rm 2 R (Ah (ccI h R (λh=>?_) (λh=>?_)))))))))))
      ·refine csr (rm 1 R (Ah (Bq (Af (Av (Af (Af (Av (Af ?_)))))))))
       obtain rfl:=SJ h
       obtain rfl:Sum.inl _=x3:=hk3
       replace ho3:some _=some _:=ho3
       obtain rfl:=zD ho3
       exact dnT R R R R
      ·refine Bf (Ab ?_)
       exact⟨(),_,h,⟨R,R,R,R,R,trivial⟩,R⟩
     ·refine rm 6 R (Ah (Ce R (λhx=>Bool.noConfusion hx) (λ_=>?_)))
      refine Bf (Ab ?_)
      exact⟨(),_,h,⟨R,R,R,R,R,trivial⟩,R⟩
  ·refine C3 (As (As (Bi (Ab ?_))))
   obtain rfl:=SJ h
   obtain rfl:_=x3:=hk3
   exact⟨s3.2,_,ho3,⟨R,trivial⟩,R⟩
def Uh (a0:List (List UInt8)):Option (List (List UInt8)) :=
 if (([]:List (List UInt8)).length+a0.length)*24<=140737488355328 then(some (([]:List (List UInt8))++a0)) else none
theorem Aiy {a0:List (List UInt8)} {r:(List (List UInt8))} (h:Uh a0=some r):Bt Qx0 214 [.one (SL a0 (eL eU8))] (·=L7 (SL r (eL eU8))):=by
 unfold Uh at h
 refine A1 Tryz.func214 R (nt:=8) R (Nbl R) ?_
 intro w0 S0
 refine csr (rm 1 R (Ah (Bj (csr (rm 1 R (Afl R Tryz.underlying25 R (λnq hnq=>?_)))))))
 cases nq
 ·skip
  refine Ah (Ce R (λhx=>Bool.noConfusion hx) (λ_=>?_))
  refine Bf (Ab (csr (U2 R Tryz.underlying25 Aid (sv R (Az R) ?_))))
  obtain⟨hb1,h⟩:=Cs h
  refine U1 (f:=(eL eU8)) (xs:=([]:List (List UInt8))) (us:=a0) R Tryz.underlying25 Aid Av5 (λ_=>R) R R (.one _ _ _ _ (.id _ R)) R R R (.sl _ _ _ (Aw (f:=(eL eU8)) (λ_=>R) _)) R R hb1 (by decide) ?_
  refine rm 1 R (Ah (Bq ?_))
  obtain rfl:=SJ h
  refine⟨Or.inr R,_,_,_,(Ad (rt R) Aj),(by(repeat' first|exact Ho.nil _|apply Ho.cons|apply Hl.one|apply Hl.agg|exact C5.nil|exact C5.ls _ _ _ _ _ _ R (Aw (f:=(eL eU8)) (λ_=>R) _).symm|exact C5.id _ R|exact Cv.nil _|apply Cv.cons)),?_⟩
  rfl
 ·obtain rfl:=zY (hnq rfl)
  replace h:(some ([]:List (List UInt8)))=some r:=by first|exact h|(rw[if_pos (by decide)] at h;exact h)
  refine Ah (Ce R (λ_=>?_) (λhx=>Bool.noConfusion hx))
  refine csr (rm 1 R (Ah (Bq (Af ?_))))
  obtain rfl:=SJ h
  exact dn (Ad (rt R) Aj) (I8 R) R
def U0 (a0:List Am):Option (List Am) :=
 if (([]:List Am).length+a0.length)*24<=140737488355328 then(some (([]:List Am)++a0)) else none
theorem Aip {a0:List Am} {r:(List Am)} (h:U0 a0=some r):Bt Qx0 215 [.one (SL a0 Ay)] (·=L7 (SL r Ay)):=by
 unfold U0 at h
 refine A1 Tryz.func215 R (nt:=8) R (Nbl R) ?_
 intro w0 S0
 refine csr (rm 1 R (Ah (Bj (csr (rm 1 R (Afl R Tryz.underlying26 R (λnq hnq=>?_)))))))
 cases nq
 ·skip
  refine Ah (Ce R (λhx=>Bool.noConfusion hx) (λ_=>?_))
  refine Bf (Ab (csr (U2 R Tryz.underlying26 Aju (sv R (Az R) ?_))))
  obtain⟨hb1,h⟩:=Cs h
  refine U1 (f:=Ay) (xs:=([]:List Am)) (us:=a0) R Tryz.underlying26 Aju A34 (λ_=>R) R R (.one _ _ _ _ (.id _ R)) R R R (.sl _ _ _ (Aw (f:=Ay) (λ_=>R) _)) R R hb1 (by decide) ?_
  refine rm 1 R (Ah (Bq ?_))
  obtain rfl:=SJ h
  refine⟨Or.inr R,_,_,_,(Ad (rt R) Aj),(by(repeat' first|exact Ho.nil _|apply Ho.cons|apply Hl.one|apply Hl.agg|exact C5.nil|exact C5.ls _ _ _ _ _ _ R (Aw (f:=Ay) (λ_=>R) _).symm|exact C5.id _ R|exact Cv.nil _|apply Cv.cons)),?_⟩
  rfl
 ·obtain rfl:=zY (hnq rfl)
  replace h:(some ([]:List Am))=some r:=by first|exact h|(rw[if_pos (by decide)] at h;exact h)
  refine Ah (Ce R (λ_=>?_) (λhx=>Bool.noConfusion hx))
  refine csr (rm 1 R (Ah (Bq (Af ?_))))
  obtain rfl:=SJ h
  exact dn (Ad (rt R) Aj) (I8 R) R
def Ju (a0:List (List UInt8)):Option (List (List UInt8)) :=
 if (([]:List (List UInt8)).length+a0.length)*24<=140737488355328 then(some (([]:List (List UInt8))++a0)) else none
theorem Sc {a0:List (List UInt8)} {r:(List (List UInt8))} (h:Ju a0=some r):Dw Qx0 214 [] [.one (SL a0 (eL eU8))] (λy m'=>y=L7 (.ls 0 r.length)/\m'=[.arr 56 1 0 (r.flatMap (eL eU8))]):=by
 unfold Ju at h
 refine Dn Tryz.func214 R (nt:=8) R (Nbl R) ?_
 intro w0 S0 X0 H0
 refine csr (rm 1 R (Ah (Bj (csr (rm 1 R (Afl R Tryz.underlying25 R (λnq hnq=>?_)))))))
 cases nq
 ·skip
  refine Ah (Ce R (λhx=>Bool.noConfusion hx) (λ_=>?_))
  refine Bf (Ab (csr (U2 R Tryz.underlying25 Aid (sv R (Az R) ?_))))
  obtain⟨hb1,h⟩:=Cs h
  refine U1 (f:=(eL eU8)) (xs:=([]:List (List UInt8))) (us:=a0) R Tryz.underlying25 Aid Av5 (λ_=>R) R R (.one _ _ _ _ (.id _ R)) R R R (.sl _ _ _ (Aw (f:=(eL eU8)) (λ_=>R) _)) R R hb1 (by decide) ?_
  refine rm 1 R (Ah (Bq ?_))
  obtain rfl:=SJ h
  exact⟨Or.inr R,_,[0],[.one (.ls 0 (([]:List (List UInt8))++a0).length)],[.arr 56 1 0 ((([]:List (List UInt8))++a0).flatMap (eL eU8))],(Ad (rt R) Aj),R,R,⟨by decide,R⟩,R,R,⟨R,R⟩⟩
 ·obtain rfl:=zY (hnq rfl)
  replace h:(some ([]:List (List UInt8)))=some r:=by first|exact h|(rw[if_pos (by decide)] at h;exact h)
  refine Ah (Ce R (λ_=>?_) (λhx=>Bool.noConfusion hx))
  refine csr (rm 1 R (Ah ?_))
  refine Dl 56 1 2 (by decide) R ?_
  refine Bq (Af ?_)
  obtain rfl:=SJ h
  exact⟨Or.inr R,_,[0],[.one (.ls 0 ([]:List (List UInt8)).length)],[.arr 56 1 0 (([]:List (List UInt8)).flatMap (eL eU8))],(Ad (rt R) Aj),R,R,⟨by decide,R⟩,R,R,⟨R,R⟩⟩
def Jj (a0:List Am):Option (List Am) :=
 if (([]:List Am).length+a0.length)*24<=140737488355328 then(some (([]:List Am)++a0)) else none
theorem R3 {a0:List Am} {r:(List Am)} (h:Jj a0=some r):Dw Qx0 215 [] [.one (SL a0 Ay)] (λy m'=>y=L7 (.ls 0 r.length)/\m'=[.arr 134 1 0 (r.flatMap Ay)]):=by
 unfold Jj at h
 refine Dn Tryz.func215 R (nt:=8) R (Nbl R) ?_
 intro w0 S0 X0 H0
 refine csr (rm 1 R (Ah (Bj (csr (rm 1 R (Afl R Tryz.underlying26 R (λnq hnq=>?_)))))))
 cases nq
 ·skip
  refine Ah (Ce R (λhx=>Bool.noConfusion hx) (λ_=>?_))
  refine Bf (Ab (csr (U2 R Tryz.underlying26 Aju (sv R (Az R) ?_))))
  obtain⟨hb1,h⟩:=Cs h
  refine U1 (f:=Ay) (xs:=([]:List Am)) (us:=a0) R Tryz.underlying26 Aju A34 (λ_=>R) R R (.one _ _ _ _ (.id _ R)) R R R (.sl _ _ _ (Aw (f:=Ay) (λ_=>R) _)) R R hb1 (by decide) ?_
  refine rm 1 R (Ah (Bq ?_))
  obtain rfl:=SJ h
  exact⟨Or.inr R,_,[0],[.one (.ls 0 (([]:List Am)++a0).length)],[.arr 134 1 0 ((([]:List Am)++a0).flatMap Ay)],(Ad (rt R) Aj),R,R,⟨by decide,R⟩,R,R,⟨R,R⟩⟩
 ·obtain rfl:=zY (hnq rfl)
  replace h:(some ([]:List Am))=some r:=by first|exact h|(rw[if_pos (by decide)] at h;exact h)
  refine Ah (Ce R (λ_=>?_) (λhx=>Bool.noConfusion hx))
  refine csr (rm 1 R (Ah ?_))
  refine Dl 134 1 2 (by decide) R ?_
  refine Bq (Af ?_)
  obtain rfl:=SJ h
  exact⟨Or.inr R,_,[0],[.one (.ls 0 ([]:List Am).length)],[.arr 134 1 0 (([]:List Am).flatMap Ay)],(Ad (rt R) Aj),R,R,⟨by decide,R⟩,R,R,⟨R,R⟩⟩
def Fv (b1:Unit):Option Int :=
 some (-1)
def D3 (a0:List (List UInt8)) (a1:List UInt8) (s2:Int):Option (LR (Int) (Unit) (Int)) :=
 if (decide (s2<(a0.length:Int))) then((idx a0 s2).bind λu3=>(Eg a1 u3).bind λv4=>if v4 then(some (.ret s2)) else(some (.cont (wI (s2+1))))) else(some (.brk ()))
def Hm (a0:List (List UInt8)) (a1:List UInt8):Option Int :=
 (Iz (D3 a0 a1) fuel 0).bind λx=>match x with | .inl r=>some r | .inr e5=>Fv e5
theorem T1 {a0:List (List UInt8)} {a1:List UInt8} {r:Int} (h:Hm a0 a1=some r):Dw Qx0 147 [.arr 56 1 0 (a0.flatMap (eL eU8))] [.one (.ls 0 a0.length),.one (.fn 148 [SL a1 eU8] [])] (λy m'=>y=L7 (Ii6 r)/\m'=[.arr 56 1 0 (a0.flatMap (eL eU8))]):=by
 unfold Hm at h
 refine Dn Tryz.func147 R (nt:=19) R (Nbl R) ?_
 intro w0 S0 X0 H0
 refine csr (rm 1 R (Ah (Bj (csr (rm 1 R (sv R (H6 Se R R (Aw (f:=(eL eU8)) (λ_=>R) _).symm) ?_))))))
 refine rm 1 R (Ah (cj (Unit) (λb1=>[]) (λb1=>[.arr 56 1 0 (a0.flatMap (eL eU8))]) (λb1=>Fv b1=some r) (λ_=>R) (λb1 h=>?_) ?_))
 ·unfold Fv at h
  refine csr (rm 1 R (Ah (Bq ?_)))
  obtain rfl:=SJ h
  exact⟨Or.inr R,_,[0],[.one (Ii6 (-1))],[.arr 56 1 0 (a0.flatMap (eL eU8))],(Ad (rt R) Aj),R,R,⟨by decide,R⟩,R,R,⟨R,R⟩⟩
 ·skip
  refine Bl ?_
  obtain⟨x2,hx2,ho2⟩:=Ae h
  refine lpo (G:=Nat×(Int)) (λg=>[(0,L7 (.ls 0 a0.length)),(1,L7 (.fn 148 [SL a1 eU8] [])),(7,L7 (Ii6 (a0.length:Int))),(8,L7 (Ii6 g.2))]) (λg=>[.arr 56 1 0 (a0.flatMap (eL eU8))]) (λg=>Iz (D3 a0 a1) g.1 g.2=some x2) (λg=>g.1) (fuel,0) hx2 ⟨R,R,R,R,trivial⟩ [] R (λ_=>R) ?_
  clear hx2 h
  rintro⟨n2,s2⟩ h
  obtain⟨n2,y2,rfl,h,hk2⟩:=Dj h
  unfold D3 at h
  refine csr (sv R (Bv R R) (Ah (Bj (ccI h R (λh=>?_) (λh=>?_)))))
  ·refine Bf (Ab (Bj (Bl (csr (rm 2 R (Ah (csr (rm 2 R (sv R (Az R) ?_)))))))))
   obtain⟨u3,hu3,h⟩:=Ae h
   refine sv R (G8 (f:=(eL eU8)) Se (λ_=>R) R R R R R hu3) ?_
   refine sv R (Aem (f:=(eL eU8)) 0 L3 (λ_=>R) R R R R (Jd hu3).2 R) ?_
   obtain⟨v4,hv4,h⟩:=Ae h
   refine sd R (V5 Ayo (.fn _ _ _ _ R) (Ac R Ag) R (Pj hv4)) (Ah (ccI h R (λh=>?_) (λh=>?_)))
   ·refine csr (rm 2 R (Ah (Bq (Av (Af (Af (Av (Af ?_))))))))
    obtain rfl:=SJ h
    obtain rfl:Sum.inl _=x2:=hk2
    replace ho2:some _=some _:=ho2
    obtain rfl:=zD ho2
    exact⟨Or.inr R,_,[0],[.one (Ii6 s2)],[.arr 56 1 0 (a0.flatMap (eL eU8))],(Ad (rt R) Aj),R,R,⟨by decide,R⟩,R,R,⟨R,R⟩⟩
   ·refine Bf (Ar (Ab (Au (sv R (Bp R R) (rm 1 R (Ah ?_))))))
    obtain rfl:=SJ h
    exact⟨(n2,(wI (s2+1))),_,hk2,⟨R,R,R,R,trivial⟩,R,zG _⟩
  ·refine C3 (As (As (Bi (Ab ?_))))
   obtain rfl:=SJ h
   obtain rfl:_=x2:=hk2
   exact⟨(),_,ho2,trivial,R⟩
def O2 (a0:List (List UInt8)) (a1:List UInt8):Option (Int×Bool) :=
 (Hm a0 a1).bind λv1=>if (decide (v1<0)) then(some ((a0.length:Int),false)) else((idx a0 v1).bind λu2=>(Fs u2 a1).bind λv3=>some (v1,v3))
theorem Aaw {a0:List (List UInt8)} {a1:List UInt8} {r:Int×Bool} (h:O2 a0 a1=some r):Dw Qx0 69 [.arr 56 1 0 (a0.flatMap (eL eU8))] [.one (.ls 0 a0.length),.one (SL a1 eU8)] (λy m'=>y=.tup [.one (Ii6 r.1),.one (.b r.2)]/\m'=[.arr 56 1 0 (a0.flatMap (eL eU8))]):=by
 unfold O2 at h
 refine Dn Tryz.func69 R (nt:=22) R (Nbl R) ?_
 intro w0 S0 X0 H0
 refine csr (rm 2 R (Ah (csr (rm 2 R (sv R (Wi (Xv R R Sn) Sn) ?_)))))
 obtain⟨v1,hv1,h⟩:=Ae h
 refine I0 (x':=L7 (Ii6 v1)) (M':=[.arr 56 1 0 (a0.flatMap (eL eU8))]) [0] R Ayg (.func _) (Ac R (Ac R Ag)) (T1 hv1) R R (by decide) R R R ?_
 refine rm 1 R (Ah (Bj (csr (rm 1 R (sv R (Bv R R) (Ah (ccI h R (λh=>?_) (λh=>?_))))))))
 ·refine csr (rm 1 R (sv R (H6 Se R R (Aw (f:=(eL eU8)) (λ_=>R) _).symm) ?_))
  refine rm 2 R (Ah (Bq (Af ?_)))
  obtain rfl:=SJ h
  exact⟨Or.inr R,_,[0],[.one (Ii6 (a0.length:Int)),.one (.b false)],[.arr 56 1 0 (a0.flatMap (eL eU8))],(Ad (rt R) (Ad (rt R) Aj)),R,R,⟨by decide,R⟩,R,R,⟨R,R⟩⟩
 ·refine Bf (Ab (csr (rm 2 R (sv R (Az R) ?_))))
  obtain⟨u2,hu2,h⟩:=Ae h
  refine sv R (G8 (f:=(eL eU8)) Se (λ_=>R) R R R R R hu2) ?_
  refine sv R (Aem (f:=(eL eU8)) 0 L3 (λ_=>R) R R R R (Jd hu2).2 R) ?_
  refine sv R (Az R) ?_
  obtain⟨v3,hv3,h⟩:=Ae h
  refine Bb R Awf (Ac R (Ac R Ag)) (Ao R) (Pw hv3) (rm 2 R (Ah (Bq ?_)))
  obtain rfl:=SJ h
  exact⟨Or.inr R,_,[0],[.one (Ii6 v1),.one (.b v3)],[.arr 56 1 0 (a0.flatMap (eL eU8))],(Ad (rt R) (Ad (rt R) Aj)),R,R,⟨by decide,R⟩,R,R,⟨R,R⟩⟩
section
open Go.Lib
set_option maxHeartbeats 4000000 in
theorem Amw (b n c vb vc:Nat) (vs:List Value) (w:World) (i0:TypeInfo) (hi0:Tryz.prog.info? 56=some i0) (hs0:i0.size=1) (hroom:n+1<=c) (hc63:c<=9223372036854775807)
  (hvl:vs.length=1) (hsp:∀ j,j<1->(w.cell? ⟨b,n*1+j,none⟩).isSome=true) (hfz:∀ j,j<1->w.frozen? ⟨b,n*1+j,none⟩=false)
  (hvs:∀ j v,vs[j]? = some v->w.cell? ⟨vb,j,none⟩=some v) (h1v:∀ v∈vs,v.oneCell'=true) :
  Calls Tryz.prog 255 #[.slice (some ⟨b,0,none⟩) n c,.int .i64 n,.slice (some ⟨vb,0,none⟩) 1 vc] w λe w' =>
   e=.returned (.slice (some ⟨b,0,none⟩) (n+1) c)/\w'=w.setCells b (n*1) vs:=by
 have hsrc:_root_.Go.Src Tryz.prog i0.size 25 (.slice (some ⟨vb,0,none⟩) 1 vc) 1 vs w:=by
  rw[hs0]
  exact _root_.Go.Src.ofSlice w Tryz.underlying25 ⟨vb,0,none⟩ 1 vc vs (by omega) (λj u hj=>by rw[Addr.add_lit,yE];exact hvs j u hj) h1v
 go_enter Tryz.func255,Tryz.ntmps255
 go_wp2_with (at_builtin;refine wpList_append_room_src _ rfl _ _ 25 25 rfl 56 i0 Tryz.underlying25 hi0 b 0 n c rfl _ rfl 1 vs hsrc hroom (by rw[hvl,hs0,yE];exact hsp) (by rw[hvl,hs0,yE];exact hfz) ?_)
 go_ret
 refine⟨R,?_⟩
 first|rfl|(simp;done)|(simp [hs0];done)
set_option maxHeartbeats 4000000 in
theorem Ahq (b n c vb vc:Nat) (cs vs:List Value) (w:World) (i0:TypeInfo) (hi0:Tryz.prog.info? 56=some i0) (hz0:i0.zero=some (.slice none 0 0)) (hs0:i0.size=1) (hnc:n<=c) (hroom:c<n+1) (hn63:n+1<=9223372036854775807)
  (hfit:Builtin.nextslicecap (n+1) c*i0.bytes<=281474976710656) (hcl:cs.length=n*1) (hvl:vs.length=1)
  (hcs:∀ j v,cs[j]? = some v->w.cell? ⟨b,j,none⟩=some v) (hvs:∀ j v,vs[j]? = some v->w.cell? ⟨vb,j,none⟩=some v) (h1v:∀ v∈vs,v.oneCell'=true) :
  Calls Tryz.prog 255 #[.slice (some ⟨b,0,none⟩) n c,.int .i64 n,.slice (some ⟨vb,0,none⟩) 1 vc] w λe w' =>
   e=.returned (.slice (some ⟨w.heap.size,0,none⟩) (n+1) (grownCap w (n+1) c 56)) /\
   w'=w.drew.alloc (.cells ((cs++vs).toArray++Builtin.zeroCells (Value.cells (.slice none 0 0)) (grownCap w (n+1) c 56-(n+1))) 56):=by
 have hsrc:_root_.Go.Src Tryz.prog i0.size 25 (.slice (some ⟨vb,0,none⟩) 1 vc) 1 vs w:=by
  rw[hs0]
  exact _root_.Go.Src.ofSlice w Tryz.underlying25 ⟨vb,0,none⟩ 1 vc vs (by omega) (λj u hj=>by rw[Addr.add_lit,yE];exact hvs j u hj) h1v
 have hold:(Builtin.firstCells i0.size n (.slice (some ⟨b,0,none⟩) n c)).run Tryz.prog w.drew=.ok cs.toArray w.drew:=by
  rw[hs0]
  exact run_firstCells_some w.drew 1 n ⟨b,0,none⟩ n c cs (by omega) (λj v hj=>by rw[Addr.add_lit,yE];exact hcs j v hj)
 have hrun:∀ ty,(Builtin.append_ #[25,25] ty #[.slice (some ⟨b,0,none⟩) n c,.slice (some ⟨vb,0,none⟩) 1 vc]).run Tryz.prog w=.ok (.slice (some ⟨w.heap.size,0,none⟩) (n+1) (grownCap w (n+1) c 56)) (w.drew.alloc (.cells ((cs++vs).toArray++Builtin.zeroCells (Value.cells (.slice none 0 0)) (grownCap w (n+1) c 56-(n+1))) 56)):=λty =>
  run_append_grow_src w 25 25 ty 56 i0 _ Tryz.underlying25 hi0 hz0 (some ⟨b,0,none⟩) n c cs hold _ 1 vs hsrc hroom (by omega) hfit
 go_enter Tryz.func255,Tryz.ntmps255
 go_wp2_with (at_builtin;refine Lib.wpList_append_run _ rfl _ _ _ _ rfl _ _ rfl rfl _ _ (hrun _) ?_)
 all_goals (go_ret;first|exact⟨rfl,rfl⟩|exact⟨rfl,by simp [Value.cells]⟩)
set_option maxHeartbeats 4000000 in
theorem Agj (b n c i vb vc:Nat) (cs vs:List Value) (w:World) (hs0:(Tryz.prog.info? 56).map (·.size)=some 1) (hi:i<n) (hroom:n+1<=c) (hc63:c<=9223372036854775807) (hvb:vb≠b)
  (hcl:cs.length=n*1) (hvl:vs.length=1)
  (hcs:∀ j v,cs[j]? = some v->w.cell? ⟨b,j,none⟩=some v) (hsp:∀ j,j<(n+1)*1->(w.cell? ⟨b,j,none⟩).isSome=true) (hfz:∀ j,j<(n+1)*1->w.frozen? ⟨b,j,none⟩=false)
  (hvs:∀ j v,vs[j]? = some v->w.cell? ⟨vb,j,none⟩=some v) (h1c:∀ v∈cs,v.oneCell'=true) (h1v:∀ v∈vs,v.oneCell'=true)
  (tA tB:TypeId) (kA kB:Nat) (hsa:w.shape? vb=some (tA,kA)) (hsb:w.shape? b=some (tB,kB)) (hkB:kB≠0) (hfa:w.frozen? ⟨vb,0,none⟩=false) (hfe:w.frozen? ⟨vb,kA,none⟩=false) :
  Calls Tryz.prog 255 #[.slice (some ⟨b,0,none⟩) n c,.int .i64 i,.slice (some ⟨vb,0,none⟩) 1 vc] w λe w' =>
   e=.returned (.slice (some ⟨b,0,none⟩) (n+1) c)/\w'=(w.drew.setCells b (i+1) (cs.drop (i))).setCells b (i) vs:=by
 have hz2:¬ ((i:Int)=(n:Int)):=by omega
 have hz3:¬ ((c:Int)<(n:Int)+1):=by omega
 have mixed:Tryz.prog.follows .mixedOrders=true:=by kernel_rfl
 have hov:∀ lb cb,(callFunc 271 #[.slice (some ⟨vb,0,none⟩) 1 vc,.slice (some ⟨b,i+1,none⟩) lb cb]).run Tryz.prog w=.ok (.value (.bool false)) w:=λlb cb=>by
  rw[run_callFunc_extern Tryz.func271 (by kernel_rfl) (by kernel_rfl) (by kernel_rfl) (e:=Extern.SlicesOverlaps.overlaps #[25,25] #[4]) (by kernel_rfl),
   Lib.run_overlaps_apart w 25 4 56 Tryz.underlying25 1 (λw=>Di hs0 w) ⟨vb,0,none⟩ ⟨b,i+1,none⟩ 1 vc lb cb hvb tA tB kA kB hsa hsb hkB hfa hfe]
  rfl
 have hdl:(cs.drop (i)).length=(n-i)*1:=by rw[yC,hcl];omega
 have hw1:IntKind.i64.wrap ((i:Int)+1)=(i:Int)+1:=by rw[IntKind.wrap_i64];omega
 have hb1:(0:Int)<=(i:Int)+1:=by omega
 have hin:i<=n:=by omega
 have htn:((i:Int)+1).toNat=i+1:=by omega
 have hb2:¬ (c=i+1):=by omega
 have hb3:(i:Int)<=(n:Int)+1:=by omega
 have hb4:¬ (c=i):=by omega
 have hcp1:∀ ty dc sc,(Builtin.copy_ #[25,25] ty #[.slice (some ⟨b,i+1,none⟩) (n-i) dc,.slice (some ⟨b,i,none⟩) (n+1-i) sc]).run Tryz.prog w.drew=.ok (goInt (n-i:Nat)) (w.drew.setCells b (i+1) (cs.drop (i))):=λty dc sc =>
  Ja w.drew _ _ ty 56 b (i+1) (n-i) dc ⟨b,i,none⟩ (n+1-i) sc 1 (n-i) (cs.drop (i)) Tryz.underlying25 hs0 (by simp only[kE];split <;> omega) hdl
   (λj v hj=>by rw[Addr.add_lit];exact hcs (i+j) v (by rwa [yJ] at hj))
   (λj hj=>hsp _ (by rw[hdl] at hj;omega)) (λj hj=>hfz _ (by rw[hdl] at hj;omega)) (λv hv=>h1c v (w6 hv))
 obtain⟨W1,hW1⟩:∃ W1,W1=w.drew.setCells b (i+1) (cs.drop (i)):=⟨_,rfl⟩
 have hsp1:∀ k,k<(n+1)*1->(W1.cell? ⟨b,k,none⟩).isSome=true:=λk hk=>by
  rw[hW1]
  exact isSome_setCells b (cs.drop (i)) (i+1) w.drew (λj hj=>hsp _ (by rw[hdl] at hj;omega)) _ (hsp k hk)
 have hcp2:∀ (W:World),(∀ x,W.cell? x=W1.cell? x)->(∀ x,W.frozen? x=W1.frozen? x)->∀ ty dc,(Builtin.copy_ #[25,25] ty #[.slice (some ⟨b,i,none⟩) (n+1-i) dc,.slice (some ⟨vb,0,none⟩) 1 vc]).run Tryz.prog W=.ok (goInt (1:Nat)) (W.setCells b (i) vs):=λW hWc hWf ty dc =>
  Ja W _ _ ty 56 b (i) (n+1-i) dc ⟨vb,0,none⟩ 1 vc 1 1 vs Tryz.underlying25 hs0 (by simp only[kE];split <;> omega) (by omega)
   (λj v hj=>by
    rw[Addr.add_lit,hWc,hW1,yE,World.cell?_setCells_out b _ _ _ _ (λh _=>absurd h hvb)]
    exact hvs j v hj)
   (λj hj=>by rw[hWc];exact hsp1 _ (by omega)) (λj hj=>by rw[hWf,hW1,World.frozen?_setCells];exact hfz _ (by omega)) h1v
 rw[<- hW1] at hcp1
 go_enter Tryz.func255,Tryz.ntmps255
 go_wp2_with (simp only[hov])
 go_region_law_o (refine step_copy_runI rfl _ _ 25 25 rfl _ _ (by simp [Act.eval,Act.put]) (by simp [Act.eval,Act.put]) (hcp1 _ _ _) ?_)
 go_wp2_with (at_builtin;refine wpList_copy_runI _ rfl _ _ 25 25 rfl _ _ rfl rfl (hcp2 _ (λ_=>rfl) (λ_=>rfl) _ _) ?_)
 go_ret
 first|exact⟨rfl,rfl⟩|exact⟨rfl,by rw[hW1]⟩
set_option maxHeartbeats 4000000 in
theorem Ai7 (b n c i vb vc:Nat) (cs vs:List Value) (w:World) (i0:TypeInfo) (hi0:Tryz.prog.info? 56=some i0) (hz0:i0.zero=some (.slice none 0 0)) (hs0:i0.size=1) (hi:i<n) (hnc:n<=c) (hroom:c<n+1) (hn63:n+1<=4611686018427387904)
  (hb48:(n+1)*i0.bytes<=281474976710656) (hfit:Builtin.nextslicecap (n+1) c*i0.bytes<=281474976710656) (hcl:cs.length=n*1) (hvl:vs.length=1)
  (hcs:∀ j v,cs[j]? = some v->w.cell? ⟨b,j,none⟩=some v) (hvs:∀ j v,vs[j]? = some v->w.cell? ⟨vb,j,none⟩=some v) (h1c:∀ v∈cs,v.oneCell'=true) (h1v:∀ v∈vs,v.oneCell'=true) :
  Calls Tryz.prog 255 #[.slice (some ⟨b,0,none⟩) n c,.int .i64 i,.slice (some ⟨vb,0,none⟩) 1 vc] w λe w' =>
   e=.returned (.slice (some ⟨w.heap.size,0,none⟩) (n+1) (grownCap w (n+1) c 56)) /\
   w'=(((w.alloc (.cells ((cs.take (i)).toArray++Builtin.zeroCells (Value.cells (.slice none 0 0)) (n+1-i)++Builtin.zeroCells (Value.cells (.slice none 0 0)) (grownCap w (n+1) c 56-(n+1))) 56)).drew.setCells w.heap.size (i) vs).drew).setCells w.heap.size (i+1) (cs.drop (i)):=by
 have mixed:Tryz.prog.follows .mixedOrders=true:=by kernel_rfl
 have hz2:¬ ((i:Int)=(n:Int)):=by omega
 have hz3:(c:Int)<(n:Int)+1:=by omega
 have hsz:(Tryz.prog.info? 56).map (·.size)=some 1:=by rw[hi0];simp [hs0]
 have hbw:b<w.heap.size:=block_lt_of_cell (hcs 0 _ (zB (by omega)))
 have hvw:vb<w.heap.size:=block_lt_of_cell (hvs 0 _ (zB (by omega)))
 have hkk:(n:Int)+1-(i:Int)=((n+1-i:Nat):Int):=by omega
 have hik:i+(n+1-i)=n+1:=by omega
 have htl:(cs.take (i)).length=i*1:=by rw[zK];omega
 have hold:(Builtin.firstCells i0.size i (.slice (some ⟨b,0,none⟩) i c)).run Tryz.prog w.drew=.ok (cs.take (i)).toArray w.drew:=by
  rw[hs0]
  exact run_firstCells_some w.drew 1 i ⟨b,0,none⟩ i c (cs.take (i)) htl (λj v hj=>by
   rw[Addr.add_lit,yE]
   rw[yL] at hj
   split at hj
   ·exact hcs j v hj
   ·cases hj)
 have hrz:∀ ty,(Builtin.append_ #[25,3] ty #[.slice (some ⟨b,0,none⟩) i c,.int .i64 ((n:Int)+1-(i:Int))]).run Tryz.prog w =
   .ok (.slice (some ⟨w.heap.size,0,none⟩) (n+1) (grownCap w (n+1) c 56)) (w.drew.alloc (.cells ((cs.take (i)).toArray++Builtin.zeroCells (Value.cells (.slice none 0 0)) (n+1-i)++Builtin.zeroCells (Value.cells (.slice none 0 0)) (grownCap w (n+1) c 56-(n+1))) 56)):=λty=>by
  have h:=Lib.run_append_grow_zeros w 25 3 ty 56 i0 _ .i64 .i64 Tryz.underlying25 Tryz.underlying3 hi0 hz0 (some ⟨b,0,none⟩) i c (cs.take (i)) hold (n+1-i) (by omega) (by omega) (by omega) (by omega) (yO (xA _ (by omega)) hb48) (by rw[hik];exact hfit)
  rw[hik] at h
  rw[hkk]
  exact h
 obtain⟨G,hG⟩:∃ G,G=grownCap w (n+1) c 56:=⟨_,rfl⟩
 obtain⟨ROW,hROW⟩:∃ ROW:Array Value,ROW=(cs.take (i)).toArray++Builtin.zeroCells (Value.cells (.slice none 0 0)) (n+1-i)++Builtin.zeroCells (Value.cells (.slice none 0 0)) (G-(n+1)):=⟨_,rfl⟩
 rw[<- hG] at hrz ⊢
 rw[<- hROW] at hrz ⊢
 have hzc:∀ k,(Builtin.zeroCells (Value.cells (.slice none 0 0)) k).size=k*1:=λk=>by simp [Builtin.zeroCells,Value.cells]
 have hRl:(n+1)*1<=ROW.size:=by
  rw[hROW,yQ,yQ,hzc,hzc,z7,htl]
  omega
 obtain⟨W1,hW1⟩:∃ W1,W1=w.drew.alloc (.cells ROW 56):=⟨_,rfl⟩
 rw[<- hW1] at hrz
 have hN:∀ j,j<(n+1)*1->(W1.cell? ⟨w.heap.size,j,none⟩).isSome=true:=λj hj=>by
  rw[hW1,World.cell?_alloc_at (w:=w.drew) ROW _ w.heap.size j rfl,zS (by omega)];rfl
 have hNf:∀ j,W1.frozen? ⟨w.heap.size,j,none⟩=false:=λj=>by rw[hW1];exact World.frozen?_alloc_at (w:=w.drew) ROW _ w.heap.size j rfl
 have hOb:∀ j v,w.cell? ⟨b,j,none⟩=some v->W1.cell? ⟨b,j,none⟩=some v:=λj v h=>by rw[hW1,World.cell?_alloc_past (w:=w.drew) _ b j hbw];exact h
 have hOv:∀ j v,w.cell? ⟨vb,j,none⟩=some v->W1.cell? ⟨vb,j,none⟩=some v:=λj v h=>by rw[hW1,World.cell?_alloc_past (w:=w.drew) _ vb j hvw];exact h
 have hcpA:∀ (W:World),(∀ x,W.cell? x=W1.cell? x)->(∀ x,W.frozen? x=W1.frozen? x)->∀ ty dc,(Builtin.copy_ #[25,25] ty #[.slice (some ⟨w.heap.size,i,none⟩) (n+1-i) dc,.slice (some ⟨vb,0,none⟩) 1 vc]).run Tryz.prog W=.ok (goInt (1:Nat)) (W.setCells w.heap.size (i) vs):=λW hWc hWf ty dc =>
  Ja W _ _ ty 56 w.heap.size (i) (n+1-i) dc ⟨vb,0,none⟩ 1 vc 1 1 vs Tryz.underlying25 hsz (by simp only[kE];split <;> omega) (by omega)
   (λj v hj=>by rw[Addr.add_lit,hWc,yE];exact hOv _ v (hvs j v hj))
   (λj hj=>by rw[hWc];exact hN _ (by omega)) (λj hj=>by rw[hWf];exact hNf _) h1v
 have hGn:n+1<=G:=by rw[hG];exact grownCap_ge w _ _ _
 have hG63:G<=9223372036854775807:=by
  have:=grownCap_le_maxLen w (n+1) c 56 (by unfold maxLen;omega)
  rw[<- hG] at this
  unfold maxLen at this
  omega
 have hGi:¬ (G=i):=by omega
 have hGim:¬ (G=i+1):=by omega
 have hci:¬ (c=i):=by omega
 have hbN:b≠w.heap.size:=by omega
 have hdl:(cs.drop (i)).length=(n-i)*1:=by rw[yC,hcl];omega
 have hcpB:∀ (W:World),(∀ x,W.cell? x=(W1.setCells w.heap.size (i) vs).cell? x)->(∀ x,W.frozen? x=(W1.setCells w.heap.size (i) vs).frozen? x)->∀ ty dc sc,(Builtin.copy_ #[25,25] ty #[.slice (some ⟨w.heap.size,i+1,none⟩) (n-i) dc,.slice (some ⟨b,i,none⟩) (n-i) sc]).run Tryz.prog W=.ok (goInt (n-i:Nat)) (W.setCells w.heap.size (i+1) (cs.drop (i))):=λW hWc hWf ty dc sc =>
  Ja W _ _ ty 56 w.heap.size (i+1) (n-i) dc ⟨b,i,none⟩ (n-i) sc 1 (n-i) (cs.drop (i)) Tryz.underlying25 hsz (by simp only[kE];split <;> omega) hdl
   (λj v hj=>by
    rw[Addr.add_lit,hWc,World.cell?_setCells_out _ _ _ _ _ (λh _=>absurd h hbN)]
    exact hOb _ v (hcs (i+j) v (by rwa [yJ] at hj)))
   (λj hj=>by rw[hWc];exact isSome_setCells w.heap.size vs (i) W1 (λt ht=>hN _ (by omega)) _ (hN _ (by rw[hdl] at hj;omega)))
   (λj hj=>by rw[hWf,World.frozen?_setCells];exact hNf _) (λv hv=>h1c v (w6 hv))
 subst hW1
 have hE1:∀ x,((w.alloc (.cells ROW 56)).drew).cell? x=(w.drew.alloc (.cells ROW 56)).cell? x:=λx=>rfl
 have hE2:∀ x,((w.alloc (.cells ROW 56)).drew).frozen? x=(w.drew.alloc (.cells ROW 56)).frozen? x:=λx=>rfl
 have hF1:∀ x,(((w.alloc (.cells ROW 56)).drew.setCells w.heap.size (i) vs).drew).cell? x=((w.drew.alloc (.cells ROW 56)).setCells w.heap.size (i) vs).cell? x:=λx=>rfl
 have hF2:∀ x,(((w.alloc (.cells ROW 56)).drew.setCells w.heap.size (i) vs).drew).frozen? x=((w.drew.alloc (.cells ROW 56)).setCells w.heap.size (i) vs).frozen? x:=λx=>rfl
 have hw1:IntKind.i64.wrap ((i:Int)+1)=(i:Int)+1:=by rw[IntKind.wrap_i64];omega
 have hb1:(0:Int)<=(i:Int)+1:=by omega
 have hin:i<=n:=by omega
 have htn:((i:Int)+1).toNat=i+1:=by omega
 have hb3:(i:Int)<=(n:Int):=by omega
 clear hkk hik hold hROW hG hRl htl hzc
 go_enter Tryz.func255,Tryz.ntmps255
 go_wp2_with (first
  | (at_builtin;refine Lib.wpList_append_run _ rfl _ _ _ _ rfl _ _ rfl rfl _ _ (hrz _) ?_)
  | (at_builtin;refine wpList_copy_runI _ rfl _ _ 25 25 rfl _ _ rfl rfl (hcpA _ hE1 hE2 _ _) ?_)
  | (at_builtin;refine wpList_copy_runI _ rfl _ _ 25 25 rfl _ _ rfl rfl (hcpB _ (λ_=>rfl) (λ_=>rfl) _ _ _) ?_))
 go_region_law_o (refine step_copy_runI rfl _ _ 25 25 rfl (.slice (some ⟨w.heap.size,i+1,none⟩) (n-i) (G-(i+1))) (.slice (some ⟨b,i,none⟩) (n-i) (c-i)) (by simp [Act.eval,Act.put]) (by simp [Act.eval,Act.put]) (hcpB _ hF1 hF2 3 (G-(i+1)) (c-i)) ?_)
 go_wp2
 go_ret
 exact⟨R,R⟩
set_option maxHeartbeats 4000000 in
theorem Al2 (vb vc:Nat) (vs:List Value) (w:World) (i0:TypeInfo) (hi0:Tryz.prog.info? 56=some i0) (hz0:i0.zero=some (.slice none 0 0)) (hs0:i0.size=1)
  (hfit:Builtin.nextslicecap (0+1) 0*i0.bytes<=281474976710656) (hvl:vs.length=1)
  (hvs:∀ j v,vs[j]? = some v->w.cell? ⟨vb,j,none⟩=some v) (h1v:∀ v∈vs,v.oneCell'=true) :
  Calls Tryz.prog 255 #[.slice none 0 0,.int .i64 ((0:Nat):Int),.slice (some ⟨vb,0,none⟩) 1 vc] w λe w' =>
   e=.returned (.slice (some ⟨w.heap.size,0,none⟩) (0+1) (grownCap w (0+1) 0 56)) /\
   w'=w.drew.alloc (.cells (([]++vs).toArray++Builtin.zeroCells (Value.cells (.slice none 0 0)) (grownCap w (0+1) 0 56-(0+1))) 56):=by
 have hsrc:_root_.Go.Src Tryz.prog i0.size 25 (.slice (some ⟨vb,0,none⟩) 1 vc) 1 vs w:=by
  rw[hs0]
  exact _root_.Go.Src.ofSlice w Tryz.underlying25 ⟨vb,0,none⟩ 1 vc vs (by omega) (λj u hj=>by rw[Addr.add_lit,yE];exact hvs j u hj) h1v
 have hold:(Builtin.firstCells i0.size 0 (.slice none 0 0)).run Tryz.prog w.drew=.ok ([]:List Value).toArray w.drew:=by
  rw[hs0]
  exact run_firstCells_none w.drew 1 0 0 0
 have hrun:∀ ty,(Builtin.append_ #[25,25] ty #[.slice none 0 0,.slice (some ⟨vb,0,none⟩) 1 vc]).run Tryz.prog w=.ok (.slice (some ⟨w.heap.size,0,none⟩) (0+1) (grownCap w (0+1) 0 56)) (w.drew.alloc (.cells (([]++vs).toArray++Builtin.zeroCells (Value.cells (.slice none 0 0)) (grownCap w (0+1) 0 56-(0+1))) 56)):=λty =>
  run_append_grow_src w 25 25 ty 56 i0 _ Tryz.underlying25 hi0 hz0 none 0 0 [] hold _ 1 vs hsrc (by omega) (by omega) hfit
 go_enter Tryz.func255,Tryz.ntmps255
 go_wp2_with (at_builtin;refine Lib.wpList_append_run _ rfl _ _ _ _ rfl _ _ rfl rfl _ _ (hrun _) ?_)
 all_goals (go_ret;first|exact⟨rfl,rfl⟩|exact⟨rfl,by simp [Value.cells]⟩)
theorem Aj1:(Tryz.prog.info? 56).map (λi=>(i.zero,i.size,i.bytes))=some (some (.slice none 0 0),1,24):=by kernel_rfl
theorem Arm {cs vs:List Lf} {n i:Nat} (hcl:cs.length=n*1) (hvl:vs.length=1) (hi:i<=n) (hn:(n+1)*24<=140737488355328) :
  Dw Qx0 255 [.arr 56 1 0 cs,.arr 56 1 0 vs] [.one (.ls 0 n),.one (Ii6 (i:Int)),.one (.ls 1 1)] (λy m'=>y=L7 (.ls 0 (n+1))/\m'=[.arr 56 1 0 (cs.take (i*1)++vs++cs.drop (i*1)),.dead]):=by
 refine Zf (by decide) hcl hvl (λw v1 vb vc cur2 xs ys hown hg2 hcell hyl hne hx1 hy1=>?_)
 obtain⟨i0,hi0,hz0,hs0,hb0⟩:=info_parts Aj1
 have hxl:=hown.1
 have hfitG:∀ {old},old<n+1->Builtin.nextslicecap (n+1) old*i0.bytes<=281474976710656:=λh=>growslice_fits h (by rw[hb0];exact hn)
 have hsz':(Tryz.prog.info? 56).map (·.size)=some 1:=by rw[hi0];simp [hs0]
 have hzc:∀ k,(Builtin.zeroCells (Value.cells (.slice none 0 0)) k).size=k*1:=λk=>by simp [Builtin.zeroCells,Value.cells]
 have hg63:∀ c,grownCap w (n+1) c 56<=maxLen:=λc=>grownCap_le_maxLen w (n+1) c 56 (by unfold maxLen;omega)
 have hgge:∀ c,n+1<=grownCap w (n+1) c 56:=λc=>grownCap_ge w _ _ _
 rcases hown.2 with⟨rfl,h0⟩|⟨g,cap,cur,rfl,_,hg,hnc,hcm,hcs,hct⟩
 ·subst h0
  have hi0':i=0:=by omega
  subst hi0'
  have hx0:xs=[]:=jT.1 (hxl.trans (wT _))
  subst hx0
  refine(Al2 vb vc ys w i0 hi0 hz0 hs0 (hfitG (by omega)) hyl hcell hy1).mono ?_
  rintro e w' ⟨rfl,rfl⟩
  refine⟨_,w.heap.size,R,Qu (hgge 0) (hg63 0) ?_ ?_,.inr (zN _)⟩
  ·have:=hgge 0
   rw[yQ,hzc,z7,wX,hyl];omega
  ·rw[xJ,yU,xX (by rw[wX,hyl])]
   simp
 ·have hcur:cur.toList.length=cap*1:=by rw[z8];exact hcs
  have hcell1:∀ j v,xs[j]? = some v->w.cell? ⟨g,j,none⟩=some v:=λj v hj=>by
   unfold World.cell?
   rw[hg]
   rw[<- hct,yL] at hj
   split at hj
   ·simpa using hj
   ·cases hj
  have hc63:cap<=9223372036854775807:=by unfold maxLen at hcm;exact hcm
  have hsome:∀ j,j<cap*1->(w.cell? ⟨g,j,none⟩).isSome=true:=λj hj=>by
   unfold World.cell?
   rw[hg]
   show(cur[j]?).isSome=true
   rw[zS (by omega)];rfl
  have hfrz:∀ j,w.frozen? ⟨g,j,none⟩=false:=λj=>by
   unfold World.frozen?
   rw[hg]
   show(decide (0<=j)&&decide (j<0))=false
   rw[decide_eq_false (zR j),jC]
  have hfrz2:∀ j,w.frozen? ⟨vb,j,none⟩=false:=λj=>by
   unfold World.frozen?
   rw[hg2]
   show(decide (0<=j)&&decide (j<0))=false
   rw[decide_eq_false (zR j),jC]
  have hvb:vb≠g:=λe=>hne (by rw[e];rfl)
  rcases Nat.lt_or_eq_of_le hi with hlt|rfl
  ·rcases zO cap (n+1) with hroom|hroom
   ·refine(Ai7 g n cap i vb vc xs ys w i0 hi0 hz0 hs0 hlt hnc hroom (by omega) (by rw[hb0];omega) (hfitG hroom) hxl hyl hcell1 hcell hx1 hy1).mono ?_
    rintro e w' ⟨rfl,rfl⟩
    have hge:=hgge cap
    have htl:(xs.take (i*1)).length=i*1:=by rw[zK];omega
    have:=Wh (E:=56) (sz:=1) (w:=w) (row:=(xs.take (i*1)).toArray++Builtin.zeroCells (Value.cells (.slice none 0 0)) (n+1-i)++Builtin.zeroCells (Value.cells (.slice none 0 0)) (grownCap w (n+1) cap 56-(n+1))) (xs:=xs.take (i*1)) (vs:=ys) (D:=xs.drop (i*1)) hlt hge (hg63 cap)
     (by rw[yQ,yQ,hzc,hzc,z7,htl];omega) hyl (by rw[yC,hxl];omega)
     (by rw[xJ,xJ,yU,xO,xX htl])
    refine⟨_,w.heap.size,R,?_,.inr (zN _)⟩
    first|exact this|simpa only [kC] using this
   ·refine(Agj g n cap i vb vc xs ys w hsz' hlt hroom hc63 hvb hxl hyl hcell1 (λj hj=>hsome j (by omega)) (λj _=>hfrz j) hcell hx1 hy1 56 56 cur2.size cur.size (by unfold World.shape?;rw[hg2]) (by unfold World.shape?;rw[hg]) (by omega) (hfrz2 _) (hfrz2 _)).mono ?_
    rintro e w' ⟨rfl,rfl⟩
    have:=Vk (E:=56) (sz:=1) (b:=g) (vs:=ys) hg hlt hroom hcm hcs hyl
    rw[hct] at this
    refine⟨_,g,R,?_,.inl R⟩
    first|exact this|simpa only [kC] using this
  ·have hxe:xs.take (i*1)++ys++xs.drop (i*1)=xs++ys:=by
    rw[yX (by omega),wV (by omega),xG]
   rw[hxe]
   rcases zO cap (i+1) with hroom|hroom
   ·refine(Ahq g i cap vb vc xs ys w i0 hi0 hz0 hs0 hnc hroom (by omega) (hfitG hroom) hxl hyl hcell1 hcell hy1).mono ?_
    rintro e w' ⟨rfl,rfl⟩
    have hge:=hgge cap
    refine⟨_,w.heap.size,R,Qu hge (hg63 cap) ?_ ?_,.inr (zN _)⟩
    ·rw[yQ,hzc,z7,zH,hxl,hyl];omega
    ·rw[xJ,yU,xX (by rw[zH,hxl,hyl];omega)]
   ·refine(Amw g i cap vb vc ys w i0 hi0 hs0 hroom hc63 hyl (λj hj=>hsome _ (by omega)) (λj _=>hfrz _) hcell hy1).mono ?_
    rintro e w' ⟨rfl,rfl⟩
    have:=Yb (E:=56) (sz:=1) (n:=i) (b:=g) (vs:=ys) hg hroom hcm hcs hyl
    rw[hct] at this
    exact⟨_,g,R,this,.inl R⟩
end
def Tk (a0:List (List UInt8)) (a1:Int) (a2:List (List UInt8)):Option (List (List UInt8)):=Aqz 24 a0 a1 a2
theorem Wt {a0:List (List UInt8)} {a1:Int} {a2 r:List (List UInt8)} (h:Tk a0 a1 a2=some r):Dw Qx0 255 [.arr 56 1 0 (a0.flatMap (eL eU8)),.arr 56 1 0 (a2.flatMap (eL eU8))] [.one (.ls 0 a0.length),.one (Ii6 a1),.one (.ls 1 a2.length)] (λy m'=>y=L7 (.ls 0 r.length)/\m'=[.arr 56 1 0 (r.flatMap (eL eU8)),.dead]) :=
 Apb (f:=(eL eU8)) (λ_=>rfl) Arm h
section
open Go.Lib
set_option maxHeartbeats 4000000 in
theorem Amy (b n c vb vc:Nat) (vs:List Value) (w:World) (i0:TypeInfo) (hi0:Tryz.prog.info? 134=some i0) (hs0:i0.size=1) (hroom:n+1<=c) (hc63:c<=9223372036854775807)
  (hvl:vs.length=1) (hsp:∀ j,j<1->(w.cell? ⟨b,n*1+j,none⟩).isSome=true) (hfz:∀ j,j<1->w.frozen? ⟨b,n*1+j,none⟩=false)
  (hvs:∀ j v,vs[j]? = some v->w.cell? ⟨vb,j,none⟩=some v) (h1v:∀ v∈vs,v.oneCell'=true) :
  Calls Tryz.prog 256 #[.slice (some ⟨b,0,none⟩) n c,.int .i64 n,.slice (some ⟨vb,0,none⟩) 1 vc] w λe w' =>
   e=.returned (.slice (some ⟨b,0,none⟩) (n+1) c)/\w'=w.setCells b (n*1) vs:=by
 have hsrc:_root_.Go.Src Tryz.prog i0.size 26 (.slice (some ⟨vb,0,none⟩) 1 vc) 1 vs w:=by
  rw[hs0]
  exact _root_.Go.Src.ofSlice w Tryz.underlying26 ⟨vb,0,none⟩ 1 vc vs (by omega) (λj u hj=>by rw[Addr.add_lit,yE];exact hvs j u hj) h1v
 go_enter Tryz.func256,Tryz.ntmps256
 go_wp2_with (at_builtin;refine wpList_append_room_src _ rfl _ _ 26 26 rfl 134 i0 Tryz.underlying26 hi0 b 0 n c rfl _ rfl 1 vs hsrc hroom (by rw[hvl,hs0,yE];exact hsp) (by rw[hvl,hs0,yE];exact hfz) ?_)
 go_ret
 refine⟨R,?_⟩
 first|rfl|(simp;done)|(simp [hs0];done)
set_option maxHeartbeats 4000000 in
theorem Age (b n c vb vc:Nat) (cs vs:List Value) (w:World) (i0:TypeInfo) (hi0:Tryz.prog.info? 134=some i0) (hz0:i0.zero=some (.agg #[.slice none 0 0])) (hs0:i0.size=1) (hnc:n<=c) (hroom:c<n+1) (hn63:n+1<=9223372036854775807)
  (hfit:Builtin.nextslicecap (n+1) c*i0.bytes<=281474976710656) (hcl:cs.length=n*1) (hvl:vs.length=1)
  (hcs:∀ j v,cs[j]? = some v->w.cell? ⟨b,j,none⟩=some v) (hvs:∀ j v,vs[j]? = some v->w.cell? ⟨vb,j,none⟩=some v) (h1v:∀ v∈vs,v.oneCell'=true) :
  Calls Tryz.prog 256 #[.slice (some ⟨b,0,none⟩) n c,.int .i64 n,.slice (some ⟨vb,0,none⟩) 1 vc] w λe w' =>
   e=.returned (.slice (some ⟨w.heap.size,0,none⟩) (n+1) (grownCap w (n+1) c 134)) /\
   w'=w.drew.alloc (.cells ((cs++vs).toArray++Builtin.zeroCells (Value.cells (.agg #[.slice none 0 0])) (grownCap w (n+1) c 134-(n+1))) 134):=by
 have hsrc:_root_.Go.Src Tryz.prog i0.size 26 (.slice (some ⟨vb,0,none⟩) 1 vc) 1 vs w:=by
  rw[hs0]
  exact _root_.Go.Src.ofSlice w Tryz.underlying26 ⟨vb,0,none⟩ 1 vc vs (by omega) (λj u hj=>by rw[Addr.add_lit,yE];exact hvs j u hj) h1v
 have hold:(Builtin.firstCells i0.size n (.slice (some ⟨b,0,none⟩) n c)).run Tryz.prog w.drew=.ok cs.toArray w.drew:=by
  rw[hs0]
  exact run_firstCells_some w.drew 1 n ⟨b,0,none⟩ n c cs (by omega) (λj v hj=>by rw[Addr.add_lit,yE];exact hcs j v hj)
 have hrun:∀ ty,(Builtin.append_ #[26,26] ty #[.slice (some ⟨b,0,none⟩) n c,.slice (some ⟨vb,0,none⟩) 1 vc]).run Tryz.prog w=.ok (.slice (some ⟨w.heap.size,0,none⟩) (n+1) (grownCap w (n+1) c 134)) (w.drew.alloc (.cells ((cs++vs).toArray++Builtin.zeroCells (Value.cells (.agg #[.slice none 0 0])) (grownCap w (n+1) c 134-(n+1))) 134)):=λty =>
  run_append_grow_src w 26 26 ty 134 i0 _ Tryz.underlying26 hi0 hz0 (some ⟨b,0,none⟩) n c cs hold _ 1 vs hsrc hroom (by omega) hfit
 go_enter Tryz.func256,Tryz.ntmps256
 go_wp2_with (at_builtin;refine Lib.wpList_append_run _ rfl _ _ _ _ rfl _ _ rfl rfl _ _ (hrun _) ?_)
 all_goals (go_ret;first|exact⟨rfl,rfl⟩|exact⟨rfl,by simp [Value.cells]⟩)
set_option maxHeartbeats 4000000 in
theorem Af5 (b n c i vb vc:Nat) (cs vs:List Value) (w:World) (hs0:(Tryz.prog.info? 134).map (·.size)=some 1) (hi:i<n) (hroom:n+1<=c) (hc63:c<=9223372036854775807) (hvb:vb≠b)
  (hcl:cs.length=n*1) (hvl:vs.length=1)
  (hcs:∀ j v,cs[j]? = some v->w.cell? ⟨b,j,none⟩=some v) (hsp:∀ j,j<(n+1)*1->(w.cell? ⟨b,j,none⟩).isSome=true) (hfz:∀ j,j<(n+1)*1->w.frozen? ⟨b,j,none⟩=false)
  (hvs:∀ j v,vs[j]? = some v->w.cell? ⟨vb,j,none⟩=some v) (h1c:∀ v∈cs,v.oneCell'=true) (h1v:∀ v∈vs,v.oneCell'=true)
  (tA tB:TypeId) (kA kB:Nat) (hsa:w.shape? vb=some (tA,kA)) (hsb:w.shape? b=some (tB,kB)) (hkB:kB≠0) (hfa:w.frozen? ⟨vb,0,none⟩=false) (hfe:w.frozen? ⟨vb,kA,none⟩=false) :
  Calls Tryz.prog 256 #[.slice (some ⟨b,0,none⟩) n c,.int .i64 i,.slice (some ⟨vb,0,none⟩) 1 vc] w λe w' =>
   e=.returned (.slice (some ⟨b,0,none⟩) (n+1) c)/\w'=(w.drew.setCells b (i+1) (cs.drop (i))).setCells b (i) vs:=by
 have hz2:¬ ((i:Int)=(n:Int)):=by omega
 have hz3:¬ ((c:Int)<(n:Int)+1):=by omega
 have mixed:Tryz.prog.follows .mixedOrders=true:=by kernel_rfl
 have hov:∀ lb cb,(callFunc 273 #[.slice (some ⟨vb,0,none⟩) 1 vc,.slice (some ⟨b,i+1,none⟩) lb cb]).run Tryz.prog w=.ok (.value (.bool false)) w:=λlb cb=>by
  rw[run_callFunc_extern Tryz.func273 (by kernel_rfl) (by kernel_rfl) (by kernel_rfl) (e:=Extern.SlicesOverlaps.overlaps #[26,26] #[4]) (by kernel_rfl),
   Lib.run_overlaps_apart w 26 4 134 Tryz.underlying26 1 (λw=>Di hs0 w) ⟨vb,0,none⟩ ⟨b,i+1,none⟩ 1 vc lb cb hvb tA tB kA kB hsa hsb hkB hfa hfe]
  rfl
 have hdl:(cs.drop (i)).length=(n-i)*1:=by rw[yC,hcl];omega
 have hw1:IntKind.i64.wrap ((i:Int)+1)=(i:Int)+1:=by rw[IntKind.wrap_i64];omega
 have hb1:(0:Int)<=(i:Int)+1:=by omega
 have hin:i<=n:=by omega
 have htn:((i:Int)+1).toNat=i+1:=by omega
 have hb2:¬ (c=i+1):=by omega
 have hb3:(i:Int)<=(n:Int)+1:=by omega
 have hb4:¬ (c=i):=by omega
 have hcp1:∀ ty dc sc,(Builtin.copy_ #[26,26] ty #[.slice (some ⟨b,i+1,none⟩) (n-i) dc,.slice (some ⟨b,i,none⟩) (n+1-i) sc]).run Tryz.prog w.drew=.ok (goInt (n-i:Nat)) (w.drew.setCells b (i+1) (cs.drop (i))):=λty dc sc =>
  Ja w.drew _ _ ty 134 b (i+1) (n-i) dc ⟨b,i,none⟩ (n+1-i) sc 1 (n-i) (cs.drop (i)) Tryz.underlying26 hs0 (by simp only[kE];split <;> omega) hdl
   (λj v hj=>by rw[Addr.add_lit];exact hcs (i+j) v (by rwa [yJ] at hj))
   (λj hj=>hsp _ (by rw[hdl] at hj;omega)) (λj hj=>hfz _ (by rw[hdl] at hj;omega)) (λv hv=>h1c v (w6 hv))
 obtain⟨W1,hW1⟩:∃ W1,W1=w.drew.setCells b (i+1) (cs.drop (i)):=⟨_,rfl⟩
 have hsp1:∀ k,k<(n+1)*1->(W1.cell? ⟨b,k,none⟩).isSome=true:=λk hk=>by
  rw[hW1]
  exact isSome_setCells b (cs.drop (i)) (i+1) w.drew (λj hj=>hsp _ (by rw[hdl] at hj;omega)) _ (hsp k hk)
 have hcp2:∀ (W:World),(∀ x,W.cell? x=W1.cell? x)->(∀ x,W.frozen? x=W1.frozen? x)->∀ ty dc,(Builtin.copy_ #[26,26] ty #[.slice (some ⟨b,i,none⟩) (n+1-i) dc,.slice (some ⟨vb,0,none⟩) 1 vc]).run Tryz.prog W=.ok (goInt (1:Nat)) (W.setCells b (i) vs):=λW hWc hWf ty dc =>
  Ja W _ _ ty 134 b (i) (n+1-i) dc ⟨vb,0,none⟩ 1 vc 1 1 vs Tryz.underlying26 hs0 (by simp only[kE];split <;> omega) (by omega)
   (λj v hj=>by
    rw[Addr.add_lit,hWc,hW1,yE,World.cell?_setCells_out b _ _ _ _ (λh _=>absurd h hvb)]
    exact hvs j v hj)
   (λj hj=>by rw[hWc];exact hsp1 _ (by omega)) (λj hj=>by rw[hWf,hW1,World.frozen?_setCells];exact hfz _ (by omega)) h1v
 rw[<- hW1] at hcp1
 go_enter Tryz.func256,Tryz.ntmps256
 go_wp2_with (simp only[hov])
 go_region_law_o (refine step_copy_runI rfl _ _ 26 26 rfl _ _ (by simp [Act.eval,Act.put]) (by simp [Act.eval,Act.put]) (hcp1 _ _ _) ?_)
 go_wp2_with (at_builtin;refine wpList_copy_runI _ rfl _ _ 26 26 rfl _ _ rfl rfl (hcp2 _ (λ_=>rfl) (λ_=>rfl) _ _) ?_)
 go_ret
 first|exact⟨rfl,rfl⟩|exact⟨rfl,by rw[hW1]⟩
set_option maxHeartbeats 4000000 in
theorem Ajq (b n c i vb vc:Nat) (cs vs:List Value) (w:World) (i0:TypeInfo) (hi0:Tryz.prog.info? 134=some i0) (hz0:i0.zero=some (.agg #[.slice none 0 0])) (hs0:i0.size=1) (hi:i<n) (hnc:n<=c) (hroom:c<n+1) (hn63:n+1<=4611686018427387904)
  (hb48:(n+1)*i0.bytes<=281474976710656) (hfit:Builtin.nextslicecap (n+1) c*i0.bytes<=281474976710656) (hcl:cs.length=n*1) (hvl:vs.length=1)
  (hcs:∀ j v,cs[j]? = some v->w.cell? ⟨b,j,none⟩=some v) (hvs:∀ j v,vs[j]? = some v->w.cell? ⟨vb,j,none⟩=some v) (h1c:∀ v∈cs,v.oneCell'=true) (h1v:∀ v∈vs,v.oneCell'=true) :
  Calls Tryz.prog 256 #[.slice (some ⟨b,0,none⟩) n c,.int .i64 i,.slice (some ⟨vb,0,none⟩) 1 vc] w λe w' =>
   e=.returned (.slice (some ⟨w.heap.size,0,none⟩) (n+1) (grownCap w (n+1) c 134)) /\
   w'=(((w.alloc (.cells ((cs.take (i)).toArray++Builtin.zeroCells (Value.cells (.agg #[.slice none 0 0])) (n+1-i)++Builtin.zeroCells (Value.cells (.agg #[.slice none 0 0])) (grownCap w (n+1) c 134-(n+1))) 134)).drew.setCells w.heap.size (i) vs).drew).setCells w.heap.size (i+1) (cs.drop (i)):=by
 have mixed:Tryz.prog.follows .mixedOrders=true:=by kernel_rfl
 have hz2:¬ ((i:Int)=(n:Int)):=by omega
 have hz3:(c:Int)<(n:Int)+1:=by omega
 have hsz:(Tryz.prog.info? 134).map (·.size)=some 1:=by rw[hi0];simp [hs0]
 have hbw:b<w.heap.size:=block_lt_of_cell (hcs 0 _ (zB (by omega)))
 have hvw:vb<w.heap.size:=block_lt_of_cell (hvs 0 _ (zB (by omega)))
 have hkk:(n:Int)+1-(i:Int)=((n+1-i:Nat):Int):=by omega
 have hik:i+(n+1-i)=n+1:=by omega
 have htl:(cs.take (i)).length=i*1:=by rw[zK];omega
 have hold:(Builtin.firstCells i0.size i (.slice (some ⟨b,0,none⟩) i c)).run Tryz.prog w.drew=.ok (cs.take (i)).toArray w.drew:=by
  rw[hs0]
  exact run_firstCells_some w.drew 1 i ⟨b,0,none⟩ i c (cs.take (i)) htl (λj v hj=>by
   rw[Addr.add_lit,yE]
   rw[yL] at hj
   split at hj
   ·exact hcs j v hj
   ·cases hj)
 have hrz:∀ ty,(Builtin.append_ #[26,3] ty #[.slice (some ⟨b,0,none⟩) i c,.int .i64 ((n:Int)+1-(i:Int))]).run Tryz.prog w =
   .ok (.slice (some ⟨w.heap.size,0,none⟩) (n+1) (grownCap w (n+1) c 134)) (w.drew.alloc (.cells ((cs.take (i)).toArray++Builtin.zeroCells (Value.cells (.agg #[.slice none 0 0])) (n+1-i)++Builtin.zeroCells (Value.cells (.agg #[.slice none 0 0])) (grownCap w (n+1) c 134-(n+1))) 134)):=λty=>by
  have h:=Lib.run_append_grow_zeros w 26 3 ty 134 i0 _ .i64 .i64 Tryz.underlying26 Tryz.underlying3 hi0 hz0 (some ⟨b,0,none⟩) i c (cs.take (i)) hold (n+1-i) (by omega) (by omega) (by omega) (by omega) (yO (xA _ (by omega)) hb48) (by rw[hik];exact hfit)
  rw[hik] at h
  rw[hkk]
  exact h
 obtain⟨G,hG⟩:∃ G,G=grownCap w (n+1) c 134:=⟨_,rfl⟩
 obtain⟨ROW,hROW⟩:∃ ROW:Array Value,ROW=(cs.take (i)).toArray++Builtin.zeroCells (Value.cells (.agg #[.slice none 0 0])) (n+1-i)++Builtin.zeroCells (Value.cells (.agg #[.slice none 0 0])) (G-(n+1)):=⟨_,rfl⟩
 rw[<- hG] at hrz ⊢
 rw[<- hROW] at hrz ⊢
 have hzc:∀ k,(Builtin.zeroCells (Value.cells (.agg #[.slice none 0 0])) k).size=k*1:=λk=>by simp [Builtin.zeroCells,Value.cells]
 have hRl:(n+1)*1<=ROW.size:=by
  rw[hROW,yQ,yQ,hzc,hzc,z7,htl]
  omega
 obtain⟨W1,hW1⟩:∃ W1,W1=w.drew.alloc (.cells ROW 134):=⟨_,rfl⟩
 rw[<- hW1] at hrz
 have hN:∀ j,j<(n+1)*1->(W1.cell? ⟨w.heap.size,j,none⟩).isSome=true:=λj hj=>by
  rw[hW1,World.cell?_alloc_at (w:=w.drew) ROW _ w.heap.size j rfl,zS (by omega)];rfl
 have hNf:∀ j,W1.frozen? ⟨w.heap.size,j,none⟩=false:=λj=>by rw[hW1];exact World.frozen?_alloc_at (w:=w.drew) ROW _ w.heap.size j rfl
 have hOb:∀ j v,w.cell? ⟨b,j,none⟩=some v->W1.cell? ⟨b,j,none⟩=some v:=λj v h=>by rw[hW1,World.cell?_alloc_past (w:=w.drew) _ b j hbw];exact h
 have hOv:∀ j v,w.cell? ⟨vb,j,none⟩=some v->W1.cell? ⟨vb,j,none⟩=some v:=λj v h=>by rw[hW1,World.cell?_alloc_past (w:=w.drew) _ vb j hvw];exact h
 have hcpA:∀ (W:World),(∀ x,W.cell? x=W1.cell? x)->(∀ x,W.frozen? x=W1.frozen? x)->∀ ty dc,(Builtin.copy_ #[26,26] ty #[.slice (some ⟨w.heap.size,i,none⟩) (n+1-i) dc,.slice (some ⟨vb,0,none⟩) 1 vc]).run Tryz.prog W=.ok (goInt (1:Nat)) (W.setCells w.heap.size (i) vs):=λW hWc hWf ty dc =>
  Ja W _ _ ty 134 w.heap.size (i) (n+1-i) dc ⟨vb,0,none⟩ 1 vc 1 1 vs Tryz.underlying26 hsz (by simp only[kE];split <;> omega) (by omega)
   (λj v hj=>by rw[Addr.add_lit,hWc,yE];exact hOv _ v (hvs j v hj))
   (λj hj=>by rw[hWc];exact hN _ (by omega)) (λj hj=>by rw[hWf];exact hNf _) h1v
 have hGn:n+1<=G:=by rw[hG];exact grownCap_ge w _ _ _
 have hG63:G<=9223372036854775807:=by
  have:=grownCap_le_maxLen w (n+1) c 134 (by unfold maxLen;omega)
  rw[<- hG] at this
  unfold maxLen at this
  omega
 have hGi:¬ (G=i):=by omega
 have hGim:¬ (G=i+1):=by omega
 have hci:¬ (c=i):=by omega
 have hbN:b≠w.heap.size:=by omega
 have hdl:(cs.drop (i)).length=(n-i)*1:=by rw[yC,hcl];omega
 have hcpB:∀ (W:World),(∀ x,W.cell? x=(W1.setCells w.heap.size (i) vs).cell? x)->(∀ x,W.frozen? x=(W1.setCells w.heap.size (i) vs).frozen? x)->∀ ty dc sc,(Builtin.copy_ #[26,26] ty #[.slice (some ⟨w.heap.size,i+1,none⟩) (n-i) dc,.slice (some ⟨b,i,none⟩) (n-i) sc]).run Tryz.prog W=.ok (goInt (n-i:Nat)) (W.setCells w.heap.size (i+1) (cs.drop (i))):=λW hWc hWf ty dc sc =>
  Ja W _ _ ty 134 w.heap.size (i+1) (n-i) dc ⟨b,i,none⟩ (n-i) sc 1 (n-i) (cs.drop (i)) Tryz.underlying26 hsz (by simp only[kE];split <;> omega) hdl
   (λj v hj=>by
    rw[Addr.add_lit,hWc,World.cell?_setCells_out _ _ _ _ _ (λh _=>absurd h hbN)]
    exact hOb _ v (hcs (i+j) v (by rwa [yJ] at hj)))
   (λj hj=>by rw[hWc];exact isSome_setCells w.heap.size vs (i) W1 (λt ht=>hN _ (by omega)) _ (hN _ (by rw[hdl] at hj;omega)))
   (λj hj=>by rw[hWf,World.frozen?_setCells];exact hNf _) (λv hv=>h1c v (w6 hv))
 subst hW1
 have hE1:∀ x,((w.alloc (.cells ROW 134)).drew).cell? x=(w.drew.alloc (.cells ROW 134)).cell? x:=λx=>rfl
 have hE2:∀ x,((w.alloc (.cells ROW 134)).drew).frozen? x=(w.drew.alloc (.cells ROW 134)).frozen? x:=λx=>rfl
 have hF1:∀ x,(((w.alloc (.cells ROW 134)).drew.setCells w.heap.size (i) vs).drew).cell? x=((w.drew.alloc (.cells ROW 134)).setCells w.heap.size (i) vs).cell? x:=λx=>rfl
 have hF2:∀ x,(((w.alloc (.cells ROW 134)).drew.setCells w.heap.size (i) vs).drew).frozen? x=((w.drew.alloc (.cells ROW 134)).setCells w.heap.size (i) vs).frozen? x:=λx=>rfl
 have hw1:IntKind.i64.wrap ((i:Int)+1)=(i:Int)+1:=by rw[IntKind.wrap_i64];omega
 have hb1:(0:Int)<=(i:Int)+1:=by omega
 have hin:i<=n:=by omega
 have htn:((i:Int)+1).toNat=i+1:=by omega
 have hb3:(i:Int)<=(n:Int):=by omega
 clear hkk hik hold hROW hG hRl htl hzc
 go_enter Tryz.func256,Tryz.ntmps256
 go_wp2_with (first
  | (at_builtin;refine Lib.wpList_append_run _ rfl _ _ _ _ rfl _ _ rfl rfl _ _ (hrz _) ?_)
  | (at_builtin;refine wpList_copy_runI _ rfl _ _ 26 26 rfl _ _ rfl rfl (hcpA _ hE1 hE2 _ _) ?_)
  | (at_builtin;refine wpList_copy_runI _ rfl _ _ 26 26 rfl _ _ rfl rfl (hcpB _ (λ_=>rfl) (λ_=>rfl) _ _ _) ?_))
 go_region_law_o (refine step_copy_runI rfl _ _ 26 26 rfl (.slice (some ⟨w.heap.size,i+1,none⟩) (n-i) (G-(i+1))) (.slice (some ⟨b,i,none⟩) (n-i) (c-i)) (by simp [Act.eval,Act.put]) (by simp [Act.eval,Act.put]) (hcpB _ hF1 hF2 3 (G-(i+1)) (c-i)) ?_)
 go_wp2
 go_ret
 exact⟨R,R⟩
set_option maxHeartbeats 4000000 in
theorem Al1 (vb vc:Nat) (vs:List Value) (w:World) (i0:TypeInfo) (hi0:Tryz.prog.info? 134=some i0) (hz0:i0.zero=some (.agg #[.slice none 0 0])) (hs0:i0.size=1)
  (hfit:Builtin.nextslicecap (0+1) 0*i0.bytes<=281474976710656) (hvl:vs.length=1)
  (hvs:∀ j v,vs[j]? = some v->w.cell? ⟨vb,j,none⟩=some v) (h1v:∀ v∈vs,v.oneCell'=true) :
  Calls Tryz.prog 256 #[.slice none 0 0,.int .i64 ((0:Nat):Int),.slice (some ⟨vb,0,none⟩) 1 vc] w λe w' =>
   e=.returned (.slice (some ⟨w.heap.size,0,none⟩) (0+1) (grownCap w (0+1) 0 134)) /\
   w'=w.drew.alloc (.cells (([]++vs).toArray++Builtin.zeroCells (Value.cells (.agg #[.slice none 0 0])) (grownCap w (0+1) 0 134-(0+1))) 134):=by
 have hsrc:_root_.Go.Src Tryz.prog i0.size 26 (.slice (some ⟨vb,0,none⟩) 1 vc) 1 vs w:=by
  rw[hs0]
  exact _root_.Go.Src.ofSlice w Tryz.underlying26 ⟨vb,0,none⟩ 1 vc vs (by omega) (λj u hj=>by rw[Addr.add_lit,yE];exact hvs j u hj) h1v
 have hold:(Builtin.firstCells i0.size 0 (.slice none 0 0)).run Tryz.prog w.drew=.ok ([]:List Value).toArray w.drew:=by
  rw[hs0]
  exact run_firstCells_none w.drew 1 0 0 0
 have hrun:∀ ty,(Builtin.append_ #[26,26] ty #[.slice none 0 0,.slice (some ⟨vb,0,none⟩) 1 vc]).run Tryz.prog w=.ok (.slice (some ⟨w.heap.size,0,none⟩) (0+1) (grownCap w (0+1) 0 134)) (w.drew.alloc (.cells (([]++vs).toArray++Builtin.zeroCells (Value.cells (.agg #[.slice none 0 0])) (grownCap w (0+1) 0 134-(0+1))) 134)):=λty =>
  run_append_grow_src w 26 26 ty 134 i0 _ Tryz.underlying26 hi0 hz0 none 0 0 [] hold _ 1 vs hsrc (by omega) (by omega) hfit
 go_enter Tryz.func256,Tryz.ntmps256
 go_wp2_with (at_builtin;refine Lib.wpList_append_run _ rfl _ _ _ _ rfl _ _ rfl rfl _ _ (hrun _) ?_)
 all_goals (go_ret;first|exact⟨rfl,rfl⟩|exact⟨rfl,by simp [Value.cells]⟩)
theorem Ajo:(Tryz.prog.info? 134).map (λi=>(i.zero,i.size,i.bytes))=some (some (.agg #[.slice none 0 0]),1,24):=by kernel_rfl
theorem As1 {cs vs:List Lf} {n i:Nat} (hcl:cs.length=n*1) (hvl:vs.length=1) (hi:i<=n) (hn:(n+1)*24<=140737488355328) :
  Dw Qx0 256 [.arr 134 1 0 cs,.arr 134 1 0 vs] [.one (.ls 0 n),.one (Ii6 (i:Int)),.one (.ls 1 1)] (λy m'=>y=L7 (.ls 0 (n+1))/\m'=[.arr 134 1 0 (cs.take (i*1)++vs++cs.drop (i*1)),.dead]):=by
 refine Zf (by decide) hcl hvl (λw v1 vb vc cur2 xs ys hown hg2 hcell hyl hne hx1 hy1=>?_)
 obtain⟨i0,hi0,hz0,hs0,hb0⟩:=info_parts Ajo
 have hxl:=hown.1
 have hfitG:∀ {old},old<n+1->Builtin.nextslicecap (n+1) old*i0.bytes<=281474976710656:=λh=>growslice_fits h (by rw[hb0];exact hn)
 have hsz':(Tryz.prog.info? 134).map (·.size)=some 1:=by rw[hi0];simp [hs0]
 have hzc:∀ k,(Builtin.zeroCells (Value.cells (.agg #[.slice none 0 0])) k).size=k*1:=λk=>by simp [Builtin.zeroCells,Value.cells]
 have hg63:∀ c,grownCap w (n+1) c 134<=maxLen:=λc=>grownCap_le_maxLen w (n+1) c 134 (by unfold maxLen;omega)
 have hgge:∀ c,n+1<=grownCap w (n+1) c 134:=λc=>grownCap_ge w _ _ _
 rcases hown.2 with⟨rfl,h0⟩|⟨g,cap,cur,rfl,_,hg,hnc,hcm,hcs,hct⟩
 ·subst h0
  have hi0':i=0:=by omega
  subst hi0'
  have hx0:xs=[]:=jT.1 (hxl.trans (wT _))
  subst hx0
  refine(Al1 vb vc ys w i0 hi0 hz0 hs0 (hfitG (by omega)) hyl hcell hy1).mono ?_
  rintro e w' ⟨rfl,rfl⟩
  refine⟨_,w.heap.size,R,Qu (hgge 0) (hg63 0) ?_ ?_,.inr (zN _)⟩
  ·have:=hgge 0
   rw[yQ,hzc,z7,wX,hyl];omega
  ·rw[xJ,yU,xX (by rw[wX,hyl])]
   simp
 ·have hcur:cur.toList.length=cap*1:=by rw[z8];exact hcs
  have hcell1:∀ j v,xs[j]? = some v->w.cell? ⟨g,j,none⟩=some v:=λj v hj=>by
   unfold World.cell?
   rw[hg]
   rw[<- hct,yL] at hj
   split at hj
   ·simpa using hj
   ·cases hj
  have hc63:cap<=9223372036854775807:=by unfold maxLen at hcm;exact hcm
  have hsome:∀ j,j<cap*1->(w.cell? ⟨g,j,none⟩).isSome=true:=λj hj=>by
   unfold World.cell?
   rw[hg]
   show(cur[j]?).isSome=true
   rw[zS (by omega)];rfl
  have hfrz:∀ j,w.frozen? ⟨g,j,none⟩=false:=λj=>by
   unfold World.frozen?
   rw[hg]
   show(decide (0<=j)&&decide (j<0))=false
   rw[decide_eq_false (zR j),jC]
  have hfrz2:∀ j,w.frozen? ⟨vb,j,none⟩=false:=λj=>by
   unfold World.frozen?
   rw[hg2]
   show(decide (0<=j)&&decide (j<0))=false
   rw[decide_eq_false (zR j),jC]
  have hvb:vb≠g:=λe=>hne (by rw[e];rfl)
  rcases Nat.lt_or_eq_of_le hi with hlt|rfl
  ·rcases zO cap (n+1) with hroom|hroom
   ·refine(Ajq g n cap i vb vc xs ys w i0 hi0 hz0 hs0 hlt hnc hroom (by omega) (by rw[hb0];omega) (hfitG hroom) hxl hyl hcell1 hcell hx1 hy1).mono ?_
    rintro e w' ⟨rfl,rfl⟩
    have hge:=hgge cap
    have htl:(xs.take (i*1)).length=i*1:=by rw[zK];omega
    have:=Wh (E:=134) (sz:=1) (w:=w) (row:=(xs.take (i*1)).toArray++Builtin.zeroCells (Value.cells (.agg #[.slice none 0 0])) (n+1-i)++Builtin.zeroCells (Value.cells (.agg #[.slice none 0 0])) (grownCap w (n+1) cap 134-(n+1))) (xs:=xs.take (i*1)) (vs:=ys) (D:=xs.drop (i*1)) hlt hge (hg63 cap)
     (by rw[yQ,yQ,hzc,hzc,z7,htl];omega) hyl (by rw[yC,hxl];omega)
     (by rw[xJ,xJ,yU,xO,xX htl])
    refine⟨_,w.heap.size,R,?_,.inr (zN _)⟩
    first|exact this|simpa only [kC] using this
   ·refine(Af5 g n cap i vb vc xs ys w hsz' hlt hroom hc63 hvb hxl hyl hcell1 (λj hj=>hsome j (by omega)) (λj _=>hfrz j) hcell hx1 hy1 134 134 cur2.size cur.size (by unfold World.shape?;rw[hg2]) (by unfold World.shape?;rw[hg]) (by omega) (hfrz2 _) (hfrz2 _)).mono ?_
    rintro e w' ⟨rfl,rfl⟩
    have:=Vk (E:=134) (sz:=1) (b:=g) (vs:=ys) hg hlt hroom hcm hcs hyl
    rw[hct] at this
    refine⟨_,g,R,?_,.inl R⟩
    first|exact this|simpa only [kC] using this
  ·have hxe:xs.take (i*1)++ys++xs.drop (i*1)=xs++ys:=by
    rw[yX (by omega),wV (by omega),xG]
   rw[hxe]
   rcases zO cap (i+1) with hroom|hroom
   ·refine(Age g i cap vb vc xs ys w i0 hi0 hz0 hs0 hnc hroom (by omega) (hfitG hroom) hxl hyl hcell1 hcell hy1).mono ?_
    rintro e w' ⟨rfl,rfl⟩
    have hge:=hgge cap
    refine⟨_,w.heap.size,R,Qu hge (hg63 cap) ?_ ?_,.inr (zN _)⟩
    ·rw[yQ,hzc,z7,zH,hxl,hyl];omega
    ·rw[xJ,yU,xX (by rw[zH,hxl,hyl];omega)]
   ·refine(Amy g i cap vb vc ys w i0 hi0 hs0 hroom hc63 hyl (λj hj=>hsome _ (by omega)) (λj _=>hfrz _) hcell hy1).mono ?_
    rintro e w' ⟨rfl,rfl⟩
    have:=Yb (E:=134) (sz:=1) (n:=i) (b:=g) (vs:=ys) hg hroom hcm hcs hyl
    rw[hct] at this
    exact⟨_,g,R,this,.inl R⟩
end
def Ty (a0:List Am) (a1:Int) (a2:List Am):Option (List Am):=Aqz 24 a0 a1 a2
theorem W9 {a0:List Am} {a1:Int} {a2 r:List Am} (h:Ty a0 a1 a2=some r):Dw Qx0 256 [.arr 134 1 0 (a0.flatMap Ay),.arr 134 1 0 (a2.flatMap Ay)] [.one (.ls 0 a0.length),.one (Ii6 a1),.one (.ls 1 a2.length)] (λy m'=>y=L7 (.ls 0 r.length)/\m'=[.arr 134 1 0 (r.flatMap Ay),.dead]) :=
 Apb (f:=Ay) (λ_=>rfl) As1 h
def Kh (a0:Int) (b1:Unit):Option (List A8) :=
 if (decide (0<(wI (a0-(wI (0-0)))))) then(if 0<(wI (a0-(wI (0-0))))/\(wI (a0-(wI (0-0))))*((40:Nat):Int)<=281474976710656 then(if (0:Int)<=0/\0<=((List.replicate (wI (a0-(wI (0-0)))).toNat (A8.mk 0 ([]:List UInt8) false)).length:Int) then(some ((List.replicate (wI (a0-(wI (0-0)))).toNat (A8.mk 0 ([]:List UInt8) false)).take (0:Int).toNat)) else none) else none) else(some ([]:List A8))
def K0 (a0:Int):Option (List A8) :=
 if (decide (a0<0)) then none else(Kh a0 ())
theorem Yl {a0:Int} {r:(List A8)} (h:K0 a0=some r):Dw Qx0 281 [] [.one (Znl),.one (Ii6 a0)] (λy m'=>y=L7 (.ls 0 r.length)/\m'=[.arr 136 3 0 (r.flatMap A9)]):=by
 unfold K0 at h
 refine Dn Tryz.func281 R (nt:=27) R (Nbl R) ?_
 intro w0 S0 X0 H0
 refine csr (rm 1 R (Ah (Bj (csr (rm 1 R (sv R (Bv R R) (Ah (cj (Unit) (λb1=>[(0,L7 (Znl)),(1,L7 (Ii6 a0))]) (λb1=>[]) (λb1=>Kh a0 b1=some r) (λ_=>R) (λb1 h=>?_) ?_))))))))
 ·unfold Kh at h
  refine Bj (csr (rm 2 R (sv R (G9 W8 R) (rm 1 R (sv R (F5 W8 R) (sv R (Ph R R) (sv R (Ph R R) (rm 1 R (Ah (csr (rm 1 R (sv R (Dr R R) (Ah (ccI h R (λh=>?_) (λh=>?_)))))))))))))))
  ·refine Au (rm 2 R (sv R (G9 W8 R) (sv R (Oh W8 R R) (sv R (Az R) ?_))))
   obtain⟨hm2,h⟩:=Cs h
   refine Ak9 (f:=A9) (z:=(A8.mk 0 ([]:List UInt8) false)) R Tryz.underlying132 Anv Tryz.underlying3 (λ_=>R) R R R hm2 (by decide) ?_
   refine rm 1 R (sv R (F5 W8 R) ?_)
   obtain⟨hs3,h⟩:=Cs h
   refine Aei (f:=A9) R W8 (λ_=>R) R R R R R hs3 ?_
   refine rm 1 R (Ah (csr (rm 2 R (Ah (Bq ?_)))))
   obtain rfl:=SJ h
   exact⟨Or.inr R,_,[1],[.one (.ls 0 ((List.replicate (wI (a0-(wI (0-0)))).toNat (A8.mk 0 ([]:List UInt8) false)).take (0:Int).toNat).length)],[.arr 136 3 0 (((List.replicate (wI (a0-(wI (0-0)))).toNat (A8.mk 0 ([]:List UInt8) false)).take (0:Int).toNat).flatMap A9)],(Ad (rt R) Aj),R,R,⟨by decide,R⟩,R,R,⟨R,R⟩⟩
  ·refine Bf (Ab (csr (rm 2 R (Ah ?_))))
   refine Dl 136 3 4 (by decide) R ?_
   refine Bq ?_
   obtain rfl:=SJ h
   exact⟨Or.inr R,_,[0],[.one (.ls 0 ([]:List A8).length)],[.arr 136 3 0 (([]:List A8).flatMap A9)],(Ad (rt R) Aj),R,R,⟨by decide,R⟩,R,R,⟨R,R⟩⟩
 ·skip
  refine ccI h R (λh=>?_) (λh=>?_)
  ·cases h
  ·refine Bf (Ab ?_)
   exact⟨(),_,h,⟨R,R,trivial⟩,R⟩
def Ml (b3:(List A8)):Option (List A8) :=
 some b3
def Ek (a0:List (List A8)) (s4:Int×(List A8)):Option (LB (Int×(List A8)) ((List A8))) :=
 if (decide (s4.1<(a0.length:Int))) then((idx a0 s4.1).bind λu5=>if (s4.2.length+u5.length)*40<=140737488355328 then(some (.cont ((wI (s4.1+1)),(s4.2++u5)))) else none) else(some (.brk s4.2))
def Ir (a0:List (List A8)) (b1:Int):Option (List A8) :=
 (K0 b1).bind λv2=>(Cz (Ek a0) fuel (0,v2)).bind λe7=>Ml e7
def Ei (a0:List (List A8)) (s8:Int×Int):Option (LB (Int×Int) (Int)) :=
 if (decide (s8.2<(a0.length:Int))) then((idx a0 s8.2).bind λu9=>if (decide ((wI (s8.1+(u9.length:Int)))<0)) then none else(some (.cont ((wI (s8.1+(u9.length:Int))),(wI (s8.2+1)))))) else(some (.brk s8.1))
def Iq (a0:List (List A8)):Option (List A8) :=
 (Cz (Ei a0) fuel (0,0)).bind λe10=>Ir a0 e10
theorem Wg {a0:List (List A8)} {r:(List A8)} (h:Iq a0=some r):Dw Qx0 275 [] [.one (SL a0 (eL A9))] (λy m'=>y=L7 (.ls 0 r.length)/\m'=[.arr 136 3 0 (r.flatMap A9)]):=by
 unfold Iq at h
 refine Dn Tryz.func275 R (nt:=36) R (Nbl R) ?_
 intro w0 S0 X0 H0
 refine csr (rm 1 R (Ah (csr (rm 1 R (Ah (Bj (csr (rm 1 R (sv R (Ap Ar6 R) (rm 1 R (Ah (cj (Int) (λb1=>[(0,L7 (SL a0 (eL A9))),(3,L7 (Ii6 b1))]) (λb1=>[]) (λb1=>Ir a0 b1=some r) (λ_=>R) (λb1 h=>?_) ?_))))))))))))
 ·unfold Ir at h
  refine csr (sv R (Az R) ?_)
  obtain⟨v2,hv2,h⟩:=Ae h
  refine I0 (x':=L7 (.ls 0 v2.length)) (M':=[.arr 136 3 0 (v2.flatMap A9)]) [] R A3d (.func _) (Ac R (Ac R Ag)) (Yl hv2) R R (by decide) R R R ?_
  refine rm 1 R (Ah (Bj (csr (rm 1 R (sv R (Ap Ar6 R) (rm 1 R (Ah (cj ((List A8)) (λb3=>[(6,L7 (.ls 0 b3.length))]) (λb3=>[.arr 136 3 0 (b3.flatMap A9)]) (λb3=>Ml b3=some r) (λ_=>R) (λb3 h=>?_) ?_))))))))
  ·unfold Ml at h
   refine csr (rm 2 R (Ah (Bq ?_)))
   obtain rfl:=SJ h
   exact⟨Or.inr R,_,[0],[.one (.ls 0 b3.length)],[.arr 136 3 0 (b3.flatMap A9)],(Ad (rt R) Aj),R,R,⟨by decide,R⟩,R,R,⟨R,R⟩⟩
  ·skip
   refine Bl ?_
   obtain⟨x4,hx4,ho4⟩:=Ae h
   refine lpo (G:=Nat×(Int×(List A8))) (λg=>[(6,L7 (.ls 0 g.2.2.length)),(25,L7 (SL a0 (eL A9))),(26,L7 (Ii6 (a0.length:Int))),(27,L7 (Ii6 g.2.1))]) (λg=>[.arr 136 3 0 (g.2.2.flatMap A9)]) (λg=>Cz (Ek a0) g.1 g.2=some x4) (λg=>g.1) (fuel,(0,v2)) hx4 ⟨R,R,R,R,trivial⟩ [] R (λ_=>R) ?_
   clear hx4 h
   rintro⟨n4,s4⟩ h
   obtain⟨n4,y4,rfl,h,hk4⟩:=Cw h
   unfold Ek at h
   refine csr (sv R (Bv R R) (Ah (Bj (ccI h R (λh=>?_) (λh=>?_)))))
   ·refine Bf (Ab (Bj (Bl (Bj (Au ?_)))))
    obtain⟨u5,hu5,h⟩:=Ae h
    refine sv R (B4 (f:=(eL A9)) Ar6 (λ_=>R) R R R R hu5) ?_
    refine sv R (B0 Aa8 R (.cp _) R) (rm 1 R (Ah (Au (rm 1 R (sv R (Az R) ?_)))))
    obtain⟨hb6,h⟩:=Cs h
    refine U1 (f:=A9) (xs:=s4.2) (us:=u5) R Tryz.underlying132 Anv Ayf (λ_=>R) R R (.one _ _ _ _ (.id _ R)) R R R (.sl _ _ _ (Aw (f:=A9) (λ_=>R) _)) R R hb6 (by decide) ?_
    refine rm 1 R (Jb (Ar (Ab (Au (sv R (Bp R R) (rm 1 R (Ah ?_)))))))
    obtain rfl:=SJ h
    exact⟨(n4,((wI (s4.1+1)),(s4.2++u5))),_,hk4,⟨R,R,R,R,trivial⟩,R,zG _⟩
   ·refine C3 (As (As (Bi (Ab ?_))))
    obtain rfl:=SJ h
    obtain rfl:_=x4:=hk4
    exact⟨s4.2,_,ho4,⟨R,trivial⟩,R⟩
 ·skip
  refine Bl ?_
  obtain⟨x8,hx8,ho8⟩:=Ae h
  refine lpo (G:=Nat×(Int×Int)) (λg=>[(0,L7 (SL a0 (eL A9))),(3,L7 (Ii6 g.2.1)),(9,L7 (SL a0 (eL A9))),(10,L7 (Ii6 (a0.length:Int))),(11,L7 (Ii6 g.2.2))]) (λg=>[]) (λg=>Cz (Ei a0) g.1 g.2=some x8) (λg=>g.1) (fuel,(0,0)) hx8 ⟨R,R,R,R,R,trivial⟩ [] R (λ_=>R) ?_
  clear hx8 h
  rintro⟨n8,s8⟩ h
  obtain⟨n8,y8,rfl,h,hk8⟩:=Cw h
  unfold Ei at h
  refine csr (sv R (Bv R R) (Ah (Bj (ccI h R (λh=>?_) (λh=>?_)))))
  ·refine Bf (Ab (Bj (Bl (Bj (Au ?_)))))
   obtain⟨u9,hu9,h⟩:=Ae h
   refine sv R (B4 (f:=(eL A9)) Ar6 (λ_=>R) R R R R hu9) ?_
   refine sv R (B0 Aa8 R (.cp _) R) (rm 1 R (Ah (csr (rm 2 R (sv R (Ap W8 R) (sv R (Bp R R) (rm 1 R (Ah (csr (rm 1 R (sv R (Bv R R) (Ah (ccI h R (λh=>?_) (λh=>?_))))))))))))))
   ·cases h
   ·refine Bf (Ar (Ab (Au (sv R (Bp R R) (rm 1 R (Ah ?_))))))
    obtain rfl:=SJ h
    exact⟨(n8,((wI (s8.1+(u9.length:Int))),(wI (s8.2+1)))),_,hk8,⟨R,R,R,R,R,trivial⟩,R,zG _⟩
  ·refine C3 (As (As (Bi (Ab ?_))))
   obtain rfl:=SJ h
   obtain rfl:_=x8:=hk8
   exact⟨s8.1,_,ho8,⟨R,R,trivial⟩,R⟩
def Mv (a0:Am) (a1:A8) (b1:Unit):Option (Am×Int) :=
 (K9 a0).bind λv2=>if (decide (a1.Ts<=v2)) then(some ((Am.mk ([]:List A8)),7)) else((Iq [a0.L,[a1]]).bind λv3=>some ((Am.mk v3),0))
def M3 (a0:Am) (a1:A8):Option (Am×Int) :=
 (E9 (Am.mk a0.L)).bind λv4=>if (!v4) then(some ((Am.mk ([]:List A8)),1)) else((Gp a1).bind λv5=>if (!v5) then(some ((Am.mk ([]:List A8)),1)) else(Mv a0 a1 ()))
theorem Z0 {a0:Am} {a1:A8} {r:Am×Int} (h:M3 a0 a1=some r):Bt Qx0 257 [.agg [SL a0.L A9],.agg (EL.el a1)] (·=.tup [.agg [SL r.1.L A9],.one (Ii6 r.2)]):=by
 unfold M3 at h
 refine A1 Tryz.func257 R (nt:=28) R (Nbl R) ?_
 intro w0 S0
 refine csr (Er R R (Er R R (Br R Aat (rm 1 R (Ah (Bj (Bj (cj3 (Unit) (λb1=>[(2,L7 (.lp 0 0)),(3,L7 (.lp 1 0)),(4,L7 (.lp 2 0))]) (λb1=>[.box [SL a0.L A9],.box (EL.el a1),.box [Znl]]) (λb1=>Mv a0 a1 b1=some r) (λ_=>R) (λb1 h=>?_) ?_))))))))
 ·unfold Mv at h
  refine Bj (Bj ?_)
  refine Ue mixed (by kernel_rfl) ?_
  refine dv R (Aa Wm R) (dv R (l1 ti3 R R R) (dv R (lo Qo R R R) ?_))
  obtain⟨v2,hv2,h⟩:=Ae h
  refine dd R (Cm Aza (Ac R Ag) R (Uy hv2)) (dv R (Dk R R) (U8 (Ab (ccI h R (λh=>?_) (λh=>?_)))))
  ·refine csr (sv R (A2 Aat Al7 A0 (.nil _)) (sst Aaz R R R R R (rm 1 R (Ah (Bq (Af ?_))))))
   obtain rfl:=SJ h
   exact dn (Ad (ra Qo R R R) (Ad (rt R) Aj)) (I8 R) R
  ·refine Bf (Ab (csr (fl T5 Aa8 R R R R R R (sv R (lo Ah3 R R R) ?_))))
   refine D7 R Tryz.underlying132 Anv R R (zI.1 R) (by decide) ?_
   refine Ql [.box [SL a0.L A9],.box (EL.el a1),.box [Znl],.arr 136 3 0 ([a1].flatMap A9)] R ?_
   refine Aif 24 R (by(repeat' first|exact Ho.nil _|apply Ho.cons|apply Hl.one|apply Hl.agg|exact C5.nil|exact C5.ls _ _ _ _ _ _ R (Aw (f:=A9) (λ_=>R) ([a1]:List A8)).symm|exact C5.ls _ _ _ _ _ _ R (Aw (f:=A9) (λ_=>R) _).symm|exact C5.id _ R|exact Cv.nil _|apply Cv.cons)) ?_
   refine Ai6 (out:=([a0.L,[a1]]:List (List A8)).flatMap (eL A9)) R Tryz.underlying408 A3h (Aq R (Aq R A0)) (.cons _ _ _ _ _ _ _ R R (Nbl R) (.cons _ _ _ _ _ _ _ R R (Nbl R) (.nil _))) R (by decide) ?_
   refine Aif 25 R (by(repeat' first|exact Ho.nil _|apply Ho.cons|apply Hl.one|apply Hl.agg|exact C5.nil|exact C5.ls _ _ _ _ _ _ R (Aw (f:=(eL A9)) (λ_=>R) ([a0.L,[a1]]:List (List A8))).symm|exact C5.ls _ _ _ _ _ _ R (Aw (f:=(eL A9)) (λ_=>R) _).symm|exact C5.ls _ _ _ _ _ _ R (Aw (f:=A9) (λ_=>R) _).symm|exact C5.id _ R|exact Cv.nil _|apply Cv.cons)) ?_
   obtain⟨v3,hv3,h⟩:=Ae h
   refine I0 (x':=L7 (.ls 5 v3.length)) (M':=[.box [SL a0.L A9],.box (EL.el a1),.box [Znl],.arr 136 3 ([a1].flatMap A9).length ([a1].flatMap A9),.arr 132 1 ([a0.L,[a1]].flatMap (eL A9)).length ([a0.L,[a1]].flatMap (eL A9)),.arr 136 3 0 (v3.flatMap A9)]) [] R A2u (.func _) (Ac R Ag) (Wg hv3) R R (by decide) R R R ?_
   refine sv R (A2 Aat Al7 (Aq R A0) (.cons _ _ _ _ _ _ _ R R (Nbl R) (.nil _))) (sst Aaz R R R R R (rm 1 R (Ah (Bq ?_))))
   obtain rfl:=SJ h
   refine⟨Or.inr R,_,_,_,(Ad (ra Qo R R R) (Ad (rt R) Aj)),(by(repeat' first|exact Ho.nil _|apply Ho.cons|apply Hl.one|apply Hl.agg|exact C5.nil|exact C5.ls _ _ _ _ _ _ R (Aw (f:=(eL A9)) (λ_=>R) _).symm|exact C5.ls _ _ _ _ _ _ R (Aw (f:=A9) (λ_=>R) _).symm|exact C5.id _ R|exact Cv.nil _|apply Cv.cons)),?_⟩
   rfl
 ·skip
  refine Au (sv R (lo Qo R R R) ?_)
  obtain⟨v4,hv4,h⟩:=Ae h
  refine Bb R Awy (Ac R Ag) (Ao R) (Qt hv4) (sv R (Bz R) (rm 1 R (ssI 9 h R (λh=>?_) (λh=>?_))))
  ·refine rm 4 R (Ah (Ce R (λ_=>?_) (λhx=>Bool.noConfusion hx)))
   refine csr (sv R (A2 Aat Al7 A0 (.nil _)) (sst Aaz R R R R R (rm 1 R (Ah (Bq (Af ?_))))))
   obtain rfl:=SJ h
   exact dn (Ad (ra Qo R R R) (Ad (rt R) Aj)) (I8 R) R
  ·refine son R R R (ld Ah3 R R R R (son R R R ?_))
   obtain⟨v5,hv5,h⟩:=Ae h
   refine Bb R Axr (Ac R Ag) (Ao R) (R6 hv5) (son R R R (sv R (Bz R) (rm 1 R (Ah (ccI h R (λh=>?_) (λh=>?_))))))
   ·refine csr (sv R (A2 Aat Al7 A0 (.nil _)) (sst Aaz R R R R R (rm 1 R (Ah (Bq (Af ?_))))))
    obtain rfl:=SJ h
    exact dn (Ad (ra Qo R R R) (Ad (rt R) Aj)) (I8 R) R
   ·refine Bf (Ab ?_)
    exact⟨(),_,h,⟨R,R,R,trivial⟩,R⟩
def E5 (a2:Int) (a3:A7) (v1:Int×Bool) (b2:(List (List UInt8))×(List Am)):Option (Int×(List (List UInt8))×(List Am)) :=
 (idx b2.2 v1.1).bind λu3=>(M3 u3 (A8.mk a2 a3.Val a3.Del)).bind λv4=>if (decide (v4.2=0)) then((idx b2.2 v1.1).bind λu5=>some (a2,b2.1,(b2.2.set v1.1.toNat v4.1))) else(some (a2,b2.1,b2.2))
def M5 (a0:List (List UInt8)) (a1:List Am) (a2:Int) (a3:A7):Option (Int×(List (List UInt8))×(List Am)) :=
 (O2 a0 a3.Key).bind λv1=>if (!v1.2) then((Tk a0 v1.1 [a3.Key]).bind λv6=>(Ty a1 v1.1 [(Am.mk ([]:List A8))]).bind λv7=>E5 a2 a3 v1 (v6,v7)) else(E5 a2 a3 v1 (a0,a1))
theorem Zy {a0:List (List UInt8)} {a1:List Am} {a2:Int} {a3:A7} {r:Int×(List (List UInt8))×(List Am)} (h:M5 a0 a1 a2 a3=some r):Dw Qx0 216 [.arr 56 1 0 (a0.flatMap (eL eU8)),.arr 134 1 0 (a1.flatMap Ay)] [.agg [.ls 0 a0.length,.ls 1 a1.length,Ii6 a2],.agg (EL.el a3)] (λy m'=>y=.s (.agg [.ls 0 r.2.1.length,.ls 1 r.2.2.length,Ii6 r.1])/\m'=[.arr 56 1 0 (r.2.1.flatMap (eL eU8)),.arr 134 1 0 (r.2.2.flatMap Ay)]):=by
 unfold M5 at h
 refine Dn Tryz.func216 R (nt:=58) R (Nbl R) ?_
 intro w0 S0 X0 H0
 refine csr (Er R R (Er R R (Br R Aih (Ah (csr (fl R9 Xo R R R R R R (sv R (Aa Tn R) (sv R (l1 L3 R R R) ?_))))))))
 obtain⟨v1,hv1,h⟩:=Ae h
 refine I0 (x':=.tup [.one (Ii6 v1.1),.one (.b v1.2)]) (M':=[.arr 56 1 0 (a0.flatMap (eL eU8)),.arr 134 1 0 (a1.flatMap Ay),.box [.ls 0 a0.length,.ls 1 a1.length,Ii6 a2],.box (EL.el a3),.box [Znl,Znl,Ii6 0]]) [0] R A03 (.func _) (Ac R (Ac R Ag)) (Aaw hv1) R R (by decide) R R R ?_
 refine sv R (Cf R) (sv R (Ak R R) (sv R (Ak R R) (rm 2 R (Ah (Bj (csr (rm 1 R (sv R (Bz R) (Ah (cj ((List (List UInt8))×(List Am)) (λb2=>[(2,L7 (.lp 2 0)),(3,L7 (.lp 3 0)),(4,L7 (.lp 4 0)),(5,L7 (Ii6 v1.1))]) (λb2=>[.arr 56 1 0 (b2.1.flatMap (eL eU8)),.arr 134 1 0 (b2.2.flatMap Ay),.box [.ls 0 b2.1.length,.ls 1 b2.2.length,Ii6 a2],.box (EL.el a3),.box [Znl,Znl,Ii6 0]]) (λb2=>E5 a2 a3 v1 b2=some r) (λ_=>R) (λb2 h=>?_) ?_))))))))))
 ·unfold E5 at h
  refine Bj (Adc ?_)
  obtain⟨u3,hu3,h⟩:=Ae h
  obtain⟨v4,hv4,h⟩:=Ae h
  refine Kb [16,17] [0,1,0,7,15,0,32,0,128,0,512,2016,4095,8191,16383,16383,0,98303,262143] [[.arr 56 1 0 (b2.1.flatMap (eL eU8)),.arr 134 1 0 (b2.2.flatMap Ay),.box [.ls 0 b2.1.length,.ls 1 b2.2.length,Ii6 a2],.box (EL.el a3),.box [Znl,Znl,Ii6 0],.hole],[.arr 56 1 0 (b2.1.flatMap (eL eU8)),.arr 134 1 0 (b2.2.flatMap Ay),.box [.ls 0 b2.1.length,.ls 1 b2.2.length,Ii6 a2],.box (EL.el a3),.box [Znl,Znl,Ii6 0],.box [Znl]],[.arr 56 1 0 (b2.1.flatMap (eL eU8)),.arr 134 1 0 (b2.2.flatMap Ay),.box [.ls 0 b2.1.length,.ls 1 b2.2.length,Ii6 a2],.box (EL.el a3),.box [Znl,Znl,Ii6 0],.box [SL v4.1.L A9]]] (by kernel_rfl) mixed (by kernel_rfl) (by decide) R R R R ?_
  refine evs (md:=[.arr 56 1 0 (b2.1.flatMap (eL eU8)),.arr 134 1 0 (b2.2.flatMap Ay),.box [.ls 0 b2.1.length,.ls 1 b2.2.length,Ii6 a2],.box (EL.el a3),.box [Znl,Znl,Ii6 0],.dead]) (λhS=>ev (B9 hS) R R (Aa Qp R) (ev (B9 hS) R R (l1 Aig R R R) (emv R R (λ_=>Az R) ?_))) ⟨⟨R,⟨R,⟨R,⟨R,⟨R,⟨trivial,trivial⟩⟩⟩⟩⟩⟩,⟨⟨R,⟨R,⟨R,⟨R,⟨R,⟨trivial,trivial⟩⟩⟩⟩⟩⟩,⟨⟨R,⟨R,⟨R,⟨R,⟨R,⟨trivial,trivial⟩⟩⟩⟩⟩⟩,trivial⟩⟩⟩
  refine ev (B9 (md:=[.arr 56 1 0 (b2.1.flatMap (eL eU8)),.arr 134 1 0 (b2.2.flatMap Ay),.box [.ls 0 b2.1.length,.ls 1 b2.2.length,Ii6 a2],.box (EL.el a3),.box [Znl,Znl,Ii6 0],.dead]) ⟨⟨rfl,⟨rfl,⟨rfl,⟨rfl,⟨rfl,⟨trivial,trivial⟩⟩⟩⟩⟩⟩,⟨⟨rfl,⟨rfl,⟨rfl,⟨rfl,⟨rfl,⟨trivial,trivial⟩⟩⟩⟩⟩⟩,⟨⟨rfl,⟨rfl,⟨rfl,⟨rfl,⟨rfl,⟨trivial,trivial⟩⟩⟩⟩⟩⟩,trivial⟩⟩⟩) rfl rfl (G8 (f:=Ay) Am3 (λ_=>rfl) rfl rfl rfl (by first|rfl|exact List.length_set.symm) rfl hu3) ?_
  refine ev (B9 (md:=[.arr 56 1 0 (b2.1.flatMap (eL eU8)),.arr 134 1 0 (b2.2.flatMap Ay),.box [.ls 0 b2.1.length,.ls 1 b2.2.length,Ii6 a2],.box (EL.el a3),.box [Znl,Znl,Ii6 0],.dead]) ⟨⟨R,⟨R,⟨R,⟨R,⟨R,⟨trivial,trivial⟩⟩⟩⟩⟩⟩,⟨⟨R,⟨R,⟨R,⟨R,⟨R,⟨trivial,trivial⟩⟩⟩⟩⟩⟩,⟨⟨R,⟨R,⟨R,⟨R,⟨R,⟨trivial,trivial⟩⟩⟩⟩⟩⟩,trivial⟩⟩⟩) R R (Pt (f:=Ay) (sz:=1) 0 Qo (λ_=>R) R R R R (Jd hu3).2 (Nbl R) R) ?_
  refine evs (md:=[.arr 56 1 0 (b2.1.flatMap (eL eU8)),.arr 134 1 0 (b2.2.flatMap Ay),.box [.ls 0 b2.1.length,.ls 1 b2.2.length,Ii6 a2],.box (EL.el a3),.box [Znl,Znl,Ii6 0],.dead]) (λhS=>ev (B9 hS) R R (Aa M8 R) (ev (B9 hS) R R (l1 ti3 R R R) (ev (B9 hS) R R (Aa Y0 R) (ev (B9 hS) R R (l1 L3 R R R) (ev (B9 hS) R R (Aa Abr R) (ev (B9 hS) R R (l1 ti4 R R R) (ev (B9 hS) R R (A2 Afv Ayz (Aq R (Aq R (Aq R A0))) (.cons _ _ _ _ _ _ _ R R (Nbl R) (.cons _ _ _ _ _ _ _ R R (Nbl R) (.cons _ _ _ _ _ _ _ R R (Nbl R) (.nil _))))) (ed (B9 hS) R R (Cm A1u (Ac R (Ac R Ag)) R (Z0 hv4)) (emv R R (λ_=>Cf R) ?_))))))))) ⟨⟨R,⟨R,⟨R,⟨R,⟨R,⟨trivial,trivial⟩⟩⟩⟩⟩⟩,⟨⟨R,⟨R,⟨R,⟨R,⟨R,⟨trivial,trivial⟩⟩⟩⟩⟩⟩,⟨⟨R,⟨R,⟨R,⟨R,⟨R,⟨trivial,trivial⟩⟩⟩⟩⟩⟩,trivial⟩⟩⟩
  refine evs (md:=[.arr 56 1 0 (b2.1.flatMap (eL eU8)),.arr 134 1 0 (b2.2.flatMap Ay),.box [.ls 0 b2.1.length,.ls 1 b2.2.length,Ii6 a2],.box (EL.el a3),.box [Znl,Znl,Ii6 0],.dead]) (λhS=>ev (B9 hS) R R (Ak R R) (ev (B9 hS) R R (Ak R R) (ee (x:=L7 (.lp 5 0)) 0 R R R R R (λζ=>?_) ?_))) ⟨⟨R,⟨R,⟨R,⟨R,⟨R,⟨trivial,trivial⟩⟩⟩⟩⟩⟩,⟨⟨R,⟨R,⟨R,⟨R,⟨R,⟨trivial,trivial⟩⟩⟩⟩⟩⟩,⟨⟨R,⟨R,⟨R,⟨R,⟨R,⟨trivial,trivial⟩⟩⟩⟩⟩⟩,trivial⟩⟩⟩
  ·refine Oz 5 R Aat R ?_
   exact U9
  refine ee0 1 R R R R (λζ=>?_) ?_
  ·refine sst Aaz R R R R R (Ql [.arr 56 1 0 (b2.1.flatMap (eL eU8)),.arr 134 1 0 (b2.2.flatMap Ay),.box [.ls 0 b2.1.length,.ls 1 b2.2.length,Ii6 a2],.box (EL.el a3),.box [Znl,Znl,Ii6 0],.box [SL v4.1.L A9]] R ?_)
   exact U9
  refine ev (A6 2 R R) R R (G0 R) (Adr (Ab (Bj (csr (rm 1 R (sv R (B6 R R) (Ah (ccI h R (λh=>?_) (λh=>?_)))))))))
  ·refine Au (fl Qp Aig R R R R R R (rm 1 R (sv R (lo Qo R R R) ?_)))
   obtain⟨u5,hu5,h⟩:=Ae h
   refine sv R (G8 (f:=Ay) Am3 (λ_=>R) R R R R R hu5) ?_
   refine Ab2 (f:=Ay) (u':=v4.1) (sz:=1) 0 Aaz (λ_=>R) R R R R R R R (zI.1 R) (Jd hu5).2 (Nbl R) R ?_
   refine Nn 36 (y:=L7 (.ls 1 b2.2.length)) (L7 (.ls 1 (b2.2.set v1.1.toNat v4.1).length)) R (congrArg (λn=>AV.s (.one (.ls 1 n))) List.length_set.symm) ?_
   refine Nn 53 (y:=L7 (.ls 1 b2.2.length)) (L7 (.ls 1 (b2.2.set v1.1.toNat v4.1).length)) R (congrArg (λn=>AV.s (.one (.ls 1 n))) List.length_set.symm) ?_
   refine Ql [.arr 56 1 0 (b2.1.flatMap (eL eU8)),.arr 134 1 0 ((b2.2.set v1.1.toNat v4.1).flatMap Ay),.box [.ls 0 b2.1.length,.ls 1 b2.2.length,Ii6 a2],.box (EL.el a3),.box [Znl,Znl,Ii6 0],.box [SL v4.1.L A9]] R ?_
   refine Ql [.arr 56 1 0 (b2.1.flatMap (eL eU8)),.arr 134 1 0 ((b2.2.set v1.1.toNat v4.1).flatMap Ay),.box [.ls 0 b2.1.length,.ls 1 (b2.2.set v1.1.toNat v4.1).length,Ii6 a2],.box (EL.el a3),.box [Znl,Znl,Ii6 0],.box [SL v4.1.L A9]] (by rw[xI]) ?_
   refine Ah (csr (ld Yw R R R R (sst Ajm R R R R R (Ah (Bq ?_)))))
   obtain rfl:=SJ h
   exact⟨Or.inr R,_,[0,1],[.agg [.ls 0 b2.1.length,.ls 1 (b2.2.set v1.1.toNat v4.1).length,Ii6 a2]],[.arr 56 1 0 (b2.1.flatMap (eL eU8)),.arr 134 1 0 ((b2.2.set v1.1.toNat v4.1).flatMap Ay)],(Ad (ra Yw R R R) Aj),R,R,⟨by decide,R⟩,R,R,⟨R,R⟩⟩
  ·refine Bf (Ab (csr (ld Yw R R R R (sst Ajm R R R R R (Ah (Bq ?_))))))
   obtain rfl:=SJ h
   exact⟨Or.inr R,_,[0,1],[.agg [.ls 0 b2.1.length,.ls 1 b2.2.length,Ii6 a2]],[.arr 56 1 0 (b2.1.flatMap (eL eU8)),.arr 134 1 0 (b2.2.flatMap Ay)],(Ad (ra Yw R R R) Aj),R,R,⟨by decide,R⟩,R,R,⟨R,R⟩⟩
 ·skip
  refine ccI h R (λh=>?_) (λh=>?_)
  ·refine csr (fl R9 Xo R R R R R R (rm 1 R (sv R (Aa Tn R) (sv R (l1 L3 R R R) ?_))))
   refine D7 R Tryz.underlying25 Aid R R (zI.1 R) (by decide) ?_
   refine Ql [.arr 56 1 0 (a0.flatMap (eL eU8)),.arr 134 1 0 (a1.flatMap Ay),.box [.ls 0 a0.length,.ls 1 a1.length,Ii6 a2],.box (EL.el a3),.box [Znl,Znl,Ii6 0],.arr 56 1 0 ([a3.Key].flatMap (eL eU8))] R ?_
   obtain⟨v6,hv6,h⟩:=Ae h
   refine I0 (x':=L7 (.ls 0 v6.length)) (M':=[.arr 56 1 0 (v6.flatMap (eL eU8)),.arr 134 1 0 (a1.flatMap Ay),.box [.ls 0 a0.length,.ls 1 a1.length,Ii6 a2],.box (EL.el a3),.box [Znl,Znl,Ii6 0],.dead]) [0,5] R A1t (.func _) (Ac R (Ac R (Ac R Ag))) (Wt hv6) R R (by decide) R R R ?_
   refine sv R (Aa R9 R) (sst A25 R R R R R (Ah (Au (fl Qp Aig R R R R R R (rm 1 R (sv R (A2 Aat Al7 A0 (.nil _)) ?_))))))
   refine Aif 30 R (by(repeat' first|exact Ho.nil _|apply Ho.cons|apply Hl.one|apply Hl.agg|exact C5.nil|exact C5.ls _ _ _ _ _ _ R (Aw (f:=(eL eU8)) (λ_=>R) _).symm|exact C5.ls _ _ _ _ _ _ R (Aw (f:=Ay) (λ_=>R) _).symm|exact C5.id _ R|exact Cv.nil _|apply Cv.cons)) ?_
   refine D7 R Tryz.underlying26 Aju R R (zI.1 R) (by decide) ?_
   refine Ql [.arr 56 1 0 (v6.flatMap (eL eU8)),.arr 134 1 0 (a1.flatMap Ay),.box [.ls 0 v6.length,.ls 1 a1.length,Ii6 a2],.box (EL.el a3),.box [Znl,Znl,Ii6 0],.dead,.arr 134 1 0 ([(Am.mk ([]:List A8))].flatMap Ay)] R ?_
   obtain⟨v7,hv7,h⟩:=Ae h
   refine I0 (x':=L7 (.ls 1 v7.length)) (M':=[.arr 56 1 0 (v6.flatMap (eL eU8)),.arr 134 1 0 (v7.flatMap Ay),.box [.ls 0 v6.length,.ls 1 a1.length,Ii6 a2],.box (EL.el a3),.box [Znl,Znl,Ii6 0],.dead,.dead]) [1,6] R A2d (.func _) (Ac R (Ac R (Ac R Ag))) (W9 hv7) R R (by decide) R R R ?_
   refine sv R (Aa Qp R) (sst A4n R R R R R (Ah ?_))
   exact⟨(v6,v7),_,h,⟨R,R,R,R,trivial⟩,R⟩
  ·refine Bf (Ab ?_)
   exact⟨(a0,a1),_,h,⟨R,R,R,R,trivial⟩,R⟩
def Jz (b5:(List (List UInt8))×(List Am)×Int):Option (B2×Int) :=
 if (decide (128<(b5.1.length:Int))) then(some (Q9,8)) else(some ((B2.mk b5.1 b5.2.1 b5.2.2),0))
def E3 (a2:List A7) (s6:Int×(List (List UInt8))×(List Am)×Int):Option (LB (Int×(List (List UInt8))×(List Am)×Int) ((List (List UInt8))×(List Am)×Int)) :=
 if (decide (s6.1<(a2.length:Int))) then((idx a2 s6.1).bind λu7=>(M5 s6.2.1 s6.2.2.1 s6.2.2.2 u7).bind λv8=>some (.cont ((wI (s6.1+1)),v8.2.1,v8.2.2,v8.1))) else(some (.brk (s6.2.1,s6.2.2.1,s6.2.2.2)))
def Jr (a0:B2) (a1:Int) (a2:List A7) (b2:Unit):Option (B2×Int) :=
 (Ju a0.Keys).bind λv3=>(Jj a0.Chains).bind λv4=>(Cz (E3 a2) fuel (0,v3,v4,a1)).bind λe9=>Jz e9
def Jv (a0:B2) (a1:Int) (a2:List A7) (b1:Unit):Option (B2×Int) :=
 if (decide (a1<=a0.Ts)) then(some (Q9,7)) else(if (decide (1099511627776<a1)) then(some (Q9,7)) else(Jr a0 a1 a2 ()))
def D9 (a0:B2) (a1:Int) (a2:List A7):Option (B2×Int) :=
 (Dh (B2.mk a0.Keys a0.Chains a0.Ts)).bind λv10=>if (!v10) then(some (Q9,1)) else((Gc a2).bind λv11=>if (!v11) then(some (Q9,1)) else(Jv a0 a1 a2 ()))
theorem W6 {a0:B2} {a1:Int} {a2:List A7} {r:B2×Int} (h:D9 a0 a1 a2=some r):Bt Qx0 143 [.agg (EL.el a0),.one (Ii6 a1),.one (SL a2 A5)] (·=.tup [.agg (EL.el r.1),.one (Ii6 r.2)]):=by
 unfold D9 at h
 refine A1 Tryz.func143 R (nt:=53) R (Nbl R) ?_
 intro w0 S0
 refine csr (Er R R (Br R Aih (rm 1 R (Ah (Bj (Bj (cj3 (Unit) (λb1=>[(1,L7 (Ii6 a1)),(2,L7 (SL a2 A5)),(3,L7 (.lp 0 0)),(6,L7 (.lp 1 0))]) (λb1=>[.box (EL.el a0),.box [Znl,Znl,Ii6 0]]) (λb1=>Jv a0 a1 a2 b1=some r) (λ_=>R) (λb1 h=>?_) ?_)))))))
 ·unfold Jv at h
  refine Bj (Bj (cj3 (Unit) (λb2=>[(1,L7 (Ii6 a1)),(2,L7 (SL a2 A5)),(3,L7 (.lp 0 0)),(6,L7 (.lp 1 0))]) (λb2=>[.box (EL.el a0),.box [Znl,Znl,Ii6 0]]) (λb2=>Jr a0 a1 a2 b2=some r) (λ_=>R) (λb2 h=>?_) ?_))
  ·unfold Jr at h
   refine Bj (Adc (Adc (Adc ?_)))
   obtain⟨v3,hv3,h⟩:=Ae h
   obtain⟨v4,hv4,h⟩:=Ae h
   refine An2 [2,5,8,9] [0,1,3,0,8,31,0,127,0,511] [([false,false,false,false],[.box (EL.el a0),.box [Znl,Znl,Ii6 0],.hole,.hole,.hole]),([false,false,true,false],[.box (EL.el a0),.box [Znl,Znl,Ii6 0],.hole,.hole,.box [Znl,Znl,Ii6 0]]),([true,false,false,false],[.box (EL.el a0),.box [Znl,Znl,Ii6 0],.arr 56 1 0 (v3.flatMap (eL eU8)),.hole,.hole]),([true,false,true,false],[.box (EL.el a0),.box [Znl,Znl,Ii6 0],.arr 56 1 0 (v3.flatMap (eL eU8)),.hole,.box [Znl,Znl,Ii6 0]]),([true,true,false,false],[.box (EL.el a0),.box [Znl,Znl,Ii6 0],.arr 56 1 0 (v3.flatMap (eL eU8)),.arr 134 1 0 (v4.flatMap Ay),.hole]),([true,true,true,false],[.box (EL.el a0),.box [Znl,Znl,Ii6 0],.arr 56 1 0 (v3.flatMap (eL eU8)),.arr 134 1 0 (v4.flatMap Ay),.box [Znl,Znl,Ii6 0]]),([true,true,true,true],[.box (EL.el a0),.box [Znl,Znl,Ii6 0],.arr 56 1 0 (v3.flatMap (eL eU8)),.arr 134 1 0 (v4.flatMap Ay),.box [.ls 2 v3.length,.ls 3 v4.length,Ii6 a1]])] (by kernel_rfl) mixed (by kernel_rfl) (by decide) R (by kernel_rfl) R R ?_
   refine A0p R R (Db R (Aa R9 R) (Db R (Aa R9 R) (Ck R (Ck R (Ck R (Ck R (Ck R Hq))))))) (A0p R R (Db R (l1 Xo R R R) (Db R (l1 Xo R R R) (Ck R (Ck R (Ck R (Ck R (Ck R Hq))))))) (mee (x:=L7 (.ls 2 v3.length)) 0 R R ?_ ?_))
   ·refine Db R ⟨_,R,λζ=>?_⟩ ?_
    ·refine Zb (g:=(eL eU8)) (ys:=v3) 2 R A0h (.func _) (Ac R Ag) (Sc hv3) R (λ_=>R) R R R R ?_
     exact U9
    refine Db R ⟨_,R,λζ=>?_⟩ ?_
    ·refine Zb (g:=(eL eU8)) (ys:=v3) 2 R A0h (.func _) (Ac R Ag) (Sc hv3) R (λ_=>R) R R R R ?_
     exact U9
    refine Ck R (Ck R (Ck R (Ck R (Ck R ?_))))
    exact Hq
   refine A0p R R (Db R (Aa Qp R) (Db R (Aa Qp R) (Db R (Aa Qp R) (Db R (Aa Qp R) (Ck R (Ck R (Ck R Hq))))))) (A0p R R (Db R (l1 Aig R R R) (Db R (l1 Aig R R R) (Db R (l1 Aig R R R) (Db R (l1 Aig R R R) (Ck R (Ck R (Ck R Hq))))))) (mee (x:=L7 (.ls 3 v4.length)) 1 R R ?_ ?_))
   ·refine Ck R (Ck R (Db R ⟨_,R,λζ=>?_⟩ ?_))
    ·refine Zb (g:=Ay) (ys:=v4) 3 R Axy (.func _) (Ac R Ag) (R3 hv4) R (λ_=>R) R R R R ?_
     exact U9
    refine Db R ⟨_,R,λζ=>?_⟩ ?_
    ·refine Zb (g:=Ay) (ys:=v4) 3 R Axy (.func _) (Ac R Ag) (R3 hv4) R (λ_=>R) R R R R ?_
     exact U9
    refine Ck R (Ck R (Ck R ?_))
    exact Hq
   refine Ax5 R R (λ_=>Az R) ?_
   refine A0p R R (Ck R (Ck R (Ck R (Ck R (Db R (A2 Aih At5 (Aq R (Aq R (Aq R A0))) (.cons _ _ _ _ _ _ _ R R (Nbl R) (.cons _ _ _ _ _ _ _ R R (Nbl R) (.cons _ _ _ _ _ _ _ R R (Nbl R) (.nil _))))) (Db R (A2 Aih At5 (Aq R (Aq R (Aq R A0))) (.cons _ _ _ _ _ _ _ R R (Nbl R) (.cons _ _ _ _ _ _ _ R R (Nbl R) (.cons _ _ _ _ _ _ _ R R (Nbl R) (.nil _))))) (Ck R Hq))))))) (mee (x:=L7 (.lp 4 0)) 2 R R ?_ ?_)
   ·refine Db R ⟨_,R,λζ=>?_⟩ ?_
    ·refine Oz 4 R Aih R ?_
     exact U9
    refine Ck R (Db R ⟨_,R,λζ=>?_⟩ ?_)
    ·refine Oz 4 R Aih R ?_
     exact U9
    refine Ck R (Db R ⟨_,R,λζ=>?_⟩ ?_)
    ·refine Oz 4 R Aih R ?_
     exact U9
    refine Ck R (Ck R ?_)
    exact Hq
   refine A19 3 R ?_ ?_
   ·refine Ck R (Ck R (Ck R (Ck R (Ck R (Db R ⟨_,R,λζ=>?_⟩ ?_)))))
    ·refine sst Ajm R R R R R (Ql [.box (EL.el a0),.box [Znl,Znl,Ii6 0],.arr 56 1 0 (v3.flatMap (eL eU8)),.arr 134 1 0 (v4.flatMap Ay),.box [.ls 2 v3.length,.ls 3 v4.length,Ii6 a1]] R ?_)
     exact U9
    refine Ck R ?_
    exact Hq
   refine Ayk (Ab (Bj (csr (rm 1 R (sv R (Ap Zh R) (rm 1 R (Ah (cj ((List (List UInt8))×(List Am)×Int) (λb5=>[(6,L7 (.lp 1 0)),(8,L7 (.lp 4 0))]) (λb5=>[.box (EL.el a0),.box [Znl,Znl,Ii6 0],.arr 56 1 0 (b5.1.flatMap (eL eU8)),.arr 134 1 0 (b5.2.1.flatMap Ay),.box [.ls 2 b5.1.length,.ls 3 b5.2.1.length,Ii6 b5.2.2]]) (λb5=>Jz b5=some r) (λ_=>R) (λb5 h=>?_) ?_))))))))
   ·unfold Jz at h
    refine Bj (csr (fl R9 Xo R R R R R R (sv R (H6 Se R R (Aw (f:=(eL eU8)) (λ_=>R) _).symm) ?_)))
    refine sv R (Dr R R) (Ah (ccI h R (λh=>?_) (λh=>?_)))
    ·refine csr (sv R (A2 Aih At5 A0 (.nil _)) (sst Ajm R R R R R (rm 1 R (Ah (Bq (Af ?_))))))
     obtain rfl:=SJ h
     exact dn (Ad (ra Yw R R R) (Ad (rt R) Aj)) (I8 R) R
    ·refine Bf (Ab (csr (ld Yw R R R R (sst Ajm R R R R R (rm 1 R (Ah (Bq ?_)))))))
     obtain rfl:=SJ h
     refine⟨Or.inr R,_,_,_,(Ad (ra Yw R R R) (Ad (rt R) Aj)),(by(repeat' first|exact Ho.nil _|apply Ho.cons|apply Hl.one|apply Hl.agg|exact C5.nil|exact C5.ls _ _ _ _ _ _ R (Aw (f:=(eL eU8)) (λ_=>R) _).symm|exact C5.ls _ _ _ _ _ _ R (Aw (f:=Ay) (λ_=>R) _).symm|exact C5.id _ R|exact Cv.nil _|apply Cv.cons)),?_⟩
     rfl
   ·skip
    refine Bl ?_
    obtain⟨x6,hx6,ho6⟩:=Ae h
    refine lpo (G:=Nat×(Int×(List (List UInt8))×(List Am)×Int)) (λg=>[(6,L7 (.lp 1 0)),(8,L7 (.lp 4 0)),(37,L7 (SL a2 A5)),(38,L7 (Ii6 (a2.length:Int))),(39,L7 (Ii6 g.2.1))]) (λg=>[.box (EL.el a0),.box [Znl,Znl,Ii6 0],.arr 56 1 0 (g.2.2.1.flatMap (eL eU8)),.arr 134 1 0 (g.2.2.2.1.flatMap Ay),.box [.ls 2 g.2.2.1.length,.ls 3 g.2.2.2.1.length,Ii6 g.2.2.2.2]]) (λg=>Cz (E3 a2) g.1 g.2=some x6) (λg=>g.1) (fuel,(0,v3,v4,a1)) hx6 ⟨R,R,R,R,R,trivial⟩ [] R (λ_=>R) ?_
    clear hx6 h
    rintro⟨n6,s6⟩ h
    obtain⟨n6,y6,rfl,h,hk6⟩:=Cw h
    unfold E3 at h
    refine csr (sv R (Bv R R) (Ah (Bj (ccI h R (λh=>?_) (λh=>?_)))))
    ·refine Bf (Ab (Bj (Bl (Bj (Au ?_)))))
     obtain⟨u7,hu7,h⟩:=Ae h
     refine sv R (B4 (f:=A5) Zh (λ_=>R) R R R R hu7) ?_
     refine sv R (Bs (ys:=[SL u7.Key eU8,SL u7.Val eU8,.b u7.Del]) Aij R (.cp _) R R) (Br R Aml (sst Ao8 R R R R R (Ah (Au (ld Yw R R R R (sv R (lo Aij R R R) ?_))))))
     obtain⟨v8,hv8,h⟩:=Ae h
     refine I0 (x':=.s (.agg [.ls 2 v8.2.1.length,.ls 3 v8.2.2.length,Ii6 v8.1])) (M':=[.box (EL.el a0),.box [Znl,Znl,Ii6 0],.arr 56 1 0 (v8.2.1.flatMap (eL eU8)),.arr 134 1 0 (v8.2.2.flatMap Ay),.box [.ls 2 s6.2.1.length,.ls 3 s6.2.2.1.length,Ii6 s6.2.2.2],.box (EL.el u7)]) [2,3] R A3t (.func _) (Ac R (Ac R Ag)) (Zy hv8) R R (by decide) R R R ?_
     refine sst Ajm R R R R R (Jb (Ar (Ab (Au (sv R (Bp R R) (rm 1 R (Ah ?_)))))))
     obtain rfl:=SJ h
     exact⟨(n6,((wI (s6.1+1)),v8.2.1,v8.2.2,v8.1)),_,hk6,⟨R,R,R,R,R,trivial⟩,R,zG _⟩
    ·refine C3 (As (As (Bi (Ab ?_))))
     obtain rfl:=SJ h
     obtain rfl:_=x6:=hk6
     exact⟨(s6.2.1,s6.2.2.1,s6.2.2.2),_,ho6,⟨R,R,trivial⟩,R⟩
  ·skip
   refine Au (rm 1 R (fl M8 ti3 R R R R R R (sv R (Dk R R) (rm 1 R (ssI 24 h R (λh=>?_) (λh=>?_))))))
   ·refine rm 3 R (Ah (Ce R (λ_=>?_) (λhx=>Bool.noConfusion hx)))
    refine csr (sv R (A2 Aih At5 A0 (.nil _)) (sst Ajm R R R R R (rm 1 R (Ah (Bq (Af ?_))))))
    obtain rfl:=SJ h
    exact dn (Ad (ra Yw R R R) (Ad (rt R) Aj)) (I8 R) R
   ·refine rm 1 R (son R R R (sv R (Dr R R) (rm 1 R (Ah (ccI h R (λh=>?_) (λh=>?_))))))
    ·refine csr (sv R (A2 Aih At5 A0 (.nil _)) (sst Ajm R R R R R (rm 1 R (Ah (Bq (Af ?_))))))
     obtain rfl:=SJ h
     exact dn (Ad (ra Yw R R R) (Ad (rt R) Aj)) (I8 R) R
    ·refine Bf (Ab ?_)
     exact⟨(),_,h,⟨R,R,R,R,trivial⟩,R⟩
 ·skip
  refine Au (sv R (lo Yw R R R) ?_)
  obtain⟨v10,hv10,h⟩:=Ae h
  refine Bb R Ax7 (Ac R Ag) (Ao R) (L9 hv10) (sv R (Bz R) (rm 1 R (ssI 14 h R (λh=>?_) (λh=>?_))))
  ·refine rm 4 R (Ah (Ce R (λ_=>?_) (λhx=>Bool.noConfusion hx)))
   refine csr (sv R (A2 Aih At5 A0 (.nil _)) (sst Ajm R R R R R (rm 1 R (Ah (Bq (Af ?_))))))
   obtain rfl:=SJ h
   exact dn (Ad (ra Yw R R R) (Ad (rt R) Aj)) (I8 R) R
  ·refine rm 1 R (son R R R ?_)
   obtain⟨v11,hv11,h⟩:=Ae h
   refine Bb R A3a (Ac R Ag) (Ao R) (Vi hv11) (son R R R (sv R (Bz R) (rm 1 R (Ah (ccI h R (λh=>?_) (λh=>?_))))))
   ·refine csr (sv R (A2 Aih At5 A0 (.nil _)) (sst Ajm R R R R R (rm 1 R (Ah (Bq (Af ?_))))))
    obtain rfl:=SJ h
    exact dn (Ad (ra Yw R R R) (Ad (rt R) Aj)) (I8 R) R
   ·refine Bf (Ab ?_)
    exact⟨(),_,h,⟨R,R,R,R,trivial⟩,R⟩
def Pv (b1:Int):Option Int :=
 some b1
def Gs (a0:Be) (s2:Int×Int):Option (LB (Int×Int) (Int)) :=
 if (decide (s2.2<(a0.Txs.length:Int))) then((idx a0.Txs s2.2).bind λu3=>if (decide (u3.State=1)) then(some (.cont ((if u3.Begin<s2.1 then u3.Begin else s2.1),(wI (s2.2+1))))) else(some (.cont (s2.1,(wI (s2.2+1)))))) else(some (.brk s2.1))
def Ku (a0:Be) (a1:Int):Option Int :=
 (Cz (Gs a0) fuel (a1,0)).bind λe4=>Pv e4
theorem Ul {a0:Be} {a1:Int} {r:Int} (h:Ku a0 a1=some r):Bt Qx0 146 [.agg (EL.el a0),.one (Ii6 a1)] (·=L7 (Ii6 r)):=by
 unfold Ku at h
 refine A1 Tryz.func146 R (nt:=23) R (Nbl R) ?_
 intro w0 S0
 refine csr (Er R R (rm 1 R (Ah (Bj (csr (fl Oy Abz R R R R R R (sv R (Ap R8 R) (rm 1 R (Ah (cj (Int) (λb1=>[(1,L7 (Ii6 b1))]) (λb1=>[.box (EL.el a0)]) (λb1=>Pv b1=some r) (λ_=>R) (λb1 h=>?_) ?_))))))))))
 ·unfold Pv at h
  refine csr (rm 2 R (Ah (Bq ?_)))
  obtain rfl:=SJ h
  exact dnT R R R R
 ·skip
  refine Bl ?_
  obtain⟨x2,hx2,ho2⟩:=Ae h
  refine lpo (G:=Nat×(Int×Int)) (λg=>[(1,L7 (Ii6 g.2.1)),(8,L7 (SL a0.Txs Bc)),(9,L7 (Ii6 (a0.Txs.length:Int))),(10,L7 (Ii6 g.2.2))]) (λg=>[.box (EL.el a0)]) (λg=>Cz (Gs a0) g.1 g.2=some x2) (λg=>g.1) (fuel,(a1,0)) hx2 ⟨R,R,R,R,trivial⟩ [] R (λ_=>R) ?_
  clear hx2 h
  rintro⟨n2,s2⟩ h
  obtain⟨n2,y2,rfl,h,hk2⟩:=Cw h
  unfold Gs at h
  refine csr (sv R (Bv R R) (Ah (Bj (ccI h R (λh=>?_) (λh=>?_)))))
  ·refine Bf (Ab (Bj (Bl (Bj (Au ?_)))))
   obtain⟨u3,hu3,h⟩:=Ae h
   refine sv R (B4 (f:=Bc) R8 (λ_=>R) R R R R hu3) ?_
   refine sv R (Bs (ys:=[Ii6 u3.ID,Ii6 u3.Begin,Ii6 u3.End,Ii6 u3.State,.b u3.In,.b u3.Out,.b u3.RO,SL u3.Keys (eL eU8)]) J8 R (.cp _) R R) (Br R U7 (sst Ub R R R R R (Ah (csr (fl Qb ti3 R R R R R R (sv R (B6 R R) (Ah (ccI h R (λh=>?_) (λh=>?_)))))))))
   ·refine Au (rm 1 R (fl Wk ti3 R R R R R R (sv R (Aj7 R R) (rm 1 R (Jb (Ar (Ab (Au (sv R (Bp R R) (rm 1 R (Ah ?_)))))))))))
    obtain rfl:=SJ h
    exact⟨(n2,((if u3.Begin<s2.1 then u3.Begin else s2.1),(wI (s2.2+1)))),_,hk2,⟨R,R,R,R,trivial⟩,R,zG _⟩
   ·refine Bf (Ar (Ab (Au (sv R (Bp R R) (rm 1 R (Ah ?_))))))
    obtain rfl:=SJ h
    exact⟨(n2,(s2.1,(wI (s2.2+1)))),_,hk2,⟨R,R,R,R,trivial⟩,R,zG _⟩
  ·refine C3 (As (As (Bi (Ab ?_))))
   obtain rfl:=SJ h
   obtain rfl:_=x2:=hk2
   exact⟨s2.1,_,ho2,⟨R,trivial⟩,R⟩
def Oe (a0:Be) (b1:(List Int)):Option Be :=
 (I3 a0 b1).bind λv2=>some v2
def Ia (a0:Be) (s3:Int×(List Int)):Option (LB (Int×(List Int)) ((List Int))) :=
 if (decide (s3.1<(a0.Txs.length:Int))) then((idx a0.Txs s3.1).bind λu4=>if (decide (u4.State=2)) then((Ku a0 u4.End).bind λv5=>if (decide (u4.End<=v5)) then(if (s3.2.length+[u4.ID].length)*8<=140737488355328 then(some (.cont ((wI (s3.1+1)),(s3.2++[u4.ID])))) else none) else(some (.cont ((wI (s3.1+1)),s3.2)))) else(some (.cont ((wI (s3.1+1)),s3.2)))) else(some (.brk s3.2))
def Kd (a0:Be):Option Be :=
 (Cz (Ia a0) fuel (0,([]:List Int))).bind λe7=>Oe a0 e7
theorem Aba {a0:Be} {r:Be} (h:Kd a0=some r):Bt Qx0 144 [.agg (EL.el a0)] (·=.s (.agg (EL.el r))):=by
 unfold Kd at h
 refine A1 Tryz.func144 R (nt:=34) R (Nbl R) ?_
 intro w0 S0
 refine csr (Er R R (Br R Zq (Ah (csr (rm 1 R (Ah (Bj (csr (fl Oy Abz R R R R R R (sv R (Ap R8 R) (rm 1 R (Ah ?_))))))))))))
 refine Dl 3 1 3 (by decide) R ?_
 refine cj ((List Int)) (λb1=>[(1,L7 (.lp 0 0)),(2,L7 (.lp 1 0)),(3,L7 (.ls 2 b1.length))]) (λb1=>[.box (EL.el a0),.box [Znl,Znl],.arr 3 1 0 (b1.flatMap eI)]) (λb1=>Oe a0 b1=some r) (λ_=>R) (λb1 h=>?_) ?_
 ·unfold Oe at h
  refine csr (ld Sx R R R R (sv R (Az R) ?_))
  refine Aif 32 R (by(repeat' first|exact Ho.nil _|apply Ho.cons|apply Hl.one|apply Hl.agg|exact C5.nil|exact C5.ls _ _ _ _ _ _ R (Aw (f:=eI) (λ_=>R) _).symm|exact C5.id _ R|exact Cv.nil _|apply Cv.cons)) ?_
  obtain⟨v2,hv2,h⟩:=Ae h
  refine Bb R Axu (Ac R (Ac R Ag)) (Ao R) (Tu hv2) (sst Z6 R R R R R (Ah (Bq ?_)))
  obtain rfl:=SJ h
  exact dnA R Sx R (.lp _ _ _ R) (Nbl R) R R
 ·skip
  refine Bl ?_
  obtain⟨x3,hx3,ho3⟩:=Ae h
  refine lpo (G:=Nat×(Int×(List Int))) (λg=>[(1,L7 (.lp 0 0)),(2,L7 (.lp 1 0)),(3,L7 (.ls 2 g.2.2.length)),(7,L7 (SL a0.Txs Bc)),(8,L7 (Ii6 (a0.Txs.length:Int))),(9,L7 (Ii6 g.2.1))]) (λg=>[.box (EL.el a0),.box [Znl,Znl],.arr 3 1 0 (g.2.2.flatMap eI)]) (λg=>Cz (Ia a0) g.1 g.2=some x3) (λg=>g.1) (fuel,(0,([]:List Int))) hx3 ⟨R,R,R,R,R,R,trivial⟩ [] R (λ_=>R) ?_
  clear hx3 h
  rintro⟨n3,s3⟩ h
  obtain⟨n3,y3,rfl,h,hk3⟩:=Cw h
  unfold Ia at h
  refine csr (sv R (Bv R R) (Ah (Bj (ccI h R (λh=>?_) (λh=>?_)))))
  ·refine Bf (Ab (Bj (Bl (Bj (Au ?_)))))
   obtain⟨u4,hu4,h⟩:=Ae h
   refine sv R (B4 (f:=Bc) R8 (λ_=>R) R R R R hu4) ?_
   refine sv R (Bs (ys:=[Ii6 u4.ID,Ii6 u4.Begin,Ii6 u4.End,Ii6 u4.State,.b u4.In,.b u4.Out,.b u4.RO,SL u4.Keys (eL eU8)]) J8 R (.cp _) R R) (Br R U7 (sst Ub R R R R R (Ah (Bj ?_))))
   refine Ue mixed (by kernel_rfl) ?_
   refine dv R (Aa Qb R) (dv R (l1 ti3 R R R) (dv R (B6 R R) (dv R (Az R) (Qd 16 R (λhc=>?_) (λhc=>?_)))))
   ·replace h:=Q5 hc h
    clear hc
    refine dvg R R R (lo Sx R R R) (dvg R R R (Aa Rq R) (dvg R R R (l1 ti3 R R R) ?_))
    obtain⟨v5,hv5,h⟩:=Ae h
    refine ddg R R R (Cm Ay3 (Ac R (Ac R Ag)) R (Ul hv5)) (dvg R R R (Aa Rq R) (dvg R R R (l1 ti3 R R R) (dvg R R R (Ii R R) (dv R (Ch R R) (U8 (Ab (ccI h R (λh=>?_) (λh=>?_))))))))
    ·refine Au (rm 1 R (sv R (Aa Vb R) (sv R (l1 ti3 R R R) ?_)))
     refine D7 R Tryz.underlying225 ei3 R R (zI.1 R) (by decide) ?_
     refine Ql [.box (EL.el a0),.box [Znl,Znl],.arr 3 1 0 (s3.2.flatMap eI),.box (EL.el u4),.arr 3 1 0 ([u4.ID].flatMap eI)] R ?_
     obtain⟨hb6,h⟩:=Cs h
     refine U1 (f:=eI) (xs:=s3.2) (us:=[u4.ID]) R Tryz.underlying225 ei3 Aos (λ_=>R) R R (.one _ _ _ _ (.ls _ _ _ _ _ _ R (Aw (f:=eI) (λ_=>R) [u4.ID]).symm)) R R R (.sl _ _ _ (Aw (f:=eI) (λ_=>R) _)) R R hb6 (by decide) ?_
     refine rm 1 R (Jb (Ar (Ab (Au (sv R (Bp R R) (rm 1 R (Ah ?_)))))))
     obtain rfl:=SJ h
     exact⟨(n3,((wI (s3.1+1)),(s3.2++[u4.ID]))),_,hk3,⟨R,R,R,R,R,R,trivial⟩,R,zG _⟩
    ·refine Bf (Ar (Ab (Au (sv R (Bp R R) (rm 1 R (Ah ?_))))))
     obtain rfl:=SJ h
     exact⟨(n3,((wI (s3.1+1)),s3.2)),_,hk3,⟨R,R,R,R,R,R,trivial⟩,R,zG _⟩
   ·replace h:=Qy hc h
    clear hc
    refine C0 R R R R (C0 R R R R (C0 R R R R (C0 R R R R (C0 R R R R (C0 R R R R (C0 R R R R (dv R (Cl R R) (U8 (Ab (Ce R (λhx=>Bool.noConfusion hx) (λ_=>?_)))))))))))
    refine Bf (Ar (Ab (Au (sv R (Bp R R) (rm 1 R (Ah ?_))))))
    obtain rfl:=SJ h
    exact⟨(n3,((wI (s3.1+1)),s3.2)),_,hk3,⟨R,R,R,R,R,R,trivial⟩,R,zG _⟩
  ·refine C3 (As (As (Bi (Ab ?_))))
   obtain rfl:=SJ h
   obtain rfl:_=x3:=hk3
   exact⟨s3.2,_,ho3,⟨R,R,R,trivial⟩,R⟩
def Jf (a0:List A8):Option (List A8) :=
 if (([]:List A8).length+a0.length)*40<=140737488355328 then(some (([]:List A8)++a0)) else none
theorem W7 {a0:List A8} {r:(List A8)} (h:Jf a0=some r):Dw Qx0 258 [] [.one (SL a0 A9)] (λy m'=>y=L7 (.ls 0 r.length)/\m'=[.arr 136 3 0 (r.flatMap A9)]):=by
 unfold Jf at h
 refine Dn Tryz.func258 R (nt:=8) R (Nbl R) ?_
 intro w0 S0 X0 H0
 refine csr (rm 1 R (Ah (Bj (csr (rm 1 R (Afl R Tryz.underlying132 R (λnq hnq=>?_)))))))
 cases nq
 ·skip
  refine Ah (Ce R (λhx=>Bool.noConfusion hx) (λ_=>?_))
  refine Bf (Ab (csr (U2 R Tryz.underlying132 Anv (sv R (Az R) ?_))))
  obtain⟨hb1,h⟩:=Cs h
  refine U1 (f:=A9) (xs:=([]:List A8)) (us:=a0) R Tryz.underlying132 Anv Ayf (λ_=>R) R R (.one _ _ _ _ (.id _ R)) R R R (.sl _ _ _ (Aw (f:=A9) (λ_=>R) _)) R R hb1 (by decide) ?_
  refine rm 1 R (Ah (Bq ?_))
  obtain rfl:=SJ h
  exact⟨Or.inr R,_,[0],[.one (.ls 0 (([]:List A8)++a0).length)],[.arr 136 3 0 ((([]:List A8)++a0).flatMap A9)],(Ad (rt R) Aj),R,R,⟨by decide,R⟩,R,R,⟨R,R⟩⟩
 ·obtain rfl:=zY (hnq rfl)
  replace h:(some ([]:List A8))=some r:=by first|exact h|(rw[if_pos (by decide)] at h;exact h)
  refine Ah (Ce R (λ_=>?_) (λhx=>Bool.noConfusion hx))
  refine csr (rm 1 R (Ah ?_))
  refine Dl 136 3 2 (by decide) R ?_
  refine Bq (Af ?_)
  obtain rfl:=SJ h
  exact⟨Or.inr R,_,[0],[.one (.ls 0 ([]:List A8).length)],[.arr 136 3 0 (([]:List A8).flatMap A9)],(Ad (rt R) Aj),R,R,⟨by decide,R⟩,R,R,⟨R,R⟩⟩
def Fl (a0:Am) (b4:Int):Option Am :=
 (cut a0.L b4 (a0.L.length:Int)).bind λc5=>(Jf c5).bind λv6=>some (Am.mk v6)
def Ke (a0:Am) (v1:Int) (b2:Unit):Option Am :=
 (idx a0.L v1).bind λu3=>if u3.Del then(Fl a0 (wI (v1+1))) else(Fl a0 v1)
def Kv (a0:Am) (a1:Int):Option Am :=
 (Kw a0 a1).bind λv1=>if (decide (v1<0)) then(some (Am.mk a0.L)) else((E9 (Am.mk a0.L)).bind λv7=>if (!v7) then(some (Am.mk a0.L)) else(Ke a0 v1 ()))
theorem X4 {a0:Am} {a1:Int} {r:Am} (h:Kv a0 a1=some r):Bt Qx0 217 [.agg [SL a0.L A9],.one (Ii6 a1)] (·=.s (.agg [SL r.L A9])):=by
 unfold Kv at h
 refine A1 Tryz.func217 R (nt:=31) R (Nbl R) ?_
 intro w0 S0
 refine csr (Er R R (Br R Aat (Ah (csr (ld Qo R R R R (sv R (Az R) ?_))))))
 obtain⟨v1,hv1,h⟩:=Ae h
 refine Bb R Az1 (Ac R (Ac R Ag)) (Ao R) (Uf hv1) (rm 1 R (Ah (Bj (Bj (cj3 (Unit) (λb2=>[(2,L7 (.lp 0 0)),(4,L7 (.lp 1 0)),(5,L7 (Ii6 v1))]) (λb2=>[.box [SL a0.L A9],.box [Znl]]) (λb2=>Ke a0 v1 b2=some r) (λ_=>R) (λb2 h=>?_) ?_)))))
 ·unfold Ke at h
  refine Bj (csr (fl T5 Aa8 R R R R R R (sv R (Az R) ?_)))
  obtain⟨u3,hu3,h⟩:=Ae h
  refine sv R (B4 (f:=A9) W8 (λ_=>R) R R R R hu3) ?_
  refine sv R (Bw Aek R) (sv R (B0 ti4 R (.cp _) R) (Ah (cj (Int) (λb4=>[(2,L7 (.lp 0 0)),(4,L7 (.lp 1 0)),(5,L7 (Ii6 b4))]) (λb4=>[.box [SL a0.L A9],.box [Znl]]) (λb4=>Fl a0 b4=some r) (λ_=>R) (λb4 h=>?_) ?_)))
  ·unfold Fl at h
   refine csr (fl T5 Aa8 R R R R R R (sv R (Az R) ?_))
   obtain⟨c5,hc5,h⟩:=Ae h
   refine sv R (Zn (f:=A9) (lo:=b4) (hi:=(a0.L.length:Int)) W8 (λ_=>R) R R R (Sm R (Wl hc5).1.1) (by exact R) hc5) ?_
   obtain⟨v6,hv6,h⟩:=Ae h
   refine I0 (x':=L7 (.ls 2 v6.length)) (M':=[.box [SL a0.L A9],.box [Znl],.arr 136 3 0 (v6.flatMap A9)]) [] R A2b (.func _) (Ac R Ag) (W7 hv6) R R (by decide) R R R ?_
   refine sv R (A2 Aat Al7 (Aq R A0) (.cons _ _ _ _ _ _ _ R R (Nbl R) (.nil _))) (sst Aaz R R R R R (Ah (Bq ?_)))
   obtain rfl:=SJ h
   refine⟨Or.inr R,_,_,_,(Ad (ra Qo R R R) Aj),(by(repeat' first|exact Ho.nil _|apply Ho.cons|apply Hl.one|apply Hl.agg|exact C5.nil|exact C5.ls _ _ _ _ _ _ R (Aw (f:=A9) (λ_=>R) _).symm|exact C5.id _ R|exact Cv.nil _|apply Cv.cons)),?_⟩
   rfl
  ·skip
   refine ccI h R (λh=>?_) (λh=>?_)
   ·refine Au (rm 1 R (sv R (Bp R R) (rm 1 R (Ah ?_))))
    exact⟨(wI (v1+1)),_,h,⟨R,R,R,trivial⟩,R⟩
   ·refine Bf (Ab ?_)
    exact⟨v1,_,h,⟨R,R,R,trivial⟩,R⟩
 ·skip
  refine Au (rm 1 R (sv R (Bv R R) (rm 1 R (ssI 11 h R (λh=>?_) (λh=>?_)))))
  ·refine rm 4 R (Ah (Ce R (λ_=>?_) (λhx=>Bool.noConfusion hx)))
   refine csr (ld Qo R R R R (sst Aaz R R R R R (Ah (Bq (Af ?_)))))
   obtain rfl:=SJ h
   exact dnA R Qo R (.lp _ _ _ R) (Nbl R) R R
  ·refine son R R R (ld Qo R R R R (son R R R ?_))
   obtain⟨v7,hv7,h⟩:=Ae h
   refine Bb R Awy (Ac R Ag) (Ao R) (Qt hv7) (son R R R (sv R (Bz R) (rm 1 R (Ah (ccI h R (λh=>?_) (λh=>?_))))))
   ·refine csr (ld Qo R R R R (sst Aaz R R R R R (Ah (Bq (Af ?_)))))
    obtain rfl:=SJ h
    exact dnA R Qo R (.lp _ _ _ R) (Nbl R) R R
   ·refine Bf (Ab ?_)
    exact⟨(),_,h,⟨R,R,R,trivial⟩,R⟩
def On (a0:B2) (b2:(List (List UInt8))×(List Am)):Option B2 :=
 some (B2.mk b2.1 b2.2 a0.Ts)
def Hh (a0:B2) (a1:Int) (s3:Int×(List (List UInt8))×(List Am)):Option (LB (Int×(List (List UInt8))×(List Am)) ((List (List UInt8))×(List Am))) :=
 if (decide (s3.1<(a0.Chains.length:Int))) then((idx a0.Chains s3.1).bind λu4=>(Kv u4 (if a0.Ts<a1 then a0.Ts else a1)).bind λv5=>if (decide (0<(v5.L.length:Int))) then((idx a0.Keys s3.1).bind λu6=>if (s3.2.1.length+([u6]:List (List UInt8)).length)*24<=140737488355328 then(if (s3.2.2.length+[v5].length)*24<=140737488355328 then(some (.cont ((wI (s3.1+1)),(s3.2.1++([u6]:List (List UInt8))),(s3.2.2++[v5])))) else none) else none) else(some (.cont ((wI (s3.1+1)),s3.2.1,s3.2.2)))) else(some (.brk (s3.2.1,s3.2.2)))
def Lg (a0:B2) (a1:Int):Option B2 :=
 (Dh a0).bind λv1=>if (!v1) then(some a0) else((Cz (Hh a0 a1) fuel (0,([]:List (List UInt8)),([]:List Am))).bind λe9=>On a0 e9)
theorem Xu {a0:B2} {a1:Int} {r:B2} (h:Lg a0 a1=some r):Bt Qx0 145 [.agg (EL.el a0),.one (Ii6 a1)] (·=.s (.agg (EL.el r))):=by
 unfold Lg at h
 refine A1 Tryz.func145 R (nt:=52) R (Nbl R) ?_
 intro w0 S0
 refine csr (Er R R (Br R Aih (Ah (Bj (csr (sv R (lo Yw R R R) ?_))))))
 obtain⟨v1,hv1,h⟩:=Ae h
 refine Bb R Ax7 (Ac R Ag) (Ao R) (L9 hv1) (sv R (Bz R) (Ah (ccI h R (λh=>?_) (λh=>?_))))
 ·refine csr (ld Yw R R R R (sst Ajm R R R R R (Ah (Bq (Af ?_)))))
  obtain rfl:=SJ h
  exact dnA R Yw R (.lp _ _ _ R) (Nbl R) R R
 ·refine Bf (Ab (csr (fl M8 ti3 R R R R R R (sv R (A2 Aih At5 (Aq R A0) (.cons _ _ _ _ _ _ _ R R (Nbl R) (.nil _))) (Br R Aih (sst Ajm R R R R R (Ah (Bj (csr (fl Qp Aig R R R R R R (sv R (Ap Am3 R) (rm 1 R (Ah ?_)))))))))))))
  refine Ln 56 1 2 0 (by decide) R R ?_
  refine Ln 134 1 2 1 (by decide) R R ?_
  refine cj ((List (List UInt8))×(List Am)) (λb2=>[(4,L7 (.lp 1 0)),(5,L7 (.lp 2 0))]) (λb2=>[.box (EL.el a0),.box [Znl,Znl,Ii6 0],.box [.ls 3 b2.1.length,.ls 4 b2.2.length,Ii6 a0.Ts],.arr 56 1 0 (b2.1.flatMap (eL eU8)),.arr 134 1 0 (b2.2.flatMap Ay)]) (λb2=>On a0 b2=some r) (λ_=>R) (λb2 h=>?_) ?_
  ·unfold On at h
   refine csr (ld Yw R R R R (sst Ajm R R R R R (Ah (Bq ?_))))
   obtain rfl:=SJ h
   refine⟨Or.inr R,_,_,_,(Ad (ra Yw R R R) Aj),(by(repeat' first|exact Ho.nil _|apply Ho.cons|apply Hl.one|apply Hl.agg|exact C5.nil|exact C5.ls _ _ _ _ _ _ R (Aw (f:=(eL eU8)) (λ_=>R) _).symm|exact C5.ls _ _ _ _ _ _ R (Aw (f:=Ay) (λ_=>R) _).symm|exact C5.id _ R|exact Cv.nil _|apply Cv.cons)),?_⟩
   rfl
  ·skip
   refine Bl ?_
   obtain⟨x3,hx3,ho3⟩:=Ae h
   refine lpo (G:=Nat×(Int×(List (List UInt8))×(List Am))) (λg=>[(1,L7 (Ii6 a1)),(2,L7 (.lp 0 0)),(4,L7 (.lp 1 0)),(5,L7 (.lp 2 0)),(17,L7 (SL a0.Chains Ay)),(18,L7 (Ii6 (a0.Chains.length:Int))),(19,L7 (Ii6 g.2.1))]) (λg=>[.box (EL.el a0),.box [Znl,Znl,Ii6 0],.box [.ls 3 g.2.2.1.length,.ls 4 g.2.2.2.length,Ii6 a0.Ts],.arr 56 1 0 (g.2.2.1.flatMap (eL eU8)),.arr 134 1 0 (g.2.2.2.flatMap Ay)]) (λg=>Cz (Hh a0 a1) g.1 g.2=some x3) (λg=>g.1) (fuel,(0,([]:List (List UInt8)),([]:List Am))) hx3 ⟨R,R,R,R,R,R,R,trivial⟩ [] R (λ_=>R) ?_
   clear hx3 h
   rintro⟨n3,s3⟩ h
   obtain⟨n3,y3,rfl,h,hk3⟩:=Cw h
   unfold Hh at h
   refine csr (sv R (Bv R R) (Ah (Bj (ccI h R (λh=>?_) (λh=>?_)))))
   ·refine Bf (Ab (Bj (Bl (csr (sv R (Az R) ?_)))))
    obtain⟨u4,hu4,h⟩:=Ae h
    refine sv R (B4 (f:=Ay) Am3 (λ_=>R) R R R R hu4) ?_
    refine sv R (Bs (ys:=[SL u4.L A9]) Qo R (.cp _) R R) (Br R Aat (rm 1 R (sst Aaz R R R R R (Ah (csr (ld Qo R R R R (rm 1 R (fl M8 ti3 R R R R R R (sv R (Aj7 R R) ?_)))))))))
    obtain⟨v5,hv5,h⟩:=Ae h
    refine Bb R A2q (Ac R (Ac R Ag)) (Ao R) (X4 hv5) (Br R Aat (sst Aaz R R R R R (Ah (csr (fl T5 Aa8 R R R R R R (sv R (Ap W8 R) (sv R (Dr R R) (Ah (ccI h R (λh=>?_) (λh=>?_))))))))))
    ·refine Bj ?_
     obtain⟨u6,hu6,h⟩:=Ae h
     obtain⟨hb7,h⟩:=Cs h
     refine Kb [8,10] [0,1,0,4,0,28,60,124,255,511,1023] [[.box (EL.el a0),.box [Znl,Znl,Ii6 0],.box [.ls 3 s3.2.1.length,.ls 4 s3.2.2.length,Ii6 a0.Ts],.arr 56 1 0 (s3.2.1.flatMap (eL eU8)),.arr 134 1 0 (s3.2.2.flatMap Ay),.box [SL u4.L A9],.box [SL v5.L A9]],[.box (EL.el a0),.box [Znl,Znl,Ii6 0],.box [.ls 3 s3.2.1.length,.ls 4 s3.2.2.length,Ii6 a0.Ts],.arr 56 1 0 ((s3.2.1++([u6]:List (List UInt8))).flatMap (eL eU8)),.arr 134 1 0 (s3.2.2.flatMap Ay),.box [SL u4.L A9],.box [SL v5.L A9]],[.box (EL.el a0),.box [Znl,Znl,Ii6 0],.box [.ls 3 (s3.2.1++([u6]:List (List UInt8))).length,.ls 4 s3.2.2.length,Ii6 a0.Ts],.arr 56 1 0 ((s3.2.1++([u6]:List (List UInt8))).flatMap (eL eU8)),.arr 134 1 0 (s3.2.2.flatMap Ay),.box [SL u4.L A9],.box [SL v5.L A9]]] (by kernel_rfl) mixed (by kernel_rfl) (by decide) R R R R ?_
     refine ev (A6 0 R R) R R (Aa R9 R) (ev (A6 0 R R) R R (l1 Xo R R R) (ev (A6 0 R R) R R (Aa R9 R) (ev (A6 0 R R) R R (l1 Xo R R R) (ev (A6 0 R R) R R (Az R) (ev (A6 0 R R) R R (B4 (f:=(eL eU8)) Se (λ_=>R) R R R R hu6) ?_)))))
     refine ev (A6 0 R R) R R (B0 L3 R (.cp _) R) ?_
     refine ed (A6 0 R R) R R (Zw (out:=([u6]:List (List UInt8)).flatMap (eL eU8)) Tryz.underlying25 Aid (Aq R A0) (.cons _ _ _ _ _ _ _ R R (Nbl R) (.nil _)) R (by decide)) ?_
     refine ee (x:=L7 (.ls 3 (s3.2.1++([u6]:List (List UInt8))).length)) 0 R R R R R (λζ=>?_) ?_
     ·refine U1 (f:=(eL eU8)) (xs:=s3.2.1) (us:=([u6]:List (List UInt8))) R Tryz.underlying25 Aid Av5 (λ_=>R) R R (.one _ _ _ _ (.id _ R)) R R R (.sl _ _ _ (Aw (f:=(eL eU8)) (λ_=>R) _)) R R hb7 (by decide) ?_
      exact U9
     refine ev (A6 1 R R) R R (Aa R9 R) (ee0 1 R R R R (λζ=>?_) ?_)
     ·refine sst A25 R R R R R (Ql [.box (EL.el a0),.box [Znl,Znl,Ii6 0],.box [.ls 3 (s3.2.1++([u6]:List (List UInt8))).length,.ls 4 s3.2.2.length,Ii6 a0.Ts],.arr 56 1 0 ((s3.2.1++([u6]:List (List UInt8))).flatMap (eL eU8)),.arr 134 1 0 (s3.2.2.flatMap Ay),.box [SL u4.L A9],.box [SL v5.L A9]] R ?_)
      exact U9
     refine Adr (Ab (Au (fl Qp Aig R R R R R R (sv R (lo Qo R R R) ?_))))
     refine D7 R Tryz.underlying26 Aju R R (zI.1 R) (by decide) ?_
     refine Ql [.box (EL.el a0),.box [Znl,Znl,Ii6 0],.box [.ls 3 (s3.2.1++([u6]:List (List UInt8))).length,.ls 4 s3.2.2.length,Ii6 a0.Ts],.arr 56 1 0 ((s3.2.1++([u6]:List (List UInt8))).flatMap (eL eU8)),.arr 134 1 0 (s3.2.2.flatMap Ay),.box [SL u4.L A9],.box [SL v5.L A9],.arr 134 1 0 ([v5].flatMap Ay)] R ?_
     obtain⟨hb8,h⟩:=Cs h
     refine U1 (f:=Ay) (xs:=s3.2.2) (us:=[v5]) R Tryz.underlying26 Aju A34 (λ_=>R) R R (.one _ _ _ _ (.ls _ _ _ _ _ _ R (Aw (f:=Ay) (λ_=>R) [v5]).symm)) R R R (.sl _ _ _ (Aw (f:=Ay) (λ_=>R) _)) R R hb8 (by decide) ?_
     refine sv R (Aa Qp R) (sst A4n R R R R R (Jb (Ar (Ab (Au (sv R (Bp R R) (rm 1 R (Ah ?_))))))))
     obtain rfl:=SJ h
     exact⟨(n3,((wI (s3.1+1)),(s3.2.1++([u6]:List (List UInt8))),(s3.2.2++[v5]))),_,hk3,⟨R,R,R,R,R,R,R,trivial⟩,R,zG _⟩
    ·refine Bf (Ar (Ab (Au (sv R (Bp R R) (rm 1 R (Ah ?_))))))
     obtain rfl:=SJ h
     exact⟨(n3,((wI (s3.1+1)),s3.2.1,s3.2.2)),_,hk3,⟨R,R,R,R,R,R,R,trivial⟩,R,zG _⟩
   ·refine C3 (As (As (Bi (Ab ?_))))
    obtain rfl:=SJ h
    obtain rfl:_=x3:=hk3
    exact⟨(s3.2.1,s3.2.2),_,ho3,⟨R,R,trivial⟩,R⟩
def O5 (a0:Ai) (a1:Bg) (a2:Int):Option (Ai×Int) :=
 if (decide (1099511627776<a2)) then(some (Fe,11)) else((Nk a1.Buf).bind λv1=>(Dy a0.Cert a1.ID a2 v1).bind λv2=>if (!decide (v2.2=0)) then(some (Fe,v2.2)) else((G3 a0.Toks a1.Token a1.Attempt a2).bind λv3=>if (!decide (v3.2=0)) then(some (Fe,v3.2)) else((D9 a0.Store a2 a1.Buf.L).bind λv4=>if (!decide (v4.2=0)) then(some (Fe,v4.2)) else((Lc a0 a1.ID).bind λv5=>(Kd v2.1).bind λv6=>(Ku v6 a2).bind λv7=>(Lg v4.1 v7).bind λv8=>some ((Ai.mk v8 v6 v3.1 v5.Open v5.Next),0)))))
theorem Aar {a0:Ai} {a1:Bg} {a2:Int} {r:Ai×Int} (h:O5 a0 a1 a2=some r):Bt Qx0 68 [.agg (EL.el a0),.agg (EL.el a1),.one (Ii6 a2)] (·=.tup [.agg (EL.el r.1),.one (Ii6 r.2)]):=by
 unfold O5 at h
 refine A1 Tryz.func68 R (nt:=78) R (Nbl R) ?_
 intro w0 S0
 refine csr (Er R R (Er R R (Br R Tg (rm 1 R (Ah (Bj (csr (rm 1 R (sv R (Dr R R) (Ah (ccI h R (λh=>?_) (λh=>?_))))))))))))
 ·refine csr (sv R (A2 Tg An3 A0 (.nil _)) (sst Kn R R R R R (rm 1 R (Ah (Bq (Af ?_))))))
  obtain rfl:=SJ h
  exact dn (Ad (ra Dq R R R) (Ad (rt R) Aj)) (I8 R) R
 ·refine Bf (Ab (Bj (Adc ?_)))
  obtain⟨v1,hv1,h⟩:=Ae h
  obtain⟨v2,hv2,h⟩:=Ae h
  refine Kb [12,13] [0,1,0,4,0,0,32,96,255,511,1023,1023,0,6143,16383] [[.box (EL.el a0),.box (EL.el a1),.box Zba,.hole],[.box (EL.el a0),.box (EL.el a1),.box Zba,.box [Znl,Znl]],[.box (EL.el a0),.box (EL.el a1),.box Zba,.box (EL.el v2.1)]] (by kernel_rfl) mixed (by kernel_rfl) (by decide) R R R R ?_
  refine evs (md:=[.box (EL.el a0),.box (EL.el a1),.box Zba,.dead]) (λhS=>ev (B9 hS) R R (Aa R7 R) (ev (B9 hS) R R (lo Sx R R R) (ev (B9 hS) R R (Aa Tv R) (ev (B9 hS) R R (l1 ti3 R R R) (emv R R (λ_=>Az R) ?_))))) ⟨⟨R,⟨R,⟨R,⟨trivial,trivial⟩⟩⟩⟩,⟨⟨R,⟨R,⟨R,⟨trivial,trivial⟩⟩⟩⟩,⟨⟨R,⟨R,⟨R,⟨trivial,trivial⟩⟩⟩⟩,trivial⟩⟩⟩
  refine evs (md:=[.box (EL.el a0),.box (EL.el a1),.box Zba,.dead]) (λhS=>ev (B9 hS) R R (Aa Yr R) (ev (B9 hS) R R (lo Ajb R R R) (ed (B9 hS) R R (Cm A3q (Ac R Ag) R (Aac hv1)) (ed (B9 hS) R R (Cm A09 (Ac R (Ac R (Ac R (Ac R Ag)))) R (Zx hv2)) (emv R R (λ_=>Cf R) ?_))))) ⟨⟨R,⟨R,⟨R,⟨trivial,trivial⟩⟩⟩⟩,⟨⟨R,⟨R,⟨R,⟨trivial,trivial⟩⟩⟩⟩,⟨⟨R,⟨R,⟨R,⟨trivial,trivial⟩⟩⟩⟩,trivial⟩⟩⟩
  refine evs (md:=[.box (EL.el a0),.box (EL.el a1),.box Zba,.dead]) (λhS=>ev (B9 hS) R R (Ak R R) (ev (B9 hS) R R (Ak R R) (ee (x:=L7 (.lp 3 0)) 0 R R R R R (λζ=>?_) ?_))) ⟨⟨R,⟨R,⟨R,⟨trivial,trivial⟩⟩⟩⟩,⟨⟨R,⟨R,⟨R,⟨trivial,trivial⟩⟩⟩⟩,⟨⟨R,⟨R,⟨R,⟨trivial,trivial⟩⟩⟩⟩,trivial⟩⟩⟩
  ·refine Oz 3 R Zq R ?_
   exact U9
  refine ee0 1 R R R R (λζ=>?_) ?_
  ·refine sst Z6 R R R R R (Ql [.box (EL.el a0),.box (EL.el a1),.box Zba,.box (EL.el v2.1)] R ?_)
   exact U9
  refine ev (A6 2 R R) R R (G0 R) (Adr (Ab (Bj (csr (rm 1 R (sv R (Cc R R) (Ah (ccI h R (λh=>?_) (λh=>?_)))))))))
  ·refine csr (sv R (A2 Tg An3 A0 (.nil _)) (rm 1 R (sst Kn R R R R R (rm 1 R (Ah (Bq (Af ?_)))))))
   obtain rfl:=SJ h
   exact dn (Ad (ra Dq R R R) (Ad (rt R) Aj)) (I8 R) R
  ·refine Bf (Ab (csr (sv R (Aa Vl R) (ld P3 R R R R (fl Adw ti3 R R R R R R (fl Ahe ti3 R R R R R R (sv R (Az R) ?_)))))))
   obtain⟨v3,hv3,h⟩:=Ae h
   refine Bb R A1r (Ac R (Ac R (Ac R (Ac R Ag)))) (Ao R) (Xe hv3) (sv R (Cf R) (sv R (Ak R R) (sv R (Ak R R) (Br R X1 (sst Vr R R R R R (rm 1 R (Ah (Bj (csr (rm 1 R (sv R (Cc R R) (Ah (ccI h R (λh=>?_) (λh=>?_))))))))))))))
   ·refine csr (sv R (A2 Tg An3 A0 (.nil _)) (rm 1 R (sst Kn R R R R R (rm 1 R (Ah (Bq (Af ?_)))))))
    obtain rfl:=SJ h
    exact dn (Ad (ra Dq R R R) (Ad (rt R) Aj)) (I8 R) R
   ·refine Bf (Ab (csr (sv R (Aa K5 R) (ld Yw R R R R (rm 1 R (sv R (Aa Yr R) (sv R (Aa Xn R) (sv R (l1 Am4 R R R) ?_))))))))
    obtain⟨v4,hv4,h⟩:=Ae h
    refine Bb R A3x (Ac R (Ac R (Ac R Ag))) (Ao R) (W6 hv4) (sv R (Cf R) (sv R (Ak R R) (sv R (Ak R R) (Br R Aih (sst Ajm R R R R R (rm 1 R (Ah (Bj (csr (rm 1 R (sv R (Cc R R) (Ah (ccI h R (λh=>?_) (λh=>?_))))))))))))))
    ·refine csr (sv R (A2 Tg An3 A0 (.nil _)) (rm 1 R (sst Kn R R R R R (rm 1 R (Ah (Bq (Af ?_)))))))
     obtain rfl:=SJ h
     exact dn (Ad (ra Dq R R R) (Ad (rt R) Aj)) (I8 R) R
    ·refine Bf (Ab (csr (ld Dq R R R R (sv R (Aa Tv R) (sv R (l1 ti3 R R R) ?_)))))
     obtain⟨v5,hv5,h⟩:=Ae h
     refine Bb R A0b (Ac R (Ac R Ag)) (Ao R) (T6 hv5) (Br R Tg (sst Kn R R R R R (Ah (csr (ld P3 R R R R (sv R (Aa Vl R) (sst Vr R R R R R (Ah (csr (sv R (lo Sx R R R) ?_))))))))))
     obtain⟨v6,hv6,h⟩:=Ae h
     refine Bb R A2y (Ac R Ag) (Ao R) (Aba hv6) (sv R (Aa R7 R) (sst Z6 R R R R R (Ah (Bj ?_))))
     obtain⟨v7,hv7,h⟩:=Ae h
     obtain⟨v8,hv8,h⟩:=Ae h
     refine Kb [7] [0,0,2,0,14,31,63,127] [[.box (EL.el a0),.box (EL.el a1),.box Zba,.box (EL.el v2.1),.box [SL v3.1.L Al],.box (EL.el v4.1),.box (EL.el {v5 with Cert:=v6,Toks:=v3.1})],[.box (EL.el a0),.box (EL.el a1),.box Zba,.box (EL.el v2.1),.box [SL v3.1.L Al],.box (EL.el v4.1),.box [SL v8.Keys (eL eU8),SL v8.Chains Ay,Ii6 v8.Ts,SL v6.Txs Bc,SL v6.Reads.L Ax,SL v3.1.L Al,SL v5.Open Bu,Ii6 v5.Next]]] (by kernel_rfl) mixed (by kernel_rfl) (by decide) R R R R ?_
     refine ev (A6 0 R R) R R (lo Yw R R R) (ev (A6 0 R R) R R (Aa R7 R) (ev (A6 0 R R) R R (lo Sx R R R) (ev (A6 0 R R) R R (Az R) (ed (A6 0 R R) R R (Cm Ay3 (Ac R (Ac R Ag)) R (Ul hv7)) (ed (A6 0 R R) R R (Cm A2j (Ac R (Ac R Ag)) R (Xu hv8)) (ev (A6 0 R R) R R (Aa K5 R) (ee0 0 R R R R (λζ=>?_) ?_)))))))
     ·refine sst Ajm R R R R R (Ql [.box (EL.el a0),.box (EL.el a1),.box Zba,.box (EL.el v2.1),.box [SL v3.1.L Al],.box (EL.el v4.1),.box [SL v8.Keys (eL eU8),SL v8.Chains Ay,Ii6 v8.Ts,SL v6.Txs Bc,SL v6.Reads.L Ax,SL v3.1.L Al,SL v5.Open Bu,Ii6 v5.Next]] R ?_)
      exact U9
     refine Adr (Ab (csr (ld Dq R R R R (sst Kn R R R R R (rm 1 R (Ah (Bq ?_)))))))
     obtain rfl:=SJ h
     exact dn (Ad (ra Dq R R R) (Ad (rt R) Aj)) (Ao R) R
def J6 (a0:Ai) (a1:Int):Option (Ai×Int×Int) :=
 (Hu a0 a1).bind λv1=>if (!decide (v1.2=0)) then((Dx a0 v1.2).bind λv2=>some (v2,0,v1.2)) else((O5 a0 v1.1 (wI (a0.Store.Ts+1))).bind λv3=>if (!decide (v3.2=0)) then((C9 a0 v1.1).bind λv4=>some (v4,0,v3.2)) else(some (v3.1,(wI (a0.Store.Ts+1)),0)))
theorem Rz {a0:Ai} {a1:Int} {r:Ai×Int×Int} (h:J6 a0 a1=some r):Bt Qx0 27 [.agg (EL.el a0),.one (Ii6 a1)] (·=.tup [.agg (EL.el r.1),.one (Ii6 r.2.1),.one (Ii6 r.2.2)]):=by
 unfold J6 at h
 refine A1 Tryz.func27 R (nt:=42) R (Nbl R) ?_
 intro w0 S0
 refine csr (Er R R (Br R Tg (rm 2 R (Ah (csr (ld Dq R R R R (sv R (Az R) ?_)))))))
 obtain⟨v1,hv1,h⟩:=Ae h
 refine Bb R Axw (Ac R (Ac R Ag)) (Ao R) (O4 hv1) (sv R (Cf R) (sv R (Ak R R) (sv R (Ak R R) (Br R Ad7 (sst Adv R R R R R (rm 1 R (Ah (Bj (csr (rm 1 R (sv R (Cc R R) (Ah (ccI h R (λh=>?_) (λh=>?_))))))))))))))
 ·refine csr (ld Dq R R R R (sv R (Az R) ?_))
  obtain⟨v2,hv2,h⟩:=Ae h
  refine Bb R Awb (Ac R (Ac R Ag)) (Ao R) (J9 hv2) (rm 1 R (sst Kn R R R R R (rm 2 R (Ah (Bq (Af ?_))))))
  obtain rfl:=SJ h
  exact dn (Ad (ra Dq R R R) (Ad (rt R) (Ad (rt R) Aj))) (Ao R) R
 ·refine Bf (Ab (csr (sv R (Aa K5 R) (fl M8 ti3 R R R R R R (sv R (Bp R R) (rm 1 R (Ah (csr (ld Dq R R R R (ld Zc R R R R (sv R (Az R) ?_)))))))))))
  obtain⟨v3,hv3,h⟩:=Ae h
  refine Bb R A6v (Ac R (Ac R (Ac R Ag))) (Ao R) (Aar hv3) (sv R (Cf R) (sv R (Ak R R) (sv R (Ak R R) (Br R Tg (sst Kn R R R R R (rm 1 R (Ah (Bj (csr (rm 1 R (sv R (Cc R R) (Ah (ccI h R (λh=>?_) (λh=>?_))))))))))))))
  ·refine csr (ld Dq R R R R (sv R (lo Zc R R R) ?_))
   obtain⟨v4,hv4,h⟩:=Ae h
   refine Bb R Aw7 (Ac R (Ac R Ag)) (Ao R) (I4 hv4) (rm 1 R (sst Kn R R R R R (rm 2 R (Ah (Bq (Af ?_))))))
   obtain rfl:=SJ h
   exact dn (Ad (ra Dq R R R) (Ad (rt R) (Ad (rt R) Aj))) (Ao R) R
  ·refine Bf (Ab (csr (ld Dq R R R R (rm 1 R (sst Kn R R R R R (rm 2 R (Ah (Bq ?_))))))))
   obtain rfl:=SJ h
   exact dn (Ad (ra Dq R R R) (Ad (rt R) (Ad (rt R) Aj))) (Ao R) R
def Tp  : Option Bool :=
 (L5 Fe 1 1 false).bind λv1=>(L5 v1.1 2 1 false).bind λv2=>(Pg v2.1 v1.2.1 [(UInt8.ofBitVec (120#8))]).bind λv3=>(Pg v3.1 v2.2.1 [(UInt8.ofBitVec (121#8))]).bind λv4=>(Pb v4.1 v1.2.1 (A7.mk [(UInt8.ofBitVec (121#8))] ([]:List UInt8) false)).bind λv5=>(Pb v5.1 v2.2.1 (A7.mk [(UInt8.ofBitVec (120#8))] ([]:List UInt8) false)).bind λv6=>(J6 v6.1 v1.2.1).bind λv7=>(J6 v7.1 v2.2.1).bind λv8=>if (decide (v1.2.2=0)) then(if (decide (v2.2.2=0)) then(if (!v3.2.2.1) then(if (decide (v7.2.2=0)) then(if (decide (v7.2.1=1)) then(if (decide (v8.2.2=10)) then(if (decide ((v8.1.Open.length:Int)=0)) then((Hv v8.1).bind λv9=>some v9) else(some false)) else(some false)) else(some false)) else(some false)) else(some false)) else(some false)) else(some false)
theorem Adq  {r:Bool} (h:Tp=some r):Bt Qx0 9 [] (·=L7 (.b r)):=by
 unfold Tp at h
 refine A1 Tryz.func9 R (nt:=109) R (Nbl R) ?_
 intro w0 S0
 refine csr (rm 1 R (Ah (csr (sv R (A2 Tg An3 A0 (.nil _)) ?_))))
 obtain⟨v1,hv1,h⟩:=Ae h
 refine Bb R A3k (Ac R (Ac R (Ac R (Ac R Ag)))) (I8 R) (Sv hv1) (sv R (Cf R) (sv R (Ak R R) (sv R (Ak R R) (sv R (Ak R R) (Br R Tg (sst Kn R R R R R (rm 2 R (Ah (csr (sv R (lo Dq R R R) ?_))))))))))
 obtain⟨v2,hv2,h⟩:=Ae h
 refine Bb R A3k (Ac R (Ac R (Ac R (Ac R Ag)))) (Ao R) (Sv hv2) (sv R (Cf R) (sv R (Ak R R) (sv R (Ak R R) (sv R (Ak R R) (sst Kn R R R R R (rm 2 R (Ah (csr (ld Dq R R R R (sv R (Az R) ?_))))))))))
 refine D7 R Tryz.underlying56 ei5 R R (zI.1 R) (by decide) ?_
 refine Ql [.box (EL.el v2.1),.arr 5 1 0 ([(UInt8.ofBitVec (120#8))].flatMap eU8)] R ?_
 refine Abc R Tryz.underlying56 Tryz.underlying5 R R (Aw (f:=eU8) (λ_=>R) [(UInt8.ofBitVec (120#8))]).symm (by decide) ?_
 obtain⟨v3,hv3,h⟩:=Ae h
 refine Bb R A35 (Ac R (Ac R (Ac R Ag))) (Ao R) (U6 hv3) (sv R (Cf R) (sv R (Ak R R) (sv R (Ak R R) (sv R (Ak R R) (sv R (Ak R R) (sst Kn R R R R R (rm 3 R (Ah (csr (ld Dq R R R R (sv R (Az R) ?_)))))))))))
 refine D7 R Tryz.underlying56 ei5 R R (zI.1 R) (by decide) ?_
 refine Ql [.box (EL.el v3.1),.dead,.arr 5 1 0 ([(UInt8.ofBitVec (121#8))].flatMap eU8)] R ?_
 refine Abc R Tryz.underlying56 Tryz.underlying5 R R (Aw (f:=eU8) (λ_=>R) [(UInt8.ofBitVec (121#8))]).symm (by decide) ?_
 obtain⟨v4,hv4,h⟩:=Ae h
 refine Bb R A35 (Ac R (Ac R (Ac R Ag))) (Ao R) (U6 hv4) (sv R (Cf R) (sv R (Ak R R) (sv R (Ak R R) (sv R (Ak R R) (sv R (Ak R R) (sst Kn R R R R R (Ah (csr (ld Dq R R R R (sv R (Az R) ?_))))))))))
 refine D7 R Tryz.underlying56 ei5 R R (zI.1 R) (by decide) ?_
 refine Ql [.box (EL.el v4.1),.dead,.dead,.arr 5 1 0 ([(UInt8.ofBitVec (121#8))].flatMap eU8)] R ?_
 refine Abc R Tryz.underlying56 Tryz.underlying5 R R (Aw (f:=eU8) (λ_=>R) [(UInt8.ofBitVec (121#8))]).symm (by decide) ?_
 refine sv R (A2 Aml A02 (Aq R A0) (.cons _ _ _ _ _ _ _ R R (Nbl R) (.nil _))) ?_
 obtain⟨v5,hv5,h⟩:=Ae h
 refine Bb R A37 (Ac R (Ac R (Ac R Ag))) (I8 R) (Va hv5) (sv R (Cf R) (sv R (Ak R R) (sv R (Ak R R) (sst Kn R R R R R (Ah (csr (ld Dq R R R R (sv R (Az R) ?_))))))))
 refine D7 R Tryz.underlying56 ei5 R R (zI.1 R) (by decide) ?_
 refine Ql [.box (EL.el v5.1),.dead,.dead,.dead,.arr 5 1 0 ([(UInt8.ofBitVec (120#8))].flatMap eU8)] R ?_
 refine Abc R Tryz.underlying56 Tryz.underlying5 R R (Aw (f:=eU8) (λ_=>R) [(UInt8.ofBitVec (120#8))]).symm (by decide) ?_
 refine sv R (A2 Aml A02 (Aq R A0) (.cons _ _ _ _ _ _ _ R R (Nbl R) (.nil _))) ?_
 obtain⟨v6,hv6,h⟩:=Ae h
 refine Bb R A37 (Ac R (Ac R (Ac R Ag))) (I8 R) (Va hv6) (sv R (Cf R) (sv R (Ak R R) (sv R (Ak R R) (sst Kn R R R R R (Ah (csr (ld Dq R R R R (sv R (Az R) ?_))))))))
 obtain⟨v7,hv7,h⟩:=Ae h
 refine Bb R A2e (Ac R (Ac R Ag)) (Ao R) (Rz hv7) (sv R (Cf R) (sv R (Ak R R) (sv R (Ak R R) (sv R (Ak R R) (sst Kn R R R R R (rm 2 R (Ah (csr (ld Dq R R R R (sv R (Az R) ?_))))))))))
 obtain⟨v8,hv8,h⟩:=Ae h
 refine Bb R A2e (Ac R (Ac R Ag)) (Ao R) (Rz hv8) (sv R (Cf R) (sv R (Ak R R) (sv R (Ak R R) (sv R (Ak R R) (sst Kn R R R R R (rm 2 R (Ah (csr (rm 1 R (sv R (B6 R R) (rm 1 R (ssI 79 h R (λh=>?_) (λh=>?_)))))))))))))
 ·refine rm 1 R (son R R R (sv R (B6 R R) (rm 2 R (ssI 83 h R (λh=>?_) (λh=>?_)))))
  ·refine rm 1 R (son R R R (sv R (Bz R) (rm 2 R (ssI 87 h R (λh=>?_) (λh=>?_)))))
   ·refine rm 1 R (son R R R (sv R (B6 R R) (rm 2 R (ssI 91 h R (λh=>?_) (λh=>?_)))))
    ·refine rm 1 R (son R R R (sv R (B6 R R) (rm 2 R (ssI 95 h R (λh=>?_) (λh=>?_)))))
     ·refine rm 1 R (son R R R (sv R (B6 R R) (rm 2 R (ssI 99 h R (λh=>?_) (λh=>?_)))))
      ·refine son R R R (sv R (Aa Td R) (son R R R (sv R (l1 Ai9 R R R) (son R R R (sv R (Ap Aay R) (son R R R (sv R (B6 R R) (rm 2 R (ssI 105 h R (λh=>?_) (λh=>?_))))))))))
       ·refine son R R R (ld Dq R R R R (son R R R ?_))
        obtain⟨v9,hv9,h⟩:=Ae h
        refine Bb R Axf (Ac R Ag) (Ao R) (Mh hv9) (rm 2 R (Ah (Bq ?_)))
        obtain rfl:=SJ h
        exact dnT R R R R
       ·refine rm 4 R (Ah (Bq ?_))
        obtain rfl:=SJ h
        exact dnT R R R R
      ·refine rm 10 R (Ah (Bq ?_))
       obtain rfl:=SJ h
       exact dnT R R R R
     ·refine rm 14 R (Ah (Bq ?_))
      obtain rfl:=SJ h
      exact dnT R R R R
    ·refine rm 18 R (Ah (Bq ?_))
     obtain rfl:=SJ h
     exact dnT R R R R
   ·refine rm 22 R (Ah (Bq ?_))
    obtain rfl:=SJ h
    exact dnT R R R R
  ·refine rm 26 R (Ah (Bq ?_))
   obtain rfl:=SJ h
   exact dnT R R R R
 ·refine rm 30 R (Ah (Bq ?_))
  obtain rfl:=SJ h
  exact dnT R R R R
def Pq (a0:Bh):Option Bool :=
 if (decide ((a0.Lo.length:Int)<=100)) then(some (decide ((a0.Hi.length:Int)<=100))) else(some false)
theorem Ac0 {a0:Bh} {r:Bool} (h:Pq a0=some r):Bt Qx0 29 [.agg (EL.el a0)] (·=L7 (.b r)):=by
 unfold Pq at h
 refine A1 Tryz.func29 R (nt:=13) R (Nbl R) ?_
 intro w0 S0
 refine csr (Er R R (rm 1 R (Ah (csr (fl Aai L3 R R R R R R (sv R (Ap Aa5 R) (sv R (Dk R R) (rm 1 R (ssI 7 h R (λh=>?_) (λh=>?_))))))))))
 ·refine son R R R (sv R (Aa Xh R) (son R R R (sv R (l1 L3 R R R) (son R R R (sv R (Ap Aa5 R) (son R R R (sv R (Dk R R) (rm 2 R (Ah (Bq ?_))))))))))
  obtain rfl:=SJ h
  exact dnT R R R R
 ·refine rm 6 R (Ah (Bq ?_))
  obtain rfl:=SJ h
  exact dnT R R R R
def Rw (b1:Unit):Option Bool :=
 some true
def Mf (a0:List Eo) (s2:Int):Option (LR (Int) (Unit) (Bool)) :=
 if (decide (s2<(a0.length:Int))) then((idx a0 s2).bind λu3=>(Pq u3.Rng).bind λv4=>if (!v4) then(some (.ret false)) else((idx a0 s2).bind λu5=>if (decide (50<(u5.Key.length:Int))) then(some (.ret false)) else((idx a0 s2).bind λu6=>if (decide (100<(u6.Val.length:Int))) then(some (.ret false)) else(some (.cont (wI (s2+1))))))) else(some (.brk ()))
def N4 (a0:List Eo):Option Bool :=
 if (decide (80<(a0.length:Int))) then(some false) else((Iz (Mf a0) fuel 0).bind λx=>match x with | .inl r=>some r | .inr e7=>Rw e7)
theorem Wf {a0:List Eo} {r:Bool} (h:N4 a0=some r):Bt Qx0 10 [.one (SL a0 Dp)] (·=L7 (.b r)):=by
 unfold N4 at h
 refine A1 Tryz.func10 R (nt:=38) R (Nbl R) ?_
 intro w0 S0
 refine csr (rm 1 R (Ah (Bj (csr (rm 1 R (sv R (Ap Ala R) (sv R (Dr R R) (Ah (ccI h R (λh=>?_) (λh=>?_))))))))))
 ·refine csr (rm 1 R (Ah (Bq (Af ?_))))
  obtain rfl:=SJ h
  exact dnT R R R R
 ·refine Bf (Ab (Bj (csr (rm 1 R (Ah (cj (Unit) (λb1=>[]) (λb1=>[]) (λb1=>Rw b1=some r) (λ_=>R) (λb1 h=>?_) ?_))))))
  ·unfold Rw at h
   refine csr (rm 1 R (Ah (Bq ?_)))
   obtain rfl:=SJ h
   exact dnT R R R R
  ·skip
   refine Bl ?_
   obtain⟨x2,hx2,ho2⟩:=Ae h
   refine lpo (G:=Nat×(Int)) (λg=>[(0,L7 (SL a0 Dp)),(3,L7 (Ii6 g.2))]) (λg=>[]) (λg=>Iz (Mf a0) g.1 g.2=some x2) (λg=>g.1) (fuel,0) hx2 ⟨R,R,trivial⟩ [] R (λ_=>R) ?_
   clear hx2 h
   rintro⟨n2,s2⟩ h
   obtain⟨n2,y2,rfl,h,hk2⟩:=Dj h
   unfold Mf at h
   refine Bj (csr (rm 2 R (sv R (Ap Ala R) (sv R (Bv R R) (Ah (ccI h R (λh=>?_) (λh=>?_)))))))
   ·refine Bf (Ab (Bj (Bl (csr (rm 1 R (sv R (Az R) ?_))))))
    obtain⟨u3,hu3,h⟩:=Ae h
    refine sv R (B4 (f:=Dp) Ala (λ_=>R) R R R R hu3) ?_
    refine sv R (Bw Aup R) (sv R (Bs (ys:=[SL u3.Rng.Lo eU8,SL u3.Rng.Hi eU8,.b u3.Rng.Open]) Ac4 R (.cp _) R R) ?_)
    obtain⟨v4,hv4,h⟩:=Ae h
    refine Bb R A5s (Ac R Ag) (Ao R) (Ac0 hv4) (sv R (Bz R) (rm 1 R (ssI 20 h R (λh=>?_) (λh=>?_))))
    ·refine rm 17 R (Ah (Ce R (λ_=>?_) (λhx=>Bool.noConfusion hx)))
     refine csr (rm 1 R (Ah (Bq (Av (Af (Af (Av (Af ?_))))))))
     obtain rfl:=SJ h
     obtain rfl:Sum.inl _=x2:=hk2
     replace ho2:some _=some _:=ho2
     obtain rfl:=zD ho2
     exact dnT R R R R
    ·refine rm 2 R (son R R R ?_)
     obtain⟨u5,hu5,h⟩:=Ae h
     refine sv R (B4 (f:=Dp) Ala (λ_=>R) R R R R hu5) ?_
     refine son R R R (sv R (Bw Aph R) (son R R R (sv R (B0 L3 R (.cp _) R) (son R R R (sv R (Ap Aa5 R) (son R R R (sv R (Dr R R) (rm 2 R (ssI 29 h R (λh=>?_) (λh=>?_))))))))))
     ·refine rm 8 R (Ah (Ce R (λ_=>?_) (λhx=>Bool.noConfusion hx)))
      refine csr (rm 1 R (Ah (Bq (Av (Af (Af (Av (Af ?_))))))))
      obtain rfl:=SJ h
      obtain rfl:Sum.inl _=x2:=hk2
      replace ho2:some _=some _:=ho2
      obtain rfl:=zD ho2
      exact dnT R R R R
     ·refine rm 2 R (son R R R ?_)
      obtain⟨u6,hu6,h⟩:=Ae h
      refine sv R (B4 (f:=Dp) Ala (λ_=>R) R R R R hu6) ?_
      refine son R R R (sv R (Bw At3 R) (son R R R (sv R (B0 L3 R (.cp _) R) (son R R R (sv R (Ap Aa5 R) (son R R R (sv R (Dr R R) (rm 1 R (Ah (ccI h R (λh=>?_) (λh=>?_)))))))))))
      ·refine csr (rm 1 R (Ah (Bq (Av (Af (Af (Av (Af ?_))))))))
       obtain rfl:=SJ h
       obtain rfl:Sum.inl _=x2:=hk2
       replace ho2:some _=some _:=ho2
       obtain rfl:=zD ho2
       exact dnT R R R R
      ·refine Bf (Ar (Ab (Au (rm 1 R (sv R (Bp R R) (rm 1 R (Ah ?_)))))))
       obtain rfl:=SJ h
       exact⟨(n2,(wI (s2+1))),_,hk2,⟨R,R,trivial⟩,R,zG _⟩
   ·refine C3 (As (As (Bi (Ab ?_))))
    obtain rfl:=SJ h
    obtain rfl:_=x2:=hk2
    exact⟨(),_,ho2,trivial,R⟩
def Qs (b2:(List B8)):Option (List B8) :=
 some b2
def Ks (a0:B2) (a1:Bh) (a2:Int) (a3:Int) (s3:Int×(List B8)):Option (LB (Int×(List B8)) ((List B8))) :=
 if (decide (s3.1<(a0.Keys.length:Int))) then((idx a0.Keys s3.1).bind λu4=>if (decide (a3<=(s3.2.length:Int))) then(some (.brk s3.2)) else((Hp a1 u4).bind λv5=>if (!v5) then(some (.cont ((wI (s3.1+1)),s3.2))) else((idx a0.Chains s3.1).bind λu6=>(Ih u6 a2).bind λv7=>if v7.2 then(if (s3.2.length+[(B8.mk u4 v7.1)].length)*48<=140737488355328 then(some (.cont ((wI (s3.1+1)),(s3.2++[(B8.mk u4 v7.1)])))) else none) else(some (.cont ((wI (s3.1+1)),s3.2)))))) else(some (.brk s3.2))
def Hw (a0:B2) (a1:Bh) (a2:Int) (a3:Int):Option (List B8) :=
 (Dh a0).bind λv1=>if (!v1) then(some ([]:List B8)) else((Cz (Ks a0 a1 a2 a3) fuel (0,([]:List B8))).bind λe9=>Qs e9)
theorem Vn {a0:B2} {a1:Bh} {a2:Int} {a3:Int} {r:(List B8)} (h:Hw a0 a1 a2 a3=some r):Bt Qx0 54 [.agg (EL.el a0),.agg (EL.el a1),.one (Ii6 a2),.one (Ii6 a3)] (·=L7 (SL r Ca)):=by
 unfold Hw at h
 refine A1 Tryz.func54 R (nt:=54) R (Nbl R) ?_
 intro w0 S0
 refine csr (Er R R (Er R R (rm 1 R (Ah ?_))))
 refine Azp (λ_ _ h=>by rcases h with⟨h|h,_⟩ <;> cases h) ?_
 refine Bj (csr (sv R (lo Yw R R R) ?_))
 obtain⟨v1,hv1,h⟩:=Ae h
 refine Bb R Ax7 (Ac R Ag) (Ao R) (L9 hv1) (sv R (Bz R) (Ah (ccI h R (λh=>?_) (λh=>?_))))
 ·refine csr (rm 1 R (Ah (Bq (Af ?_))))
  obtain rfl:=SJ h
  exact dn (Ad (rt R) Aj) (I8 R) R
 ·refine Bf (Ab (csr (rm 1 R (Ah (Bj (Ayw (Ab (Bj (csr (fl R9 Xo R R R R R R (sv R (Ap Se R) (rm 1 R (Ah ?_)))))))))))))
  refine Dl 157 2 9 (by decide) R ?_
  refine cj ((List B8)) (λb2=>[(9,L7 (.ls 2 b2.length))]) (λb2=>[.box (EL.el a0),.box (EL.el a1),.arr 157 2 0 (b2.flatMap Ca)]) (λb2=>Qs b2=some r) (λ_=>R) (λb2 h=>?_) ?_
  ·unfold Qs at h
   refine csr (rm 2 R (Ah (Bq ?_)))
   obtain rfl:=SJ h
   refine⟨Or.inr R,_,_,_,(Ad (rt R) Aj),(by(repeat' first|exact Ho.nil _|apply Ho.cons|apply Hl.one|apply Hl.agg|exact C5.nil|exact C5.ls _ _ _ _ _ _ R (Aw (f:=Ca) (λ_=>R) _).symm|exact C5.id _ R|exact Cv.nil _|apply Cv.cons)),?_⟩
   rfl
  ·skip
   refine Bl ?_
   obtain⟨x3,hx3,ho3⟩:=Ae h
   refine lpo (G:=Nat×(Int×(List B8))) (λg=>[(2,L7 (Ii6 a2)),(3,L7 (Ii6 a3)),(4,L7 (.lp 0 0)),(5,L7 (.lp 1 0)),(9,L7 (.ls 2 g.2.2.length)),(18,L7 (SL a0.Keys (eL eU8))),(19,L7 (Ii6 (a0.Keys.length:Int))),(20,L7 (Ii6 g.2.1))]) (λg=>[.box (EL.el a0),.box (EL.el a1),.arr 157 2 0 (g.2.2.flatMap Ca)]) (λg=>Cz (Ks a0 a1 a2 a3) g.1 g.2=some x3) (λg=>g.1) (fuel,(0,([]:List B8))) hx3 ⟨R,R,R,R,R,R,R,R,trivial⟩ [] R (λ_=>R) ?_
   clear hx3 h
   rintro⟨n3,s3⟩ h
   obtain⟨n3,y3,rfl,h,hk3⟩:=Cw h
   unfold Ks at h
   refine csr (sv R (Bv R R) (Ah (Bj (ccI h R (λh=>?_) (λh=>?_)))))
   ·refine Bf (Ab (Bj (Bl (csr (sv R (Az R) ?_)))))
    obtain⟨u4,hu4,h⟩:=Ae h
    refine sv R (B4 (f:=(eL eU8)) Se (λ_=>R) R R R R hu4) ?_
    refine sv R (B0 L3 R (.cp _) R) (rm 2 R (Ah (Bj (Bl (csr (rm 1 R (sv R (H6 Aky R R (Aw (f:=Ca) (λ_=>R) _).symm) ?_)))))))
    refine rm 1 R (sv R (Ii R R) (rm 1 R (Ah (ccI h R (λh=>?_) (λh=>?_)))))
    ·refine C3 (Ze R (As (Ze R (As (As (Bi (Ab ?_)))))))
     obtain rfl:=SJ h
     obtain rfl:_=x3:=hk3
     exact⟨s3.2,_,ho3,⟨R,trivial⟩,R⟩
    ·refine csr (ld Ac4 R R R R (sv R (Az R) ?_))
     obtain⟨v5,hv5,h⟩:=Ae h
     refine Bb R Aoi (Ac R (Ac R Ag)) (Ao R) (N0 hv5) (sv R (Bz R) (rm 1 R (Ah (ccI h R (λh=>?_) (λh=>?_)))))
     ·refine C3 (Ze R (As (Bi (Ab (Au (sv R (Bp R R) (rm 1 R (Ah ?_))))))))
      obtain rfl:=SJ h
      exact⟨(n3,((wI (s3.1+1)),s3.2)),_,hk3,⟨R,R,R,R,R,R,R,R,trivial⟩,R,zG _⟩
     ·refine Bf (Ar (Ab (csr (fl Qp Aig R R R R R R (sv R (Az R) ?_)))))
      obtain⟨u6,hu6,h⟩:=Ae h
      refine sv R (B4 (f:=Ay) Am3 (λ_=>R) R R R R hu6) ?_
      refine sv R (Bs (ys:=[SL u6.L A9]) Qo R (.cp _) R R) (sv R (Az R) ?_)
      obtain⟨v7,hv7,h⟩:=Ae h
      refine Bb R A4l (Ac R (Ac R Ag)) (Ao R) (Ui hv7) (sv R (Cf R) (sv R (Ak R R) (sv R (Ak R R) (rm 2 R (Ah (csr (rm 1 R (Ah (ccI h R (λh=>?_) (λh=>?_))))))))))
      ·refine Au (rm 3 R (sv R (A2 Ang Ayl (Aq R (Aq R A0)) (.cons _ _ _ _ _ _ _ R R (Nbl R) (.cons _ _ _ _ _ _ _ R R (Nbl R) (.nil _)))) ?_))
       refine D7 R Tryz.underlying61 Aq8 R R (zI.1 R) (by decide) ?_
       refine Ql [.box (EL.el a0),.box (EL.el a1),.arr 157 2 0 (s3.2.flatMap Ca),.arr 157 2 0 ([(B8.mk u4 v7.1)].flatMap Ca)] R ?_
       obtain⟨hb8,h⟩:=Cs h
       refine U1 (f:=Ca) (xs:=s3.2) (us:=[(B8.mk u4 v7.1)]) R Tryz.underlying61 Aq8 A4o (λ_=>R) R R (.one _ _ _ _ (.ls _ _ _ _ _ _ R (Aw (f:=Ca) (λ_=>R) [(B8.mk u4 v7.1)]).symm)) R R R (.sl _ _ _ (Aw (f:=Ca) (λ_=>R) _)) R R hb8 (by decide) ?_
       refine rm 1 R (Jb (Ar (Ab (Au (sv R (Bp R R) (rm 1 R (Ah ?_)))))))
       obtain rfl:=SJ h
       exact⟨(n3,((wI (s3.1+1)),(s3.2++[(B8.mk u4 v7.1)]))),_,hk3,⟨R,R,R,R,R,R,R,R,trivial⟩,R,zG _⟩
      ·refine Bf (Ar (Ab (Au (sv R (Bp R R) (rm 1 R (Ah ?_))))))
       obtain rfl:=SJ h
       exact⟨(n3,((wI (s3.1+1)),s3.2)),_,hk3,⟨R,R,R,R,R,R,R,R,trivial⟩,R,zG _⟩
   ·refine C3 (As (As (Bi (Ab ?_))))
    obtain rfl:=SJ h
    obtain rfl:_=x3:=hk3
    exact⟨s3.2,_,ho3,⟨R,trivial⟩,R⟩
def Pn (a0:Ai) (a2:Bh) (a3:Int) (v1:Bg×Int) (b3:Unit):Option (Ai×(List B8)×Int) :=
 (Lp a0 v1.1 a2).bind λv4=>if (!decide (v4.2=0)) then(some (v4.1,([]:List B8),v4.2)) else((Hw v4.1.Store a2 v1.1.Snap 128).bind λv5=>(Gd v1.1.Buf v5 a2 a3).bind λv6=>some (v4.1,v6,0))
def Rb (a0:Ai) (a1:Int) (a2:Bh) (a3:Int):Option (Ai×(List B8)×Int) :=
 (Hu a0 a1).bind λv1=>if (!decide (v1.2=0)) then((Dx a0 v1.2).bind λv2=>some (v2,([]:List B8),v1.2)) else((E6 a2).bind λv7=>if (!v7) then(some (a0,([]:List B8),1)) else((Hs a2).bind λv8=>if v8 then(some (a0,([]:List B8),1)) else(Pn a0 a2 a3 v1 ())))
theorem Ac9 {a0:Ai} {a1:Int} {a2:Bh} {a3:Int} {r:Ai×(List B8)×Int} (h:Rb a0 a1 a2 a3=some r):Bt Qx0 30 [.agg (EL.el a0),.one (Ii6 a1),.agg (EL.el a2),.one (Ii6 a3)] (·=.tup [.agg (EL.el r.1),.one (SL r.2.1 Ca),.one (Ii6 r.2.2)]):=by
 unfold Rb at h
 refine A1 Tryz.func30 R (nt:=58) R (Nbl R) ?_
 intro w0 S0
 refine csr (Er R R (Er R R (Br R Tg (rm 2 R (Ah (csr (ld Dq R R R R (sv R (Az R) ?_))))))))
 obtain⟨v1,hv1,h⟩:=Ae h
 refine Bb R Axw (Ac R (Ac R Ag)) (Ao R) (O4 hv1) (sv R (Cf R) (sv R (Ak R R) (sv R (Ak R R) (Br R Ad7 (sst Adv R R R R R (rm 1 R (Ah (Bj (csr (rm 1 R (sv R (Cc R R) (Ah (ccI h R (λh=>?_) (λh=>?_))))))))))))))
 ·refine csr (ld Dq R R R R (sv R (Az R) ?_))
  obtain⟨v2,hv2,h⟩:=Ae h
  refine Bb R Awb (Ac R (Ac R Ag)) (Ao R) (J9 hv2) (rm 1 R (sst Kn R R R R R (rm 2 R (Ah (Bq (Af ?_))))))
  obtain rfl:=SJ h
  exact dn (Ad (ra Dq R R R) (Ad (rt R) (Ad (rt R) Aj))) (I8 R) R
 ·refine Bf (Ab (Bj (Bj (cj3 (Unit) (λb3=>[(3,L7 (Ii6 a3)),(4,L7 (.lp 0 0)),(6,L7 (.lp 1 0)),(8,L7 (.lp 2 0)),(11,L7 (.lp 3 0))]) (λb3=>[.box (EL.el a0),.box (EL.el a2),.box Zba,.box (EL.el v1.1)]) (λb3=>Pn a0 a2 a3 v1 b3=some r) (λ_=>R) (λb3 h=>?_) ?_))))
  ·unfold Pn at h
   refine csr (ld Dq R R R R (ld Zc R R R R (sv R (lo Ac4 R R R) ?_)))
   obtain⟨v4,hv4,h⟩:=Ae h
   refine Bb R A47 (Ac R (Ac R (Ac R Ag))) (Ao R) (Xl hv4) (sv R (Cf R) (sv R (Ak R R) (sv R (Ak R R) (sst Kn R R R R R (rm 1 R (Ah (Bj (csr (rm 1 R (sv R (Cc R R) (Ah (ccI h R (λh=>?_) (λh=>?_)))))))))))))
   ·refine csr (ld Dq R R R R (rm 1 R (sst Kn R R R R R (rm 2 R (Ah (Bq (Af ?_)))))))
    obtain rfl:=SJ h
    exact dn (Ad (ra Dq R R R) (Ad (rt R) (Ad (rt R) Aj))) (I8 R) R
   ·refine Bf (Ab (csr (sv R (Aa K5 R) (ld Yw R R R R (ld Ac4 R R R R (sv R (Aa Afr R) (sv R (l1 ti3 R R R) ?_)))))))
    obtain⟨v5,hv5,h⟩:=Ae h
    refine Bb R A44 (Ac R (Ac R (Ac R (Ac R Ag)))) (Ao R) (Vn hv5) (rm 1 R (Ah (Bj ?_)))
    obtain⟨v6,hv6,h⟩:=Ae h
    refine Kb [7] [0,0,2,0,0,0,62,127,255,511] [[.box (EL.el v4.1),.box (EL.el a2),.box Zba,.box (EL.el v1.1)],[.box (EL.el v4.1),.box (EL.el a2),.box (EL.el v4.1),.box (EL.el v1.1)]] (by kernel_rfl) mixed (by kernel_rfl) (by decide) R R R R ?_
    refine ev (A6 0 R R) R R (lo Dq R R R) (ev (A6 0 R R) R R (Aa Yr R) (ev (A6 0 R R) R R (lo Ajb R R R) (ev (A6 0 R R) R R (Az R) (ev (A6 0 R R) R R (lo Ac4 R R R) (ev (A6 0 R R) R R (Az R) (ed (A6 0 R R) R R (Cm A51 (Ac R (Ac R (Ac R (Ac R Ag)))) R (Zj hv6)) (ee0 0 R R R R (λζ=>?_) ?_)))))))
    ·refine sst Kn R R R R R (Ql [.box (EL.el v4.1),.box (EL.el a2),.box (EL.el v4.1),.box (EL.el v1.1)] R ?_)
     exact U9
    refine ev (A6 1 R R) R R (G0 R) (ev (A6 1 R R) R R (G0 R) (Adr (Ab (Bq ?_))))
    obtain rfl:=SJ h
    exact dn (Ad (ra Dq R R R) (Ad (rt R) (Ad (rt R) Aj))) (Ao R) R
  ·skip
   refine Au (sv R (lo Ac4 R R R) ?_)
   obtain⟨v7,hv7,h⟩:=Ae h
   refine Bb R A46 (Ac R Ag) (Ao R) (R1 hv7) (sv R (Bz R) (rm 1 R (ssI 29 h R (λh=>?_) (λh=>?_))))
   ·refine rm 3 R (Ah (Ce R (λ_=>?_) (λhx=>Bool.noConfusion hx)))
    refine csr (ld Dq R R R R (sst Kn R R R R R (rm 2 R (Ah (Bq (Af ?_))))))
    obtain rfl:=SJ h
    exact dn (Ad (ra Dq R R R) (Ad (rt R) (Ad (rt R) Aj))) (I8 R) R
   ·refine son R R R (ld Ac4 R R R R (son R R R ?_))
    obtain⟨v8,hv8,h⟩:=Ae h
    refine Bb R A4x (Ac R Ag) (Ao R) (Vm hv8) (rm 1 R (Ah (ccI h R (λh=>?_) (λh=>?_))))
    ·refine csr (ld Dq R R R R (sst Kn R R R R R (rm 2 R (Ah (Bq (Af ?_))))))
     obtain rfl:=SJ h
     exact dn (Ad (ra Dq R R R) (Ad (rt R) (Ad (rt R) Aj))) (I8 R) R
    ·refine Bf (Ab ?_)
     exact⟨(),_,h,⟨R,R,R,R,R,trivial⟩,R⟩
def Qg (a0:Ai) (a1:Int):Option (Ai×Int) :=
 (Hu a0 a1).bind λv1=>if (!decide (v1.2=0)) then((Dx a0 v1.2).bind λv2=>some (v2,v1.2)) else((C9 a0 v1.1).bind λv3=>some (v3,0))
theorem Acw {a0:Ai} {a1:Int} {r:Ai×Int} (h:Qg a0 a1=some r):Bt Qx0 26 [.agg (EL.el a0),.one (Ii6 a1)] (·=.tup [.agg (EL.el r.1),.one (Ii6 r.2)]):=by
 unfold Qg at h
 refine A1 Tryz.func26 R (nt:=23) R (Nbl R) ?_
 intro w0 S0
 refine csr (Er R R (Br R Tg (rm 1 R (Ah (csr (ld Dq R R R R (sv R (Az R) ?_)))))))
 obtain⟨v1,hv1,h⟩:=Ae h
 refine Bb R Axw (Ac R (Ac R Ag)) (Ao R) (O4 hv1) (sv R (Cf R) (sv R (Ak R R) (sv R (Ak R R) (Br R Ad7 (sst Adv R R R R R (rm 1 R (Ah (Bj (csr (rm 1 R (sv R (Cc R R) (Ah (ccI h R (λh=>?_) (λh=>?_))))))))))))))
 ·refine csr (ld Dq R R R R (sv R (Az R) ?_))
  obtain⟨v2,hv2,h⟩:=Ae h
  refine Bb R Awb (Ac R (Ac R Ag)) (Ao R) (J9 hv2) (rm 1 R (sst Kn R R R R R (rm 1 R (Ah (Bq (Af ?_))))))
  obtain rfl:=SJ h
  exact dn (Ad (ra Dq R R R) (Ad (rt R) Aj)) (Ao R) R
 ·refine Bf (Ab (csr (ld Dq R R R R (sv R (lo Zc R R R) ?_))))
  obtain⟨v3,hv3,h⟩:=Ae h
  refine Bb R Aw7 (Ac R (Ac R Ag)) (Ao R) (I4 hv3) (sst Kn R R R R R (rm 1 R (Ah (Bq ?_))))
  obtain rfl:=SJ h
  exact dn (Ad (ra Dq R R R) (Ad (rt R) Aj)) (Ao R) R
def Fx (v2:Bn×Int×Int) (b6:Ai):Option (Ai×Int×Int) :=
 some (b6,v2.2.1,0)
def O0 (a0:Ai) (a1:Int) (a2:Int):Option (Ai×Int×Int) :=
 (Hv a0).bind λv1=>if (!v1) then(some (Fe,0,1)) else((C7 a0.Toks a1 a2).bind λv2=>if (!decide (v2.2.2=0)) then((Dx a0 v2.2.2).bind λv3=>some (v3,0,v2.2.2)) else((E8 v2.1 a1).bind λv4=>(La ({a0 with Toks:=v2.1}) a1).bind λv5=>if v5.2 then(if (decide (v4.1.State=3)) then(if (decide (v5.1.Attempt<=v4.1.Attempt)) then((C9 ({a0 with Toks:=v2.1}) v5.1).bind λv7=>Fx v2 v7) else(Fx v2 ({a0 with Toks:=v2.1}))) else(Fx v2 ({a0 with Toks:=v2.1}))) else(Fx v2 ({a0 with Toks:=v2.1}))))
theorem Aav {a0:Ai} {a1:Int} {a2:Int} {r:Ai×Int×Int} (h:O0 a0 a1 a2=some r):Bt Qx0 31 [.agg (EL.el a0),.one (Ii6 a1),.one (Ii6 a2)] (·=.tup [.agg (EL.el r.1),.one (Ii6 r.2.1),.one (Ii6 r.2.2)]):=by
 unfold O0 at h
 refine A1 Tryz.func31 R (nt:=67) R (Nbl R) ?_
 intro w0 S0
 refine csr (Er R R (Br R Tg (rm 2 R (Ah (Bj (csr (sv R (lo Dq R R R) ?_)))))))
 obtain⟨v1,hv1,h⟩:=Ae h
 refine Bb R Axf (Ac R Ag) (Ao R) (Mh hv1) (sv R (Bz R) (Ah (ccI h R (λh=>?_) (λh=>?_))))
 ·refine csr (sv R (A2 Tg An3 A0 (.nil _)) (sst Kn R R R R R (rm 2 R (Ah (Bq (Af ?_))))))
  obtain rfl:=SJ h
  exact dn (Ad (ra Dq R R R) (Ad (rt R) (Ad (rt R) Aj))) (I8 R) R
 ·refine Bf (Ab (csr (sv R (Aa Vl R) (ld P3 R R R R (rm 1 R (sv R (Az R) ?_))))))
  obtain⟨v2,hv2,h⟩:=Ae h
  refine Bb R A4m (Ac R (Ac R (Ac R Ag))) (Ao R) (Tw hv2) (sv R (Cf R) (sv R (Ak R R) (sv R (Ak R R) (sv R (Ak R R) (Br R X1 (sst Vr R R R R R (rm 2 R (Ah (Bj (csr (rm 1 R (sv R (Cc R R) (Ah (ccI h R (λh=>?_) (λh=>?_)))))))))))))))
  ·refine csr (ld Dq R R R R (sv R (Az R) ?_))
   obtain⟨v3,hv3,h⟩:=Ae h
   refine Bb R Awb (Ac R (Ac R Ag)) (Ao R) (J9 hv3) (rm 1 R (sst Kn R R R R R (rm 2 R (Ah (Bq (Af ?_))))))
   obtain rfl:=SJ h
   exact dn (Ad (ra Dq R R R) (Ad (rt R) (Ad (rt R) Aj))) (Ao R) R
  ·refine Bf (Ab (csr (ld P3 R R R R (sv R (Aa Vl R) (sst Vr R R R R R (Ah (csr (ld P3 R R R R (sv R (Az R) ?_)))))))))
   obtain⟨v4,hv4,h⟩:=Ae h
   refine Bb R Azv (Ac R (Ac R Ag)) (Ao R) (Li hv4) (sv R (Cf R) (sv R (Ak R R) (sv R (Ak R R) (Br R W5 (sst Ab6 R R R R R (rm 1 R (Ah (Bj (csr (ld Dq R R R R (sv R (Az R) ?_)))))))))))
   obtain⟨v5,hv5,h⟩:=Ae h
   refine Bb R A4t (Ac R (Ac R Ag)) (Ao R) (T7 hv5) (sv R (Cf R) (sv R (Ak R R) (sv R (Ak R R) (Br R Ad7 (sst Adv R R R R R (rm 1 R (Ah (Bj (cj3 (Ai) (λb6=>[(3,L7 (.lp 0 0)),(6,L7 (.lp 1 0)),(10,L7 (Ii6 v2.2.1))]) (λb6=>[.box (EL.el b6),.box Zba,.box [SL v2.1.L Al],.box (EL.el v4.1),.box (EL.el v5.1)]) (λb6=>Fx v2 b6=some r) (λ_=>R) (λb6 h=>?_) ?_)))))))))
   ·unfold Fx at h
    refine csr (ld Dq R R R R (rm 1 R (sst Kn R R R R R (rm 2 R (Ah (Bq ?_))))))
    obtain rfl:=SJ h
    exact dn (Ad (ra Dq R R R) (Ad (rt R) (Ad (rt R) Aj))) (Ao R) R
   ·skip
    refine Au (rm 2 R (ssI 50 h R (λh=>?_) (λh=>?_)))
    ·refine son R R R (sv R (Aa Wj R) (son R R R (sv R (l1 ti3 R R R) (son R R R (sv R (B6 R R) (rm 2 R (ssI 55 h R (λh=>?_) (λh=>?_))))))))
     ·refine son R R R (sv R (Aa Ahe R) (son R R R (sv R (l1 ti3 R R R) (son R R R (sv R (Aa V0 R) (son R R R (sv R (l1 ti3 R R R) (son R R R (sv R (Dk R R) (rm 1 R (Ah (ccI h R (λh=>?_) (λh=>?_)))))))))))))
      ·refine Au (ld Dq R R R R (sv R (lo Zc R R R) ?_))
       obtain⟨v7,hv7,h⟩:=Ae h
       refine Bb R Aw7 (Ac R (Ac R Ag)) (Ao R) (I4 hv7) (sst Kn R R R R R (Ah ?_))
       exact⟨v7,_,h,⟨R,R,R,trivial⟩,R⟩
      ·refine Bf (Ab ?_)
       exact⟨{a0 with Toks:=v2.1},_,h,⟨R,R,R,trivial⟩,R⟩
     ·refine rm 6 R (Ah (Ce R (λhx=>Bool.noConfusion hx) (λ_=>?_)))
      refine Bf (Ab ?_)
      exact⟨{a0 with Toks:=v2.1},_,h,⟨R,R,R,trivial⟩,R⟩
    ·refine rm 11 R (Ah (Ce R (λhx=>Bool.noConfusion hx) (λ_=>?_)))
     refine Bf (Ab ?_)
     exact⟨{a0 with Toks:=v2.1},_,h,⟨R,R,R,trivial⟩,R⟩
def Km (a0:Int) (b1:Unit):Option (List Ba) :=
 if (decide (0<(wI (a0-(wI (0-0)))))) then(if 0<(wI (a0-(wI (0-0))))/\(wI (a0-(wI (0-0))))*((32:Nat):Int)<=281474976710656 then(if (0:Int)<=0/\0<=((List.replicate (wI (a0-(wI (0-0)))).toNat (Ba.mk 0 0 0 0)).length:Int) then(some ((List.replicate (wI (a0-(wI (0-0)))).toNat (Ba.mk 0 0 0 0)).take (0:Int).toNat)) else none) else none) else(some ([]:List Ba))
def Lh (a0:Int):Option (List Ba) :=
 if (decide (a0<0)) then none else(Km a0 ())
theorem Ym {a0:Int} {r:(List Ba)} (h:Lh a0=some r):Dw Qx0 220 [] [.one (Znl),.one (Ii6 a0)] (λy m'=>y=L7 (.ls 0 r.length)/\m'=[.arr 145 4 0 (r.flatMap Al)]):=by
 unfold Lh at h
 refine Dn Tryz.func220 R (nt:=27) R (Nbl R) ?_
 intro w0 S0 X0 H0
 refine csr (rm 1 R (Ah (Bj (csr (rm 1 R (sv R (Bv R R) (Ah (cj (Unit) (λb1=>[(0,L7 (Znl)),(1,L7 (Ii6 a0))]) (λb1=>[]) (λb1=>Km a0 b1=some r) (λ_=>R) (λb1 h=>?_) ?_))))))))
 ·unfold Km at h
  refine Bj (csr (rm 2 R (sv R (G9 Adi R) (rm 1 R (sv R (F5 Adi R) (sv R (Ph R R) (sv R (Ph R R) (rm 1 R (Ah (csr (rm 1 R (sv R (Dr R R) (Ah (ccI h R (λh=>?_) (λh=>?_)))))))))))))))
  ·refine Au (rm 2 R (sv R (G9 Adi R) (sv R (Oh Adi R R) (sv R (Az R) ?_))))
   obtain⟨hm2,h⟩:=Cs h
   refine Axj (f:=Al) (z:=(Ba.mk 0 0 0 0)) R Tryz.underlying35 Amc Tryz.underlying3 (λ_=>R) R R R hm2 (by decide) ?_
   refine rm 1 R (sv R (F5 Adi R) ?_)
   obtain⟨hs3,h⟩:=Cs h
   refine Aei (f:=Al) R Adi (λ_=>R) R R R R R hs3 ?_
   refine rm 1 R (Ah (csr (rm 2 R (Ah (Bq ?_)))))
   obtain rfl:=SJ h
   exact⟨Or.inr R,_,[1],[.one (.ls 0 ((List.replicate (wI (a0-(wI (0-0)))).toNat (Ba.mk 0 0 0 0)).take (0:Int).toNat).length)],[.arr 145 4 0 (((List.replicate (wI (a0-(wI (0-0)))).toNat (Ba.mk 0 0 0 0)).take (0:Int).toNat).flatMap Al)],(Ad (rt R) Aj),R,R,⟨by decide,R⟩,R,R,⟨R,R⟩⟩
  ·refine Bf (Ab (csr (rm 2 R (Ah ?_))))
   refine Dl 145 4 4 (by decide) R ?_
   refine Bq ?_
   obtain rfl:=SJ h
   exact⟨Or.inr R,_,[0],[.one (.ls 0 ([]:List Ba).length)],[.arr 145 4 0 (([]:List Ba).flatMap Al)],(Ad (rt R) Aj),R,R,⟨by decide,R⟩,R,R,⟨R,R⟩⟩
 ·skip
  refine ccI h R (λh=>?_) (λh=>?_)
  ·cases h
  ·refine Bf (Ab ?_)
   exact⟨(),_,h,⟨R,R,trivial⟩,R⟩
def Np (b3:(List Ba)):Option (List Ba) :=
 some b3
def Eu (a0:List (List Ba)) (s4:Int×(List Ba)):Option (LB (Int×(List Ba)) ((List Ba))) :=
 if (decide (s4.1<(a0.length:Int))) then((idx a0 s4.1).bind λu5=>if (s4.2.length+u5.length)*32<=140737488355328 then(some (.cont ((wI (s4.1+1)),(s4.2++u5)))) else none) else(some (.brk s4.2))
def J2 (a0:List (List Ba)) (b1:Int):Option (List Ba) :=
 (Lh b1).bind λv2=>(Cz (Eu a0) fuel (0,v2)).bind λe7=>Np e7
def E1 (a0:List (List Ba)) (s8:Int×Int):Option (LB (Int×Int) (Int)) :=
 if (decide (s8.2<(a0.length:Int))) then((idx a0 s8.2).bind λu9=>if (decide ((wI (s8.1+(u9.length:Int)))<0)) then none else(some (.cont ((wI (s8.1+(u9.length:Int))),(wI (s8.2+1)))))) else(some (.brk s8.1))
def Je (a0:List (List Ba)):Option (List Ba) :=
 (Cz (E1 a0) fuel (0,0)).bind λe10=>J2 a0 e10
theorem W4 {a0:List (List Ba)} {r:(List Ba)} (h:Je a0=some r):Bt Qx0 151 [.one (SL a0 (eL Al))] (·=L7 (SL r Al)):=by
 unfold Je at h
 refine A1 Tryz.func151 R (nt:=36) R (Nbl R) ?_
 intro w0 S0
 refine csr (rm 1 R (Ah (csr (rm 1 R (Ah (Bj (csr (rm 1 R (sv R (Ap As9 R) (rm 1 R (Ah (cj (Int) (λb1=>[(0,L7 (SL a0 (eL Al))),(3,L7 (Ii6 b1))]) (λb1=>[]) (λb1=>J2 a0 b1=some r) (λ_=>R) (λb1 h=>?_) ?_))))))))))))
 ·unfold J2 at h
  refine csr (sv R (Az R) ?_)
  obtain⟨v2,hv2,h⟩:=Ae h
  refine I0 (x':=L7 (.ls 0 v2.length)) (M':=[.arr 145 4 0 (v2.flatMap Al)]) [] R A38 (.func _) (Ac R (Ac R Ag)) (Ym hv2) R R (by decide) R R R ?_
  refine rm 1 R (Ah (Bj (csr (rm 1 R (sv R (Ap As9 R) (rm 1 R (Ah (cj ((List Ba)) (λb3=>[(6,L7 (.ls 0 b3.length))]) (λb3=>[.arr 145 4 0 (b3.flatMap Al)]) (λb3=>Np b3=some r) (λ_=>R) (λb3 h=>?_) ?_))))))))
  ·unfold Np at h
   refine csr (rm 2 R (Ah (Bq ?_)))
   obtain rfl:=SJ h
   refine⟨Or.inr R,_,_,_,(Ad (rt R) Aj),(by(repeat' first|exact Ho.nil _|apply Ho.cons|apply Hl.one|apply Hl.agg|exact C5.nil|exact C5.ls _ _ _ _ _ _ R (Aw (f:=Al) (λ_=>R) _).symm|exact C5.id _ R|exact Cv.nil _|apply Cv.cons)),?_⟩
   rfl
  ·skip
   refine Bl ?_
   obtain⟨x4,hx4,ho4⟩:=Ae h
   refine lpo (G:=Nat×(Int×(List Ba))) (λg=>[(6,L7 (.ls 0 g.2.2.length)),(25,L7 (SL a0 (eL Al))),(26,L7 (Ii6 (a0.length:Int))),(27,L7 (Ii6 g.2.1))]) (λg=>[.arr 145 4 0 (g.2.2.flatMap Al)]) (λg=>Cz (Eu a0) g.1 g.2=some x4) (λg=>g.1) (fuel,(0,v2)) hx4 ⟨R,R,R,R,trivial⟩ [] R (λ_=>R) ?_
   clear hx4 h
   rintro⟨n4,s4⟩ h
   obtain⟨n4,y4,rfl,h,hk4⟩:=Cw h
   unfold Eu at h
   refine csr (sv R (Bv R R) (Ah (Bj (ccI h R (λh=>?_) (λh=>?_)))))
   ·refine Bf (Ab (Bj (Bl (Bj (Au ?_)))))
    obtain⟨u5,hu5,h⟩:=Ae h
    refine sv R (B4 (f:=(eL Al)) As9 (λ_=>R) R R R R hu5) ?_
    refine sv R (B0 Amj R (.cp _) R) (rm 1 R (Ah (Au (rm 1 R (sv R (Az R) ?_)))))
    obtain⟨hb6,h⟩:=Cs h
    refine U1 (f:=Al) (xs:=s4.2) (us:=u5) R Tryz.underlying35 Amc A04 (λ_=>R) R R (.one _ _ _ _ (.id _ R)) R R R (.sl _ _ _ (Aw (f:=Al) (λ_=>R) _)) R R hb6 (by decide) ?_
    refine rm 1 R (Jb (Ar (Ab (Au (sv R (Bp R R) (rm 1 R (Ah ?_)))))))
    obtain rfl:=SJ h
    exact⟨(n4,((wI (s4.1+1)),(s4.2++u5))),_,hk4,⟨R,R,R,R,trivial⟩,R,zG _⟩
   ·refine C3 (As (As (Bi (Ab ?_))))
    obtain rfl:=SJ h
    obtain rfl:_=x4:=hk4
    exact⟨s4.2,_,ho4,⟨R,trivial⟩,R⟩
 ·skip
  refine Bl ?_
  obtain⟨x8,hx8,ho8⟩:=Ae h
  refine lpo (G:=Nat×(Int×Int)) (λg=>[(0,L7 (SL a0 (eL Al))),(3,L7 (Ii6 g.2.1)),(9,L7 (SL a0 (eL Al))),(10,L7 (Ii6 (a0.length:Int))),(11,L7 (Ii6 g.2.2))]) (λg=>[]) (λg=>Cz (E1 a0) g.1 g.2=some x8) (λg=>g.1) (fuel,(0,0)) hx8 ⟨R,R,R,R,R,trivial⟩ [] R (λ_=>R) ?_
  clear hx8 h
  rintro⟨n8,s8⟩ h
  obtain⟨n8,y8,rfl,h,hk8⟩:=Cw h
  unfold E1 at h
  refine csr (sv R (Bv R R) (Ah (Bj (ccI h R (λh=>?_) (λh=>?_)))))
  ·refine Bf (Ab (Bj (Bl (Bj (Au ?_)))))
   obtain⟨u9,hu9,h⟩:=Ae h
   refine sv R (B4 (f:=(eL Al)) As9 (λ_=>R) R R R R hu9) ?_
   refine sv R (B0 Amj R (.cp _) R) (rm 1 R (Ah (csr (rm 2 R (sv R (Ap Adi R) (sv R (Bp R R) (rm 1 R (Ah (csr (rm 1 R (sv R (Bv R R) (Ah (ccI h R (λh=>?_) (λh=>?_))))))))))))))
   ·cases h
   ·refine Bf (Ar (Ab (Au (sv R (Bp R R) (rm 1 R (Ah ?_))))))
    obtain rfl:=SJ h
    exact⟨(n8,((wI (s8.1+(u9.length:Int))),(wI (s8.2+1)))),_,hk8,⟨R,R,R,R,R,trivial⟩,R,zG _⟩
  ·refine C3 (As (As (Bi (Ab ?_))))
   obtain rfl:=SJ h
   obtain rfl:_=x8:=hk8
   exact⟨s8.1,_,ho8,⟨R,R,trivial⟩,R⟩
def Jm (a0:Bn) (a1:Int) (b1:Unit):Option (Bn×Int) :=
 (E8 a0 a1).bind λv2=>if (!v2.2) then(some (Cx,6)) else(if (decide (v2.1.State=1)) then(some (Cx,7)) else((Ez a0 a1).bind λv3=>(cut a0.L 0 v3).bind λc4=>(cut a0.L (wI (v3+1)) (a0.L.length:Int)).bind λc5=>(Je ([c4,c5]:List (List Ba))).bind λv6=>some ((Bn.mk v6),0)))
def G2 (a0:Bn) (a1:Int):Option (Bn×Int) :=
 (De a0).bind λv7=>if (!v7) then(some (Cx,1)) else((Cy a1 0).bind λv8=>if (!v8) then(some (Cx,1)) else(Jm a0 a1 ()))
theorem Xd {a0:Bn} {a1:Int} {r:Bn×Int} (h:G2 a0 a1=some r):Bt Qx0 75 [.agg [SL a0.L Al],.one (Ii6 a1)] (·=.tup [.agg [SL r.1.L Al],.one (Ii6 r.2)]):=by
 unfold G2 at h
 refine A1 Tryz.func75 R (nt:=48) R (Nbl R) ?_
 intro w0 S0
 refine csr (Er R R (Br R X1 (rm 1 R (Ah (Bj (Bj (cj3 (Unit) (λb1=>[(1,L7 (Ii6 a1)),(2,L7 (.lp 0 0)),(4,L7 (.lp 1 0))]) (λb1=>[.box [SL a0.L Al],.box [Znl]]) (λb1=>Jm a0 a1 b1=some r) (λ_=>R) (λb1 h=>?_) ?_)))))))
 ·unfold Jm at h
  refine csr (ld P3 R R R R (sv R (Az R) ?_))
  obtain⟨v2,hv2,h⟩:=Ae h
  refine Bb R Azv (Ac R (Ac R Ag)) (Ao R) (Li hv2) (sv R (Cf R) (sv R (Ak R R) (sv R (Ak R R) (Br R W5 (sst Ab6 R R R R R (rm 1 R (Ah (Bj (Bl (csr (rm 1 R (sv R (Bz R) (rm 1 R (Ah (ccI h R (λh=>?_) (λh=>?_))))))))))))))))
  ·refine csr (sv R (A2 X1 Aec A0 (.nil _)) (sst Vr R R R R R (rm 1 R (Ah (Bq (Av (Af ?_)))))))
   obtain rfl:=SJ h
   exact dn (Ad (ra P3 R R R) (Ad (rt R) Aj)) (I8 R) R
  ·refine csr (fl Wj ti3 R R R R R R (sv R (B6 R R) (rm 1 R (Ah (ccI h R (λh=>?_) (λh=>?_))))))
   ·refine csr (sv R (A2 X1 Aec A0 (.nil _)) (sst Vr R R R R R (rm 1 R (Ah (Bq (Av (Af ?_)))))))
    obtain rfl:=SJ h
    exact dn (Ad (ra P3 R R R) (Ad (rt R) Aj)) (I8 R) R
   ·refine Bf (Ar (Ab (csr (ld P3 R R R R (sv R (Az R) ?_)))))
    obtain⟨v3,hv3,h⟩:=Ae h
    refine Bb R Asm (Ac R (Ac R Ag)) (Ao R) (Lx hv3) (rm 1 R (Ah (Bj ?_)))
    obtain⟨c4,hc4,h⟩:=Ae h
    obtain⟨c5,hc5,h⟩:=Ae h
    obtain⟨v6,hv6,h⟩:=Ae h
    refine Kb [12] [0,1,0,7,0,16,0,64,240,511,1023,2047,4095,8191] [[.box [SL a0.L Al],.box [Znl],.box (EL.el v2.1)],[.box [SL a0.L Al],.box [SL v6 Al],.box (EL.el v2.1)]] (by kernel_rfl) mixed (by kernel_rfl) (by decide) R R R R ?_
    refine ev (A6 0 R R) R R (Aa Wc R) (ev (A6 0 R R) R R (l1 Amj R R R) (ev (A6 0 R R) R R (Az R) (ev (A6 0 R R) R R (Zn (f:=Al) (lo:=0) (hi:=v3) Adi (λ_=>R) R R R Wr (Sm R (Int.le_trans (Wl hc4).1.1 (Wl hc4).1.2.1)) hc4) ?_)))
    refine ev (A6 0 R R) R R (Aa Wc R) (ev (A6 0 R R) R R (l1 Amj R R R) (ev (A6 0 R R) R R (Az R) (ev (A6 0 R R) R R (Bp R R) ?_)))
    refine ev (A6 0 R R) R R (Zn (f:=Al) (lo:=(wI (v3+1))) (hi:=(a0.L.length:Int)) Adi (λ_=>R) R R R (Sm R (Wl hc5).1.1) (by exact R) hc5) ?_
    refine ed (A6 0 R R) R R (Zw (out:=([c4,c5]:List (List Ba)).flatMap (eL Al)) Tryz.underlying337 A5c (Aq R (Aq R A0)) (.cons _ _ _ _ _ _ _ R R (Nbl R) (.cons _ _ _ _ _ _ _ R R (Nbl R) (.nil _))) R (by decide)) ?_
    refine ed (A6 0 R R) R R (Cm A3r (Ac R Ag) R (W4 hv6)) (ev (A6 0 R R) R R (A2 X1 Aec (Aq R A0) (.cons _ _ _ _ _ _ _ R R (Nbl R) (.nil _))) (ee0 0 R R R R (λζ=>?_) ?_))
    ·refine sst Vr R R R R R (Ql [.box [SL a0.L Al],.box [SL v6 Al],.box (EL.el v2.1)] R ?_)
     exact U9
    refine ev (A6 1 R R) R R (G0 R) (Adr (Ab (Bq ?_)))
    obtain rfl:=SJ h
    exact dn (Ad (ra P3 R R R) (Ad (rt R) Aj)) (Ao R) R
 ·skip
  refine Au (sv R (lo P3 R R R) ?_)
  obtain⟨v7,hv7,h⟩:=Ae h
  refine Bb R Az0 (Ac R Ag) (Ao R) (Ll hv7) (sv R (Bz R) (rm 1 R (ssI 12 h R (λh=>?_) (λh=>?_))))
  ·refine rm 4 R (Ah (Ce R (λ_=>?_) (λhx=>Bool.noConfusion hx)))
   refine csr (sv R (A2 X1 Aec A0 (.nil _)) (sst Vr R R R R R (rm 1 R (Ah (Bq (Af ?_))))))
   obtain rfl:=SJ h
   exact dn (Ad (ra P3 R R R) (Ad (rt R) Aj)) (I8 R) R
  ·refine rm 1 R (son R R R ?_)
   obtain⟨v8,hv8,h⟩:=Ae h
   refine Bb R Al4 (Ac R (Ac R Ag)) (Ao R) (Ee hv8) (son R R R (sv R (Bz R) (rm 1 R (Ah (ccI h R (λh=>?_) (λh=>?_))))))
   ·refine csr (sv R (A2 X1 Aec A0 (.nil _)) (sst Vr R R R R R (rm 1 R (Ah (Bq (Af ?_))))))
    obtain rfl:=SJ h
    exact dn (Ad (ra P3 R R R) (Ad (rt R) Aj)) (I8 R) R
   ·refine Bf (Ab ?_)
    exact⟨(),_,h,⟨R,R,R,trivial⟩,R⟩
def Na (a0:Ai) (a1:Int):Option (Ai×Int) :=
 (Hv a0).bind λv1=>if (!v1) then(some (Fe,1)) else((G2 a0.Toks a1).bind λv2=>if (!decide (v2.2=0)) then((Dx a0 v2.2).bind λv3=>some (v3,v2.2)) else(some ({a0 with Toks:=v2.1},0)))
theorem Z7 {a0:Ai} {a1:Int} {r:Ai×Int} (h:Na a0 a1=some r):Bt Qx0 32 [.agg (EL.el a0),.one (Ii6 a1)] (·=.tup [.agg (EL.el r.1),.one (Ii6 r.2)]):=by
 unfold Na at h
 refine A1 Tryz.func32 R (nt:=28) R (Nbl R) ?_
 intro w0 S0
 refine csr (Er R R (Br R Tg (rm 1 R (Ah (Bj (csr (sv R (lo Dq R R R) ?_)))))))
 obtain⟨v1,hv1,h⟩:=Ae h
 refine Bb R Axf (Ac R Ag) (Ao R) (Mh hv1) (sv R (Bz R) (Ah (ccI h R (λh=>?_) (λh=>?_))))
 ·refine csr (sv R (A2 Tg An3 A0 (.nil _)) (sst Kn R R R R R (rm 1 R (Ah (Bq (Af ?_))))))
  obtain rfl:=SJ h
  exact dn (Ad (ra Dq R R R) (Ad (rt R) Aj)) (I8 R) R
 ·refine Bf (Ab (csr (sv R (Aa Vl R) (ld P3 R R R R (sv R (Az R) ?_)))))
  obtain⟨v2,hv2,h⟩:=Ae h
  refine Bb R A6g (Ac R (Ac R Ag)) (Ao R) (Xd hv2) (sv R (Cf R) (sv R (Ak R R) (sv R (Ak R R) (Br R X1 (sst Vr R R R R R (rm 1 R (Ah (Bj (csr (rm 1 R (sv R (Cc R R) (Ah (ccI h R (λh=>?_) (λh=>?_))))))))))))))
  ·refine csr (ld Dq R R R R (sv R (Az R) ?_))
   obtain⟨v3,hv3,h⟩:=Ae h
   refine Bb R Awb (Ac R (Ac R Ag)) (Ao R) (J9 hv3) (rm 1 R (sst Kn R R R R R (rm 1 R (Ah (Bq (Af ?_))))))
   obtain rfl:=SJ h
   exact dn (Ad (ra Dq R R R) (Ad (rt R) Aj)) (Ao R) R
  ·refine Bf (Ab (csr (ld P3 R R R R (sv R (Aa Vl R) (sst Vr R R R R R (Ah (csr (ld Dq R R R R (sst Kn R R R R R (rm 1 R (Ah (Bq ?_))))))))))))
   obtain rfl:=SJ h
   exact dn (Ad (ra Dq R R R) (Ad (rt R) Aj)) (Ao R) R
def Sl (a0:Ai) (a1:Eo) (a2:Int):Option (Ai×Hn) :=
 if (decide (a1.What<=1)) then((L5 a0 a1.Token a1.Attempt a1.RO).bind λv1=>some (v1.1,(Hn.mk v1.2.1 false ([]:List UInt8) ([]:List B8) v1.2.2))) else(if (decide (a1.What<=3)) then((Pg a0 a2 a1.Key).bind λv2=>some (v2.1,(Hn.mk 0 v2.2.2.1 v2.2.1 ([]:List B8) v2.2.2.2))) else(if (decide (a1.What=4)) then((Rb a0 a2 a1.Rng 8).bind λv3=>some (v3.1,(Hn.mk 0 false ([]:List UInt8) v3.2.1 v3.2.2))) else(if (decide (a1.What<=7)) then((Pb a0 a2 (A7.mk a1.Key a1.Val a1.Del)).bind λv4=>some (v4.1,(Hn.mk 0 false ([]:List UInt8) ([]:List B8) v4.2))) else(if (decide (a1.What<=10)) then((J6 a0 a2).bind λv5=>some (v5.1,(Hn.mk v5.2.1 false ([]:List UInt8) ([]:List B8) v5.2.2))) else(if (decide (a1.What=11)) then((Qg a0 a2).bind λv6=>some (v6.1,(Hn.mk 0 false ([]:List UInt8) ([]:List B8) v6.2))) else(if (decide (a1.What=12)) then((O0 a0 a1.Token a1.Attempt).bind λv7=>some (v7.1,(Hn.mk v7.2.1 false ([]:List UInt8) ([]:List B8) v7.2.2))) else((Na a0 a1.Token).bind λv8=>some (v8.1,(Hn.mk 0 false ([]:List UInt8) ([]:List B8) v8.2)))))))))
theorem Aan {a0:Ai} {a1:Eo} {a2:Int} {r:Ai×Hn} (h:Sl a0 a1 a2=some r):Bt Qx0 11 [.agg (EL.el a0),.agg (EL.el a1),.one (Ii6 a2)] (·=.tup [.agg (EL.el r.1),.agg (EL.el r.2)]):=by
 unfold Sl at h
 refine A1 Tryz.func11 R (nt:=162) R (Nbl R) ?_
 intro w0 S0
 refine csr (Er R R (Er R R (Br R Tg (Br R Am6 (Ah (Bj (Bl (csr (fl Tr ti3 R R R R R R (sv R (Dk R R) (rm 1 R (Ah (ccI h R (λh=>?_) (λh=>?_))))))))))))))
 ·refine csr (ld Dq R R R R (fl Apw ti3 R R R R R R (fl Aui ti3 R R R R R R (sv R (Aa Ay1 R) (sv R (l1 ti4 R R R) ?_)))))
  obtain⟨v1,hv1,h⟩:=Ae h
  refine Bb R A3k (Ac R (Ac R (Ac R (Ac R Ag)))) (Ao R) (Sv hv1) (sv R (Cf R) (sv R (Ak R R) (sv R (Ak R R) (sv R (Ak R R) (Br R Tg (sst Kn R R R R R (rm 2 R (Ah (csr (ld Dq R R R R (rm 2 R (sv R (A2 Am6 Aub (Aq R (Aq R A0)) (.cons _ _ _ _ _ _ _ R R (Nbl R) (.cons _ _ _ _ _ _ _ R R (Nbl R) (.nil _)))) (sst Kn R R R R R (sst Aq1 R R R R R (Ah (Bq (Av (Af ?_))))))))))))))))))
  obtain rfl:=SJ h
  exact dn (Ad (ra Dq R R R) (Ad (ra Ar1 R R R) Aj)) (I8 R) R
 ·refine csr (fl Tr ti3 R R R R R R (sv R (Dk R R) (rm 1 R (Ah (ccI h R (λh=>?_) (λh=>?_))))))
  ·refine csr (ld Dq R R R R (rm 1 R (sv R (Aa Aph R) (sv R (l1 L3 R R R) ?_))))
   obtain⟨v2,hv2,h⟩:=Ae h
   refine Bb R A35 (Ac R (Ac R (Ac R Ag))) (Ao R) (U6 hv2) (sv R (Cf R) (sv R (Ak R R) (sv R (Ak R R) (sv R (Ak R R) (sv R (Ak R R) (Br R Tg (sst Kn R R R R R (rm 3 R (Ah (csr (ld Dq R R R R (rm 3 R (sv R (A2 Am6 Aub (Aq R (Aq R (Aq R A0))) (.cons _ _ _ _ _ _ _ R R (Nbl R) (.cons _ _ _ _ _ _ _ R R (Nbl R) (.cons _ _ _ _ _ _ _ R R (Nbl R) (.nil _))))) (sst Kn R R R R R (sst Aq1 R R R R R (Ah (Bq (Av (Af ?_)))))))))))))))))))
   obtain rfl:=SJ h
   exact dn (Ad (ra Dq R R R) (Ad (ra Ar1 R R R) Aj)) (I8 R) R
  ·refine csr (fl Tr ti3 R R R R R R (sv R (B6 R R) (rm 1 R (Ah (ccI h R (λh=>?_) (λh=>?_))))))
   ·refine csr (ld Dq R R R R (rm 1 R (sv R (Aa Aup R) (sv R (lo Ac4 R R R) ?_))))
    obtain⟨v3,hv3,h⟩:=Ae h
    refine Bb R A6k (Ac R (Ac R (Ac R (Ac R Ag)))) (Ao R) (Ac9 hv3) (sv R (Cf R) (sv R (Ak R R) (sv R (Ak R R) (sv R (Ak R R) (Br R Tg (sst Kn R R R R R (rm 2 R (Ah (csr (ld Dq R R R R (rm 2 R (sv R (A2 Am6 Aub (Aq R (Aq R A0)) (.cons _ _ _ _ _ _ _ R R (Nbl R) (.cons _ _ _ _ _ _ _ R R (Nbl R) (.nil _)))) (sst Kn R R R R R (sst Aq1 R R R R R (Ah (Bq (Av (Af ?_))))))))))))))))))
    obtain rfl:=SJ h
    exact dn (Ad (ra Dq R R R) (Ad (ra Ar1 R R R) Aj)) (I8 R) R
   ·refine csr (fl Tr ti3 R R R R R R (sv R (Dk R R) (rm 1 R (Ah (ccI h R (λh=>?_) (λh=>?_))))))
    ·refine csr (ld Dq R R R R (rm 1 R (fl Aph L3 R R R R R R (fl At3 L3 R R R R R R (fl Ax2 ti4 R R R R R R (sv R (A2 Aml A02 (Aq R (Aq R (Aq R A0))) (.cons _ _ _ _ _ _ _ R R (Nbl R) (.cons _ _ _ _ _ _ _ R R (Nbl R) (.cons _ _ _ _ _ _ _ R R (Nbl R) (.nil _))))) ?_))))))
     obtain⟨v4,hv4,h⟩:=Ae h
     refine Bb R A37 (Ac R (Ac R (Ac R Ag))) (Ao R) (Va hv4) (sv R (Cf R) (sv R (Ak R R) (sv R (Ak R R) (Br R Tg (sst Kn R R R R R (rm 1 R (Ah (csr (ld Dq R R R R (rm 1 R (sv R (A2 Am6 Aub (Aq R A0) (.cons _ _ _ _ _ _ _ R R (Nbl R) (.nil _))) (sst Kn R R R R R (sst Aq1 R R R R R (Ah (Bq (Av (Af ?_)))))))))))))))))
     obtain rfl:=SJ h
     exact dn (Ad (ra Dq R R R) (Ad (ra Ar1 R R R) Aj)) (I8 R) R
    ·refine csr (fl Tr ti3 R R R R R R (sv R (Dk R R) (rm 1 R (Ah (ccI h R (λh=>?_) (λh=>?_))))))
     ·refine csr (ld Dq R R R R (sv R (Az R) ?_))
      obtain⟨v5,hv5,h⟩:=Ae h
      refine Bb R A2e (Ac R (Ac R Ag)) (Ao R) (Rz hv5) (sv R (Cf R) (sv R (Ak R R) (sv R (Ak R R) (sv R (Ak R R) (Br R Tg (sst Kn R R R R R (rm 2 R (Ah (csr (ld Dq R R R R (rm 2 R (sv R (A2 Am6 Aub (Aq R (Aq R A0)) (.cons _ _ _ _ _ _ _ R R (Nbl R) (.cons _ _ _ _ _ _ _ R R (Nbl R) (.nil _)))) (sst Kn R R R R R (sst Aq1 R R R R R (Ah (Bq (Av (Af ?_))))))))))))))))))
      obtain rfl:=SJ h
      exact dn (Ad (ra Dq R R R) (Ad (ra Ar1 R R R) Aj)) (I8 R) R
     ·refine csr (fl Tr ti3 R R R R R R (sv R (B6 R R) (rm 1 R (Ah (ccI h R (λh=>?_) (λh=>?_))))))
      ·refine csr (ld Dq R R R R (sv R (Az R) ?_))
       obtain⟨v6,hv6,h⟩:=Ae h
       refine Bb R A5x (Ac R (Ac R Ag)) (Ao R) (Acw hv6) (sv R (Cf R) (sv R (Ak R R) (sv R (Ak R R) (Br R Tg (sst Kn R R R R R (rm 1 R (Ah (csr (ld Dq R R R R (rm 1 R (sv R (A2 Am6 Aub (Aq R A0) (.cons _ _ _ _ _ _ _ R R (Nbl R) (.nil _))) (sst Kn R R R R R (sst Aq1 R R R R R (Ah (Bq (Av (Af ?_)))))))))))))))))
       obtain rfl:=SJ h
       exact dn (Ad (ra Dq R R R) (Ad (ra Ar1 R R R) Aj)) (I8 R) R
      ·refine csr (fl Tr ti3 R R R R R R (sv R (B6 R R) (rm 1 R (Ah (ccI h R (λh=>?_) (λh=>?_))))))
       ·refine csr (ld Dq R R R R (fl Apw ti3 R R R R R R (sv R (Aa Aui R) (sv R (l1 ti3 R R R) ?_))))
        obtain⟨v7,hv7,h⟩:=Ae h
        refine Bb R A5q (Ac R (Ac R (Ac R Ag))) (Ao R) (Aav hv7) (sv R (Cf R) (sv R (Ak R R) (sv R (Ak R R) (sv R (Ak R R) (Br R Tg (sst Kn R R R R R (rm 2 R (Ah (csr (ld Dq R R R R (rm 2 R (sv R (A2 Am6 Aub (Aq R (Aq R A0)) (.cons _ _ _ _ _ _ _ R R (Nbl R) (.cons _ _ _ _ _ _ _ R R (Nbl R) (.nil _)))) (sst Kn R R R R R (sst Aq1 R R R R R (Ah (Bq (Av (Af ?_))))))))))))))))))
        obtain rfl:=SJ h
        exact dn (Ad (ra Dq R R R) (Ad (ra Ar1 R R R) Aj)) (I8 R) R
       ·refine Bf (Ar (Ab (csr (ld Dq R R R R (sv R (Aa Apw R) (sv R (l1 ti3 R R R) ?_))))))
        obtain⟨v8,hv8,h⟩:=Ae h
        refine Bb R A5a (Ac R (Ac R Ag)) (Ao R) (Z7 hv8) (sv R (Cf R) (sv R (Ak R R) (sv R (Ak R R) (Br R Tg (sst Kn R R R R R (rm 1 R (Ah (csr (ld Dq R R R R (rm 1 R (sv R (A2 Am6 Aub (Aq R A0) (.cons _ _ _ _ _ _ _ R R (Nbl R) (.nil _))) (sst Kn R R R R R (sst Aq1 R R R R R (Ah (Bq ?_)))))))))))))))
        obtain rfl:=SJ h
        exact dn (Ad (ra Dq R R R) (Ad (ra Ar1 R R R) Aj)) (I8 R) R
def Q0 (b1:Ai×(List B5)):Option (Ai×(List B5)) :=
 some (b1.1,b1.2)
def Dz (s2:Int×Ai×(List B5)×(List B5)) (v5:Ai×Hn) (b9:(List B5)×(List B5)):Option (LB (Int×Ai×(List B5)×(List B5)) (Ai×(List B5))) :=
 some (.cont ((wI (s2.1+1)),v5.1,b9.1,b9.2))
def D1 (a0:List Eo) (s2:Int×Ai×(List B5)×(List B5)) (b3:Int) (v5:Ai×Hn) (b8:(List B5)):Option (LB (Int×Ai×(List B5)×(List B5)) (Ai×(List B5))) :=
 (idx a0 s2.1).bind λu10=>if (decide (7<u10.What)) then((idx a0 s2.1).bind λu11=>if (decide (u11.What<=10)) then(if (decide (v5.2.e_=0)) then(if (decide (b3<(b8.length:Int))) then((idx b8 b3).bind λu12=>(idx (b8.set b3.toNat ({u12 with end_:=v5.2.n_})) b3).bind λu13=>if (s2.2.2.1.length+[u13].length)*48<=140737488355328 then(Dz s2 v5 ((s2.2.2.1++[u13]),(b8.set b3.toNat ({u12 with end_:=v5.2.n_})))) else none) else(Dz s2 v5 (s2.2.2.1,b8))) else(Dz s2 v5 (s2.2.2.1,b8))) else(Dz s2 v5 (s2.2.2.1,b8))) else(Dz s2 v5 (s2.2.2.1,b8))
def F7 (a0:List Eo) (s2:Int×Ai×(List B5)×(List B5)) (b3:Int) (v5:Ai×Hn) (b7:(List B5)):Option (LB (Int×Ai×(List B5)×(List B5)) (Ai×(List B5))) :=
 (idx a0 s2.1).bind λu15=>if (decide (1<u15.What)) then((idx a0 s2.1).bind λu16=>if (decide (u16.What<=7)) then(if (decide (v5.2.e_=0)) then(if (decide (b3<(b7.length:Int))) then((idx b7 b3).bind λu17=>(idx a0 s2.1).bind λu18=>if (u17.acts_+([(Gk.mk u18 v5.2)]:List Gk).length)<=maxLen/\(u17.acts_+([(Gk.mk u18 v5.2)]:List Gk).length)*216<=140737488355328 then((idx b7 b3).bind λu20=>D1 a0 s2 b3 v5 (b7.set b3.toNat ({u20 with acts_:=(u17.acts_+([(Gk.mk u18 v5.2)]:List Gk).length)}))) else none) else(D1 a0 s2 b3 v5 b7)) else(D1 a0 s2 b3 v5 b7)) else(D1 a0 s2 b3 v5 b7)) else(D1 a0 s2 b3 v5 b7)
def Hz (a0:List Eo) (s2:Int×Ai×(List B5)×(List B5)) (b3:Int) (v5:Ai×Hn) (b6:Unit):Option (LB (Int×Ai×(List B5)×(List B5)) (Ai×(List B5))) :=
 (idx a0 s2.1).bind λu21=>if (decide (u21.What<=1)) then(if (decide (v5.2.e_=0)) then(if (s2.2.2.2.length+[(B5.mk v5.2.n_ s2.2.1.Store.Ts 0 0)].length)*48<=140737488355328 then(F7 a0 s2 b3 v5 (s2.2.2.2++[(B5.mk v5.2.n_ s2.2.1.Store.Ts 0 0)])) else none) else(F7 a0 s2 b3 v5 s2.2.2.2)) else(F7 a0 s2 b3 v5 s2.2.2.2)
def H2 (a0:List Eo) (s2:Int×Ai×(List B5)×(List B5)) (b3:Int):Option (LB (Int×Ai×(List B5)×(List B5)) (Ai×(List B5))) :=
 (idx a0 s2.1).bind λu4=>(Sl s2.2.1 u4 b3).bind λv5=>if (decide (v5.2.e_=1)) then(if (decide (v5.1.Next=0)) then(some (.cont ((wI (s2.1+1)),s2.2.1,s2.2.2.1,s2.2.2.2))) else(Hz a0 s2 b3 v5 ())) else(Hz a0 s2 b3 v5 ())
def Kq (a0:List Eo) (s2:Int×Ai×(List B5)×(List B5)):Option (LB (Int×Ai×(List B5)×(List B5)) (Ai×(List B5))) :=
 if (decide (s2.1<(a0.length:Int))) then(if (decide (0<(s2.2.2.2.length:Int))) then((idx a0 s2.1).bind λu23=>if (s2.2.2.2.length:Int)≠0 then(H2 a0 s2 ((wI ((BitVec.ofInt 64 u23.N &&& BitVec.ofInt 64 65535).toNat:Int)).tmod (s2.2.2.2.length:Int))) else none) else(H2 a0 s2 0)) else(some (.brk (s2.2.1,s2.2.2.1)))
def Ov (a0:List Eo):Option (Ai×(List B5)) :=
 (Cz (Kq a0) fuel (0,Fe,([]:List B5),([]:List B5))).bind λe25=>Q0 e25
theorem Zg {a0:List Eo}:∀ x∈([.one (SL a0 Dp)]:List SV),NJs x:=by
 intro x hx
 obtain rfl:=zV.1 hx
 intro l hl
 obtain rfl:=zV.1 (show l∈[_] from hl)
 refine Ann λy l hl=>?_
 simp only[Dp,yM,List.not_mem_nil,or_false] at hl
 rcases hl with rfl|rfl|rfl|rfl|rfl|rfl|rfl|rfl|rfl|rfl|rfl <;> first|exact A4h|exact A52|exact nj_s|exact Ann A1s
theorem Aa1 {a0:List Eo} {r:Ai×(List B5)} (h:Ov a0=some r):Bt Qx0 17 [.one (SL a0 Dp)] (·=.tup [.agg (EL.el r.1),.one (SL r.2 Bm)]):=by
 unfold Ov at h
 refine Amq Tryz.func17 R (nt:=151) R (Nbl R) Zg (λx h=>by cases h) ?_
 intro w0 S0 hJ
 refine csr (Br R Tg (rm 1 R (Ah (csr (sv R (A2 Tg An3 A0 (.nil _)) (Br R Tg (sst Kn R R R R R (Ah (csr (rm 1 R (Ah (csr (rm 1 R (Ah (Bj (csr (rm 1 R (Ah ?_))))))))))))))))))
 refine Dl 79 4 6 (by decide) R ?_
 refine cj (Ai×(List B5)) (λb1=>[(2,L7 (.lp 0 0)),(4,L7 (.lp 1 0)),(6,L7 (.ls 2 b1.2.length))]) (λb1=>[.box Zba,.box (EL.el b1.1),.arr 79 4 0 (b1.2.flatMap Bm)]) (λb1=>Q0 b1=some r) (λ_=>R) (λb1 h=>?_) ?_
 ·unfold Q0 at h
  refine csr (ld Dq R R R R (rm 1 R (sst Kn R R R R R (rm 1 R (Ah (Bq ?_))))))
  obtain rfl:=SJ h
  refine⟨Or.inr R,_,_,_,(Ad (ra Dq R R R) (Ad (rt R) Aj)),(by(repeat' first|exact Ho.nil _|apply Ho.cons|apply Hl.one|apply Hl.agg|exact C5.nil|exact C5.ls _ _ _ _ _ _ R (Aw (f:=Bm) (λ_=>R) _).symm|exact C5.id _ R|exact Cv.nil _|apply Cv.cons)),?_⟩
  rfl
 ·skip
  refine Bl ?_
  refine Dl 79 4 5 (by decide) R ?_
  refine Aag 1 0 R R C5.nil R (Aag 1 1 R R C5.nil R (Aag 1 3 R R C5.nil R (Aag 1 4 R R C5.nil R (Aag 1 5 R R C5.nil R (Aag 1 6 R R C5.nil R ?_)))))
  obtain⟨x2,hx2,ho2⟩:=Ae h
  refine lpo (G:=Nat×(Int×Ai×(List B5)×(List B5))) (λg=>[(0,L7 (SL a0 Dp)),(2,L7 (.lp 0 0)),(4,L7 (.lp 1 0)),(5,L7 (.ls 3 g.2.2.2.2.length)),(6,L7 (.ls 2 g.2.2.2.1.length)),(7,L7 (Ii6 g.2.1))]) (λg=>[.box Zba,.box (EL.el g.2.2.1),.arr 79 4 0 (g.2.2.2.1.flatMap Bm),.arr 79 4 0 (g.2.2.2.2.flatMap Bm)]) (λg=>Cz (Kq a0) g.1 g.2=some x2) (λg=>g.1) (fuel,(0,Fe,([]:List B5),([]:List B5))) hx2 ⟨R,R,R,R,R,R,trivial⟩ [] R (λ_=>R) ?_
  clear hx2 h
  rintro⟨n2,s2⟩ h
  obtain⟨n2,y2,rfl,h,hk2⟩:=Cw h
  unfold Kq at h
  refine Bj (csr (rm 2 R (sv R (Ap Ala R) (sv R (Bv R R) (Ah (ccI h R (λh=>?_) (λh=>?_)))))))
  ·refine Bf (Ab (Bj (Bl (csr (rm 1 R (Ah (Bj (csr (rm 1 R (sv R (H6 At8 R R (Aw (f:=Bm) (λ_=>R) _).symm) ?_))))))))))
   refine sv R (Dr R R) (Ah (cj (Int) (λb3=>[(0,L7 (SL a0 Dp)),(2,L7 (.lp 0 0)),(4,L7 (.lp 1 0)),(5,L7 (.ls 3 s2.2.2.2.length)),(6,L7 (.ls 2 s2.2.2.1.length)),(7,L7 (Ii6 s2.1)),(8,L7 (Ii6 b3))]) (λb3=>[.box Zba,.box (EL.el s2.2.1),.arr 79 4 0 (s2.2.2.1.flatMap Bm),.arr 79 4 0 (s2.2.2.2.flatMap Bm)]) (λb3=>H2 a0 s2 b3=some y2) (λ_=>R) (λb3 h=>?_) ?_))
   ·unfold H2 at h
    refine Bj (Adc (Adc ?_))
    obtain⟨u4,hu4,h⟩:=Ae h
    obtain⟨v5,hv5,h⟩:=Ae h
    refine An2 [10,11,12,13] [0,0,0,6,14,0,63,127,255,255,0,0,3583,8191] [([false,false,false,false],[.box Zba,.box (EL.el s2.2.1),.arr 79 4 0 (s2.2.2.1.flatMap Bm),.arr 79 4 0 (s2.2.2.2.flatMap Bm),.hole,.hole]),([false,true,false,false],[.box Zba,.box (EL.el s2.2.1),.arr 79 4 0 (s2.2.2.1.flatMap Bm),.arr 79 4 0 (s2.2.2.2.flatMap Bm),.hole,.box [Ii6 0,.b false,Znl,Znl,Ii6 0]]),([true,false,false,false],[.box Zba,.box (EL.el s2.2.1),.arr 79 4 0 (s2.2.2.1.flatMap Bm),.arr 79 4 0 (s2.2.2.2.flatMap Bm),.box Zba,.hole]),([true,true,false,false],[.box Zba,.box (EL.el s2.2.1),.arr 79 4 0 (s2.2.2.1.flatMap Bm),.arr 79 4 0 (s2.2.2.2.flatMap Bm),.box Zba,.box [Ii6 0,.b false,Znl,Znl,Ii6 0]]),([true,true,true,false],[.box Zba,.box (EL.el s2.2.1),.arr 79 4 0 (s2.2.2.1.flatMap Bm),.arr 79 4 0 (s2.2.2.2.flatMap Bm),.box (EL.el v5.1),.box [Ii6 0,.b false,Znl,Znl,Ii6 0]]),([true,true,true,true],[.box Zba,.box (EL.el s2.2.1),.arr 79 4 0 (s2.2.2.1.flatMap Bm),.arr 79 4 0 (s2.2.2.2.flatMap Bm),.box (EL.el v5.1),.box (EL.el v5.2)])] (by kernel_rfl) mixed (by kernel_rfl) (by decide) R (by kernel_rfl) R R ?_
    refine mev (md:=[.box Zba,.box (EL.el s2.2.1),.arr 79 4 0 (s2.2.2.1.flatMap Bm),.arr 79 4 0 (s2.2.2.2.flatMap Bm),.dead,.dead]) (Db R ⟨R,⟨R,⟨R,⟨R,⟨trivial,⟨trivial,trivial⟩⟩⟩⟩⟩⟩ (Db R ⟨R,⟨R,⟨R,⟨R,⟨trivial,⟨trivial,trivial⟩⟩⟩⟩⟩⟩ (Db R ⟨R,⟨R,⟨R,⟨R,⟨trivial,⟨trivial,trivial⟩⟩⟩⟩⟩⟩ (Db R ⟨R,⟨R,⟨R,⟨R,⟨trivial,⟨trivial,trivial⟩⟩⟩⟩⟩⟩ (Ck R (Ck R Hq)))))) R R (lo Dq R R R) (Ax5 R R (λ_=>Az R) ?_)
    refine Ax5 R R (λ_=>Az R) ?_
    refine mev (md:=[.box Zba,.box (EL.el s2.2.1),.arr 79 4 0 (s2.2.2.1.flatMap Bm),.arr 79 4 0 (s2.2.2.2.flatMap Bm),.dead,.dead]) (Db R ⟨R,⟨R,⟨R,⟨R,⟨trivial,⟨trivial,trivial⟩⟩⟩⟩⟩⟩ (Db R ⟨R,⟨R,⟨R,⟨R,⟨trivial,⟨trivial,trivial⟩⟩⟩⟩⟩⟩ (Db R ⟨R,⟨R,⟨R,⟨R,⟨trivial,⟨trivial,trivial⟩⟩⟩⟩⟩⟩ (Db R ⟨R,⟨R,⟨R,⟨R,⟨trivial,⟨trivial,trivial⟩⟩⟩⟩⟩⟩ (Ck R (Ck R Hq)))))) R R (B4 (f:=Dp) Ala (λ_=>R) R R R R hu4) ?_
    refine mev (md:=[.box Zba,.box (EL.el s2.2.1),.arr 79 4 0 (s2.2.2.1.flatMap Bm),.arr 79 4 0 (s2.2.2.2.flatMap Bm),.dead,.dead]) (Db R ⟨R,⟨R,⟨R,⟨R,⟨trivial,⟨trivial,trivial⟩⟩⟩⟩⟩⟩ (Db R ⟨R,⟨R,⟨R,⟨R,⟨trivial,⟨trivial,trivial⟩⟩⟩⟩⟩⟩ (Db R ⟨R,⟨R,⟨R,⟨R,⟨trivial,⟨trivial,trivial⟩⟩⟩⟩⟩⟩ (Db R ⟨R,⟨R,⟨R,⟨R,⟨trivial,⟨trivial,trivial⟩⟩⟩⟩⟩⟩ (Ck R (Ck R Hq)))))) R R (Bs (ys:=[Ii6 u4.What,Ii6 u4.N,Ii6 u4.Token,Ii6 u4.Attempt,.b u4.RO,.b u4.Del,SL u4.Key eU8,SL u4.Val eU8,SL u4.Rng.Lo eU8,SL u4.Rng.Hi eU8,.b u4.Rng.Open]) A00 R (.cp _) R R) (Ax5 R R (λ_=>Az R) ?_)
    refine med (md:=[.box Zba,.box (EL.el s2.2.1),.arr 79 4 0 (s2.2.2.1.flatMap Bm),.arr 79 4 0 (s2.2.2.2.flatMap Bm),.dead,.dead]) (Db R ⟨R,⟨R,⟨R,⟨R,⟨trivial,⟨trivial,trivial⟩⟩⟩⟩⟩⟩ (Db R ⟨R,⟨R,⟨R,⟨R,⟨trivial,⟨trivial,trivial⟩⟩⟩⟩⟩⟩ (Db R ⟨R,⟨R,⟨R,⟨R,⟨trivial,⟨trivial,trivial⟩⟩⟩⟩⟩⟩ (Db R ⟨R,⟨R,⟨R,⟨R,⟨trivial,⟨trivial,trivial⟩⟩⟩⟩⟩⟩ (Ck R (Ck R Hq)))))) R R (Cm A4i (Ac R (Ac R (Ac R Ag))) R (Aan hv5)) (Ax5 R R (λ_=>Cf R) ?_)
    refine mev (md:=[.box Zba,.box (EL.el s2.2.1),.arr 79 4 0 (s2.2.2.1.flatMap Bm),.arr 79 4 0 (s2.2.2.2.flatMap Bm),.dead,.dead]) (Db R ⟨R,⟨R,⟨R,⟨R,⟨trivial,⟨trivial,trivial⟩⟩⟩⟩⟩⟩ (Db R ⟨R,⟨R,⟨R,⟨R,⟨trivial,⟨trivial,trivial⟩⟩⟩⟩⟩⟩ (Db R ⟨R,⟨R,⟨R,⟨R,⟨trivial,⟨trivial,trivial⟩⟩⟩⟩⟩⟩ (Db R ⟨R,⟨R,⟨R,⟨R,⟨trivial,⟨trivial,trivial⟩⟩⟩⟩⟩⟩ (Ck R (Ck R Hq)))))) R R (Ak R R) (mev (md:=[.box Zba,.box (EL.el s2.2.1),.arr 79 4 0 (s2.2.2.1.flatMap Bm),.arr 79 4 0 (s2.2.2.2.flatMap Bm),.dead,.dead]) (Db R ⟨R,⟨R,⟨R,⟨R,⟨trivial,⟨trivial,trivial⟩⟩⟩⟩⟩⟩ (Db R ⟨R,⟨R,⟨R,⟨R,⟨trivial,⟨trivial,trivial⟩⟩⟩⟩⟩⟩ (Db R ⟨R,⟨R,⟨R,⟨R,⟨trivial,⟨trivial,trivial⟩⟩⟩⟩⟩⟩ (Db R ⟨R,⟨R,⟨R,⟨R,⟨trivial,⟨trivial,trivial⟩⟩⟩⟩⟩⟩ (Db R ⟨R,⟨R,⟨R,⟨R,⟨trivial,⟨trivial,trivial⟩⟩⟩⟩⟩⟩ (Ck R Hq)))))) R R (Ak R R) (mee (x:=L7 (.lp 4 0)) 0 R R ?_ ?_))
    ·refine Db R ⟨_,R,λζ=>?_⟩ ?_
     ·refine Oz 4 R Tg R ?_
      exact U9
     refine Db R ⟨_,R,λζ=>?_⟩ ?_
     ·refine Oz 4 R Tg R ?_
      exact U9
     refine Ck R (Ck R (Ck R (Ck R ?_)))
     exact Hq
    refine mee (x:=L7 (.lp 5 0)) 1 R R ?_ ?_
    ·refine Db R ⟨_,R,λζ=>?_⟩ ?_
     ·refine Oz 5 R Am6 R ?_
      exact U9
     refine Ck R (Db R ⟨_,R,λζ=>?_⟩ ?_)
     ·refine Oz 5 R Am6 R ?_
      exact U9
     refine Ck R (Ck R (Ck R ?_))
     exact Hq
    refine A19 2 R ?_ ?_
    ·refine Ck R (Ck R (Ck R (Db R ⟨_,R,λζ=>?_⟩ ?_)))
     ·refine sst Kn R R R R R (Ql [.box Zba,.box (EL.el s2.2.1),.arr 79 4 0 (s2.2.2.1.flatMap Bm),.arr 79 4 0 (s2.2.2.2.flatMap Bm),.box (EL.el v5.1),.box [Ii6 0,.b false,Znl,Znl,Ii6 0]] R ?_)
      exact U9
     refine Ck R (Ck R ?_)
     exact Hq
    refine A19 3 R ?_ ?_
    ·refine Ck R (Ck R (Ck R (Ck R (Db R ⟨_,R,λζ=>?_⟩ ?_))))
     ·refine sst Aq1 R R R R R (Ql [.box Zba,.box (EL.el s2.2.1),.arr 79 4 0 (s2.2.2.1.flatMap Bm),.arr 79 4 0 (s2.2.2.2.flatMap Bm),.box (EL.el v5.1),.box (EL.el v5.2)] R ?_)
      exact U9
     refine Ck R ?_
     exact Hq
    refine Ayk (Ab (Bj (Bj (cj3 (Unit) (λb6=>[(0,L7 (SL a0 Dp)),(2,L7 (.lp 0 0)),(4,L7 (.lp 1 0)),(5,L7 (.ls 3 s2.2.2.2.length)),(6,L7 (.ls 2 s2.2.2.1.length)),(7,L7 (Ii6 s2.1)),(8,L7 (Ii6 b3)),(9,L7 (.lp 4 0)),(10,L7 (.lp 5 0))]) (λb6=>[.box Zba,.box (EL.el s2.2.1),.arr 79 4 0 (s2.2.2.1.flatMap Bm),.arr 79 4 0 (s2.2.2.2.flatMap Bm),.box (EL.el v5.1),.box (EL.el v5.2)]) (λb6=>Hz a0 s2 b3 v5 b6=some y2) (λ_=>R) (λb6 h=>?_) ?_))))
    ·unfold Hz at h
     refine Bj (Bj (cj3 ((List B5)) (λb7=>[(0,L7 (SL a0 Dp)),(2,L7 (.lp 0 0)),(4,L7 (.lp 1 0)),(5,L7 (.ls 3 b7.length)),(6,L7 (.ls 2 s2.2.2.1.length)),(7,L7 (Ii6 s2.1)),(8,L7 (Ii6 b3)),(9,L7 (.lp 4 0)),(10,L7 (.lp 5 0))]) (λb7=>[.box Zba,.box (EL.el s2.2.1),.arr 79 4 0 (s2.2.2.1.flatMap Bm),.arr 79 4 0 (b7.flatMap Bm),.box (EL.el v5.1),.box (EL.el v5.2)]) (λb7=>F7 a0 s2 b3 v5 b7=some y2) (λ_=>R) (λb7 h=>?_) ?_))
     ·unfold F7 at h
      refine Bj (Bj (cj3 ((List B5)) (λb8=>[(0,L7 (SL a0 Dp)),(2,L7 (.lp 0 0)),(4,L7 (.lp 1 0)),(5,L7 (.ls 3 b8.length)),(6,L7 (.ls 2 s2.2.2.1.length)),(7,L7 (Ii6 s2.1)),(8,L7 (Ii6 b3)),(9,L7 (.lp 4 0)),(10,L7 (.lp 5 0))]) (λb8=>[.box Zba,.box (EL.el s2.2.1),.arr 79 4 0 (s2.2.2.1.flatMap Bm),.arr 79 4 0 (b8.flatMap Bm),.box (EL.el v5.1),.box (EL.el v5.2)]) (λb8=>D1 a0 s2 b3 v5 b8=some y2) (λ_=>R) (λb8 h=>?_) ?_))
      ·unfold D1 at h
       refine Bj (Bj (cj3 ((List B5)×(List B5)) (λb9=>[(0,L7 (SL a0 Dp)),(2,L7 (.lp 0 0)),(4,L7 (.lp 1 0)),(5,L7 (.ls 3 b9.2.length)),(6,L7 (.ls 2 b9.1.length)),(7,L7 (Ii6 s2.1)),(9,L7 (.lp 4 0))]) (λb9=>[.box Zba,.box (EL.el s2.2.1),.arr 79 4 0 (b9.1.flatMap Bm),.arr 79 4 0 (b9.2.flatMap Bm),.box (EL.el v5.1),.box (EL.el v5.2)]) (λb9=>Dz s2 v5 b9=some y2) (λ_=>R) (λb9 h=>?_) ?_))
       ·unfold Dz at h
        refine Au (ld Dq R R R R (sst Kn R R R R R (Jb (Ar (Ab (Au (rm 1 R (sv R (Bp R R) (rm 1 R (Ah ?_))))))))))
        obtain rfl:=SJ h
        exact⟨(n2,((wI (s2.1+1)),v5.1,b9.1,b9.2)),_,hk2,⟨R,R,R,R,R,R,trivial⟩,R,zG _⟩
       ·skip
        refine Au (rm 1 R (sv R (Az R) ?_))
        obtain⟨u10,hu10,h⟩:=Ae h
        refine sv R (B4 (f:=Dp) Ala (λ_=>R) R R R R hu10) ?_
        refine sv R (Bw Tr R) (sv R (B0 ti3 R (.cp _) R) (sv R (Dr R R) (rm 1 R (ssI 116 h R (λh=>?_) (λh=>?_)))))
        ·refine rm 2 R (son R R R ?_)
         obtain⟨u11,hu11,h⟩:=Ae h
         refine sv R (B4 (f:=Dp) Ala (λ_=>R) R R R R hu11) ?_
         refine son R R R (sv R (Bw Tr R) (son R R R (sv R (B0 ti3 R (.cp _) R) (son R R R (sv R (Dk R R) (rm 2 R (ssI 124 h R (λh=>?_) (λh=>?_))))))))
         ·refine son R R R (sv R (Aa Adt R) (son R R R (sv R (l1 Aw6 R R R) (son R R R (sv R (B6 R R) (rm 2 R (ssI 129 h R (λh=>?_) (λh=>?_))))))))
          ·refine rm 2 R (son R R R (sv R (H6 At8 R R (Aw (f:=Bm) (λ_=>R) _).symm) ?_))
           refine son R R R (sv R (Bv R R) (rm 1 R (Ah (ccI h R (λh=>?_) (λh=>?_)))))
           ·refine csr (rm 2 R (sv R (Aa Aki R) (sv R (l1 ti3 R R R) ?_)))
            obtain⟨u12,hu12,h⟩:=Ae h
            refine sv R (G8 (f:=Bm) At8 (λ_=>R) R R R R R hu12) ?_
            refine sv R (I5 Ax0 R R (Aw (f:=Bm) (λ_=>R) _).symm) ?_
            refine Ab2 (f:=Bm) (u':={u12 with end_:=v5.2.n_}) (sz:=4) 2 sz3 (λ_=>R) R R R R R R R (zI.1 R) (Jd hu12).2 (Nbl R) R ?_
            refine Nn 5 (y:=L7 (.ls 3 b8.length)) (L7 (.ls 3 (b8.set b3.toNat ({u12 with end_:=v5.2.n_})).length)) R (congrArg (λn=>AV.s (.one (.ls 3 n))) List.length_set.symm) ?_
            refine Nn 131 (y:=L7 (.ls 3 b8.length)) (L7 (.ls 3 (b8.set b3.toNat ({u12 with end_:=v5.2.n_})).length)) R (congrArg (λn=>AV.s (.one (.ls 3 n))) List.length_set.symm) ?_
            refine Nn 135 (y:=L7 (.ls 3 b8.length)) (L7 (.ls 3 (b8.set b3.toNat ({u12 with end_:=v5.2.n_})).length)) R (congrArg (λn=>AV.s (.one (.ls 3 n))) List.length_set.symm) ?_
            refine Ah (Au (rm 2 R (sv R (Az R) ?_)))
            obtain⟨u13,hu13,h⟩:=Ae h
            refine sv R (G8 (f:=Bm) At8 (λ_=>R) R R R R R hu13) ?_
            refine sv R (Pt (f:=Bm) (sz:=4) 0 A5p (λ_=>R) R R R R (Jd hu13).2 (Nbl R) R) ?_
            refine D7 R Tryz.underlying73 A0v R R (zI.1 R) (by decide) ?_
            refine Ql [.box Zba,.box (EL.el s2.2.1),.arr 79 4 0 (s2.2.2.1.flatMap Bm),.arr 79 4 0 ((b8.set b3.toNat ({u12 with end_:=v5.2.n_})).flatMap Bm),.box (EL.el v5.1),.box (EL.el v5.2),.arr 79 4 0 ([u13].flatMap Bm)] R ?_
            obtain⟨hb14,h⟩:=Cs h
            refine U1 (f:=Bm) (xs:=s2.2.2.1) (us:=[u13]) R Tryz.underlying73 A0v A41 (λ_=>R) R R (.one _ _ _ _ (.ls _ _ _ _ _ _ R (Aw (f:=Bm) (λ_=>R) [u13]).symm)) R R R (.sl _ _ _ (Aw (f:=Bm) (λ_=>R) _)) R R hb14 (by decide) ?_
            refine rm 1 R (Ah ?_)
            exact⟨((s2.2.2.1++[u13]),(b8.set b3.toNat ({u12 with end_:=v5.2.n_}))),_,h,⟨R,R,R,R,R,R,R,trivial⟩,R⟩
           ·refine Bf (Ab ?_)
            exact⟨(s2.2.2.1,b8),_,h,⟨R,R,R,R,R,R,R,trivial⟩,R⟩
          ·refine rm 5 R (Ah (Ce R (λhx=>Bool.noConfusion hx) (λ_=>?_)))
           refine Bf (Ab ?_)
           exact⟨(s2.2.2.1,b8),_,h,⟨R,R,R,R,R,R,R,trivial⟩,R⟩
         ·refine rm 10 R (Ah (Ce R (λhx=>Bool.noConfusion hx) (λ_=>?_)))
          refine Bf (Ab ?_)
          exact⟨(s2.2.2.1,b8),_,h,⟨R,R,R,R,R,R,R,trivial⟩,R⟩
        ·refine rm 18 R (Ah (Ce R (λhx=>Bool.noConfusion hx) (λ_=>?_)))
         refine Bf (Ab ?_)
         exact⟨(s2.2.2.1,b8),_,h,⟨R,R,R,R,R,R,R,trivial⟩,R⟩
      ·skip
       refine Au (rm 1 R (sv R (Az R) ?_))
       obtain⟨u15,hu15,h⟩:=Ae h
       refine sv R (B4 (f:=Dp) Ala (λ_=>R) R R R R hu15) ?_
       refine sv R (Bw Tr R) (sv R (B0 ti3 R (.cp _) R) (sv R (Dr R R) (rm 1 R (ssI 74 h R (λh=>?_) (λh=>?_)))))
       ·refine rm 2 R (son R R R ?_)
        obtain⟨u16,hu16,h⟩:=Ae h
        refine sv R (B4 (f:=Dp) Ala (λ_=>R) R R R R hu16) ?_
        refine son R R R (sv R (Bw Tr R) (son R R R (sv R (B0 ti3 R (.cp _) R) (son R R R (sv R (Dk R R) (rm 2 R (ssI 82 h R (λh=>?_) (λh=>?_))))))))
        ·refine son R R R (sv R (Aa Adt R) (son R R R (sv R (l1 Aw6 R R R) (son R R R (sv R (B6 R R) (rm 2 R (ssI 87 h R (λh=>?_) (λh=>?_))))))))
         ·refine rm 2 R (son R R R (sv R (H6 At8 R R (Aw (f:=Bm) (λ_=>R) _).symm) ?_))
          refine son R R R (sv R (Bv R R) (rm 1 R (Ah (ccI h R (λh=>?_) (λh=>?_)))))
          ·obtain⟨u17,hu17,h⟩:=Ae h
           obtain⟨u18,hu18,h⟩:=Ae h
           obtain⟨hb19,h⟩:=Cs h
           obtain⟨u20,hu20,h⟩:=Ae h
           refine Kb [14,17] [0,0,0,0,12,28,60,0,0,384,896,0,3968,8064,16380,32767,65535,131071] [[.box Zba,.box (EL.el s2.2.1),.arr 79 4 0 (s2.2.2.1.flatMap Bm),.arr 79 4 0 (b7.flatMap Bm),.box (EL.el v5.1),.box (EL.el v5.2)],[.box Zba,.box (EL.el s2.2.1),.arr 79 4 0 (s2.2.2.1.flatMap Bm),.arr 79 4 0 (b7.flatMap Bm),.box (EL.el v5.1),.box (EL.el v5.2)],[.box Zba,.box (EL.el s2.2.1),.arr 79 4 0 (s2.2.2.1.flatMap Bm),.arr 79 4 0 ((b7.set b3.toNat ({u20 with acts_:=(u17.acts_+([(Gk.mk u18 v5.2)]:List Gk).length)})).flatMap Bm),.box (EL.el v5.1),.box (EL.el v5.2)]] (by kernel_rfl) mixed (by kernel_rfl) (by decide) R R R R ?_
           refine emv R R (λ_=>Az R) ?_
           refine emv R R (λ_=>Az R) ?_
           refine ev (A6 0 R R) R R (Az R) (ev (A6 0 R R) R R (Az R) ?_)
           refine ev (A6 0 rfl rfl) rfl rfl (G8 (f:=Bm) At8 (λ_=>rfl) rfl rfl rfl (by first|rfl|exact List.length_set.symm) rfl hu17) ?_
           refine ev (A6 0 R R) R R (I5 Auh R R (Aw (f:=Bm) (λ_=>R) _).symm) ?_
           refine ev (A6 0 R R) R R (Aem (f:=Bm) 3 A6a (λ_=>R) R R R R (Jd hu17).2 R) ?_
           refine ev (A6 0 R R) R R (Az R) (ev (A6 0 R R) R R (Az R) (ev (A6 0 R R) R R (B4 (f:=Dp) Ala (λ_=>R) R R R R hu18) ?_))
           refine ev (A6 0 R R) R R (Bs (ys:=[Ii6 u18.What,Ii6 u18.N,Ii6 u18.Token,Ii6 u18.Attempt,.b u18.RO,.b u18.Del,SL u18.Key eU8,SL u18.Val eU8,SL u18.Rng.Lo eU8,SL u18.Rng.Hi eU8,.b u18.Rng.Open]) A00 R (.cp _) R R) (ev (A6 0 R R) R R (lo Ar1 R R R) (ev (A6 0 R R) R R (A2 A1p A14 (Aq R (Aq R A0)) (.cons _ _ _ _ _ _ _ R R (Nbl R) (.cons _ _ _ _ _ _ _ R R (Nbl R) (.nil _)))) ?_))
           refine ed (A6 0 R R) R R (Zw (out:=([(Gk.mk u18 v5.2)]:List Gk).flatMap Ae9) Tryz.underlying77 Ayi (Aq R A0) (.cons _ _ _ _ _ _ _ R R (Nbl R) (.nil _)) R (by decide)) ?_
           refine ee (x:=L7 (.jk 152 16 (u17.acts_+([(Gk.mk u18 v5.2)]:List Gk).length))) 0 R R R R R (λζ=>?_) ?_
           ·refine A08 hJ R Tryz.underlying77 Ayi A56 R R (.one _ _ _ _ (.id _ R)) (.sl _ _ _ (Aw (f:=Ae9) (λ_=>R) _)) hb19 ?_
            exact U9
           refine ev (A6 1 rfl rfl) rfl rfl (G8 (f:=Bm) At8 (λ_=>rfl) rfl rfl rfl (by first|rfl|exact List.length_set.symm) rfl hu20) ?_
           refine ev (A6 1 R R) R R (I5 Auh R R (Aw (f:=Bm) (λ_=>R) _).symm) ?_
           refine ee0 1 R R R R (λζ=>?_) ?_
           ·refine Ab2 (f:=Bm) (u':={u20 with acts_:=(u17.acts_+([(Gk.mk u18 v5.2)]:List Gk).length)}) (sz:=4) 3 A5y (λ_=>rfl) rfl rfl rfl rfl (by first|rfl|exact List.length_set.symm) rfl rfl (zI.1 rfl) (Jd hu20).2 (Nbl rfl) rfl ?_
            exact U9
           refine Ata 5 (y:=L7 (.ls 3 b7.length)) (L7 (.ls 3 (b7.set b3.toNat ({u20 with acts_:=(u17.acts_+([(Gk.mk u18 v5.2)]:List Gk).length)})).length)) R (congrArg (λn=>AV.s (.one (.ls 3 n))) List.length_set.symm) ?_
           refine Ata 89 (y:=L7 (.ls 3 b7.length)) (L7 (.ls 3 (b7.set b3.toNat ({u20 with acts_:=(u17.acts_+([(Gk.mk u18 v5.2)]:List Gk).length)})).length)) R (congrArg (λn=>AV.s (.one (.ls 3 n))) List.length_set.symm) ?_
           refine Ata 93 (y:=L7 (.ls 3 b7.length)) (L7 (.ls 3 (b7.set b3.toNat ({u20 with acts_:=(u17.acts_+([(Gk.mk u18 v5.2)]:List Gk).length)})).length)) R (congrArg (λn=>AV.s (.one (.ls 3 n))) List.length_set.symm) ?_
           refine Ata 95 (y:=L7 (.ls 3 b7.length)) (L7 (.ls 3 (b7.set b3.toNat ({u20 with acts_:=(u17.acts_+([(Gk.mk u18 v5.2)]:List Gk).length)})).length)) R (congrArg (λn=>AV.s (.one (.ls 3 n))) List.length_set.symm) ?_
           refine Adr (Ab ?_)
           exact⟨(b7.set b3.toNat ({u20 with acts_:=(u17.acts_+([(Gk.mk u18 v5.2)]:List Gk).length)})),_,h,⟨R,R,R,R,R,R,R,R,R,trivial⟩,R⟩
          ·refine Bf (Ab ?_)
           exact⟨b7,_,h,⟨R,R,R,R,R,R,R,R,R,trivial⟩,R⟩
         ·refine rm 5 R (Ah (Ce R (λhx=>Bool.noConfusion hx) (λ_=>?_)))
          refine Bf (Ab ?_)
          exact⟨b7,_,h,⟨R,R,R,R,R,R,R,R,R,trivial⟩,R⟩
        ·refine rm 10 R (Ah (Ce R (λhx=>Bool.noConfusion hx) (λ_=>?_)))
         refine Bf (Ab ?_)
         exact⟨b7,_,h,⟨R,R,R,R,R,R,R,R,R,trivial⟩,R⟩
       ·refine rm 18 R (Ah (Ce R (λhx=>Bool.noConfusion hx) (λ_=>?_)))
        refine Bf (Ab ?_)
        exact⟨b7,_,h,⟨R,R,R,R,R,R,R,R,R,trivial⟩,R⟩
     ·skip
      refine Au (rm 1 R (sv R (Az R) ?_))
      obtain⟨u21,hu21,h⟩:=Ae h
      refine sv R (B4 (f:=Dp) Ala (λ_=>R) R R R R hu21) ?_
      refine sv R (Bw Tr R) (sv R (B0 ti3 R (.cp _) R) (sv R (Dk R R) (rm 1 R (ssI 54 h R (λh=>?_) (λh=>?_)))))
      ·refine son R R R (sv R (Aa Adt R) (son R R R (sv R (l1 Aw6 R R R) (son R R R (sv R (B6 R R) (rm 1 R (Ah (ccI h R (λh=>?_) (λh=>?_)))))))))
       ·refine Au (rm 1 R (fl Aki ti3 R R R R R R (sv R (Aa K5 R) (fl M8 ti3 R R R R R R (sv R (A2 A5r A6o (Aq R (Aq R A0)) (.cons _ _ _ _ _ _ _ R R (Nbl R) (.cons _ _ _ _ _ _ _ R R (Nbl R) (.nil _)))) ?_)))))
        refine Aif 65 R (by(repeat' first|exact Ho.nil _|apply Ho.cons|apply Hl.one|apply Hl.agg|exact C5.nilj 152 16|exact C5.ls _ _ _ _ _ _ R (Aw (f:=Bm) (λ_=>R) _).symm|exact C5.id _ R|exact Cv.nil _|apply Cv.cons)) ?_
        refine D7 R Tryz.underlying73 A0v R R (zI.1 R) (by decide) ?_
        refine Ql [.box Zba,.box (EL.el s2.2.1),.arr 79 4 0 (s2.2.2.1.flatMap Bm),.arr 79 4 0 (s2.2.2.2.flatMap Bm),.box (EL.el v5.1),.box (EL.el v5.2),.arr 79 4 0 ([(B5.mk v5.2.n_ s2.2.1.Store.Ts 0 0)].flatMap Bm)] R ?_
        obtain⟨hb22,h⟩:=Cs h
        refine U1 (f:=Bm) (xs:=s2.2.2.2) (us:=[(B5.mk v5.2.n_ s2.2.1.Store.Ts 0 0)]) R Tryz.underlying73 A0v A41 (λ_=>R) R R (.one _ _ _ _ (.ls _ _ _ _ _ _ R (Aw (f:=Bm) (λ_=>R) [(B5.mk v5.2.n_ s2.2.1.Store.Ts 0 0)]).symm)) R R R (.sl _ _ _ (Aw (f:=Bm) (λ_=>R) _)) R R hb22 (by decide) ?_
        refine rm 1 R (Ah ?_)
        exact⟨(s2.2.2.2++[(B5.mk v5.2.n_ s2.2.1.Store.Ts 0 0)]),_,h,⟨R,R,R,R,R,R,R,R,R,trivial⟩,R⟩
       ·refine Bf (Ab ?_)
        exact⟨s2.2.2.2,_,h,⟨R,R,R,R,R,R,R,R,R,trivial⟩,R⟩
      ·refine rm 4 R (Ah (Ce R (λhx=>Bool.noConfusion hx) (λ_=>?_)))
       refine Bf (Ab ?_)
       exact⟨s2.2.2.2,_,h,⟨R,R,R,R,R,R,R,R,R,trivial⟩,R⟩
    ·skip
     refine Au (fl Adt Aw6 R R R R R R (sv R (B6 R R) (rm 1 R (ssI 43 h R (λh=>?_) (λh=>?_)))))
     ·refine son R R R (sv R (Aa Xr R) (son R R R (sv R (l1 ti3 R R R) (son R R R (sv R (B6 R R) (rm 1 R (Ah (ccI h R (λh=>?_) (λh=>?_)))))))))
      ·refine C3 (As (Bi (Ab (Au (rm 1 R (sv R (Bp R R) (rm 1 R (Ah ?_))))))))
       obtain rfl:=SJ h
       exact⟨(n2,((wI (s2.1+1)),s2.2.1,s2.2.2.1,s2.2.2.2)),_,hk2,⟨R,R,R,R,R,R,trivial⟩,R,zG _⟩
      ·refine Bf (Ab ?_)
       exact⟨(),_,h,⟨R,R,R,R,R,R,R,R,R,trivial⟩,R⟩
     ·refine rm 4 R (Ah (Ce R (λhx=>Bool.noConfusion hx) (λ_=>?_)))
      refine Bf (Ab ?_)
      exact⟨(),_,h,⟨R,R,R,R,R,R,R,R,R,trivial⟩,R⟩
   ·skip
    refine ccI h R (λh=>?_) (λh=>?_)
    ·refine Au (rm 1 R (sv R (Az R) ?_))
     obtain⟨u23,hu23,h⟩:=Ae h
     refine sv R (B4 (f:=Dp) Ala (λ_=>R) R R R R hu23) ?_
     refine sv R (Bw Az7 R) (sv R (B0 ti3 R (.cp _) R) (sv R (Ao4 R R) (rm 1 R (sv R (H6 At8 R R (Aw (f:=Bm) (λ_=>R) _).symm) ?_))))
     obtain⟨hz24,h⟩:=Cs h
     refine sv R (Au9 R R hz24) (rm 1 R (Ah ?_))
     exact⟨((wI ((BitVec.ofInt 64 u23.N &&& BitVec.ofInt 64 65535).toNat:Int)).tmod (s2.2.2.2.length:Int)),_,h,⟨R,R,R,R,R,R,R,trivial⟩,R⟩
    ·refine Bf (Ab ?_)
     exact⟨0,_,h,⟨R,R,R,R,R,R,R,trivial⟩,R⟩
  ·refine C3 (As (As (Bi (Ab ?_))))
   obtain rfl:=SJ h
   obtain rfl:_=x2:=hk2
   exact⟨(s2.2.1,s2.2.2.1),_,ho2,⟨R,R,R,trivial⟩,R⟩
def Q3 (a0:Ai) (b1:(List Df)) (b2:(List Ha)) (b3:(List Cb)) (b4:(List Fw)) (b5:(List J3)):Option Du :=
 some (Du.mk (Gi.mk a0.Store.Keys b1 a0.Store.Ts) (Oc.mk b2 (Nc.mk b3)) (Nx.mk b4) b5 a0.Next)
def H7 (a0:Ai) (s6:Int×(List J3)):Option (LB (Int×(List J3)) ((List J3))) :=
 if (decide (s6.1<(a0.Open.length:Int))) then((idx a0.Open s6.1).bind λu7=>if (s6.2.length+[(J3.mk u7.ID u7.Token u7.Attempt u7.Snap u7.RO (Vd.mk u7.Buf.L))].length)*64<=140737488355328 then(some (.cont ((wI (s6.1+1)),(s6.2++[(J3.mk u7.ID u7.Token u7.Attempt u7.Snap u7.RO (Vd.mk u7.Buf.L))])))) else none) else(some (.brk s6.2))
def N5 (a0:Ai) (b1:(List Df)) (b2:(List Ha)) (b3:(List Cb)) (b4:(List Fw)):Option Du :=
 (Cz (H7 a0) fuel (0,([]:List J3))).bind λe9=>Q3 a0 b1 b2 b3 b4 e9
def Gz (a0:Ai) (s10:Int×(List Fw)):Option (LB (Int×(List Fw)) ((List Fw))) :=
 if (decide (s10.1<(a0.Toks.L.length:Int))) then((idx a0.Toks.L s10.1).bind λu11=>if (s10.2.length+[(Fw.mk u11.Tok u11.Attempt u11.State u11.Ts)].length)*32<=140737488355328 then(some (.cont ((wI (s10.1+1)),(s10.2++[(Fw.mk u11.Tok u11.Attempt u11.State u11.Ts)])))) else none) else(some (.brk s10.2))
def Oi (a0:Ai) (b1:(List Df)) (b2:(List Ha)) (b3:(List Cb)):Option Du :=
 (Cz (Gz a0) fuel (0,([]:List Fw))).bind λe13=>N5 a0 b1 b2 b3 e13
def Gn (a0:Ai) (s14:Int×(List Cb)):Option (LB (Int×(List Cb)) ((List Cb))) :=
 if (decide (s14.1<(a0.Cert.Reads.L.length:Int))) then((idx a0.Cert.Reads.L s14.1).bind λu15=>(idx a0.Cert.Reads.L s14.1).bind λu16=>if (s14.2.length+([(Cb.mk u15.Tx u16.Rng)]:List Cb).length)*64<=140737488355328 then(some (.cont ((wI (s14.1+1)),(s14.2++([(Cb.mk u15.Tx u16.Rng)]:List Cb))))) else none) else(some (.brk s14.2))
def Og (a0:Ai) (b1:(List Df)) (b2:(List Ha)):Option Du :=
 (Cz (Gn a0) fuel (0,([]:List Cb))).bind λe18=>Oi a0 b1 b2 e18
def Gx (a0:Ai) (s19:Int×(List Ha)):Option (LB (Int×(List Ha)) ((List Ha))) :=
 if (decide (s19.1<(a0.Cert.Txs.length:Int))) then((idx a0.Cert.Txs s19.1).bind λu20=>if (s19.2.length+[(Ha.mk u20.ID u20.Begin u20.End u20.State u20.In u20.Out u20.RO u20.Keys)].length)*64<=140737488355328 then(some (.cont ((wI (s19.1+1)),(s19.2++[(Ha.mk u20.ID u20.Begin u20.End u20.State u20.In u20.Out u20.RO u20.Keys)])))) else none) else(some (.brk s19.2))
def Oa (a0:Ai) (b1:(List Df)):Option Du :=
 (Cz (Gx a0) fuel (0,([]:List Ha))).bind λe22=>Og a0 b1 e22
def Mq (s23:Int×(List Df)) (b24:(List Fu)):Option (LB (Int×(List Df)) ((List Df))) :=
 if (s23.2.length+[(Df.mk b24)].length)*24<=140737488355328 then(some (.cont ((wI (s23.1+1)),(s23.2++[(Df.mk b24)])))) else none
def Gv (a0:Ai) (s23:Int×(List Df)) (s26:Int×(List Fu)):Option (LB (Int×(List Fu)) ((List Fu))) :=
 (idx a0.Store.Chains s23.1).bind λu27=>if (decide (s26.1<(u27.L.length:Int))) then((idx a0.Store.Chains s23.1).bind λu28=>(idx u28.L s26.1).bind λu29=>if (s26.2.length+[(Fu.mk u29.Ts u29.Val u29.Del)].length)*40<=140737488355328 then(some (.cont ((wI (s26.1+1)),(s26.2++[(Fu.mk u29.Ts u29.Val u29.Del)])))) else none) else(some (.brk s26.2))
def G5 (a0:Ai) (s23:Int×(List Df)):Option (LB (Int×(List Df)) ((List Df))) :=
 if (decide (s23.1<(a0.Store.Chains.length:Int))) then((Cz (Gv a0 s23) fuel (0,([]:List Fu))).bind λe31=>Mq s23 e31) else(some (.brk s23.2))
end Go.Proofs.YtkblaobhhoebaaaGreat.Abs
