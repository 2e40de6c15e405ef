/-
 t
-/
import Derived.Test.YtkblaobhhoebaaaGreatWT14c
set_option linter.unusedVariables false
set_option linter.unusedSimpArgs false
namespace Go.Proofs.YtkblaobhhoebaaaGreat.Abs
open Go.RowKit Go.Proofs
set_option maxRecDepth 100000
def N0 (a0:List Fq) (a1:List Av) (a2:Bool):Option Bool :=
 (Rf).bind fun v1=>(O1 a0).bind fun v34=>if (!v34) then (some v1) else (if (decide (20<(a1.length:Int))) then (some v1) else (K7 a0 a1 a2 v1 ()))
theorem Xe {a0:List Fq} {a1:List Av} {a2:Bool} {r:Bool} (h:N0 a0 a1 a2=some r):Br Tryz.prog 8 [.one (.sl a0.length (a0.flatMap Dx)),.one (.sl a1.length (a1.flatMap Ao)),.one (.b a2)] (·=.s (.one (.b r))):=by
 unfold N0 at h
 refine A5 Tryz.func8 R (nt:=213) R (Nbl R) ?_
 intro w0 S0
 refine csr (rm 1 R (Ak (Bl (Aq ?_))))
 obtain ⟨v1,hv1,h⟩:=Ae h
 refine Ba R fn9 Af (An R) (Aay hv1) (rm 1 R (Ak (Bl (Bl (cj3 (Unit) (fun b2=>[(0,.s (.one (.sl a0.length (a0.flatMap Dx)))),(1,.s (.one (.sl a1.length (a1.flatMap Ao)))),(2,.s (.one (.b a2))),(7,.s (.one (.b v1)))]) (fun b2=>[]) (fun b2=>K7 a0 a1 a2 v1 b2=some r) (fun _=>R) (fun b2 h=>?_) ?_)))))
 ·unfold K7 at h
  refine csr (sv R (A4 R) ?_)
  obtain ⟨v3,hv3,h⟩:=Ae h
  refine Ba R A0w (Aa R Af) (An R) (Za hv3) (sv R (Ca R) (sv R (Aj R R) (sv R (Aj R R) (Bp R Qw (sst Jn R R R R R (rm 1 R (Ak (csr (sv R (Ac Pr R) (sv R (lo Vs R R R) ?_))))))))))
  obtain ⟨v4,hv4,h⟩:=Ae h
  refine Ba R Azw (Aa R Af) (An R) (Oj hv4) (rm 1 R (Ak (csr (sv R (lo Dd R R R) ?_))))
  obtain ⟨v5,hv5,h⟩:=Ae h
  refine Ba R Axj (Aa R (Aa R (Aa R (Aa R Af)))) (An R) (Ox hv5) (sv R (Ca R) (sv R (Aj R R) (sv R (Aj R R) (sv R (Aj R R) (sst Jn R R R R R (rm 2 R (Ak (Bl (csr (rm 1 R (sv R (Db R R) (Ak (ccI h R (fun h=>?_) (fun h=>?_))))))))))))))
  ·refine csr (rm 2 R (Ak (Bs (Ag ?_))))
   obtain rfl:=SJ h
   exact dnT R R R R
  ·refine Bf (Ab (csr (rm 1 R (Ak (Bl (csr (rm 1 R (Ak ?_))))))))
   refine C6 99 3 13 (by decide) R ?_
   refine cj (Ah × (List Av)) (fun b6=>[(2,.s (.one (.b a2))),(7,.s (.one (.b v1))),(8,.s (.one (.lp 0 0))),(10,.s (.one (.sl v4.length (v4.flatMap B7)))),(11,.s (.one (Ii6 v5.2.1))),(13,.s (.one (.ls 1 b6.2.length)))]) (fun b6=>[.box (EL.el b6.1),.arr 99 3 0 (b6.2.flatMap Ao)]) (fun b6=>Lb a2 v1 v4 v5 b6=some r) (fun _=>R) (fun b6 h=>?_) ?_
   ·unfold Lb at h
    refine Bl (csr (rm 1 R (Ak (ccI h R (fun h=>?_) (fun h=>?_)))))
    ·refine csr (ld Dd R R R R (sv R (A4 R) ?_))
     obtain ⟨v7,hv7,h⟩:=Ae h
     refine Ba R Az6 (Aa R (Aa R Af)) (An R) (T8 hv7) (sv R (Ca R) (sv R (Aj R R) (sv R (Aj R R) (Bp R Qw (sst Jn R R R R R (rm 1 R (Ak (csr (rm 2 R (ssI 108 h R (fun h=>?_) (fun h=>?_)))))))))))
     ·refine rm 1 R (son R R R (sv R (B4 R R) (rm 2 R (ssI 112 h R (fun h=>?_) (fun h=>?_)))))
      ·refine son R R R (sv R (Ac Pr R) (son R R R (ld Vs R R R R (son R R R ?_))))
       obtain ⟨v8,hv8,h⟩:=Ae h
       refine Ba R Azw (Aa R Af) (An R) (Oj hv8) (rm 1 R (son R R R ?_))
       obtain ⟨v9,hv9,h⟩:=Ae h
       refine Ba R A0i (Aa R (Aa R Af)) (An R) (W2 hv9) (rm 2 R (Ak (Bs (Ag ?_))))
       obtain rfl:=SJ h
       exact dnT R R R R
      ·refine rm 7 R (Ak (Bs (Ag ?_)))
       obtain rfl:=SJ h
       exact dnT R R R R
     ·refine rm 11 R (Ak (Bs (Ag ?_)))
      obtain rfl:=SJ h
      exact dnT R R R R
    ·refine Bf (Ab (csr (ld Dd R R R R (sv R (A4 R) ?_))))
     obtain ⟨v10,hv10,h⟩:=Ae h
     refine Ba R Aw8 (Aa R (Aa R Af)) (An R) (Nz hv10) (sv R (Ca R) (sv R (Aj R R) (sv R (Aj R R) (sv R (Aj R R) (Bp R Qw (sst Jn R R R R R (rm 2 R (Ak (Bl (csr (rm 1 R (sv R (Db R R) (Ak (ccI h R (fun h=>?_) (fun h=>?_)))))))))))))))
     ·refine csr (rm 2 R (ssI 129 h R (fun h=>?_) (fun h=>?_)))
      ·refine son R R R (sv R (Ac Pr R) (son R R R (ld Vs R R R R (son R R R ?_))))
       obtain ⟨v11,hv11,h⟩:=Ae h
       refine Ba R Azw (Aa R Af) (An R) (Oj hv11) (rm 1 R (son R R R ?_))
       obtain ⟨v12,hv12,h⟩:=Ae h
       refine Ba R A0i (Aa R (Aa R Af)) (An R) (W2 hv12) (rm 2 R (Ak (Bs (Ag ?_))))
       obtain rfl:=SJ h
       exact dnT R R R R
      ·refine rm 7 R (Ak (Bs (Ag ?_)))
       obtain rfl:=SJ h
       exact dnT R R R R
     ·refine Bf (Ab (Bl (csr (rm 1 R (Ak (cj (Unit) (fun b13=>[(7,.s (.one (.b v1))),(8,.s (.one (.lp 0 0))),(19,.s (.one (.lp 2 0)))]) (fun b13=>[.box (EL.el b6.1),.arr 99 3 0 (b6.2.flatMap Ao),.box (EL.el v10.1)]) (fun b13=>G3 v1 b6 v10 b13=some r) (fun _=>R) (fun b13 h=>?_) ?_))))))
      ·unfold G3 at h
       refine csr (rm 2 R (ssI 203 h R (fun h=>?_) (fun h=>?_)))
       ·refine son R R R (sv R (Ac Qt R) (son R R R (sv R (l1 Ahe R R R) (son R R R (sv R (Aw Y1 R) (son R R R (sv R (Ac Qt R) (son R R R (sv R (l1 Ahe R R R) (son R R R (sv R (Aw Y1 R) (son R R R (sv R (Nk R R) (son R R R (sv R (B4 R R) (rm 2 R (Ak (Bs ?_))))))))))))))))))
        obtain rfl:=SJ h
        exact dnT R R R R
       ·refine rm 10 R (Ak (Bs ?_))
        obtain rfl:=SJ h
        exact dnT R R R R
      ·skip
       refine Bq ?_
       obtain ⟨x14,hx14,ho14⟩:=Ae h
       refine lpo (G:=Nat × (Int)) (fun g=>[(7,.s (.one (.b v1))),(8,.s (.one (.lp 0 0))),(13,.s (.one (.ls 1 b6.2.length))),(19,.s (.one (.lp 2 0))),(22,.s (.one (Ii6 g.2)))]) (fun g=>[.box (EL.el b6.1),.arr 99 3 0 (b6.2.flatMap Ao),.box (EL.el v10.1)]) (fun g=>Lj (G5 b6 v10) g.1 g.2=some x14) (fun g=>g.1) (fuel,0) hx14 ⟨R,R,R,R,R,trivial⟩ [] R (fun _=>R) ?_
       clear hx14 h
       rintro ⟨n14,s14⟩ h
       obtain ⟨n14,y14,rfl,h,hk14⟩:=Es h
       unfold G5 at h
       refine Bl (csr (rm 2 R (sv R (Fu V5 R R (Au (f:=Ao) (fun _=>R) _).symm) ?_)))
       refine sv R (Bt R R) (Ak (ccI h R (fun h=>?_) (fun h=>?_)))
       ·refine Bf (Ab (Bl (Bq (csr (rm 1 R (Ak (Bl (csr (rm 1 R (sv R (Bo R R) (rm 1 R (Ak (cj (Bool) (fun b15=>[(7,.s (.one (.b v1))),(8,.s (.one (.lp 0 0))),(13,.s (.one (.ls 1 b6.2.length))),(19,.s (.one (.lp 2 0))),(22,.s (.one (Ii6 s14))),(23,.s (.one (.b b15)))]) (fun b15=>[.box (EL.el b6.1),.arr 99 3 0 (b6.2.flatMap Ao),.box (EL.el v10.1)]) (fun b15=>Jz b6 v10 s14 b15=some y14) (fun _=>R) (fun b15 h=>?_) ?_)))))))))))))
        ·unfold Jz at h
         refine Bl ?_
         obtain ⟨u16,hu16,h⟩:=Ae h
         obtain ⟨v17,hv17,h⟩:=Ae h
         refine Ig [] [0,1,0,0,12,28,60,0,128,384,1023,2047,4095,4095,8191,32767] [[.box (EL.el b6.1),.arr 99 3 0 (b6.2.flatMap Ao),.box (EL.el v10.1)]] (by kernel_rfl) mixed (by kernel_rfl) (by decide) R R R R ?_
         refine ev (A7 0 R R) R R (Ac Pr R) (ev (A7 0 R R) R R (lo Vs R R R) (ev (A7 0 R R) R R (A4 R) (ev (A7 0 R R) R R (A4 R) ?_)))
         refine ev (A7 0 rfl rfl) rfl rfl (Et (f:=Ao) V5 (fun _=>rfl) rfl rfl rfl (by first | rfl | exact List.length_set.symm) rfl hu16) ?_
         refine ev (A7 0 R R) R R (C3 Qg R R (Au (f:=Ao) (fun _=>R) _).symm) ?_
         refine ev (A7 0 R R) R R (Rs (f:=Ao) 0 Mz (fun _=>R) R R R R (Gq hu16).2 R) ?_
         refine ev (A7 0 R R) R R (Ac Pr R) (ev (A7 0 R R) R R (Ac Q7 R) (ev (A7 0 R R) R R (l1 ti3 R R R) (ed (A7 0 R R) R R (Cy A0c (Aa R (Aa R (Aa R Af))) R (Uj hv17)) (ev (A7 0 R R) R R (Ca R) (ev (A7 0 R R) R R (Aj R R) (ev (A7 0 R R) R R (Aj R R) (ev (A7 0 R R) R R (Iu R) (ev (A7 0 R R) R R (Iu R) (Aas (Ab (Bl ?_)))))))))))
         refine Z3 mixed (by kernel_rfl) ?_
         refine dv R (A4 R) (dv R (A4 R) (Tz 181 R (fun hc=>?_) (fun hc=>?_)))
         ·replace h:=Su hc h
          clear hc
          refine dvg R R R (A4 R) (dvg R R R (A4 R) (dvg R R R (A4 R) ?_))
          obtain ⟨u18,hu18,h⟩:=Ae h
          refine dvg R R R (Et (f:=Ao) V5 (fun _=>R) R R R R R hu18) ?_
          refine dvg R R R (C3 Abn R R (Au (f:=Ao) (fun _=>R) _).symm) ?_
          refine dvg R R R (Rs (f:=Ao) 2 ti4 (fun _=>R) R R R R (Gq hu18).2 R) ?_
          refine dvg R R R (B0 R) (dvg R R R (Aop Tryz.underlying4 R R) (dvg R R R (A4 R) (Tz 190 R (fun hc=>?_) (fun hc=>?_))))
          ·replace h:=Su hc h
           clear hc
           refine G7 R R R R (G7 R R R R (G7 R R R R (G7 R R R R (G7 R R R R (G7 R R R R (G7 R R R R (G7 R R R R (G7 R R R R (dvg R R R (Er R R) (dv R (Er R R) (Zq (Ab (Ci R (fun _=>?_) (fun hx=>Bool.noConfusion hx))))))))))))))
           refine csr (rm 1 R (Ak (Bs (Az (Ag (Ag (Az (Ag ?_))))))))
           obtain rfl:=SJ h
           obtain rfl:Sum.inl _=x14:=hk14
           replace ho14:some _=some _:=ho14
           obtain rfl:=zD ho14
           exact dnT R R R R
          ·replace h:=S6 hc h
           clear hc
           refine dvg R R R (A4 R) (dvg R R R (Q4 (l:=v17.1) Tryz.underlying56 Tryz.underlying5 Tryz.underlying9 R R R) (dvg R R R (A4 R) (dvg R R R (A4 R) ?_)))
           obtain ⟨u19,hu19,h⟩:=Ae h
           refine dvg R R R (Et (f:=Ao) V5 (fun _=>R) R R R R R hu19) ?_
           refine dvg R R R (C3 Xa R R (Au (f:=Ao) (fun _=>R) _).symm) ?_
           refine dvg R R R (Rs (f:=Ao) 1 Mz (fun _=>R) R R R R (Gq hu19).2 R) ?_
           refine dvg R R R (Q4 (l:=u19.Val) Tryz.underlying56 Tryz.underlying5 Tryz.underlying9 R R R) (dvg R R R (Wm R R) (dvg R R R (Hq R R) (dv R (Er R R) (Zq (Ab (ccI h R (fun h=>?_) (fun h=>?_)))))))
           ·refine csr (rm 1 R (Ak (Bs (Az (Ag (Ag (Az (Ag ?_))))))))
            obtain rfl:=SJ h
            obtain rfl:Sum.inl _=x14:=hk14
            replace ho14:some _=some _:=ho14
            obtain rfl:=zD ho14
            exact dnT R R R R
           ·refine Bf (Ap (Ab (Aq (rm 1 R (sv R (Bo R R) (rm 1 R (Ak ?_)))))))
            obtain rfl:=SJ h
            exact ⟨(n14,(wI (s14+1))),_,hk14,⟨R,R,R,R,R,trivial⟩,R,zG _⟩
         ·replace h:=S6 hc h
          clear hc
          refine G7 R R R R (G7 R R R R (G7 R R R R (G7 R R R R (G7 R R R R (G7 R R R R (G7 R R R R (G7 R R R R (G7 R R R R (Adb R R R (Adb R R R (Adb R R R (Adb R R R (Adb R R R (Adb R R R (Adb R R R (Adb R R R (Adb R R R (G7 R R R R (dv R (Hq R R) (Zq (Ab (Ci R (fun hx=>Bool.noConfusion hx) (fun _=>?_)))))))))))))))))))))))
          refine Bf (Ap (Ab (Aq (rm 1 R (sv R (Bo R R) (rm 1 R (Ak ?_)))))))
          obtain rfl:=SJ h
          exact ⟨(n14,(wI (s14+1))),_,hk14,⟨R,R,R,R,R,trivial⟩,R,zG _⟩
        ·skip
         refine Bq ?_
         obtain ⟨x20,hx20,ho20⟩:=Ae h
         refine lpo (G:=Nat × (Bool × Int)) (fun g=>[(7,.s (.one (.b v1))),(8,.s (.one (.lp 0 0))),(13,.s (.one (.ls 1 b6.2.length))),(19,.s (.one (.lp 2 0))),(22,.s (.one (Ii6 s14))),(23,.s (.one (.b g.2.1))),(24,.s (.one (Ii6 g.2.2)))]) (fun g=>[.box (EL.el b6.1),.arr 99 3 0 (b6.2.flatMap Ao),.box (EL.el v10.1)]) (fun g=>Ct (Fe b6 s14) g.1 g.2=some x20) (fun g=>g.1) (fuel,(true,(wI (s14+1)))) hx20 ⟨R,R,R,R,R,R,R,trivial⟩ [] R (fun _=>R) ?_
         clear hx20 h
         rintro ⟨n20,s20⟩ h
         obtain ⟨n20,y20,rfl,h,hk20⟩:=Cu h
         unfold Fe at h
         refine Bl (csr (rm 2 R (sv R (Fu V5 R R (Au (f:=Ao) (fun _=>R) _).symm) ?_)))
         refine sv R (Bt R R) (Ak (ccI h R (fun h=>?_) (fun h=>?_)))
         ·refine Bf (Ab (Bl (Bq ?_)))
          refine Auq mixed (by kernel_rfl) ?_
          refine dv R (A4 R) (dv R (A4 R) (Tz 151 R (fun hc=>?_) (fun hc=>?_)))
          ·replace h:=Su hc h
           clear hc
           refine dvg R R R (A4 R) (dvg R R R (A4 R) ?_)
           obtain ⟨u21,hu21,h⟩:=Ae h
           refine dvg R R R (Et (f:=Ao) V5 (fun _=>R) R R R R R hu21) ?_
           refine dvg R R R (C3 Qg R R (Au (f:=Ao) (fun _=>R) _).symm) ?_
           refine dvg R R R (Rs (f:=Ao) 0 Mz (fun _=>R) R R R R (Gq hu21).2 R) ?_
           refine dvg R R R (Q4 (l:=u21.Key) Tryz.underlying56 Tryz.underlying5 Tryz.underlying9 R R R) (dvg R R R (A4 R) (dvg R R R (A4 R) ?_))
           obtain ⟨u22,hu22,h⟩:=Ae h
           refine dvg R R R (Et (f:=Ao) V5 (fun _=>R) R R R R R hu22) ?_
           refine dvg R R R (C3 Qg R R (Au (f:=Ao) (fun _=>R) _).symm) ?_
           refine dvg R R R (Rs (f:=Ao) 0 Mz (fun _=>R) R R R R (Gq hu22).2 R) ?_
           refine dvg R R R (Q4 (l:=u22.Key) Tryz.underlying56 Tryz.underlying5 Tryz.underlying9 R R R) (dvg R R R (Wm R R) (dv R (Er R R) (dv R (Iu R) (Zq (Ap (Ab (Aq (rm 1 R (sv R (Bo R R) (rm 1 R (Ak ?_)))))))))))
           obtain rfl:=SJ h
           exact ⟨(n20,((!(u21.Key == u22.Key)),(wI (s20.2+1)))),_,hk20,⟨R,R,R,R,R,R,R,trivial⟩,R,zG _⟩
          ·replace h:=S6 hc h
           clear hc
           refine G7 R R R R (G7 R R R R (G7 R R R R (G7 R R R R (G7 R R R R (G7 R R R R (G7 R R R R (G7 R R R R (G7 R R R R (G7 R R R R (G7 R R R R (G7 R R R R (G7 R R R R (dv R (Hq R R) (dv R (Iu R) (Zq (Ap (Ab (Aq (rm 1 R (sv R (Bo R R) (rm 1 R (Ak ?_))))))))))))))))))))))
           obtain rfl:=SJ h
           exact ⟨(n20,(false,(wI (s20.2+1)))),_,hk20,⟨R,R,R,R,R,R,R,trivial⟩,R,zG _⟩
         ·refine Da (As (As (Bj (Ab ?_))))
          obtain rfl:=SJ h
          obtain rfl:_=x20:=hk20
          exact ⟨s20.1,_,ho20,⟨R,R,R,R,R,R,trivial⟩,R⟩
       ·refine Da (As (As (Bj (Ab ?_))))
        obtain rfl:=SJ h
        obtain rfl:_=x14:=hk14
        exact ⟨(),_,ho14,⟨R,R,R,trivial⟩,R⟩
   ·skip
    refine Bq ?_
    obtain ⟨x25,hx25,ho25⟩:=Ae h
    refine lpo (G:=Nat × (Int × Ah × (List Av))) (fun g=>[(1,.s (.one (.sl a1.length (a1.flatMap Ao)))),(2,.s (.one (.b a2))),(7,.s (.one (.b v1))),(8,.s (.one (.lp 0 0))),(10,.s (.one (.sl v4.length (v4.flatMap B7)))),(11,.s (.one (Ii6 v5.2.1))),(13,.s (.one (.ls 1 g.2.2.2.length))),(14,.s (.one (Ii6 g.2.1)))]) (fun g=>[.box (EL.el g.2.2.1),.arr 99 3 0 (g.2.2.2.flatMap Ao)]) (fun g=>Lj (E6 a1 v1 v5) g.1 g.2=some x25) (fun g=>g.1) (fuel,(0,v5.1,([]:List Av))) hx25 ⟨R,R,R,R,R,R,R,R,trivial⟩ [] R (fun _=>R) ?_
    clear hx25 h
    rintro ⟨n25,s25⟩ h
    obtain ⟨n25,y25,rfl,h,hk25⟩:=Es h
    unfold E6 at h
    refine Bl (csr (rm 2 R (sv R (Aw V5 R) (sv R (Bt R R) (Ak (ccI h R (fun h=>?_) (fun h=>?_)))))))
    ·refine Bf (Ab (Bl (Bq (Bl (Bl (cj3 (Unit) (fun b26=>[(1,.s (.one (.sl a1.length (a1.flatMap Ao)))),(2,.s (.one (.b a2))),(7,.s (.one (.b v1))),(8,.s (.one (.lp 0 0))),(10,.s (.one (.sl v4.length (v4.flatMap B7)))),(11,.s (.one (Ii6 v5.2.1))),(13,.s (.one (.ls 1 s25.2.2.length))),(14,.s (.one (Ii6 s25.1)))]) (fun b26=>[.box (EL.el s25.2.1),.arr 99 3 0 (s25.2.2.flatMap Ao)]) (fun b26=>Jv a1 v1 v5 s25 b26=some y25) (fun _=>R) (fun b26 h=>?_) ?_))))))
     ·unfold Jv at h
      refine Bl (Aah ?_)
      obtain ⟨u27,hu27,h⟩:=Ae h
      obtain ⟨v28,hv28,h⟩:=Ae h
      refine Ig [10,11] [0,0,0,0,12,28,63,127,255,255,0,1535,4095] [[.box (EL.el s25.2.1),.arr 99 3 0 (s25.2.2.flatMap Ao),.hole],[.box (EL.el s25.2.1),.arr 99 3 0 (s25.2.2.flatMap Ao),.box Zba],[.box (EL.el s25.2.1),.arr 99 3 0 (s25.2.2.flatMap Ao),.box (EL.el v28.1)]] (by kernel_rfl) mixed (by kernel_rfl) (by decide) R R R R ?_
      refine ev (B5 (md:=[.box (EL.el s25.2.1),.arr 99 3 0 (s25.2.2.flatMap Ao),.dead]) ⟨⟨R,⟨R,⟨trivial,trivial⟩⟩⟩,⟨⟨R,⟨R,⟨trivial,trivial⟩⟩⟩,⟨⟨R,⟨R,⟨trivial,trivial⟩⟩⟩,trivial⟩⟩⟩) R R (lo Dd R R R) (emv R R (fun _=>A4 R) ?_)
      refine emv R R (fun _=>A4 R) ?_
      refine emv R R (fun _=>A4 R) ?_
      refine ev (B5 (md:=[.box (EL.el s25.2.1),.arr 99 3 0 (s25.2.2.flatMap Ao),.dead]) ⟨⟨R,⟨R,⟨trivial,trivial⟩⟩⟩,⟨⟨R,⟨R,⟨trivial,trivial⟩⟩⟩,⟨⟨R,⟨R,⟨trivial,trivial⟩⟩⟩,trivial⟩⟩⟩) R R (B8 (f:=Ao) V5 (fun _=>R) R R R R hu27) ?_
      refine evs (md:=[.box (EL.el s25.2.1),.arr 99 3 0 (s25.2.2.flatMap Ao),.dead]) (fun hS=>ev (B5 hS) R R (Bz (ys:=[.sl u27.Key.length (u27.Key.flatMap eU8),.sl u27.Val.length (u27.Val.flatMap eU8),.b u27.Del]) Ady R (.cp _) R R) (ed (B5 hS) R R (Cy Axf (Aa R (Aa R (Aa R Af))) R (Qi hv28)) (emv R R (fun _=>Ca R) ?_))) ⟨⟨R,⟨R,⟨trivial,trivial⟩⟩⟩,⟨⟨R,⟨R,⟨trivial,trivial⟩⟩⟩,⟨⟨R,⟨R,⟨trivial,trivial⟩⟩⟩,trivial⟩⟩⟩
      refine evs (md:=[.box (EL.el s25.2.1),.arr 99 3 0 (s25.2.2.flatMap Ao),.dead]) (fun hS=>ev (B5 hS) R R (Aj R R) (ev (B5 hS) R R (Aj R R) (ee (x:=.s (.one (.lp 2 0))) 0 R R R R R (fun ζ=>?_) ?_))) ⟨⟨R,⟨R,⟨trivial,trivial⟩⟩⟩,⟨⟨R,⟨R,⟨trivial,trivial⟩⟩⟩,⟨⟨R,⟨R,⟨trivial,trivial⟩⟩⟩,trivial⟩⟩⟩
      ·refine Mg 2 R Qw R ?_
       exact Sv
      refine ee0 1 R R R R (fun ζ=>?_) ?_
      ·refine sst Jn R R R R R (Pz [.box (EL.el s25.2.1),.arr 99 3 0 (s25.2.2.flatMap Ao),.box (EL.el v28.1)] R ?_)
       exact Sv
      refine ev (A7 2 R R) R R (Iu R) (Aas (Ab (Bl (csr (rm 1 R (sv R (B4 R R) (Ak (ccI h R (fun h=>?_) (fun h=>?_)))))))))
      ·refine csr (rm 2 R (Ak (Bs (Ag (Az (Ag (Ag (Az (Ag ?_)))))))))
       obtain rfl:=SJ h
       obtain rfl:Sum.inl _=x25:=hk25
       replace ho25:some _=some _:=ho25
       obtain rfl:=zD ho25
       exact dnT R R R R
      ·refine Bf (Ab (csr (rm 1 R (sv R (B4 R R) (Ak (ccI h R (fun h=>?_) (fun h=>?_)))))))
       ·refine csr (ld Dd R R R R (sst Jn R R R R R (Ak (Aq (rm 2 R (sv R (A4 R) ?_))))))
        obtain ⟨u29,hu29,h⟩:=Ae h
        refine sv R (B8 (f:=Ao) V5 (fun _=>R) R R R R hu29) ?_
        refine sv R (Bz (ys:=[.sl u29.Key.length (u29.Key.flatMap eU8),.sl u29.Val.length (u29.Val.flatMap eU8),.b u29.Del]) Ady R (.cp _) R R) ?_
        refine Fo R Tryz.underlying84 Au5 R R (zJ.1 R) (by decide) ?_
        refine Pz [.box (EL.el v28.1),.arr 99 3 0 (s25.2.2.flatMap Ao),.box (EL.el v28.1),.arr 99 3 0 ([u29].flatMap Ao)] R ?_
        obtain ⟨hb30,h⟩:=Cp h
        refine Tr (f:=Ao) (xs:=s25.2.2) (us:=[u29]) R Tryz.underlying84 Au5 A0o (fun _=>R) R R (.one _ _ _ _ (.ls _ _ _ _ _ _ R (Au (f:=Ao) (fun _=>R) [u29]).symm)) R R R (.sl _ _ _ (Au (f:=Ao) (fun _=>R) _)) R R hb30 (by decide) ?_
        refine rm 1 R (Kz (Ap (Ab (Aq (rm 1 R (sv R (Bo R R) (rm 1 R (Ak ?_))))))))
        obtain rfl:=SJ h
        exact ⟨(n25,((wI (s25.1+1)),v28.1,(s25.2.2++[u29]))),_,hk25,⟨R,R,R,R,R,R,R,R,trivial⟩,R,zG _⟩
       ·refine Bf (Ap (Ab (Aq (rm 1 R (sv R (Bo R R) (rm 1 R (Ak ?_)))))))
        obtain rfl:=SJ h
        exact ⟨(n25,((wI (s25.1+1)),s25.2.1,s25.2.2)),_,hk25,⟨R,R,R,R,R,R,R,R,trivial⟩,R,zG _⟩
     ·skip
      refine Aq (rm 1 R (sv R (A4 R) ?_))
      obtain ⟨u31,hu31,h⟩:=Ae h
      refine sv R (B8 (f:=Ao) V5 (fun _=>R) R R R R hu31) ?_
      refine sv R (B9 Qg R) (sv R (B6 Mz R (.cp _) R) (sv R (Aw Yc R) (sv R (C5 R R) (rm 1 R (ssI 67 h R (fun h=>?_) (fun h=>?_))))))
      ·refine rm 8 R (Ak (Ci R (fun _=>?_) (fun hx=>Bool.noConfusion hx)))
       refine csr (rm 2 R (Ak (Bs (Ag (Az (Ag (Ag (Az (Ag ?_)))))))))
       obtain rfl:=SJ h
       obtain rfl:Sum.inl _=x25:=hk25
       replace ho25:some _=some _:=ho25
       obtain rfl:=zD ho25
       exact dnT R R R R
      ·refine rm 2 R (son R R R ?_)
       obtain ⟨u32,hu32,h⟩:=Ae h
       refine sv R (B8 (f:=Ao) V5 (fun _=>R) R R R R hu32) ?_
       refine son R R R (sv R (B9 Xa R) (son R R R (sv R (B6 Mz R (.cp _) R) (son R R R (sv R (Aw Yc R) (son R R R (sv R (C5 R R) (rm 1 R (Ak (ccI h R (fun h=>?_) (fun h=>?_)))))))))))
       ·refine csr (rm 2 R (Ak (Bs (Ag (Az (Ag (Ag (Az (Ag ?_)))))))))
        obtain rfl:=SJ h
        obtain rfl:Sum.inl _=x25:=hk25
        replace ho25:some _=some _:=ho25
        obtain rfl:=zD ho25
        exact dnT R R R R
       ·refine Bf (Ab ?_)
        exact ⟨(),_,h,⟨R,R,R,R,R,R,R,R,trivial⟩,R⟩
    ·refine Da (As (As (Bj (Ab ?_))))
     obtain rfl:=SJ h
     obtain rfl:_=x25:=hk25
     exact ⟨(s25.2.1,s25.2.2),_,ho25,⟨R,R,R,R,R,R,trivial⟩,R⟩
 ·skip
  refine Aq (sv R (A4 R) ?_)
  obtain ⟨v34,hv34,h⟩:=Ae h
  refine Ba R A1s (Aa R Af) (An R) (Aap hv34) (sv R (B0 R) (rm 1 R (ssI 31 h R (fun h=>?_) (fun h=>?_))))
  ·refine rm 4 R (Ak (Ci R (fun _=>?_) (fun hx=>Bool.noConfusion hx)))
   refine csr (rm 2 R (Ak (Bs (Ag ?_))))
   obtain rfl:=SJ h
   exact dnT R R R R
  ·refine rm 1 R (son R R R (sv R (Aw V5 R) (son R R R (sv R (C5 R R) (rm 1 R (Ak (ccI h R (fun h=>?_) (fun h=>?_))))))))
   ·refine csr (rm 2 R (Ak (Bs (Ag ?_))))
    obtain rfl:=SJ h
    exact dnT R R R R
   ·refine Bf (Ab ?_)
    exact ⟨(),_,h,⟨R,R,R,R,trivial⟩,R⟩
end Go.Proofs.YtkblaobhhoebaaaGreat.Abs
