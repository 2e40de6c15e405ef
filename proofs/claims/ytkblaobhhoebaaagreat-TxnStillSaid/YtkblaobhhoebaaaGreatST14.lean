/-
 t
-/
import Derived.Test.YtkblaobhhoebaaaGreatST14c
set_option linter.unusedVariables false
set_option linter.unusedSimpArgs false
namespace Go.Proofs.YtkblaobhhoebaaaGreat.Abs
open Go.RowKit Go.Proofs
set_option maxRecDepth 100000
def Mg (a0:Ai):Option Du :=
 (Cz (G5 a0) fuel (0,([]:List Df))).bind λe32=>Oa a0 e32
theorem Vp {a0:Ai} {r:Du} (h:Mg a0=some r):Bt Qx0 15 [.agg (EL.el a0)] (·=.s (.agg (EL.el r))):=by
 unfold Mg at h
 refine A1 Tryz.func15 R (nt:=212) R (Nbl R) ?_
 intro w0 S0
 refine csr (Er R R (Br R A0x (Ah (csr (sv R (Aa K5 R) (fl R9 Xo R R R R R R (sv R (Aa K5 R) (fl M8 ti3 R R R R R R (sv R (A2 A5d A50 (Aq R (Aq R A0)) (.cons _ _ _ _ _ _ _ R R (Nbl R) (.cons _ _ _ _ _ _ _ R R (Nbl R) (.nil _)))) (fl Xr ti3 R R R R R R (sv R (A2 A0x A6h (Aq R (Aq R A0)) (.cons _ _ _ _ _ _ _ R R (Nbl R) (.cons _ _ _ _ _ _ _ R R (Nbl R) (.nil _)))) (Br R A0x (sst A1v R R R R R (Ah (Bj (csr (rm 1 R (Ah ?_))))))))))))))))))
 refine Ln 131 1 2 1 (by decide) R R ?_
 refine cj ((List Df)) (λb1=>[(1,L7 (.lp 0 0)),(2,L7 (.lp 1 0)),(3,L7 (.lp 2 0))]) (λb1=>[.box (EL.el a0),.box Zba,.box [SL a0.Store.Keys (eL eU8),.ls 3 b1.length,Ii6 a0.Store.Ts,Znl,Znl,Znl,Znl,Ii6 a0.Next],.arr 131 1 0 (b1.flatMap Ci)]) (λb1=>Oa a0 b1=some r) (λ_=>R) (λb1 h=>?_) ?_
 ·unfold Oa at h
  refine Bj (csr (rm 1 R (Ah ?_)))
  refine Ln 140 8 2 3 (by decide) R R ?_
  refine cj ((List Ha)) (λb2=>[(1,L7 (.lp 0 0)),(2,L7 (.lp 1 0)),(3,L7 (.lp 2 0))]) (λb2=>[.box (EL.el a0),.box Zba,.box [SL a0.Store.Keys (eL eU8),.ls 3 b1.length,Ii6 a0.Store.Ts,.ls 4 b2.length,Znl,Znl,Znl,Ii6 a0.Next],.arr 131 1 0 (b1.flatMap Ci),.arr 140 8 0 (b2.flatMap G6)]) (λb2=>Og a0 b1 b2=some r) (λ_=>R) (λb2 h=>?_) ?_
  ·unfold Og at h
   refine Bj (csr (rm 1 R (Ah ?_)))
   refine Ln 143 4 2 4 (by decide) R R ?_
   refine cj ((List Cb)) (λb3=>[(1,L7 (.lp 0 0)),(2,L7 (.lp 1 0)),(3,L7 (.lp 2 0))]) (λb3=>[.box (EL.el a0),.box Zba,.box [SL a0.Store.Keys (eL eU8),.ls 3 b1.length,Ii6 a0.Store.Ts,.ls 4 b2.length,.ls 5 b3.length,Znl,Znl,Ii6 a0.Next],.arr 131 1 0 (b1.flatMap Ci),.arr 140 8 0 (b2.flatMap G6),.arr 143 4 0 (b3.flatMap C4)]) (λb3=>Oi a0 b1 b2 b3=some r) (λ_=>R) (λb3 h=>?_) ?_
   ·unfold Oi at h
    refine Bj (csr (rm 1 R (Ah ?_)))
    refine Ln 146 4 2 5 (by decide) R R ?_
    refine cj ((List Fw)) (λb4=>[(1,L7 (.lp 0 0)),(2,L7 (.lp 1 0)),(3,L7 (.lp 2 0))]) (λb4=>[.box (EL.el a0),.box Zba,.box [SL a0.Store.Keys (eL eU8),.ls 3 b1.length,Ii6 a0.Store.Ts,.ls 4 b2.length,.ls 5 b3.length,.ls 6 b4.length,Znl,Ii6 a0.Next],.arr 131 1 0 (b1.flatMap Ci),.arr 140 8 0 (b2.flatMap G6),.arr 143 4 0 (b3.flatMap C4),.arr 146 4 0 (b4.flatMap Dc)]) (λb4=>N5 a0 b1 b2 b3 b4=some r) (λ_=>R) (λb4 h=>?_) ?_
    ·unfold N5 at h
     refine Bj (csr (rm 1 R (Ah ?_)))
     refine Ln 127 6 2 6 (by decide) R R ?_
     refine cj ((List J3)) (λb5=>[(2,L7 (.lp 1 0)),(3,L7 (.lp 2 0))]) (λb5=>[.box (EL.el a0),.box Zba,.box [SL a0.Store.Keys (eL eU8),.ls 3 b1.length,Ii6 a0.Store.Ts,.ls 4 b2.length,.ls 5 b3.length,.ls 6 b4.length,.ls 7 b5.length,Ii6 a0.Next],.arr 131 1 0 (b1.flatMap Ci),.arr 140 8 0 (b2.flatMap G6),.arr 143 4 0 (b3.flatMap C4),.arr 146 4 0 (b4.flatMap Dc),.arr 127 6 0 (b5.flatMap Me)]) (λb5=>Q3 a0 b1 b2 b3 b4 b5=some r) (λ_=>R) (λb5 h=>?_) ?_
     ·unfold Q3 at h
      refine csr (ld A30 R R R R (sst A1v R R R R R (Ah (Bq ?_))))
      obtain rfl:=SJ h
      refine⟨Or.inr R,_,_,_,(Ad (ra A30 R R R) Aj),(by(repeat' first|exact Ho.nil _|apply Ho.cons|apply Hl.one|apply Hl.agg|exact C5.nil|exact C5.ls _ _ _ _ _ _ R (Aw (f:=Ci) (λ_=>R) _).symm|exact C5.ls _ _ _ _ _ _ R (Aw (f:=C4) (λ_=>R) _).symm|exact C5.ls _ _ _ _ _ _ R (Aw (f:=G6) (λ_=>R) _).symm|exact C5.ls _ _ _ _ _ _ R (Aw (f:=Dc) (λ_=>R) _).symm|exact C5.ls _ _ _ _ _ _ R (Aw (f:=Me) (λ_=>R) _).symm|exact C5.id _ R|exact Cv.nil _|apply Cv.cons)),?_⟩
      rfl
     ·skip
      refine Bl ?_
      obtain⟨x6,hx6,ho6⟩:=Ae h
      refine lpo (G:=Nat×(Int×(List J3))) (λg=>[(1,L7 (.lp 0 0)),(2,L7 (.lp 1 0)),(3,L7 (.lp 2 0)),(13,L7 (Ii6 g.2.1))]) (λg=>[.box (EL.el a0),.box Zba,.box [SL a0.Store.Keys (eL eU8),.ls 3 b1.length,Ii6 a0.Store.Ts,.ls 4 b2.length,.ls 5 b3.length,.ls 6 b4.length,.ls 7 g.2.2.length,Ii6 a0.Next],.arr 131 1 0 (b1.flatMap Ci),.arr 140 8 0 (b2.flatMap G6),.arr 143 4 0 (b3.flatMap C4),.arr 146 4 0 (b4.flatMap Dc),.arr 127 6 0 (g.2.2.flatMap Me)]) (λg=>Cz (H7 a0) g.1 g.2=some x6) (λg=>g.1) (fuel,(0,([]:List J3))) hx6 ⟨R,R,R,R,trivial⟩ [] R (λ_=>R) ?_
      clear hx6 h
      rintro⟨n6,s6⟩ h
      obtain⟨n6,y6,rfl,h,hk6⟩:=Cw h
      unfold H7 at h
      refine Bj (csr (rm 1 R (fl Td Ai9 R R R R R R (sv R (Ap Aay R) (sv R (Bv R R) (Ah (ccI h R (λh=>?_) (λh=>?_))))))))
      ·refine Bf (Ab (Bj (Bl (csr (fl Td Ai9 R R R R R R (sv R (Az R) ?_))))))
       obtain⟨u7,hu7,h⟩:=Ae h
       refine sv R (B4 (f:=Bu) Aay (λ_=>R) R R R R hu7) ?_
       refine sv R (Bs (ys:=[Ii6 u7.ID,Ii6 u7.Token,Ii6 u7.Attempt,Ii6 u7.Snap,.b u7.RO,SL u7.Buf.L A5]) Zc R (.cp _) R R) (Br R Ad7 (sst Adv R R R R R (Ah (Au (fl Abp Aw8 R R R R R R (fl Tv ti3 R R R R R R (fl Adw ti3 R R R R R R (fl Ahe ti3 R R R R R R (fl Afr ti3 R R R R R R (fl Akh ti4 R R R R R R (sv R (Aa Yr R) (fl Xn Am4 R R R R R R (sv R (A2 A4d A3b (Aq R A0) (.cons _ _ _ _ _ _ _ R R (Nbl R) (.nil _))) (sv R (A2 Avb A1c (Aq R (Aq R (Aq R (Aq R (Aq R (Aq R A0)))))) (Si [Ii6 u7.ID,Ii6 0,Ii6 0,Ii6 0,.b false,Znl] R R (Nbl R) R (Si [Ii6 u7.ID,Ii6 u7.Token,Ii6 0,Ii6 0,.b false,Znl] R R (Nbl R) R (Si [Ii6 u7.ID,Ii6 u7.Token,Ii6 u7.Attempt,Ii6 0,.b false,Znl] R R (Nbl R) R (Si [Ii6 u7.ID,Ii6 u7.Token,Ii6 u7.Attempt,Ii6 u7.Snap,.b false,Znl] R R (Nbl R) R (Si [Ii6 u7.ID,Ii6 u7.Token,Ii6 u7.Attempt,Ii6 u7.Snap,.b u7.RO,Znl] R R (Nbl R) R (Si [Ii6 u7.ID,Ii6 u7.Token,Ii6 u7.Attempt,Ii6 u7.Snap,.b u7.RO,SL u7.Buf.L A5] R R (Nbl R) R (.nil _)))))))) ?_))))))))))))))
       refine D7 R Tryz.underlying53 Axt R R (zI.1 R) (by decide) ?_
       refine Ql [.box (EL.el a0),.box Zba,.box [SL a0.Store.Keys (eL eU8),.ls 3 b1.length,Ii6 a0.Store.Ts,.ls 4 b2.length,.ls 5 b3.length,.ls 6 b4.length,.ls 7 s6.2.length,Ii6 a0.Next],.arr 131 1 0 (b1.flatMap Ci),.arr 140 8 0 (b2.flatMap G6),.arr 143 4 0 (b3.flatMap C4),.arr 146 4 0 (b4.flatMap Dc),.arr 127 6 0 (s6.2.flatMap Me),.box (EL.el u7),.arr 127 6 0 ([(J3.mk u7.ID u7.Token u7.Attempt u7.Snap u7.RO (Vd.mk u7.Buf.L))].flatMap Me)] R ?_
       obtain⟨hb8,h⟩:=Cs h
       refine U1 (f:=Me) (xs:=s6.2) (us:=[(J3.mk u7.ID u7.Token u7.Attempt u7.Snap u7.RO (Vd.mk u7.Buf.L))]) R Tryz.underlying53 Axt A5j (λ_=>R) R R (.one _ _ _ _ (.ls _ _ _ _ _ _ R (Aw (f:=Me) (λ_=>R) [(J3.mk u7.ID u7.Token u7.Attempt u7.Snap u7.RO (Vd.mk u7.Buf.L))]).symm)) R R R (.sl _ _ _ (Aw (f:=Me) (λ_=>R) _)) R R hb8 (by decide) ?_
       refine sv R (Aa Abp R) (sst A6i R R R R R (Jb (Ar (Ab (Au (rm 1 R (sv R (Bp R R) (rm 1 R (Ah ?_)))))))))
       obtain rfl:=SJ h
       exact⟨(n6,((wI (s6.1+1)),(s6.2++[(J3.mk u7.ID u7.Token u7.Attempt u7.Snap u7.RO (Vd.mk u7.Buf.L))]))),_,hk6,⟨R,R,R,R,trivial⟩,R,zG _⟩
      ·refine C3 (As (As (Bi (Ab ?_))))
       obtain rfl:=SJ h
       obtain rfl:_=x6:=hk6
       exact⟨s6.2,_,ho6,⟨R,R,trivial⟩,R⟩
    ·skip
     refine Bl ?_
     obtain⟨x10,hx10,ho10⟩:=Ae h
     refine lpo (G:=Nat×(Int×(List Fw))) (λg=>[(1,L7 (.lp 0 0)),(2,L7 (.lp 1 0)),(3,L7 (.lp 2 0)),(11,L7 (Ii6 g.2.1))]) (λg=>[.box (EL.el a0),.box Zba,.box [SL a0.Store.Keys (eL eU8),.ls 3 b1.length,Ii6 a0.Store.Ts,.ls 4 b2.length,.ls 5 b3.length,.ls 6 g.2.2.length,Znl,Ii6 a0.Next],.arr 131 1 0 (b1.flatMap Ci),.arr 140 8 0 (b2.flatMap G6),.arr 143 4 0 (b3.flatMap C4),.arr 146 4 0 (g.2.2.flatMap Dc)]) (λg=>Cz (Gz a0) g.1 g.2=some x10) (λg=>g.1) (fuel,(0,([]:List Fw))) hx10 ⟨R,R,R,R,trivial⟩ [] R (λ_=>R) ?_
     clear hx10 h
     rintro⟨n10,s10⟩ h
     obtain⟨n10,y10,rfl,h,hk10⟩:=Cw h
     unfold Gz at h
     refine Bj (csr (rm 1 R (sv R (Aa Vl R) (fl Wc Amj R R R R R R (sv R (Ap Adi R) (sv R (Bv R R) (Ah (ccI h R (λh=>?_) (λh=>?_)))))))))
     ·refine Bf (Ab (Bj (Bl (csr (sv R (Aa Vl R) (fl Wc Amj R R R R R R (sv R (Az R) ?_)))))))
      obtain⟨u11,hu11,h⟩:=Ae h
      refine sv R (B4 (f:=Al) Adi (λ_=>R) R R R R hu11) ?_
      refine sv R (Bs (ys:=[Ii6 u11.Tok,Ii6 u11.Attempt,Ii6 u11.State,Ii6 u11.Ts]) Adk R (.cp _) R R) (Br R W5 (sst Ab6 R R R R R (Ah (Au (sv R (Aa Akg R) (fl Ace Axa R R R R R R (fl Z2 ti3 R R R R R R (fl V0 ti3 R R R R R R (fl Wj ti3 R R R R R R (fl Aff ti3 R R R R R R (sv R (A2 A26 A31 (Aq R (Aq R (Aq R (Aq R A0)))) (.cons _ _ _ _ _ _ _ R R (Nbl R) (.cons _ _ _ _ _ _ _ R R (Nbl R) (.cons _ _ _ _ _ _ _ R R (Nbl R) (.cons _ _ _ _ _ _ _ R R (Nbl R) (.nil _)))))) ?_)))))))))))
      refine D7 R Tryz.underlying50 Ay0 R R (zI.1 R) (by decide) ?_
      refine Ql [.box (EL.el a0),.box Zba,.box [SL a0.Store.Keys (eL eU8),.ls 3 b1.length,Ii6 a0.Store.Ts,.ls 4 b2.length,.ls 5 b3.length,.ls 6 s10.2.length,Znl,Ii6 a0.Next],.arr 131 1 0 (b1.flatMap Ci),.arr 140 8 0 (b2.flatMap G6),.arr 143 4 0 (b3.flatMap C4),.arr 146 4 0 (s10.2.flatMap Dc),.box (EL.el u11),.arr 146 4 0 ([(Fw.mk u11.Tok u11.Attempt u11.State u11.Ts)].flatMap Dc)] R ?_
      obtain⟨hb12,h⟩:=Cs h
      refine U1 (f:=Dc) (xs:=s10.2) (us:=[(Fw.mk u11.Tok u11.Attempt u11.State u11.Ts)]) R Tryz.underlying50 Ay0 A5v (λ_=>R) R R (.one _ _ _ _ (.ls _ _ _ _ _ _ R (Aw (f:=Dc) (λ_=>R) [(Fw.mk u11.Tok u11.Attempt u11.State u11.Ts)]).symm)) R R R (.sl _ _ _ (Aw (f:=Dc) (λ_=>R) _)) R R hb12 (by decide) ?_
      refine sv R (Aa Akg R) (sv R (Aa Ace R) (sst A6s R R R R R (Jb (Ar (Ab (Au (rm 1 R (sv R (Bp R R) (rm 1 R (Ah ?_))))))))))
      obtain rfl:=SJ h
      exact⟨(n10,((wI (s10.1+1)),(s10.2++[(Fw.mk u11.Tok u11.Attempt u11.State u11.Ts)]))),_,hk10,⟨R,R,R,R,trivial⟩,R,zG _⟩
     ·refine C3 (As (As (Bi (Ab ?_))))
      obtain rfl:=SJ h
      obtain rfl:_=x10:=hk10
      exact⟨s10.2,_,ho10,⟨R,R,R,trivial⟩,R⟩
   ·skip
    refine Bl ?_
    obtain⟨x14,hx14,ho14⟩:=Ae h
    refine lpo (G:=Nat×(Int×(List Cb))) (λg=>[(1,L7 (.lp 0 0)),(2,L7 (.lp 1 0)),(3,L7 (.lp 2 0)),(10,L7 (Ii6 g.2.1))]) (λg=>[.box (EL.el a0),.box Zba,.box [SL a0.Store.Keys (eL eU8),.ls 3 b1.length,Ii6 a0.Store.Ts,.ls 4 b2.length,.ls 5 g.2.2.length,Znl,Znl,Ii6 a0.Next],.arr 131 1 0 (b1.flatMap Ci),.arr 140 8 0 (b2.flatMap G6),.arr 143 4 0 (g.2.2.flatMap C4)]) (λg=>Cz (Gn a0) g.1 g.2=some x14) (λg=>g.1) (fuel,(0,([]:List Cb))) hx14 ⟨R,R,R,R,trivial⟩ [] R (λ_=>R) ?_
    clear hx14 h
    rintro⟨n14,s14⟩ h
    obtain⟨n14,y14,rfl,h,hk14⟩:=Cw h
    unfold Gn at h
    refine Bj (csr (rm 1 R (sv R (Aa R7 R) (sv R (Aa Vy R) (fl Uc Ah8 R R R R R R (sv R (Ap Acb R) (sv R (Bv R R) (Ah (ccI h R (λh=>?_) (λh=>?_))))))))))
    ·refine Bf (Ab (Bj (Bl ?_)))
     obtain⟨u15,hu15,h⟩:=Ae h
     obtain⟨u16,hu16,h⟩:=Ae h
     obtain⟨hb17,h⟩:=Cs h
     refine Kb [22,26] [0,1,3,7,0,16,48,112,0,496,1008,2032,0,4096,12288,28672,0,126976,258048,520192,1048560,2097136,4194303,8388607,16777215,33554431,67108863] [[.box (EL.el a0),.box Zba,.box [SL a0.Store.Keys (eL eU8),.ls 3 b1.length,Ii6 a0.Store.Ts,.ls 4 b2.length,.ls 5 s14.2.length,Znl,Znl,Ii6 a0.Next],.arr 131 1 0 (b1.flatMap Ci),.arr 140 8 0 (b2.flatMap G6),.arr 143 4 0 (s14.2.flatMap C4)],[.box (EL.el a0),.box Zba,.box [SL a0.Store.Keys (eL eU8),.ls 3 b1.length,Ii6 a0.Store.Ts,.ls 4 b2.length,.ls 5 s14.2.length,Znl,Znl,Ii6 a0.Next],.arr 131 1 0 (b1.flatMap Ci),.arr 140 8 0 (b2.flatMap G6),.arr 143 4 0 ((s14.2++([(Cb.mk u15.Tx u16.Rng)]:List Cb)).flatMap C4)],[.box (EL.el a0),.box Zba,.box [SL a0.Store.Keys (eL eU8),.ls 3 b1.length,Ii6 a0.Store.Ts,.ls 4 b2.length,.ls 5 (s14.2++([(Cb.mk u15.Tx u16.Rng)]:List Cb)).length,Znl,Znl,Ii6 a0.Next],.arr 131 1 0 (b1.flatMap Ci),.arr 140 8 0 (b2.flatMap G6),.arr 143 4 0 ((s14.2++([(Cb.mk u15.Tx u16.Rng)]:List Cb)).flatMap C4)]] (by kernel_rfl) mixed (by kernel_rfl) (by decide) R R R R ?_
     refine ev (A6 0 R R) R R (Aa Adz R) (ev (A6 0 R R) R R (Aa Alk R) (ev (A6 0 R R) R R (Aa Abw R) (ev (A6 0 R R) R R (l1 Axe R R R) (ev (A6 0 R R) R R (Aa R7 R) (ev (A6 0 R R) R R (Aa Vy R) (ev (A6 0 R R) R R (Aa Uc R) (ev (A6 0 R R) R R (l1 Ah8 R R R) (ev (A6 0 R R) R R (Az R) (ev (A6 0 R R) R R (B4 (f:=Ax) Acb (λ_=>R) R R R R hu15) ?_)))))))))
     refine ev (A6 0 R R) R R (Bw Ab9 R) (ev (A6 0 R R) R R (B0 ti3 R (.cp _) R) (ev (A6 0 R R) R R (Aa R7 R) (ev (A6 0 R R) R R (Aa Vy R) (ev (A6 0 R R) R R (Aa Uc R) (ev (A6 0 R R) R R (l1 Ah8 R R R) (ev (A6 0 R R) R R (Az R) (ev (A6 0 R R) R R (B4 (f:=Ax) Acb (λ_=>R) R R R R hu16) ?_)))))))
     refine ev (A6 0 R R) R R (Bw Yd R) (ev (A6 0 R R) R R (Bs (ys:=[SL u16.Rng.Lo eU8,SL u16.Rng.Hi eU8,.b u16.Rng.Open]) Ac4 R (.cp _) R R) (ev (A6 0 R R) R R (A2 A28 A32 (Aq R (Aq R A0)) (.cons _ _ _ _ _ _ _ R R (Nbl R) (.cons _ _ _ _ _ _ _ R R (Nbl R) (.nil _)))) ?_))
     refine ed (A6 0 R R) R R (Zw (out:=([(Cb.mk u15.Tx u16.Rng)]:List Cb).flatMap C4) Tryz.underlying45 Ayj (Aq R A0) (.cons _ _ _ _ _ _ _ R R (Nbl R) (.nil _)) R (by decide)) ?_
     refine ee (x:=L7 (.ls 5 (s14.2++([(Cb.mk u15.Tx u16.Rng)]:List Cb)).length)) 0 R R R R R (λζ=>?_) ?_
     ·refine U1 (f:=C4) (xs:=s14.2) (us:=([(Cb.mk u15.Tx u16.Rng)]:List Cb)) R Tryz.underlying45 Ayj A5f (λ_=>R) R R (.one _ _ _ _ (.id _ R)) R R R (.sl _ _ _ (Aw (f:=C4) (λ_=>R) _)) R R hb17 (by decide) ?_
      exact U9
     refine ev (A6 1 R R) R R (Aa Adz R) (ev (A6 1 R R) R R (Aa Alk R) (ev (A6 1 R R) R R (Aa Abw R) (ee0 1 R R R R (λζ=>?_) ?_)))
     ·refine sst A6q R R R R R (Ql [.box (EL.el a0),.box Zba,.box [SL a0.Store.Keys (eL eU8),.ls 3 b1.length,Ii6 a0.Store.Ts,.ls 4 b2.length,.ls 5 (s14.2++([(Cb.mk u15.Tx u16.Rng)]:List Cb)).length,Znl,Znl,Ii6 a0.Next],.arr 131 1 0 (b1.flatMap Ci),.arr 140 8 0 (b2.flatMap G6),.arr 143 4 0 ((s14.2++([(Cb.mk u15.Tx u16.Rng)]:List Cb)).flatMap C4)] R ?_)
      exact U9
     refine Adr (Ar (Ab (Au (rm 1 R (sv R (Bp R R) (rm 1 R (Ah ?_)))))))
     obtain rfl:=SJ h
     exact⟨(n14,((wI (s14.1+1)),(s14.2++([(Cb.mk u15.Tx u16.Rng)]:List Cb)))),_,hk14,⟨R,R,R,R,trivial⟩,R,zG _⟩
    ·refine C3 (As (As (Bi (Ab ?_))))
     obtain rfl:=SJ h
     obtain rfl:_=x14:=hk14
     exact⟨s14.2,_,ho14,⟨R,R,R,trivial⟩,R⟩
  ·skip
   refine Bl ?_
   obtain⟨x19,hx19,ho19⟩:=Ae h
   refine lpo (G:=Nat×(Int×(List Ha))) (λg=>[(1,L7 (.lp 0 0)),(2,L7 (.lp 1 0)),(3,L7 (.lp 2 0)),(8,L7 (Ii6 g.2.1))]) (λg=>[.box (EL.el a0),.box Zba,.box [SL a0.Store.Keys (eL eU8),.ls 3 b1.length,Ii6 a0.Store.Ts,.ls 4 g.2.2.length,Znl,Znl,Znl,Ii6 a0.Next],.arr 131 1 0 (b1.flatMap Ci),.arr 140 8 0 (g.2.2.flatMap G6)]) (λg=>Cz (Gx a0) g.1 g.2=some x19) (λg=>g.1) (fuel,(0,([]:List Ha))) hx19 ⟨R,R,R,R,trivial⟩ [] R (λ_=>R) ?_
   clear hx19 h
   rintro⟨n19,s19⟩ h
   obtain⟨n19,y19,rfl,h,hk19⟩:=Cw h
   unfold Gx at h
   refine Bj (csr (rm 1 R (sv R (Aa R7 R) (fl Oy Abz R R R R R R (sv R (Ap R8 R) (sv R (Bv R R) (Ah (ccI h R (λh=>?_) (λh=>?_)))))))))
   ·refine Bf (Ab (Bj (Bl (csr (sv R (Aa R7 R) (fl Oy Abz R R R R R R (sv R (Az R) ?_)))))))
    obtain⟨u20,hu20,h⟩:=Ae h
    refine sv R (B4 (f:=Bc) R8 (λ_=>R) R R R R hu20) ?_
    refine sv R (Bs (ys:=[Ii6 u20.ID,Ii6 u20.Begin,Ii6 u20.End,Ii6 u20.State,.b u20.In,.b u20.Out,.b u20.RO,SL u20.Keys (eL eU8)]) J8 R (.cp _) R R) (Br R U7 (sst Ub R R R R R (Ah (Au (sv R (Aa Adz R) (fl Ach Axd R R R R R R (fl Vb ti3 R R R R R R (fl Wk ti3 R R R R R R (fl Rq ti3 R R R R R R (fl Qb ti3 R R R R R R (fl Ai3 ti4 R R R R R R (fl Aj4 ti4 R R R R R R (fl Afa ti4 R R R R R R (fl Ve Xo R R R R R R (sv R (A2 A39 A2k (Aq R (Aq R (Aq R (Aq R (Aq R (Aq R (Aq R (Aq R A0)))))))) (Si [Ii6 u20.ID,Ii6 0,Ii6 0,Ii6 0,.b false,.b false,.b false,Znl] R R (Nbl R) R (Si [Ii6 u20.ID,Ii6 u20.Begin,Ii6 0,Ii6 0,.b false,.b false,.b false,Znl] R R (Nbl R) R (Si [Ii6 u20.ID,Ii6 u20.Begin,Ii6 u20.End,Ii6 0,.b false,.b false,.b false,Znl] R R (Nbl R) R (Si [Ii6 u20.ID,Ii6 u20.Begin,Ii6 u20.End,Ii6 u20.State,.b false,.b false,.b false,Znl] R R (Nbl R) R (Si [Ii6 u20.ID,Ii6 u20.Begin,Ii6 u20.End,Ii6 u20.State,.b u20.In,.b false,.b false,Znl] R R (Nbl R) R (Si [Ii6 u20.ID,Ii6 u20.Begin,Ii6 u20.End,Ii6 u20.State,.b u20.In,.b u20.Out,.b false,Znl] R R (Nbl R) R (Si [Ii6 u20.ID,Ii6 u20.Begin,Ii6 u20.End,Ii6 u20.State,.b u20.In,.b u20.Out,.b u20.RO,Znl] R R (Nbl R) R (Si [Ii6 u20.ID,Ii6 u20.Begin,Ii6 u20.End,Ii6 u20.State,.b u20.In,.b u20.Out,.b u20.RO,SL u20.Keys (eL eU8)] R R (Nbl R) R (.nil _)))))))))) ?_)))))))))))))))
    refine D7 R Tryz.underlying44 Axk R R (zI.1 R) (by decide) ?_
    refine Ql [.box (EL.el a0),.box Zba,.box [SL a0.Store.Keys (eL eU8),.ls 3 b1.length,Ii6 a0.Store.Ts,.ls 4 s19.2.length,Znl,Znl,Znl,Ii6 a0.Next],.arr 131 1 0 (b1.flatMap Ci),.arr 140 8 0 (s19.2.flatMap G6),.box (EL.el u20),.arr 140 8 0 ([(Ha.mk u20.ID u20.Begin u20.End u20.State u20.In u20.Out u20.RO u20.Keys)].flatMap G6)] R ?_
    obtain⟨hb21,h⟩:=Cs h
    refine U1 (f:=G6) (xs:=s19.2) (us:=[(Ha.mk u20.ID u20.Begin u20.End u20.State u20.In u20.Out u20.RO u20.Keys)]) R Tryz.underlying44 Axk A58 (λ_=>R) R R (.one _ _ _ _ (.ls _ _ _ _ _ _ R (Aw (f:=G6) (λ_=>R) [(Ha.mk u20.ID u20.Begin u20.End u20.State u20.In u20.Out u20.RO u20.Keys)]).symm)) R R R (.sl _ _ _ (Aw (f:=G6) (λ_=>R) _)) R R hb21 (by decide) ?_
    refine sv R (Aa Adz R) (sv R (Aa Ach R) (sst A55 R R R R R (Jb (Ar (Ab (Au (rm 1 R (sv R (Bp R R) (rm 1 R (Ah ?_))))))))))
    obtain rfl:=SJ h
    exact⟨(n19,((wI (s19.1+1)),(s19.2++[(Ha.mk u20.ID u20.Begin u20.End u20.State u20.In u20.Out u20.RO u20.Keys)]))),_,hk19,⟨R,R,R,R,trivial⟩,R,zG _⟩
   ·refine C3 (As (As (Bi (Ab ?_))))
    obtain rfl:=SJ h
    obtain rfl:_=x19:=hk19
    exact⟨s19.2,_,ho19,⟨R,R,R,trivial⟩,R⟩
 ·skip
  refine Bl ?_
  obtain⟨x23,hx23,ho23⟩:=Ae h
  refine lpo (G:=Nat×(Int×(List Df))) (λg=>[(1,L7 (.lp 0 0)),(2,L7 (.lp 1 0)),(3,L7 (.lp 2 0)),(4,L7 (Ii6 g.2.1))]) (λg=>[.box (EL.el a0),.box Zba,.box [SL a0.Store.Keys (eL eU8),.ls 3 g.2.2.length,Ii6 a0.Store.Ts,Znl,Znl,Znl,Znl,Ii6 a0.Next],.arr 131 1 0 (g.2.2.flatMap Ci)]) (λg=>Cz (G5 a0) g.1 g.2=some x23) (λg=>g.1) (fuel,(0,([]:List Df))) hx23 ⟨R,R,R,R,trivial⟩ [] R (λ_=>R) ?_
  clear hx23 h
  rintro⟨n23,s23⟩ h
  obtain⟨n23,y23,rfl,h,hk23⟩:=Cw h
  unfold G5 at h
  refine Bj (csr (rm 1 R (sv R (Aa K5 R) (fl Qp Aig R R R R R R (sv R (Ap Am3 R) (sv R (Bv R R) (Ah (ccI h R (λh=>?_) (λh=>?_)))))))))
  ·refine Bf (Ab (Bj (Bl (csr (sv R (A2 A0c A2w A0 (.nil _)) (Br R A0c (sst A2m R R R R R (Ah (Bj (csr (rm 1 R (Ah ?_))))))))))))
   refine Ln 137 3 4 0 (by decide) R R ?_
   refine cj ((List Fu)) (λb24=>[(1,L7 (.lp 0 0)),(2,L7 (.lp 1 0)),(3,L7 (.lp 2 0)),(4,L7 (Ii6 s23.1)),(5,L7 (.lp 4 0))]) (λb24=>[.box (EL.el a0),.box Zba,.box [SL a0.Store.Keys (eL eU8),.ls 3 s23.2.length,Ii6 a0.Store.Ts,Znl,Znl,Znl,Znl,Ii6 a0.Next],.arr 131 1 0 (s23.2.flatMap Ci),.box [.ls 5 b24.length],.arr 137 3 0 (b24.flatMap Iu)]) (λb24=>Mq s23 b24=some y23) (λ_=>R) (λb24 h=>?_) ?_
   ·unfold Mq at h
    refine Au (sv R (Aa Akl R) (fl Ac2 Aw9 R R R R R R (sv R (lo A2i R R R) ?_)))
    refine Aif 71 R (by(repeat' first|exact Ho.nil _|apply Ho.cons|apply Hl.one|apply Hl.agg|exact C5.nil|exact C5.ls _ _ _ _ _ _ R (Aw (f:=Ci) (λ_=>R) _).symm|exact C5.ls _ _ _ _ _ _ R (Aw (f:=Iu) (λ_=>R) _).symm|exact C5.id _ R|exact Cv.nil _|apply Cv.cons)) ?_
    refine D7 R Tryz.underlying41 Azo R R (zI.1 R) (by decide) ?_
    refine Ql [.box (EL.el a0),.box Zba,.box [SL a0.Store.Keys (eL eU8),.ls 3 s23.2.length,Ii6 a0.Store.Ts,Znl,Znl,Znl,Znl,Ii6 a0.Next],.arr 131 1 0 (s23.2.flatMap Ci),.box [.ls 5 b24.length],.arr 137 3 (b24.flatMap Iu).length (b24.flatMap Iu),.arr 131 1 0 ([(Df.mk b24)].flatMap Ci)] R ?_
    obtain⟨hb25,h⟩:=Cs h
    refine U1 (f:=Ci) (xs:=s23.2) (us:=[(Df.mk b24)]) R Tryz.underlying41 Azo A5n (λ_=>R) R R (.one _ _ _ _ (.ls _ _ _ _ _ _ R (Aw (f:=Ci) (λ_=>R) [(Df.mk b24)]).symm)) R R R (.sl _ _ _ (Aw (f:=Ci) (λ_=>R) _)) R R hb25 (by decide) ?_
    refine sv R (Aa Akl R) (sv R (Aa Ac2 R) (sst A57 R R R R R (Jb (Ar (Ab (Au (rm 1 R (sv R (Bp R R) (rm 1 R (Ah ?_))))))))))
    obtain rfl:=SJ h
    exact⟨(n23,((wI (s23.1+1)),(s23.2++[(Df.mk b24)]))),_,hk23,⟨R,R,R,R,trivial⟩,R,zG _⟩
   ·skip
    refine Bl ?_
    obtain⟨x26,hx26,ho26⟩:=Ae h
    refine lpo (G:=Nat×(Int×(List Fu))) (λg=>[(1,L7 (.lp 0 0)),(2,L7 (.lp 1 0)),(3,L7 (.lp 2 0)),(4,L7 (Ii6 s23.1)),(5,L7 (.lp 4 0)),(6,L7 (Ii6 g.2.1))]) (λg=>[.box (EL.el a0),.box Zba,.box [SL a0.Store.Keys (eL eU8),.ls 3 s23.2.length,Ii6 a0.Store.Ts,Znl,Znl,Znl,Znl,Ii6 a0.Next],.arr 131 1 0 (s23.2.flatMap Ci),.box [.ls 5 g.2.2.length],.arr 137 3 0 (g.2.2.flatMap Iu)]) (λg=>Cz (Gv a0 s23) g.1 g.2=some x26) (λg=>g.1) (fuel,(0,([]:List Fu))) hx26 ⟨R,R,R,R,R,R,trivial⟩ [] R (λ_=>R) ?_
    clear hx26 h
    rintro⟨n26,s26⟩ h
    obtain⟨n26,y26,rfl,h,hk26⟩:=Cw h
    unfold Gv at h
    refine Bj (csr (rm 1 R (sv R (Aa K5 R) (fl Qp Aig R R R R R R (sv R (Az R) ?_)))))
    obtain⟨u27,hu27,h⟩:=Ae h
    refine sv R (B4 (f:=Ay) Am3 (λ_=>R) R R R R hu27) ?_
    refine sv R (Bw T5 R) (sv R (B0 Aa8 R (.cp _) R) (sv R (Ap W8 R) (sv R (Bv R R) (Ah (ccI h R (λh=>?_) (λh=>?_))))))
    ·refine Bf (Ab (Bj (Bl (csr (sv R (Aa K5 R) (fl Qp Aig R R R R R R (sv R (Az R) ?_)))))))
     obtain⟨u28,hu28,h⟩:=Ae h
     refine sv R (B4 (f:=Ay) Am3 (λ_=>R) R R R R hu28) ?_
     refine sv R (Bw T5 R) (sv R (B0 Aa8 R (.cp _) R) (sv R (Az R) ?_))
     obtain⟨u29,hu29,h⟩:=Ae h
     refine sv R (B4 (f:=A9) W8 (λ_=>R) R R R R hu29) ?_
     refine sv R (Bs (ys:=[Ii6 u29.Ts,SL u29.Val eU8,.b u29.Del]) Ah3 R (.cp _) R R) (Br R Afv (sst Ajl R R R R R (Ah (Au (fl Aev Avo R R R R R R (fl Wm ti3 R R R R R R (fl Aej L3 R R R R R R (fl Aek ti4 R R R R R R (sv R (A2 A36 A1j (Aq R (Aq R (Aq R A0))) (.cons _ _ _ _ _ _ _ R R (Nbl R) (.cons _ _ _ _ _ _ _ R R (Nbl R) (.cons _ _ _ _ _ _ _ R R (Nbl R) (.nil _))))) ?_)))))))))
     refine D7 R Tryz.underlying129 Azc R R (zI.1 R) (by decide) ?_
     refine Ql [.box (EL.el a0),.box Zba,.box [SL a0.Store.Keys (eL eU8),.ls 3 s23.2.length,Ii6 a0.Store.Ts,Znl,Znl,Znl,Znl,Ii6 a0.Next],.arr 131 1 0 (s23.2.flatMap Ci),.box [.ls 5 s26.2.length],.arr 137 3 0 (s26.2.flatMap Iu),.box (EL.el u29),.arr 137 3 0 ([(Fu.mk u29.Ts u29.Val u29.Del)].flatMap Iu)] R ?_
     obtain⟨hb30,h⟩:=Cs h
     refine U1 (f:=Iu) (xs:=s26.2) (us:=[(Fu.mk u29.Ts u29.Val u29.Del)]) R Tryz.underlying129 Azc A3z (λ_=>R) R R (.one _ _ _ _ (.ls _ _ _ _ _ _ R (Aw (f:=Iu) (λ_=>R) [(Fu.mk u29.Ts u29.Val u29.Del)]).symm)) R R R (.sl _ _ _ (Aw (f:=Iu) (λ_=>R) _)) R R hb30 (by decide) ?_
     refine sv R (Aa Aev R) (sst A4b R R R R R (Jb (Ar (Ab (Au (rm 1 R (sv R (Bp R R) (rm 1 R (Ah ?_)))))))))
     obtain rfl:=SJ h
     exact⟨(n26,((wI (s26.1+1)),(s26.2++[(Fu.mk u29.Ts u29.Val u29.Del)]))),_,hk26,⟨R,R,R,R,R,R,trivial⟩,R,zG _⟩
    ·refine C3 (As (As (Bi (Ab ?_))))
     obtain rfl:=SJ h
     obtain rfl:_=x26:=hk26
     exact⟨s26.2,_,ho26,⟨R,R,R,R,R,trivial⟩,R⟩
  ·refine C3 (As (As (Bi (Ab ?_))))
   obtain rfl:=SJ h
   obtain rfl:_=x23:=hk23
   exact⟨s23.2,_,ho23,⟨R,R,R,trivial⟩,R⟩
def Tt (a0:Fu) (a1:Fu):Option Bool :=
 if (decide (a0.Ts=a1.Ts)) then(if (a0.Del==a1.Del) then(some (a0.Val==a1.Val)) else(some false)) else(some false)
theorem Adn {a0:Fu} {a1:Fu} {r:Bool} (h:Tt a0 a1=some r):Bt Qx0 179 [.agg (EL.el a0),.agg (EL.el a1)] (·=L7 (.b r)):=by
 unfold Tt at h
 refine A1 Tryz.func179 R (nt:=26) R (Nbl R) ?_
 intro w0 S0
 refine csr (Er R R (Er R R (rm 1 R (Ah (csr (fl Anx ti3 R R R R R R (fl Anx ti3 R R R R R R (sv R (B6 R R) (rm 1 R (ssI 10 h R (λh=>?_) (λh=>?_)))))))))))
 ·refine son R R R (sv R (Aa Aqk R) (son R R R (sv R (l1 ti4 R R R) (son R R R (sv R (Aa Aqk R) (son R R R (sv R (l1 ti4 R R R) (son R R R (sv R (Abh Tryz.underlying4 R R) (rm 2 R (ssI 17 h R (λh=>?_) (λh=>?_))))))))))))
  ·refine son R R R (sv R (Aa Aqh R) (son R R R (sv R (l1 L3 R R R) (son R R R (sv R (Ma (l:=a0.Val) Tryz.underlying56 Tryz.underlying5 Tryz.underlying9 R R R) (son R R R (sv R (Aa Aqh R) (son R R R (sv R (l1 L3 R R R) (son R R R (sv R (Ma (l:=a1.Val) Tryz.underlying56 Tryz.underlying5 Tryz.underlying9 R R R) (son R R R (sv R (Yy R R) (rm 2 R (Ah (Bq ?_))))))))))))))))
   obtain rfl:=SJ h
   exact dnT R R R R
  ·refine rm 9 R (Ah (Bq ?_))
   obtain rfl:=SJ h
   exact dnT R R R R
 ·refine rm 16 R (Ah (Bq ?_))
  obtain rfl:=SJ h
  exact dnT R R R R
def Rt (b1:Unit):Option Bool :=
 some true
def L6 (a0:List Fu) (a1:List Fu) (s2:Int):Option (LR (Int) (Unit) (Bool)) :=
 if (decide (s2<(a0.length:Int))) then((idx a0 s2).bind λu3=>(idx a1 s2).bind λu4=>(Tt u3 u4).bind λv5=>if (!v5) then(some (.ret false)) else(some (.cont (wI (s2+1))))) else(some (.brk ()))
def Qh (a0:List Fu) (a1:List Fu):Option Bool :=
 if (!decide ((a0.length:Int)=(a1.length:Int))) then(some false) else((Iz (L6 a0 a1) fuel 0).bind λx=>match x with | .inl r=>some r | .inr e6=>Rt e6)
theorem Acv {a0:List Fu} {a1:List Fu} {r:Bool} (h:Qh a0 a1=some r):Bt Qx0 104 [.one (SL a0 Iu),.one (SL a1 Iu)] (·=L7 (.b r)):=by
 unfold Qh at h
 refine A1 Tryz.func104 R (nt:=27) R (Nbl R) ?_
 intro w0 S0
 refine csr (rm 1 R (Ah (Bj (csr (rm 1 R (sv R (Ap Apy R) (rm 1 R (sv R (Ap Apy R) (sv R (Cc R R) (Ah (ccI h R (λh=>?_) (λh=>?_))))))))))))
 ·refine csr (rm 1 R (Ah (Bq (Af ?_))))
  obtain rfl:=SJ h
  exact dnT R R R R
 ·refine Bf (Ab (Bj (csr (rm 1 R (Ah (cj (Unit) (λb1=>[]) (λb1=>[]) (λb1=>Rt b1=some r) (λ_=>R) (λb1 h=>?_) ?_))))))
  ·unfold Rt at h
   refine csr (rm 1 R (Ah (Bq ?_)))
   obtain rfl:=SJ h
   exact dnT R R R R
  ·skip
   refine Bl ?_
   obtain⟨x2,hx2,ho2⟩:=Ae h
   refine lpo (G:=Nat×(Int)) (λg=>[(0,L7 (SL a0 Iu)),(1,L7 (SL a1 Iu)),(5,L7 (Ii6 g.2))]) (λg=>[]) (λg=>Iz (L6 a0 a1) g.1 g.2=some x2) (λg=>g.1) (fuel,0) hx2 ⟨R,R,R,trivial⟩ [] R (λ_=>R) ?_
   clear hx2 h
   rintro⟨n2,s2⟩ h
   obtain⟨n2,y2,rfl,h,hk2⟩:=Dj h
   unfold L6 at h
   refine Bj (csr (rm 2 R (sv R (Ap Apy R) (sv R (Bv R R) (Ah (ccI h R (λh=>?_) (λh=>?_)))))))
   ·refine Bf (Ab (Bj (Bl (Bj ?_))))
    refine Ue mixed (by kernel_rfl) ?_
    refine dv R (Az R) (dv R (Az R) ?_)
    obtain⟨u3,hu3,h⟩:=Ae h
    refine dv R (B4 (f:=Iu) Apy (λ_=>R) R R R R hu3) ?_
    refine dv R (Bs (ys:=[Ii6 u3.Ts,SL u3.Val eU8,.b u3.Del]) Azz R (.cp _) R R) (dv R (Az R) (dv R (Az R) ?_))
    obtain⟨u4,hu4,h⟩:=Ae h
    refine dv R (B4 (f:=Iu) Apy (λ_=>R) R R R R hu4) ?_
    refine dv R (Bs (ys:=[Ii6 u4.Ts,SL u4.Val eU8,.b u4.Del]) Azz R (.cp _) R R) ?_
    obtain⟨v5,hv5,h⟩:=Ae h
    refine dd R (Cm A13 (Ac R (Ac R Ag)) R (Adn hv5)) (dv R (Bz R) (U8 (Ab (ccI h R (λh=>?_) (λh=>?_)))))
    ·refine csr (rm 1 R (Ah (Bq (Av (Af (Af (Av (Af ?_))))))))
     obtain rfl:=SJ h
     obtain rfl:Sum.inl _=x2:=hk2
     replace ho2:some _=some _:=ho2
     obtain rfl:=zD ho2
     exact dnT R R R R
    ·refine Bf (Ar (Ab (Au (rm 1 R (sv R (Bp R R) (rm 1 R (Ah ?_)))))))
     obtain rfl:=SJ h
     exact⟨(n2,(wI (s2+1))),_,hk2,⟨R,R,R,trivial⟩,R,zG _⟩
   ·refine C3 (As (As (Bi (Ab ?_))))
    obtain rfl:=SJ h
    obtain rfl:_=x2:=hk2
    exact⟨(),_,ho2,trivial,R⟩
def Tc (b3:Unit):Option Bool :=
 some true
def Nv (a0:Gi) (a1:Gi) (s4:Int):Option (LR (Int) (Unit) (Bool)) :=
 if (decide (s4<(a0.Chains.length:Int))) then((idx a0.Chains s4).bind λu5=>(idx a1.Chains s4).bind λu6=>(Qh u5.L u6.L).bind λv7=>if (!v7) then(some (.ret false)) else(some (.cont (wI (s4+1))))) else(some (.brk ()))
def Nt (a0:Gi) (a1:Gi) (b2:Unit):Option Bool :=
 (Iz (Nv a0 a1) fuel 0).bind λx=>match x with | .inl r=>some r | .inr e8=>Tc e8
def Ng (a0:Gi) (a1:Gi) (s9:Int):Option (LR (Int) (Unit) (Bool)) :=
 if (decide (s9<(a0.Keys.length:Int))) then((idx a0.Keys s9).bind λu10=>(idx a1.Keys s9).bind λu11=>if (!(u10==u11)) then(some (.ret false)) else(some (.cont (wI (s9+1))))) else(some (.brk ()))
def P7 (a0:Gi) (a1:Gi) (b1:Unit):Option Bool :=
 (Iz (Ng a0 a1) fuel 0).bind λx=>match x with | .inl r=>some r | .inr e12=>Nt a0 a1 e12
def Rn (a0:Gi) (a1:Gi):Option Bool :=
 if (!decide ((a0.Keys.length:Int)=(a1.Keys.length:Int))) then(some false) else(if (!decide ((a0.Chains.length:Int)=(a1.Chains.length:Int))) then(some false) else(if (!decide (a0.Ts=a1.Ts)) then(some false) else(P7 a0 a1 ())))
theorem Adg {a0:Gi} {a1:Gi} {r:Bool} (h:Rn a0 a1=some r):Bt Qx0 41 [.agg (EL.el a0),.agg (EL.el a1)] (·=L7 (.b r)):=by
 unfold Rn at h
 refine A1 Tryz.func41 R (nt:=71) R (Nbl R) ?_
 intro w0 S0
 refine csr (Er R R (Er R R (rm 1 R (Ah (Bj (Bj (cj3 (Unit) (λb1=>[(2,L7 (.lp 0 0)),(3,L7 (.lp 1 0))]) (λb1=>[.box (EL.el a0),.box (EL.el a1)]) (λb1=>P7 a0 a1 b1=some r) (λ_=>R) (λb1 h=>?_) ?_)))))))
 ·unfold P7 at h
  refine Bj (csr (rm 1 R (Ah (cj (Unit) (λb2=>[(2,L7 (.lp 0 0)),(3,L7 (.lp 1 0))]) (λb2=>[.box (EL.el a0),.box (EL.el a1)]) (λb2=>Nt a0 a1 b2=some r) (λ_=>R) (λb2 h=>?_) ?_))))
  ·unfold Nt at h
   refine Bj (csr (rm 1 R (Ah (cj (Unit) (λb3=>[]) (λb3=>[.box (EL.el a0),.box (EL.el a1)]) (λb3=>Tc b3=some r) (λ_=>R) (λb3 h=>?_) ?_))))
   ·unfold Tc at h
    refine csr (rm 1 R (Ah (Bq ?_)))
    obtain rfl:=SJ h
    exact dnT R R R R
   ·skip
    refine Bl ?_
    obtain⟨x4,hx4,ho4⟩:=Ae h
    refine lpo (G:=Nat×(Int)) (λg=>[(2,L7 (.lp 0 0)),(3,L7 (.lp 1 0)),(6,L7 (Ii6 g.2))]) (λg=>[.box (EL.el a0),.box (EL.el a1)]) (λg=>Iz (Nv a0 a1) g.1 g.2=some x4) (λg=>g.1) (fuel,0) hx4 ⟨R,R,R,trivial⟩ [] R (λ_=>R) ?_
    clear hx4 h
    rintro⟨n4,s4⟩ h
    obtain⟨n4,y4,rfl,h,hk4⟩:=Dj h
    unfold Nv at h
    refine Bj (csr (rm 1 R (fl Ac2 Aw9 R R R R R R (sv R (Ap A0f R) (sv R (Bv R R) (Ah (ccI h R (λh=>?_) (λh=>?_))))))))
    ·refine Bf (Ab (Bj (Bl (Bj ?_))))
     refine Ue mixed (by kernel_rfl) ?_
     refine dv R (Aa Ac2 R) (dv R (l1 Aw9 R R R) (dv R (Az R) ?_))
     obtain⟨u5,hu5,h⟩:=Ae h
     refine dv R (B4 (f:=Ci) A0f (λ_=>R) R R R R hu5) ?_
     refine dv R (Bw Aev R) (dv R (B0 Avo R (.cp _) R) (dv R (Aa Ac2 R) (dv R (l1 Aw9 R R R) (dv R (Az R) ?_))))
     obtain⟨u6,hu6,h⟩:=Ae h
     refine dv R (B4 (f:=Ci) A0f (λ_=>R) R R R R hu6) ?_
     refine dv R (Bw Aev R) (dv R (B0 Avo R (.cp _) R) ?_)
     obtain⟨v7,hv7,h⟩:=Ae h
     refine dd R (Cm A3p (Ac R (Ac R Ag)) R (Acv hv7)) (dv R (Bz R) (U8 (Ab (ccI h R (λh=>?_) (λh=>?_)))))
     ·refine csr (rm 1 R (Ah (Bq (Av (Af (Af (Av (Af ?_))))))))
      obtain rfl:=SJ h
      obtain rfl:Sum.inl _=x4:=hk4
      replace ho4:some _=some _:=ho4
      obtain rfl:=zD ho4
      exact dnT R R R R
     ·refine Bf (Ar (Ab (Au (rm 1 R (sv R (Bp R R) (rm 1 R (Ah ?_)))))))
      obtain rfl:=SJ h
      exact⟨(n4,(wI (s4+1))),_,hk4,⟨R,R,R,trivial⟩,R,zG _⟩
    ·refine C3 (As (As (Bi (Ab ?_))))
     obtain rfl:=SJ h
     obtain rfl:_=x4:=hk4
     exact⟨(),_,ho4,trivial,R⟩
  ·skip
   refine Bl ?_
   obtain⟨x9,hx9,ho9⟩:=Ae h
   refine lpo (G:=Nat×(Int)) (λg=>[(2,L7 (.lp 0 0)),(3,L7 (.lp 1 0)),(5,L7 (Ii6 g.2))]) (λg=>[.box (EL.el a0),.box (EL.el a1)]) (λg=>Iz (Ng a0 a1) g.1 g.2=some x9) (λg=>g.1) (fuel,0) hx9 ⟨R,R,R,trivial⟩ [] R (λ_=>R) ?_
   clear hx9 h
   rintro⟨n9,s9⟩ h
   obtain⟨n9,y9,rfl,h,hk9⟩:=Dj h
   unfold Ng at h
   refine Bj (csr (rm 1 R (fl Ahp Xo R R R R R R (sv R (Ap Se R) (sv R (Bv R R) (Ah (ccI h R (λh=>?_) (λh=>?_))))))))
   ·refine Bf (Ab (Bj (Bl (Bj ?_))))
    refine Ue mixed (by kernel_rfl) ?_
    refine dv R (Aa Ahp R) (dv R (l1 Xo R R R) (dv R (Az R) ?_))
    obtain⟨u10,hu10,h⟩:=Ae h
    refine dv R (B4 (f:=(eL eU8)) Se (λ_=>R) R R R R hu10) ?_
    refine dv R (B0 L3 R (.cp _) R) (dv R (Ma (l:=u10) Tryz.underlying56 Tryz.underlying5 Tryz.underlying9 R R R) (dv R (Aa Ahp R) (dv R (l1 Xo R R R) (dv R (Az R) ?_))))
    obtain⟨u11,hu11,h⟩:=Ae h
    refine dv R (B4 (f:=(eL eU8)) Se (λ_=>R) R R R R hu11) ?_
    refine dv R (B0 L3 R (.cp _) R) (dv R (Ma (l:=u11) Tryz.underlying56 Tryz.underlying5 Tryz.underlying9 R R R) (dv R (Uw R R) (U8 (Ab (ccI h R (λh=>?_) (λh=>?_))))))
    ·refine csr (rm 1 R (Ah (Bq (Av (Af (Af (Av (Af ?_))))))))
     obtain rfl:=SJ h
     obtain rfl:Sum.inl _=x9:=hk9
     replace ho9:some _=some _:=ho9
     obtain rfl:=zD ho9
     exact dnT R R R R
    ·refine Bf (Ar (Ab (Au (rm 1 R (sv R (Bp R R) (rm 1 R (Ah ?_)))))))
     obtain rfl:=SJ h
     exact⟨(n9,(wI (s9+1))),_,hk9,⟨R,R,R,trivial⟩,R,zG _⟩
   ·refine C3 (As (As (Bi (Ab ?_))))
    obtain rfl:=SJ h
    obtain rfl:_=x9:=hk9
    exact⟨(),_,ho9,⟨R,R,trivial⟩,R⟩
 ·skip
  refine Au (fl Ahp Xo R R R R R R (sv R (Ap Se R) (fl Ahp Xo R R R R R R (sv R (Ap Se R) (sv R (Cc R R) (rm 1 R (ssI 14 h R (λh=>?_) (λh=>?_))))))))
  ·refine rm 15 R (Ah (Ce R (λ_=>?_) (λhx=>Bool.noConfusion hx)))
   refine csr (rm 1 R (Ah (Bq (Af ?_))))
   obtain rfl:=SJ h
   exact dnT R R R R
  ·refine son R R R (sv R (Aa Ac2 R) (son R R R (sv R (l1 Aw9 R R R) (son R R R (sv R (Ap A0f R) (son R R R (sv R (Aa Ac2 R) (son R R R (sv R (l1 Aw9 R R R) (son R R R (sv R (Ap A0f R) (son R R R (sv R (Cc R R) (rm 2 R (ssI 23 h R (λh=>?_) (λh=>?_))))))))))))))))
   ·refine rm 6 R (Ah (Ce R (λ_=>?_) (λhx=>Bool.noConfusion hx)))
    refine csr (rm 1 R (Ah (Bq (Af ?_))))
    obtain rfl:=SJ h
    exact dnT R R R R
   ·refine son R R R (sv R (Aa Aun R) (son R R R (sv R (l1 ti3 R R R) (son R R R (sv R (Aa Aun R) (son R R R (sv R (l1 ti3 R R R) (son R R R (sv R (Cc R R) (rm 1 R (Ah (ccI h R (λh=>?_) (λh=>?_)))))))))))))
    ·refine csr (rm 1 R (Ah (Bq (Af ?_))))
     obtain rfl:=SJ h
     exact dnT R R R R
    ·refine Bf (Ab ?_)
     exact⟨(),_,h,⟨R,R,trivial⟩,R⟩
def Mx (a0:Bh) (a1:Bh):Option Bool :=
 if (a0.Lo==a1.Lo) then(if (a0.Hi==a1.Hi) then(some (a0.Open==a1.Open)) else(some false)) else(some false)
theorem W3 {a0:Bh} {a1:Bh} {r:Bool} (h:Mx a0 a1=some r):Bt Qx0 234 [.agg (EL.el a0),.agg (EL.el a1)] (·=L7 (.b r)):=by
 unfold Mx at h
 refine A1 Tryz.func234 R (nt:=28) R (Nbl R) ?_
 intro w0 S0
 refine csr (Er R R (Er R R (rm 1 R (Ah (csr (fl Aai L3 R R R R R R (sv R (Ma (l:=a0.Lo) Tryz.underlying56 Tryz.underlying5 Tryz.underlying9 R R R) (fl Aai L3 R R R R R R (sv R (Ma (l:=a1.Lo) Tryz.underlying56 Tryz.underlying5 Tryz.underlying9 R R R) (sv R (Yy R R) (rm 1 R (ssI 12 h R (λh=>?_) (λh=>?_)))))))))))))
 ·refine son R R R (sv R (Aa Xh R) (son R R R (sv R (l1 L3 R R R) (son R R R (sv R (Ma (l:=a0.Hi) Tryz.underlying56 Tryz.underlying5 Tryz.underlying9 R R R) (son R R R (sv R (Aa Xh R) (son R R R (sv R (l1 L3 R R R) (son R R R (sv R (Ma (l:=a1.Hi) Tryz.underlying56 Tryz.underlying5 Tryz.underlying9 R R R) (son R R R (sv R (Yy R R) (rm 2 R (ssI 21 h R (λh=>?_) (λh=>?_))))))))))))))))
  ·refine son R R R (sv R (Aa Ad5 R) (son R R R (sv R (l1 ti4 R R R) (son R R R (sv R (Aa Ad5 R) (son R R R (sv R (l1 ti4 R R R) (son R R R (sv R (Abh Tryz.underlying4 R R) (rm 2 R (Ah (Bq ?_))))))))))))
   obtain rfl:=SJ h
   exact dnT R R R R
  ·refine rm 7 R (Ah (Bq ?_))
   obtain rfl:=SJ h
   exact dnT R R R R
 ·refine rm 16 R (Ah (Bq ?_))
  obtain rfl:=SJ h
  exact dnT R R R R
def Sf (a0:Cb) (a1:Cb):Option Bool :=
 if (decide (a0.Tx=a1.Tx)) then((Mx a0.Rng a1.Rng).bind λv1=>some v1) else(some false)
theorem Aci {a0:Cb} {a1:Cb} {r:Bool} (h:Sf a0 a1=some r):Bt Qx0 180 [.agg (EL.el a0),.agg (EL.el a1)] (·=L7 (.b r)):=by
 unfold Sf at h
 refine A1 Tryz.func180 R (nt:=17) R (Nbl R) ?_
 intro w0 S0
 refine csr (Er R R (Er R R (rm 1 R (Ah (csr (fl Ap4 ti3 R R R R R R (fl Ap4 ti3 R R R R R R (sv R (B6 R R) (rm 1 R (ssI 10 h R (λh=>?_) (λh=>?_)))))))))))
 ·refine son R R R (sv R (Aa Apc R) (son R R R (ld Ac4 R R R R (son R R R (sv R (Aa Apc R) (son R R R (ld Ac4 R R R R (son R R R ?_))))))))
  obtain⟨v1,hv1,h⟩:=Ae h
  refine Bb R A24 (Ac R (Ac R Ag)) (Ao R) (W3 hv1) (rm 2 R (Ah (Bq ?_)))
  obtain rfl:=SJ h
  exact dnT R R R R
 ·refine rm 7 R (Ah (Bq ?_))
  obtain rfl:=SJ h
  exact dnT R R R R
def Ru (b1:Unit):Option Bool :=
 some true
def Mb (a0:Nc) (a1:Nc) (s2:Int):Option (LR (Int) (Unit) (Bool)) :=
 if (decide (s2<(a0.L.length:Int))) then((idx a0.L s2).bind λu3=>(idx a1.L s2).bind λu4=>(Sf u3 u4).bind λv5=>if (!v5) then(some (.ret false)) else(some (.cont (wI (s2+1))))) else(some (.brk ()))
def P0 (a0:Nc) (a1:Nc):Option Bool :=
 if (!decide ((a0.L.length:Int)=(a1.L.length:Int))) then(some false) else((Iz (Mb a0 a1) fuel 0).bind λx=>match x with | .inl r=>some r | .inr e6=>Ru e6)
theorem Ab8 {a0:Nc} {a1:Nc} {r:Bool} (h:P0 a0 a1=some r):Bt Qx0 105 [.agg [SL a0.L C4],.agg [SL a1.L C4]] (·=L7 (.b r)):=by
 unfold P0 at h
 refine A1 Tryz.func105 R (nt:=32) R (Nbl R) ?_
 intro w0 S0
 refine csr (Er R R (Er R R (rm 1 R (Ah (Bj (csr (fl Abw Axe R R R R R R (sv R (Ap Ay8 R) (fl Abw Axe R R R R R R (sv R (Ap Ay8 R) (sv R (Cc R R) (Ah (ccI h R (λh=>?_) (λh=>?_))))))))))))))
 ·refine csr (rm 1 R (Ah (Bq (Af ?_))))
  obtain rfl:=SJ h
  exact dnT R R R R
 ·refine Bf (Ab (Bj (csr (rm 1 R (Ah (cj (Unit) (λb1=>[]) (λb1=>[.box [SL a0.L C4],.box [SL a1.L C4]]) (λb1=>Ru b1=some r) (λ_=>R) (λb1 h=>?_) ?_))))))
  ·unfold Ru at h
   refine csr (rm 1 R (Ah (Bq ?_)))
   obtain rfl:=SJ h
   exact dnT R R R R
  ·skip
   refine Bl ?_
   obtain⟨x2,hx2,ho2⟩:=Ae h
   refine lpo (G:=Nat×(Int)) (λg=>[(2,L7 (.lp 0 0)),(3,L7 (.lp 1 0)),(5,L7 (Ii6 g.2))]) (λg=>[.box [SL a0.L C4],.box [SL a1.L C4]]) (λg=>Iz (Mb a0 a1) g.1 g.2=some x2) (λg=>g.1) (fuel,0) hx2 ⟨R,R,R,trivial⟩ [] R (λ_=>R) ?_
   clear hx2 h
   rintro⟨n2,s2⟩ h
   obtain⟨n2,y2,rfl,h,hk2⟩:=Dj h
   unfold Mb at h
   refine Bj (csr (rm 1 R (fl Abw Axe R R R R R R (sv R (Ap Ay8 R) (sv R (Bv R R) (Ah (ccI h R (λh=>?_) (λh=>?_))))))))
   ·refine Bf (Ab (Bj (Bl (Bj ?_))))
    refine Ue mixed (by kernel_rfl) ?_
    refine dv R (Aa Abw R) (dv R (l1 Axe R R R) (dv R (Az R) ?_))
    obtain⟨u3,hu3,h⟩:=Ae h
    refine dv R (B4 (f:=C4) Ay8 (λ_=>R) R R R R hu3) ?_
    refine dv R (Bs (ys:=[Ii6 u3.Tx,SL u3.Rng.Lo eU8,SL u3.Rng.Hi eU8,.b u3.Rng.Open]) Axs R (.cp _) R R) (dv R (Aa Abw R) (dv R (l1 Axe R R R) (dv R (Az R) ?_)))
    obtain⟨u4,hu4,h⟩:=Ae h
    refine dv R (B4 (f:=C4) Ay8 (λ_=>R) R R R R hu4) ?_
    refine dv R (Bs (ys:=[Ii6 u4.Tx,SL u4.Rng.Lo eU8,SL u4.Rng.Hi eU8,.b u4.Rng.Open]) Axs R (.cp _) R R) ?_
    obtain⟨v5,hv5,h⟩:=Ae h
    refine dd R (Cm A2p (Ac R (Ac R Ag)) R (Aci hv5)) (dv R (Bz R) (U8 (Ab (ccI h R (λh=>?_) (λh=>?_)))))
    ·refine csr (rm 1 R (Ah (Bq (Av (Af (Af (Av (Af ?_))))))))
     obtain rfl:=SJ h
     obtain rfl:Sum.inl _=x2:=hk2
     replace ho2:some _=some _:=ho2
     obtain rfl:=zD ho2
     exact dnT R R R R
    ·refine Bf (Ar (Ab (Au (rm 1 R (sv R (Bp R R) (rm 1 R (Ah ?_)))))))
     obtain rfl:=SJ h
     exact⟨(n2,(wI (s2+1))),_,hk2,⟨R,R,R,trivial⟩,R,zG _⟩
   ·refine C3 (As (As (Bi (Ab ?_))))
    obtain rfl:=SJ h
    obtain rfl:_=x2:=hk2
    exact⟨(),_,ho2,trivial,R⟩
def Pp (b2:Unit):Option Bool :=
 some true
def Jl (a0:Ha) (a1:Ha) (s3:Int):Option (LR (Int) (Unit) (Bool)) :=
 if (decide (s3<(a0.Keys.length:Int))) then((idx a0.Keys s3).bind λu4=>(idx a1.Keys s3).bind λu5=>if (!(u4==u5)) then(some (.ret false)) else(some (.cont (wI (s3+1))))) else(some (.brk ()))
def Mt (a0:Ha) (a1:Ha) (b1:Unit):Option Bool :=
 (Iz (Jl a0 a1) fuel 0).bind λx=>match x with | .inl r=>some r | .inr e6=>Pp e6
def M2 (a0:Ha) (a1:Ha):Option Bool :=
 if (!decide (a0.ID=a1.ID)) then(some false) else(if (!decide (a0.Begin=a1.Begin)) then(some false) else(if (!decide (a0.End=a1.End)) then(some false) else(if (!decide (a0.State=a1.State)) then(some false) else(if (!(a0.In==a1.In)) then(some false) else(if (!(a0.Out==a1.Out)) then(some false) else(if (!(a0.RO==a1.RO)) then(some false) else(if (!decide ((a0.Keys.length:Int)=(a1.Keys.length:Int))) then(some false) else(Mt a0 a1 ()))))))))
theorem Z9 {a0:Ha} {a1:Ha} {r:Bool} (h:M2 a0 a1=some r):Bt Qx0 106 [.agg (EL.el a0),.agg (EL.el a1)] (·=L7 (.b r)):=by
 unfold M2 at h
 refine A1 Tryz.func106 R (nt:=82) R (Nbl R) ?_
 intro w0 S0
 refine csr (Er R R (Er R R (rm 1 R (Ah (Bj (Bj (cj3 (Unit) (λb1=>[(2,L7 (.lp 0 0)),(3,L7 (.lp 1 0))]) (λb1=>[.box (EL.el a0),.box (EL.el a1)]) (λb1=>Mt a0 a1 b1=some r) (λ_=>R) (λb1 h=>?_) ?_)))))))
 ·unfold Mt at h
  refine Bj (csr (rm 1 R (Ah (cj (Unit) (λb2=>[]) (λb2=>[.box (EL.el a0),.box (EL.el a1)]) (λb2=>Pp b2=some r) (λ_=>R) (λb2 h=>?_) ?_))))
  ·unfold Pp at h
   refine csr (rm 1 R (Ah (Bq ?_)))
   obtain rfl:=SJ h
   exact dnT R R R R
  ·skip
   refine Bl ?_
   obtain⟨x3,hx3,ho3⟩:=Ae h
   refine lpo (G:=Nat×(Int)) (λg=>[(2,L7 (.lp 0 0)),(3,L7 (.lp 1 0)),(5,L7 (Ii6 g.2))]) (λg=>[.box (EL.el a0),.box (EL.el a1)]) (λg=>Iz (Jl a0 a1) g.1 g.2=some x3) (λg=>g.1) (fuel,0) hx3 ⟨R,R,R,trivial⟩ [] R (λ_=>R) ?_
   clear hx3 h
   rintro⟨n3,s3⟩ h
   obtain⟨n3,y3,rfl,h,hk3⟩:=Dj h
   unfold Jl at h
   refine Bj (csr (rm 1 R (fl Acg Xo R R R R R R (sv R (Ap Se R) (sv R (Bv R R) (Ah (ccI h R (λh=>?_) (λh=>?_))))))))
   ·refine Bf (Ab (Bj (Bl (Bj ?_))))
    refine Ue mixed (by kernel_rfl) ?_
    refine dv R (Aa Acg R) (dv R (l1 Xo R R R) (dv R (Az R) ?_))
    obtain⟨u4,hu4,h⟩:=Ae h
    refine dv R (B4 (f:=(eL eU8)) Se (λ_=>R) R R R R hu4) ?_
    refine dv R (B0 L3 R (.cp _) R) (dv R (Ma (l:=u4) Tryz.underlying56 Tryz.underlying5 Tryz.underlying9 R R R) (dv R (Aa Acg R) (dv R (l1 Xo R R R) (dv R (Az R) ?_))))
    obtain⟨u5,hu5,h⟩:=Ae h
    refine dv R (B4 (f:=(eL eU8)) Se (λ_=>R) R R R R hu5) ?_
    refine dv R (B0 L3 R (.cp _) R) (dv R (Ma (l:=u5) Tryz.underlying56 Tryz.underlying5 Tryz.underlying9 R R R) (dv R (Uw R R) (U8 (Ab (ccI h R (λh=>?_) (λh=>?_))))))
    ·refine csr (rm 1 R (Ah (Bq (Av (Af (Af (Av (Af ?_))))))))
     obtain rfl:=SJ h
     obtain rfl:Sum.inl _=x3:=hk3
     replace ho3:some _=some _:=ho3
     obtain rfl:=zD ho3
     exact dnT R R R R
    ·refine Bf (Ar (Ab (Au (rm 1 R (sv R (Bp R R) (rm 1 R (Ah ?_)))))))
     obtain rfl:=SJ h
     exact⟨(n3,(wI (s3+1))),_,hk3,⟨R,R,R,trivial⟩,R,zG _⟩
   ·refine C3 (As (As (Bi (Ab ?_))))
    obtain rfl:=SJ h
    obtain rfl:_=x3:=hk3
    exact⟨(),_,ho3,trivial,R⟩
 ·skip
  refine Au (fl Aqn ti3 R R R R R R (fl Aqn ti3 R R R R R R (sv R (Cc R R) (rm 1 R (ssI 11 h R (λh=>?_) (λh=>?_))))))
  ·refine rm 50 R (Ah (Ce R (λ_=>?_) (λhx=>Bool.noConfusion hx)))
   refine csr (rm 1 R (Ah (Bq (Af ?_))))
   obtain rfl:=SJ h
   exact dnT R R R R
  ·refine son R R R (sv R (Aa Ani R) (son R R R (sv R (l1 ti3 R R R) (son R R R (sv R (Aa Ani R) (son R R R (sv R (l1 ti3 R R R) (son R R R (sv R (Cc R R) (rm 2 R (ssI 18 h R (λh=>?_) (λh=>?_))))))))))))
   ·refine rm 43 R (Ah (Ce R (λ_=>?_) (λhx=>Bool.noConfusion hx)))
    refine csr (rm 1 R (Ah (Bq (Af ?_))))
    obtain rfl:=SJ h
    exact dnT R R R R
   ·refine son R R R (sv R (Aa Ap2 R) (son R R R (sv R (l1 ti3 R R R) (son R R R (sv R (Aa Ap2 R) (son R R R (sv R (l1 ti3 R R R) (son R R R (sv R (Cc R R) (rm 2 R (ssI 25 h R (λh=>?_) (λh=>?_))))))))))))
    ·refine rm 36 R (Ah (Ce R (λ_=>?_) (λhx=>Bool.noConfusion hx)))
     refine csr (rm 1 R (Ah (Bq (Af ?_))))
     obtain rfl:=SJ h
     exact dnT R R R R
    ·refine son R R R (sv R (Aa Ap6 R) (son R R R (sv R (l1 ti3 R R R) (son R R R (sv R (Aa Ap6 R) (son R R R (sv R (l1 ti3 R R R) (son R R R (sv R (Cc R R) (rm 2 R (ssI 32 h R (λh=>?_) (λh=>?_))))))))))))
     ·refine rm 29 R (Ah (Ce R (λ_=>?_) (λhx=>Bool.noConfusion hx)))
      refine csr (rm 1 R (Ah (Bq (Af ?_))))
      obtain rfl:=SJ h
      exact dnT R R R R
     ·refine son R R R (sv R (Aa Aoz R) (son R R R (sv R (l1 ti4 R R R) (son R R R (sv R (Aa Aoz R) (son R R R (sv R (l1 ti4 R R R) (son R R R (sv R (Yv Tryz.underlying4 R R) (rm 2 R (ssI 39 h R (λh=>?_) (λh=>?_))))))))))))
      ·refine rm 22 R (Ah (Ce R (λ_=>?_) (λhx=>Bool.noConfusion hx)))
       refine csr (rm 1 R (Ah (Bq (Af ?_))))
       obtain rfl:=SJ h
       exact dnT R R R R
      ·refine son R R R (sv R (Aa Apt R) (son R R R (sv R (l1 ti4 R R R) (son R R R (sv R (Aa Apt R) (son R R R (sv R (l1 ti4 R R R) (son R R R (sv R (Yv Tryz.underlying4 R R) (rm 2 R (ssI 46 h R (λh=>?_) (λh=>?_))))))))))))
       ·refine rm 15 R (Ah (Ce R (λ_=>?_) (λhx=>Bool.noConfusion hx)))
        refine csr (rm 1 R (Ah (Bq (Af ?_))))
        obtain rfl:=SJ h
        exact dnT R R R R
       ·refine son R R R (sv R (Aa Apv R) (son R R R (sv R (l1 ti4 R R R) (son R R R (sv R (Aa Apv R) (son R R R (sv R (l1 ti4 R R R) (son R R R (sv R (Yv Tryz.underlying4 R R) (rm 2 R (ssI 53 h R (λh=>?_) (λh=>?_))))))))))))
        ·refine rm 8 R (Ah (Ce R (λ_=>?_) (λhx=>Bool.noConfusion hx)))
         refine csr (rm 1 R (Ah (Bq (Af ?_))))
         obtain rfl:=SJ h
         exact dnT R R R R
        ·refine son R R R (sv R (Aa Acg R) (son R R R (sv R (l1 Xo R R R) (son R R R (sv R (Ap Se R) (son R R R (sv R (Aa Acg R) (son R R R (sv R (l1 Xo R R R) (son R R R (sv R (Ap Se R) (son R R R (sv R (Cc R R) (rm 1 R (Ah (ccI h R (λh=>?_) (λh=>?_)))))))))))))))))
         ·refine csr (rm 1 R (Ah (Bq (Af ?_))))
          obtain rfl:=SJ h
          exact dnT R R R R
         ·refine Bf (Ab ?_)
          exact⟨(),_,h,⟨R,R,trivial⟩,R⟩
def Sw (b2:Unit):Option Bool :=
 some true
def Nm (a0:Oc) (a1:Oc) (s3:Int):Option (LR (Int) (Unit) (Bool)) :=
 if (decide (s3<(a0.Txs.length:Int))) then((idx a0.Txs s3).bind λu4=>(idx a1.Txs s3).bind λu5=>(M2 u4 u5).bind λv6=>if (!v6) then(some (.ret false)) else(some (.cont (wI (s3+1))))) else(some (.brk ()))
def P5 (a0:Oc) (a1:Oc) (b1:Unit):Option Bool :=
 (Iz (Nm a0 a1) fuel 0).bind λx=>match x with | .inl r=>some r | .inr e7=>Sw e7
def Rh (a0:Oc) (a1:Oc):Option Bool :=
 if (!decide ((a0.Txs.length:Int)=(a1.Txs.length:Int))) then(some false) else((P0 a0.Reads a1.Reads).bind λv8=>if (!v8) then(some false) else(P5 a0 a1 ()))
theorem Adh {a0:Oc} {a1:Oc} {r:Bool} (h:Rh a0 a1=some r):Bt Qx0 42 [.agg (EL.el a0),.agg (EL.el a1)] (·=L7 (.b r)):=by
 unfold Rh at h
 refine A1 Tryz.func42 R (nt:=40) R (Nbl R) ?_
 intro w0 S0
 refine csr (Er R R (Er R R (rm 1 R (Ah (Bj (Bj (cj3 (Unit) (λb1=>[(2,L7 (.lp 0 0)),(3,L7 (.lp 1 0))]) (λb1=>[.box (EL.el a0),.box (EL.el a1)]) (λb1=>P5 a0 a1 b1=some r) (λ_=>R) (λb1 h=>?_) ?_)))))))
 ·unfold P5 at h
  refine Bj (csr (rm 1 R (Ah (cj (Unit) (λb2=>[]) (λb2=>[.box (EL.el a0),.box (EL.el a1)]) (λb2=>Sw b2=some r) (λ_=>R) (λb2 h=>?_) ?_))))
  ·unfold Sw at h
   refine csr (rm 1 R (Ah (Bq ?_)))
   obtain rfl:=SJ h
   exact dnT R R R R
  ·skip
   refine Bl ?_
   obtain⟨x3,hx3,ho3⟩:=Ae h
   refine lpo (G:=Nat×(Int)) (λg=>[(2,L7 (.lp 0 0)),(3,L7 (.lp 1 0)),(5,L7 (Ii6 g.2))]) (λg=>[.box (EL.el a0),.box (EL.el a1)]) (λg=>Iz (Nm a0 a1) g.1 g.2=some x3) (λg=>g.1) (fuel,0) hx3 ⟨R,R,R,trivial⟩ [] R (λ_=>R) ?_
   clear hx3 h
   rintro⟨n3,s3⟩ h
   obtain⟨n3,y3,rfl,h,hk3⟩:=Dj h
   unfold Nm at h
   refine Bj (csr (rm 1 R (fl Ach Axd R R R R R R (sv R (Ap Ayx R) (sv R (Bv R R) (Ah (ccI h R (λh=>?_) (λh=>?_))))))))
   ·refine Bf (Ab (Bj (Bl (Bj ?_))))
    refine Ue mixed (by kernel_rfl) ?_
    refine dv R (Aa Ach R) (dv R (l1 Axd R R R) (dv R (Az R) ?_))
    obtain⟨u4,hu4,h⟩:=Ae h
    refine dv R (B4 (f:=G6) Ayx (λ_=>R) R R R R hu4) ?_
    refine dv R (Bs (ys:=[Ii6 u4.ID,Ii6 u4.Begin,Ii6 u4.End,Ii6 u4.State,.b u4.In,.b u4.Out,.b u4.RO,SL u4.Keys (eL eU8)]) Axl R (.cp _) R R) (dv R (Aa Ach R) (dv R (l1 Axd R R R) (dv R (Az R) ?_)))
    obtain⟨u5,hu5,h⟩:=Ae h
    refine dv R (B4 (f:=G6) Ayx (λ_=>R) R R R R hu5) ?_
    refine dv R (Bs (ys:=[Ii6 u5.ID,Ii6 u5.Begin,Ii6 u5.End,Ii6 u5.State,.b u5.In,.b u5.Out,.b u5.RO,SL u5.Keys (eL eU8)]) Axl R (.cp _) R R) ?_
    obtain⟨v6,hv6,h⟩:=Ae h
    refine dd R (Cm A3y (Ac R (Ac R Ag)) R (Z9 hv6)) (dv R (Bz R) (U8 (Ab (ccI h R (λh=>?_) (λh=>?_)))))
    ·refine csr (rm 1 R (Ah (Bq (Av (Af (Af (Av (Af ?_))))))))
     obtain rfl:=SJ h
     obtain rfl:Sum.inl _=x3:=hk3
     replace ho3:some _=some _:=ho3
     obtain rfl:=zD ho3
     exact dnT R R R R
    ·refine Bf (Ar (Ab (Au (rm 1 R (sv R (Bp R R) (rm 1 R (Ah ?_)))))))
     obtain rfl:=SJ h
     exact⟨(n3,(wI (s3+1))),_,hk3,⟨R,R,R,trivial⟩,R,zG _⟩
   ·refine C3 (As (As (Bi (Ab ?_))))
    obtain rfl:=SJ h
    obtain rfl:_=x3:=hk3
    exact⟨(),_,ho3,trivial,R⟩
 ·skip
  refine Au (fl Ach Axd R R R R R R (sv R (Ap Ayx R) (fl Ach Axd R R R R R R (sv R (Ap Ayx R) (sv R (Cc R R) (rm 1 R (ssI 13 h R (λh=>?_) (λh=>?_))))))))
  ·refine rm 7 R (Ah (Ce R (λ_=>?_) (λhx=>Bool.noConfusion hx)))
   refine csr (rm 1 R (Ah (Bq (Af ?_))))
   obtain rfl:=SJ h
   exact dnT R R R R
  ·refine son R R R (sv R (Aa Alk R) (son R R R (ld A43 R R R R (son R R R (sv R (Aa Alk R) (son R R R (ld A43 R R R R (son R R R ?_))))))))
   obtain⟨v8,hv8,h⟩:=Ae h
   refine Bb R A12 (Ac R (Ac R Ag)) (Ao R) (Ab8 hv8) (son R R R (sv R (Bz R) (rm 1 R (Ah (ccI h R (λh=>?_) (λh=>?_))))))
   ·refine csr (rm 1 R (Ah (Bq (Af ?_))))
    obtain rfl:=SJ h
    exact dnT R R R R
   ·refine Bf (Ab ?_)
    exact⟨(),_,h,⟨R,R,trivial⟩,R⟩
def Te (b1:Unit):Option Bool :=
 some true
def Nl (a0:Nx) (a1:Nx) (s2:Int):Option (LR (Int) (Unit) (Bool)) :=
 if (decide (s2<(a0.L.length:Int))) then((idx a0.L s2).bind λu3=>(idx a1.L s2).bind λu4=>if (!((decide (u3.Tok=u4.Tok))&&((decide (u3.Attempt=u4.Attempt))&&((decide (u3.State=u4.State))&&((decide (u3.Ts=u4.Ts))&&true))))) then(some (.ret false)) else(some (.cont (wI (s2+1))))) else(some (.brk ()))
def Ro (a0:Nx) (a1:Nx):Option Bool :=
 if (!decide ((a0.L.length:Int)=(a1.L.length:Int))) then(some false) else((Iz (Nl a0 a1) fuel 0).bind λx=>match x with | .inl r=>some r | .inr e5=>Te e5)
theorem Ado {a0:Nx} {a1:Nx} {r:Bool} (h:Ro a0 a1=some r):Bt Qx0 43 [.agg [SL a0.L Dc],.agg [SL a1.L Dc]] (·=L7 (.b r)):=by
 unfold Ro at h
 refine A1 Tryz.func43 R (nt:=31) R (Nbl R) ?_
 intro w0 S0
 refine csr (Er R R (Er R R (rm 1 R (Ah (Bj (csr (fl Ace Axa R R R R R R (sv R (Ap Ayh R) (fl Ace Axa R R R R R R (sv R (Ap Ayh R) (sv R (Cc R R) (Ah (ccI h R (λh=>?_) (λh=>?_))))))))))))))
 ·refine csr (rm 1 R (Ah (Bq (Af ?_))))
  obtain rfl:=SJ h
  exact dnT R R R R
 ·refine Bf (Ab (Bj (csr (rm 1 R (Ah (cj (Unit) (λb1=>[]) (λb1=>[.box [SL a0.L Dc],.box [SL a1.L Dc]]) (λb1=>Te b1=some r) (λ_=>R) (λb1 h=>?_) ?_))))))
  ·unfold Te at h
   refine csr (rm 1 R (Ah (Bq ?_)))
   obtain rfl:=SJ h
   exact dnT R R R R
  ·skip
   refine Bl ?_
   obtain⟨x2,hx2,ho2⟩:=Ae h
   refine lpo (G:=Nat×(Int)) (λg=>[(2,L7 (.lp 0 0)),(3,L7 (.lp 1 0)),(5,L7 (Ii6 g.2))]) (λg=>[.box [SL a0.L Dc],.box [SL a1.L Dc]]) (λg=>Iz (Nl a0 a1) g.1 g.2=some x2) (λg=>g.1) (fuel,0) hx2 ⟨R,R,R,trivial⟩ [] R (λ_=>R) ?_
   clear hx2 h
   rintro⟨n2,s2⟩ h
   obtain⟨n2,y2,rfl,h,hk2⟩:=Dj h
   unfold Nl at h
   refine Bj (csr (rm 1 R (fl Ace Axa R R R R R R (sv R (Ap Ayh R) (sv R (Bv R R) (Ah (ccI h R (λh=>?_) (λh=>?_))))))))
   ·refine Bf (Ab (Bj (Bl (Bj ?_))))
    refine Ue mixed (by kernel_rfl) ?_
    refine dv R (Aa Ace R) (dv R (l1 Axa R R R) (dv R (Az R) ?_))
    obtain⟨u3,hu3,h⟩:=Ae h
    refine dv R (B4 (f:=Dc) Ayh (λ_=>R) R R R R hu3) ?_
    refine dv R (Bs (ys:=[Ii6 u3.Tok,Ii6 u3.Attempt,Ii6 u3.State,Ii6 u3.Ts]) Axn R (.cp _) R R) (dv R (Aa Ace R) (dv R (l1 Axa R R R) (dv R (Az R) ?_)))
    obtain⟨u4,hu4,h⟩:=Ae h
    refine dv R (B4 (f:=Dc) Ayh (λ_=>R) R R R R hu4) ?_
    refine dv R (Bs (ys:=[Ii6 u4.Tok,Ii6 u4.Attempt,Ii6 u4.State,Ii6 u4.Ts]) Axn R (.cp _) R R) (dv R (Aox A17 R R R R R) (U8 (Ab (ccI h R (λh=>?_) (λh=>?_)))))
    ·refine csr (rm 1 R (Ah (Bq (Av (Af (Af (Av (Af ?_))))))))
     obtain rfl:=SJ h
     obtain rfl:Sum.inl _=x2:=hk2
     replace ho2:some _=some _:=ho2
     obtain rfl:=zD ho2
     exact dnT R R R R
    ·refine Bf (Ar (Ab (Au (rm 1 R (sv R (Bp R R) (rm 1 R (Ah ?_)))))))
     obtain rfl:=SJ h
     exact⟨(n2,(wI (s2+1))),_,hk2,⟨R,R,R,trivial⟩,R,zG _⟩
   ·refine C3 (As (As (Bi (Ab ?_))))
    obtain rfl:=SJ h
    obtain rfl:_=x2:=hk2
    exact⟨(),_,ho2,trivial,R⟩
def S7 (b1:Unit):Option Bool :=
 some true
def Nw (a0:List A7) (a1:List A7) (s2:Int):Option (LR (Int) (Unit) (Bool)) :=
 if (decide (s2<(a0.length:Int))) then((idx a0 s2).bind λu3=>(idx a1 s2).bind λu4=>if (!(u3.Key==u4.Key)) then(some (.ret false)) else((idx a0 s2).bind λu5=>(idx a1 s2).bind λu6=>if (!(u5.Val==u6.Val)) then(some (.ret false)) else((idx a0 s2).bind λu7=>(idx a1 s2).bind λu8=>if (!(u7.Del==u8.Del)) then(some (.ret false)) else(some (.cont (wI (s2+1))))))) else(some (.brk ()))
def Rf (a0:List A7) (a1:List A7):Option Bool :=
 if (!decide ((a0.length:Int)=(a1.length:Int))) then(some false) else((Iz (Nw a0 a1) fuel 0).bind λx=>match x with | .inl r=>some r | .inr e9=>S7 e9)
theorem Adp {a0:List A7} {a1:List A7} {r:Bool} (h:Rf a0 a1=some r):Bt Qx0 44 [.one (SL a0 A5),.one (SL a1 A5)] (·=L7 (.b r)):=by
 unfold Rf at h
 refine A1 Tryz.func44 R (nt:=58) R (Nbl R) ?_
 intro w0 S0
 refine csr (rm 1 R (Ah (Bj (csr (rm 1 R (sv R (Ap Zh R) (rm 1 R (sv R (Ap Zh R) (sv R (Cc R R) (Ah (ccI h R (λh=>?_) (λh=>?_))))))))))))
 ·refine csr (rm 1 R (Ah (Bq (Af ?_))))
  obtain rfl:=SJ h
  exact dnT R R R R
 ·refine Bf (Ab (Bj (csr (rm 1 R (Ah (cj (Unit) (λb1=>[]) (λb1=>[]) (λb1=>S7 b1=some r) (λ_=>R) (λb1 h=>?_) ?_))))))
  ·unfold S7 at h
   refine csr (rm 1 R (Ah (Bq ?_)))
   obtain rfl:=SJ h
   exact dnT R R R R
  ·skip
   refine Bl ?_
   obtain⟨x2,hx2,ho2⟩:=Ae h
   refine lpo (G:=Nat×(Int)) (λg=>[(0,L7 (SL a0 A5)),(1,L7 (SL a1 A5)),(5,L7 (Ii6 g.2))]) (λg=>[]) (λg=>Iz (Nw a0 a1) g.1 g.2=some x2) (λg=>g.1) (fuel,0) hx2 ⟨R,R,R,trivial⟩ [] R (λ_=>R) ?_
   clear hx2 h
   rintro⟨n2,s2⟩ h
   obtain⟨n2,y2,rfl,h,hk2⟩:=Dj h
   unfold Nw at h
   refine Bj (csr (rm 2 R (sv R (Ap Zh R) (sv R (Bv R R) (Ah (ccI h R (λh=>?_) (λh=>?_)))))))
   ·refine Bf (Ab (Bj (Bl (Bj ?_))))
    refine Ue mixed (by kernel_rfl) ?_
    refine dv R (Az R) (dv R (Az R) ?_)
    obtain⟨u3,hu3,h⟩:=Ae h
    refine dv R (B4 (f:=A5) Zh (λ_=>R) R R R R hu3) ?_
    refine dv R (Bw Tn R) (dv R (B0 L3 R (.cp _) R) (dv R (Ma (l:=u3.Key) Tryz.underlying56 Tryz.underlying5 Tryz.underlying9 R R R) (dv R (Az R) (dv R (Az R) ?_))))
    obtain⟨u4,hu4,h⟩:=Ae h
    refine dv R (B4 (f:=A5) Zh (λ_=>R) R R R R hu4) ?_
    refine dv R (Bw Tn R) (dv R (B0 L3 R (.cp _) R) (dv R (Ma (l:=u4.Key) Tryz.underlying56 Tryz.underlying5 Tryz.underlying9 R R R) (dv R (Uw R R) (dv R (Az R) (Qd 30 R (λhc=>?_) (λhc=>?_))))))
    ·replace h:=Q5 hc h
     clear hc
     refine C0 R R R R (C0 R R R R (C0 R R R R (C0 R R R R (C0 R R R R (C0 R R R R (C0 R R R R (C0 R R R R (C0 R R R R (C0 R R R R (C0 R R R R (C0 R R R R (C0 R R R R (dv R (Ch R R) (dv R (Az R) (C0 R R R R (C0 R R R R (C0 R R R R (C0 R R R R (C0 R R R R (C0 R R R R (C0 R R R R (C0 R R R R (C0 R R R R (C0 R R R R (C0 R R R R (dv R (Ch R R) (U8 (Ab (Ce R (λ_=>?_) (λhx=>Bool.noConfusion hx))))))))))))))))))))))))))))))
     refine csr (rm 1 R (Ah (Bq (Av (Af (Af (Av (Af ?_))))))))
     obtain rfl:=SJ h
     obtain rfl:Sum.inl _=x2:=hk2
     replace ho2:some _=some _:=ho2
     obtain rfl:=zD ho2
     exact dnT R R R R
    ·replace h:=Qy hc h
     clear hc
     refine dvg R R R (Az R) (dvg R R R (Az R) ?_)
     obtain⟨u5,hu5,h⟩:=Ae h
     refine dvg R R R (B4 (f:=A5) Zh (λ_=>R) R R R R hu5) ?_
     refine dvg R R R (Bw Y0 R) (dvg R R R (B0 L3 R (.cp _) R) (dvg R R R (Ma (l:=u5.Val) Tryz.underlying56 Tryz.underlying5 Tryz.underlying9 R R R) (dvg R R R (Az R) (dvg R R R (Az R) ?_))))
     obtain⟨u6,hu6,h⟩:=Ae h
     refine dvg R R R (B4 (f:=A5) Zh (λ_=>R) R R R R hu6) ?_
     refine dvg R R R (Bw Y0 R) (dvg R R R (B0 L3 R (.cp _) R) (dvg R R R (Ma (l:=u6.Val) Tryz.underlying56 Tryz.underlying5 Tryz.underlying9 R R R) (dvg R R R (Uw R R) (dv R (Cl R R) (dv R (Az R) (Qd 45 R (λhc=>?_) (λhc=>?_)))))))
     ·replace h:=Q5 hc h
      clear hc
      refine C0 R R R R (C0 R R R R (C0 R R R R (C0 R R R R (C0 R R R R (C0 R R R R (C0 R R R R (C0 R R R R (C0 R R R R (C0 R R R R (C0 R R R R (dv R (Ch R R) (U8 (Ab (Ce R (λ_=>?_) (λhx=>Bool.noConfusion hx)))))))))))))))
      refine csr (rm 1 R (Ah (Bq (Av (Af (Af (Av (Af ?_))))))))
      obtain rfl:=SJ h
      obtain rfl:Sum.inl _=x2:=hk2
      replace ho2:some _=some _:=ho2
      obtain rfl:=zD ho2
      exact dnT R R R R
     ·replace h:=Qy hc h
      clear hc
      refine dvg R R R (Az R) (dvg R R R (Az R) ?_)
      obtain⟨u7,hu7,h⟩:=Ae h
      refine dvg R R R (B4 (f:=A5) Zh (λ_=>R) R R R R hu7) ?_
      refine dvg R R R (Bw Abr R) (dvg R R R (B0 ti4 R (.cp _) R) (dvg R R R (Az R) (dvg R R R (Az R) ?_)))
      obtain⟨u8,hu8,h⟩:=Ae h
      refine dvg R R R (B4 (f:=A5) Zh (λ_=>R) R R R R hu8) ?_
      refine dvg R R R (Bw Abr R) (dvg R R R (B0 ti4 R (.cp _) R) (dvg R R R (Yv Tryz.underlying4 R R) (dv R (Cl R R) (U8 (Ab (ccI h R (λh=>?_) (λh=>?_)))))))
      ·refine csr (rm 1 R (Ah (Bq (Av (Af (Af (Av (Af ?_))))))))
       obtain rfl:=SJ h
       obtain rfl:Sum.inl _=x2:=hk2
       replace ho2:some _=some _:=ho2
       obtain rfl:=zD ho2
       exact dnT R R R R
      ·refine Bf (Ar (Ab (Au (rm 1 R (sv R (Bp R R) (rm 1 R (Ah ?_)))))))
       obtain rfl:=SJ h
       exact⟨(n2,(wI (s2+1))),_,hk2,⟨R,R,R,trivial⟩,R,zG _⟩
   ·refine C3 (As (As (Bi (Ab ?_))))
    obtain rfl:=SJ h
    obtain rfl:_=x2:=hk2
    exact⟨(),_,ho2,trivial,R⟩
def Su (b2:Unit):Option Bool :=
 some true
def Nz (a0:Du) (a1:Du) (s3:Int):Option (LR (Int) (Unit) (Bool)) :=
 if (decide (s3<(a0.Open.length:Int))) then((idx a0.Open s3).bind λu4=>(idx a1.Open s3).bind λu5=>if (!decide (u4.ID=u5.ID)) then(some (.ret false)) else(if (!decide (u4.Token=u5.Token)) then(some (.ret false)) else(if (!decide (u4.Attempt=u5.Attempt)) then(some (.ret false)) else(if (!decide (u4.Snap=u5.Snap)) then(some (.ret false)) else(if (!(u4.RO==u5.RO)) then(some (.ret false)) else((Rf u4.Buf.L u5.Buf.L).bind λv6=>if (!v6) then(some (.ret false)) else(some (.cont (wI (s3+1)))))))))) else(some (.brk ()))
def P1 (a0:Du) (a1:Du) (b1:Unit):Option Bool :=
 (Iz (Nz a0 a1) fuel 0).bind λx=>match x with | .inl r=>some r | .inr e7=>Su e7
def Rj (a0:Du) (a1:Du):Option Bool :=
 (Rn a0.Store a1.Store).bind λv8=>if (!v8) then(some false) else((Rh a0.Cert a1.Cert).bind λv9=>if (!v9) then(some false) else((Ro a0.Toks a1.Toks).bind λv10=>if (!v10) then(some false) else(if (!decide (a0.Next=a1.Next)) then(some false) else(if (!decide ((a0.Open.length:Int)=(a1.Open.length:Int))) then(some false) else(P1 a0 a1 ())))))
theorem Ade {a0:Du} {a1:Du} {r:Bool} (h:Rj a0 a1=some r):Bt Qx0 14 [.agg (EL.el a0),.agg (EL.el a1)] (·=L7 (.b r)):=by
 unfold Rj at h
 refine A1 Tryz.func14 R (nt:=106) R (Nbl R) ?_
 intro w0 S0
 refine csr (Er R R (Er R R (rm 1 R (Ah (Bj (Bj (cj3 (Unit) (λb1=>[(2,L7 (.lp 0 0)),(3,L7 (.lp 1 0))]) (λb1=>[.box (EL.el a0),.box (EL.el a1)]) (λb1=>P1 a0 a1 b1=some r) (λ_=>R) (λb1 h=>?_) ?_)))))))
 ·unfold P1 at h
  refine Bj (csr (rm 1 R (Ah (cj (Unit) (λb2=>[]) (λb2=>[.box (EL.el a0),.box (EL.el a1)]) (λb2=>Su b2=some r) (λ_=>R) (λb2 h=>?_) ?_))))
  ·unfold Su at h
   refine csr (rm 1 R (Ah (Bq ?_)))
   obtain rfl:=SJ h
   exact dnT R R R R
  ·skip
   refine Bl ?_
   obtain⟨x3,hx3,ho3⟩:=Ae h
   refine lpo (G:=Nat×(Int)) (λg=>[(2,L7 (.lp 0 0)),(3,L7 (.lp 1 0)),(5,L7 (Ii6 g.2))]) (λg=>[.box (EL.el a0),.box (EL.el a1)]) (λg=>Iz (Nz a0 a1) g.1 g.2=some x3) (λg=>g.1) (fuel,0) hx3 ⟨R,R,R,trivial⟩ [] R (λ_=>R) ?_
   clear hx3 h
   rintro⟨n3,s3⟩ h
   obtain⟨n3,y3,rfl,h,hk3⟩:=Dj h
   unfold Nz at h
   refine Bj (csr (rm 1 R (fl Abp Aw8 R R R R R R (sv R (Ap Az6 R) (sv R (Bv R R) (Ah (ccI h R (λh=>?_) (λh=>?_))))))))
   ·refine Bf (Ab (Bj (Bl (csr (fl Abp Aw8 R R R R R R (sv R (Az R) ?_))))))
    obtain⟨u4,hu4,h⟩:=Ae h
    refine sv R (B4 (f:=Me) Az6 (λ_=>R) R R R R hu4) ?_
    refine sv R (Bs (ys:=[Ii6 u4.ID,Ii6 u4.Token,Ii6 u4.Attempt,Ii6 u4.Snap,.b u4.RO,SL u4.Buf.L A5]) Ax8 R (.cp _) R R) (Br R Avb (sst Azd R R R R R (Ah (csr (fl Abp Aw8 R R R R R R (sv R (Az R) ?_))))))
    obtain⟨u5,hu5,h⟩:=Ae h
    refine sv R (B4 (f:=Me) Az6 (λ_=>R) R R R R hu5) ?_
    refine sv R (Bs (ys:=[Ii6 u5.ID,Ii6 u5.Token,Ii6 u5.Attempt,Ii6 u5.Snap,.b u5.RO,SL u5.Buf.L A5]) Ax8 R (.cp _) R R) (Br R Avb (sst Azd R R R R R (Ah (csr (fl Ank ti3 R R R R R R (fl Ank ti3 R R R R R R (sv R (Cc R R) (rm 1 R (ssI 68 h R (λh=>?_) (λh=>?_))))))))))
    ·refine rm 37 R (Ah (Ce R (λ_=>?_) (λhx=>Bool.noConfusion hx)))
     refine csr (rm 1 R (Ah (Bq (Av (Af (Af (Av (Af ?_))))))))
     obtain rfl:=SJ h
     obtain rfl:Sum.inl _=x3:=hk3
     replace ho3:some _=some _:=ho3
     obtain rfl:=zD ho3
     exact dnT R R R R
    ·refine son R R R (sv R (Aa Ap7 R) (son R R R (sv R (l1 ti3 R R R) (son R R R (sv R (Aa Ap7 R) (son R R R (sv R (l1 ti3 R R R) (son R R R (sv R (Cc R R) (rm 2 R (ssI 75 h R (λh=>?_) (λh=>?_))))))))))))
     ·refine rm 30 R (Ah (Ce R (λ_=>?_) (λhx=>Bool.noConfusion hx)))
      refine csr (rm 1 R (Ah (Bq (Av (Af (Af (Av (Af ?_))))))))
      obtain rfl:=SJ h
      obtain rfl:Sum.inl _=x3:=hk3
      replace ho3:some _=some _:=ho3
      obtain rfl:=zD ho3
      exact dnT R R R R
     ·refine son R R R (sv R (Aa Aow R) (son R R R (sv R (l1 ti3 R R R) (son R R R (sv R (Aa Aow R) (son R R R (sv R (l1 ti3 R R R) (son R R R (sv R (Cc R R) (rm 2 R (ssI 82 h R (λh=>?_) (λh=>?_))))))))))))
      ·refine rm 23 R (Ah (Ce R (λ_=>?_) (λhx=>Bool.noConfusion hx)))
       refine csr (rm 1 R (Ah (Bq (Av (Af (Af (Av (Af ?_))))))))
       obtain rfl:=SJ h
       obtain rfl:Sum.inl _=x3:=hk3
       replace ho3:some _=some _:=ho3
       obtain rfl:=zD ho3
       exact dnT R R R R
      ·refine son R R R (sv R (Aa An1 R) (son R R R (sv R (l1 ti3 R R R) (son R R R (sv R (Aa An1 R) (son R R R (sv R (l1 ti3 R R R) (son R R R (sv R (Cc R R) (rm 2 R (ssI 89 h R (λh=>?_) (λh=>?_))))))))))))
       ·refine rm 16 R (Ah (Ce R (λ_=>?_) (λhx=>Bool.noConfusion hx)))
        refine csr (rm 1 R (Ah (Bq (Av (Af (Af (Av (Af ?_))))))))
        obtain rfl:=SJ h
        obtain rfl:Sum.inl _=x3:=hk3
        replace ho3:some _=some _:=ho3
        obtain rfl:=zD ho3
        exact dnT R R R R
       ·refine son R R R (sv R (Aa Aok R) (son R R R (sv R (l1 ti4 R R R) (son R R R (sv R (Aa Aok R) (son R R R (sv R (l1 ti4 R R R) (son R R R (sv R (Yv Tryz.underlying4 R R) (rm 2 R (ssI 96 h R (λh=>?_) (λh=>?_))))))))))))
        ·refine rm 9 R (Ah (Ce R (λ_=>?_) (λhx=>Bool.noConfusion hx)))
         refine csr (rm 1 R (Ah (Bq (Av (Af (Af (Av (Af ?_))))))))
         obtain rfl:=SJ h
         obtain rfl:Sum.inl _=x3:=hk3
         replace ho3:some _=some _:=ho3
         obtain rfl:=zD ho3
         exact dnT R R R R
        ·refine son R R R (sv R (Aa An8 R) (son R R R (sv R (Aa Ap9 R) (son R R R (sv R (l1 Am4 R R R) (son R R R (sv R (Aa An8 R) (son R R R (sv R (Aa Ap9 R) (son R R R (sv R (l1 Am4 R R R) (son R R R ?_))))))))))))
         obtain⟨v6,hv6,h⟩:=Ae h
         refine Bb R A5t (Ac R (Ac R Ag)) (Ao R) (Adp hv6) (son R R R (sv R (Bz R) (rm 1 R (Ah (ccI h R (λh=>?_) (λh=>?_))))))
         ·refine csr (rm 1 R (Ah (Bq (Av (Af (Af (Av (Af ?_))))))))
          obtain rfl:=SJ h
          obtain rfl:Sum.inl _=x3:=hk3
          replace ho3:some _=some _:=ho3
          obtain rfl:=zD ho3
          exact dnT R R R R
         ·refine Bf (Ar (Ab (Au (rm 1 R (sv R (Bp R R) (rm 1 R (Ah ?_)))))))
          obtain rfl:=SJ h
          exact⟨(n3,(wI (s3+1))),_,hk3,⟨R,R,R,trivial⟩,R,zG _⟩
   ·refine C3 (As (As (Bi (Ab ?_))))
    obtain rfl:=SJ h
    obtain rfl:_=x3:=hk3
    exact⟨(),_,ho3,trivial,R⟩
 ·skip
  refine Au (sv R (Aa Akl R) (ld A45 R R R R (sv R (Aa Akl R) (sv R (lo A45 R R R) ?_))))
  obtain⟨v8,hv8,h⟩:=Ae h
  refine Bb R A6b (Ac R (Ac R Ag)) (Ao R) (Adg hv8) (sv R (Bz R) (rm 1 R (ssI 14 h R (λh=>?_) (λh=>?_))))
  ·refine rm 31 R (Ah (Ce R (λ_=>?_) (λhx=>Bool.noConfusion hx)))
   refine csr (rm 1 R (Ah (Bq (Af ?_))))
   obtain rfl:=SJ h
   exact dnT R R R R
  ·refine son R R R (sv R (Aa Adz R) (son R R R (ld A48 R R R R (son R R R (sv R (Aa Adz R) (son R R R (ld A48 R R R R (son R R R ?_))))))))
   obtain⟨v9,hv9,h⟩:=Ae h
   refine Bb R A5u (Ac R (Ac R Ag)) (Ao R) (Adh hv9) (son R R R (sv R (Bz R) (rm 2 R (ssI 22 h R (λh=>?_) (λh=>?_)))))
   ·refine rm 23 R (Ah (Ce R (λ_=>?_) (λhx=>Bool.noConfusion hx)))
    refine csr (rm 1 R (Ah (Bq (Af ?_))))
    obtain rfl:=SJ h
    exact dnT R R R R
   ·refine son R R R (sv R (Aa Akg R) (son R R R (ld A4v R R R R (son R R R (sv R (Aa Akg R) (son R R R (ld A4v R R R R (son R R R ?_))))))))
    obtain⟨v10,hv10,h⟩:=Ae h
    refine Bb R A6t (Ac R (Ac R Ag)) (Ao R) (Ado hv10) (son R R R (sv R (Bz R) (rm 2 R (ssI 30 h R (λh=>?_) (λh=>?_)))))
    ·refine rm 15 R (Ah (Ce R (λ_=>?_) (λhx=>Bool.noConfusion hx)))
     refine csr (rm 1 R (Ah (Bq (Af ?_))))
     obtain rfl:=SJ h
     exact dnT R R R R
    ·refine son R R R (sv R (Aa At6 R) (son R R R (sv R (l1 ti3 R R R) (son R R R (sv R (Aa At6 R) (son R R R (sv R (l1 ti3 R R R) (son R R R (sv R (Cc R R) (rm 2 R (ssI 37 h R (λh=>?_) (λh=>?_))))))))))))
     ·refine rm 8 R (Ah (Ce R (λ_=>?_) (λhx=>Bool.noConfusion hx)))
      refine csr (rm 1 R (Ah (Bq (Af ?_))))
      obtain rfl:=SJ h
      exact dnT R R R R
     ·refine son R R R (sv R (Aa Abp R) (son R R R (sv R (l1 Aw8 R R R) (son R R R (sv R (Ap Az6 R) (son R R R (sv R (Aa Abp R) (son R R R (sv R (l1 Aw8 R R R) (son R R R (sv R (Ap Az6 R) (son R R R (sv R (Cc R R) (rm 1 R (Ah (ccI h R (λh=>?_) (λh=>?_)))))))))))))))))
      ·refine csr (rm 1 R (Ah (Bq (Af ?_))))
       obtain rfl:=SJ h
       exact dnT R R R R
      ·refine Bf (Ab ?_)
       exact⟨(),_,h,⟨R,R,trivial⟩,R⟩
def I2 (a0:B2):Option (List B8) :=
 (Hw a0 (Bh.mk ([]:List UInt8) ([]:List UInt8) true) a0.Ts (a0.Keys.length:Int)).bind λv1=>some v1
theorem To {a0:B2} {r:(List B8)} (h:I2 a0=some r):Bt Qx0 21 [.agg (EL.el a0)] (·=L7 (SL r Ca)):=by
 unfold I2 at h
 refine A1 Tryz.func21 R (nt:=11) R (Nbl R) ?_
 intro w0 S0
 refine csr (Er R R (rm 1 R (Ah (csr (ld Yw R R R R (sv R (A2 A1g A4z (Aq R A0) (.cons _ _ _ _ _ _ _ R R (Nbl R) (.nil _))) (fl M8 ti3 R R R R R R (fl R9 Xo R R R R R R (sv R (Ap Se R) ?_)))))))))
 obtain⟨v1,hv1,h⟩:=Ae h
 refine Bb R A44 (Ac R (Ac R (Ac R (Ac R Ag)))) (I8 R) (Vn hv1) (rm 1 R (Ah (Bq ?_)))
 obtain rfl:=SJ h
 exact dnT R R R R
def T4 (b1:Unit):Option Bool :=
 some true
def Ox (a0:List B8) (a1:List B8) (s2:Int):Option (LR (Int) (Unit) (Bool)) :=
 if (decide (s2<(a0.length:Int))) then((idx a0 s2).bind λu3=>(idx a1 s2).bind λu4=>if (!(u3.Key==u4.Key)) then(some (.ret false)) else((idx a0 s2).bind λu5=>(idx a1 s2).bind λu6=>if (!(u5.Val==u6.Val)) then(some (.ret false)) else(some (.cont (wI (s2+1)))))) else(some (.brk ()))
def Sq (a0:List B8) (a1:List B8):Option Bool :=
 if (!decide ((a0.length:Int)=(a1.length:Int))) then(some false) else((Iz (Ox a0 a1) fuel 0).bind λx=>match x with | .inl r=>some r | .inr e7=>T4 e7)
theorem Aes {a0:List B8} {a1:List B8} {r:Bool} (h:Sq a0 a1=some r):Bt Qx0 20 [.one (SL a0 Ca),.one (SL a1 Ca)] (·=L7 (.b r)):=by
 unfold Sq at h
 refine A1 Tryz.func20 R (nt:=45) R (Nbl R) ?_
 intro w0 S0
 refine csr (rm 1 R (Ah (Bj (csr (rm 1 R (sv R (Ap Aky R) (rm 1 R (sv R (Ap Aky R) (sv R (Cc R R) (Ah (ccI h R (λh=>?_) (λh=>?_))))))))))))
 ·refine csr (rm 1 R (Ah (Bq (Af ?_))))
  obtain rfl:=SJ h
  exact dnT R R R R
 ·refine Bf (Ab (Bj (csr (rm 1 R (Ah (cj (Unit) (λb1=>[]) (λb1=>[]) (λb1=>T4 b1=some r) (λ_=>R) (λb1 h=>?_) ?_))))))
  ·unfold T4 at h
   refine csr (rm 1 R (Ah (Bq ?_)))
   obtain rfl:=SJ h
   exact dnT R R R R
  ·skip
   refine Bl ?_
   obtain⟨x2,hx2,ho2⟩:=Ae h
   refine lpo (G:=Nat×(Int)) (λg=>[(0,L7 (SL a0 Ca)),(1,L7 (SL a1 Ca)),(5,L7 (Ii6 g.2))]) (λg=>[]) (λg=>Iz (Ox a0 a1) g.1 g.2=some x2) (λg=>g.1) (fuel,0) hx2 ⟨R,R,R,trivial⟩ [] R (λ_=>R) ?_
   clear hx2 h
   rintro⟨n2,s2⟩ h
   obtain⟨n2,y2,rfl,h,hk2⟩:=Dj h
   unfold Ox at h
   refine Bj (csr (rm 2 R (sv R (Ap Aky R) (sv R (Bv R R) (Ah (ccI h R (λh=>?_) (λh=>?_)))))))
   ·refine Bf (Ab (Bj (Bl (Bj ?_))))
    refine Ue mixed (by kernel_rfl) ?_
    refine dv R (Az R) (dv R (Az R) ?_)
    obtain⟨u3,hu3,h⟩:=Ae h
    refine dv R (B4 (f:=Ca) Aky (λ_=>R) R R R R hu3) ?_
    refine dv R (Bw Aby R) (dv R (B0 L3 R (.cp _) R) (dv R (Ma (l:=u3.Key) Tryz.underlying56 Tryz.underlying5 Tryz.underlying9 R R R) (dv R (Az R) (dv R (Az R) ?_))))
    obtain⟨u4,hu4,h⟩:=Ae h
    refine dv R (B4 (f:=Ca) Aky (λ_=>R) R R R R hu4) ?_
    refine dv R (Bw Aby R) (dv R (B0 L3 R (.cp _) R) (dv R (Ma (l:=u4.Key) Tryz.underlying56 Tryz.underlying5 Tryz.underlying9 R R R) (dv R (Uw R R) (dv R (Az R) (Qd 30 R (λhc=>?_) (λhc=>?_))))))
    ·replace h:=Q5 hc h
     clear hc
     refine C0 R R R R (C0 R R R R (C0 R R R R (C0 R R R R (C0 R R R R (C0 R R R R (C0 R R R R (C0 R R R R (C0 R R R R (C0 R R R R (C0 R R R R (C0 R R R R (C0 R R R R (dv R (Ch R R) (U8 (Ab (Ce R (λ_=>?_) (λhx=>Bool.noConfusion hx)))))))))))))))))
     refine csr (rm 1 R (Ah (Bq (Av (Af (Af (Av (Af ?_))))))))
     obtain rfl:=SJ h
     obtain rfl:Sum.inl _=x2:=hk2
     replace ho2:some _=some _:=ho2
     obtain rfl:=zD ho2
     exact dnT R R R R
    ·replace h:=Qy hc h
     clear hc
     refine dvg R R R (Az R) (dvg R R R (Az R) ?_)
     obtain⟨u5,hu5,h⟩:=Ae h
     refine dvg R R R (B4 (f:=Ca) Aky (λ_=>R) R R R R hu5) ?_
     refine dvg R R R (Bw Anh R) (dvg R R R (B0 L3 R (.cp _) R) (dvg R R R (Ma (l:=u5.Val) Tryz.underlying56 Tryz.underlying5 Tryz.underlying9 R R R) (dvg R R R (Az R) (dvg R R R (Az R) ?_))))
     obtain⟨u6,hu6,h⟩:=Ae h
     refine dvg R R R (B4 (f:=Ca) Aky (λ_=>R) R R R R hu6) ?_
     refine dvg R R R (Bw Anh R) (dvg R R R (B0 L3 R (.cp _) R) (dvg R R R (Ma (l:=u6.Val) Tryz.underlying56 Tryz.underlying5 Tryz.underlying9 R R R) (dvg R R R (Uw R R) (dv R (Cl R R) (U8 (Ab (ccI h R (λh=>?_) (λh=>?_))))))))
     ·refine csr (rm 1 R (Ah (Bq (Av (Af (Af (Av (Af ?_))))))))
      obtain rfl:=SJ h
      obtain rfl:Sum.inl _=x2:=hk2
      replace ho2:some _=some _:=ho2
      obtain rfl:=zD ho2
      exact dnT R R R R
     ·refine Bf (Ar (Ab (Au (rm 1 R (sv R (Bp R R) (rm 1 R (Ah ?_)))))))
      obtain rfl:=SJ h
      exact⟨(n2,(wI (s2+1))),_,hk2,⟨R,R,R,trivial⟩,R,zG _⟩
   ·refine C3 (As (As (Bi (Ab ?_))))
    obtain rfl:=SJ h
    obtain rfl:_=x2:=hk2
    exact⟨(),_,ho2,trivial,R⟩
def G1 (v1:Bool) (v3:Ai×(List B5)) (v5:Ai×Hn) (b8:Bool) (b9:Unit):Option Bool :=
 if v1 then((Hv v5.1).bind λv10=>if v10 then(if b8 then(if (!b8) then(some true) else(if (decide (v5.1.Store.Ts=(wI (v3.1.Store.Ts+1)))) then(some (decide (v5.2.n_=v5.1.Store.Ts))) else(some false))) else((I2 v5.1.Store).bind λv11=>(I2 v3.1.Store).bind λv12=>(Sq v11 v12).bind λv13=>if v13 then(if (decide (v5.1.Store.Ts=v3.1.Store.Ts)) then(if (!b8) then(some true) else(if (decide (v5.1.Store.Ts=(wI (v3.1.Store.Ts+1)))) then(some (decide (v5.2.n_=v5.1.Store.Ts))) else(some false))) else(some false)) else(some false))) else(some false)) else(some false)
def E7 (v1:Bool) (v3:Ai×(List B5)) (v5:Ai×Hn) (b8:Bool):Option Bool :=
 if (decide (v5.2.e_=1)) then(if (decide (v5.1.Next=0)) then(some v1) else(G1 v1 v3 v5 b8 ())) else(G1 v1 v3 v5 b8 ())
def Mz (a0:List Eo) (a1:Eo) (a2:Int) (v1:Bool) (b2:Unit):Option Bool :=
 (Ov a0).bind λv3=>(Mg v3.1).bind λv4=>(Sl v3.1 a1 (wI ((BitVec.ofInt 64 a2 &&& BitVec.ofInt 64 255).toNat:Int))).bind λv5=>(Mg v3.1).bind λv6=>(Rj v6 v4).bind λv7=>if (!v7) then(some false) else(if (decide (7<a1.What)) then(if (decide (a1.What<=10)) then(E7 v1 v3 v5 (decide (v5.2.e_=0))) else(E7 v1 v3 v5 false)) else(E7 v1 v3 v5 false))
def Ps (a0:List Eo) (a1:Eo) (a2:Int):Option Bool :=
 (Tp).bind λv1=>(N4 a0).bind λv14=>if (!v14) then(some v1) else((N4 [a1]).bind λv15=>if (!v15) then(some v1) else(Mz a0 a1 a2 v1 ()))
theorem Z1 {a0:List Eo} {a1:Eo} {a2:Int} {r:Bool} (h:Ps a0 a1 a2=some r):Bt Qx0 7 [.one (SL a0 Dp),.agg (EL.el a1),.one (Ii6 a2)] (·=L7 (.b r)):=by
 unfold Ps at h
 refine A1 Tryz.func7 R (nt:=115) R (Nbl R) ?_
 intro w0 S0
 refine csr (Er R R (rm 1 R (Ah (Bj (Au ?_)))))
 obtain⟨v1,hv1,h⟩:=Ae h
 refine Bb R fn9 Ag (Ao R) (Adq hv1) (rm 1 R (Ah (Bj (Bj (cj3 (Unit) (λb2=>[(0,L7 (SL a0 Dp)),(2,L7 (Ii6 a2)),(4,L7 (.lp 0 0)),(7,L7 (.b v1))]) (λb2=>[.box (EL.el a1)]) (λb2=>Mz a0 a1 a2 v1 b2=some r) (λ_=>R) (λb2 h=>?_) ?_)))))
 ·unfold Mz at h
  refine csr (sv R (Az R) ?_)
  obtain⟨v3,hv3,h⟩:=Ae h
  refine Bb R A5i (Ac R Ag) (Ao R) (Aa1 hv3) (sv R (Cf R) (sv R (Ak R R) (sv R (Ak R R) (Br R Tg (sst Kn R R R R R (rm 1 R (Ah (csr (sv R (lo Dq R R R) ?_)))))))))
  obtain⟨v4,hv4,h⟩:=Ae h
  refine Bb R A4r (Ac R Ag) (Ao R) (Vp hv4) (Br R A0x (sst A1v R R R R R (Ah (csr (ld Dq R R R R (ld A00 R R R R (rm 1 R (sv R (Ao4 R R) ?_))))))))
  obtain⟨v5,hv5,h⟩:=Ae h
  refine Bb R A4i (Ac R (Ac R (Ac R Ag))) (Ao R) (Aan hv5) (sv R (Cf R) (sv R (Ak R R) (sv R (Ak R R) (Br R Tg (Br R Am6 (sst Kn R R R R R (sst Aq1 R R R R R (Ah (Bj (Bj ?_))))))))))
  refine Ue mixed (by kernel_rfl) ?_
  refine dv R (lo Dq R R R) ?_
  obtain⟨v6,hv6,h⟩:=Ae h
  refine dd R (Cm A4r (Ac R Ag) R (Vp hv6)) (dv R (lo A30 R R R) ?_)
  obtain⟨v7,hv7,h⟩:=Ae h
  refine dd R (Cm A5o (Ac R (Ac R Ag)) R (Ade hv7)) (dv R (Bz R) (U8 (Ab (ccI h R (λh=>?_) (λh=>?_)))))
  ·refine csr (rm 1 R (Ah (Bq (Af ?_))))
   obtain rfl:=SJ h
   exact dnT R R R R
  ·refine Bf (Ab (Bj (cj (Bool) (λb8=>[(7,L7 (.b v1)),(8,L7 (.lp 1 0)),(11,L7 (.lp 3 0)),(12,L7 (.lp 4 0)),(13,L7 (.b b8))]) (λb8=>[.box (EL.el a1),.box (EL.el v3.1),.box (EL.el v4),.box (EL.el v5.1),.box (EL.el v5.2)]) (λb8=>E7 v1 v3 v5 b8=some r) (λ_=>R) (λb8 h=>?_) ?_)))
   ·unfold E7 at h
    refine Bj (Bj (cj3 (Unit) (λb9=>[(7,L7 (.b v1)),(8,L7 (.lp 1 0)),(11,L7 (.lp 3 0)),(12,L7 (.lp 4 0)),(13,L7 (.b b8))]) (λb9=>[.box (EL.el a1),.box (EL.el v3.1),.box (EL.el v4),.box (EL.el v5.1),.box (EL.el v5.2)]) (λb9=>G1 v1 v3 v5 b8 b9=some r) (λ_=>R) (λb9 h=>?_) ?_))
    ·unfold G1 at h
     refine Bj ?_
     refine Ue mixed (by kernel_rfl) ?_
     refine dv R (Az R) (dv R (Az R) (Qd 68 R (λhc=>?_) (λhc=>?_)))
     ·replace h:=Q5 hc h
      clear hc
      refine dvg R R R (lo Dq R R R) ?_
      obtain⟨v10,hv10,h⟩:=Ae h
      refine ddg R R R (Cm Axf (Ac R Ag) R (Mh hv10)) (dv R (Ch R R) (dv R (Az R) (Qd 72 R (λhc=>?_) (λhc=>?_))))
      ·replace h:=Q5 hc h
       clear hc
       refine dvg R R R (Az R) (dvg R R R (Az R) (Qd 74 R (λhc=>?_) (λhc=>?_)))
       ·replace h:=Q5 hc h
        clear hc
        refine C0 R R R R (C0 R R R R (C0 R R R R (C0 R R R R (C0 R R R R (C0 R R R R (C0 R R R R (C0 R R R R (Cg R R R (Cg R R R (Cg R R R (Cg R R R (Cg R R R (Cg R R R (Cg R R R (C0 R R R R (dvg R R R (Ch R R) (dv R (Ch R R) (dv R (Az R) (dvg R R R (Az R) (dvg R R R (Bz R) (dvg R R R (Az R) (Qd 96 R (λhc=>?_) (λhc=>?_)))))))))))))))))))))))
        ·replace h:=Q5 hc h
         clear hc
         refine C0 R R R R (C0 R R R R (C0 R R R R (C0 R R R R (C0 R R R R (C0 R R R R (C0 R R R R (C0 R R R R (C0 R R R R (Cg R R R (Cg R R R (Cg R R R (Cg R R R (Cg R R R (Cg R R R (C0 R R R R (dvg R R R (Ch R R) (dv R (Ch R R) (dv R (G0 R) (U8 (Ab (Bq ?_)))))))))))))))))))))
         obtain rfl:=SJ h
         exact dnT R R R R
        ·replace h:=Qy hc h
         clear hc
         refine dvg R R R (Aa K5 R) (dvg R R R (Aa M8 R) (dvg R R R (l1 ti3 R R R) (dvg R R R (Aa K5 R) (dvg R R R (Aa M8 R) (dvg R R R (l1 ti3 R R R) (dvg R R R (Bp R R) (dvg R R R (B6 R R) (dvg R R R (Az R) (Qd 105 R (λhc=>?_) (λhc=>?_))))))))))
         ·replace h:=Q5 hc h
          clear hc
          refine dvg R R R (Aa Aki R) (dvg R R R (l1 ti3 R R R) (dvg R R R (Aa K5 R) (dvg R R R (Aa M8 R) (dvg R R R (l1 ti3 R R R) (dvg R R R (B6 R R) (dvg R R R (Ch R R) (dvg R R R (Cl R R) (dv R (Ch R R) (dv R (G0 R) (U8 (Ab (Bq ?_))))))))))))
          obtain rfl:=SJ h
          exact dnT R R R R
         ·replace h:=Qy hc h
          clear hc
          refine C0 R R R R (C0 R R R R (C0 R R R R (C0 R R R R (C0 R R R R (C0 R R R R (dvg R R R (Cl R R) (dvg R R R (Cl R R) (dv R (Ch R R) (dv R (G0 R) (U8 (Ab (Bq ?_))))))))))))
          obtain rfl:=SJ h
          exact dnT R R R R
       ·replace h:=Qy hc h
        clear hc
        refine dvg R R R (Aa K5 R) (dvg R R R (lo Yw R R R) ?_)
        obtain⟨v11,hv11,h⟩:=Ae h
        refine ddg R R R (Cm A4y (Ac R Ag) R (To hv11)) (dvg R R R (Aa K5 R) (dvg R R R (lo Yw R R R) ?_))
        obtain⟨v12,hv12,h⟩:=Ae h
        refine ddg R R R (Cm A4y (Ac R Ag) R (To hv12)) ?_
        obtain⟨v13,hv13,h⟩:=Ae h
        refine ddg R R R (Cm A6l (Ac R (Ac R Ag)) R (Aes hv13)) (dvg R R R (Az R) (Qd 82 R (λhc=>?_) (λhc=>?_)))
        ·replace h:=Q5 hc h
         clear hc
         refine dvg R R R (Aa K5 R) (dvg R R R (Aa M8 R) (dvg R R R (l1 ti3 R R R) (dvg R R R (Aa K5 R) (dvg R R R (Aa M8 R) (dvg R R R (l1 ti3 R R R) (dvg R R R (B6 R R) (dvg R R R (Ch R R) (dvg R R R (Cl R R) (dv R (Ch R R) (dv R (Az R) (Qd 93 R (λhc=>?_) (λhc=>?_))))))))))))
         ·replace h:=Q5 hc h
          clear hc
          refine dvg R R R (Az R) (dvg R R R (Bz R) (dvg R R R (Az R) (Qd 96 R (λhc=>?_) (λhc=>?_))))
          ·replace h:=Q5 hc h
           clear hc
           refine C0 R R R R (C0 R R R R (C0 R R R R (C0 R R R R (C0 R R R R (C0 R R R R (C0 R R R R (C0 R R R R (C0 R R R R (Cg R R R (Cg R R R (Cg R R R (Cg R R R (Cg R R R (Cg R R R (C0 R R R R (dvg R R R (Ch R R) (dv R (Ch R R) (dv R (G0 R) (U8 (Ab (Bq ?_)))))))))))))))))))))
           obtain rfl:=SJ h
           exact dnT R R R R
          ·replace h:=Qy hc h
           clear hc
           refine dvg R R R (Aa K5 R) (dvg R R R (Aa M8 R) (dvg R R R (l1 ti3 R R R) (dvg R R R (Aa K5 R) (dvg R R R (Aa M8 R) (dvg R R R (l1 ti3 R R R) (dvg R R R (Bp R R) (dvg R R R (B6 R R) (dvg R R R (Az R) (Qd 105 R (λhc=>?_) (λhc=>?_))))))))))
           ·replace h:=Q5 hc h
            clear hc
            refine dvg R R R (Aa Aki R) (dvg R R R (l1 ti3 R R R) (dvg R R R (Aa K5 R) (dvg R R R (Aa M8 R) (dvg R R R (l1 ti3 R R R) (dvg R R R (B6 R R) (dvg R R R (Ch R R) (dvg R R R (Cl R R) (dv R (Ch R R) (dv R (G0 R) (U8 (Ab (Bq ?_))))))))))))
            obtain rfl:=SJ h
            exact dnT R R R R
           ·replace h:=Qy hc h
            clear hc
            refine C0 R R R R (C0 R R R R (C0 R R R R (C0 R R R R (C0 R R R R (C0 R R R R (dvg R R R (Cl R R) (dvg R R R (Cl R R) (dv R (Ch R R) (dv R (G0 R) (U8 (Ab (Bq ?_))))))))))))
            obtain rfl:=SJ h
            exact dnT R R R R
         ·replace h:=Qy hc h
          clear hc
          refine C0 R R R R (C0 R R R R (C0 R R R R (Cg R R R (Cg R R R (Cg R R R (Cg R R R (Cg R R R (Cg R R R (Cg R R R (Cg R R R (Cg R R R (Cg R R R (Cg R R R (Cg R R R (Cg R R R (Cg R R R (Cg R R R (Cg R R R (C0 R R R R (dv R (Cl R R) (dv R (G0 R) (U8 (Ab (Bq ?_))))))))))))))))))))))))
          obtain rfl:=SJ h
          exact dnT R R R R
        ·replace h:=Qy hc h
         clear hc
         refine C0 R R R R (C0 R R R R (C0 R R R R (C0 R R R R (C0 R R R R (C0 R R R R (C0 R R R R (dvg R R R (Cl R R) (dvg R R R (Cl R R) (dv R (Ch R R) (dv R (Az R) (C0 R R R R (C0 R R R R (C0 R R R R (Cg R R R (Cg R R R (Cg R R R (Cg R R R (Cg R R R (Cg R R R (Cg R R R (Cg R R R (Cg R R R (Cg R R R (Cg R R R (Cg R R R (Cg R R R (Cg R R R (Cg R R R (Cg R R R (C0 R R R R (dv R (Cl R R) (dv R (G0 R) (U8 (Ab (Bq ?_)))))))))))))))))))))))))))))))))))
         obtain rfl:=SJ h
         exact dnT R R R R
      ·replace h:=Qy hc h
       clear hc
       refine C0 R R R R (C0 R R R R (Cg R R R (Cg R R R (Cg R R R (Cg R R R (Cg R R R (Cg R R R (Cg R R R (Cg R R R (Cg R R R (Cg R R R (Cg R R R (Cg R R R (Cg R R R (Cg R R R (Cg R R R (Cg R R R (C0 R R R R (dv R (Cl R R) (dv R (Az R) (C0 R R R R (C0 R R R R (C0 R R R R (Cg R R R (Cg R R R (Cg R R R (Cg R R R (Cg R R R (Cg R R R (Cg R R R (Cg R R R (Cg R R R (Cg R R R (Cg R R R (Cg R R R (Cg R R R (Cg R R R (Cg R R R (Cg R R R (C0 R R R R (dv R (Cl R R) (dv R (G0 R) (U8 (Ab (Bq ?_)))))))))))))))))))))))))))))))))))))))))))))
       obtain rfl:=SJ h
       exact dnT R R R R
     ·replace h:=Qy hc h
      clear hc
      refine C0 R R R R (C0 R R R R (dv R (Cl R R) (dv R (Az R) (C0 R R R R (C0 R R R R (Cg R R R (Cg R R R (Cg R R R (Cg R R R (Cg R R R (Cg R R R (Cg R R R (Cg R R R (Cg R R R (Cg R R R (Cg R R R (Cg R R R (Cg R R R (Cg R R R (Cg R R R (Cg R R R (C0 R R R R (dv R (Cl R R) (dv R (Az R) (C0 R R R R (C0 R R R R (C0 R R R R (Cg R R R (Cg R R R (Cg R R R (Cg R R R (Cg R R R (Cg R R R (Cg R R R (Cg R R R (Cg R R R (Cg R R R (Cg R R R (Cg R R R (Cg R R R (Cg R R R (Cg R R R (Cg R R R (C0 R R R R (dv R (Cl R R) (dv R (G0 R) (U8 (Ab (Bq ?_)))))))))))))))))))))))))))))))))))))))))))))))))
      obtain rfl:=SJ h
      exact dnT R R R R
    ·skip
     refine Au (fl Adt Aw6 R R R R R R (sv R (B6 R R) (rm 1 R (ssI 61 h R (λh=>?_) (λh=>?_)))))
     ·refine son R R R (sv R (Aa Xr R) (son R R R (sv R (l1 ti3 R R R) (son R R R (sv R (B6 R R) (rm 1 R (Ah (ccI h R (λh=>?_) (λh=>?_)))))))))
      ·refine csr (rm 2 R (Ah (Bq (Af ?_))))
       obtain rfl:=SJ h
       exact dnT R R R R
      ·refine Bf (Ab ?_)
       exact⟨(),_,h,⟨R,R,R,R,R,trivial⟩,R⟩
     ·refine rm 4 R (Ah (Ce R (λhx=>Bool.noConfusion hx) (λ_=>?_)))
      refine Bf (Ab ?_)
      exact⟨(),_,h,⟨R,R,R,R,R,trivial⟩,R⟩
   ·skip
    refine Au (fl Tr ti3 R R R R R R (sv R (Dr R R) (rm 1 R (ssI 48 h R (λh=>?_) (λh=>?_)))))
    ·refine son R R R (sv R (Aa Tr R) (son R R R (sv R (l1 ti3 R R R) (son R R R (sv R (Dk R R) (rm 2 R (ssI 53 h R (λh=>?_) (λh=>?_))))))))
     ·refine son R R R (sv R (Aa Adt R) (son R R R (sv R (l1 Aw6 R R R) (son R R R (sv R (B6 R R) (rm 2 R (Ah ?_)))))))
      exact⟨(decide (v5.2.e_=0)),_,h,⟨R,R,R,R,R,trivial⟩,R⟩
     ·refine rm 5 R (Ah ?_)
      exact⟨false,_,h,⟨R,R,R,R,R,trivial⟩,R⟩
    ·refine rm 10 R (Ah ?_)
     exact⟨false,_,h,⟨R,R,R,R,R,trivial⟩,R⟩
 ·skip
  refine Au (sv R (Az R) ?_)
  obtain⟨v14,hv14,h⟩:=Ae h
  refine Bb R A4w (Ac R Ag) (Ao R) (Wf hv14) (sv R (Bz R) (rm 1 R (ssI 18 h R (λh=>?_) (λh=>?_))))
  ·refine rm 5 R (Ah (Ce R (λ_=>?_) (λhx=>Bool.noConfusion hx)))
   refine csr (rm 2 R (Ah (Bq (Af ?_))))
   obtain rfl:=SJ h
   exact dnT R R R R
  ·refine son R R R (ld A00 R R R R (son R R R ?_))
   refine D7 R Tryz.underlying22 A6r R R (zI.1 R) (by decide) ?_
   refine Ql [.box (EL.el a1),.arr 60 11 0 ([a1].flatMap Dp)] R (son R R R ?_)
   refine Aif 20 R (by(repeat' first|exact Ho.nil _|apply Ho.cons|apply Hl.one|apply Hl.agg|exact C5.nil|exact C5.ls _ _ _ _ _ _ R (Aw (f:=Dp) (λ_=>R) ([a1]:List Eo)).symm|exact C5.ls _ _ _ _ _ _ R (Aw (f:=Dp) (λ_=>R) _).symm|exact C5.id _ R|exact Cv.nil _|apply Cv.cons)) ?_
   obtain⟨v15,hv15,h⟩:=Ae h
   refine Bb R A4w (Ac R Ag) (Ao R) (Wf hv15) (son R R R (sv R (Bz R) (rm 1 R (Ah (ccI h R (λh=>?_) (λh=>?_))))))
   ·refine csr (rm 2 R (Ah (Bq (Af ?_))))
    obtain rfl:=SJ h
    exact dnT R R R R
   ·refine Bf (Ab ?_)
    exact⟨(),_,h,⟨R,R,R,R,trivial⟩,R⟩
end Go.Proofs.YtkblaobhhoebaaaGreat.Abs
