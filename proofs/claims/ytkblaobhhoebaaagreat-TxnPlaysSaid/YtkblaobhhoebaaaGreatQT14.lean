/-
 t
-/
import Derived.Test.YtkblaobhhoebaaaGreatQT14a
set_option linter.unusedVariables false
set_option linter.unusedSimpArgs false
namespace Go.Proofs.YtkblaobhhoebaaaGreat.Abs
open Go.RowKit Go.Proofs
set_option maxRecDepth 100000
def B2 (a0:Af) (a1:Int) (a2:Int) (a3:List (List UInt8)):Option (Af×Int) :=
 (Hv a0).bind λv1=>if (!v1) then(some (Bn,1)) else((Cm a0 a1).bind λv2=>if (decide (v2<0)) then(some (Bn,7)) else((idx a0.Txs v2).bind λu3=>(Hl a0 u3 a2 a3).bind λv4=>if (!v4) then(some (Bn,1)) else((idx a0.Txs v2).bind λu5=>(Dt a0 u5 a3).bind λv6=>if v6 then(some (Bn,9)) else((C9 a0.Txs).bind λv7=>(H9 (Af.mk a0.Txs (Am.mk a0.Reads.L)) a3).bind λv12=>(Ir v7 v2 v12).bind λv13=>if v13.2.length=v7.length then(if (!v13.1) then(some (Bn,10)) else((idx v13.2 v2).bind λu15=>(Gr u15).bind λv16=>if v16 then(some (Bn,10)) else(M3 a0 a2 a3 v2 v13.2))) else none))))
theorem Acb {a0:Af} {a1:Int} {a2:Int} {a3:List (List UInt8)} {r:Af×Int} (h:B2 a0 a1 a2 a3=some r):Bc Qx0 140 [.agg (EL.el a0),.one (Ii6 a1),.one (Ii6 a2),.one (SL a3 (eL eU8))] (·=.tup [.agg (EL.el r.1),.one (Ii6 r.2)]):=by
 refine Cg Tryz.func140 R (nt:=81) R (Nbl R) ?_
 intro w0 S0
 refine crs R (Fs (csr (rx 1 R ?_)))
 obtain⟨v1,hv1,h⟩:=Ap h
 refine scI R R (Zl hv1) (rsn R (ccI h R (λh=>?_) (λh=>?_)))
 ·refine crs R (crt ?_)
  cases SJ h
  exact dE R (Ac7 R) R
 ·refine csn (csr (rx 2 R ?_))
  obtain⟨v2,hv2,h⟩:=Ap h
  refine scI R R (Tm hv2) (rsn R (Fs (Jf (crs R (ccI h R (λh=>?_) (λh=>?_))))))
  ·refine crs R (Pj (br2 ?_))
   cases SJ h
   exact dE R (Ac7 R) R
  ·refine Fs ?_
   refine cdn mixed (by kernel_rfl) ?_
   refine dv R (lo A8s R R R) (dv R (Aw A0i R) (dv R (l1 Bcn R R R) (dv R (Du R) ?_)))
   obtain⟨u3,hu3,h⟩:=Ap h
   refine dv R (Ny (f:=A2) Aj0 fR R R R R hu3) ?_
   refine dv R (D9 (ys:=[Ii6 u3.ID,Ii6 u3.Begin,Ii6 u3.End,Ii6 u3.State,.b u3.In,.b u3.Out,.b u3.RO,SL u3.Keys (eL eU8)]) Yq R (.cp _) R R) (dv R (Du R) (dv R (Du R) ?_))
   obtain⟨v4,hv4,h⟩:=Ap h
   refine dd R (Lr (fk R) (Ar R (Ar R (Ar R (Ar R A7)))) R (Acy hv4)) (dv R (Zx R) (dv R (Vk R) (Awg (A1 (ccI h R (λh=>?_) (λh=>?_))))))
   ·refine crs R (Pj (br2 ?_))
    cases SJ h
    exact dE R (Ac7 R) R
   ·refine Fs ?_
    refine cdn mixed (by kernel_rfl) ?_
    refine dv R (lo A8s R R R) (dv R (Aw A0i R) (dv R (l1 Bcn R R R) (dv R (Du R) ?_)))
    obtain⟨u5,hu5,h⟩:=Ap h
    refine dv R (Ny (f:=A2) Aj0 fR R R R R hu5) ?_
    refine dv R (D9 (ys:=[Ii6 u5.ID,Ii6 u5.Begin,Ii6 u5.End,Ii6 u5.State,.b u5.In,.b u5.Out,.b u5.RO,SL u5.Keys (eL eU8)]) Yq R (.cp _) R R) (dv R (Du R) ?_)
    obtain⟨v6,hv6,h⟩:=Ap h
    refine dd R (Lr (fk R) (Ar R (Ar R (Ar R A7))) R (Zu hv6)) (dv R (Vk R) (Awg (A1 (ccI h R (λh=>?_) (λh=>?_)))))
    ·refine crs R (Pj (br2 ?_))
     cases SJ h
     exact dE R (Ac7 R) R
    ·refine cbn (csr (rx 2 R ?_))
     obtain⟨v7,hv7,h⟩:=Ap h
     refine Kv (x':=L7 (.ls 2 v7.length)) (M':=[BE a0,.box [Znl,Znl],.arr 139 8 0 (v7.flatMap A2)]) [] R (fk R) (.func _) (Ar R A7) (P7 _ _ hv7) R R (by decide) R R R ?_
     refine rsn R (Fs (Fs (cj3 ((List Ag)) (λb8=>[(2,L7 (Ii6 a2)),(3,L7 (SL a3 (eL eU8))),(4,L7 (.lp 0 0)),(8,L7 (.lp 1 0)),(10,L7 (Ii6 v2)),(11,L7 (.ls 2 b8.length))]) (λb8=>[BE a0,.box [Znl,Znl],.arr 139 8 0 (b8.flatMap A2)]) (λb8=>M3 a0 a2 a3 v2 b8=some r) fR (λb8 h=>?_) ?_)))
     ·refine csr (rx 8 R ?_)
      obtain⟨u9,hu9,h⟩:=Ap h
      refine sv R (Gm (f:=A2) Aj0 fR R R R R R hu9) ?_
      refine sv R (Lv Aue R R (A4 (f:=A2) fR _).symm) ?_
      refine Aku (f:=A2) (u':={u9 with State:=2}) (sz:=8) 3 sz3 fR R R R R R R R (zJ.1 R) (Hu hu9).2 (Nbl R) R ?_
      refine Ns 11 (y:=L7 (.ls 2 b8.length)) (L7 (.ls 2 (b8.set v2.toNat ({u9 with State:=2})).length)) R (congrArg (λn=>AV.s (.one (.ls 2 n))) List.length_set.symm) ?_
      refine Ns 63 (y:=L7 (.ls 2 b8.length)) (L7 (.ls 2 (b8.set v2.toNat ({u9 with State:=2})).length)) R (congrArg (λn=>AV.s (.one (.ls 2 n))) List.length_set.symm) ?_
      refine Ns 65 (y:=L7 (.ls 2 b8.length)) (L7 (.ls 2 (b8.set v2.toNat ({u9 with State:=2})).length)) R (congrArg (λn=>AV.s (.one (.ls 2 n))) List.length_set.symm) ?_
      refine Ns 67 (y:=L7 (.ls 2 b8.length)) (L7 (.ls 2 (b8.set v2.toNat ({u9 with State:=2})).length)) R (congrArg (λn=>AV.s (.one (.ls 2 n))) List.length_set.symm) ?_
      obtain⟨u10,hu10,h⟩:=Ap h
      refine sv R (Gm (f:=A2) Aj0 fR R R R R R hu10) ?_
      refine sv R (Lv A3d R R (A4 (f:=A2) fR _).symm) ?_
      refine Aku (f:=A2) (u':={u10 with End:=a2}) (sz:=8) 2 sz3 fR R R R R R R R (zJ.1 R) (Hu hu10).2 (Nbl R) R ?_
      refine Ns 11 (y:=L7 (.ls 2 (b8.set v2.toNat ({u9 with State:=2})).length)) (L7 (.ls 2 ((b8.set v2.toNat ({u9 with State:=2})).set v2.toNat ({u10 with End:=a2})).length)) R (congrArg (λn=>AV.s (.one (.ls 2 n))) List.length_set.symm) ?_
      refine Ns 63 (y:=L7 (.ls 2 (b8.set v2.toNat ({u9 with State:=2})).length)) (L7 (.ls 2 ((b8.set v2.toNat ({u9 with State:=2})).set v2.toNat ({u10 with End:=a2})).length)) R (congrArg (λn=>AV.s (.one (.ls 2 n))) List.length_set.symm) ?_
      refine Ns 65 (y:=L7 (.ls 2 (b8.set v2.toNat ({u9 with State:=2})).length)) (L7 (.ls 2 ((b8.set v2.toNat ({u9 with State:=2})).set v2.toNat ({u10 with End:=a2})).length)) R (congrArg (λn=>AV.s (.one (.ls 2 n))) List.length_set.symm) ?_
      refine Ns 67 (y:=L7 (.ls 2 (b8.set v2.toNat ({u9 with State:=2})).length)) (L7 (.ls 2 ((b8.set v2.toNat ({u9 with State:=2})).set v2.toNat ({u10 with End:=a2})).length)) R (congrArg (λn=>AV.s (.one (.ls 2 n))) List.length_set.symm) ?_
      obtain⟨u11,hu11,h⟩:=Ap h
      refine sv R (Gm (f:=A2) Aj0 fR R R R R R hu11) ?_
      refine sv R (Lv A4b R R (A4 (f:=A2) fR _).symm) ?_
      refine Aku (f:=A2) (u':={u11 with Keys:=a3}) (sz:=8) 7 Bdd fR R R R R R R R (zJ.1 R) (Hu hu11).2 (Nbl R) R ?_
      refine Ns 11 (y:=L7 (.ls 2 ((b8.set v2.toNat ({u9 with State:=2})).set v2.toNat ({u10 with End:=a2})).length)) (L7 (.ls 2 (((b8.set v2.toNat ({u9 with State:=2})).set v2.toNat ({u10 with End:=a2})).set v2.toNat ({u11 with Keys:=a3})).length)) R (congrArg (λn=>AV.s (.one (.ls 2 n))) List.length_set.symm) ?_
      refine Ns 63 (y:=L7 (.ls 2 ((b8.set v2.toNat ({u9 with State:=2})).set v2.toNat ({u10 with End:=a2})).length)) (L7 (.ls 2 (((b8.set v2.toNat ({u9 with State:=2})).set v2.toNat ({u10 with End:=a2})).set v2.toNat ({u11 with Keys:=a3})).length)) R (congrArg (λn=>AV.s (.one (.ls 2 n))) List.length_set.symm) ?_
      refine Ns 65 (y:=L7 (.ls 2 ((b8.set v2.toNat ({u9 with State:=2})).set v2.toNat ({u10 with End:=a2})).length)) (L7 (.ls 2 (((b8.set v2.toNat ({u9 with State:=2})).set v2.toNat ({u10 with End:=a2})).set v2.toNat ({u11 with Keys:=a3})).length)) R (congrArg (λn=>AV.s (.one (.ls 2 n))) List.length_set.symm) ?_
      refine Ns 67 (y:=L7 (.ls 2 ((b8.set v2.toNat ({u9 with State:=2})).set v2.toNat ({u10 with End:=a2})).length)) (L7 (.ls 2 (((b8.set v2.toNat ({u9 with State:=2})).set v2.toNat ({u10 with End:=a2})).set v2.toNat ({u11 with Keys:=a3})).length)) R (congrArg (λn=>AV.s (.one (.ls 2 n))) List.length_set.symm) ?_
      refine Agg (crs R (Pj ?_))
      cases SJ h
      refine⟨Or.inr R,_,_,_,(A3 (ra A8s R R R) (A3 (rt R) Bj)),pb,?_⟩
      rfl
     ·refine Fc (rx 4 R ?_)
      obtain⟨v12,hv12,h⟩:=Ap h
      refine Kv (x':=L7 (.ls 3 v12.length)) (M':=[BE a0,.box [Znl,Znl],.arr 139 8 0 (v7.flatMap A2),.arr 3 1 0 (v12.flatMap eI)]) [] R (fk R) (.func _) (Ar R (Ar R A7)) (V3 hv12) R R (by decide) R R R ?_
      refine A4l 52 R pb ?_
      obtain⟨v13,hv13,h⟩:=Ap h
      refine Kv (x':=L7 (.b v13.1)) (M':=[BE a0,.box [Znl,Znl],.arr 139 8 0 (v13.2.flatMap A2),.arr 3 1 (v12.flatMap eI).length (v12.flatMap eI)]) [2] R (fk R) (.func _) (Ar R (Ar R (Ar R A7))) (Abm hv13) R R (by decide) R R R ?_
      obtain⟨hl14,h⟩:=Ht h
      refine Ns 47 (y:=L7 (.ls 2 v7.length)) (L7 (.ls 2 v13.2.length)) R (congrArg (λn=>AV.s (.one (.ls 2 n))) hl14.symm) ?_
      refine Ns 11 (y:=L7 (.ls 2 v7.length)) (L7 (.ls 2 v13.2.length)) R (congrArg (λn=>AV.s (.one (.ls 2 n))) hl14.symm) ?_
      refine Ns 48 (y:=L7 (.ls 2 v7.length)) (L7 (.ls 2 v13.2.length)) R (congrArg (λn=>AV.s (.one (.ls 2 n))) hl14.symm) ?_
      refine rx 2 R (ssI 55 h R (λh=>?_) (λh=>?_))
      ·refine rsn R (S8 R (λ_=>?_) (λhx=>Bool.noConfusion hx))
       refine crs R (crt ?_)
       cases SJ h
       exact dE R (Ac7 R) R
      ·refine rm 2 R (son R R R ?_)
       obtain⟨u15,hu15,h⟩:=Ap h
       refine sv R (Gm (f:=A2) Aj0 fR R R R R R hu15) ?_
       refine son R R R (sv R (Ox (f:=A2) (sz:=8) 0 Yq fR R R R R (Hu hu15).2 (Nbl R) R) ?_)
       refine son R R R ?_
       obtain⟨v16,hv16,h⟩:=Ap h
       refine scI R R (Pk hv16) (rsn R (ccI h R (λh=>?_) (λh=>?_)))
       ·refine crs R (crt ?_)
        cases SJ h
        exact dE R (Ac7 R) R
       ·refine csn ?_
        exact⟨v13.2,_,h,(ml R),R⟩
noncomputable def Bed:CT:=⟨140,[.st 10,.int .i64,.int .i64,.sl (.sl .u8)],[.st 10,.int .i64],Af×Int,λr=>(r.1,(r.2,())),λa=>B2 a.1 a.2.1 a.2.2.1 a.2.2.2.1,λ_ _ h=>Acb h⟩
def J5 (a0:Ah) (a1:Int) (a2:Int) (a3:Int) (b1:Unit):Option (Ah×Int) :=
 (Dc a0 a1).bind λv2=>if (decide (v2.1.State=2)) then(some (Ay,7)) else(if (!decide (v2.1.State=1)) then(some (Ay,14)) else(if (!decide (v2.1.Attempt=a2)) then(some (Ay,14)) else((B4 a0 (Al.mk a1 a2 2 a3)).bind λv3=>some (v3.1,v3.2))))
def Cq (a0:Ah) (a1:Int) (a2:Int) (a3:Int):Option (Ah×Int) :=
 (Ci a0).bind λv4=>if (!v4) then(some (Ay,1)) else((B1 a1 a2).bind λv5=>if (!v5) then(some (Ay,1)) else((F7 a3).bind λv6=>if (!v6) then(some (Ay,1)) else(J5 a0 a1 a2 a3 ())))
noncomputable def Bd1:CT:=vK2 142 [.st 12,.int .i64,.int .i64,.int .i64] (.st 12) (.int .i64) ⟨[c47,c74,A5e,Baw,Bcc],[]⟩ anN Tryz.func142 (λa=>Cq a.1 a.2.1 a.2.2.1 a.2.2.2.1)
def He (b1:(List (List UInt8))):Option Bool :=
 (Cx b1).bind λv2=>some v2
def Cy (s3:Int×(List (List UInt8))) (u4:Ae) (b5:Unit):Option (LR (Int×(List (List UInt8))) ((List (List UInt8))) (Bool)) :=
 if (s3.2.length+[u4.Key].length)*24<=140737488355328 then(some (.cont ((wI (s3.1+1)),(s3.2++[u4.Key])))) else none
def C3 (a0:List Ae) (s3:Int×(List (List UInt8))):Option (LR (Int×(List (List UInt8))) ((List (List UInt8))) (Bool)) :=
 if (decide (s3.1<(a0.length:Int))) then((idx a0 s3.1).bind λu4=>if (decide (32<(u4.Val.length:Int))) then(some (.ret false)) else(if u4.Del then(if (decide (0<(u4.Val.length:Int))) then(some (.ret false)) else(Cy s3 u4 ())) else(Cy s3 u4 ()))) else(some (.brk s3.2))
def Cj (a0:List Ae):Option Bool :=
 (B7 (C3 a0) fuel (0,([]:List (List UInt8)))).bind λx=>match x with | .inl r=>some r | .inr e7=>He e7
noncomputable def Bdm:CT:=vK1 213 [.sl (.st 0)] .bool ⟨[Bc1],[]⟩ (⟨λn=>match n with
  | 3=>some (lF ⟨[(3,.own 0),(8,.v (.int .i64))],[.arr 56 1 0 ((.sl .u8))]⟩ 0 ⟨[(3,.own 0)],[.arr 56 1 0 ((.sl .u8))]⟩ true)
  | _=>none,λn=>match n with
  | 3=>[.t 3 56 1 (.sl .u8)]
  | _=>[]⟩) Tryz.func213 (λa=>Cj a.1)
theorem Uz {a0:List Ae} {r:Bool} (h:Cj a0=some r):Bc Qx0 213 [.one (SL a0 A0)] (·=L7 (.b r)):=Bdm.ok (a0,()) r h
def C8 (a0:List (List UInt8)):Option (List (List UInt8)) :=
 if (([]:List (List UInt8)).length+a0.length)*24<=140737488355328 then(some (([]:List (List UInt8))++a0)) else none
theorem Y0:OwB 214 56 1 (eL eU8) (λa0=>[.one (SL a0 (eL eU8))]) C8:=Zn .c214 Tryz.underlying25 Bcj Bfx fR (by decide)
def C6 (a0:List Ab):Option (List Ab) :=
 if (([]:List Ab).length+a0.length)*24<=140737488355328 then(some (([]:List Ab)++a0)) else none
theorem Yt:OwB 215 134 1 Az (λa0=>[.one (SL a0 Az)]) C6:=Zn .c215 Tryz.underlying26 A5w Bd4 fR (by decide)
def Ft (b1:Unit):Option Int :=
 some (-1)
def Dh (a0:List (List UInt8)) (a1:List UInt8) (s2:Int):Option (LR (Int) (Unit) (Int)) :=
 if (decide (s2<(a0.length:Int))) then((idx a0 s2).bind λu3=>(Di a1 u3).bind λv4=>if v4 then(some (.ret s2)) else(some (.cont (wI (s2+1))))) else(some (.brk ()))
def Ia (a0:List (List UInt8)) (a1:List UInt8):Option Int :=
 (B7 (Dh a0 a1) fuel 0).bind λx=>match x with | .inl r=>some r | .inr e5=>Ft e5
theorem Tb {a0:List (List UInt8)} {a1:List UInt8} {r:Int} (h:Ia a0 a1=some r):Dk Qx0 147 [.arr 56 1 0 (a0.flatMap (eL eU8))] [.one (.ls 0 a0.length),.one (.fn 148 [SL a1 eU8] [])] (λy m'=>y=L7 (Ii6 r)/\m'=[.arr 56 1 0 (a0.flatMap (eL eU8))]):=by
 refine Bw Tryz.func147 R (nt:=19) R (Nbl R) ?_
 intro w0 S0 X0 H0
 refine crs R (Fs (csr (rm 1 R (sv R (L9 Ay5 R R (A4 (f:=(eL eU8)) fR _).symm) ?_))))
 refine rsn R (cj (Unit) (λb1=>[]) (λb1=>[.arr 56 1 0 (a0.flatMap (eL eU8))]) (λb1=>Ft b1=some r) fR (λb1 h=>?_) ?_)
 ·refine crs R (Pj ?_)
  cases SJ h
  exact⟨Or.inr R,_,[0],[.one (Ii6 (-1))],[.arr 56 1 0 (a0.flatMap (eL eU8))],(A3 (rt R) Bj),R,R,⟨by decide,R⟩,R,R,⟨R,R⟩⟩
 ·refine Jf ?_
  obtain⟨x2,hx2,ho2⟩:=Ap h
  refine lpn (α:=Int) (λg=>[(0,L7 (.ls 0 a0.length)),(1,L7 (.fn 148 [SL a1 eU8] [])),(7,L7 (Ii6 (a0.length:Int))),(8,L7 (Ii6 g.2))]) (λg=>[.arr 56 1 0 (a0.flatMap (eL eU8))]) (λg=>B7 (Dh a0 a1) g.1 g.2=some x2) (fuel,0) hx2 R R fR ?_
  rintro⟨n2,s2⟩ h
  obtain⟨n2,y2,rfl,h,hk2⟩:=Aae h
  refine crs R (Fs (ccI h R (λh=>?_) (λh=>?_)))
  ·refine csn (Fs (Jf (crs R (csr (rx 3 R ?_)))))
   obtain⟨u3,hu3,h⟩:=Ap h
   refine sv R (Gm (f:=(eL eU8)) Ay5 fR R R R R R hu3) ?_
   refine sv R (Ap7 (f:=(eL eU8)) 0 A8j fR R R R R (Hu hu3).2 R) ?_
   obtain⟨v4,hv4,h⟩:=Ap h
   refine sd R (Vz (fk R) (.fn _ _ _ _ R) (Ar R A7) R (Mc hv4)) (Agg (ccI h R (λh=>?_) (λh=>?_)))
   ·refine crs R (Pj (br5 ?_))
    cases SJ h
    obtain rfl:Sum.inl _=x2:=hk2
    obtain rfl:=zF ho2
    exact⟨Or.inr R,_,[0],[.one (Ii6 s2)],[.arr 56 1 0 (a0.flatMap (eL eU8))],(A3 (rt R) Bj),R,R,⟨by decide,R⟩,R,R,⟨R,R⟩⟩
   ·refine cbn (cgs R ?_)
    cases SJ h
    exact lx (n2,(wI (s2+1))) hk2 R R
  ·refine cx5 ?_
   cases SJ h
   obtain rfl:_=x2:=hk2
   exact⟨(),_,ho2,trivial,R⟩
def Of (a0:List (List UInt8)) (a1:List UInt8):Option (Int×Bool) :=
 (Ia a0 a1).bind λv1=>if (decide (v1<0)) then(some ((a0.length:Int),false)) else((idx a0 v1).bind λu2=>(Cw u2 a1).bind λv3=>some (v1,v3))
theorem Ad1 {a0:List (List UInt8)} {a1:List UInt8} {r:Int×Bool} (h:Of a0 a1=some r):Dk Qx0 69 [.arr 56 1 0 (a0.flatMap (eL eU8))] [.one (.ls 0 a0.length),.one (SL a1 eU8)] (λy m'=>y=.tup [.one (Ii6 r.1),.one (.b r.2)]/\m'=[.arr 56 1 0 (a0.flatMap (eL eU8))]):=by
 refine Bw Tryz.func69 R (nt:=22) R (Nbl R) ?_
 intro w0 S0 X0 H0
 refine crs R (csr (rm 2 R (sv R (Wh (Z8 R R Qx) Qx) ?_)))
 obtain⟨v1,hv1,h⟩:=Ap h
 refine Kv (x':=L7 (Ii6 v1)) (M':=[.arr 56 1 0 (a0.flatMap (eL eU8))]) [0] R (fk R) (.func _) (Ar R (Ar R A7)) (Tb hv1) R R (by decide) R R R ?_
 refine rsn R (Fs (crs R (ccI h R (λh=>?_) (λh=>?_))))
 ·refine csr (rm 1 R (sv R (L9 Ay5 R R (A4 (f:=(eL eU8)) fR _).symm) ?_))
  refine rsn R (crt ?_)
  cases SJ h
  exact⟨Or.inr R,_,[0],[.one (Ii6 (a0.length:Int)),.one (.b false)],[.arr 56 1 0 (a0.flatMap (eL eU8))],(A3 (rt R) (A3 (rt R) Bj)),R,R,⟨by decide,R⟩,R,R,⟨R,R⟩⟩
 ·refine csn (csr (rx 3 R ?_))
  obtain⟨u2,hu2,h⟩:=Ap h
  refine sv R (Gm (f:=(eL eU8)) Ay5 fR R R R R R hu2) ?_
  refine sv R (Ap7 (f:=(eL eU8)) 0 A8j fR R R R R (Hu hu2).2 R) ?_
  refine rx 1 R ?_
  obtain⟨v3,hv3,h⟩:=Ap h
  refine scI R R (Sa hv3) (rsn R (Pj ?_))
  cases SJ h
  exact⟨Or.inr R,_,[0],[.one (Ii6 v1),.one (.b v3)],[.arr 56 1 0 (a0.flatMap (eL eU8))],(A3 (rt R) (A3 (rt R) Bj)),R,R,⟨by decide,R⟩,R,R,⟨R,R⟩⟩
def R3 (a0:List (List UInt8)) (a1:Int) (a2:List (List UInt8)):Option (List (List UInt8)):=Auz 24 a0 a1 a2
theorem Yx {a0:List (List UInt8)} {a1:Int} {a2 r:List (List UInt8)} (h:R3 a0 a1 a2=some r):Dk Qx0 255 [.arr 56 1 0 (a0.flatMap (eL eU8)),.arr 56 1 0 (a2.flatMap (eL eU8))] [.one (.ls 0 a0.length),.one (Ii6 a1),.one (.ls 1 a2.length)] (λy m'=>y=L7 (.ls 0 r.length)/\m'=[.arr 56 1 0 (r.flatMap (eL eU8)),.dead]) :=
 Ast (f:=(eL eU8)) (λ_=>rfl) (A3w .k255) h
def Sv (a0:List Ab) (a1:Int) (a2:List Ab):Option (List Ab):=Auz 24 a0 a1 a2
theorem Ys {a0:List Ab} {a1:Int} {a2 r:List Ab} (h:Sv a0 a1 a2=some r):Dk Qx0 256 [.arr 134 1 0 (a0.flatMap Az),.arr 134 1 0 (a2.flatMap Az)] [.one (.ls 0 a0.length),.one (Ii6 a1),.one (.ls 1 a2.length)] (λy m'=>y=L7 (.ls 0 r.length)/\m'=[.arr 134 1 0 (r.flatMap Az),.dead]) :=
 Ast (f:=Az) (λ_=>rfl) (A3w .k256) h
def P5 (a0:Int) (b1:Unit):Option (List Ai) :=
 if (decide (0<(wI (a0-(wI (0-0)))))) then(if 0<(wI (a0-(wI (0-0))))/\(wI (a0-(wI (0-0))))*((40:Nat):Int)<=281474976710656 then(if (0:Int)<=0/\0<=((List.replicate (wI (a0-(wI (0-0)))).toNat (Ai.mk 0 ([]:List UInt8) false)).length:Int) then(some ((List.replicate (wI (a0-(wI (0-0)))).toNat (Ai.mk 0 ([]:List UInt8) false)).take (0:Int).toNat)) else none) else none) else(some ([]:List Ai))
def Kk (a0:Int):Option (List Ai) :=
 if (decide (a0<0)) then none else(P5 a0 ())
theorem Z9:OwB 281 136 3 Bq (λa0=>[.one (Znl),.one (Ii6 a0)]) Kk:=Ahw (z:=(Ai.mk 0 ([]:List UInt8) false)) .c281 Tryz.underlying132 A1t A6b fR R (by decide)
def Vr (b3:(List Ai)):Option (List Ai) :=
 some b3
def Fp (a0:List (List Ai)) (s4:Int×(List Ai)):Option (LB (Int×(List Ai)) ((List Ai))) :=
 if (decide (s4.1<(a0.length:Int))) then((idx a0 s4.1).bind λu5=>if (s4.2.length+u5.length)*40<=140737488355328 then(some (.cont ((wI (s4.1+1)),(s4.2++u5)))) else none) else(some (.brk s4.2))
def Nv (a0:List (List Ai)) (b1:Int):Option (List Ai) :=
 (Kk b1).bind λv2=>(Be (Fp a0) fuel (0,v2)).bind λe7=>Vr e7
def Fh (a0:List (List Ai)) (s8:Int×Int):Option (LB (Int×Int) (Int)) :=
 if (decide (s8.2<(a0.length:Int))) then((idx a0 s8.2).bind λu9=>if (decide ((wI (s8.1+(u9.length:Int)))<0)) then none else(some (.cont ((wI (s8.1+(u9.length:Int))),(wI (s8.2+1)))))) else(some (.brk s8.1))
def Ff (a0:List (List Ai)):Option (List Ai) :=
 (Be (Fh a0) fuel (0,0)).bind λe10=>Nv a0 e10
theorem Xu:OwB 275 136 3 Bq (λa0=>[.one (SL a0 (eL Bq))]) Ff:=X9 .c275 Z9 Tryz.underlying132 A1t A5o A9v fR (by decide)
noncomputable def Yh:Aei TTs Qx0:=Aw7 275 [.sl (.sl (.st 4))] 136 (.st 4) (λa=>Ff a.1) (λ_ _ h=>Xu _ _ h)
def R5 (a0:Ab) (a1:Ai) (b1:Unit):Option (Ab×Int) :=
 (Hb a0).bind λv2=>if (decide (a1.Ts<=v2)) then(some ((Ab.mk ([]:List Ai)),7)) else((Ff [a0.L,[a1]]).bind λv3=>some ((Ab.mk v3),0))
def Jr (a0:Ab) (a1:Ai):Option (Ab×Int) :=
 (Ct (Ab.mk a0.L)).bind λv4=>if (!v4) then(some ((Ab.mk ([]:List Ai)),1)) else((Ec a1).bind λv5=>if (!v5) then(some ((Ab.mk ([]:List Ai)),1)) else(R5 a0 a1 ()))
noncomputable def Bdl:CT:=vK2 257 [.st 5,.st 4] (.st 5) (.int .i64) ⟨[A9d,Bbw,Bc8],[(26,Yh)]⟩ anN Tryz.func257 (λa=>Jr a.1 a.2.1)
theorem Ab6 {a0:Ab} {a1:Ai} {r:Ab×Int} (h:Jr a0 a1=some r):Bc Qx0 257 [.agg [SL a0.L Bq],.agg (EL.el a1)] (·=.tup [.agg [SL r.1.L Bq],.one (Ii6 r.2)]):=Bdl.ok (a0,a1,()) r h
def Ea (a3:Ae) (v1:Int×Bool) (b2:(List (List UInt8))×(List Ab)×Int):Option (Int×(List (List UInt8))×(List Ab)) :=
 (idx b2.2.1 v1.1).bind λu3=>(Jr u3 (Ai.mk b2.2.2 a3.Val a3.Del)).bind λv4=>if (decide (v4.2=0)) then((idx b2.2.1 v1.1).bind λu5=>some (b2.2.2,b2.1,(b2.2.1.set v1.1.toNat v4.1))) else(some (b2.2.2,b2.1,b2.2.1))
def Nq (a0:List (List UInt8)) (a1:List Ab) (a2:Int) (a3:Ae):Option (Int×(List (List UInt8))×(List Ab)) :=
 (Of a0 a3.Key).bind λv1=>if (!v1.2) then((R3 a0 v1.1 [a3.Key]).bind λv6=>(Sv a1 v1.1 [(Ab.mk ([]:List Ai))]).bind λv7=>Ea a3 v1 (v6,v7,a2)) else(Ea a3 v1 (a0,a1,a2))
theorem Acr {a0:List (List UInt8)} {a1:List Ab} {a2:Int} {a3:Ae} {r:Int×(List (List UInt8))×(List Ab)} (h:Nq a0 a1 a2 a3=some r):Dk Qx0 216 [.arr 56 1 0 (a0.flatMap (eL eU8)),.arr 134 1 0 (a1.flatMap Az)] [.agg [.ls 0 a0.length,.ls 1 a1.length,Ii6 a2],.agg (EL.el a3)] (λy m'=>y=.s (.agg [.ls 0 r.2.1.length,.ls 1 r.2.2.length,Ii6 r.1])/\m'=[.arr 56 1 0 (r.2.1.flatMap (eL eU8)),.arr 134 1 0 (r.2.2.flatMap Az)]):=by
 refine Bw Tryz.func216 R (nt:=58) R (Nbl R) ?_
 intro w0 S0 X0 H0
 refine crs R (csr (rx 4 R ?_))
 obtain⟨v1,hv1,h⟩:=Ap h
 refine Kv (x':=.tup [.one (Ii6 v1.1),.one (.b v1.2)]) (M':=[.arr 56 1 0 (a0.flatMap (eL eU8)),.arr 134 1 0 (a1.flatMap Az),.box [.ls 0 a0.length,.ls 1 a1.length,Ii6 a2],BE a3,.box [Znl,Znl,Ii6 0]]) [0] R (fk R) (.func _) (Ar R (Ar R A7)) (Ad1 hv1) R R (by decide) R R R ?_
 refine rsn R (Fs (crs R (cj ((List (List UInt8))×(List Ab)×Int) (λb2=>[(2,L7 (.lp 2 0)),(3,L7 (.lp 3 0)),(4,L7 (.lp 4 0)),(5,L7 (Ii6 v1.1))]) (λb2=>[.arr 56 1 0 (b2.1.flatMap (eL eU8)),.arr 134 1 0 (b2.2.1.flatMap Az),.box [.ls 0 b2.1.length,.ls 1 b2.2.1.length,Ii6 b2.2.2],BE a3,.box [Znl,Znl,Ii6 0]]) (λb2=>Ea a3 v1 b2=some r) fR (λb2 h=>?_) ?_)))
 ·refine Fs (Ald ?_)
  obtain⟨u3,hu3,h⟩:=Ap h
  obtain⟨v4,hv4,h⟩:=Ap h
  refine Ui [16,17] [0,1,0,7,15,0,32,0,128,0,512,2016,4095,8191,16383,16383,0,98303,262143] [[.arr 56 1 0 (b2.1.flatMap (eL eU8)),.arr 134 1 0 (b2.2.1.flatMap Az),.box [.ls 0 b2.1.length,.ls 1 b2.2.1.length,Ii6 b2.2.2],BE a3,.box [Znl,Znl,Ii6 0],.hole],[.arr 56 1 0 (b2.1.flatMap (eL eU8)),.arr 134 1 0 (b2.2.1.flatMap Az),.box [.ls 0 b2.1.length,.ls 1 b2.2.1.length,Ii6 b2.2.2],BE a3,.box [Znl,Znl,Ii6 0],.box [Znl]],[.arr 56 1 0 (b2.1.flatMap (eL eU8)),.arr 134 1 0 (b2.2.1.flatMap Az),.box [.ls 0 b2.1.length,.ls 1 b2.2.1.length,Ii6 b2.2.2],BE a3,.box [Znl,Znl,Ii6 0],.box [SL v4.1.L Bq]]] (by kernel_rfl) mixed (by kernel_rfl) (by decide) R R R R ?_
  refine evs (md:=[.arr 56 1 0 (b2.1.flatMap (eL eU8)),.arr 134 1 0 (b2.2.1.flatMap Az),.box [.ls 0 b2.1.length,.ls 1 b2.2.1.length,Ii6 b2.2.2],BE a3,.box [Znl,Znl,Ii6 0],.dead]) (λhS=>ev (Fi hS) R R (Aw Azl R) (ev (Fi hS) R R (l1 Bbn R R R) (emv R R (λ_=>Du R) ?_))) ⟨⟨R,⟨R,⟨R,⟨R,⟨R,⟨trivial,trivial⟩⟩⟩⟩⟩⟩,⟨⟨R,⟨R,⟨R,⟨R,⟨R,⟨trivial,trivial⟩⟩⟩⟩⟩⟩,⟨⟨R,⟨R,⟨R,⟨R,⟨R,⟨trivial,trivial⟩⟩⟩⟩⟩⟩,trivial⟩⟩⟩
  refine ev (Fi (md:=[.arr 56 1 0 (b2.1.flatMap (eL eU8)),.arr 134 1 0 (b2.2.1.flatMap Az),.box [.ls 0 b2.1.length,.ls 1 b2.2.1.length,Ii6 b2.2.2],BE a3,.box [Znl,Znl,Ii6 0],.dead]) ⟨⟨rfl,⟨rfl,⟨rfl,⟨rfl,⟨rfl,⟨trivial,trivial⟩⟩⟩⟩⟩⟩,⟨⟨rfl,⟨rfl,⟨rfl,⟨rfl,⟨rfl,⟨trivial,trivial⟩⟩⟩⟩⟩⟩,⟨⟨rfl,⟨rfl,⟨rfl,⟨rfl,⟨rfl,⟨trivial,trivial⟩⟩⟩⟩⟩⟩,trivial⟩⟩⟩) rfl rfl (Gm (f:=Az) Bc0 (λ_=>rfl) rfl rfl rfl (by first|rfl|exact List.length_set.symm) rfl hu3) ?_
  refine ev (Fi (md:=[.arr 56 1 0 (b2.1.flatMap (eL eU8)),.arr 134 1 0 (b2.2.1.flatMap Az),.box [.ls 0 b2.1.length,.ls 1 b2.2.1.length,Ii6 b2.2.2],BE a3,.box [Znl,Znl,Ii6 0],.dead]) ⟨⟨R,⟨R,⟨R,⟨R,⟨R,⟨trivial,trivial⟩⟩⟩⟩⟩⟩,⟨⟨R,⟨R,⟨R,⟨R,⟨R,⟨trivial,trivial⟩⟩⟩⟩⟩⟩,⟨⟨R,⟨R,⟨R,⟨R,⟨R,⟨trivial,trivial⟩⟩⟩⟩⟩⟩,trivial⟩⟩⟩) R R (Ox (f:=Az) (sz:=1) 0 Aw4 fR R R R R (Hu hu3).2 (Nbl R) R) ?_
  refine evs (md:=[.arr 56 1 0 (b2.1.flatMap (eL eU8)),.arr 134 1 0 (b2.2.1.flatMap Az),.box [.ls 0 b2.1.length,.ls 1 b2.2.1.length,Ii6 b2.2.2],BE a3,.box [Znl,Znl,Ii6 0],.dead]) (λhS=>ev (Fi hS) R R (Aw A69 R) (ev (Fi hS) R R (l1 ti3 R R R) (ev (Fi hS) R R (Aw A79 R) (ev (Fi hS) R R (l1 A8j R R R) (ev (Fi hS) R R (Aw A7w R) (ev (Fi hS) R R (l1 ti4 R R R) (ev (Fi hS) R R (Vy Baz A9n (Ed R (Ed R (Ed R Li))) (.cons _ _ _ _ _ _ _ R R (Nbl R) (.cons _ _ _ _ _ _ _ R R (Nbl R) (.cons _ _ _ _ _ _ _ R R (Nbl R) (.nil _))))) (ed (Fi hS) R R (Lr (fk R) (Ar R (Ar R A7)) R (Ab6 hv4)) (emv R R (λ_=>Ae3 R) ?_))))))))) ⟨⟨R,⟨R,⟨R,⟨R,⟨R,⟨trivial,trivial⟩⟩⟩⟩⟩⟩,⟨⟨R,⟨R,⟨R,⟨R,⟨R,⟨trivial,trivial⟩⟩⟩⟩⟩⟩,⟨⟨R,⟨R,⟨R,⟨R,⟨R,⟨trivial,trivial⟩⟩⟩⟩⟩⟩,trivial⟩⟩⟩
  refine evs (md:=[.arr 56 1 0 (b2.1.flatMap (eL eU8)),.arr 134 1 0 (b2.2.1.flatMap Az),.box [.ls 0 b2.1.length,.ls 1 b2.2.1.length,Ii6 b2.2.2],BE a3,.box [Znl,Znl,Ii6 0],.dead]) (λhS=>ev (Fi hS) R R (Jw R R) (ev (Fi hS) R R (Jw R R) (ee (x:=L7 (.lp 5 0)) 0 R R R R R (λζ=>?_) ?_))) ⟨⟨R,⟨R,⟨R,⟨R,⟨R,⟨trivial,trivial⟩⟩⟩⟩⟩⟩,⟨⟨R,⟨R,⟨R,⟨R,⟨R,⟨trivial,trivial⟩⟩⟩⟩⟩⟩,⟨⟨R,⟨R,⟨R,⟨R,⟨R,⟨trivial,trivial⟩⟩⟩⟩⟩⟩,trivial⟩⟩⟩
  ·refine Afi 5 R A9u R ?_
   exact Aij
  refine ee0 1 R R R R (λζ=>?_) ?_
  ·refine rx 1 R (Agw [.arr 56 1 0 (b2.1.flatMap (eL eU8)),.arr 134 1 0 (b2.2.1.flatMap Az),.box [.ls 0 b2.1.length,.ls 1 b2.2.1.length,Ii6 b2.2.2],BE a3,.box [Znl,Znl,Ii6 0],.box [SL v4.1.L Bq]] R ?_)
   exact Aij
  refine ev (A6 2 R R) R R (Vk R) (Ax7 (A1 (Fs (crs R (ccI h R (λh=>?_) (λh=>?_))))))
  ·refine Fc (rx 4 R ?_)
   obtain⟨u5,hu5,h⟩:=Ap h
   refine sv R (Gm (f:=Az) Bc0 fR R R R R R hu5) ?_
   refine Aku (f:=Az) (u':=v4.1) (sz:=1) 0 A9c fR R R R R R R R (zJ.1 R) (Hu hu5).2 (Nbl R) R ?_
   refine Ns 36 (y:=L7 (.ls 1 b2.2.1.length)) (L7 (.ls 1 (b2.2.1.set v1.1.toNat v4.1).length)) R (congrArg (λn=>AV.s (.one (.ls 1 n))) List.length_set.symm) ?_
   refine Ns 53 (y:=L7 (.ls 1 b2.2.1.length)) (L7 (.ls 1 (b2.2.1.set v1.1.toNat v4.1).length)) R (congrArg (λn=>AV.s (.one (.ls 1 n))) List.length_set.symm) ?_
   refine Agw [.arr 56 1 0 (b2.1.flatMap (eL eU8)),.arr 134 1 0 ((b2.2.1.set v1.1.toNat v4.1).flatMap Az),.box [.ls 0 b2.1.length,.ls 1 b2.2.1.length,Ii6 b2.2.2],BE a3,.box [Znl,Znl,Ii6 0],.box [SL v4.1.L Bq]] R ?_
   refine Agw [.arr 56 1 0 (b2.1.flatMap (eL eU8)),.arr 134 1 0 ((b2.2.1.set v1.1.toNat v4.1).flatMap Az),.box [.ls 0 b2.1.length,.ls 1 (b2.2.1.set v1.1.toNat v4.1).length,Ii6 b2.2.2],BE a3,.box [Znl,Znl,Ii6 0],.box [SL v4.1.L Bq]] (by simp only[xA]) ?_
   refine Agg (crs R (Pj ?_))
   obtain rfl:=SJ h
   exact⟨Or.inr R,_,[0,1],[.agg [.ls 0 b2.1.length,.ls 1 (b2.2.1.set v1.1.toNat v4.1).length,Ii6 b2.2.2]],[.arr 56 1 0 (b2.1.flatMap (eL eU8)),.arr 134 1 0 ((b2.2.1.set v1.1.toNat v4.1).flatMap Az)],(A3 (ra A81 R R R) Bj),R,R,⟨by decide,R⟩,R,R,⟨R,R⟩⟩
  ·refine csn (crs R (Pj ?_))
   obtain rfl:=SJ h
   exact⟨Or.inr R,_,[0,1],[.agg [.ls 0 b2.1.length,.ls 1 b2.2.1.length,Ii6 b2.2.2]],[.arr 56 1 0 (b2.1.flatMap (eL eU8)),.arr 134 1 0 (b2.2.1.flatMap Az)],(A3 (ra A81 R R R) Bj),R,R,⟨by decide,R⟩,R,R,⟨R,R⟩⟩
 ·refine ccI h R (λh=>?_) (λh=>?_)
  ·refine csr (rx 5 R ?_)
   refine S7 R Tryz.underlying25 Bcj R R (zJ.1 R) (by decide) ?_
   refine Agw [.arr 56 1 0 (a0.flatMap (eL eU8)),.arr 134 1 0 (a1.flatMap Az),.box [.ls 0 a0.length,.ls 1 a1.length,Ii6 a2],BE a3,.box [Znl,Znl,Ii6 0],.arr 56 1 0 ([a3.Key].flatMap (eL eU8))] R ?_
   obtain⟨v6,hv6,h⟩:=Ap h
   refine Kv (x':=L7 (.ls 0 v6.length)) (M':=[.arr 56 1 0 (v6.flatMap (eL eU8)),.arr 134 1 0 (a1.flatMap Az),.box [.ls 0 a0.length,.ls 1 a1.length,Ii6 a2],BE a3,.box [Znl,Znl,Ii6 0],.dead]) [0,5] R (fk R) (.func _) (Ar R (Ar R (Ar R A7))) (Yx hv6) R R (by decide) R R R ?_
   refine rsn R (Fc (rx 4 R ?_))
   refine A4l 30 R pb ?_
   refine S7 R Tryz.underlying26 A5w R R (zJ.1 R) (by decide) ?_
   refine Agw [.arr 56 1 0 (v6.flatMap (eL eU8)),.arr 134 1 0 (a1.flatMap Az),.box [.ls 0 v6.length,.ls 1 a1.length,Ii6 a2],BE a3,.box [Znl,Znl,Ii6 0],.dead,.arr 134 1 0 ([(Ab.mk ([]:List Ai))].flatMap Az)] R ?_
   obtain⟨v7,hv7,h⟩:=Ap h
   refine Kv (x':=L7 (.ls 1 v7.length)) (M':=[.arr 56 1 0 (v6.flatMap (eL eU8)),.arr 134 1 0 (v7.flatMap Az),.box [.ls 0 v6.length,.ls 1 a1.length,Ii6 a2],BE a3,.box [Znl,Znl,Ii6 0],.dead,.dead]) [1,6] R (fk R) (.func _) (Ar R (Ar R (Ar R A7))) (Ys hv7) R R (by decide) R R R ?_
   refine rsn R ?_
   exact⟨(v6,v7,a2),_,h,(ml R),R⟩
  ·refine csn ?_
   exact⟨(a0,a1,a2),_,h,(ml R),R⟩
def Gl (b5:(List (List UInt8))×(List Ab)×Int):Option (Ao×Int) :=
 if (decide (128<(b5.1.length:Int))) then(some (Ev,8)) else(some ((Ao.mk b5.1 b5.2.1 b5.2.2),0))
def D2 (a2:List Ae) (s6:Int×(List (List UInt8))×(List Ab)×Int):Option (LB (Int×(List (List UInt8))×(List Ab)×Int) ((List (List UInt8))×(List Ab)×Int)) :=
 if (decide (s6.1<(a2.length:Int))) then((idx a2 s6.1).bind λu7=>(Nq s6.2.1 s6.2.2.1 s6.2.2.2 u7).bind λv8=>some (.cont ((wI (s6.1+1)),v8.2.1,v8.2.2,v8.1))) else(some (.brk (s6.2.1,s6.2.2.1,s6.2.2.2)))
def F2 (a0:Ao) (a1:Int) (a2:List Ae) (b2:Unit):Option (Ao×Int) :=
 (C8 a0.Keys).bind λv3=>(C6 a0.Chains).bind λv4=>(Be (D2 a2) fuel (0,v3,v4,a1)).bind λe9=>Gl e9
def F5 (a0:Ao) (a1:Int) (a2:List Ae) (b1:Unit):Option (Ao×Int) :=
 if (decide (a1<=a0.Ts)) then(some (Ev,7)) else(if (decide (1099511627776<a1)) then(some (Ev,7)) else(F2 a0 a1 a2 ()))
def B5 (a0:Ao) (a1:Int) (a2:List Ae):Option (Ao×Int) :=
 (Ca (Ao.mk a0.Keys a0.Chains a0.Ts)).bind λv10=>if (!v10) then(some (Ev,1)) else((Cj a2).bind λv11=>if (!v11) then(some (Ev,1)) else(F5 a0 a1 a2 ()))
theorem Yw {a0:Ao} {a1:Int} {a2:List Ae} {r:Ao×Int} (h:B5 a0 a1 a2=some r):Bc Qx0 143 [.agg (EL.el a0),.one (Ii6 a1),.one (SL a2 A0)] (·=.tup [.agg (EL.el r.1),.one (Ii6 r.2)]):=by
 refine Cg Tryz.func143 R (nt:=53) R (Nbl R) ?_
 intro w0 S0
 refine crs R (Fs (Fs (cj3 (Unit) (λb1=>[(1,L7 (Ii6 a1)),(2,L7 (SL a2 A0)),(3,L7 (.lp 0 0)),(6,L7 (.lp 1 0))]) (λb1=>[BE a0,.box [Znl,Znl,Ii6 0]]) (λb1=>F5 a0 a1 a2 b1=some r) fR (λb1 h=>?_) ?_)))
 ·refine Fs (Fs (cj3 (Unit) (λb2=>[(1,L7 (Ii6 a1)),(2,L7 (SL a2 A0)),(3,L7 (.lp 0 0)),(6,L7 (.lp 1 0))]) (λb2=>[BE a0,.box [Znl,Znl,Ii6 0]]) (λb2=>F2 a0 a1 a2 b2=some r) fR (λb2 h=>?_) ?_))
  ·refine Fs (Ald (Ald (Ald ?_)))
   obtain⟨v3,hv3,h⟩:=Ap h
   obtain⟨v4,hv4,h⟩:=Ap h
   refine cdw [0,1,3,0,8,31,0,127,0,511] [(2,2),(5,3),(8,4),(9,4)] (by kernel_rfl) mixed (by kernel_rfl) ?_
   refine wv R (λ_ _=>Aw A46 R) (wv R (λ_ e=>l1 Bga R (e 0 R) R) (wes 2 R (λM2 e ζ=>Afe (g:=(eL eU8)) (ys:=v3) 2 R (fk R) (.func _) (Ar R A7) (Y0 _ _ hv3) R fR R R (e 2 R) R Aij) ?_))
   refine wv R (λ_ _=>Aw Azl R) (wv R (λ_ e=>l1 Bbn R (e 0 R) R) (wes 3 R (λM2 e ζ=>Afe (g:=Az) (ys:=v4) 3 R (fk R) (.func _) (Ar R A7) (Yt _ _ hv4) R fR R R (e 3 R) R Aij) ?_))
   refine wv R (λ_ _=>Du R) (wv R (λ_ _=>Vy Bbs Beu (Ed R (Ed R (Ed R Li))) (.cons _ _ _ _ _ _ _ R R (Nbl R) (.cons _ _ _ _ _ _ _ R R (Nbl R) (.cons _ _ _ _ _ _ _ R R (Nbl R) (.nil _))))) (wes 4 R (λM2 e ζ=>Afi 4 R Bbs (e 4 R) Aij) ?_))
   refine we0 4 R (λM2 e ζ=>Aa3 A81.i R R (e 4 R) R (by decide) Aij) ?_
   refine wn [BE a0,.box [Znl,Znl,Ii6 0],.arr 56 1 0 (v3.flatMap (eL eU8)),.arr 134 1 0 (v4.flatMap Az),.box [.ls 2 v3.length,.ls 3 v4.length,Ii6 a1]] R (A1 (Fs (crs R (cj ((List (List UInt8))×(List Ab)×Int) (λb5=>[(6,L7 (.lp 1 0)),(8,L7 (.lp 4 0))]) (λb5=>[BE a0,.box [Znl,Znl,Ii6 0],.arr 56 1 0 (b5.1.flatMap (eL eU8)),.arr 134 1 0 (b5.2.1.flatMap Az),.box [.ls 2 b5.1.length,.ls 3 b5.2.1.length,Ii6 b5.2.2]]) (λb5=>Gl b5=some r) fR (λb5 h=>?_) ?_))))
   ·refine Fs (csr (rx 2 R (sv R (L9 Ay5 R R (A4 (f:=(eL eU8)) fR _).symm) ?_)))
    refine rsn R (ccI h R (λh=>?_) (λh=>?_))
    ·refine crs R (crt ?_)
     cases SJ h
     exact dE R (Ac7 R) R
    ·refine csn (crs R (Pj ?_))
     cases SJ h
     refine⟨Or.inr R,_,_,_,(A3 (ra A81 R R R) (A3 (rt R) Bj)),pb,?_⟩
     rfl
   ·refine Jf ?_
    obtain⟨x6,hx6,ho6⟩:=Ap h
    refine lpn (α:=Int×(List (List UInt8))×(List Ab)×Int) (λg=>[(6,L7 (.lp 1 0)),(8,L7 (.lp 4 0)),(37,L7 (SL a2 A0)),(38,L7 (Ii6 (a2.length:Int))),(39,L7 (Ii6 g.2.1))]) (λg=>[BE a0,.box [Znl,Znl,Ii6 0],.arr 56 1 0 (g.2.2.1.flatMap (eL eU8)),.arr 134 1 0 (g.2.2.2.1.flatMap Az),.box [.ls 2 g.2.2.1.length,.ls 3 g.2.2.2.1.length,Ii6 g.2.2.2.2]]) (λg=>Be (D2 a2) g.1 g.2=some x6) (fuel,(0,v3,v4,a1)) hx6 R R fR ?_
    rintro⟨n6,s6⟩ h
    obtain⟨n6,y6,rfl,h,hk6⟩:=Qs h
    refine crs R (Fs (ccI h R (λh=>?_) (λh=>?_)))
    ·refine csn (csb ?_)
     obtain⟨u7,hu7,h⟩:=Ap h
     refine sv R (Ny (f:=A0) A8z fR R R R R hu7) ?_
     refine sv R (D9 (ys:=[SL u7.Key eU8,SL u7.Val eU8,.b u7.Del]) Bcr R (.cp _) R R) (rsn R (Fc (rx 2 R ?_)))
     obtain⟨v8,hv8,h⟩:=Ap h
     refine Kv (x':=.s (.agg [.ls 2 v8.2.1.length,.ls 3 v8.2.2.length,Ii6 v8.1])) (M':=[BE a0,.box [Znl,Znl,Ii6 0],.arr 56 1 0 (v8.2.1.flatMap (eL eU8)),.arr 134 1 0 (v8.2.2.flatMap Az),.box [.ls 2 s6.2.1.length,.ls 3 s6.2.2.1.length,Ii6 s6.2.2.2],BE u7]) [2,3] R (fk R) (.func _) (Ar R (Ar R A7)) (Acr hv8) R R (by decide) R R R ?_
     refine rx 1 R (Ur (Bz (A1 (cgs R ?_))))
     cases SJ h
     exact lx (n6,((wI (s6.1+1)),v8.2.1,v8.2.2,v8.1)) hk6 R R
    ·refine cx5 ?_
     cases SJ h
     obtain rfl:_=x6:=hk6
     exact⟨(s6.2.1,s6.2.2.1,s6.2.2.2),_,ho6,(ml R),R⟩
  ·refine Fc (rx 5 R (ssI 24 h R (λh=>?_) (λh=>?_)))
   ·refine rsn R (S8 R (λ_=>?_) (λhx=>Bool.noConfusion hx))
    refine crs R (crt ?_)
    cases SJ h
    exact dE R (Ac7 R) R
   ·refine rsn R (ccI h R (λh=>?_) (λh=>?_))
    ·refine crs R (crt ?_)
     cases SJ h
     exact dE R (Ac7 R) R
    ·refine csn ?_
     exact⟨(),_,h,(ml R),R⟩
 ·refine Fc (rx 1 R ?_)
  obtain⟨v10,hv10,h⟩:=Ap h
  refine scI R R (Adu hv10) (rx 2 R (ssI 14 h R (λh=>?_) (λh=>?_)))
  ·refine rsn R (S8 R (λ_=>?_) (λhx=>Bool.noConfusion hx))
   refine crs R (crt ?_)
   cases SJ h
   exact dE R (Ac7 R) R
  ·refine rm 1 R (son R R R ?_)
   obtain⟨v11,hv11,h⟩:=Ap h
   refine scI R R (Uz hv11) (rsn R (ccI h R (λh=>?_) (λh=>?_)))
   ·refine crs R (crt ?_)
    cases SJ h
    exact dE R (Ac7 R) R
   ·refine csn ?_
    exact⟨(),_,h,(ml R),R⟩
noncomputable def Bdy:CT:=⟨143,[.st 6,.int .i64,.sl (.st 0)],[.st 6,.int .i64],Ao×Int,λr=>(r.1,(r.2,())),λa=>B5 a.1 a.2.1 a.2.2.1,λ_ _ h=>Yw h⟩
def Aax (b1:Int):Option Int :=
 some b1
def I4 (a0:Af) (s2:Int×Int):Option (LB (Int×Int) (Int)) :=
 if (decide (s2.2<(a0.Txs.length:Int))) then((idx a0.Txs s2.2).bind λu3=>if (decide (u3.State=1)) then(some (.cont ((if u3.Begin<s2.1 then u3.Begin else s2.1),(wI (s2.2+1))))) else(some (.cont (s2.1,(wI (s2.2+1)))))) else(some (.brk s2.1))
def Ju (a0:Af) (a1:Int):Option Int :=
 (Be (I4 a0) fuel (a1,0)).bind λe4=>Aax e4
noncomputable def Bc9:CT:=vK1 146 [.st 10,.int .i64] (.int .i64) ⟨[],[]⟩ (⟨λn=>match n with
  | 2=>some (lF ⟨[(1,.v (.int .i64)),(10,.v (.int .i64))],[.keep]⟩ 0 ⟨[(1,.v (.int .i64))],[.keep]⟩ false)
  | _=>none,λ_=>[]⟩) Tryz.func146 (λa=>Ju a.1 a.2.1)
def T5 (a0:Af) (b1:(List Int)):Option Af :=
 (Fu a0 b1).bind λv2=>some v2
def Kp (a0:Af) (s3:Int×(List Int)):Option (LB (Int×(List Int)) ((List Int))) :=
 if (decide (s3.1<(a0.Txs.length:Int))) then((idx a0.Txs s3.1).bind λu4=>if (decide (u4.State=2)) then((Ju a0 u4.End).bind λv5=>if (decide (u4.End<=v5)) then(if (s3.2.length+[u4.ID].length)*8<=140737488355328 then(some (.cont ((wI (s3.1+1)),(s3.2++[u4.ID])))) else none) else(some (.cont ((wI (s3.1+1)),s3.2)))) else(some (.cont ((wI (s3.1+1)),s3.2)))) else(some (.brk s3.2))
def Gp (a0:Af):Option Af :=
 (Be (Kp a0) fuel (0,([]:List Int))).bind λe7=>T5 a0 e7
noncomputable def Bfl:CT:=vK1 144 [.st 10] (.st 10) ⟨[Bc9,Bc3],[]⟩ (⟨λn=>match n with
  | 3=>some (lF ⟨[(3,.own 2),(9,.v (.int .i64))],[.keep,.keep,.arr 3 1 0 ((.int .i64))]⟩ 0 ⟨[(3,.own 2)],[.keep,.keep,.arr 3 1 0 ((.int .i64))]⟩ false)
  | _=>none,λn=>match n with
  | 3=>[.t 3 3 1 (.int .i64)]
  | _=>[]⟩) Tryz.func144 (λa=>Gp a.1)
def Gk (a0:List Ai):Option (List Ai) :=
 if (([]:List Ai).length+a0.length)*40<=140737488355328 then(some (([]:List Ai)++a0)) else none
theorem Yo:OwB 258 136 3 Bq (λa0=>[.one (SL a0 Bq)]) Gk:=Zn .c258 Tryz.underlying132 A1t A5o fR (by decide)
noncomputable def Z0:Aei TTs Qx0:=Aw7 258 [.sl (.st 4)] 136 (.st 4) (λa=>Gk a.1) (λ_ _ h=>Yo _ _ h)
def Dd (a0:Ab) (b4:Int):Option Ab :=
 (cut a0.L b4 (a0.L.length:Int)).bind λc5=>(Gk c5).bind λv6=>some (Ab.mk v6)
def Kz (a0:Ab) (v1:Int) (b2:Unit):Option Ab :=
 (idx a0.L v1).bind λu3=>if u3.Del then(Dd a0 (wI (v1+1))) else(Dd a0 v1)
def E4 (a0:Ab) (a1:Int):Option Ab :=
 (G7 a0 a1).bind λv1=>if (decide (v1<0)) then(some (Ab.mk a0.L)) else((Ct (Ab.mk a0.L)).bind λv7=>if (!v7) then(some (Ab.mk a0.L)) else(Kz a0 v1 ()))
noncomputable def Bef:CT:=vK1 217 [.st 5,.int .i64] (.st 5) ⟨[A9d,Bc7],[(29,Z0)]⟩ anN Tryz.func217 (λa=>E4 a.1 a.2.1)
def Yl (b2:Int×(List (List UInt8))×(List Ab)):Option Ao :=
 some (Ao.mk b2.2.1 b2.2.2 b2.1)
def Eh (a0:Ao) (a1:Int) (s3:Int×Int×(List (List UInt8))×(List Ab)):Option (LB (Int×Int×(List (List UInt8))×(List Ab)) (Int×(List (List UInt8))×(List Ab))) :=
 if (decide (s3.1<(a0.Chains.length:Int))) then((idx a0.Chains s3.1).bind λu4=>(E4 u4 (if a0.Ts<a1 then a0.Ts else a1)).bind λv5=>if (decide (0<(v5.L.length:Int))) then((idx a0.Keys s3.1).bind λu6=>if (s3.2.2.1.length+([u6]:List (List UInt8)).length)*24<=140737488355328 then(if (s3.2.2.2.length+[v5].length)*24<=140737488355328 then(some (.cont ((wI (s3.1+1)),s3.2.1,(s3.2.2.1++([u6]:List (List UInt8))),(s3.2.2.2++[v5])))) else none) else none) else(some (.cont ((wI (s3.1+1)),s3.2.1,s3.2.2.1,s3.2.2.2)))) else(some (.brk (s3.2.1,s3.2.2.1,s3.2.2.2)))
def E5 (a0:Ao) (a1:Int):Option Ao :=
 (Ca a0).bind λv1=>if (!v1) then(some a0) else((Be (Eh a0 a1) fuel (0,a0.Ts,([]:List (List UInt8)),([]:List Ab))).bind λe9=>Yl e9)
noncomputable def Bf4:CT:=vK1 145 [.st 6,.int .i64] (.st 6) ⟨[c45,Bef],[]⟩ (⟨λn=>match n with
  | 5=>some (lF ⟨[(19,.v (.int .i64))],[.keep,.keep,.box [.own 3,.own 4,.v (.int .i64)],.arr 56 1 0 ((.sl .u8)),.arr 134 1 0 ((.st 5))]⟩ 0 ⟨[],[.keep,.keep,.box [.own 3,.own 4,.v (.int .i64)],.arr 56 1 0 ((.sl .u8)),.arr 134 1 0 ((.st 5))]⟩ false)
  | _=>none,λn=>match n with
  | 5=>[.b 2 0 56 1 (.sl .u8),.b 2 1 134 1 (.st 5)]
  | _=>[]⟩) Tryz.func145 (λa=>E5 a.1 a.2.1)
def Lb (a0:Aa) (a1:Aq) (a2:Int):Option (Aa×Int) :=
 if (decide (1099511627776<a2)) then(some (Bh,11)) else((G8 a1.Buf).bind λv1=>(B2 a0.Cert a1.ID a2 v1).bind λv2=>if (!decide (v2.2=0)) then(some (Bh,v2.2)) else((Cq a0.Toks a1.Token a1.Attempt a2).bind λv3=>if (!decide (v3.2=0)) then(some (Bh,v3.2)) else((B5 a0.Store a2 a1.Buf.L).bind λv4=>if (!decide (v4.2=0)) then(some (Bh,v4.2)) else((E9 a0 a1.ID).bind λv5=>(Gp v2.1).bind λv6=>(Ju v6 a2).bind λv7=>(E5 v4.1 v7).bind λv8=>some ((Aa.mk v8 v6 v3.1 v5.Open v5.Next),0)))))
noncomputable def c68:CT:=vK2 68 [.st 14,.st 13,.int .i64] (.st 14) (.int .i64) ⟨[Bct,Bed,Bf6,Bd1,Bdy,Bfl,Bf4,Bc9],[]⟩ anN Tryz.func68 (λa=>Lb a.1 a.2.1 a.2.2.1)
def Dv (a0:Aa) (a1:Int):Option (Aa×Int×Int) :=
 (C0 a0 a1).bind λv1=>if (!decide (v1.2=0)) then((Ch a0 v1.2).bind λv2=>some (v2,0,v1.2)) else((Lb a0 v1.1 (wI (a0.Store.Ts+1))).bind λv3=>if (!decide (v3.2=0)) then((A5 a0 v1.1).bind λv4=>some (v4,0,v3.2)) else(some (v3.1,(wI (a0.Store.Ts+1)),0)))
noncomputable def c27:CT:=vK 27 [.st 14,.int .i64] [.st 14,.int .i64,.int .i64] (λr=>(r.1,(r.2.1,(r.2.2,())))) (λv=>(v.1,v.2.1,v.2.2.1)) ⟨[c55,c57,c61,c68],[]⟩ anN Tryz.func27 (λa=>Dv a.1 a.2.1)
theorem Vg {a0:Aa} {a1:Int} {r:Aa×Int×Int} (h:Dv a0 a1=some r):Bc Qx0 27 [.agg (EL.el a0),.one (Ii6 a1)] (·=.tup [.agg (EL.el r.1),.one (Ii6 r.2.1),.one (Ii6 r.2.2)]):=c27.ok (a0,a1,()) r h
def R8  : Option Bool :=
 (Ep Bh 1 1 false).bind λv1=>(Ep v1.1 2 1 false).bind λv2=>(H6 v2.1 v1.2.1 [(UInt8.ofBitVec (120#8))]).bind λv3=>(H6 v3.1 v2.2.1 [(UInt8.ofBitVec (121#8))]).bind λv4=>(Hw v4.1 v1.2.1 (Ae.mk [(UInt8.ofBitVec (121#8))] ([]:List UInt8) false)).bind λv5=>(Hw v5.1 v2.2.1 (Ae.mk [(UInt8.ofBitVec (120#8))] ([]:List UInt8) false)).bind λv6=>(Dv v6.1 v1.2.1).bind λv7=>(Dv v7.1 v2.2.1).bind λv8=>if (decide (v1.2.2=0)) then(if (decide (v2.2.2=0)) then(if (!v3.2.2.1) then(if (decide (v7.2.2=0)) then(if (decide (v7.2.1=1)) then(if (decide (v8.2.2=10)) then(if (decide ((v8.1.Open.length:Int)=0)) then((Ez v8.1).bind λv9=>some v9) else(some false)) else(some false)) else(some false)) else(some false)) else(some false)) else(some false)) else(some false)
theorem Ahb  {r:Bool} (h:R8=some r):Bc Qx0 9 [] (·=L7 (.b r)):=by
 refine Cg Tryz.func9 R (nt:=109) R (Nbl R) ?_
 intro w0 S0
 refine crs R (csr (rx 1 R ?_))
 obtain⟨v1,hv1,h⟩:=Ap h
 refine scE R R (Ac7 R) (V9 hv1) (rsn R (csr (rx 1 R ?_)))
 obtain⟨v2,hv2,h⟩:=Ap h
 refine scI R R (V9 hv2) (rsn R (csr (rx 2 R ?_)))
 refine S7 R Tryz.underlying56 ei5 R R (zJ.1 R) (by decide) ?_
 refine Agw [BE v2.1,.arr 5 1 0 ([(UInt8.ofBitVec (120#8))].flatMap eU8)] R ?_
 refine Ael R Tryz.underlying56 Tryz.underlying5 R R (A4 (f:=eU8) fR [(UInt8.ofBitVec (120#8))]).symm (by decide) ?_
 obtain⟨v3,hv3,h⟩:=Ap h
 refine scI R R (Aar hv3) (rsn R (csr (rx 2 R ?_)))
 refine S7 R Tryz.underlying56 ei5 R R (zJ.1 R) (by decide) ?_
 refine Agw [BE v3.1,.dead,.arr 5 1 0 ([(UInt8.ofBitVec (121#8))].flatMap eU8)] R ?_
 refine Ael R Tryz.underlying56 Tryz.underlying5 R R (A4 (f:=eU8) fR [(UInt8.ofBitVec (121#8))]).symm (by decide) ?_
 obtain⟨v4,hv4,h⟩:=Ap h
 refine scI R R (Aar hv4) (rsn R (csr (rx 2 R ?_)))
 refine S7 R Tryz.underlying56 ei5 R R (zJ.1 R) (by decide) ?_
 refine Agw [BE v4.1,.dead,.dead,.arr 5 1 0 ([(UInt8.ofBitVec (121#8))].flatMap eU8)] R ?_
 refine Ael R Tryz.underlying56 Tryz.underlying5 R R (A4 (f:=eU8) fR [(UInt8.ofBitVec (121#8))]).symm (by decide) ?_
 refine rx 1 R ?_
 obtain⟨v5,hv5,h⟩:=Ap h
 refine scE R R (Ac7 R) (U0 hv5) (rsn R (csr (rx 2 R ?_)))
 refine S7 R Tryz.underlying56 ei5 R R (zJ.1 R) (by decide) ?_
 refine Agw [BE v5.1,.dead,.dead,.dead,.arr 5 1 0 ([(UInt8.ofBitVec (120#8))].flatMap eU8)] R ?_
 refine Ael R Tryz.underlying56 Tryz.underlying5 R R (A4 (f:=eU8) fR [(UInt8.ofBitVec (120#8))]).symm (by decide) ?_
 refine rx 1 R ?_
 obtain⟨v6,hv6,h⟩:=Ap h
 refine scE R R (Ac7 R) (U0 hv6) (rsn R (csr (rx 2 R ?_)))
 obtain⟨v7,hv7,h⟩:=Ap h
 refine scI R R (Vg hv7) (rsn R (csr (rx 2 R ?_)))
 obtain⟨v8,hv8,h⟩:=Ap h
 refine scI R R (Vg hv8) (rsn R (csr (rx 3 R (ssI 79 h R (λh=>?_) (λh=>?_)))))
 ·refine rx 4 R (ssI 83 h R (λh=>?_) (λh=>?_))
  ·refine rx 4 R (ssI 87 h R (λh=>?_) (λh=>?_))
   ·refine rx 4 R (ssI 91 h R (λh=>?_) (λh=>?_))
    ·refine rx 4 R (ssI 95 h R (λh=>?_) (λh=>?_))
     ·refine rx 4 R (ssI 99 h R (λh=>?_) (λh=>?_))
      ·refine rx 6 R (ssI 105 h R (λh=>?_) (λh=>?_))
       ·refine rx 1 R (son R R R ?_)
        obtain⟨v9,hv9,h⟩:=Ap h
        refine scI R R (Ag4 hv9) (rsn R (Pj ?_))
        cases SJ h
        exact dnT R R R R
       ·refine rsn R (Pj ?_)
        cases SJ h
        exact dnT R R R R
      ·refine rsn R (Pj ?_)
       cases SJ h
       exact dnT R R R R
     ·refine rsn R (Pj ?_)
      cases SJ h
      exact dnT R R R R
    ·refine rsn R (Pj ?_)
     cases SJ h
     exact dnT R R R R
   ·refine rsn R (Pj ?_)
    cases SJ h
    exact dnT R R R R
  ·refine rsn R (Pj ?_)
   cases SJ h
   exact dnT R R R R
 ·refine rsn R (Pj ?_)
  cases SJ h
  exact dnT R R R R
noncomputable def c9:CT:=⟨9,[],[.bool],Bool,λr=>(r,()),λa=>R8 ,λ_ _ h=>Ahb h⟩
def Uw (a0:Aj):Option Bool :=
 if (decide ((a0.Lo.length:Int)<=100)) then(some (decide ((a0.Hi.length:Int)<=100))) else(some false)
noncomputable def c29:CT:=vK1 29 [.st 3] .bool ⟨[],[]⟩ anN Tryz.func29 (λa=>Uw a.1)
def Aed (b1:Unit):Option Bool :=
 some true
def Vm (a0:List Ic) (s2:Int):Option (LR (Int) (Unit) (Bool)) :=
 if (decide (s2<(a0.length:Int))) then((idx a0 s2).bind λu3=>(Uw u3.Rng).bind λv4=>if (!v4) then(some (.ret false)) else((idx a0 s2).bind λu5=>if (decide (50<(u5.Key.length:Int))) then(some (.ret false)) else((idx a0 s2).bind λu6=>if (decide (100<(u6.Val.length:Int))) then(some (.ret false)) else(some (.cont (wI (s2+1))))))) else(some (.brk ()))
def Qo (a0:List Ic):Option Bool :=
 if (decide (80<(a0.length:Int))) then(some false) else((B7 (Vm a0) fuel 0).bind λx=>match x with | .inl r=>some r | .inr e7=>Aed e7)
noncomputable def c10:CT:=vK1 10 [.sl (.st 15)] .bool ⟨[c29],[]⟩ (⟨λn=>match n with
  | 4=>some (lF ⟨[(3,.v (.int .i64))],[]⟩ 0 ⟨[],[]⟩ true)
  | _=>none,λ_=>[]⟩) Tryz.func10 (λa=>Qo a.1)
def Acv (b2:(List As)):Option (List As) :=
 some b2
def N7 (a0:Ao) (a1:Aj) (a2:Int) (a3:Int) (s3:Int×(List As)):Option (LB (Int×(List As)) ((List As))) :=
 if (decide (s3.1<(a0.Keys.length:Int))) then((idx a0.Keys s3.1).bind λu4=>if (decide (a3<=(s3.2.length:Int))) then(some (.brk s3.2)) else((Er a1 u4).bind λv5=>if (!v5) then(some (.cont ((wI (s3.1+1)),s3.2))) else((idx a0.Chains s3.1).bind λu6=>(Cv u6 a2).bind λv7=>if v7.2 then(if (s3.2.length+[(As.mk u4 v7.1)].length)*48<=140737488355328 then(some (.cont ((wI (s3.1+1)),(s3.2++[(As.mk u4 v7.1)])))) else none) else(some (.cont ((wI (s3.1+1)),s3.2)))))) else(some (.brk s3.2))
def E1 (a0:Ao) (a1:Aj) (a2:Int) (a3:Int):Option (List As) :=
 (Ca a0).bind λv1=>if (!v1) then(some ([]:List As)) else((Be (N7 a0 a1 a2 a3) fuel (0,([]:List As))).bind λe9=>Acv e9)
noncomputable def c54:CT:=vK1 54 [.st 6,.st 3,.int .i64,.int .i64] (.sl (.st 2)) ⟨[c45,c70,A9m],[]⟩ (⟨λn=>match n with
  | 5=>some (lF ⟨[(9,.own 2),(20,.v (.int .i64))],[.keep,.keep,.arr 157 2 0 ((.st 2))]⟩ 0 ⟨[(9,.own 2)],[.keep,.keep,.arr 157 2 0 ((.st 2))]⟩ false)
  | _=>none,λn=>match n with
  | 5=>[.t 9 157 2 (.st 2)]
  | _=>[]⟩) Tryz.func54 (λa=>E1 a.1 a.2.1 a.2.2.1 a.2.2.2.1)
def Ru (a0:Aa) (a2:Aj) (a3:Int) (v1:Aq×Int) (b3:Unit):Option (Aa×(List As)×Int) :=
 (Fw a0 v1.1 a2).bind λv4=>if (!decide (v4.2=0)) then(some (v4.1,([]:List As),v4.2)) else((E1 v4.1.Store a2 v1.1.Snap 128).bind λv5=>(C5 v1.1.Buf v5 a2 a3).bind λv6=>some (v4.1,v6,0))
def Mb (a0:Aa) (a1:Int) (a2:Aj) (a3:Int):Option (Aa×(List As)×Int) :=
 (C0 a0 a1).bind λv1=>if (!decide (v1.2=0)) then((Ch a0 v1.2).bind λv2=>some (v2,([]:List As),v1.2)) else((Br a2).bind λv7=>if (!v7) then(some (a0,([]:List As),1)) else((Ex a2).bind λv8=>if v8 then(some (a0,([]:List As),1)) else(Ru a0 a2 a3 v1 ())))
noncomputable def c30:CT:=vK 30 [.st 14,.int .i64,.st 3,.int .i64] [.st 14,.sl (.st 2),.int .i64] (λr=>(r.1,(r.2.1,(r.2.2,())))) (λv=>(v.1,v.2.1,v.2.2.1)) ⟨[c52,c54,c55,c61,c64,c71,c72],[]⟩ anN Tryz.func30 (λa=>Mb a.1 a.2.1 a.2.2.1 a.2.2.2.1)
def J9 (a0:Aa) (a1:Int):Option (Aa×Int) :=
 (C0 a0 a1).bind λv1=>if (!decide (v1.2=0)) then((Ch a0 v1.2).bind λv2=>some (v2,v1.2)) else((A5 a0 v1.1).bind λv3=>some (v3,0))
noncomputable def c26:CT:=vK2 26 [.st 14,.int .i64] (.st 14) (.int .i64) ⟨[c55,c57,c61],[]⟩ anN Tryz.func26 (λa=>J9 a.1 a.2.1)
def E3 (v2:Ah×Int×Int) (b6:Aa):Option (Aa×Int×Int) :=
 some (b6,v2.2.1,0)
def Iu (a0:Aa) (a1:Int) (a2:Int):Option (Aa×Int×Int) :=
 (Ez a0).bind λv1=>if (!v1) then(some (Bh,0,1)) else((Bp a0.Toks a1 a2).bind λv2=>if (!decide (v2.2.2=0)) then((Ch a0 v2.2.2).bind λv3=>some (v3,0,v2.2.2)) else((Dc v2.1 a1).bind λv4=>(Hg ({a0 with Toks:=v2.1}) a1).bind λv5=>if v5.2 then(if (decide (v4.1.State=3)) then(if (decide (v5.1.Attempt<=v4.1.Attempt)) then((A5 ({a0 with Toks:=v2.1}) v5.1).bind λv7=>E3 v2 v7) else(E3 v2 ({a0 with Toks:=v2.1}))) else(E3 v2 ({a0 with Toks:=v2.1}))) else(E3 v2 ({a0 with Toks:=v2.1}))))
noncomputable def c31:CT:=vK 31 [.st 14,.int .i64,.int .i64] [.st 14,.int .i64,.int .i64] (λr=>(r.1,(r.2.1,(r.2.2,())))) (λv=>(v.1,v.2.1,v.2.2.1)) ⟨[c16,c56,c57,c61,c73,c74],[]⟩ anN Tryz.func31 (λa=>Iu a.1 a.2.1 a.2.2.1)
def P1 (a0:Int) (b1:Unit):Option (List Al) :=
 if (decide (0<(wI (a0-(wI (0-0)))))) then(if 0<(wI (a0-(wI (0-0))))/\(wI (a0-(wI (0-0))))*((32:Nat):Int)<=281474976710656 then(if (0:Int)<=0/\0<=((List.replicate (wI (a0-(wI (0-0)))).toNat (Al.mk 0 0 0 0)).length:Int) then(some ((List.replicate (wI (a0-(wI (0-0)))).toNat (Al.mk 0 0 0 0)).take (0:Int).toNat)) else none) else none) else(some ([]:List Al))
def Kb (a0:Int):Option (List Al) :=
 if (decide (a0<0)) then none else(P1 a0 ())
theorem Zp:OwB 220 145 4 Bs (λa0=>[.one (Znl),.one (Ii6 a0)]) Kb:=Ahw (z:=(Al.mk 0 0 0 0)) .c220 Tryz.underlying35 A3l Bev fR R (by decide)
def W5 (b3:(List Al)):Option (List Al) :=
 some b3
def Fy (a0:List (List Al)) (s4:Int×(List Al)):Option (LB (Int×(List Al)) ((List Al))) :=
 if (decide (s4.1<(a0.length:Int))) then((idx a0 s4.1).bind λu5=>if (s4.2.length+u5.length)*32<=140737488355328 then(some (.cont ((wI (s4.1+1)),(s4.2++u5)))) else none) else(some (.brk s4.2))
def O6 (a0:List (List Al)) (b1:Int):Option (List Al) :=
 (Kb b1).bind λv2=>(Be (Fy a0) fuel (0,v2)).bind λe7=>W5 e7
def F1 (a0:List (List Al)) (s8:Int×Int):Option (LB (Int×Int) (Int)) :=
 if (decide (s8.2<(a0.length:Int))) then((idx a0 s8.2).bind λu9=>if (decide ((wI (s8.1+(u9.length:Int)))<0)) then none else(some (.cont ((wI (s8.1+(u9.length:Int))),(wI (s8.2+1)))))) else(some (.brk s8.1))
def Fz (a0:List (List Al)):Option (List Al) :=
 (Be (F1 a0) fuel (0,0)).bind λe10=>O6 a0 e10
theorem Yp:OwA 151 Bs (λa0=>[.one (SL a0 (eL Bs))]) Fz:=OwB.A (X9 .c151 Zp Tryz.underlying35 A3l Bcg Ba0 fR (by decide)) fR
noncomputable def c151:CT:=⟨151,[.sl (.sl (.st 11))],[.sl (.st 11)],(List Al),λr=>(r,()),λa=>Fz a.1,λ_ _ h=>Yp _ _ h⟩
def Jq (a0:Ah) (a1:Int) (b1:Unit):Option (Ah×Int) :=
 (Dc a0 a1).bind λv2=>if (!v2.2) then(some (Ay,6)) else(if (decide (v2.1.State=1)) then(some (Ay,7)) else((Dm a0 a1).bind λv3=>(cut a0.L 0 v3).bind λc4=>(cut a0.L (wI (v3+1)) (a0.L.length:Int)).bind λc5=>(Fz ([c4,c5]:List (List Al))).bind λv6=>some ((Ah.mk v6),0)))
def C7 (a0:Ah) (a1:Int):Option (Ah×Int) :=
 (Ci a0).bind λv7=>if (!v7) then(some (Ay,1)) else((B1 a1 0).bind λv8=>if (!v8) then(some (Ay,1)) else(Jq a0 a1 ()))
noncomputable def c75:CT:=vK2 75 [.st 12,.int .i64] (.st 12) (.int .i64) ⟨[c47,c74,A8i,A5e,c151],[]⟩ anN Tryz.func75 (λa=>C7 a.1 a.2.1)
def G6 (a0:Aa) (a1:Int):Option (Aa×Int) :=
 (Ez a0).bind λv1=>if (!v1) then(some (Bh,1)) else((C7 a0.Toks a1).bind λv2=>if (!decide (v2.2=0)) then((Ch a0 v2.2).bind λv3=>some (v3,v2.2)) else(some ({a0 with Toks:=v2.1},0)))
noncomputable def c32:CT:=vK2 32 [.st 14,.int .i64] (.st 14) (.int .i64) ⟨[c16,c61,c75],[]⟩ anN Tryz.func32 (λa=>G6 a.1 a.2.1)
def Qu (a0:Aa) (a1:Ic) (a2:Int):Option (Aa×B8) :=
 if (decide (a1.What<=1)) then((Ep a0 a1.Token a1.Attempt a1.RO).bind λv1=>some (v1.1,(B8.mk v1.2.1 false ([]:List UInt8) ([]:List As) v1.2.2))) else(if (decide (a1.What<=3)) then((H6 a0 a2 a1.Key).bind λv2=>some (v2.1,(B8.mk 0 v2.2.2.1 v2.2.1 ([]:List As) v2.2.2.2))) else(if (decide (a1.What=4)) then((Mb a0 a2 a1.Rng 8).bind λv3=>some (v3.1,(B8.mk 0 false ([]:List UInt8) v3.2.1 v3.2.2))) else(if (decide (a1.What<=7)) then((Hw a0 a2 (Ae.mk a1.Key a1.Val a1.Del)).bind λv4=>some (v4.1,(B8.mk 0 false ([]:List UInt8) ([]:List As) v4.2))) else(if (decide (a1.What<=10)) then((Dv a0 a2).bind λv5=>some (v5.1,(B8.mk v5.2.1 false ([]:List UInt8) ([]:List As) v5.2.2))) else(if (decide (a1.What=11)) then((J9 a0 a2).bind λv6=>some (v6.1,(B8.mk 0 false ([]:List UInt8) ([]:List As) v6.2))) else(if (decide (a1.What=12)) then((Iu a0 a1.Token a1.Attempt).bind λv7=>some (v7.1,(B8.mk v7.2.1 false ([]:List UInt8) ([]:List As) v7.2.2))) else((G6 a0 a1.Token).bind λv8=>some (v8.1,(B8.mk 0 false ([]:List UInt8) ([]:List As) v8.2)))))))))
noncomputable def c11:CT:=vK2 11 [.st 14,.st 15,.int .i64] (.st 14) (.st 16) ⟨[c23,c24,c25,c26,c27,c30,c31,c32],[]⟩ anN Tryz.func11 (λa=>Qu a.1 a.2.1 a.2.2.1)
def Rk (a0:List UInt8) (a1:List UInt8) (b1:Unit):Option Int :=
 if (decide ((a0.length:Int)<(a1.length:Int))) then(some (-1)) else(if (decide ((a1.length:Int)<(a0.length:Int))) then(some 1) else(some 0))
def Wd (a0:List UInt8) (a1:List UInt8) (s2:Int) (b3:Unit):Option (LR (Int) (Unit) (Int)) :=
 (idx a0 s2).bind λu4=>(idx a1 s2).bind λu5=>if (decide ((u4.toBitVec.toNat:Int)<(u5.toBitVec.toNat:Int))) then(some (.ret (-1))) else((idx a0 s2).bind λu6=>(idx a1 s2).bind λu7=>if (decide ((u7.toBitVec.toNat:Int)<(u6.toBitVec.toNat:Int))) then(some (.ret 1)) else(some (.cont (wI (s2+1)))))
def Q5 (a0:List UInt8) (a1:List UInt8) (s2:Int):Option (LR (Int) (Unit) (Int)) :=
 if (decide (s2<(a0.length:Int))) then(if (decide (s2<(a1.length:Int))) then(Wd a0 a1 s2 ()) else(some (.brk ()))) else(some (.brk ()))
def Ck (a0:List UInt8) (a1:List UInt8):Option Int :=
 (B7 (Q5 a0 a1) fuel 0).bind λx=>match x with | .inl r=>some r | .inr e8=>Rk a0 a1 e8
noncomputable def Azt:CT:=vK1 168 [.sl .u8,.sl .u8] (.int .i64) ⟨[],[]⟩ (⟨λn=>match n with
  | 2=>some (lF ⟨[(5,.v (.int .i64))],[]⟩ 0 ⟨[],[]⟩ true)
  | _=>none,λ_=>[]⟩) Tryz.func168 (λa=>Ck a.1 a.2.1)
def Abz (b1:Unit):Option Bool :=
 some true
def Np (a0:List (List UInt8)) (s2:Int):Option (LR (Int) (Unit) (Bool)) :=
 if (decide (s2<(a0.length:Int))) then((idx a0 (wI (s2-1))).bind λu3=>(idx a0 s2).bind λu4=>(Ck u3 u4).bind λv5=>if (decide (0<=v5)) then(some (.ret false)) else(some (.cont (wI (s2+1))))) else(some (.brk ()))
def Hm (a0:List (List UInt8)):Option Bool :=
 (B7 (Np a0) fuel 1).bind λx=>match x with | .inl r=>some r | .inr e6=>Abz e6
noncomputable def Bbz:CT:=vK1 221 [.sl (.sl .u8)] .bool ⟨[Azt],[]⟩ (⟨λn=>match n with
  | 2=>some (lF ⟨[(3,.v (.int .i64))],[]⟩ 0 ⟨[],[]⟩ true)
  | _=>none,λ_=>[]⟩) Tryz.func221 (λa=>Hm a.1)
def D6 (a0:List UInt8):Option Bool :=
 if (decide (1<=(a0.length:Int))) then(some (decide ((a0.length:Int)<=16))) else(some false)
noncomputable def c82:CT:=vK1 82 [.sl .u8] .bool ⟨[],[]⟩ anN Tryz.func82 (λa=>D6 a.1)
def Ad0 (b1:Unit):Option Bool :=
 some true
def U1 (a0:Ab) (s2:Int):Option (LR (Int) (Unit) (Bool)) :=
 if (decide (s2<(a0.L.length:Int))) then((idx a0.L s2).bind λu3=>if (decide (u3.Ts<1)) then(some (.ret false)) else(if (decide (1099511627776<u3.Ts)) then(some (.ret false)) else(if (decide (0<s2)) then((idx a0.L (wI (s2-1))).bind λu4=>if (decide (u3.Ts<=u4.Ts)) then(some (.ret false)) else(if (decide (32<(u3.Val.length:Int))) then(some (.ret false)) else(if u3.Del then(if (decide (0<(u3.Val.length:Int))) then(some (.ret false)) else(some (.cont (wI (s2+1))))) else(some (.cont (wI (s2+1))))))) else(if (decide (32<(u3.Val.length:Int))) then(some (.ret false)) else(if u3.Del then(if (decide (0<(u3.Val.length:Int))) then(some (.ret false)) else(some (.cont (wI (s2+1))))) else(some (.cont (wI (s2+1))))))))) else(some (.brk ()))
def Gb (a0:Ab):Option Bool :=
 (B7 (U1 a0) fuel 0).bind λx=>match x with | .inl r=>some r | .inr e5=>Ad0 e5
noncomputable def Bbl:CT:=vK1 222 [.st 5] .bool ⟨[],[]⟩ (⟨λn=>match n with
  | 2=>some (lF ⟨[(3,.v (.int .i64))],[.keep]⟩ 0 ⟨[],[.keep]⟩ true)
  | _=>none,λ_=>[]⟩) Tryz.func222 (λa=>Gb a.1)
def Kj (a0:Ab):Option Int :=
 if (decide ((a0.L.length:Int)=0)) then(some 0) else((idx a0.L (wI ((a0.L.length:Int)-1))).bind λu1=>some u1.Ts)
noncomputable def Bcv:CT:=vK1 223 [.st 5] (.int .i64) ⟨[],[]⟩ anN Tryz.func223 (λa=>Kj a.1)
def Ad3 (b2:Unit):Option Bool :=
 some true
def Lw (a0:Ao) (s3:Int):Option (LR (Int) (Unit) (Bool)) :=
 if (decide (s3<(a0.Keys.length:Int))) then((idx a0.Chains s3).bind λu4=>(idx a0.Keys s3).bind λu5=>(D6 u5).bind λv6=>if (!v6) then(some (.ret false)) else((Gb u4).bind λv7=>if (!v7) then(some (.ret false)) else(if (decide ((u4.L.length:Int)=0)) then(some (.ret false)) else((Kj u4).bind λv8=>if (decide (a0.Ts<v8)) then(some (.ret false)) else(some (.cont (wI (s3+1)))))))) else(some (.brk ()))
def U7 (a0:Ao) (b1:Unit):Option Bool :=
 (B7 (Lw a0) fuel 0).bind λx=>match x with | .inl r=>some r | .inr e9=>Ad3 e9
def Gj (a0:Ao):Option Bool :=
 if (!decide ((a0.Keys.length:Int)=(a0.Chains.length:Int))) then(some false) else(if (decide (128<(a0.Keys.length:Int))) then(some false) else((Hm a0.Keys).bind λv10=>if (!v10) then(some false) else(if (decide (a0.Ts<0)) then(some false) else(if (decide (1099511627776<a0.Ts)) then(some false) else(U7 a0 ())))))
noncomputable def A4s:CT:=vK1 152 [.st 6] .bool ⟨[c82,Bbz,Bbl,Bcv],[]⟩ (⟨λn=>match n with
  | 4=>some (lF ⟨[(3,.v (.int .i64))],[.keep]⟩ 0 ⟨[],[.keep]⟩ true)
  | _=>none,λ_=>[]⟩) Tryz.func152 (λa=>Gj a.1)
def Aex (a0:List (List UInt8)) (b1:Unit):Option Bool :=
 (Hm a0).bind λv2=>some v2
def Wc (a0:List (List UInt8)) (s3:Int):Option (LR (Int) (Unit) (Bool)) :=
 if (decide (s3<(a0.length:Int))) then((idx a0 s3).bind λu4=>(D6 u4).bind λv5=>if (!v5) then(some (.ret false)) else(some (.cont (wI (s3+1))))) else(some (.brk ()))
def Pe (a0:List (List UInt8)):Option Bool :=
 (B7 (Wc a0) fuel 0).bind λx=>match x with | .inl r=>some r | .inr e6=>Aex a0 e6
noncomputable def Bci:CT:=vK1 226 [.sl (.sl .u8)] .bool ⟨[c82,Bbz],[]⟩ (⟨λn=>match n with
  | 2=>some (lF ⟨[(3,.v (.int .i64))],[]⟩ 0 ⟨[],[]⟩ true)
  | _=>none,λ_=>[]⟩) Tryz.func226 (λa=>Pe a.1)
def Wu (a0:Ag) (b1:Unit):Option Bool :=
 if (decide (a0.State=1)) then(if (decide (a0.End=0)) then(some (decide ((a0.Keys.length:Int)=0))) else(some false)) else(if (decide (a0.State=2)) then(if (decide (a0.Begin<a0.End)) then(if (decide (a0.End<=1099511627776)) then((Pe a0.Keys).bind λv2=>if v2 then(if (!a0.RO) then(some true) else(some (decide ((a0.Keys.length:Int)=0)))) else(some false)) else(some false)) else(some false)) else(some false))
def O8 (a0:Ag):Option Bool :=
 if (decide (a0.ID<0)) then(some false) else(if (decide (a0.Begin<0)) then(some false) else(if (decide (1099511627776<a0.Begin)) then(some false) else(Wu a0 ())))
noncomputable def Bbv:CT:=vK1 158 [.st 9] .bool ⟨[Bci],[]⟩ anN Tryz.func158 (λa=>O8 a.1)
def Ac9 (b1:Unit):Option Int :=
 some (-1)
def Ug (a0:List Ag) (a1:Int) (s2:Int):Option (LR (Int) (Unit) (Int)) :=
 if (decide (s2<(a0.length:Int))) then((idx a0 s2).bind λu3=>if (decide (u3.ID=a1)) then(some (.ret s2)) else(some (.cont (wI (s2+1))))) else(some (.brk ()))
def Cu (a0:List Ag) (a1:Int):Option Int :=
 (B7 (Ug a0 a1) fuel 0).bind λx=>match x with | .inl r=>some r | .inr e4=>Ac9 e4
noncomputable def A4e:CT:=vK1 159 [.sl (.st 9),.int .i64] (.int .i64) ⟨[],[]⟩ (⟨λn=>match n with
  | 2=>some (lF ⟨[(5,.v (.int .i64))],[]⟩ 0 ⟨[],[]⟩ true)
  | _=>none,λ_=>[]⟩) Tryz.func159 (λa=>Cu a.1 a.2.1)
def Hr (a0:Aj):Option Bool :=
 if (decide ((a0.Lo.length:Int)<=17)) then(if (decide ((a0.Hi.length:Int)<=17)) then(if (!a0.Open) then(some true) else(some (decide ((a0.Hi.length:Int)=0)))) else(some false)) else(some false)
noncomputable def c88:CT:=vK1 88 [.st 3] .bool ⟨[],[]⟩ anN Tryz.func88 (λa=>Hr a.1)
def Nf (a0:Aj):Option Bool :=
 if (!a0.Open) then((Ck a0.Hi a0.Lo).bind λv1=>if (decide (v1<=0)) then(some true) else(if (decide ((a0.Lo.length:Int)=0)) then(if (decide ((a0.Hi.length:Int)=1)) then((idx a0.Hi 0).bind λu2=>some (decide ((u2.toBitVec.toNat:Int)=(0:Int)))) else(some false)) else(some false))) else(some false)
noncomputable def c89:CT:=vK1 89 [.st 3] .bool ⟨[Azt],[]⟩ anN Tryz.func89 (λa=>Nf a.1)
def O4 (a0:Ac):Option Bool :=
 if (decide (0<=a0.Tx)) then((Hr a0.Rng).bind λv1=>if v1 then((Nf a0.Rng).bind λv2=>some (!v2)) else(some false)) else(some false)
noncomputable def Bbt:CT:=vK1 227 [.st 7] .bool ⟨[c88,c89],[]⟩ anN Tryz.func227 (λa=>O4 a.1)
def Mk (a0:Aj) (a1:Aj):Option Bool :=
 if (a0.Lo==a1.Lo) then(if (a0.Hi==a1.Hi) then(some (a0.Open==a1.Open)) else(some false)) else(some false)
noncomputable def Bdb:CT:=vK1 234 [.st 3,.st 3] .bool ⟨[],[]⟩ anN Tryz.func234 (λa=>Mk a.1 a.2.1)
def Eo (a0:Ac) (a1:Ac):Option Bool :=
 if (decide (a0.Tx=a1.Tx)) then((Mk a0.Rng a1.Rng).bind λv1=>some v1) else(some false)
noncomputable def Ba2:CT:=vK1 180 [.st 7,.st 7] .bool ⟨[Bdb],[]⟩ anN Tryz.func180 (λa=>Eo a.1 a.2.1)
def Adv (a0:Am) (b1:Unit):Option Bool :=
 some (decide ((a0.L.length:Int)<=128))
def Ads (s2:Int) (b5:Unit):Option (LR (Int) (Unit) (Bool)) :=
 some (.cont (wI (s2+1)))
def U2 (a0:Am) (s2:Int) (s6:Int):Option (LR (Int) (Unit) (Bool)) :=
 if (decide (s6<s2)) then((idx a0.L s6).bind λu7=>(idx a0.L s2).bind λu8=>(Eo u7 u8).bind λv9=>if v9 then(some (.ret false)) else(some (.cont (wI (s6+1))))) else(some (.brk ()))
def Vb (a0:Am) (s2:Int):Option (LR (Int) (Unit) (Bool)) :=
 if (decide (s2<(a0.L.length:Int))) then((idx a0.L s2).bind λu3=>(O4 u3).bind λv4=>if (!v4) then(some (.ret false)) else((B7 (U2 a0 s2) fuel 0).bind λx=>match x with | .inl r=>some (.ret r) | .inr e10=>Ads s2 e10)) else(some (.brk ()))
def Mi (a0:Am):Option Bool :=
 (B7 (Vb a0) fuel 0).bind λx=>match x with | .inl r=>some r | .inr e11=>Adv a0 e11
noncomputable def Bb2:CT:=vK1 224 [.st 8] .bool ⟨[Ba2,Bbt],[]⟩ (⟨λn=>match n with
  | 2=>some (lF ⟨[(3,.v (.int .i64))],[.keep]⟩ 0 ⟨[],[.keep]⟩ true)
  | 7=>some (lF ⟨[(4,.v (.int .i64))],[.keep]⟩ 2 ⟨[],[.keep]⟩ true)
  | _=>none,λ_=>[]⟩) Tryz.func224 (λa=>Mi a.1)
def Pl (a0:Af) (b2:Unit):Option Bool :=
 if (decide ((a0.Txs.length:Int)<=64)) then((Mi a0.Reads).bind λv3=>some v3) else(some false)
def Vl (a0:Af) (s4:Int):Option (LR (Int) (Unit) (Bool)) :=
 if (decide (s4<(a0.Reads.L.length:Int))) then((idx a0.Reads.L s4).bind λu5=>(Cu a0.Txs u5.Tx).bind λv6=>if (decide (v6<0)) then(some (.ret false)) else(some (.cont (wI (s4+1))))) else(some (.brk ()))
def Ps (a0:Af) (b1:Unit):Option Bool :=
 (B7 (Vl a0) fuel 0).bind λx=>match x with | .inl r=>some r | .inr e7=>Pl a0 e7
def Ack (s8:Int) (b11:Unit):Option (LR (Int) (Unit) (Bool)) :=
 some (.cont (wI (s8+1)))
def Kl (a0:Af) (s8:Int) (u9:Ag) (s12:Int):Option (LR (Int) (Unit) (Bool)) :=
 if (decide (s12<s8)) then(if (decide (u9.State=2)) then((idx a0.Txs s12).bind λu13=>if (decide (u13.State=2)) then((idx a0.Txs s12).bind λu14=>if (decide (u14.End=u9.End)) then((idx a0.Txs s12).bind λu15=>if (decide (0<(wI ((u15.Keys.length:Int)+(u9.Keys.length:Int))))) then(some (.ret false)) else(some (.cont (wI (s12+1))))) else(some (.cont (wI (s12+1))))) else(some (.cont (wI (s12+1))))) else(some (.cont (wI (s12+1))))) else(some (.brk ()))
def Ua (a0:Af) (s8:Int) (u9:Ag) (b10:Unit):Option (LR (Int) (Unit) (Bool)) :=
 (B7 (Kl a0 s8 u9) fuel 0).bind λx=>match x with | .inl r=>some (.ret r) | .inr e16=>Ack s8 e16
def Vo (a0:Af) (s8:Int):Option (LR (Int) (Unit) (Bool)) :=
 if (decide (s8<(a0.Txs.length:Int))) then((idx a0.Txs s8).bind λu9=>(O8 u9).bind λv17=>if (!v17) then(some (.ret false)) else((Cu a0.Txs u9.ID).bind λv18=>if (!decide (v18=s8)) then(some (.ret false)) else(Ua a0 s8 u9 ()))) else(some (.brk ()))
def H7 (a0:Af):Option Bool :=
 (B7 (Vo a0) fuel 0).bind λx=>match x with | .inl r=>some r | .inr e19=>Ps a0 e19
noncomputable def A88:CT:=vK1 153 [.st 10] .bool ⟨[Bbv,A4e,Bb2],[]⟩ (⟨λn=>match n with
  | 13=>some (lF ⟨[(6,.v (.int .i64))],[.keep]⟩ 4 ⟨[],[.keep]⟩ true)
  | 2=>some (lF ⟨[(3,.v (.int .i64))],[.keep]⟩ 0 ⟨[],[.keep]⟩ true)
  | 8=>some (lF ⟨[(5,.v (.int .i64))],[.keep,.keep]⟩ 2 ⟨[],[.keep,.keep]⟩ true)
  | _=>none,λ_=>[]⟩) Tryz.func153 (λa=>H7 a.1)
def Hs (a0:Int) (a1:Int):Option Bool :=
 if (decide (0<=a0)) then(if (decide (a0<=1099511627776)) then(if (decide (0<=a1)) then(some (decide (a1<=65535))) else(some false)) else(some false)) else(some false)
noncomputable def A7d:CT:=vK1 156 [.int .i64,.int .i64] .bool ⟨[],[]⟩ anN Tryz.func156 (λa=>Hs a.1 a.2.1)
def Acf (b1:Unit):Option Int :=
 some (-1)
def Ty (a0:Ah) (a1:Int) (s2:Int):Option (LR (Int) (Unit) (Int)) :=
 if (decide (s2<(a0.L.length:Int))) then((idx a0.L s2).bind λu3=>if (decide (u3.Tok=a1)) then(some (.ret s2)) else(some (.cont (wI (s2+1))))) else(some (.brk ()))
def Gs (a0:Ah) (a1:Int):Option Int :=
 (B7 (Ty a0 a1) fuel 0).bind λx=>match x with | .inl r=>some r | .inr e4=>Acf e4
noncomputable def A8k:CT:=vK1 178 [.st 12,.int .i64] (.int .i64) ⟨[],[]⟩ (⟨λn=>match n with
  | 2=>some (lF ⟨[(5,.v (.int .i64))],[.keep]⟩ 0 ⟨[],[.keep]⟩ true)
  | _=>none,λ_=>[]⟩) Tryz.func178 (λa=>Gs a.1 a.2.1)
def Aeb (a0:Ah) (b1:Unit):Option Bool :=
 some (decide ((a0.L.length:Int)<=32))
def Ln (s2:Int) (b5:Bool) (b6:Bool):Option (LR (Int) (Unit) (Bool)) :=
 if (!b5) then(if (!b6) then(some (.ret false)) else(some (.cont (wI (s2+1))))) else(some (.cont (wI (s2+1))))
def Ll (s2:Int) (u3:Al) (b5:Bool):Option (LR (Int) (Unit) (Bool)) :=
 if (decide (u3.State=2)) then(if (decide (1<=u3.Ts)) then(Ln s2 b5 (decide (u3.Ts<=1099511627776))) else(Ln s2 b5 false)) else(Ln s2 b5 false)
def U8 (s2:Int) (u3:Al) (b4:Unit):Option (LR (Int) (Unit) (Bool)) :=
 if (decide (u3.State=1)) then(Ll s2 u3 (decide (u3.Ts=0))) else(if (decide (u3.State=3)) then(Ll s2 u3 (decide (u3.Ts=0))) else(Ll s2 u3 false))
def U3 (a0:Ah) (s2:Int):Option (LR (Int) (Unit) (Bool)) :=
 if (decide (s2<(a0.L.length:Int))) then((idx a0.L s2).bind λu3=>(Hs u3.Tok u3.Attempt).bind λv7=>if (!v7) then(some (.ret false)) else((Gs a0 u3.Tok).bind λv8=>if (!decide (v8=s2)) then(some (.ret false)) else(U8 s2 u3 ()))) else(some (.brk ()))
def Gi (a0:Ah):Option Bool :=
 (B7 (U3 a0) fuel 0).bind λx=>match x with | .inl r=>some r | .inr e9=>Aeb a0 e9
noncomputable def A67:CT:=vK1 154 [.st 12] .bool ⟨[A7d,A8k],[]⟩ (⟨λn=>match n with
  | 2=>some (lF ⟨[(3,.v (.int .i64))],[.keep]⟩ 0 ⟨[],[.keep]⟩ true)
  | _=>none,λ_=>[]⟩) Tryz.func154 (λa=>Gi a.1)
def Qd (a0:Af) (a1:Int):Option (Ag×Bool) :=
 (Cu a0.Txs a1).bind λv1=>if (decide (v1<0)) then(some (Aft,false)) else((idx a0.Txs v1).bind λu2=>some (u2,true))
noncomputable def Bf1:CT:=vK2 225 [.st 10,.int .i64] (.st 9) .bool ⟨[A4e],[]⟩ anN Tryz.func225 (λa=>Qd a.1 a.2.1)
def Abk (b1:Unit):Option Bool :=
 some true
def Fx (a0:List Ae) (s2:Int):Option (LR (Int) (Unit) (Bool)) :=
 if (decide (s2<(a0.length:Int))) then((idx a0 s2).bind λu3=>(D6 u3.Key).bind λv4=>if (!v4) then(some (.ret false)) else(if (decide (0<s2)) then((idx a0 (wI (s2-1))).bind λu5=>(Ck u5.Key u3.Key).bind λv6=>if (decide (0<=v6)) then(some (.ret false)) else(if (decide (32<(u3.Val.length:Int))) then(some (.ret false)) else(if u3.Del then(if (decide (0<(u3.Val.length:Int))) then(some (.ret false)) else(some (.cont (wI (s2+1))))) else(some (.cont (wI (s2+1))))))) else(if (decide (32<(u3.Val.length:Int))) then(some (.ret false)) else(if u3.Del then(if (decide (0<(u3.Val.length:Int))) then(some (.ret false)) else(some (.cont (wI (s2+1))))) else(some (.cont (wI (s2+1)))))))) else(some (.brk ()))
def D5 (a0:List Ae):Option Bool :=
 (B7 (Fx a0) fuel 0).bind λx=>match x with | .inl r=>some r | .inr e7=>Abk e7
noncomputable def Bar:CT:=vK1 171 [.sl (.st 0)] .bool ⟨[c82,Azt],[]⟩ (⟨λn=>match n with
  | 2=>some (lF ⟨[(3,.v (.int .i64))],[]⟩ 0 ⟨[],[]⟩ true)
  | _=>none,λ_=>[]⟩) Tryz.func171 (λa=>D5 a.1)
def Kr (a0:Au):Option Bool :=
 if (decide ((a0.L.length:Int)<=16)) then((D5 a0.L).bind λv1=>some v1) else(some false)
noncomputable def A99:CT:=vK1 169 [.st 1] .bool ⟨[Bar],[]⟩ anN Tryz.func169 (λa=>Kr a.1)
def Ri (u1:Aq) (b4:Unit):Option Bool :=
 (Kr u1.Buf).bind λv5=>if v5 then(if (!u1.RO) then(some true) else(some (decide ((u1.Buf.L.length:Int)=0)))) else(some false)
def Xe (a0:Aa) (a1:Int) (u1:Aq) (s6:Int):Option (LR (Int) (Unit) (Bool)) :=
 if (decide (s6<a1)) then((idx a0.Open s6).bind λu7=>if (decide (u7.Token=u1.Token)) then(some (.ret false)) else(some (.cont (wI (s6+1))))) else(some (.brk ()))
def Nm (a0:Aa) (a1:Int) (u1:Aq) (b3:Unit):Option Bool :=
 (B7 (Xe a0 a1 u1) fuel 0).bind λx=>match x with | .inl r=>some r | .inr e8=>Ri u1 e8
def R4 (a0:Aa) (a1:Int):Option Bool :=
 (idx a0.Open a1).bind λu1=>(Qd a0.Cert u1.ID).bind λv2=>if (!v2.2) then(some false) else(if (!decide (v2.1.State=1)) then(some false) else(if (!decide (v2.1.Begin=u1.Snap)) then(some false) else(if (!(v2.1.RO==u1.RO)) then(some false) else(if (decide (a0.Next<=u1.ID)) then(some false) else(if (decide (a0.Store.Ts<u1.Snap)) then(some false) else(if (decide (0<a1)) then((idx a0.Open (wI (a1-1))).bind λu9=>if (decide (u1.ID<=u9.ID)) then(some false) else(Nm a0 a1 u1 ())) else(Nm a0 a1 u1 ())))))))
noncomputable def Bdv:CT:=vK1 155 [.st 14,.int .i64] .bool ⟨[A99,Bf1],[]⟩ (⟨λn=>match n with
  | 6=>some (lF ⟨[(8,.v (.int .i64))],[.keep,.keep,.keep]⟩ 0 ⟨[],[.keep,.keep,.keep]⟩ true)
  | _=>none,λ_=>[]⟩) Tryz.func155 (λa=>R4 a.1 a.2.1)
def Wa (a0:Aa) (b3:Int):Option Bool :=
 some (decide (b3=(a0.Open.length:Int)))
def Q9 (a0:Aa) (s4:Int×Int) (b6:Int):Option (LR (Int×Int) (Int) (Bool)) :=
 (idx a0.Cert.Txs s4.2).bind λu7=>if (decide (a0.Store.Ts<u7.End)) then(some (.ret false)) else(some (.cont (b6,(wI (s4.2+1)))))
def Nh (a0:Aa) (s4:Int×Int):Option (LR (Int×Int) (Int) (Bool)) :=
 if (decide (s4.2<(a0.Cert.Txs.length:Int))) then((idx a0.Cert.Txs s4.2).bind λu5=>if (decide (u5.State=1)) then(Q9 a0 s4 (wI (s4.1+1))) else(Q9 a0 s4 s4.1)) else(some (.brk s4.1))
def Xh (a0:Aa) (b2:Unit):Option Bool :=
 (B7 (Nh a0) fuel (0,0)).bind λx=>match x with | .inl r=>some r | .inr e8=>Wa a0 e8
def Mj (a0:Aa) (s9:Int):Option (LR (Int) (Unit) (Bool)) :=
 if (decide (s9<(a0.Open.length:Int))) then((R4 a0 s9).bind λv10=>if (!v10) then(some (.ret false)) else(some (.cont (wI (s9+1))))) else(some (.brk ()))
def Xv (a0:Aa) (b1:Unit):Option Bool :=
 (B7 (Mj a0) fuel 0).bind λx=>match x with | .inl r=>some r | .inr e11=>Xh a0 e11
def J3 (a0:Aa):Option Bool :=
 (Gj a0.Store).bind λv12=>if (!v12) then(some false) else((H7 a0.Cert).bind λv13=>if (!v13) then(some false) else((Gi a0.Toks).bind λv14=>if (!v14) then(some false) else(if (decide (16<(a0.Open.length:Int))) then(some false) else(if (decide (a0.Next<0)) then(some false) else(if (decide (1099511627776<a0.Next)) then(some false) else(Xv a0 ()))))))
noncomputable def c76:CT:=vK1 76 [.st 14] .bool ⟨[A4s,A88,A67,Bdv],[]⟩ (⟨λn=>match n with
  | 10=>some (lF ⟨[(4,.v (.int .i64)),(5,.v (.int .i64))],[.keep]⟩ 2 ⟨[(4,.v (.int .i64))],[.keep]⟩ true)
  | 4=>some (lF ⟨[(3,.v (.int .i64))],[.keep]⟩ 0 ⟨[],[.keep]⟩ true)
  | _=>none,λ_=>[]⟩) Tryz.func76 (λa=>J3 a.1)
def Acz (b1:Unit):Option Int :=
 some (-1)
def Ab7 (a0:Aa) (a1:Int) (s2:Int):Option (LR (Int) (Unit) (Int)) :=
 if (decide (s2<(a0.Open.length:Int))) then((idx a0.Open s2).bind λu3=>if (decide (u3.ID=a1)) then(some (.ret s2)) else(some (.cont (wI (s2+1))))) else(some (.brk ()))
def La (a0:Aa) (a1:Int):Option Int :=
 (B7 (Ab7 a0 a1) fuel 0).bind λx=>match x with | .inl r=>some r | .inr e4=>Acz e4
noncomputable def Bbq:CT:=vK1 161 [.st 14,.int .i64] (.int .i64) ⟨[],[]⟩ (⟨λn=>match n with
  | 2=>some (lF ⟨[(5,.v (.int .i64))],[.keep]⟩ 0 ⟨[],[.keep]⟩ true)
  | _=>none,λ_=>[]⟩) Tryz.func161 (λa=>La a.1 a.2.1)
def Qf (a0:Aa) (a1:Int):Option (Aq×Bool) :=
 (La a0 a1).bind λv1=>if (decide (v1<0)) then(some (Pg,false)) else((idx a0.Open v1).bind λu2=>some (u2,true))
noncomputable def Bfu:CT:=vK2 164 [.st 14,.int .i64] (.st 13) .bool ⟨[Bbq],[]⟩ anN Tryz.func164 (λa=>Qf a.1 a.2.1)
def Ab3 (a0:Aa) (b1:(List Aq)):Option Aa :=
 some ({a0 with Open:=b1})
def Oc (a0:Aa) (a1:Int) (s2:Int×(List Aq)):Option (LB (Int×(List Aq)) ((List Aq))) :=
 if (decide (s2.1<(a0.Open.length:Int))) then((idx a0.Open s2.1).bind λu3=>if (!decide (u3.ID=a1)) then((idx a0.Open s2.1).bind λu4=>if (s2.2.length+[u4].length)*64<=140737488355328 then(some (.cont ((wI (s2.1+1)),(s2.2++[u4])))) else none) else(some (.cont ((wI (s2.1+1)),s2.2)))) else(some (.brk s2.2))
def K9 (a0:Aa) (a1:Int):Option Aa :=
 (Be (Oc a0 a1) fuel (0,([]:List Aq))).bind λe6=>Ab3 a0 e6
noncomputable def c97:CT:=vK1 97 [.st 14,.int .i64] (.st 14) ⟨[],[]⟩ (⟨λn=>match n with
  | 3=>some (lF ⟨[(5,.own 2),(6,.v (.int .i64))],[.keep,.keep,.arr 127 6 0 ((.st 13))]⟩ 0 ⟨[(5,.own 2)],[.keep,.keep,.arr 127 6 0 ((.st 13))]⟩ false)
  | _=>none,λn=>match n with
  | 3=>[.t 5 127 6 (.st 13)]
  | _=>[]⟩) Tryz.func97 (λa=>K9 a.1 a.2.1)
def Acw (b1:Unit):Option Bool :=
 some false
def Uc (a0:Int) (a1:List Int) (s2:Int):Option (LR (Int) (Unit) (Bool)) :=
 if (decide (s2<(a1.length:Int))) then((idx a1 s2).bind λu3=>if (decide (u3=a0)) then(some (.ret true)) else(some (.cont (wI (s2+1))))) else(some (.brk ()))
def Ov (a0:Int) (a1:List Int):Option Bool :=
 (B7 (Uc a0 a1) fuel 0).bind λx=>match x with | .inl r=>some r | .inr e4=>Acw e4
noncomputable def Bdx:CT:=vK1 276 [.int .i64,.sl (.int .i64)] .bool ⟨[],[]⟩ (⟨λn=>match n with
  | 2=>some (lF ⟨[(5,.v (.int .i64))],[]⟩ 0 ⟨[],[]⟩ true)
  | _=>none,λ_=>[]⟩) Tryz.func276 (λa=>Ov a.1 a.2.1)
def Aa6 (b1:(List Ac)):Option Am :=
 some (Am.mk b1)
def Se (a0:Am) (a1:List Int) (a2:Bool) (s2:Int×(List Ac)):Option (LB (Int×(List Ac)) ((List Ac))) :=
 if (decide (s2.1<(a0.L.length:Int))) then((idx a0.L s2.1).bind λu3=>(Ov u3.Tx a1).bind λv4=>if (v4==a2) then((idx a0.L s2.1).bind λu5=>if (s2.2.length+[u5].length)*64<=140737488355328 then(some (.cont ((wI (s2.1+1)),(s2.2++[u5])))) else none) else(some (.cont ((wI (s2.1+1)),s2.2)))) else(some (.brk s2.2))
def Rh (a0:Am) (a1:List Int) (a2:Bool):Option Am :=
 (Be (Se a0 a1 a2) fuel (0,([]:List Ac))).bind λe7=>Aa6 e7
noncomputable def Bej:CT:=vK1 261 [.st 8,.sl (.int .i64),.bool] (.st 8) ⟨[Bdx],[]⟩ (⟨λn=>match n with
  | 3=>some (lF ⟨[(7,.own 2),(8,.v (.int .i64))],[.keep,.keep,.arr 143 4 0 ((.st 7))]⟩ 0 ⟨[(7,.own 2)],[.keep,.keep,.arr 143 4 0 ((.st 7))]⟩ false)
  | _=>none,λn=>match n with
  | 3=>[.t 7 143 4 (.st 7)]
  | _=>[]⟩) Tryz.func261 (λa=>Rh a.1 a.2.1 a.2.2.1)
def Qg (a0:Am) (a1:List Int):Option Am :=
 (Rh a0 a1 false).bind λv1=>some v1
noncomputable def Bgf:CT:=vK1 232 [.st 8,.sl (.int .i64)] (.st 8) ⟨[Bej],[]⟩ anN Tryz.func232 (λa=>Qg a.1 a.2.1)
def Zq (b2:(List Ac)×(List Ag)):Option Af :=
 some (Af.mk b2.2 (Am.mk b2.1))
def Rf (a0:Af) (s3:Int×(List Ac)×(List Ag)) (b4:Bool×(List Ac)):Option (LB (Int×(List Ac)×(List Ag)) ((List Ac)×(List Ag))) :=
 if (!b4.1) then((idx a0.Txs s3.1).bind λu5=>if (s3.2.2.length+([u5]:List Ag).length)*64<=140737488355328 then(some (.cont ((wI (s3.1+1)),b4.2,(s3.2.2++([u5]:List Ag))))) else none) else(some (.cont ((wI (s3.1+1)),b4.2,s3.2.2)))
def Hy (a0:Af) (a1:List Int) (s3:Int×(List Ac)×(List Ag)) (s7:Bool×Int×(List Ac)):Option (LB (Bool×Int×(List Ac)) (Bool×(List Ac))) :=
 if (decide (s7.2.1<(a1.length:Int))) then(if s7.1 then(some (.cont (true,(wI (s7.2.1+1)),s7.2.2))) else((idx a1 s7.2.1).bind λu8=>(idx a0.Txs s3.1).bind λu9=>some (.cont ((decide (u8=u9.ID)),(wI (s7.2.1+1)),s7.2.2)))) else(some (.brk (s7.1,s7.2.2)))
def Hz (a0:Af) (a1:List Int) (s3:Int×(List Ac)×(List Ag)):Option (LB (Int×(List Ac)×(List Ag)) ((List Ac)×(List Ag))) :=
 if (decide (s3.1<(a0.Txs.length:Int))) then((Be (Hy a0 a1 s3) fuel (false,0,s3.2.1)).bind λe10=>Rf a0 s3 e10) else(some (.brk (s3.2.1,s3.2.2)))
def Eg (a0:Af) (a1:List Int):Option Af :=
 (Qg a0.Reads a1).bind λv1=>(Be (Hz a0 a1) fuel (0,v1.L,([]:List Ag))).bind λe11=>Zq e11
noncomputable def Bbx:CT:=vK1 176 [.st 10,.sl (.int .i64)] (.st 10) ⟨[Bgf],[]⟩ (⟨λn=>match n with
  | 3=>some (lF ⟨[(6,.v (.int .i64))],[.keep,.keep,.box [.own 3,.v (.sl (.st 7))],.arr 140 8 0 ((.st 9))]⟩ 0 ⟨[],[.keep,.keep,.box [.own 3,.v (.sl (.st 7))],.arr 140 8 0 ((.st 9))]⟩ false)
  | 7=>some (lF ⟨[(7,.v .bool),(8,.v (.int .i64))],[.keep,.keep,.box [.own 3,.v (.sl (.st 7))],.keep]⟩ 2 ⟨[(7,.v .bool)],[.keep,.keep,.box [.own 3,.v (.sl (.st 7))],.keep]⟩ false)
  | _=>none,λn=>match n with
  | 3=>[.b 2 0 140 8 (.st 9)]
  | _=>[]⟩) Tryz.func176 (λa=>Eg a.1 a.2.1)
def Uf (a0:Af) (a1:Int) (b2:Unit):Option Af :=
 (Eg a0 [a1]).bind λv3=>some v3
def Oo (a0:Af) (a1:Int):Option Af :=
 (Cu a0.Txs a1).bind λv1=>if (decide (v1<0)) then(some a0) else((idx a0.Txs v1).bind λu4=>if (!decide (u4.State=1)) then(some a0) else(Uf a0 a1 ()))
noncomputable def Bd3:CT:=vK1 165 [.st 10,.int .i64] (.st 10) ⟨[A4e,Bbx],[]⟩ anN Tryz.func165 (λa=>Oo a.1 a.2.1)
def Ij (a0:Ah) (a1:Int):Option (Al×Bool) :=
 (Gs a0 a1).bind λv1=>if (decide (v1<0)) then(some ((Al.mk 0 0 0 0),false)) else((idx a0.L v1).bind λu2=>some (u2,true))
noncomputable def A86:CT:=vK2 102 [.st 12,.int .i64] (.st 11) .bool ⟨[A8k],[]⟩ anN Tryz.func102 (λa=>Ij a.1 a.2.1)
def Ka (a0:Ah) (a1:Al):Option (Ah×Int) :=
 (Gs a0 a1.Tok).bind λv1=>if (([]:List Al).length+a0.L.length)*32<=140737488355328 then(if (decide (0<=v1)) then((idx (([]:List Al)++a0.L) v1).bind λu3=>some ((Ah.mk ((([]:List Al)++a0.L).set v1.toNat a1)),0)) else(if (decide (32<=((([]:List Al)++a0.L).length:Int))) then(some (Ay,8)) else(if ((([]:List Al)++a0.L).length+[a1].length)*32<=140737488355328 then(some ((Ah.mk ((([]:List Al)++a0.L)++[a1])),0)) else none))) else none
noncomputable def A9i:CT:=vK2 157 [.st 12,.st 11] (.st 12) (.int .i64) ⟨[A8k],[]⟩ anN Tryz.func157 (λa=>Ka a.1 a.2.1)
def N1 (a0:Ah) (a1:Int) (b4:Int):Option (Ah×Int×Int) :=
 (Ka a0 (Al.mk a1 b4 3 0)).bind λv5=>some (v5.1,0,v5.2)
def N5 (a0:Ah) (a1:Int) (a2:Int) (v2:Al×Bool) (b3:Unit):Option (Ah×Int×Int) :=
 if v2.2 then(N1 a0 a1 (if v2.1.Attempt > a2 then v2.1.Attempt else a2)) else(N1 a0 a1 a2)
def Ub (a0:Ah) (a1:Int) (a2:Int) (b1:Unit):Option (Ah×Int×Int) :=
 (Ij a0 a1).bind λv2=>if v2.2 then(if (decide (v2.1.State=2)) then(some (a0,v2.1.Ts,0)) else(N5 a0 a1 a2 v2 ())) else(N5 a0 a1 a2 v2 ())
def Lc (a0:Ah) (a1:Int) (a2:Int):Option (Ah×Int×Int) :=
 (Gi a0).bind λv6=>if (!v6) then(some (Ay,0,1)) else((Hs a1 a2).bind λv7=>if (!v7) then(some (Ay,0,1)) else(Ub a0 a1 a2 ()))
noncomputable def Bca:CT:=vK 101 [.st 12,.int .i64,.int .i64] [.st 12,.int .i64,.int .i64] (λr=>(r.1,(r.2.1,(r.2.2,())))) (λv=>(v.1,v.2.1,v.2.2.1)) ⟨[A86,A67,A7d,A9i],[]⟩ anN Tryz.func101 (λa=>Lc a.1 a.2.1 a.2.2.1)
def Fv (a0:Aa) (a1:Int):Option Aa :=
 (Qf a0 a1).bind λv1=>if (!v1.2) then(some a0) else((K9 a0 a1).bind λv2=>(Oo v2.Cert a1).bind λv3=>(Lc v2.Toks v1.1.Token v1.1.Attempt).bind λv4=>if (decide (v4.2.2=0)) then(some ({v2 with Cert:=v3,Toks:=v4.1})) else(some ({v2 with Cert:=v3})))
noncomputable def c86:CT:=vK1 86 [.st 14,.int .i64] (.st 14) ⟨[c97,Bca,Bfu,Bd3],[]⟩ anN Tryz.func86 (λa=>Fv a.1 a.2.1)
def V5 (a0:Aa) (b1:Unit):Option Aa :=
 some a0
def Oz (a0:Aa) (a1:Int) (a2:Int) (s2:Int):Option (LR (Int) (Unit) (Aa)) :=
 if (decide (s2<(a0.Open.length:Int))) then((idx a0.Open s2).bind λu3=>if (decide (u3.Token=a1)) then((idx a0.Open s2).bind λu4=>if (decide (u4.Attempt<a2)) then((idx a0.Open s2).bind λu5=>(Fv a0 u5.ID).bind λv6=>some (.ret v6)) else(some (.cont (wI (s2+1))))) else(some (.cont (wI (s2+1))))) else(some (.brk ()))
def Ga (a0:Aa) (a1:Int) (a2:Int):Option Aa :=
 (B7 (Oz a0 a1 a2) fuel 0).bind λx=>match x with | .inl r=>some r | .inr e7=>V5 a0 e7
noncomputable def c77:CT:=vK1 77 [.st 14,.int .i64,.int .i64] (.st 14) ⟨[c86],[]⟩ (⟨λn=>match n with
  | 2=>some (lF ⟨[(7,.v (.int .i64))],[.keep,.keep]⟩ 0 ⟨[],[.keep,.keep]⟩ true)
  | _=>none,λ_=>[]⟩) Tryz.func77 (λa=>Ga a.1 a.2.1 a.2.2.1)
def Pp (a0:Ah) (a1:Int) (a2:Int) (b4:Unit):Option (Ah×Int) :=
 (Ka a0 (Al.mk a1 a2 1 0)).bind λv5=>some (v5.1,v5.2)
def Po (a0:Ah) (a1:Int) (a2:Int) (v2:Al×Bool) (b3:Unit):Option (Ah×Int) :=
 if v2.2 then(if (decide (a2<=v2.1.Attempt)) then(some (Ay,14)) else(Pp a0 a1 a2 ())) else(Pp a0 a1 a2 ())
def Vj (a0:Ah) (a1:Int) (a2:Int) (b1:Unit):Option (Ah×Int) :=
 (Ij a0 a1).bind λv2=>if v2.2 then(if (decide (v2.1.State=2)) then(some (Ay,7)) else(Po a0 a1 a2 v2 ())) else(Po a0 a1 a2 v2 ())
def Nk (a0:Ah) (a1:Int) (a2:Int):Option (Ah×Int) :=
 (Gi a0).bind λv6=>if (!v6) then(some (Ay,1)) else((Hs a1 a2).bind λv7=>if (!v7) then(some (Ay,1)) else(Vj a0 a1 a2 ()))
noncomputable def c78:CT:=vK2 78 [.st 12,.int .i64,.int .i64] (.st 12) (.int .i64) ⟨[A86,A67,A7d,A9i],[]⟩ anN Tryz.func78 (λa=>Nk a.1 a.2.1 a.2.2.1)
def Ef (a0:Af):Option ((List Ac)×(List Ag)) :=
 if (([]:List Ag).length+a0.Txs.length)*64<=140737488355328 then(some (a0.Reads.L,(([]:List Ag)++a0.Txs))) else none
theorem Abe {a0:Af} {r:(List Ac)×(List Ag)} (h:Ef a0=some r):Dk Qx0 160 [] [.agg (EL.el a0)] (λy m'=>y=.s (.agg [.ls 0 r.2.length,SL r.1 Av])/\m'=[.arr 140 8 0 (r.2.flatMap A2)]):=by
 refine Bw Tryz.func160 R (nt:=10) R (Nbl R) ?_
 intro w0 S0 X0 H0
 refine crs R (Fs (Ald ?_))
 obtain⟨hb1,h⟩:=Ht h
 refine Ui [0,3,7] [0,0,2,7,0,16,63,127] [[BE a0,.box [Znl,Znl],.hole],[BE a0,.box [Znl,Znl],.arr 140 8 0 (([]:List Ag).flatMap A2)],[BE a0,.box [Znl,Znl],.arr 140 8 0 ((([]:List Ag)++a0.Txs).flatMap A2)],[BE a0,.box ((EL.el a0).set 0 (.ls 2 (([]:List Ag)++a0.Txs).length)),.arr 140 8 0 ((([]:List Ag)++a0.Txs).flatMap A2)]] (by kernel_rfl) mixed (by kernel_rfl) (by decide) R R R R ?_
 refine ee (x:=L7 (.ls 2 ([]:List Ag).length)) 0 R R R R R (λζ=>?_) ?_
 ·refine Aqx 2 R Tryz.underlying44 A49 R R (Agw [BE a0,.box [Znl,Znl],.arr 140 8 0 (([]:List Ag).flatMap A2)] R ?_)
  exact Aij
 refine evA R R (all_cons (Aw Aqi R) (all_cons (Aw Aqi R) (all_cons (Aw Aqi R) (all_cons (Aw Aqi R) Ajt)))) (evA R R (all_cons (l1 A8h R R R) (all_cons (l1 A8h R R R) (all_cons (l1 A8h R R R) (all_cons (l1 A8h R R R) Ajt)))) (ee (x:=L7 (.ls 2 (([]:List Ag)++a0.Txs).length)) 1 R R R R R (λζ=>?_) ?_))
 ·refine Azg (f:=A2) (xs:=([]:List Ag)) (us:=a0.Txs) R Tryz.underlying44 A49 Bei fR R R (.one _ _ _ _ (.id _ R)) R R R (.sl _ _ _ (A4 (f:=A2) fR _)) R R hb1 (by decide) ?_
  exact Aij
 refine evA R R (all_cons (Aw Aov R) (all_cons (Aw Aov R) (all_cons (Aw Aov R) (all_cons (Aw Aov R) Ajt)))) (evA R R (all_cons (lo A8x R R R) (all_cons (lo A8x R R R) (all_cons (lo A8x R R R) (all_cons (lo A8x R R R) Ajt)))) (ev (A6 2 R R) R R (Vy Bde Bf9 (Ed R (Ed R Li)) (.cons _ _ _ _ _ _ _ R R (Nbl R) (.cons _ _ _ _ _ _ _ R R (Nbl R) (.nil _)))) (ee0 2 R R R R (λζ=>?_) ?_)))
 ·refine rx 1 R (Agw [BE a0,.box ((EL.el a0).set 0 (.ls 2 (([]:List Ag)++a0.Txs).length)),.arr 140 8 0 ((([]:List Ag)++a0.Txs).flatMap A2)] R ?_)
  exact Aij
 refine Ax7 (A1 (Pj ?_))
 cases SJ h
 exact⟨Or.inr R,_,[2],[.agg ((EL.el a0).set 0 (.ls 0 (([]:List Ag)++a0.Txs).length))],[.arr 140 8 0 ((([]:List Ag)++a0.Txs).flatMap A2)],(A3 (ra Bfm R R R) Bj),R,R,⟨by decide,R⟩,R,R,⟨R,R⟩⟩
noncomputable def Nz:Aei TTs Qx0:=⟨160,[.st 10],140,.st 9,(List Ac)×(List Ag),λa=>Ef a.1,λr=>r.2,some ⟨10,0,λr=>Af.mk r.2 (Am.mk r.1)⟩,λ_ _ h=>Abe h⟩
def U5 (a0:Af) (a1:Int) (a2:Int) (a3:Bool) (b1:Unit):Option (Af×Int) :=
 (Cu a0.Txs a1).bind λv2=>if (decide (0<=v2)) then(some (Bn,7)) else(if (decide (64<=(a0.Txs.length:Int))) then(some (Bn,8)) else((Ef a0).bind λv3=>if (v3.2.length+[(Ag.mk a1 a2 0 1 false false a3 ([]:List (List UInt8)))].length)*64<=140737488355328 then(some ((Af.mk (v3.2++[(Ag.mk a1 a2 0 1 false false a3 ([]:List (List UInt8)))]) (Am.mk v3.1)),0)) else none))
def M6 (a0:Af) (a1:Int) (a2:Int) (a3:Bool):Option (Af×Int) :=
 (H7 a0).bind λv5=>if (!v5) then(some (Bn,1)) else((O8 (Ag.mk a1 a2 0 1 false false a3 ([]:List (List UInt8)))).bind λv6=>if (!v6) then(some (Bn,1)) else(U5 a0 a1 a2 a3 ()))
noncomputable def c79:CT:=vK2 79 [.st 10,.int .i64,.int .i64,.bool] (.st 10) (.int .i64) ⟨[A88,Bbv,A4e],[(37,Nz)]⟩ anN Tryz.func79 (λa=>M6 a.1 a.2.1 a.2.2.1 a.2.2.2.1)
def Ql (a0:Aa) (a1:Int) (a2:Int) (a3:Bool):Option (Aa×Int×Int) :=
 (J3 a0).bind λv1=>if (!v1) then(some (Bh,0,1)) else((Ga a0 a1 a2).bind λv2=>if (decide (1099511627776<=v2.Next)) then(some (v2,0,11)) else(if (decide (16<=(v2.Open.length:Int))) then(some (v2,0,8)) else((Nk v2.Toks a1 a2).bind λv3=>if (!decide (v3.2=0)) then(some (v2,0,v3.2)) else((M6 v2.Cert v2.Next v2.Store.Ts a3).bind λv4=>if (!decide (v4.2=0)) then(some (v2,0,v4.2)) else(if (([]:List Aq).length+v2.Open.length)*64<=140737488355328 then(if ((([]:List Aq)++v2.Open).length+[(Aq.mk v2.Next a1 a2 v2.Store.Ts a3 (Au.mk ([]:List Ae)))].length)*64<=140737488355328 then(some ((Aa.mk v2.Store v4.1 v3.1 ((([]:List Aq)++v2.Open)++[(Aq.mk v2.Next a1 a2 v2.Store.Ts a3 (Au.mk ([]:List Ae)))]) (wI (v2.Next+1))),v2.Next,0)) else none) else none)))))
noncomputable def c33:CT:=vK 33 [.st 14,.int .i64,.int .i64,.bool] [.st 14,.int .i64,.int .i64] (λr=>(r.1,(r.2.1,(r.2.2,())))) (λv=>(v.1,v.2.1,v.2.2.1)) ⟨[c76,c77,c78,c79],[]⟩ anN Tryz.func33 (λa=>Ql a.1 a.2.1 a.2.2.1 a.2.2.2.1)
def En (a0:Aa) (a1:Int):Option (Int×Int) :=
 (J3 a0).bind λv1=>if (!v1) then(some (0,1)) else((La a0 a1).bind λv2=>if (decide (v2<0)) then(some (0,7)) else(some (v2,0)))
noncomputable def c80:CT:=vK2 80 [.st 14,.int .i64] (.int .i64) (.int .i64) ⟨[c76,Bbq],[]⟩ anN Tryz.func80 (λa=>En a.1 a.2.1)
def E0 (a0:Aa) (a1:Int):Option Aa :=
 if (decide (a1=1)) then(some Bh) else(some a0)
noncomputable def c81:CT:=vK1 81 [.st 14,.int .i64] (.st 14) ⟨[],[]⟩ anN Tryz.func81 (λa=>E0 a.1 a.2.1)
def Ag2 (b1:Unit):Option (Ae×Bool) :=
 some (Ah2,false)
def Td (a0:Au) (a1:List UInt8) (s2:Int):Option (LR (Int) (Unit) (Ae×Bool)) :=
 if (decide (s2<(a0.L.length:Int))) then((idx a0.L s2).bind λu3=>if (u3.Key==a1) then((idx a0.L s2).bind λu4=>some (.ret (u4,true))) else(some (.cont (wI (s2+1))))) else(some (.brk ()))
def Ul (a0:Au) (a1:List UInt8):Option (Ae×Bool) :=
 (B7 (Td a0 a1) fuel 0).bind λx=>match x with | .inl r=>some r | .inr e5=>Ag2 e5
noncomputable def c83:CT:=vK2 83 [.st 1,.sl .u8] (.st 0) .bool ⟨[],[]⟩ (⟨λn=>match n with
  | 2=>some (lF ⟨[(6,.v (.int .i64))],[.keep,.keep]⟩ 0 ⟨[],[.keep,.keep]⟩ true)
  | _=>none,λ_=>[]⟩) Tryz.func83 (λa=>Ul a.1 a.2.1)
def Ux (a0:List UInt8):Option Aj :=
 if (([]:List UInt8).length+a0.length)*1<=140737488355328 then(if ((([]:List UInt8)++a0).length+[(UInt8.ofBitVec (0#8))].length)*1<=140737488355328 then(some (Aj.mk a0 ((([]:List UInt8)++a0)++[(UInt8.ofBitVec (0#8))]) false)) else none) else none
noncomputable def c85:CT:=vK1 85 [.sl .u8] (.st 3) ⟨[],[]⟩ anN Tryz.func85 (λa=>Ux a.1)
def Rq (a0:Am) (a1:Int) (a2:Aj) (b2:Unit):Option (Am×Int) :=
 if (decide (128<=(a0.L.length:Int))) then(some ((Am.mk ([]:List Ac)),8)) else(if (([]:List Ac).length+a0.L.length)*64<=140737488355328 then(if ((([]:List Ac)++a0.L).length+[(Ac.mk a1 a2)].length)*64<=140737488355328 then(some ((Am.mk ((([]:List Ac)++a0.L)++[(Ac.mk a1 a2)])),0)) else none) else none)
def Xb (a0:Am) (a1:Int) (a2:Aj) (s5:Int):Option (LR (Int) (Unit) (Am×Int)) :=
 if (decide (s5<(a0.L.length:Int))) then((idx a0.L s5).bind λu6=>(Eo u6 (Ac.mk a1 a2)).bind λv7=>if v7 then(some (.ret (a0,0))) else(some (.cont (wI (s5+1))))) else(some (.brk ()))
def Wj (a0:Am) (a1:Int) (a2:Aj) (b1:Unit):Option (Am×Int) :=
 (B7 (Xb a0 a1 a2) fuel 0).bind λx=>match x with | .inl r=>some r | .inr e8=>Rq a0 a1 a2 e8
def Sc (a0:Am) (a1:Int) (a2:Aj):Option (Am×Int) :=
 (Mi a0).bind λv9=>if (!v9) then(some ((Am.mk ([]:List Ac)),1)) else((O4 (Ac.mk a1 a2)).bind λv10=>if (!v10) then(some ((Am.mk ([]:List Ac)),1)) else(Wj a0 a1 a2 ()))
noncomputable def Bd7:CT:=vK2 162 [.st 8,.int .i64,.st 3] (.st 8) (.int .i64) ⟨[Ba2,Bb2,Bbt],[]⟩ (⟨λn=>match n with
  | 5=>some (lF ⟨[(9,.v (.int .i64))],[.keep,.keep,.keep,.keep]⟩ 0 ⟨[],[.keep,.keep,.keep,.keep]⟩ true)
  | _=>none,λ_=>[]⟩) Tryz.func162 (λa=>Sc a.1 a.2.1 a.2.2.1)
def J6 (a0:Aj) (a1:List UInt8):Option Bool :=
 (Ck a1 a0.Lo).bind λv1=>if (decide (0<=v1)) then(if a0.Open then(some true) else((Ck a1 a0.Hi).bind λv2=>some (decide (v2<0)))) else(some false)
noncomputable def A89:CT:=vK1 118 [.st 3,.sl .u8] .bool ⟨[Azt],[]⟩ anN Tryz.func118 (λa=>J6 a.1 a.2.1)
def Ho (a0:Ag) (a1:Ag):Option Bool :=
 if (decide (a0.State=2)) then(some (decide (a1.Begin<a0.End))) else(some false)
noncomputable def A91:CT:=vK1 163 [.st 9,.st 9] .bool ⟨[],[]⟩ anN Tryz.func163 (λa=>Ho a.1 a.2.1)
def Agt (b6:(List Ag)×(List Ac)):Option (Af×Int) :=
 some ((Af.mk b6.1 (Am.mk b6.2)),0)
def W4 (v2:Int) (s7:Int×(List Ag)×(List Ac)) (b9:(List Ac)):Option (LR (Int×(List Ag)×(List Ac)) ((List Ag)×(List Ac)) (Af×Int)) :=
 (idx s7.2.1 v2).bind λu10=>(idx (s7.2.1.set v2.toNat ({u10 with Out:=true})) s7.1).bind λu11=>(idx ((s7.2.1.set v2.toNat ({u10 with Out:=true})).set s7.1.toNat ({u11 with In:=true})) s7.1).bind λu12=>if u12.Out then(some (.ret (Bn,10))) else(some (.cont ((wI (s7.1+1)),((s7.2.1.set v2.toNat ({u10 with Out:=true})).set s7.1.toNat ({u11 with In:=true})),b9)))
def Ws (v2:Int) (s7:Int×(List Ag)×(List Ac)) (b8:Bool×(List Ac)):Option (LR (Int×(List Ag)×(List Ac)) ((List Ag)×(List Ac)) (Af×Int)) :=
 if (!b8.1) then(some (.cont ((wI (s7.1+1)),s7.2.1,b8.2))) else((idx s7.2.1 s7.1).bind λu13=>(idx s7.2.1 v2).bind λu14=>(Ho u13 u14).bind λv15=>if (!v15) then(some (.cont ((wI (s7.1+1)),s7.2.1,b8.2))) else(W4 v2 s7 b8.2))
def Lx (a2:Aj) (s7:Int×(List Ag)×(List Ac)) (s16:Bool×Int×(List Ac)):Option (LB (Bool×Int×(List Ac)) (Bool×(List Ac))) :=
 (idx s7.2.1 s7.1).bind λu17=>if (decide (s16.2.1<(u17.Keys.length:Int))) then(if s16.1 then(some (.cont (true,(wI (s16.2.1+1)),s16.2.2))) else((idx s7.2.1 s7.1).bind λu18=>(idx u18.Keys s16.2.1).bind λu19=>(J6 a2 u19).bind λv20=>some (.cont (v20,(wI (s16.2.1+1)),s16.2.2)))) else(some (.brk (s16.1,s16.2.2)))
def Mw (a2:Aj) (v2:Int) (s7:Int×(List Ag)×(List Ac)):Option (LR (Int×(List Ag)×(List Ac)) ((List Ag)×(List Ac)) (Af×Int)) :=
 if (decide (s7.1<(s7.2.1.length:Int))) then((Be (Lx a2 s7) fuel (false,0,s7.2.2)).bind λe21=>Ws v2 s7 e21) else(some (.brk (s7.2.1,s7.2.2)))
def We (a0:Af) (a1:Int) (a2:Aj) (v2:Int) (b3:Unit):Option (Af×Int) :=
 (Sc a0.Reads a1 a2).bind λv4=>if (!decide (v4.2=0)) then(some (Bn,v4.2)) else((Ef a0).bind λv5=>(B7 (Mw a2 v2) fuel (0,v5.2,v4.1.L)).bind λx=>match x with | .inl r=>some r | .inr e22=>Agt e22)
def Ph (a0:Af) (a1:Int) (a2:Aj):Option (Af×Int) :=
 (H7 a0).bind λv1=>if (!v1) then(some (Bn,1)) else((Cu a0.Txs a1).bind λv2=>if (decide (v2<0)) then(some (Bn,7)) else((idx a0.Txs v2).bind λu23=>if (!decide (u23.State=1)) then(some (Bn,7)) else(We a0 a1 a2 v2 ())))
noncomputable def c84:CT:=vK2 84 [.st 10,.int .i64,.st 3] (.st 10) (.int .i64) ⟨[A89,A88,A4e,Bd7,A91],[(48,Nz)]⟩ (⟨λn=>match n with
  | 12=>some (lF ⟨[(12,.v (.int .i64))],[.keep,.keep,.keep,.keep,.arr 140 8 0 ((.st 9)),.box [.own 4,.v (.sl (.st 7))]]⟩ 0 ⟨[],[.keep,.keep,.keep,.keep,.arr 140 8 0 ((.st 9)),.box [.own 4,.v (.sl (.st 7))]]⟩ true)
  | 16=>some (lF ⟨[(13,.v .bool),(14,.v (.int .i64))],[.keep,.keep,.keep,.keep,.keep,.box [.own 4,.v (.sl (.st 7))]]⟩ 2 ⟨[(13,.v .bool)],[.keep,.keep,.keep,.keep,.keep,.box [.own 4,.v (.sl (.st 7))]]⟩ false)
  | _=>none,λ_=>[]⟩) Tryz.func84 (λa=>Ph a.1 a.2.1 a.2.2.1)
def Adt (a0:List (List UInt8)) (b1:Unit):Option (Int×Bool) :=
 some ((a0.length:Int),false)
def Vn (a0:List (List UInt8)) (a1:List UInt8) (s2:Int):Option (LR (Int) (Unit) (Int×Bool)) :=
 if (decide (s2<(a0.length:Int))) then((idx a0 s2).bind λu3=>(Ck u3 a1).bind λv4=>if (decide (0<=v4)) then((idx a0 s2).bind λu5=>(Ck u5 a1).bind λv6=>some (.ret (s2,(decide (v6=0))))) else(some (.cont (wI (s2+1))))) else(some (.brk ()))
def M1 (a0:List (List UInt8)) (a1:List UInt8):Option (Int×Bool) :=
 (B7 (Vn a0 a1) fuel 0).bind λx=>match x with | .inl r=>some r | .inr e7=>Adt a0 e7
noncomputable def Bbp:CT:=vK2 229 [.sl (.sl .u8),.sl .u8] (.int .i64) .bool ⟨[Azt],[]⟩ (⟨λn=>match n with
  | 2=>some (lF ⟨[(6,.v (.int .i64))],[]⟩ 0 ⟨[],[]⟩ true)
  | _=>none,λ_=>[]⟩) Tryz.func229 (λa=>M1 a.1 a.2.1)
def Acm (a0:Ao) (v1:Int×Bool) (b2:Unit):Option Ab :=
 (idx a0.Chains v1.1).bind λu3=>some u3
def Ey (a0:Ao) (a1:List UInt8):Option Ab :=
 (M1 a0.Keys a1).bind λv1=>if (!v1.2) then(some (Ab.mk ([]:List Ai))) else((Gj a0).bind λv4=>if (!v4) then(some (Ab.mk ([]:List Ai))) else(Acm a0 v1 ()))
noncomputable def Bb4:CT:=vK1 167 [.st 6,.sl .u8] (.st 5) ⟨[A4s,Bbp],[]⟩ anN Tryz.func167 (λa=>Ey a.1 a.2.1)
def Ab8 (b1:Int):Option Int :=
 some b1
def N3 (a0:Ab) (a1:Int) (s2:Int×Int):Option (LB (Int×Int) (Int)) :=
 if (decide (s2.2<(a0.L.length:Int))) then((idx a0.L s2.2).bind λu3=>if (decide (u3.Ts<=a1)) then(some (.cont (s2.2,(wI (s2.2+1))))) else(some (.cont (s2.1,(wI (s2.2+1)))))) else(some (.brk s2.1))
def Lg (a0:Ab) (a1:Int):Option Int :=
 (Be (N3 a0 a1) fuel ((-1),0)).bind λe4=>Ab8 e4
noncomputable def Bcs:CT:=vK1 233 [.st 5,.int .i64] (.int .i64) ⟨[],[]⟩ (⟨λn=>match n with
  | 3=>some (lF ⟨[(5,.v (.int .i64)),(6,.v (.int .i64))],[.keep]⟩ 0 ⟨[(5,.v (.int .i64))],[.keep]⟩ false)
  | _=>none,λ_=>[]⟩) Tryz.func233 (λa=>Lg a.1 a.2.1)
def Z1 (a0:Ab) (a1:Int):Option (Ai×Bool) :=
 (Lg a0 a1).bind λv1=>if (decide (v1<0)) then(some ((Ai.mk 0 ([]:List UInt8) false),false)) else((idx a0.L v1).bind λu2=>some (u2,true))
noncomputable def Bdi:CT:=vK2 228 [.st 5,.int .i64] (.st 4) .bool ⟨[Bcs],[]⟩ anN Tryz.func228 (λa=>Z1 a.1 a.2.1)
def Acs (v1:Ai×Bool) (b2:Unit):Option ((List UInt8)×Bool) :=
 some (v1.1.Val,true)
def Gn (a0:Ab) (a1:Int):Option ((List UInt8)×Bool) :=
 (Z1 a0 a1).bind λv1=>if (!v1.2) then(some (([]:List UInt8),false)) else(if v1.1.Del then(some (([]:List UInt8),false)) else(Acs v1 ()))
noncomputable def Bb5:CT:=vK2 166 [.st 5,.int .i64] (.sl .u8) .bool ⟨[Bdi],[]⟩ anN Tryz.func166 (λa=>Gn a.1 a.2.1)
def Uq (a0:Ao) (a1:List UInt8) (a2:Int):Option ((List UInt8)×Bool) :=
 (Ey a0 a1).bind λv1=>(Gn v1 a2).bind λv2=>some (v2.1,v2.2)
noncomputable def c87:CT:=vK2 87 [.st 6,.sl .u8,.int .i64] (.sl .u8) .bool ⟨[Bb5,Bb4],[]⟩ anN Tryz.func87 (λa=>Uq a.1 a.2.1 a.2.2.1)
def Um (a0:Aa) (a1:Int) (a2:List UInt8):Option (Aa×(List UInt8)×Bool×Int) :=
 (En a0 a1).bind λv1=>if (!decide (v1.2=0)) then((E0 a0 v1.2).bind λv2=>some (v2,([]:List UInt8),false,v1.2)) else((D6 a2).bind λv3=>if (!v3) then(some (a0,([]:List UInt8),false,1)) else((idx a0.Open v1.1).bind λu4=>(Ul u4.Buf a2).bind λv5=>if v5.2 then(some (a0,v5.1.Val,(!v5.1.Del),0)) else((Ux a2).bind λv6=>(Ph a0.Cert a1 v6).bind λv7=>if (!decide (v7.2=0)) then((Fv a0 a1).bind λv8=>some (v8,([]:List UInt8),false,v7.2)) else((idx a0.Open v1.1).bind λu9=>(Uq a0.Store a2 u9.Snap).bind λv10=>some ({a0 with Cert:=v7.1},v10.1,v10.2,0)))))
noncomputable def c34:CT:=vK 34 [.st 14,.int .i64,.sl .u8] [.st 14,.sl .u8,.bool,.int .i64] (λr=>(r.1,(r.2.1,(r.2.2.1,(r.2.2.2,()))))) (λv=>(v.1,v.2.1,v.2.2.1,v.2.2.2.1)) ⟨[c80,c81,c82,c83,c84,c85,c86,c87],[]⟩ anN Tryz.func34 (λa=>Um a.1 a.2.1 a.2.2.1)
def Aez (b1:(List As)):Option (List As) :=
 some b1
def V7 (a0:Ao) (a1:Aj) (a2:Int) (a3:Int) (s2:Int×(List As)) (b3:Unit):Option (LB (Int×(List As)) ((List As))) :=
 (idx a0.Chains s2.1).bind λu4=>(Gn u4 a2).bind λv5=>if v5.2 then((idx a0.Keys s2.1).bind λu6=>(J6 a1 u6).bind λv7=>if v7 then(if (decide ((s2.2.length:Int)<a3)) then((idx a0.Keys s2.1).bind λu8=>if (s2.2.length+[(As.mk u8 v5.1)].length)*48<=140737488355328 then(some (.cont ((wI (s2.1+1)),(s2.2++[(As.mk u8 v5.1)])))) else none) else(some (.cont ((wI (s2.1+1)),s2.2)))) else(some (.cont ((wI (s2.1+1)),s2.2)))) else(some (.cont ((wI (s2.1+1)),s2.2)))
def Mp (a0:Ao) (a1:Aj) (a2:Int) (a3:Int) (s2:Int×(List As)):Option (LB (Int×(List As)) ((List As))) :=
 if (decide (s2.1<(a0.Keys.length:Int))) then((Gj a0).bind λv10=>if v10 then(V7 a0 a1 a2 a3 s2 ()) else(some (.brk s2.2))) else(some (.brk s2.2))
def O3 (a0:Ao) (a1:Aj) (a2:Int) (a3:Int):Option (List As) :=
 (Be (Mp a0 a1 a2 a3) fuel (0,([]:List As))).bind λe11=>Aez e11
noncomputable def c90:CT:=vK1 90 [.st 6,.st 3,.int .i64,.int .i64] (.sl (.st 2)) ⟨[A89,A4s,Bb5],[]⟩ (⟨λn=>match n with
  | 3=>some (lF ⟨[(9,.own 2),(10,.v (.int .i64))],[.keep,.keep,.arr 157 2 0 ((.st 2))]⟩ 0 ⟨[(9,.own 2)],[.keep,.keep,.arr 157 2 0 ((.st 2))]⟩ false)
  | _=>none,λn=>match n with
  | 3=>[.t 9 157 2 (.st 2)]
  | _=>[]⟩) Tryz.func90 (λa=>O3 a.1 a.2.1 a.2.2.1 a.2.2.2.1)
def Aaq (b1:Unit):Option Bool :=
 some true
def Nb (a0:List As) (s2:Int):Option (LR (Int) (Unit) (Bool)) :=
 if (decide (s2<(a0.length:Int))) then((idx a0 (wI (s2-1))).bind λu3=>(idx a0 s2).bind λu4=>(Ck u3.Key u4.Key).bind λv5=>if (decide (0<=v5)) then(some (.ret false)) else(some (.cont (wI (s2+1))))) else(some (.brk ()))
def Nj (a0:List As):Option Bool :=
 (B7 (Nb a0) fuel 1).bind λx=>match x with | .inl r=>some r | .inr e6=>Aaq e6
noncomputable def Bgc:CT:=vK1 170 [.sl (.st 2)] .bool ⟨[Azt],[]⟩ (⟨λn=>match n with
  | 2=>some (lF ⟨[(3,.v (.int .i64))],[]⟩ 0 ⟨[],[]⟩ true)
  | _=>none,λ_=>[]⟩) Tryz.func170 (λa=>Nj a.1)
def Afk (b2:(List As)):Option (List As) :=
 some b2
def M5 (a2:Aj) (s3:Int×Int×(List As)) (b6:Bool×(List UInt8)×(List UInt8)) (b7:Int) (b8:Int):Option (LB (Int×Int×(List As)) ((List As))) :=
 if (!b6.1) then((J6 a2 b6.2.1).bind λv9=>if v9 then(if (s3.2.2.length+[(As.mk b6.2.1 b6.2.2)].length)*48<=140737488355328 then(some (.cont (b7,b8,(s3.2.2++[(As.mk b6.2.1 b6.2.2)])))) else none) else(some (.cont (b7,b8,s3.2.2)))) else(some (.cont (b7,b8,s3.2.2)))
def J1 (a2:Aj) (s3:Int×Int×(List As)) (b5:Int) (b6:Bool×(List UInt8)×(List UInt8)) (b7:Int):Option (LB (Int×Int×(List As)) ((List As))) :=
 if (decide (0<=b5)) then(M5 a2 s3 b6 b7 (wI (s3.2.1+1))) else(M5 a2 s3 b6 b7 s3.2.1)
def J4 (a2:Aj) (s3:Int×Int×(List As)) (b5:Int) (b6:Bool×(List UInt8)×(List UInt8)):Option (LB (Int×Int×(List As)) ((List As))) :=
 if (decide (b5<=0)) then(J1 a2 s3 b5 b6 (wI (s3.1+1))) else(J1 a2 s3 b5 b6 s3.1)
def Ha (a0:Au) (a1:List As) (a2:Aj) (s3:Int×Int×(List As)) (b5:Int):Option (LB (Int×Int×(List As)) ((List As))) :=
 if (decide (b5<0)) then((idx a1 s3.1).bind λu11=>J4 a2 s3 b5 (false,u11.Key,u11.Val)) else((idx a0.L s3.2.1).bind λu12=>(idx a0.L s3.2.1).bind λu13=>(idx a0.L s3.2.1).bind λu14=>J4 a2 s3 b5 (u14.Del,u12.Key,u13.Val))
def Jz (a0:Au) (a1:List As) (a2:Aj) (s3:Int×Int×(List As)) (b4:Unit):Option (LB (Int×Int×(List As)) ((List As))) :=
 if (decide ((a1.length:Int)<=s3.1)) then(Ha a0 a1 a2 s3 1) else(if (decide (s3.2.1<(a0.L.length:Int))) then((idx a1 s3.1).bind λu15=>(idx a0.L s3.2.1).bind λu16=>(Ck u15.Key u16.Key).bind λv17=>Ha a0 a1 a2 s3 v17) else(Ha a0 a1 a2 s3 (-1)))
def Ro (a0:Au) (a1:List As) (a2:Aj) (a3:Int) (s3:Int×Int×(List As)):Option (LB (Int×Int×(List As)) ((List As))) :=
 if (decide (s3.1<(a1.length:Int))) then(if (decide ((s3.2.2.length:Int)<a3)) then(Jz a0 a1 a2 s3 ()) else(some (.brk s3.2.2))) else(if (decide (s3.2.1<(a0.L.length:Int))) then(if (decide ((s3.2.2.length:Int)<a3)) then(Jz a0 a1 a2 s3 ()) else(some (.brk s3.2.2))) else(some (.brk s3.2.2)))
def Xm (a0:Au) (a1:List As) (a2:Aj) (a3:Int) (b1:Unit):Option (List As) :=
 (Be (Ro a0 a1 a2 a3) fuel (0,0,([]:List As))).bind λe18=>Afk e18
def Rz (a0:Au) (a1:List As) (a2:Aj) (a3:Int):Option (List As) :=
 (Kr a0).bind λv19=>if (!v19) then(some ([]:List As)) else((Nj a1).bind λv20=>if (!v20) then(some ([]:List As)) else(Xm a0 a1 a2 a3 ()))
noncomputable def c91:CT:=vK1 91 [.st 1,.sl (.st 2),.st 3,.int .i64] (.sl (.st 2)) ⟨[A89,Azt,A99,Bgc],[]⟩ (⟨λn=>match n with
  | 6=>some (lF ⟨[(9,.own 2),(10,.v (.int .i64)),(11,.v (.int .i64))],[.keep,.keep,.arr 157 2 0 ((.st 2))]⟩ 0 ⟨[(9,.own 2)],[.keep,.keep,.arr 157 2 0 ((.st 2))]⟩ false)
  | _=>none,λn=>match n with
  | 6=>[.t 9 157 2 (.st 2)]
  | _=>[]⟩) Tryz.func91 (λa=>Rz a.1 a.2.1 a.2.2.1 a.2.2.2.1)
def Wz (a0:Aa) (a1:Int) (a2:Aj) (a3:Int) (v1:Int×Int) (b3:Unit):Option (Aa×(List As)×Int) :=
 (Ph a0.Cert a1 a2).bind λv4=>if (!decide (v4.2=0)) then((Fv a0 a1).bind λv5=>some (v5,([]:List As),v4.2)) else((idx a0.Open v1.1).bind λu6=>(O3 a0.Store a2 u6.Snap 1000).bind λv7=>(idx a0.Open v1.1).bind λu8=>(Rz u8.Buf v7 a2 a3).bind λv9=>some ({a0 with Cert:=v4.1},v9,0))
def Sw (a0:Aa) (a1:Int) (a2:Aj) (a3:Int):Option (Aa×(List As)×Int) :=
 (En a0 a1).bind λv1=>if (!decide (v1.2=0)) then((E0 a0 v1.2).bind λv2=>some (v2,([]:List As),v1.2)) else((Hr a2).bind λv10=>if (!v10) then(some (a0,([]:List As),1)) else((Nf a2).bind λv11=>if v11 then(some (a0,([]:List As),1)) else(Wz a0 a1 a2 a3 v1 ())))
noncomputable def c35:CT:=vK 35 [.st 14,.int .i64,.st 3,.int .i64] [.st 14,.sl (.st 2),.int .i64] (λr=>(r.1,(r.2.1,(r.2.2,())))) (λv=>(v.1,v.2.1,v.2.2.1)) ⟨[c80,c81,c84,c86,c88,c89,c90,c91],[]⟩ anN Tryz.func35 (λa=>Sw a.1 a.2.1 a.2.2.1 a.2.2.2.1)
def S6 (b3:(List Ae)):Option (Au×Int) :=
 if (decide (16<(b3.length:Int))) then(some ((Au.mk ([]:List Ae)),8)) else(some ((Au.mk b3),0))
def Zk (a1:Ae) (b2:Bool×(List Ae)):Option (Au×Int) :=
 if (!b2.1) then(if (b2.2.length+[a1].length)*56<=140737488355328 then(S6 (b2.2++[a1])) else none) else(S6 b2.2)
def Om (a0:Au) (s5:Bool×Int×(List Ae)) (v7:Int) (b8:Bool×(List Ae)):Option (LB (Bool×Int×(List Ae)) (Bool×(List Ae))) :=
 if (!decide (v7=0)) then((idx a0.L s5.2.1).bind λu9=>if (b8.2.length+[u9].length)*56<=140737488355328 then(some (.cont (b8.1,(wI (s5.2.1+1)),(b8.2++[u9])))) else none) else(some (.cont (b8.1,(wI (s5.2.1+1)),b8.2)))
def Ta (a0:Au) (a1:Ae) (s5:Bool×Int×(List Ae)):Option (LB (Bool×Int×(List Ae)) (Bool×(List Ae))) :=
 if (decide (s5.2.1<(a0.L.length:Int))) then((idx a0.L s5.2.1).bind λu6=>(Ck u6.Key a1.Key).bind λv7=>if (decide (0<=v7)) then(if (!s5.1) then(if (s5.2.2.length+[a1].length)*56<=140737488355328 then(Om a0 s5 v7 (true,(s5.2.2++[a1]))) else none) else(Om a0 s5 v7 (s5.1,s5.2.2))) else(Om a0 s5 v7 (s5.1,s5.2.2))) else(some (.brk (s5.1,s5.2.2)))
def Zg (a0:Au) (a1:Ae) (b1:Unit):Option (Au×Int) :=
 (Be (Ta a0 a1) fuel (false,0,([]:List Ae))).bind λe12=>Zk a1 e12
def Uj (a0:Au) (a1:Ae):Option (Au×Int) :=
 (Kr a0).bind λv13=>if (!v13) then(some ((Au.mk ([]:List Ae)),1)) else((D5 [a1]).bind λv14=>if (!v14) then(some ((Au.mk ([]:List Ae)),1)) else(Zg a0 a1 ()))
noncomputable def c92:CT:=vK2 92 [.st 1,.st 0] (.st 1) (.int .i64) ⟨[Azt,A99,Bar],[]⟩ (⟨λn=>match n with
  | 6=>some (lF ⟨[(6,.own 4),(7,.v .bool),(8,.v (.int .i64))],[.keep,.keep,.keep,.keep,.arr 99 3 0 ((.st 0))]⟩ 0 ⟨[(6,.own 4),(7,.v .bool)],[.keep,.keep,.keep,.keep,.arr 99 3 0 ((.st 0))]⟩ false)
  | _=>none,λn=>match n with
  | 6=>[.t 6 99 3 (.st 0)]
  | _=>[]⟩) Tryz.func92 (λa=>Uj a.1 a.2.1)
def Uk (a0:Aa) (a1:Int) (a2:Ae):Option (Aa×Int) :=
 (En a0 a1).bind λv1=>if (!decide (v1.2=0)) then((E0 a0 v1.2).bind λv2=>some (v2,v1.2)) else((idx a0.Open v1.1).bind λu3=>if u3.RO then(some (a0,7)) else((idx a0.Open v1.1).bind λu4=>(Uj u4.Buf a2).bind λv5=>if (decide (v5.2=1)) then(some (a0,v5.2)) else(if (!decide (v5.2=0)) then((Fv a0 a1).bind λv6=>some (v6,v5.2)) else(if (([]:List Aq).length+a0.Open.length)*64<=140737488355328 then((idx (([]:List Aq)++a0.Open) v1.1).bind λu8=>some ({a0 with Open:=((([]:List Aq)++a0.Open).set v1.1.toNat ({u8 with Buf:=v5.1}))},0)) else none))))
noncomputable def c36:CT:=vK2 36 [.st 14,.int .i64,.st 0] (.st 14) (.int .i64) ⟨[c80,c81,c86,c92],[]⟩ anN Tryz.func36 (λa=>Uk a.1 a.2.1 a.2.2.1)
def Afs (b1:(List (List UInt8))):Option (List (List UInt8)) :=
 some b1
def Wn (a0:List Ae) (s2:Int×(List (List UInt8))):Option (LB (Int×(List (List UInt8))) ((List (List UInt8)))) :=
 if (decide (s2.1<(a0.length:Int))) then((idx a0 s2.1).bind λu3=>if (s2.2.length+[u3.Key].length)*24<=140737488355328 then(some (.cont ((wI (s2.1+1)),(s2.2++[u3.Key])))) else none) else(some (.brk s2.2))
def Sr (a0:List Ae):Option (List (List UInt8)) :=
 (Be (Wn a0) fuel (0,([]:List (List UInt8)))).bind λe5=>Afs e5
noncomputable def c94:CT:=vK1 94 [.sl (.st 0)] (.sl (.sl .u8)) ⟨[],[]⟩ (⟨λn=>match n with
  | 3=>some (lF ⟨[(3,.own 0),(4,.v (.int .i64))],[.arr 56 1 0 ((.sl .u8))]⟩ 0 ⟨[(3,.own 0)],[.arr 56 1 0 ((.sl .u8))]⟩ false)
  | _=>none,λn=>match n with
  | 3=>[.t 3 56 1 (.sl .u8)]
  | _=>[]⟩) Tryz.func94 (λa=>Sr a.1)
def Aav (b1:Unit):Option Bool :=
 some false
def Aa4 (s2:Int) (b3:Unit):Option (LR (Int) (Unit) (Bool)) :=
 some (.cont (wI (s2+1)))
def I6 (a0:List (List UInt8)) (a1:List (List UInt8)) (s2:Int) (s4:Int):Option (LR (Int) (Unit) (Bool)) :=
 if (decide (s4<(a1.length:Int))) then((idx a0 s2).bind λu5=>(idx a1 s4).bind λu6=>if (u5==u6) then(some (.ret true)) else(some (.cont (wI (s4+1))))) else(some (.brk ()))
def I7 (a0:List (List UInt8)) (a1:List (List UInt8)) (s2:Int):Option (LR (Int) (Unit) (Bool)) :=
 if (decide (s2<(a0.length:Int))) then((B7 (I6 a0 a1 s2) fuel 0).bind λx=>match x with | .inl r=>some (.ret r) | .inr e7=>Aa4 s2 e7) else(some (.brk ()))
def Ml (a0:List (List UInt8)) (a1:List (List UInt8)):Option Bool :=
 (B7 (I7 a0 a1) fuel 0).bind λx=>match x with | .inl r=>some r | .inr e8=>Aav e8
noncomputable def Bem:CT:=vK1 230 [.sl (.sl .u8),.sl (.sl .u8)] .bool ⟨[],[]⟩ (⟨λn=>match n with
  | 2=>some (lF ⟨[(5,.v (.int .i64))],[]⟩ 0 ⟨[],[]⟩ true)
  | 5=>some (lF ⟨[(6,.v (.int .i64))],[]⟩ 2 ⟨[],[]⟩ true)
  | _=>none,λ_=>[]⟩) Tryz.func230 (λa=>Ml a.1 a.2.1)
def Ada (b3:Unit):Option Int :=
 some 0
def T2 (a0:Af) (a1:Ag) (a3:List (List UInt8)) (s4:Int):Option (LR (Int) (Unit) (Int)) :=
 if (decide (s4<(a0.Txs.length:Int))) then((idx a0.Txs s4).bind λu5=>(Ho u5 a1).bind λv6=>if v6 then((idx a0.Txs s4).bind λu7=>(Ml u7.Keys a3).bind λv8=>if v8 then(some (.ret 9)) else(some (.cont (wI (s4+1))))) else(some (.cont (wI (s4+1))))) else(some (.brk ()))
def T9 (a0:Af) (a1:Ag) (a3:List (List UInt8)) (b2:Unit):Option Int :=
 (B7 (T2 a0 a1 a3) fuel 0).bind λx=>match x with | .inl r=>some r | .inr e9=>Ada e9
def S4 (a0:Af) (a2:Int) (s10:Int):Option (LR (Int) (Unit) (Int)) :=
 if (decide (s10<(a0.Txs.length:Int))) then((idx a0.Txs s10).bind λu11=>if (decide (a2<=u11.End)) then(some (.ret 1)) else(some (.cont (wI (s10+1))))) else(some (.brk ()))
def Ks (a0:Af) (a1:Ag) (a2:Int) (a3:List (List UInt8)) (b1:Unit):Option Int :=
 (B7 (S4 a0 a2) fuel 0).bind λx=>match x with | .inl r=>some r | .inr e12=>T9 a0 a1 a3 e12
def Ow (a0:Af) (a1:Ag) (a2:Int) (a3:List (List UInt8)):Option Int :=
 if (decide (a2<=a1.Begin)) then(some 1) else(if (decide (1099511627776<a2)) then(some 1) else((Pe a3).bind λv13=>if (!v13) then(some 1) else(if a1.RO then(if (decide (0<(a3.length:Int))) then(some 1) else(Ks a0 a1 a2 a3 ())) else(Ks a0 a1 a2 a3 ()))))
noncomputable def Bdh:CT:=vK1 172 [.st 10,.st 9,.int .i64,.sl (.sl .u8)] (.int .i64) ⟨[A91,Bci,Bem],[]⟩ (⟨λn=>match n with
  | 9=>some (lF ⟨[(10,.v (.int .i64))],[.keep,.keep]⟩ 2 ⟨[],[.keep,.keep]⟩ true)
  | 4=>some (lF ⟨[(9,.v (.int .i64))],[.keep,.keep]⟩ 0 ⟨[],[.keep,.keep]⟩ true)
  | _=>none,λ_=>[]⟩) Tryz.func172 (λa=>Ow a.1 a.2.1 a.2.2.1 a.2.2.2.1)
def Aec (b1:(List Int)):Option (List Int) :=
 some b1
def Ly (a0:List Int) (s2:(List Int)×Int) (b3:Int) (b4:Unit):Option (LB ((List Int)×Int) ((List Int))) :=
 (cut s2.1 0 b3).bind λc5=>if (([]:List Int).length+c5.length)*8<=140737488355328 then((idx a0 s2.2).bind λu7=>if ((([]:List Int)++c5).length+[u7].length)*8<=140737488355328 then((cut s2.1 b3 (s2.1.length:Int)).bind λc9=>if (((([]:List Int)++c5)++[u7]).length+c9.length)*8<=140737488355328 then(some (.cont ((((([]:List Int)++c5)++[u7])++c9),(wI (s2.2+1))))) else none) else none) else none
def U4 (a0:List Int) (s2:(List Int)×Int) (b3:Int):Option (LB ((List Int)×Int) ((List Int))) :=
 if (decide (b3<(s2.1.length:Int))) then((idx s2.1 b3).bind λu11=>(idx a0 s2.2).bind λu12=>if (decide (u11=u12)) then(some (.cont (s2.1,(wI (s2.2+1))))) else(Ly a0 s2 b3 ())) else(Ly a0 s2 b3 ())
def N8 (a0:List Int) (s2:(List Int)×Int) (s13:Int):Option (LB (Int) (Int)) :=
 if (decide (s13<(s2.1.length:Int))) then((idx s2.1 s13).bind λu14=>(idx a0 s2.2).bind λu15=>if (decide (u14<u15)) then(some (.cont (wI (s13+1)))) else(some (.brk s13))) else(some (.brk s13))
def Pm (a0:List Int) (s2:(List Int)×Int):Option (LB ((List Int)×Int) ((List Int))) :=
 if (decide (s2.2<(a0.length:Int))) then((Be (N8 a0 s2) fuel 0).bind λe16=>U4 a0 s2 e16) else(some (.brk s2.1))
def Nr (a0:List Int):Option (List Int) :=
 (Be (Pm a0) fuel (([]:List Int),0)).bind λe17=>Aec e17
noncomputable def Bff:CT:=vK1 260 [.sl (.int .i64)] (.sl (.int .i64)) ⟨[],[]⟩ (⟨λn=>match n with
  | 3=>some (lF ⟨[(3,.v (.sl (.int .i64))),(4,.v (.int .i64))],[]⟩ 0 ⟨[(3,.v (.sl (.int .i64)))],[]⟩ false)
  | 6=>some (lF ⟨[(5,.v (.int .i64))],[]⟩ 2 ⟨[(5,.v (.int .i64))],[]⟩ false)
  | _=>none,λ_=>[]⟩) Tryz.func260 (λa=>Nr a.1)
def Ad2 (b1:(List Int)):Option (List Int) :=
 (Nr b1).bind λv2=>some v2
def Ve (a0:Am) (a1:List UInt8) (s3:Int×(List Int)):Option (LB (Int×(List Int)) ((List Int))) :=
 if (decide (s3.1<(a0.L.length:Int))) then((idx a0.L s3.1).bind λu4=>(J6 u4.Rng a1).bind λv5=>if v5 then((idx a0.L s3.1).bind λu6=>if (s3.2.length+[u6.Tx].length)*8<=140737488355328 then(some (.cont ((wI (s3.1+1)),(s3.2++[u6.Tx])))) else none) else(some (.cont ((wI (s3.1+1)),s3.2)))) else(some (.brk s3.2))
def Qi (a0:Am) (a1:List UInt8):Option (List Int) :=
 (Be (Ve a0 a1) fuel (0,([]:List Int))).bind λe8=>Ad2 e8
noncomputable def Bds:CT:=vK1 231 [.st 8,.sl .u8] (.sl (.int .i64)) ⟨[A89,Bff],[]⟩ (⟨λn=>match n with
  | 3=>some (lF ⟨[(5,.own 1),(6,.v (.int .i64))],[.keep,.arr 3 1 0 ((.int .i64))]⟩ 0 ⟨[(5,.own 1)],[.keep,.arr 3 1 0 ((.int .i64))]⟩ false)
  | _=>none,λn=>match n with
  | 3=>[.t 5 3 1 (.int .i64)]
  | _=>[]⟩) Tryz.func231 (λa=>Qi a.1 a.2.1)
def Afo (b1:Unit):Option Bool :=
 some false
def Agu (s2:Int) (b5:Unit):Option (LR (Int) (Unit) (Bool)) :=
 some (.cont (wI (s2+1)))
def W6 (a1:Int) (v4:(List Int)) (s6:Int):Option (LR (Int) (Unit) (Bool)) :=
 if (decide (s6<(v4.length:Int))) then((idx v4 s6).bind λu7=>if (decide (u7=a1)) then(some (.ret true)) else(some (.cont (wI (s6+1))))) else(some (.brk ()))
def V2 (a0:Af) (a1:Int) (a2:List (List UInt8)) (s2:Int):Option (LR (Int) (Unit) (Bool)) :=
 if (decide (s2<(a2.length:Int))) then((idx a2 s2).bind λu3=>(Qi a0.Reads u3).bind λv4=>(B7 (W6 a1 v4) fuel 0).bind λx=>match x with | .inl r=>some (.ret r) | .inr e8=>Agu s2 e8) else(some (.brk ()))
def Si (a0:Af) (a1:Int) (a2:List (List UInt8)):Option Bool :=
 (B7 (V2 a0 a1 a2) fuel 0).bind λx=>match x with | .inl r=>some r | .inr e9=>Afo e9
noncomputable def Bdt:CT:=vK1 173 [.st 10,.int .i64,.sl (.sl .u8)] .bool ⟨[Bds],[]⟩ (⟨λn=>match n with
  | 2=>some (lF ⟨[(7,.v (.int .i64))],[.keep]⟩ 0 ⟨[],[.keep]⟩ true)
  | 6=>some (lF ⟨[(9,.v (.int .i64))],[.keep]⟩ 2 ⟨[],[.keep]⟩ true)
  | _=>none,λ_=>[]⟩) Tryz.func173 (λa=>Si a.1 a.2.1 a.2.2.1)
def Ti (a2:Int) (a3:List (List UInt8)) (v2:Int) (b7:(List Ag)×(List Ac)) (b8:(List Ac)):Option (Af×Int) :=
 (idx b7.1 v2).bind λu9=>(idx (b7.1.set v2.toNat ({u9 with State:=2})) v2).bind λu10=>(idx ((b7.1.set v2.toNat ({u9 with State:=2})).set v2.toNat ({u10 with End:=a2})) v2).bind λu11=>some ((Af.mk (((b7.1.set v2.toNat ({u9 with State:=2})).set v2.toNat ({u10 with End:=a2})).set v2.toNat ({u11 with Keys:=a3})) (Am.mk b8)),0)
def N0 (a2:Int) (a3:List (List UInt8)) (v2:Int) (b7:(List Ag)×(List Ac)):Option (Af×Int) :=
 (idx b7.1 v2).bind λu12=>if u12.In then((idx b7.1 v2).bind λu13=>if u13.Out then(some (Bn,10)) else(Ti a2 a3 v2 b7 b7.2)) else(Ti a2 a3 v2 b7 b7.2)
def Mt (v2:Int) (s14:Int×(List Ag)×(List Ac)) (u15:Ag) (b16:(List Ac)):Option (LR (Int×(List Ag)×(List Ac)) ((List Ag)×(List Ac)) (Af×Int)) :=
 (idx s14.2.1 s14.1).bind λu17=>(idx (s14.2.1.set s14.1.toNat ({u17 with Out:=true})) v2).bind λu18=>if (decide (u15.State=2)) then(if u15.In then(some (.ret (Bn,10))) else(some (.cont ((wI (s14.1+1)),((s14.2.1.set s14.1.toNat ({u17 with Out:=true})).set v2.toNat ({u18 with In:=true})),b16)))) else(some (.cont ((wI (s14.1+1)),((s14.2.1.set s14.1.toNat ({u17 with Out:=true})).set v2.toNat ({u18 with In:=true})),b16)))
def Jb (a0:Af) (a3:List (List UInt8)) (v2:Int) (s14:Int×(List Ag)×(List Ac)):Option (LR (Int×(List Ag)×(List Ac)) ((List Ag)×(List Ac)) (Af×Int)) :=
 if (decide (s14.1<(s14.2.1.length:Int))) then((idx s14.2.1 s14.1).bind λu15=>if (decide (s14.1=v2)) then(some (.cont ((wI (s14.1+1)),s14.2.1,s14.2.2))) else((Si a0 u15.ID a3).bind λv19=>if (!v19) then(some (.cont ((wI (s14.1+1)),s14.2.1,s14.2.2))) else(if (decide (u15.State=2)) then((idx s14.2.1 v2).bind λu20=>(Ho u15 u20).bind λv21=>if (!v21) then(some (.cont ((wI (s14.1+1)),s14.2.1,s14.2.2))) else(Mt v2 s14 u15 s14.2.2)) else(Mt v2 s14 u15 s14.2.2)))) else(some (.brk (s14.2.1,s14.2.2)))
def Tf (a0:Af) (a2:Int) (a3:List (List UInt8)) (v2:Int) (b3:Unit):Option (Af×Int) :=
 (idx a0.Txs v2).bind λu4=>(Ow a0 u4 a2 a3).bind λv5=>if (!decide (v5=0)) then(some (Bn,v5)) else((Ef a0).bind λv6=>(B7 (Jb a0 a3 v2) fuel (0,v6.2,v6.1)).bind λx=>match x with | .inl r=>some r | .inr e22=>N0 a2 a3 v2 e22)
def Og (a0:Af) (a1:Int) (a2:Int) (a3:List (List UInt8)):Option (Af×Int) :=
 (H7 a0).bind λv1=>if (!v1) then(some (Bn,1)) else((Cu a0.Txs a1).bind λv2=>if (decide (v2<0)) then(some (Bn,7)) else((idx a0.Txs v2).bind λu23=>if (!decide (u23.State=1)) then(some (Bn,7)) else(Tf a0 a2 a3 v2 ())))
noncomputable def c93:CT:=vK2 93 [.st 10,.int .i64,.int .i64,.sl (.sl .u8)] (.st 10) (.int .i64) ⟨[A88,A4e,A91,Bdh,Bdt],[(49,Nz)]⟩ (⟨λn=>match n with
  | 11=>some (lF ⟨[(13,.v (.int .i64))],[.keep,.keep,.arr 140 8 0 ((.st 9)),.box [.own 2,.v (.sl (.st 7))]]⟩ 0 ⟨[],[.keep,.keep,.arr 140 8 0 ((.st 9)),.box [.own 2,.v (.sl (.st 7))]]⟩ true)
  | _=>none,λ_=>[]⟩) Tryz.func93 (λa=>Og a.1 a.2.1 a.2.2.1 a.2.2.2.1)
def Tt (a0:Ah) (a1:Int) (a2:Int) (a3:Int) (b4:Unit):Option (Ah×Int) :=
 (Ka a0 (Al.mk a1 a2 2 a3)).bind λv5=>some (v5.1,v5.2)
def N9 (a0:Ah) (a1:Int) (a2:Int) (a3:Int) (v2:Al×Bool) (b3:Unit):Option (Ah×Int) :=
 if (!v2.2) then(some (Ay,14)) else(if (!decide (v2.1.State=1)) then(some (Ay,14)) else(if (!decide (v2.1.Attempt=a2)) then(some (Ay,14)) else(Tt a0 a1 a2 a3 ())))
def T6 (a0:Ah) (a1:Int) (a2:Int) (a3:Int) (b1:Unit):Option (Ah×Int) :=
 (Ij a0 a1).bind λv2=>if v2.2 then(if (decide (v2.1.State=2)) then(some (Ay,7)) else(N9 a0 a1 a2 a3 v2 ())) else(N9 a0 a1 a2 a3 v2 ())
def Oq (a0:Ah) (a1:Int) (a2:Int) (a3:Int):Option (Ah×Int) :=
 (Gi a0).bind λv6=>if (!v6) then(some (Ay,1)) else((Hs a1 a2).bind λv7=>if (!v7) then(some (Ay,1)) else(if (decide (a3<1)) then(some (Ay,1)) else(if (decide (1099511627776<a3)) then(some (Ay,1)) else(T6 a0 a1 a2 a3 ()))))
noncomputable def c95:CT:=vK2 95 [.st 12,.int .i64,.int .i64,.int .i64] (.st 12) (.int .i64) ⟨[A86,A67,A7d,A9i],[]⟩ anN Tryz.func95 (λa=>Oq a.1 a.2.1 a.2.2.1 a.2.2.2.1)
def My (a0:List (List UInt8)) (a1:List UInt8):Option (List (List UInt8)) :=
 (M1 a0 a1).bind λv1=>if v1.2 then(if (([]:List (List UInt8)).length+a0.length)*24<=140737488355328 then(some (([]:List (List UInt8))++a0)) else none) else((cut a0 0 v1.1).bind λc3=>if (([]:List (List UInt8)).length+c3.length)*24<=140737488355328 then(if ((([]:List (List UInt8))++c3).length+[a1].length)*24<=140737488355328 then((cut a0 v1.1 (a0.length:Int)).bind λc6=>if (((([]:List (List UInt8))++c3)++[a1]).length+c6.length)*24<=140737488355328 then(some (((([]:List (List UInt8))++c3)++[a1])++c6)) else none) else none) else none)
noncomputable def Bfp:CT:=vK1 174 [.sl (.sl .u8),.sl .u8] (.sl (.sl .u8)) ⟨[Bbp],[]⟩ anN Tryz.func174 (λa=>My a.1 a.2.1)
def Vh (a0:Ab) (a1:Ai) (b1:Unit):Option (Ab×Int) :=
 (Kj a0).bind λv2=>if (decide (a1.Ts<=v2)) then(some ((Ab.mk ([]:List Ai)),7)) else(if (([]:List Ai).length+a0.L.length)*40<=140737488355328 then(if ((([]:List Ai)++a0.L).length+[a1].length)*40<=140737488355328 then(some ((Ab.mk ((([]:List Ai)++a0.L)++[a1])),0)) else none) else none)
def Qm (a0:Ab) (a1:Ai):Option (Ab×Int) :=
 (Gb a0).bind λv5=>if (!v5) then(some ((Ab.mk ([]:List Ai)),1)) else((Gb (Ab.mk [a1])).bind λv6=>if (!v6) then(some ((Ab.mk ([]:List Ai)),1)) else(Vh a0 a1 ()))
noncomputable def Beh:CT:=vK2 175 [.st 5,.st 4] (.st 5) (.int .i64) ⟨[Bbl,Bcv],[]⟩ anN Tryz.func175 (λa=>Qm a.1 a.2.1)
def Aaw (b4:(List (List UInt8))×Int×(List Ab)):Option (Ao×Int) :=
 some ((Ao.mk b4.1 b4.2.2 b4.2.1),0)
def Mn (s5:Int×(List (List UInt8))×Int×(List Ab)) (b8:(List (List UInt8))×Int×(List Ai)):Option (LB (Int×(List (List UInt8))×Int×(List Ab)) ((List (List UInt8))×Int×(List Ab))) :=
 if (s5.2.2.2.length+[(Ab.mk b8.2.2)].length)*24<=140737488355328 then(some (.cont ((wI (s5.1+1)),b8.1,b8.2.1,(s5.2.2.2++[(Ab.mk b8.2.2)])))) else none
def E7 (a1:Int) (a2:List Ae) (s5:Int×(List (List UInt8))×Int×(List Ab)) (s10:Int×(List (List UInt8))×Int×(List Ai)):Option (LB (Int×(List (List UInt8))×Int×(List Ai)) ((List (List UInt8))×Int×(List Ai))) :=
 if (decide (s10.1<(a2.length:Int))) then((idx a2 s10.1).bind λu11=>(idx s10.2.1 s5.1).bind λu12=>if (u11.Key==u12) then((idx a2 s10.1).bind λu13=>(idx a2 s10.1).bind λu14=>(Qm (Ab.mk s10.2.2.2) (Ai.mk a1 u13.Val u14.Del)).bind λv15=>some (.cont ((wI (s10.1+1)),s10.2.1,s10.2.2.1,v15.1.L))) else(some (.cont ((wI (s10.1+1)),s10.2.1,s10.2.2.1,s10.2.2.2)))) else(some (.brk (s10.2.1,s10.2.2.1,s10.2.2.2)))
def Jd (a0:Ao) (a1:Int) (a2:List Ae) (s5:Int×(List (List UInt8))×Int×(List Ab)):Option (LB (Int×(List (List UInt8))×Int×(List Ab)) ((List (List UInt8))×Int×(List Ab))) :=
 if (decide (s5.1<(s5.2.1.length:Int))) then((idx s5.2.1 s5.1).bind λu6=>(Ey a0 u6).bind λv7=>(Be (E7 a1 a2 s5) fuel (0,s5.2.1,s5.2.2.1,v7.L)).bind λe16=>Mn s5 e16) else(some (.brk (s5.2.1,s5.2.2.1,s5.2.2.2)))
def Sg (a0:Ao) (a1:Int) (a2:List Ae) (b3:(List (List UInt8))×Int):Option (Ao×Int) :=
 if (decide (128<(b3.1.length:Int))) then(some (Ev,8)) else((Be (Jd a0 a1 a2) fuel (0,b3.1,b3.2,([]:List Ab))).bind λe17=>Aaw e17)
def Dn (a2:List Ae) (s18:Int×(List (List UInt8))×Int):Option (LB (Int×(List (List UInt8))×Int) ((List (List UInt8))×Int)) :=
 if (decide (s18.1<(a2.length:Int))) then((idx a2 s18.1).bind λu19=>(My s18.2.1 u19.Key).bind λv20=>some (.cont ((wI (s18.1+1)),v20,s18.2.2))) else(some (.brk (s18.2.1,s18.2.2)))
def Sq (a0:Ao) (a1:Int) (a2:List Ae) (b2:Unit):Option (Ao×Int) :=
 (Be (Dn a2) fuel (0,a0.Keys,a1)).bind λe21=>Sg a0 a1 a2 e21
def Su (a0:Ao) (a1:Int) (a2:List Ae) (b1:Unit):Option (Ao×Int) :=
 if (decide (a1<=a0.Ts)) then(some (Ev,7)) else(if (decide (1099511627776<a1)) then(some (Ev,7)) else(Sq a0 a1 a2 ()))
def Mu (a0:Ao) (a1:Int) (a2:List Ae):Option (Ao×Int) :=
 (Gj a0).bind λv22=>if (!v22) then(some (Ev,1)) else((D5 a2).bind λv23=>if (!v23) then(some (Ev,1)) else(Su a0 a1 a2 ()))
noncomputable def c96:CT:=vK2 96 [.st 6,.int .i64,.sl (.st 0)] (.st 6) (.int .i64) ⟨[A4s,Bb4,Bar,Bfp,Beh],[]⟩ (⟨λn=>match n with
  | 13=>some (lF ⟨[(10,.v (.int .i64))],[.keep,.keep,.box [.v (.sl (.sl .u8)),.own 3,.v (.int .i64)],.arr 131 1 0 ((.st 5))]⟩ 2 ⟨[],[.keep,.keep,.box [.v (.sl (.sl .u8)),.own 3,.v (.int .i64)],.arr 131 1 0 ((.st 5))]⟩ false)
  | 17=>some (lF ⟨[(12,.v (.int .i64))],[.keep,.keep,.box [.v (.sl (.sl .u8)),.own 3,.v (.int .i64)],.keep,.box [.v (.sl (.st 4))]]⟩ 4 ⟨[],[.keep,.keep,.box [.v (.sl (.sl .u8)),.own 3,.v (.int .i64)],.keep,.box [.v (.sl (.st 4))]]⟩ false)
  | 7=>some (lF ⟨[(9,.v (.int .i64))],[.keep,.keep,.box [.v (.sl (.sl .u8)),.nil,.v (.int .i64)]]⟩ 0 ⟨[],[.keep,.keep,.box [.v (.sl (.sl .u8)),.nil,.v (.int .i64)]]⟩ false)
  | _=>none,λn=>match n with
  | 13=>[.b 2 1 131 1 (.st 5)]
  | _=>[]⟩) Tryz.func96 (λa=>Mu a.1 a.2.1 a.2.2.1)
def Aeg (a0:Af) (b1:(List Int)):Option Af :=
 (Eg a0 b1).bind λv2=>some v2
def U6 (a0:Af) (s3:Int×(List Int)) (b5:Bool):Option (LB (Int×(List Int)) ((List Int))) :=
 if (!b5) then((idx a0.Txs s3.1).bind λu6=>if (s3.2.length+[u6.ID].length)*8<=140737488355328 then(some (.cont ((wI (s3.1+1)),(s3.2++[u6.ID])))) else none) else(some (.cont ((wI (s3.1+1)),s3.2)))
def Lk (a0:Af) (s3:Int×(List Int)) (s8:Bool×Int):Option (LB (Bool×Int) (Bool)) :=
 if (decide (s8.2<(a0.Txs.length:Int))) then(if s8.1 then(some (.cont (true,(wI (s8.2+1))))) else((idx a0.Txs s8.2).bind λu9=>if (decide (u9.State=1)) then((idx a0.Txs s8.2).bind λu10=>(idx a0.Txs s3.1).bind λu11=>some (.cont ((decide (u10.Begin<u11.End)),(wI (s8.2+1))))) else(some (.cont (false,(wI (s8.2+1))))))) else(some (.brk s8.1))
def Ls (a0:Af) (s3:Int×(List Int)):Option (LB (Int×(List Int)) ((List Int))) :=
 if (decide (s3.1<(a0.Txs.length:Int))) then((idx a0.Txs s3.1).bind λu4=>(Be (Lk a0 s3) fuel ((!decide (u4.State=2)),0)).bind λe12=>U6 a0 s3 e12) else(some (.brk s3.2))
def Qj (a0:Af):Option Af :=
 (Be (Ls a0) fuel (0,([]:List Int))).bind λe13=>Aeg a0 e13
noncomputable def c98:CT:=vK1 98 [.st 10] (.st 10) ⟨[Bbx],[]⟩ (⟨λn=>match n with
  | 3=>some (lF ⟨[(3,.own 2),(4,.v (.int .i64))],[.keep,.keep,.arr 3 1 0 ((.int .i64))]⟩ 0 ⟨[(3,.own 2)],[.keep,.keep,.arr 3 1 0 ((.int .i64))]⟩ false)
  | 7=>some (lF ⟨[(3,.own 2),(5,.v .bool),(6,.v (.int .i64))],[.keep,.keep,.keep]⟩ 2 ⟨[(3,.own 2),(5,.v .bool)],[.keep,.keep,.keep]⟩ false)
  | _=>none,λn=>match n with
  | 3=>[.t 3 3 1 (.int .i64)]
  | _=>[]⟩) Tryz.func98 (λa=>Qj a.1)
def Abi (b1:Int):Option Int :=
 some b1
def I2 (a0:Af) (s2:Int×Int):Option (LB (Int×Int) (Int)) :=
 if (decide (s2.2<(a0.Txs.length:Int))) then((idx a0.Txs s2.2).bind λu3=>if (decide (u3.State=1)) then((idx a0.Txs s2.2).bind λu4=>some (.cont ((if u4.Begin<s2.1 then u4.Begin else s2.1),(wI (s2.2+1))))) else(some (.cont (s2.1,(wI (s2.2+1)))))) else(some (.brk s2.1))
def Na (a0:Af) (a1:Int):Option Int :=
 (Be (I2 a0) fuel (a1,0)).bind λe5=>Abi e5
noncomputable def Be6:CT:=vK1 100 [.st 10,.int .i64] (.int .i64) ⟨[],[]⟩ (⟨λn=>match n with
  | 2=>some (lF ⟨[(1,.v (.int .i64)),(5,.v (.int .i64))],[.keep]⟩ 0 ⟨[(1,.v (.int .i64))],[.keep]⟩ false)
  | _=>none,λ_=>[]⟩) Tryz.func100 (λa=>Na a.1 a.2.1)
def I1 (a0:Ab) (b4:Int):Option Ab :=
 (cut a0.L b4 (a0.L.length:Int)).bind λc5=>some (Ab.mk c5)
def Sk (a0:Ab) (v1:Int) (b2:Unit):Option Ab :=
 (idx a0.L v1).bind λu3=>if u3.Del then(I1 a0 (wI (v1+1))) else(I1 a0 v1)
def Jt (a0:Ab) (a1:Int):Option Ab :=
 (Lg a0 a1).bind λv1=>(Gb a0).bind λv6=>if (!v6) then(some a0) else(if (decide (v1<0)) then(some a0) else(Sk a0 v1 ()))
noncomputable def Bfr:CT:=vK1 177 [.st 5,.int .i64] (.st 5) ⟨[Bbl,Bcs],[]⟩ anN Tryz.func177 (λa=>Jt a.1 a.2.1)
def Ab2 (b2:Int×(List (List UInt8))×(List Ab)):Option Ao :=
 some (Ao.mk b2.2.1 b2.2.2 b2.1)
def N2 (a0:Ao) (a1:Int) (s3:Int×Int×(List (List UInt8))×(List Ab)):Option (LB (Int×Int×(List (List UInt8))×(List Ab)) (Int×(List (List UInt8))×(List Ab))) :=
 if (decide (s3.1<(a0.Keys.length:Int))) then((idx a0.Chains s3.1).bind λu4=>(Jt u4 (if a0.Ts<a1 then a0.Ts else a1)).bind λv5=>if (decide (0<(v5.L.length:Int))) then((idx a0.Keys s3.1).bind λu6=>if (s3.2.2.1.length+([u6]:List (List UInt8)).length)*24<=140737488355328 then(if (s3.2.2.2.length+[v5].length)*24<=140737488355328 then(some (.cont ((wI (s3.1+1)),s3.2.1,(s3.2.2.1++([u6]:List (List UInt8))),(s3.2.2.2++[v5])))) else none) else none) else(some (.cont ((wI (s3.1+1)),s3.2.1,s3.2.2.1,s3.2.2.2)))) else(some (.brk (s3.2.1,s3.2.2.1,s3.2.2.2)))
def Oh (a0:Ao) (a1:Int):Option Ao :=
 (Gj a0).bind λv1=>if (!v1) then(some a0) else((Be (N2 a0 a1) fuel (0,a0.Ts,([]:List (List UInt8)),([]:List Ab))).bind λe9=>Ab2 e9)
noncomputable def c99:CT:=vK1 99 [.st 6,.int .i64] (.st 6) ⟨[A4s,Bfr],[]⟩ (⟨λn=>match n with
  | 5=>some (lF ⟨[(6,.v (.int .i64))],[.keep,.keep,.box [.own 3,.own 4,.v (.int .i64)],.arr 56 1 0 ((.sl .u8)),.arr 131 1 0 ((.st 5))]⟩ 0 ⟨[],[.keep,.keep,.box [.own 3,.own 4,.v (.int .i64)],.arr 56 1 0 ((.sl .u8)),.arr 131 1 0 ((.st 5))]⟩ false)
  | _=>none,λn=>match n with
  | 5=>[.b 2 0 56 1 (.sl .u8),.b 2 1 131 1 (.st 5)]
  | _=>[]⟩) Tryz.func99 (λa=>Oh a.1 a.2.1)
def Ou (a0:Aa) (a1:Int):Option (Aa×Int×Int) :=
 (En a0 a1).bind λv1=>if (!decide (v1.2=0)) then((E0 a0 v1.2).bind λv2=>some (v2,0,v1.2)) else((idx a0.Open v1.1).bind λu3=>if (decide (1099511627776<=a0.Store.Ts)) then((Fv a0 a1).bind λv4=>some (v4,0,11)) else((Sr u3.Buf.L).bind λv5=>(Og a0.Cert a1 (wI (a0.Store.Ts+1)) v5).bind λv6=>if (!decide (v6.2=0)) then((Fv a0 a1).bind λv7=>some (v7,0,v6.2)) else((Oq a0.Toks u3.Token u3.Attempt (wI (a0.Store.Ts+1))).bind λv8=>if (!decide (v8.2=0)) then((Fv a0 a1).bind λv9=>some (v9,0,v8.2)) else((Mu a0.Store (wI (a0.Store.Ts+1)) u3.Buf.L).bind λv10=>if (!decide (v10.2=0)) then((Fv a0 a1).bind λv11=>some (v11,0,v10.2)) else((K9 a0 a1).bind λv12=>(Qj v6.1).bind λv13=>(Na v13 (wI (a0.Store.Ts+1))).bind λv14=>(Oh v10.1 v14).bind λv15=>some ((Aa.mk v15 v13 v8.1 v12.Open v12.Next),(wI (a0.Store.Ts+1)),0))))))
noncomputable def c37:CT:=vK 37 [.st 14,.int .i64] [.st 14,.int .i64,.int .i64] (λr=>(r.1,(r.2.1,(r.2.2,())))) (λv=>(v.1,v.2.1,v.2.2.1)) ⟨[c80,c81,c86,c93,c94,c95,c96,c97,c98,c99,Be6],[]⟩ anN Tryz.func37 (λa=>Ou a.1 a.2.1)
def Qr (a0:Aa) (a1:Int):Option (Aa×Int) :=
 (En a0 a1).bind λv1=>if (!decide (v1.2=0)) then((E0 a0 v1.2).bind λv2=>some (v2,v1.2)) else((Fv a0 a1).bind λv3=>some (v3,0))
noncomputable def c38:CT:=vK2 38 [.st 14,.int .i64] (.st 14) (.int .i64) ⟨[c80,c81,c86],[]⟩ anN Tryz.func38 (λa=>Qr a.1 a.2.1)
def N4 (v2:Ah×Int×Int) (b5:Aa):Option (Aa×Int×Int) :=
 some (b5,v2.2.1,0)
def Oj (a0:Aa) (a1:Int) (a2:Int):Option (Aa×Int×Int) :=
 (J3 a0).bind λv1=>if (!v1) then(some (Bh,0,1)) else((Lc a0.Toks a1 a2).bind λv2=>if (!decide (v2.2.2=0)) then((E0 a0 v2.2.2).bind λv3=>some (v3,0,v2.2.2)) else((Ij v2.1 a1).bind λv4=>if (decide (v4.1.State=3)) then((Ga ({a0 with Toks:=v2.1}) a1 (wI (v4.1.Attempt+1))).bind λv6=>N4 v2 v6) else(N4 v2 ({a0 with Toks:=v2.1}))))
noncomputable def c39:CT:=vK 39 [.st 14,.int .i64,.int .i64] [.st 14,.int .i64,.int .i64] (λr=>(r.1,(r.2.1,(r.2.2,())))) (λv=>(v.1,v.2.1,v.2.2.1)) ⟨[c76,c77,c81,Bca,A86],[]⟩ anN Tryz.func39 (λa=>Oj a.1 a.2.1 a.2.2.1)
def Rp (a0:Ah) (a1:Int) (b1:Unit):Option (Ah×Int) :=
 (Gs a0 a1).bind λv2=>if (decide (v2<0)) then(some (Ay,6)) else((idx a0.L v2).bind λu3=>if (decide (u3.State=1)) then(some (Ay,7)) else((cut a0.L 0 v2).bind λc4=>if (([]:List Al).length+c4.length)*32<=140737488355328 then((cut a0.L (wI (v2+1)) (a0.L.length:Int)).bind λc6=>if ((([]:List Al)++c4).length+c6.length)*32<=140737488355328 then(some ((Ah.mk ((([]:List Al)++c4)++c6)),0)) else none) else none))
def L0 (a0:Ah) (a1:Int):Option (Ah×Int) :=
 (Gi a0).bind λv8=>if (!v8) then(some (Ay,1)) else((Hs a1 0).bind λv9=>if (!v9) then(some (Ay,1)) else(Rp a0 a1 ()))
noncomputable def Bfc:CT:=vK2 103 [.st 12,.int .i64] (.st 12) (.int .i64) ⟨[A67,A7d,A8k],[]⟩ anN Tryz.func103 (λa=>L0 a.1 a.2.1)
def Mf (a0:Aa) (a1:Int):Option (Aa×Int) :=
 (J3 a0).bind λv1=>if (!v1) then(some (Bh,1)) else((L0 a0.Toks a1).bind λv2=>if (!decide (v2.2=0)) then((E0 a0 v2.2).bind λv3=>some (v3,v2.2)) else(some ({a0 with Toks:=v2.1},0)))
noncomputable def c40:CT:=vK2 40 [.st 14,.int .i64] (.st 14) (.int .i64) ⟨[c76,c81,Bfc],[]⟩ anN Tryz.func40 (λa=>Mf a.1 a.2.1)
def Uu (a0:Aa) (a1:Ic) (a2:Int):Option (Aa×B8) :=
 if (decide (a1.What<=1)) then((Ql a0 a1.Token a1.Attempt a1.RO).bind λv1=>some (v1.1,(B8.mk v1.2.1 false ([]:List UInt8) ([]:List As) v1.2.2))) else(if (decide (a1.What<=3)) then((Um a0 a2 a1.Key).bind λv2=>some (v2.1,(B8.mk 0 v2.2.2.1 v2.2.1 ([]:List As) v2.2.2.2))) else(if (decide (a1.What=4)) then((Sw a0 a2 a1.Rng 8).bind λv3=>some (v3.1,(B8.mk 0 false ([]:List UInt8) v3.2.1 v3.2.2))) else(if (decide (a1.What<=7)) then((Uk a0 a2 (Ae.mk a1.Key a1.Val a1.Del)).bind λv4=>some (v4.1,(B8.mk 0 false ([]:List UInt8) ([]:List As) v4.2))) else(if (decide (a1.What<=10)) then((Ou a0 a2).bind λv5=>some (v5.1,(B8.mk v5.2.1 false ([]:List UInt8) ([]:List As) v5.2.2))) else(if (decide (a1.What=11)) then((Qr a0 a2).bind λv6=>some (v6.1,(B8.mk 0 false ([]:List UInt8) ([]:List As) v6.2))) else(if (decide (a1.What=12)) then((Oj a0 a1.Token a1.Attempt).bind λv7=>some (v7.1,(B8.mk v7.2.1 false ([]:List UInt8) ([]:List As) v7.2.2))) else((Mf a0 a1.Token).bind λv8=>some (v8.1,(B8.mk 0 false ([]:List UInt8) ([]:List As) v8.2)))))))))
noncomputable def c12:CT:=vK2 12 [.st 14,.st 15,.int .i64] (.st 14) (.st 16) ⟨[c33,c34,c35,c36,c37,c38,c39,c40],[]⟩ anN Tryz.func12 (λa=>Uu a.1 a.2.1 a.2.2.1)
def Ag6 (b1:Unit):Option Bool :=
 some true
def Zm (a0:List As) (a1:List As) (s2:Int):Option (LR (Int) (Unit) (Bool)) :=
 if (decide (s2<(a0.length:Int))) then((idx a0 s2).bind λu3=>(idx a1 s2).bind λu4=>if (!(u3.Key==u4.Key)) then(some (.ret false)) else((idx a0 s2).bind λu5=>(idx a1 s2).bind λu6=>if (!(u5.Val==u6.Val)) then(some (.ret false)) else(some (.cont (wI (s2+1)))))) else(some (.brk ()))
def Z4 (a0:List As) (a1:List As):Option Bool :=
 if (!decide ((a0.length:Int)=(a1.length:Int))) then(some false) else((B7 (Zm a0 a1) fuel 0).bind λx=>match x with | .inl r=>some r | .inr e7=>Ag6 e7)
noncomputable def c20:CT:=vK1 20 [.sl (.st 2),.sl (.st 2)] .bool ⟨[],[]⟩ (⟨λn=>match n with
  | 4=>some (lF ⟨[(5,.v (.int .i64))],[]⟩ 0 ⟨[],[]⟩ true)
  | _=>none,λ_=>[]⟩) Tryz.func20 (λa=>Z4 a.1 a.2.1)
def R6 (a0:B8) (a1:B8):Option Bool :=
 if (decide (a0.n_=a1.n_)) then(if (a0.found_==a1.found_) then(if (a0.v_==a1.v_) then((Z4 a0.l_ a1.l_).bind λv1=>if v1 then(some (decide (a0.e_=a1.e_))) else(some false)) else(some false)) else(some false)) else(some false)
noncomputable def c13:CT:=vK1 13 [.st 16,.st 16] .bool ⟨[c20],[]⟩ anN Tryz.func13 (λa=>R6 a.1 a.2.1)
def T1 (b1:(List (List UInt8))×Int×Int×(List Ab)) (b2:(List (List UInt8))×Int×Int×(List Ag)) (b3:(List (List UInt8))×Int×Int×(List Ac)) (b4:(List (List UInt8))×Int×Int×(List Al)) (b5:(List (List UInt8))×Int×Int×(List Aq)):Option Aa :=
 some (Aa.mk (Ao.mk b5.1 b1.2.2.2 b5.2.1) (Af.mk b2.2.2.2 (Am.mk b3.2.2.2)) (Ah.mk b4.2.2.2) b5.2.2.2 b5.2.2.1)
def Ki (a0:Aa) (s6:Int×(List (List UInt8))×Int×Int×(List Aq)):Option (LB (Int×(List (List UInt8))×Int×Int×(List Aq)) ((List (List UInt8))×Int×Int×(List Aq))) :=
 if (decide (s6.1<(a0.Open.length:Int))) then((idx a0.Open s6.1).bind λu7=>if (s6.2.2.2.2.length+[u7].length)*64<=140737488355328 then(some (.cont ((wI (s6.1+1)),s6.2.1,s6.2.2.1,s6.2.2.2.1,(s6.2.2.2.2++[u7])))) else none) else(some (.brk (s6.2.1,s6.2.2.1,s6.2.2.2.1,s6.2.2.2.2)))
def Ud (a0:Aa) (b1:(List (List UInt8))×Int×Int×(List Ab)) (b2:(List (List UInt8))×Int×Int×(List Ag)) (b3:(List (List UInt8))×Int×Int×(List Ac)) (b4:(List (List UInt8))×Int×Int×(List Al)):Option Aa :=
 (Be (Ki a0) fuel (0,b4.1,b4.2.1,b4.2.2.1,([]:List Aq))).bind λe9=>T1 b1 b2 b3 b4 e9
def Jm (a0:Aa) (s10:Int×(List (List UInt8))×Int×Int×(List Al)):Option (LB (Int×(List (List UInt8))×Int×Int×(List Al)) ((List (List UInt8))×Int×Int×(List Al))) :=
 if (decide (s10.1<(a0.Toks.L.length:Int))) then((idx a0.Toks.L s10.1).bind λu11=>if (s10.2.2.2.2.length+[u11].length)*32<=140737488355328 then(some (.cont ((wI (s10.1+1)),s10.2.1,s10.2.2.1,s10.2.2.2.1,(s10.2.2.2.2++[u11])))) else none) else(some (.brk (s10.2.1,s10.2.2.1,s10.2.2.2.1,s10.2.2.2.2)))
def Tn (a0:Aa) (b1:(List (List UInt8))×Int×Int×(List Ab)) (b2:(List (List UInt8))×Int×Int×(List Ag)) (b3:(List (List UInt8))×Int×Int×(List Ac)):Option Aa :=
 (Be (Jm a0) fuel (0,b3.1,b3.2.1,b3.2.2.1,([]:List Al))).bind λe13=>Ud a0 b1 b2 b3 e13
def Jj (a0:Aa) (s14:Int×(List (List UInt8))×Int×Int×(List Ac)):Option (LB (Int×(List (List UInt8))×Int×Int×(List Ac)) ((List (List UInt8))×Int×Int×(List Ac))) :=
 if (decide (s14.1<(a0.Cert.Reads.L.length:Int))) then((idx a0.Cert.Reads.L s14.1).bind λu15=>(idx a0.Cert.Reads.L s14.1).bind λu16=>if (s14.2.2.2.2.length+([(Ac.mk u15.Tx u16.Rng)]:List Ac).length)*64<=140737488355328 then(some (.cont ((wI (s14.1+1)),s14.2.1,s14.2.2.1,s14.2.2.2.1,(s14.2.2.2.2++([(Ac.mk u15.Tx u16.Rng)]:List Ac))))) else none) else(some (.brk (s14.2.1,s14.2.2.1,s14.2.2.2.1,s14.2.2.2.2)))
def To (a0:Aa) (b1:(List (List UInt8))×Int×Int×(List Ab)) (b2:(List (List UInt8))×Int×Int×(List Ag)):Option Aa :=
 (Be (Jj a0) fuel (0,b2.1,b2.2.1,b2.2.2.1,([]:List Ac))).bind λe18=>Tn a0 b1 b2 e18
def I3 (a0:Aa) (s19:Int×(List (List UInt8))×Int×Int×(List Ag)):Option (LB (Int×(List (List UInt8))×Int×Int×(List Ag)) ((List (List UInt8))×Int×Int×(List Ag))) :=
 if (decide (s19.1<(a0.Cert.Txs.length:Int))) then((idx a0.Cert.Txs s19.1).bind λu20=>if (s19.2.2.2.2.length+[u20].length)*64<=140737488355328 then(some (.cont ((wI (s19.1+1)),s19.2.1,s19.2.2.1,s19.2.2.2.1,(s19.2.2.2.2++[u20])))) else none) else(some (.brk (s19.2.1,s19.2.2.1,s19.2.2.2.1,s19.2.2.2.2)))
def Tz (a0:Aa) (b1:(List (List UInt8))×Int×Int×(List Ab)):Option Aa :=
 (Be (I3 a0) fuel (0,b1.1,b1.2.1,b1.2.2.1,([]:List Ag))).bind λe22=>To a0 b1 e22
def Sd (s23:Int×(List (List UInt8))×Int×Int×(List Ab)) (b24:(List (List UInt8))×Int×Int×(List Ai)):Option (LB (Int×(List (List UInt8))×Int×Int×(List Ab)) ((List (List UInt8))×Int×Int×(List Ab))) :=
 if (s23.2.2.2.2.length+[(Ab.mk b24.2.2.2)].length)*24<=140737488355328 then(some (.cont ((wI (s23.1+1)),b24.1,b24.2.1,b24.2.2.1,(s23.2.2.2.2++[(Ab.mk b24.2.2.2)])))) else none
def Jh (a0:Aa) (s23:Int×(List (List UInt8))×Int×Int×(List Ab)) (s26:Int×(List (List UInt8))×Int×Int×(List Ai)):Option (LB (Int×(List (List UInt8))×Int×Int×(List Ai)) ((List (List UInt8))×Int×Int×(List Ai))) :=
 (idx a0.Store.Chains s23.1).bind λu27=>if (decide (s26.1<(u27.L.length:Int))) then((idx a0.Store.Chains s23.1).bind λu28=>(idx u28.L s26.1).bind λu29=>if (s26.2.2.2.2.length+[u29].length)*40<=140737488355328 then(some (.cont ((wI (s26.1+1)),s26.2.1,s26.2.2.1,s26.2.2.2.1,(s26.2.2.2.2++[u29])))) else none) else(some (.brk (s26.2.1,s26.2.2.1,s26.2.2.2.1,s26.2.2.2.2)))
def Jn (a0:Aa) (s23:Int×(List (List UInt8))×Int×Int×(List Ab)):Option (LB (Int×(List (List UInt8))×Int×Int×(List Ab)) ((List (List UInt8))×Int×Int×(List Ab))) :=
 if (decide (s23.1<(a0.Store.Chains.length:Int))) then((Be (Jh a0 s23) fuel (0,s23.2.1,s23.2.2.1,s23.2.2.2.1,([]:List Ai))).bind λe31=>Sd s23 e31) else(some (.brk (s23.2.1,s23.2.2.1,s23.2.2.2.1,s23.2.2.2.2)))
def Oi (a0:Aa):Option Aa :=
 (Be (Jn a0) fuel (0,a0.Store.Keys,a0.Store.Ts,a0.Next,([]:List Ab))).bind λe32=>Tz a0 e32
noncomputable def c15:CT:=vK1 15 [.st 14] (.st 14) ⟨[],[]⟩ (⟨λn=>match n with
  | 27=>some (lF ⟨[(13,.v (.int .i64))],[.keep,.keep,.box [.v (.sl (.sl .u8)),.own 3,.v (.int .i64),.own 4,.own 5,.own 6,.own 7,.v (.int .i64)],.keep,.keep,.keep,.keep,.arr 127 6 0 ((.st 13))]⟩ 10 ⟨[],[.keep,.keep,.box [.v (.sl (.sl .u8)),.own 3,.v (.int .i64),.own 4,.own 5,.own 6,.own 7,.v (.int .i64)],.keep,.keep,.keep,.keep,.arr 127 6 0 ((.st 13))]⟩ false)
  | 22=>some (lF ⟨[(11,.v (.int .i64))],[.keep,.keep,.box [.v (.sl (.sl .u8)),.own 3,.v (.int .i64),.own 4,.own 5,.own 6,.nil,.v (.int .i64)],.keep,.keep,.keep,.arr 146 4 0 ((.st 11))]⟩ 8 ⟨[],[.keep,.keep,.box [.v (.sl (.sl .u8)),.own 3,.v (.int .i64),.own 4,.own 5,.own 6,.nil,.v (.int .i64)],.keep,.keep,.keep,.arr 146 4 0 ((.st 11))]⟩ false)
  | 18=>some (lF ⟨[(10,.v (.int .i64))],[.keep,.keep,.box [.v (.sl (.sl .u8)),.own 3,.v (.int .i64),.own 4,.own 5,.nil,.nil,.v (.int .i64)],.keep,.keep,.arr 143 4 0 ((.st 7))]⟩ 6 ⟨[],[.keep,.keep,.box [.v (.sl (.sl .u8)),.own 3,.v (.int .i64),.own 4,.own 5,.nil,.nil,.v (.int .i64)],.keep,.keep,.arr 143 4 0 ((.st 7))]⟩ false)
  | 13=>some (lF ⟨[(8,.v (.int .i64))],[.keep,.keep,.box [.v (.sl (.sl .u8)),.own 3,.v (.int .i64),.own 4,.nil,.nil,.nil,.v (.int .i64)],.keep,.arr 140 8 0 ((.st 9))]⟩ 4 ⟨[],[.keep,.keep,.box [.v (.sl (.sl .u8)),.own 3,.v (.int .i64),.own 4,.nil,.nil,.nil,.v (.int .i64)],.keep,.arr 140 8 0 ((.st 9))]⟩ false)
  | 3=>some (lF ⟨[(4,.v (.int .i64))],[.keep,.keep,.box [.v (.sl (.sl .u8)),.own 3,.v (.int .i64),.nil,.nil,.nil,.nil,.v (.int .i64)],.arr 131 1 0 ((.st 5))]⟩ 0 ⟨[],[.keep,.keep,.box [.v (.sl (.sl .u8)),.own 3,.v (.int .i64),.nil,.nil,.nil,.nil,.v (.int .i64)],.arr 131 1 0 ((.st 5))]⟩ false)
  | 7=>some (lF ⟨[(6,.v (.int .i64))],[.keep,.keep,.box [.v (.sl (.sl .u8)),.own 3,.v (.int .i64),.nil,.nil,.nil,.nil,.v (.int .i64)],.keep,.box [.own 5],.arr 137 3 0 ((.st 4))]⟩ 2 ⟨[],[.keep,.keep,.box [.v (.sl (.sl .u8)),.own 3,.v (.int .i64),.nil,.nil,.nil,.nil,.v (.int .i64)],.keep,.box [.own 5],.arr 137 3 0 ((.st 4))]⟩ false)
  | _=>none,λn=>match n with
  | 3=>[.b 2 1 131 1 (.st 5)]
  | 13=>[.b 2 3 140 8 (.st 9)]
  | 18=>[.b 2 4 143 4 (.st 7)]
  | 22=>[.b 2 5 146 4 (.st 11)]
  | 27=>[.b 2 6 127 6 (.st 13)]
  | 7=>[.b 4 0 137 3 (.st 4)]
  | _=>[]⟩) Tryz.func15 (λa=>Oi a.1)
def Wl (a0:Ai) (a1:Ai):Option Bool :=
 if (decide (a0.Ts=a1.Ts)) then(if (a0.Del==a1.Del) then(some (a0.Val==a1.Val)) else(some false)) else(some false)
noncomputable def Bes:CT:=vK1 179 [.st 4,.st 4] .bool ⟨[],[]⟩ anN Tryz.func179 (λa=>Wl a.1 a.2.1)
def Ad7 (b1:Unit):Option Bool :=
 some true
def Vf (a0:List Ai) (a1:List Ai) (s2:Int):Option (LR (Int) (Unit) (Bool)) :=
 if (decide (s2<(a0.length:Int))) then((idx a0 s2).bind λu3=>(idx a1 s2).bind λu4=>(Wl u3 u4).bind λv5=>if (!v5) then(some (.ret false)) else(some (.cont (wI (s2+1))))) else(some (.brk ()))
def Qh (a0:List Ai) (a1:List Ai):Option Bool :=
 if (!decide ((a0.length:Int)=(a1.length:Int))) then(some false) else((B7 (Vf a0 a1) fuel 0).bind λx=>match x with | .inl r=>some r | .inr e6=>Ad7 e6)
noncomputable def Beg:CT:=vK1 104 [.sl (.st 4),.sl (.st 4)] .bool ⟨[Bes],[]⟩ (⟨λn=>match n with
  | 4=>some (lF ⟨[(5,.v (.int .i64))],[]⟩ 0 ⟨[],[]⟩ true)
  | _=>none,λ_=>[]⟩) Tryz.func104 (λa=>Qh a.1 a.2.1)
def Af0 (b3:Unit):Option Bool :=
 some true
def Xj (a0:Ao) (a1:Ao) (s4:Int):Option (LR (Int) (Unit) (Bool)) :=
 if (decide (s4<(a0.Chains.length:Int))) then((idx a0.Chains s4).bind λu5=>(idx a1.Chains s4).bind λu6=>(Qh u5.L u6.L).bind λv7=>if (!v7) then(some (.ret false)) else(some (.cont (wI (s4+1))))) else(some (.brk ()))
def Wq (a0:Ao) (a1:Ao) (b2:Unit):Option Bool :=
 (B7 (Xj a0 a1) fuel 0).bind λx=>match x with | .inl r=>some r | .inr e8=>Af0 e8
def Wv (a0:Ao) (a1:Ao) (s9:Int):Option (LR (Int) (Unit) (Bool)) :=
 if (decide (s9<(a0.Keys.length:Int))) then((idx a0.Keys s9).bind λu10=>(idx a1.Keys s9).bind λu11=>if (!(u10==u11)) then(some (.ret false)) else(some (.cont (wI (s9+1))))) else(some (.brk ()))
def W2 (a0:Ao) (a1:Ao) (b1:Unit):Option Bool :=
 (B7 (Wv a0 a1) fuel 0).bind λx=>match x with | .inl r=>some r | .inr e12=>Wq a0 a1 e12
def Xw (a0:Ao) (a1:Ao):Option Bool :=
 if (!decide ((a0.Keys.length:Int)=(a1.Keys.length:Int))) then(some false) else(if (!decide ((a0.Chains.length:Int)=(a1.Chains.length:Int))) then(some false) else(if (!decide (a0.Ts=a1.Ts)) then(some false) else(W2 a0 a1 ())))
noncomputable def c41:CT:=vK1 41 [.st 6,.st 6] .bool ⟨[Beg],[]⟩ (⟨λn=>match n with
  | 9=>some (lF ⟨[(6,.v (.int .i64))],[.keep,.keep]⟩ 2 ⟨[],[.keep,.keep]⟩ true)
  | 4=>some (lF ⟨[(5,.v (.int .i64))],[.keep,.keep]⟩ 0 ⟨[],[.keep,.keep]⟩ true)
  | _=>none,λ_=>[]⟩) Tryz.func41 (λa=>Xw a.1 a.2.1)
def Aee (b1:Unit):Option Bool :=
 some true
def Va (a0:Am) (a1:Am) (s2:Int):Option (LR (Int) (Unit) (Bool)) :=
 if (decide (s2<(a0.L.length:Int))) then((idx a0.L s2).bind λu3=>(idx a1.L s2).bind λu4=>(Eo u3 u4).bind λv5=>if (!v5) then(some (.ret false)) else(some (.cont (wI (s2+1))))) else(some (.brk ()))
def Qp (a0:Am) (a1:Am):Option Bool :=
 if (!decide ((a0.L.length:Int)=(a1.L.length:Int))) then(some false) else((B7 (Va a0 a1) fuel 0).bind λx=>match x with | .inl r=>some r | .inr e6=>Aee e6)
noncomputable def Bdr:CT:=vK1 105 [.st 8,.st 8] .bool ⟨[Ba2],[]⟩ (⟨λn=>match n with
  | 4=>some (lF ⟨[(5,.v (.int .i64))],[.keep,.keep]⟩ 0 ⟨[],[.keep,.keep]⟩ true)
  | _=>none,λ_=>[]⟩) Tryz.func105 (λa=>Qp a.1 a.2.1)
def Abw (b2:Unit):Option Bool :=
 some true
def R7 (a0:Ag) (a1:Ag) (s3:Int):Option (LR (Int) (Unit) (Bool)) :=
 if (decide (s3<(a0.Keys.length:Int))) then((idx a0.Keys s3).bind λu4=>(idx a1.Keys s3).bind λu5=>if (!(u4==u5)) then(some (.ret false)) else(some (.cont (wI (s3+1))))) else(some (.brk ()))
def Sn (a0:Ag) (a1:Ag) (b1:Unit):Option Bool :=
 (B7 (R7 a0 a1) fuel 0).bind λx=>match x with | .inl r=>some r | .inr e6=>Abw e6
def M4 (a0:Ag) (a1:Ag):Option Bool :=
 if (!decide (a0.ID=a1.ID)) then(some false) else(if (!decide (a0.Begin=a1.Begin)) then(some false) else(if (!decide (a0.End=a1.End)) then(some false) else(if (!decide (a0.State=a1.State)) then(some false) else(if (!(a0.In==a1.In)) then(some false) else(if (!(a0.Out==a1.Out)) then(some false) else(if (!(a0.RO==a1.RO)) then(some false) else(if (!decide ((a0.Keys.length:Int)=(a1.Keys.length:Int))) then(some false) else(Sn a0 a1 ()))))))))
noncomputable def Bge:CT:=vK1 106 [.st 9,.st 9] .bool ⟨[],[]⟩ (⟨λn=>match n with
  | 4=>some (lF ⟨[(5,.v (.int .i64))],[.keep,.keep]⟩ 0 ⟨[],[.keep,.keep]⟩ true)
  | _=>none,λ_=>[]⟩) Tryz.func106 (λa=>M4 a.1 a.2.1)
def Ae8 (b2:Unit):Option Bool :=
 some true
def Xc (a0:Af) (a1:Af) (s3:Int):Option (LR (Int) (Unit) (Bool)) :=
 if (decide (s3<(a0.Txs.length:Int))) then((idx a0.Txs s3).bind λu4=>(idx a1.Txs s3).bind λu5=>(M4 u4 u5).bind λv6=>if (!v6) then(some (.ret false)) else(some (.cont (wI (s3+1))))) else(some (.brk ()))
def Wb (a0:Af) (a1:Af) (b1:Unit):Option Bool :=
 (B7 (Xc a0 a1) fuel 0).bind λx=>match x with | .inl r=>some r | .inr e7=>Ae8 e7
def Xp (a0:Af) (a1:Af):Option Bool :=
 if (!decide ((a0.Txs.length:Int)=(a1.Txs.length:Int))) then(some false) else((Qp a0.Reads a1.Reads).bind λv8=>if (!v8) then(some false) else(Wb a0 a1 ()))
noncomputable def c42:CT:=vK1 42 [.st 10,.st 10] .bool ⟨[Bdr,Bge],[]⟩ (⟨λn=>match n with
  | 4=>some (lF ⟨[(5,.v (.int .i64))],[.keep,.keep]⟩ 0 ⟨[],[.keep,.keep]⟩ true)
  | _=>none,λ_=>[]⟩) Tryz.func42 (λa=>Xp a.1 a.2.1)
def Wg (b1:Unit):Option Bool :=
 some true
def Rw (a0:Ah) (a1:Ah) (s2:Int):Option (LR (Int) (Unit) (Bool)) :=
 if (decide (s2<(a0.L.length:Int))) then((idx a0.L s2).bind λu3=>(idx a1.L s2).bind λu4=>if (!((decide (u3.Tok=u4.Tok))&&((decide (u3.Attempt=u4.Attempt))&&((decide (u3.State=u4.State))&&((decide (u3.Ts=u4.Ts))&&true))))) then(some (.ret false)) else(some (.cont (wI (s2+1))))) else(some (.brk ()))
def Sy (a0:Ah) (a1:Ah):Option Bool :=
 if (!decide ((a0.L.length:Int)=(a1.L.length:Int))) then(some false) else((B7 (Rw a0 a1) fuel 0).bind λx=>match x with | .inl r=>some r | .inr e5=>Wg e5)
theorem Aha {a0:Ah} {a1:Ah} {r:Bool} (h:Sy a0 a1=some r):Bc Qx0 43 [.agg [SL a0.L Bs],.agg [SL a1.L Bs]] (·=L7 (.b r)):=by
 refine Cg Tryz.func43 R (nt:=31) R (Nbl R) ?_
 intro w0 S0
 refine crs R (Fs (crs R (ccI h R (λh=>?_) (λh=>?_))))
 ·refine crs R (crt ?_)
  cases SJ h
  exact dnT R R R R
 ·refine csn (Fs (crs R (cj (Unit) (λb1=>[]) (λb1=>[.box [SL a0.L Bs],.box [SL a1.L Bs]]) (λb1=>Wg b1=some r) fR (λb1 h=>?_) ?_)))
  ·refine crs R (Pj ?_)
   cases SJ h
   exact dnT R R R R
  ·refine Jf ?_
   obtain⟨x2,hx2,ho2⟩:=Ap h
   refine lpn (α:=Int) (λg=>[(2,L7 (.lp 0 0)),(3,L7 (.lp 1 0)),(5,L7 (Ii6 g.2))]) (λg=>[.box [SL a0.L Bs],.box [SL a1.L Bs]]) (λg=>B7 (Rw a0 a1) g.1 g.2=some x2) (fuel,0) hx2 R R fR ?_
   rintro⟨n2,s2⟩ h
   obtain⟨n2,y2,rfl,h,hk2⟩:=Aae h
   refine Fs (crs R (ccI h R (λh=>?_) (λh=>?_)))
   ·refine csn (Fs (Jf (Fs ?_)))
    refine cdn mixed (by kernel_rfl) ?_
    refine dv R (Aw Aze R) (dv R (l1 Bc6 R R R) (dv R (Du R) ?_))
    obtain⟨u3,hu3,h⟩:=Ap h
    refine dv R (Ny (f:=Bs) Bb1 fR R R R R hu3) ?_
    refine dv R (D9 (ys:=[Ii6 u3.Tok,Ii6 u3.Attempt,Ii6 u3.State,Ii6 u3.Ts]) A53 R (.cp _) R R) (dv R (Aw Aze R) (dv R (l1 Bc6 R R R) (dv R (Du R) ?_)))
    obtain⟨u4,hu4,h⟩:=Ap h
    refine dv R (Ny (f:=Bs) Bb1 fR R R R R hu4) ?_
    refine dv R (D9 (ys:=[Ii6 u4.Tok,Ii6 u4.Attempt,Ii6 u4.State,Ii6 u4.Ts]) A53 R (.cp _) R R) (dv R (Asf Bae R R R R R) (Awg (A1 (ccI h R (λh=>?_) (λh=>?_)))))
    ·refine crs R (Pj (br5 ?_))
     cases SJ h
     obtain rfl:Sum.inl _=x2:=hk2
     obtain rfl:=zF ho2
     exact dnT R R R R
    ·refine cbn (cgs R ?_)
     cases SJ h
     exact lx (n2,(wI (s2+1))) hk2 R R
   ·refine cx5 ?_
    cases SJ h
    obtain rfl:_=x2:=hk2
    exact⟨(),_,ho2,trivial,R⟩
noncomputable def c43:CT:=⟨43,[.st 12,.st 12],[.bool],Bool,λr=>(r,()),λa=>Sy a.1 a.2.1,λ_ _ h=>Aha h⟩
def Afm (b1:Unit):Option Bool :=
 some true
def W3 (a0:List Ae) (a1:List Ae) (s2:Int):Option (LR (Int) (Unit) (Bool)) :=
 if (decide (s2<(a0.length:Int))) then((idx a0 s2).bind λu3=>(idx a1 s2).bind λu4=>if (!(u3.Key==u4.Key)) then(some (.ret false)) else((idx a0 s2).bind λu5=>(idx a1 s2).bind λu6=>if (!(u5.Val==u6.Val)) then(some (.ret false)) else((idx a0 s2).bind λu7=>(idx a1 s2).bind λu8=>if (!(u7.Del==u8.Del)) then(some (.ret false)) else(some (.cont (wI (s2+1))))))) else(some (.brk ()))
def Sp (a0:List Ae) (a1:List Ae):Option Bool :=
 if (!decide ((a0.length:Int)=(a1.length:Int))) then(some false) else((B7 (W3 a0 a1) fuel 0).bind λx=>match x with | .inl r=>some r | .inr e9=>Afm e9)
noncomputable def c44:CT:=vK1 44 [.sl (.st 0),.sl (.st 0)] .bool ⟨[],[]⟩ (⟨λn=>match n with
  | 4=>some (lF ⟨[(5,.v (.int .i64))],[]⟩ 0 ⟨[],[]⟩ true)
  | _=>none,λ_=>[]⟩) Tryz.func44 (λa=>Sp a.1 a.2.1)
def Aff (b2:Unit):Option Bool :=
 some true
def V1 (a0:Aa) (a1:Aa) (s3:Int):Option (LR (Int) (Unit) (Bool)) :=
 if (decide (s3<(a0.Open.length:Int))) then((idx a0.Open s3).bind λu4=>(idx a1.Open s3).bind λu5=>if (!decide (u4.ID=u5.ID)) then(some (.ret false)) else(if (!decide (u4.Token=u5.Token)) then(some (.ret false)) else(if (!decide (u4.Attempt=u5.Attempt)) then(some (.ret false)) else(if (!decide (u4.Snap=u5.Snap)) then(some (.ret false)) else(if (!(u4.RO==u5.RO)) then(some (.ret false)) else((Sp u4.Buf.L u5.Buf.L).bind λv6=>if (!v6) then(some (.ret false)) else(some (.cont (wI (s3+1)))))))))) else(some (.brk ()))
def Vx (a0:Aa) (a1:Aa) (b1:Unit):Option Bool :=
 (B7 (V1 a0 a1) fuel 0).bind λx=>match x with | .inl r=>some r | .inr e7=>Aff e7
def R9 (a0:Aa) (a1:Aa):Option Bool :=
 (Xw a0.Store a1.Store).bind λv8=>if (!v8) then(some false) else((Xp a0.Cert a1.Cert).bind λv9=>if (!v9) then(some false) else((Sy a0.Toks a1.Toks).bind λv10=>if (!v10) then(some false) else(if (!decide (a0.Next=a1.Next)) then(some false) else(if (!decide ((a0.Open.length:Int)=(a1.Open.length:Int))) then(some false) else(Vx a0 a1 ())))))
noncomputable def c14:CT:=vK1 14 [.st 14,.st 14] .bool ⟨[c41,c42,c43,c44],[]⟩ (⟨λn=>match n with
  | 4=>some (lF ⟨[(5,.v (.int .i64))],[.keep,.keep]⟩ 0 ⟨[],[.keep,.keep]⟩ true)
  | _=>none,λ_=>[]⟩) Tryz.func14 (λa=>R9 a.1 a.2.1)
def Mr (v1:Bool) (b3:Aa×Aa):Option Bool :=
 if v1 then((Ez b3.1).bind λv4=>some v4) else(some false)
def Il (s5:Int×Aa×Aa) (v8:Aa×B8) (v10:Aa×B8) (b12:Unit):Option (LR (Int×Aa×Aa) (Aa×Aa) (Bool)) :=
 some (.cont ((wI (s5.1+1)),v8.1,v10.1))
def Q0 (s5:Int×Aa×Aa) (v8:Aa×B8) (v10:Aa×B8) (b11:Unit):Option (LR (Int×Aa×Aa) (Aa×Aa) (Bool)) :=
 if (decide (v8.2.e_=1)) then(if (decide ((v8.1.Open.length:Int)=0)) then(if (decide (v8.1.Next=0)) then(some (.cont ((wI (s5.1+1)),s5.2.1,s5.2.2))) else(Il s5 v8 v10 ())) else(Il s5 v8 v10 ())) else(Il s5 v8 v10 ())
def Jg (a0:List Ic) (s5:Int×Aa×Aa) (b6:Int):Option (LR (Int×Aa×Aa) (Aa×Aa) (Bool)) :=
 (idx a0 s5.1).bind λu7=>(Qu s5.2.1 u7 b6).bind λv8=>(idx a0 s5.1).bind λu9=>(Uu s5.2.2 u9 b6).bind λv10=>(R6 v8.2 v10.2).bind λv13=>if (!v13) then(some (.ret false)) else((Oi v8.1).bind λv14=>(R9 v14 v10.1).bind λv15=>if (!v15) then(some (.ret false)) else(Q0 s5 v8 v10 ()))
def Mx (a0:List Ic) (s5:Int×Aa×Aa):Option (LR (Int×Aa×Aa) (Aa×Aa) (Bool)) :=
 if (decide (s5.1<(a0.length:Int))) then(if (decide (0<s5.2.2.Next)) then((idx a0 s5.1).bind λu16=>if s5.2.2.Next≠0 then(Jg a0 s5 ((wI ((BitVec.ofInt 64 u16.N &&& BitVec.ofInt 64 65535).toNat:Int)).tmod s5.2.2.Next)) else none) else(Jg a0 s5 0)) else(some (.brk (s5.2.1,s5.2.2)))
def Rl (a0:List Ic):Option Bool :=
 (R8).bind λv1=>(Qo a0).bind λv2=>if (!v2) then(some v1) else((B7 (Mx a0) fuel (0,Bh,Bh)).bind λx=>match x with | .inl r=>some r | .inr e18=>Mr v1 e18)
noncomputable def c3:CT:=vK1 3 [.sl (.st 15)] .bool ⟨[c9,c10,c11,c12,c13,c14,c15,c16],[]⟩ (⟨λn=>match n with
  | 7=>some ⟨⟨[(6,.v (.int .i64))],[.box [.v (.sl (.sl .u8)),.v (.sl (.st 5)),.v (.int .i64),.v (.sl (.st 9)),.v (.sl (.st 7)),.v (.sl (.st 11)),.v (.sl (.st 13)),.v (.int .i64)],.box [.v (.sl (.sl .u8)),.v (.sl (.st 5)),.v (.int .i64),.v (.sl (.st 9)),.v (.sl (.st 7)),.v (.sl (.st 11)),.v (.sl (.st 13)),.v (.int .i64)]]⟩,Int×Aa×Aa,λg=>((g.1,()),((g.2.1.Store.Keys,(g.2.1.Store.Chains,(g.2.1.Store.Ts,(g.2.1.Cert.Txs,(g.2.1.Cert.Reads.L,(g.2.1.Toks.L,(g.2.1.Open,(g.2.1.Next,())))))))),((g.2.2.Store.Keys,(g.2.2.Store.Chains,(g.2.2.Store.Ts,(g.2.2.Cert.Txs,(g.2.2.Cert.Reads.L,(g.2.2.Toks.L,(g.2.2.Open,(g.2.2.Next,())))))))),()))),λv=>(v.1.1,(Aa.mk (Ao.mk v.2.1.1 v.2.1.2.1 v.2.1.2.2.1) (Af.mk v.2.1.2.2.2.1 (Am.mk v.2.1.2.2.2.2.1)) (Ah.mk v.2.1.2.2.2.2.2.1) v.2.1.2.2.2.2.2.2.1 v.2.1.2.2.2.2.2.2.2.1),(Aa.mk (Ao.mk v.2.2.1.1 v.2.2.1.2.1 v.2.2.1.2.2.1) (Af.mk v.2.2.1.2.2.2.1 (Am.mk v.2.2.1.2.2.2.2.1)) (Ah.mk v.2.2.1.2.2.2.2.2.1) v.2.2.1.2.2.2.2.2.2.1 v.2.2.1.2.2.2.2.2.2.2.1)),λ_=>rfl,0,⟨[],[.box [.v (.sl (.sl .u8)),.v (.sl (.st 5)),.v (.int .i64),.v (.sl (.st 9)),.v (.sl (.st 7)),.v (.sl (.st 11)),.v (.sl (.st 13)),.v (.int .i64)],.box [.v (.sl (.sl .u8)),.v (.sl (.st 5)),.v (.int .i64),.v (.sl (.st 9)),.v (.sl (.st 7)),.v (.sl (.st 11)),.v (.sl (.st 13)),.v (.int .i64)]]⟩,Aa×Aa,λg=>((),((g.1.Store.Keys,(g.1.Store.Chains,(g.1.Store.Ts,(g.1.Cert.Txs,(g.1.Cert.Reads.L,(g.1.Toks.L,(g.1.Open,(g.1.Next,())))))))),((g.2.Store.Keys,(g.2.Store.Chains,(g.2.Store.Ts,(g.2.Cert.Txs,(g.2.Cert.Reads.L,(g.2.Toks.L,(g.2.Open,(g.2.Next,())))))))),()))),λv=>((Aa.mk (Ao.mk v.2.1.1 v.2.1.2.1 v.2.1.2.2.1) (Af.mk v.2.1.2.2.2.1 (Am.mk v.2.1.2.2.2.2.1)) (Ah.mk v.2.1.2.2.2.2.2.1) v.2.1.2.2.2.2.2.2.1 v.2.1.2.2.2.2.2.2.2.1),(Aa.mk (Ao.mk v.2.2.1.1 v.2.2.1.2.1 v.2.2.1.2.2.1) (Af.mk v.2.2.1.2.2.2.1 (Am.mk v.2.2.1.2.2.2.2.1)) (Ah.mk v.2.2.1.2.2.2.2.2.1) v.2.2.1.2.2.2.2.2.2.1 v.2.2.1.2.2.2.2.2.2.2.1)),λ_=>rfl,true,[]⟩
  | _=>none,λ_=>[]⟩) Tryz.func3 (λa=>Rl a.1)
end Go.Proofs.YtkblaobhhoebaaaGreat.Abs
