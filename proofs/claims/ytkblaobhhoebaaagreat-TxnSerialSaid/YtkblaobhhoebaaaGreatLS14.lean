/-
 The library's rows.
-/
import Derived.Test.YtkblaobhhoebaaaGreatLT14
import Derived.Test.YtkblaobhhoebaaaGreatLAbsC
set_option linter.unusedVariables false
set_option linter.unusedSimpArgs false
namespace Go.Proofs.YtkblaobhhoebaaaGreat.Abs
theorem Wg (n:Int) (h0:0<=n) (h1:n*64<=140737488355328):Kz n=some []:=by
 unfold Kz
 rw[ifq]
 unfold Ln
 rw[X3 (n:=0-0) dcd dcd,show n-(0-0)=n from by omega,wIo]
 by_cases hn:0<n
 ·rw[ifp hn,if_pos ⟨hn,by omega⟩,if_pos ⟨xQ _,xV _⟩]
  rfl
 ·rw[ifn hn]
theorem U0 (xss:List (List Ao)) (h:xss.flatten.length*64<=140737488355328) (hl:xss.length<=1000000000000000000):Je xss=some xss.flatten:=by
 have hpre:∀ i,(xss.take i).flatten.length<=xss.flatten.length:=λi=>by
  have e:xss.flatten.length=(xss.take i).flatten.length+(xss.drop i).flatten.length:=by
   rw[<- zH,<- xX,xI]
  omega
 have hstep:∀ i (hi:i<xss.length),(xss.take (i+1)).flatten=(xss.take i).flatten++xss[i]:=λi hi=>by
  rw[zV hi,xX];simp
 obtain⟨v,hv,rfl⟩:=Cj (f:=E0 xss) (P:=λs=>∃ i,i<=xss.length/\s=(((xss.take i).flatten.length:Int),(i:Int))) (μ:=λs=>xss.length-s.2.toNat) (R:=λv=>v=(xss.flatten.length:Int)) (by
  rintro _ ⟨i,hi,rfl⟩
  rcases zU i xss.length with hlt|hge
  ·left
   have h1:=hpre (i+1)
   rw[hstep i hlt,zH] at h1
   refine⟨(((xss.take (i+1)).flatten.length:Int),((i+1:Nat):Int)),?_,⟨i+1,hlt,rfl⟩,by simp only[zT];omega⟩
   unfold E0
   rw[ifp (by show(i:Int)<xss.length;omega)]
   dsimp only
   rw[A3,zC hlt,zA,wIo,wIo,ifq,hstep i hlt,zH,xW,xW]
   rfl
  ·right
   have e:i=xss.length:=by omega
   subst e
   refine⟨_,?_,rfl⟩
   unfold E0
   rw[ifn (kH _),yJ]) fuel (0,0) ⟨0,zZ _,by simp⟩ (Bs (by show xss.length-0<=_;omega))
 obtain⟨w,hw,rfl⟩:=Cj (f:=Ew xss) (P:=λs=>∃ i,i<=xss.length/\s=((i:Int),(xss.take i).flatten)) (μ:=λs=>xss.length-s.1.toNat) (R:=λv=>v=xss.flatten) (by
  rintro _ ⟨i,hi,rfl⟩
  rcases zU i xss.length with hlt|hge
  ·left
   have h1:=hpre (i+1)
   rw[hstep i hlt,zH] at h1
   refine⟨(((i+1:Nat):Int),(xss.take (i+1)).flatten),?_,⟨i+1,hlt,rfl⟩,by simp only[zT];omega⟩
   unfold Ew
   rw[ifp (by show(i:Int)<xss.length;omega)]
   dsimp only
   rw[A3,zC hlt,zA,wIo,if_pos omg,hstep i hlt,xW]
   rfl
  ·right
   have e:i=xss.length:=by omega
   subst e
   refine⟨_,?_,rfl⟩
   unfold Ew
   rw[ifn (kH _),yJ]) fuel (0,([]:List Ao)) ⟨0,zZ _,by simp⟩ (Bs (by show xss.length-0<=_;omega))
 unfold Je
 rw[hv,zA]
 unfold Ka
 rw[Wg _ omg omg,zA,hw,zA]
 rfl
theorem Wa (n:Int) (h0:0<=n) (h1:n*64<=140737488355328):K9 n=some []:=by
 unfold K9
 rw[ifq]
 unfold Lq
 rw[X3 (n:=0-0) dcd dcd,show n-(0-0)=n from by omega,wIo]
 by_cases hn:0<n
 ·rw[ifp hn,if_pos ⟨hn,by omega⟩,if_pos ⟨xQ _,xV _⟩]
  rfl
 ·rw[ifn hn]
theorem Qr (xss:List (List Ax)) (h:xss.flatten.length*64<=140737488355328) (hl:xss.length<=1000000000000000000):Ku xss=some xss.flatten:=by
 have hpre:∀ i,(xss.take i).flatten.length<=xss.flatten.length:=λi=>by
  have e:xss.flatten.length=(xss.take i).flatten.length+(xss.drop i).flatten.length:=by
   rw[<- zH,<- xX,xI]
  omega
 have hstep:∀ i (hi:i<xss.length),(xss.take (i+1)).flatten=(xss.take i).flatten++xss[i]:=λi hi=>by
  rw[zV hi,xX];simp
 obtain⟨v,hv,rfl⟩:=Cj (f:=E9 xss) (P:=λs=>∃ i,i<=xss.length/\s=(((xss.take i).flatten.length:Int),(i:Int))) (μ:=λs=>xss.length-s.2.toNat) (R:=λv=>v=(xss.flatten.length:Int)) (by
  rintro _ ⟨i,hi,rfl⟩
  rcases zU i xss.length with hlt|hge
  ·left
   have h1:=hpre (i+1)
   rw[hstep i hlt,zH] at h1
   refine⟨(((xss.take (i+1)).flatten.length:Int),((i+1:Nat):Int)),?_,⟨i+1,hlt,rfl⟩,by simp only[zT];omega⟩
   unfold E9
   rw[ifp (by show(i:Int)<xss.length;omega)]
   dsimp only
   rw[A3,zC hlt,zA,wIo,wIo,ifq,hstep i hlt,zH,xW,xW]
   rfl
  ·right
   have e:i=xss.length:=by omega
   subst e
   refine⟨_,?_,rfl⟩
   unfold E9
   rw[ifn (kH _),yJ]) fuel (0,0) ⟨0,zZ _,by simp⟩ (Bs (by show xss.length-0<=_;omega))
 obtain⟨w,hw,rfl⟩:=Cj (f:=Fg xss) (P:=λs=>∃ i,i<=xss.length/\s=((i:Int),(xss.take i).flatten)) (μ:=λs=>xss.length-s.1.toNat) (R:=λv=>v=xss.flatten) (by
  rintro _ ⟨i,hi,rfl⟩
  rcases zU i xss.length with hlt|hge
  ·left
   have h1:=hpre (i+1)
   rw[hstep i hlt,zH] at h1
   refine⟨(((i+1:Nat):Int),(xss.take (i+1)).flatten),?_,⟨i+1,hlt,rfl⟩,by simp only[zT];omega⟩
   unfold Fg
   rw[ifp (by show(i:Int)<xss.length;omega)]
   dsimp only
   rw[A3,zC hlt,zA,wIo,if_pos omg,hstep i hlt,xW]
   rfl
  ·right
   have e:i=xss.length:=by omega
   subst e
   refine⟨_,?_,rfl⟩
   unfold Fg
   rw[ifn (kH _),yJ]) fuel (0,([]:List Ax)) ⟨0,zZ _,by simp⟩ (Bs (by show xss.length-0<=_;omega))
 unfold Ku
 rw[hv,zA]
 unfold Lv
 rw[Wa _ omg omg,zA,hw,zA]
 rfl
theorem Vy (n:Int) (h0:0<=n) (h1:n*1<=140737488355328):K6 n=some []:=by
 unfold K6
 rw[ifq]
 unfold Lh
 rw[X3 (n:=0-0) dcd dcd,show n-(0-0)=n from by omega,wIo]
 by_cases hn:0<n
 ·rw[ifp hn,if_pos ⟨hn,by omega⟩,if_pos ⟨xQ _,xV _⟩]
  rfl
 ·rw[ifn hn]
theorem Tv (xss:List (List UInt8)) (h:xss.flatten.length*1<=140737488355328) (hl:xss.length<=1000000000000000000):Ih xss=some xss.flatten:=by
 have hpre:∀ i,(xss.take i).flatten.length<=xss.flatten.length:=λi=>by
  have e:xss.flatten.length=(xss.take i).flatten.length+(xss.drop i).flatten.length:=by
   rw[<- zH,<- xX,xI]
  omega
 have hstep:∀ i (hi:i<xss.length),(xss.take (i+1)).flatten=(xss.take i).flatten++xss[i]:=λi hi=>by
  rw[zV hi,xX];simp
 obtain⟨v,hv,rfl⟩:=Cj (f:=D7 xss) (P:=λs=>∃ i,i<=xss.length/\s=(((xss.take i).flatten.length:Int),(i:Int))) (μ:=λs=>xss.length-s.2.toNat) (R:=λv=>v=(xss.flatten.length:Int)) (by
  rintro _ ⟨i,hi,rfl⟩
  rcases zU i xss.length with hlt|hge
  ·left
   have h1:=hpre (i+1)
   rw[hstep i hlt,zH] at h1
   refine⟨(((xss.take (i+1)).flatten.length:Int),((i+1:Nat):Int)),?_,⟨i+1,hlt,rfl⟩,by simp only[zT];omega⟩
   unfold D7
   rw[ifp (by show(i:Int)<xss.length;omega)]
   dsimp only
   rw[A3,zC hlt,zA,wIo,wIo,ifq,hstep i hlt,zH,xW,xW]
   rfl
  ·right
   have e:i=xss.length:=by omega
   subst e
   refine⟨_,?_,rfl⟩
   unfold D7
   rw[ifn (kH _),yJ]) fuel (0,0) ⟨0,zZ _,by simp⟩ (Bs (by show xss.length-0<=_;omega))
 obtain⟨w,hw,rfl⟩:=Cj (f:=Ec xss) (P:=λs=>∃ i,i<=xss.length/\s=((i:Int),(xss.take i).flatten)) (μ:=λs=>xss.length-s.1.toNat) (R:=λv=>v=xss.flatten) (by
  rintro _ ⟨i,hi,rfl⟩
  rcases zU i xss.length with hlt|hge
  ·left
   have h1:=hpre (i+1)
   rw[hstep i hlt,zH] at h1
   refine⟨(((i+1:Nat):Int),(xss.take (i+1)).flatten),?_,⟨i+1,hlt,rfl⟩,by simp only[zT];omega⟩
   unfold Ec
   rw[ifp (by show(i:Int)<xss.length;omega)]
   dsimp only
   rw[A3,zC hlt,zA,wIo,if_pos omg,hstep i hlt,xW]
   rfl
  ·right
   have e:i=xss.length:=by omega
   subst e
   refine⟨_,?_,rfl⟩
   unfold Ec
   rw[ifn (kH _),yJ]) fuel (0,([]:List UInt8)) ⟨0,zZ _,by simp⟩ (Bs (by show xss.length-0<=_;omega))
 unfold Ih
 rw[hv,zA]
 unfold I8
 rw[Vy _ omg omg,zA,hw,zA]
 rfl
theorem Vq (n:Int) (h0:0<=n) (h1:n*64<=140737488355328):Kx n=some []:=by
 unfold Kx
 rw[ifq]
 unfold Lm
 rw[X3 (n:=0-0) dcd dcd,show n-(0-0)=n from by omega,wIo]
 by_cases hn:0<n
 ·rw[ifp hn,if_pos ⟨hn,by omega⟩,if_pos ⟨xQ _,xV _⟩]
  rfl
 ·rw[ifn hn]
theorem Uk (xss:List (List Ap)) (h:xss.flatten.length*64<=140737488355328) (hl:xss.length<=1000000000000000000):F9 xss=some xss.flatten:=by
 have hpre:∀ i,(xss.take i).flatten.length<=xss.flatten.length:=λi=>by
  have e:xss.flatten.length=(xss.take i).flatten.length+(xss.drop i).flatten.length:=by
   rw[<- zH,<- xX,xI]
  omega
 have hstep:∀ i (hi:i<xss.length),(xss.take (i+1)).flatten=(xss.take i).flatten++xss[i]:=λi hi=>by
  rw[zV hi,xX];simp
 obtain⟨v,hv,rfl⟩:=Cj (f:=Ed xss) (P:=λs=>∃ i,i<=xss.length/\s=(((xss.take i).flatten.length:Int),(i:Int))) (μ:=λs=>xss.length-s.2.toNat) (R:=λv=>v=(xss.flatten.length:Int)) (by
  rintro _ ⟨i,hi,rfl⟩
  rcases zU i xss.length with hlt|hge
  ·left
   have h1:=hpre (i+1)
   rw[hstep i hlt,zH] at h1
   refine⟨(((xss.take (i+1)).flatten.length:Int),((i+1:Nat):Int)),?_,⟨i+1,hlt,rfl⟩,by simp only[zT];omega⟩
   unfold Ed
   rw[ifp (by show(i:Int)<xss.length;omega)]
   dsimp only
   rw[A3,zC hlt,zA,wIo,wIo,ifq,hstep i hlt,zH,xW,xW]
   rfl
  ·right
   have e:i=xss.length:=by omega
   subst e
   refine⟨_,?_,rfl⟩
   unfold Ed
   rw[ifn (kH _),yJ]) fuel (0,0) ⟨0,zZ _,by simp⟩ (Bs (by show xss.length-0<=_;omega))
 obtain⟨w,hw,rfl⟩:=Cj (f:=D8 xss) (P:=λs=>∃ i,i<=xss.length/\s=((i:Int),(xss.take i).flatten)) (μ:=λs=>xss.length-s.1.toNat) (R:=λv=>v=xss.flatten) (by
  rintro _ ⟨i,hi,rfl⟩
  rcases zU i xss.length with hlt|hge
  ·left
   have h1:=hpre (i+1)
   rw[hstep i hlt,zH] at h1
   refine⟨(((i+1:Nat):Int),(xss.take (i+1)).flatten),?_,⟨i+1,hlt,rfl⟩,by simp only[zT];omega⟩
   unfold D8
   rw[ifp (by show(i:Int)<xss.length;omega)]
   dsimp only
   rw[A3,zC hlt,zA,wIo,if_pos omg,hstep i hlt,xW]
   rfl
  ·right
   have e:i=xss.length:=by omega
   subst e
   refine⟨_,?_,rfl⟩
   unfold D8
   rw[ifn (kH _),yJ]) fuel (0,([]:List Ap)) ⟨0,zZ _,by simp⟩ (Bs (by show xss.length-0<=_;omega))
 unfold F9
 rw[hv,zA]
 unfold Jb
 rw[Vq _ omg omg,zA,hw,zA]
 rfl
theorem Wk (n:Int) (h0:0<=n) (h1:n*40<=140737488355328):K7 n=some []:=by
 unfold K7
 rw[ifq]
 unfold Ll
 rw[X3 (n:=0-0) dcd dcd,show n-(0-0)=n from by omega,wIo]
 by_cases hn:0<n
 ·rw[ifp hn,if_pos ⟨hn,by omega⟩,if_pos ⟨xQ _,xV _⟩]
  rfl
 ·rw[ifn hn]
theorem Ub (xss:List (List Ak)) (h:xss.flatten.length*40<=140737488355328) (hl:xss.length<=1000000000000000000):Ie xss=some xss.flatten:=by
 have hpre:∀ i,(xss.take i).flatten.length<=xss.flatten.length:=λi=>by
  have e:xss.flatten.length=(xss.take i).flatten.length+(xss.drop i).flatten.length:=by
   rw[<- zH,<- xX,xI]
  omega
 have hstep:∀ i (hi:i<xss.length),(xss.take (i+1)).flatten=(xss.take i).flatten++xss[i]:=λi hi=>by
  rw[zV hi,xX];simp
 obtain⟨v,hv,rfl⟩:=Cj (f:=D6 xss) (P:=λs=>∃ i,i<=xss.length/\s=(((xss.take i).flatten.length:Int),(i:Int))) (μ:=λs=>xss.length-s.2.toNat) (R:=λv=>v=(xss.flatten.length:Int)) (by
  rintro _ ⟨i,hi,rfl⟩
  rcases zU i xss.length with hlt|hge
  ·left
   have h1:=hpre (i+1)
   rw[hstep i hlt,zH] at h1
   refine⟨(((xss.take (i+1)).flatten.length:Int),((i+1:Nat):Int)),?_,⟨i+1,hlt,rfl⟩,by simp only[zT];omega⟩
   unfold D6
   rw[ifp (by show(i:Int)<xss.length;omega)]
   dsimp only
   rw[A3,zC hlt,zA,wIo,wIo,ifq,hstep i hlt,zH,xW,xW]
   rfl
  ·right
   have e:i=xss.length:=by omega
   subst e
   refine⟨_,?_,rfl⟩
   unfold D6
   rw[ifn (kH _),yJ]) fuel (0,0) ⟨0,zZ _,by simp⟩ (Bs (by show xss.length-0<=_;omega))
 obtain⟨w,hw,rfl⟩:=Cj (f:=D4 xss) (P:=λs=>∃ i,i<=xss.length/\s=((i:Int),(xss.take i).flatten)) (μ:=λs=>xss.length-s.1.toNat) (R:=λv=>v=xss.flatten) (by
  rintro _ ⟨i,hi,rfl⟩
  rcases zU i xss.length with hlt|hge
  ·left
   have h1:=hpre (i+1)
   rw[hstep i hlt,zH] at h1
   refine⟨(((i+1:Nat):Int),(xss.take (i+1)).flatten),?_,⟨i+1,hlt,rfl⟩,by simp only[zT];omega⟩
   unfold D4
   rw[ifp (by show(i:Int)<xss.length;omega)]
   dsimp only
   rw[A3,zC hlt,zA,wIo,if_pos omg,hstep i hlt,xW]
   rfl
  ·right
   have e:i=xss.length:=by omega
   subst e
   refine⟨_,?_,rfl⟩
   unfold D4
   rw[ifn (kH _),yJ]) fuel (0,([]:List Ak)) ⟨0,zZ _,by simp⟩ (Bs (by show xss.length-0<=_;omega))
 unfold Ie
 rw[hv,zA]
 unfold I9
 rw[Wk _ omg omg,zA,hw,zA]
 rfl
theorem Wd (n:Int) (h0:0<=n) (h1:n*32<=140737488355328):Km n=some []:=by
 unfold Km
 rw[ifq]
 unfold Lu
 rw[X3 (n:=0-0) dcd dcd,show n-(0-0)=n from by omega,wIo]
 by_cases hn:0<n
 ·rw[ifp hn,if_pos ⟨hn,by omega⟩,if_pos ⟨xQ _,xV _⟩]
  rfl
 ·rw[ifn hn]
theorem U6 (xss:List (List As)) (h:xss.flatten.length*32<=140737488355328) (hl:xss.length<=1000000000000000000):Jl xss=some xss.flatten:=by
 have hpre:∀ i,(xss.take i).flatten.length<=xss.flatten.length:=λi=>by
  have e:xss.flatten.length=(xss.take i).flatten.length+(xss.drop i).flatten.length:=by
   rw[<- zH,<- xX,xI]
  omega
 have hstep:∀ i (hi:i<xss.length),(xss.take (i+1)).flatten=(xss.take i).flatten++xss[i]:=λi hi=>by
  rw[zV hi,xX];simp
 obtain⟨v,hv,rfl⟩:=Cj (f:=Ex xss) (P:=λs=>∃ i,i<=xss.length/\s=(((xss.take i).flatten.length:Int),(i:Int))) (μ:=λs=>xss.length-s.2.toNat) (R:=λv=>v=(xss.flatten.length:Int)) (by
  rintro _ ⟨i,hi,rfl⟩
  rcases zU i xss.length with hlt|hge
  ·left
   have h1:=hpre (i+1)
   rw[hstep i hlt,zH] at h1
   refine⟨(((xss.take (i+1)).flatten.length:Int),((i+1:Nat):Int)),?_,⟨i+1,hlt,rfl⟩,by simp only[zT];omega⟩
   unfold Ex
   rw[ifp (by show(i:Int)<xss.length;omega)]
   dsimp only
   rw[A3,zC hlt,zA,wIo,wIo,ifq,hstep i hlt,zH,xW,xW]
   rfl
  ·right
   have e:i=xss.length:=by omega
   subst e
   refine⟨_,?_,rfl⟩
   unfold Ex
   rw[ifn (kH _),yJ]) fuel (0,0) ⟨0,zZ _,by simp⟩ (Bs (by show xss.length-0<=_;omega))
 obtain⟨w,hw,rfl⟩:=Cj (f:=Es xss) (P:=λs=>∃ i,i<=xss.length/\s=((i:Int),(xss.take i).flatten)) (μ:=λs=>xss.length-s.1.toNat) (R:=λv=>v=xss.flatten) (by
  rintro _ ⟨i,hi,rfl⟩
  rcases zU i xss.length with hlt|hge
  ·left
   have h1:=hpre (i+1)
   rw[hstep i hlt,zH] at h1
   refine⟨(((i+1:Nat):Int),(xss.take (i+1)).flatten),?_,⟨i+1,hlt,rfl⟩,by simp only[zT];omega⟩
   unfold Es
   rw[ifp (by show(i:Int)<xss.length;omega)]
   dsimp only
   rw[A3,zC hlt,zA,wIo,if_pos omg,hstep i hlt,xW]
   rfl
  ·right
   have e:i=xss.length:=by omega
   subst e
   refine⟨_,?_,rfl⟩
   unfold Es
   rw[ifn (kH _),yJ]) fuel (0,([]:List As)) ⟨0,zZ _,by simp⟩ (Bs (by show xss.length-0<=_;omega))
 unfold Jl
 rw[hv,zA]
 unfold J9
 rw[Wd _ omg omg,zA,hw,zA]
 rfl
theorem Va (xs:List As) (h:xs.length*32<=140737488355328):Jj xs=some xs:=by
 unfold Jj
 rw[if_pos (by simpa using h)]
 rfl
theorem P1 (xs:List Ae) (h:xs.length*56<=140737488355328):Jq xs=some xs:=by
 unfold Jq
 rw[if_pos (by simpa using h)]
 rfl
theorem Pv (xs:List Ax) (h:xs.length*64<=140737488355328):Jt xs=some xs:=by
 unfold Jt
 rw[if_pos (by simpa using h)]
 rfl
theorem U1 (xs:List Ak) (h:xs.length*40<=140737488355328):Jr xs=some xs:=by
 unfold Jr
 rw[if_pos (by simpa using h)]
 rfl
end Go.Proofs.YtkblaobhhoebaaaGreat.Abs
