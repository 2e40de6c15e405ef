/-
 The mathematics, part 1.
-/
import Derived.Test.YtkblaobhhoebaaaGreatQT14
import Derived.Test.YtkblaobhhoebaaaGreatQAbsC
import Derived.Test.YtkblaobhhoebaaaGreatQAbsD
set_option linter.unusedVariables false
set_option linter.unusedSimpArgs false
namespace Go.Proofs.YtkblaobhhoebaaaGreat.Abs
theorem Zo (n:Int) (h0:0<=n) (h1:n*64<=140737488355328):Ko n=some []:=by
 unfold Ko
 rw[ifq]
 unfold Pz
 rw[Zc (n:=0-0) dcd dcd,show n-(0-0)=n from by omega,wIo]
 by_cases hn:0<n
 ·rw[ifp hn,if_pos ⟨hn,by omega⟩,if_pos ⟨xS _,xZ _⟩]
  rfl
 ·rw[ifn hn]
theorem Py (xss:List (List Ag)) (h:xss.flatten.length*64<=140737488355328) (hl:xss.length<=1000000000000000000):F8 xss=some xss.flatten:=by
 have hpre:∀ i,(xss.take i).flatten.length<=xss.flatten.length:=λi=>by
  have e:xss.flatten.length=(xss.take i).flatten.length+(xss.drop i).flatten.length:=by
   rw[<- zI,<- xX,xP]
  omega
 have hstep:∀ i (hi:i<xss.length),(xss.take (i+1)).flatten=(xss.take i).flatten++xss[i]:=λi hi=>by
  rw[zO hi,xX];simp
 obtain⟨v,hv,rfl⟩:=Bo (f:=F4 xss) (P:=λs=>∃ i,i<=xss.length/\s=(((xss.take i).flatten.length:Int),(i:Int))) (μ:=λs=>xss.length-s.2.toNat) (R:=λv=>v=(xss.flatten.length:Int)) (by
  rintro _ ⟨i,hi,rfl⟩
  rcases zQ i xss.length with hlt|hge
  ·left
   have h1:=hpre (i+1)
   rw[hstep i hlt,zI] at h1
   refine⟨(((xss.take (i+1)).flatten.length:Int),((i+1:Nat):Int)),?_,⟨i+1,hlt,rfl⟩,by simp only[z6];omega⟩
   unfold F4
   rw[ifp (by show(i:Int)<xss.length;omega)]
   dsimp only
   rw[Ak,zC hlt,zA,wIo,wIo,ifq,hstep i hlt,zI,xW,xW]
   rfl
  ·right
   have e:i=xss.length:=by omega
   subst e
   refine⟨_,?_,rfl⟩
   unfold F4
   rw[ifn (wY _),yM]) fuel (0,0) ⟨0,zU _,by simp⟩ (Bb (by show xss.length-0<=_;omega))
 obtain⟨w,hw,rfl⟩:=Bo (f:=Gc xss) (P:=λs=>∃ i,i<=xss.length/\s=((i:Int),(xss.take i).flatten)) (μ:=λs=>xss.length-s.1.toNat) (R:=λv=>v=xss.flatten) (by
  rintro _ ⟨i,hi,rfl⟩
  rcases zQ i xss.length with hlt|hge
  ·left
   have h1:=hpre (i+1)
   rw[hstep i hlt,zI] at h1
   refine⟨(((i+1:Nat):Int),(xss.take (i+1)).flatten),?_,⟨i+1,hlt,rfl⟩,by simp only[z6];omega⟩
   unfold Gc
   rw[ifp (by show(i:Int)<xss.length;omega)]
   dsimp only
   rw[Ak,zC hlt,zA,wIo,if_pos omg,hstep i hlt,xW]
   rfl
  ·right
   have e:i=xss.length:=by omega
   subst e
   refine⟨_,?_,rfl⟩
   unfold Gc
   rw[ifn (wY _),yM]) fuel (0,([]:List Ag)) ⟨0,zU _,by simp⟩ (Bb (by show xss.length-0<=_;omega))
 unfold F8
 rw[hv,zA]
 unfold O0
 rw[Zo _ omg omg,zA,hw,zA]
 rfl
theorem Aaj (n:Int) (h0:0<=n) (h1:n*64<=140737488355328):Kq n=some []:=by
 unfold Kq
 rw[ifq]
 unfold Qb
 rw[Zc (n:=0-0) dcd dcd,show n-(0-0)=n from by omega,wIo]
 by_cases hn:0<n
 ·rw[ifp hn,if_pos ⟨hn,by omega⟩,if_pos ⟨xS _,xZ _⟩]
  rfl
 ·rw[ifn hn]
theorem Rx (xss:List (List Aq)) (h:xss.flatten.length*64<=140737488355328) (hl:xss.length<=1000000000000000000):Hk xss=some xss.flatten:=by
 have hpre:∀ i,(xss.take i).flatten.length<=xss.flatten.length:=λi=>by
  have e:xss.flatten.length=(xss.take i).flatten.length+(xss.drop i).flatten.length:=by
   rw[<- zI,<- xX,xP]
  omega
 have hstep:∀ i (hi:i<xss.length),(xss.take (i+1)).flatten=(xss.take i).flatten++xss[i]:=λi hi=>by
  rw[zO hi,xX];simp
 obtain⟨v,hv,rfl⟩:=Bo (f:=G3 xss) (P:=λs=>∃ i,i<=xss.length/\s=(((xss.take i).flatten.length:Int),(i:Int))) (μ:=λs=>xss.length-s.2.toNat) (R:=λv=>v=(xss.flatten.length:Int)) (by
  rintro _ ⟨i,hi,rfl⟩
  rcases zQ i xss.length with hlt|hge
  ·left
   have h1:=hpre (i+1)
   rw[hstep i hlt,zI] at h1
   refine⟨(((xss.take (i+1)).flatten.length:Int),((i+1:Nat):Int)),?_,⟨i+1,hlt,rfl⟩,by simp only[z6];omega⟩
   unfold G3
   rw[ifp (by show(i:Int)<xss.length;omega)]
   dsimp only
   rw[Ak,zC hlt,zA,wIo,wIo,ifq,hstep i hlt,zI,xW,xW]
   rfl
  ·right
   have e:i=xss.length:=by omega
   subst e
   refine⟨_,?_,rfl⟩
   unfold G3
   rw[ifn (wY _),yM]) fuel (0,0) ⟨0,zU _,by simp⟩ (Bb (by show xss.length-0<=_;omega))
 obtain⟨w,hw,rfl⟩:=Bo (f:=G2 xss) (P:=λs=>∃ i,i<=xss.length/\s=((i:Int),(xss.take i).flatten)) (μ:=λs=>xss.length-s.1.toNat) (R:=λv=>v=xss.flatten) (by
  rintro _ ⟨i,hi,rfl⟩
  rcases zQ i xss.length with hlt|hge
  ·left
   have h1:=hpre (i+1)
   rw[hstep i hlt,zI] at h1
   refine⟨(((i+1:Nat):Int),(xss.take (i+1)).flatten),?_,⟨i+1,hlt,rfl⟩,by simp only[z6];omega⟩
   unfold G2
   rw[ifp (by show(i:Int)<xss.length;omega)]
   dsimp only
   rw[Ak,zC hlt,zA,wIo,if_pos omg,hstep i hlt,xW]
   rfl
  ·right
   have e:i=xss.length:=by omega
   subst e
   refine⟨_,?_,rfl⟩
   unfold G2
   rw[ifn (wY _),yM]) fuel (0,([]:List Aq)) ⟨0,zU _,by simp⟩ (Bb (by show xss.length-0<=_;omega))
 unfold Hk
 rw[hv,zA]
 unfold P2
 rw[Aaj _ omg omg,zA,hw,zA]
 rfl
theorem Aak (n:Int) (h0:0<=n) (h1:n*1<=140737488355328):Kd n=some []:=by
 unfold Kd
 rw[ifq]
 unfold P3
 rw[Zc (n:=0-0) dcd dcd,show n-(0-0)=n from by omega,wIo]
 by_cases hn:0<n
 ·rw[ifp hn,if_pos ⟨hn,by omega⟩,if_pos ⟨xS _,xZ _⟩]
  rfl
 ·rw[ifn hn]
theorem Wt (xss:List (List UInt8)) (h:xss.flatten.length*1<=140737488355328) (hl:xss.length<=1000000000000000000):Fe xss=some xss.flatten:=by
 have hpre:∀ i,(xss.take i).flatten.length<=xss.flatten.length:=λi=>by
  have e:xss.flatten.length=(xss.take i).flatten.length+(xss.drop i).flatten.length:=by
   rw[<- zI,<- xX,xP]
  omega
 have hstep:∀ i (hi:i<xss.length),(xss.take (i+1)).flatten=(xss.take i).flatten++xss[i]:=λi hi=>by
  rw[zO hi,xX];simp
 obtain⟨v,hv,rfl⟩:=Bo (f:=Fj xss) (P:=λs=>∃ i,i<=xss.length/\s=(((xss.take i).flatten.length:Int),(i:Int))) (μ:=λs=>xss.length-s.2.toNat) (R:=λv=>v=(xss.flatten.length:Int)) (by
  rintro _ ⟨i,hi,rfl⟩
  rcases zQ i xss.length with hlt|hge
  ·left
   have h1:=hpre (i+1)
   rw[hstep i hlt,zI] at h1
   refine⟨(((xss.take (i+1)).flatten.length:Int),((i+1:Nat):Int)),?_,⟨i+1,hlt,rfl⟩,by simp only[z6];omega⟩
   unfold Fj
   rw[ifp (by show(i:Int)<xss.length;omega)]
   dsimp only
   rw[Ak,zC hlt,zA,wIo,wIo,ifq,hstep i hlt,zI,xW,xW]
   rfl
  ·right
   have e:i=xss.length:=by omega
   subst e
   refine⟨_,?_,rfl⟩
   unfold Fj
   rw[ifn (wY _),yM]) fuel (0,0) ⟨0,zU _,by simp⟩ (Bb (by show xss.length-0<=_;omega))
 obtain⟨w,hw,rfl⟩:=Bo (f:=Fg xss) (P:=λs=>∃ i,i<=xss.length/\s=((i:Int),(xss.take i).flatten)) (μ:=λs=>xss.length-s.1.toNat) (R:=λv=>v=xss.flatten) (by
  rintro _ ⟨i,hi,rfl⟩
  rcases zQ i xss.length with hlt|hge
  ·left
   have h1:=hpre (i+1)
   rw[hstep i hlt,zI] at h1
   refine⟨(((i+1:Nat):Int),(xss.take (i+1)).flatten),?_,⟨i+1,hlt,rfl⟩,by simp only[z6];omega⟩
   unfold Fg
   rw[ifp (by show(i:Int)<xss.length;omega)]
   dsimp only
   rw[Ak,zC hlt,zA,wIo,if_pos omg,hstep i hlt,xW]
   rfl
  ·right
   have e:i=xss.length:=by omega
   subst e
   refine⟨_,?_,rfl⟩
   unfold Fg
   rw[ifn (wY _),yM]) fuel (0,([]:List UInt8)) ⟨0,zU _,by simp⟩ (Bb (by show xss.length-0<=_;omega))
 unfold Fe
 rw[hv,zA]
 unfold Nx
 rw[Aak _ omg omg,zA,hw,zA]
 rfl
theorem Zs (n:Int) (h0:0<=n) (h1:n*64<=140737488355328):Kn n=some []:=by
 unfold Kn
 rw[ifq]
 unfold Pw
 rw[Zc (n:=0-0) dcd dcd,show n-(0-0)=n from by omega,wIo]
 by_cases hn:0<n
 ·rw[ifp hn,if_pos ⟨hn,by omega⟩,if_pos ⟨xS _,xZ _⟩]
  rfl
 ·rw[ifn hn]
theorem Xn (xss:List (List Ac)) (h:xss.flatten.length*64<=140737488355328) (hl:xss.length<=1000000000000000000):E8 xss=some xss.flatten:=by
 have hpre:∀ i,(xss.take i).flatten.length<=xss.flatten.length:=λi=>by
  have e:xss.flatten.length=(xss.take i).flatten.length+(xss.drop i).flatten.length:=by
   rw[<- zI,<- xX,xP]
  omega
 have hstep:∀ i (hi:i<xss.length),(xss.take (i+1)).flatten=(xss.take i).flatten++xss[i]:=λi hi=>by
  rw[zO hi,xX];simp
 obtain⟨v,hv,rfl⟩:=Bo (f:=Fl xss) (P:=λs=>∃ i,i<=xss.length/\s=(((xss.take i).flatten.length:Int),(i:Int))) (μ:=λs=>xss.length-s.2.toNat) (R:=λv=>v=(xss.flatten.length:Int)) (by
  rintro _ ⟨i,hi,rfl⟩
  rcases zQ i xss.length with hlt|hge
  ·left
   have h1:=hpre (i+1)
   rw[hstep i hlt,zI] at h1
   refine⟨(((xss.take (i+1)).flatten.length:Int),((i+1:Nat):Int)),?_,⟨i+1,hlt,rfl⟩,by simp only[z6];omega⟩
   unfold Fl
   rw[ifp (by show(i:Int)<xss.length;omega)]
   dsimp only
   rw[Ak,zC hlt,zA,wIo,wIo,ifq,hstep i hlt,zI,xW,xW]
   rfl
  ·right
   have e:i=xss.length:=by omega
   subst e
   refine⟨_,?_,rfl⟩
   unfold Fl
   rw[ifn (wY _),yM]) fuel (0,0) ⟨0,zU _,by simp⟩ (Bb (by show xss.length-0<=_;omega))
 obtain⟨w,hw,rfl⟩:=Bo (f:=Fo xss) (P:=λs=>∃ i,i<=xss.length/\s=((i:Int),(xss.take i).flatten)) (μ:=λs=>xss.length-s.1.toNat) (R:=λv=>v=xss.flatten) (by
  rintro _ ⟨i,hi,rfl⟩
  rcases zQ i xss.length with hlt|hge
  ·left
   have h1:=hpre (i+1)
   rw[hstep i hlt,zI] at h1
   refine⟨(((i+1:Nat):Int),(xss.take (i+1)).flatten),?_,⟨i+1,hlt,rfl⟩,by simp only[z6];omega⟩
   unfold Fo
   rw[ifp (by show(i:Int)<xss.length;omega)]
   dsimp only
   rw[Ak,zC hlt,zA,wIo,if_pos omg,hstep i hlt,xW]
   rfl
  ·right
   have e:i=xss.length:=by omega
   subst e
   refine⟨_,?_,rfl⟩
   unfold Fo
   rw[ifn (wY _),yM]) fuel (0,([]:List Ac)) ⟨0,zU _,by simp⟩ (Bb (by show xss.length-0<=_;omega))
 unfold E8
 rw[hv,zA]
 unfold Nt
 rw[Zs _ omg omg,zA,hw,zA]
 rfl
theorem Zz (n:Int) (h0:0<=n) (h1:n*40<=140737488355328):Kk n=some []:=by
 unfold Kk
 rw[ifq]
 unfold P5
 rw[Zc (n:=0-0) dcd dcd,show n-(0-0)=n from by omega,wIo]
 by_cases hn:0<n
 ·rw[ifp hn,if_pos ⟨hn,by omega⟩,if_pos ⟨xS _,xZ _⟩]
  rfl
 ·rw[ifn hn]
theorem W7 (xss:List (List Ai)) (h:xss.flatten.length*40<=140737488355328) (hl:xss.length<=1000000000000000000):Ff xss=some xss.flatten:=by
 have hpre:∀ i,(xss.take i).flatten.length<=xss.flatten.length:=λi=>by
  have e:xss.flatten.length=(xss.take i).flatten.length+(xss.drop i).flatten.length:=by
   rw[<- zI,<- xX,xP]
  omega
 have hstep:∀ i (hi:i<xss.length),(xss.take (i+1)).flatten=(xss.take i).flatten++xss[i]:=λi hi=>by
  rw[zO hi,xX];simp
 obtain⟨v,hv,rfl⟩:=Bo (f:=Fh xss) (P:=λs=>∃ i,i<=xss.length/\s=(((xss.take i).flatten.length:Int),(i:Int))) (μ:=λs=>xss.length-s.2.toNat) (R:=λv=>v=(xss.flatten.length:Int)) (by
  rintro _ ⟨i,hi,rfl⟩
  rcases zQ i xss.length with hlt|hge
  ·left
   have h1:=hpre (i+1)
   rw[hstep i hlt,zI] at h1
   refine⟨(((xss.take (i+1)).flatten.length:Int),((i+1:Nat):Int)),?_,⟨i+1,hlt,rfl⟩,by simp only[z6];omega⟩
   unfold Fh
   rw[ifp (by show(i:Int)<xss.length;omega)]
   dsimp only
   rw[Ak,zC hlt,zA,wIo,wIo,ifq,hstep i hlt,zI,xW,xW]
   rfl
  ·right
   have e:i=xss.length:=by omega
   subst e
   refine⟨_,?_,rfl⟩
   unfold Fh
   rw[ifn (wY _),yM]) fuel (0,0) ⟨0,zU _,by simp⟩ (Bb (by show xss.length-0<=_;omega))
 obtain⟨w,hw,rfl⟩:=Bo (f:=Fp xss) (P:=λs=>∃ i,i<=xss.length/\s=((i:Int),(xss.take i).flatten)) (μ:=λs=>xss.length-s.1.toNat) (R:=λv=>v=xss.flatten) (by
  rintro _ ⟨i,hi,rfl⟩
  rcases zQ i xss.length with hlt|hge
  ·left
   have h1:=hpre (i+1)
   rw[hstep i hlt,zI] at h1
   refine⟨(((i+1:Nat):Int),(xss.take (i+1)).flatten),?_,⟨i+1,hlt,rfl⟩,by simp only[z6];omega⟩
   unfold Fp
   rw[ifp (by show(i:Int)<xss.length;omega)]
   dsimp only
   rw[Ak,zC hlt,zA,wIo,if_pos omg,hstep i hlt,xW]
   rfl
  ·right
   have e:i=xss.length:=by omega
   subst e
   refine⟨_,?_,rfl⟩
   unfold Fp
   rw[ifn (wY _),yM]) fuel (0,([]:List Ai)) ⟨0,zU _,by simp⟩ (Bb (by show xss.length-0<=_;omega))
 unfold Ff
 rw[hv,zA]
 unfold Nv
 rw[Zz _ omg omg,zA,hw,zA]
 rfl
theorem Z6 (n:Int) (h0:0<=n) (h1:n*32<=140737488355328):Kb n=some []:=by
 unfold Kb
 rw[ifq]
 unfold P1
 rw[Zc (n:=0-0) dcd dcd,show n-(0-0)=n from by omega,wIo]
 by_cases hn:0<n
 ·rw[ifp hn,if_pos ⟨hn,by omega⟩,if_pos ⟨xS _,xZ _⟩]
  rfl
 ·rw[ifn hn]
theorem Qa (xss:List (List Al)) (h:xss.flatten.length*32<=140737488355328) (hl:xss.length<=1000000000000000000):Fz xss=some xss.flatten:=by
 have hpre:∀ i,(xss.take i).flatten.length<=xss.flatten.length:=λi=>by
  have e:xss.flatten.length=(xss.take i).flatten.length+(xss.drop i).flatten.length:=by
   rw[<- zI,<- xX,xP]
  omega
 have hstep:∀ i (hi:i<xss.length),(xss.take (i+1)).flatten=(xss.take i).flatten++xss[i]:=λi hi=>by
  rw[zO hi,xX];simp
 obtain⟨v,hv,rfl⟩:=Bo (f:=F1 xss) (P:=λs=>∃ i,i<=xss.length/\s=(((xss.take i).flatten.length:Int),(i:Int))) (μ:=λs=>xss.length-s.2.toNat) (R:=λv=>v=(xss.flatten.length:Int)) (by
  rintro _ ⟨i,hi,rfl⟩
  rcases zQ i xss.length with hlt|hge
  ·left
   have h1:=hpre (i+1)
   rw[hstep i hlt,zI] at h1
   refine⟨(((xss.take (i+1)).flatten.length:Int),((i+1:Nat):Int)),?_,⟨i+1,hlt,rfl⟩,by simp only[z6];omega⟩
   unfold F1
   rw[ifp (by show(i:Int)<xss.length;omega)]
   dsimp only
   rw[Ak,zC hlt,zA,wIo,wIo,ifq,hstep i hlt,zI,xW,xW]
   rfl
  ·right
   have e:i=xss.length:=by omega
   subst e
   refine⟨_,?_,rfl⟩
   unfold F1
   rw[ifn (wY _),yM]) fuel (0,0) ⟨0,zU _,by simp⟩ (Bb (by show xss.length-0<=_;omega))
 obtain⟨w,hw,rfl⟩:=Bo (f:=Fy xss) (P:=λs=>∃ i,i<=xss.length/\s=((i:Int),(xss.take i).flatten)) (μ:=λs=>xss.length-s.1.toNat) (R:=λv=>v=xss.flatten) (by
  rintro _ ⟨i,hi,rfl⟩
  rcases zQ i xss.length with hlt|hge
  ·left
   have h1:=hpre (i+1)
   rw[hstep i hlt,zI] at h1
   refine⟨(((i+1:Nat):Int),(xss.take (i+1)).flatten),?_,⟨i+1,hlt,rfl⟩,by simp only[z6];omega⟩
   unfold Fy
   rw[ifp (by show(i:Int)<xss.length;omega)]
   dsimp only
   rw[Ak,zC hlt,zA,wIo,if_pos omg,hstep i hlt,xW]
   rfl
  ·right
   have e:i=xss.length:=by omega
   subst e
   refine⟨_,?_,rfl⟩
   unfold Fy
   rw[ifn (wY _),yM]) fuel (0,([]:List Al)) ⟨0,zU _,by simp⟩ (Bb (by show xss.length-0<=_;omega))
 unfold Fz
 rw[hv,zA]
 unfold O6
 rw[Z6 _ omg omg,zA,hw,zA]
 rfl
theorem Yu (xs:List Al) (h:xs.length*32<=140737488355328):F0 xs=some xs:=by
 unfold F0
 rw[if_pos (by simpa using h)]
 rfl
theorem Kw (xs:List Ae) (h:xs.length*56<=140737488355328):I8 xs=some xs:=by
 unfold I8
 rw[if_pos (by simpa using h)]
 rfl
theorem Pv (xs:List Aq) (h:xs.length*64<=140737488355328):I5 xs=some xs:=by
 unfold I5
 rw[if_pos (by simpa using h)]
 rfl
theorem Y3 (xs:List (List UInt8)) (h:xs.length*24<=140737488355328):C8 xs=some xs:=by
 unfold C8
 rw[if_pos (by simpa using h)]
 rfl
theorem Y2 (xs:List Ab) (h:xs.length*24<=140737488355328):C6 xs=some xs:=by
 unfold C6
 rw[if_pos (by simpa using h)]
 rfl
theorem P6 (xs:List Ai) (h:xs.length*40<=140737488355328):Gk xs=some xs:=by
 unfold Gk
 rw[if_pos (by simpa using h)]
 rfl
abbrev E12:=Al
def ix (l:List E12) (t:Int):Nat:=l.findIdx λx=>decide (x.Tok=t)
def fnd (l:List E12) (t:Int):Option E12:=l[ix l t]?
def sN (t a:Int):Bool:=decide (0<=t/\t<=1099511627776/\0<=a/\a<=65535)
def sTs (t:Int):Bool:=decide (1<=t/\t<=1099511627776)
def sE (x:E12):Bool:=if x.State=1\/x.State=3 then sN x.Tok x.Attempt&&decide (x.Ts=0) else if x.State=2 then sN x.Tok x.Attempt&&sTs x.Ts else false
structure OkT (l:List E12):Prop where
  e:∀ x∈l,sE x=true
  u:∀ (i j:Nat) (x y:E12),l[i]? = some x->l[j]? = some y->x.Tok=y.Tok->i=j
  n:l.length<=32
theorem Kh (t a:Int):B1 t a=some (sN t a):=by
  unfold B1 sN
  by_cases h1:0<=t <;> by_cases h2:t<=1099511627776 <;> by_cases h3:0<=a <;> simp [h1,h2,h3]
theorem Aj2 (t:Int):F7 t=some (sTs t):=by
  unfold F7 sTs
  by_cases h1:1<=t <;> simp [h1]
theorem Ann (x:E12):Gf x=some (sE x):=by
  unfold Gf Hh sE
  rw[Kh,Aj2]
  by_cases h1:x.State=1
  · simp [h1];cases sN x.Tok x.Attempt <;> simp
  · by_cases h3:x.State=3
    · simp [h3];cases sN x.Tok x.Attempt <;> simp
    · by_cases h2:x.State=2
      · simp [h2];cases sN x.Tok x.Attempt <;> simp
      · simp [h1,h2,h3]
theorem Ajd (l:List E12) (t:Int):ix l t<=l.length:=j7
theorem Amp {l:List E12} {t:Int} (h:ix l t<l.length):l[ix l t].Tok=t:=by
  have:=kE (xs:=l) (p:=λ(x:E12)=>decide (x.Tok=t)) (w:=h)
  exact of_decide_eq_true this
theorem Apj {l:List E12} {t:Int} {i:Nat} {x:E12} (h:i<ix l t) (hx:l[i]? = some x):x.Tok≠t:=by
  have hi:i<l.length:=(zB.1 hx).1
  have:=j6 (xs:=l) (p:=λ(x:E12)=>decide (x.Tok=t)) h
  have e:=(zB.1 hx).2
  rw[e] at this
  simpa using this
theorem A54 {l:List E12} {t:Int} {i:Nat} {x:E12} (hx:l[i]? = some x) (ht:x.Tok=t) (hf:∀ (j:Nat) (y:E12),j<i->l[j]? = some y->y.Tok≠t):ix l t=i:=by
  rcases kH (ix l t) i with h|h|h
  · have hi:i<l.length:=(zB.1 hx).1
    have hl:ix l t<l.length:=zAh h hi
    exact absurd (Amp hl) (hf _ _ h (zC hl))
  · exact h
  · exact absurd ht (Apj h hx)
theorem Jk {l:List E12} {t:Int} {x:E12} (h:fnd l t=some x):x.Tok=t/\ix l t<l.length/\x∈l:=by
  unfold fnd at h
  obtain⟨h1,h2⟩:=zB.1 h
  exact⟨by rw[<- h2];exact Amp h1,h1,zD h⟩
theorem Aat {l:List E12} {t:Int} (h:fnd l t=none):ix l t=l.length/\∀ (i:Nat) (x:E12),l[i]? = some x->x.Tok≠t:=by
  unfold fnd at h
  have h1:=wD.1 h
  have e:ix l t=l.length:=Nat.le_antisymm (Ajd l t) h1
  exact⟨e,λi x hx=>Apj (by rw[e];exact(zB.1 hx).1) hx⟩
theorem Agl {l:List E12} (ok:OkT l) {t:Int} {i:Nat} {x:E12} (hx:l[i]? = some x) (ht:x.Tok=t):ix l t=i/\fnd l t=some x:=by
  have h:=A54 hx ht (λj y hj hy hc=>wF j (by have:=ok.u j i y x hy hx (hc.trans ht.symm);omega))
  exact⟨h,by unfold fnd;rw[h];exact hx⟩
theorem Oa (l:List E12) (t:Int) (hl:l.length<=1000000):Dm ⟨l⟩ t=some (ix l t:Int):=by
  unfold Dm
  obtain⟨x,hx,hm⟩:=B9 (f:=K7 ⟨l⟩ t) (P:=λs=>∃ i:Nat,i<=l.length/\s=(i:Int)/\∀ (j:Nat) (y:E12),j<i->l[j]? = some y->y.Tok≠t) (μ:=λs=>l.length-s.toNat)
    (R:=λx=>match x with | .inl y=>y=(ix l t:Int) | .inr _=>ix l t=l.length) (by
    rintro _ ⟨i,hi,rfl,hf⟩
    unfold K7
    dsimp only
    rcases zQ i l.length with hlt|hge
    · have e:=zC hlt
      rw[ifo,Ak,e]
      simp only[zA]
      by_cases ht:l[i].Tok=t
      · right;right
        rw[ifp ht]
        exact⟨_,rfl,by rw[A54 e ht hf]⟩
      · left
        rw[if_neg (by simpa using ht),wIo]
        refine⟨_,rfl,⟨i+1,hlt,rfl,λj y hj hy=>?_⟩,by omega⟩
        rcases zQ j i with h|h
        · exact hf j y h hy
        · have:j=i:=by omega
          subst this
          rw[e] at hy;cases hy;exact ht
    · right;left
      rw[ifq]
      refine⟨_,rfl,?_⟩
      refine Nat.le_antisymm (Ajd l t) (Nat.le_of_not_lt λh=>?_)
      exact hf _ _ omg (zC h) (Amp h)) fuel 0 ⟨0,zU _,rfl,λj y hj=>absurd hj (zW _)⟩ (Bb (by show l.length-0<=_;omega))
  rw[hx]
  cases x with
  | inl y=>show some y=_;rw[show y=_ from hm]
  | inr y=>show some (l.length:Int)=_;rw[show ix l t=l.length from hm]
theorem Abr {l:List E12} (ok:OkT l):Ci ⟨l⟩=some true:=by
  have hn:=ok.n
  unfold Ci
  obtain⟨x,hx,hm⟩:=B9 (f:=Mm ⟨l⟩) (P:=λs=>∃ i:Nat,i<=l.length/\s=(i:Int)) (μ:=λs=>l.length-s.toNat)
    (R:=λx=>match x with | .inl y=>False | .inr _=>True) (by
    rintro _ ⟨i,hi,rfl⟩
    unfold Mm
    dsimp only
    rcases zQ i l.length with hlt|hge
    · have e:=zC hlt
      left
      rw[ifo,Ak,e]
      simp only[zA]
      rw[Ann,ok.e _ (yW hlt)]
      simp only[zA]
      rw[if_neg smp,Oa l _ omg,(Agl ok e rfl).1]
      simp only[zA]
      rw[if_neg smp,wIo]
      exact⟨_,rfl,⟨i+1,hlt,rfl⟩,by omega⟩
    · right;left
      rw[ifq]
      exact⟨_,rfl,trivial⟩) fuel 0 ⟨0,zU _,rfl⟩ (Bb (by show l.length-0<=_;omega))
  rw[hx]
  cases x with
  | inl y=>exact hm.elim
  | inr y=>show some (decide ((l.length:Int)<=32))=_;rw[decide_eq_true omg]
def e00:E12:=⟨0,0,0,0⟩
theorem Wf {l:List E12} (hl:l.length<=1000000) (t:Int):Dc ⟨l⟩ t=some (match fnd l t with|some x=>(x,true)|none=>(e00,false)):=by
  unfold Dc
  rw[Oa l t hl]
  simp only[zA]
  cases h:fnd l t with
  | none =>
    rw[ifp (by rw[(Aat h).1])]
    rfl
  | some x =>
    have h1:=Jk h
    rw[ifq]
    show(idx l (ix l t:Int)).bind _=_
    rw[Ak,show l[ix l t]? = some x from h]
    rfl
def Aj6 (l:List E12) (x:E12):List E12:=if ix l x.Tok<l.length then l.set (ix l x.Tok) x else l++[x]
theorem Akg (l:List E12) (x:E12):(Aj6 l x)[ix l x.Tok]? = some x:=by
  unfold Aj6
  have:=Ajd l x.Tok
  split
  · rw[zN (by assumption)]
  · have e:ix l x.Tok=l.length:=by omega
    rw[e,zX (zT _),kZ];rfl
theorem Rt (l:List E12) (x:E12) {j:Nat} (hj:j≠ix l x.Tok):(Aj6 l x)[j]? = l[j]? := by
  unfold Aj6
  have:=Ajd l x.Tok
  split
  · rw[zS (λe=>hj e.symm)]
  · have e:ix l x.Tok=l.length:=by omega
    rcases zQ j l.length with h|h
    · rw[zL h]
    · rw[zZ (by simp;omega),zZ h]
theorem Atc {l:List E12} (ok:OkT l) {x y:E12} {j:Nat} (hj:j≠ix l x.Tok) (hy:l[j]? = some y):y.Tok≠x.Tok:=λhc=>hj (Agl ok hy hc).1.symm
theorem Ao3 {l:List E12} (ok:OkT l) {x:E12} (hx:sE x=true) (h:ix l x.Tok<32):OkT (Aj6 l x):=by
  refine⟨λy hy=>?_,λi j y z hy hz hyz=>?_,?_⟩
  · obtain⟨j,hj⟩:=List.getElem?_of_mem hy
    by_cases e:j=ix l x.Tok
    · subst e;rw[Akg] at hj;cases hj;exact hx
    · rw[Rt l x e] at hj
      exact ok.e y (zD hj)
  · by_cases e1:i=ix l x.Tok <;> by_cases e2:j=ix l x.Tok
    · rw[e1,e2]
    · rw[Rt l x e2] at hz
      subst e1;rw[Akg] at hy;cases hy
      exact absurd hyz.symm (Atc ok e2 hz)
    · rw[Rt l x e1] at hy
      subst e2;rw[Akg] at hz;cases hz
      exact absurd hyz (Atc ok e1 hy)
    · rw[Rt l x e1] at hy
      rw[Rt l x e2] at hz
      exact ok.u i j y z hy hz hyz
  · unfold Aj6
    have:=ok.n
    have:=Ajd l x.Tok
    split
    · rw[xA];omega
    · rw[zI];simp only[yZ,jG];omega
theorem Ank {l:List E12} (ok:OkT l) {x:E12} (hx:sE x=true) (h:ix l x.Tok<32) (t:Int):fnd (Aj6 l x) t=if t=x.Tok then some x else fnd l t:=by
  have ok':=Ao3 ok hx h
  by_cases ht:t=x.Tok
  · rw[if_pos ht]
    exact(Agl ok' (Akg l x) ht.symm).2
  · rw[if_neg ht]
    cases hf:fnd l t with
    | some y =>
      have h1:=Jk hf
      have hj:ix l t≠ix l x.Tok:=λe=>by
        have h2:l[ix l t]? = some y:=hf
        have h3:=Amp (l:=l) (t:=x.Tok) (by rw[<- e];exact h1.2.1)
        have h4:l[ix l x.Tok]? = some y:=by rw[<- e];exact h2
        rw[zC (by rw[<- e];exact h1.2.1)] at h4
        have h5:l[ix l x.Tok]'(by rw[<- e];exact h1.2.1)=y:=zF h4
        rw[h5] at h3
        exact ht (h1.1.symm.trans h3)
      exact(Agl ok' (by rw[Rt l x hj];exact hf) h1.1).2
    | none =>
      have h1:=(Aat hf).2
      cases hf':fnd (Aj6 l x) t with
      | none=>rfl
      | some y =>
        have h2:=Jk hf'
        have h3:(Aj6 l x)[ix (Aj6 l x) t]? = some y:=hf'
        by_cases e:ix (Aj6 l x) t=ix l x.Tok
        · rw[e,Akg] at h3
          cases h3
          exact absurd h2.1.symm ht
        · rw[Rt l x e] at h3
          exact absurd h2.1 (h1 _ _ h3)
def Am5 (l:List E12) (t:Int):List E12:=l.take (ix l t)++l.drop (ix l t+1)
theorem Atb {l:List E12} {t:Int} (h:ix l t<l.length) (j:Nat):(Am5 l t)[j]? = if j<ix l t then l[j]? else l[j+1]? := by
  unfold Am5
  have hl:(l.take (ix l t)).length=ix l t:=by rw[zR];omega
  split
  · rw[zL (by rw[hl];assumption),yR,if_pos (by assumption)]
  · rw[zX (by rw[hl];omega),hl,yP]
    congr 1;omega
theorem Aa2 {l:List E12} {t:Int} (h:ix l t<l.length) {j:Nat} {y:E12} (hy:(Am5 l t)[j]? = some y):∃ q,q≠ix l t/\l[q]? = some y/\(q=if j<ix l t then j else j+1):=by
  rw[Atb h] at hy
  by_cases c:j<ix l t
  · rw[if_pos c] at hy ⊢;exact⟨j,by omega,hy,rfl⟩
  · rw[if_neg c] at hy ⊢;exact⟨j+1,by omega,hy,rfl⟩
theorem A0h {l:List E12} (ok:OkT l) {t:Int} (h:ix l t<l.length):OkT (Am5 l t):=by
  refine⟨λy hy=>?_,λi j y z hy hz hyz=>?_,?_⟩
  · obtain⟨j,hj⟩:=List.getElem?_of_mem hy
    obtain⟨q,_,hq,_⟩:=Aa2 h hj
    exact ok.e y (zD hq)
  · obtain⟨q,h1,hq,e1⟩:=Aa2 h hy
    obtain⟨q',h2,hq',e2⟩:=Aa2 h hz
    have:=ok.u q q' y z hq hq' hyz
    by_cases c1:i<ix l t <;> by_cases c2:j<ix l t
    · rw[if_pos c1] at e1;rw[if_pos c2] at e2;omega
    · rw[if_pos c1] at e1;rw[if_neg c2] at e2;omega
    · rw[if_neg c1] at e1;rw[if_pos c2] at e2;omega
    · rw[if_neg c1] at e1;rw[if_neg c2] at e2;omega
  · unfold Am5
    have:=ok.n
    rw[zI,zR,yF];omega
theorem A1e {l:List E12} {t:Int} (h:ix l t<l.length):(Am5 l t).length=l.length-1:=by
  unfold Am5
  rw[zI,zR,yF];omega
theorem A19 {l:List E12} (ok:OkT l) {t:Int} (h:ix l t<l.length) (s:Int):fnd (Am5 l t) s=if s=t then none else fnd l s:=by
  have ok':=A0h ok h
  by_cases hs:s=t
  · rw[if_pos hs]
    cases hf:fnd (Am5 l t) s with
    | none=>rfl
    | some y =>
      have h2:=Jk hf
      obtain⟨q,h3,hq,_⟩:=Aa2 h (show(Am5 l t)[ix (Am5 l t) s]? = some y from hf)
      exact absurd (Agl ok hq (h2.1.trans hs)).1.symm h3
  · rw[if_neg hs]
    cases hf:fnd l s with
    | some y =>
      have h1:=Jk hf
      have hne:ix l s≠ix l t:=λe=>by
        have h3:=Amp h
        have h4:l[ix l t]? = some y:=by rw[<- e];exact hf
        rw[zC h] at h4
        rw[zF h4] at h3
        exact hs (h1.1.symm.trans h3)
      refine(Agl ok' (i:=if ix l s<ix l t then ix l s else ix l s-1) ?_ h1.1).2
      rw[Atb h]
      by_cases c:ix l s<ix l t
      · rw[if_pos c,if_pos c];exact hf
      · rw[if_neg c,if_neg omg,show ix l s-1+1=ix l s by omega];exact hf
    | none =>
      have h1:=(Aat hf).2
      cases hf':fnd (Am5 l t) s with
      | none=>rfl
      | some y =>
        have h2:=Jk hf'
        obtain⟨q,_,hq,_⟩:=Aa2 h (show(Am5 l t)[ix (Am5 l t) s]? = some y from hf')
        exact absurd h2.1 (h1 _ _ hq)
theorem A93 (l:List E12) (x:E12) (hl:l.length<=1000000):Mo l (ix l x.Tok:Int) x=some (Aj6 l x):=by
  unfold Mo Aj6
  rw[Yu _ omg]
  simp only[zA]
  have:=Ajd l x.Tok
  by_cases h:ix l x.Tok<l.length
  · rw[ifq,if_pos h,Ak,zC h,z6]
    rfl
  · rw[ifo,if_neg h,if_pos (by simp only[yZ,jG];omega)]
theorem Axq {l:List E12} (ok:OkT l) (x:E12):B4 ⟨l⟩ x=some (if 32<=ix l x.Tok then(⟨[]⟩,8) else(⟨Aj6 l x⟩,0)):=by
  unfold B4
  have hn:=ok.n
  rw[Oa l _ omg]
  simp only[zA]
  by_cases h:32<=ix l x.Tok
  · rw[ifo,if_pos h]
  · rw[ifq,if_neg h,A93 l x omg]
    rfl
def OpR (l:List E12) (what tok att ts:Int) (l':List E12):Prop :=
  OkT l'/\(∀ t,t≠tok->fnd l' t=fnd l t)/\0<=att/\att<=65535 /\
    ((what=0/\(∀ x,fnd l tok=some x->x.State≠2/\x.Attempt<att)/\fnd l' tok=some ⟨tok,att,1,0⟩) \/
     (what=2/\(∃ x,fnd l tok=some x/\x.State=1/\x.Attempt=att)/\fnd l' tok=some ⟨tok,att,2,ts⟩) \/
     (what=4/\(∃ x,fnd l tok=some x/\x.State=2/\l'=l)) \/
     (what=4/\(∀ x,fnd l tok=some x->x.State≠2)/\∃ b,fnd l' tok=some ⟨tok,b,3,0⟩/\b=(match fnd l tok with|some x=>max x.Attempt att|none=>att)))
theorem Ap4 {x:E12} (h:sE x=true):0<=x.Tok/\x.Tok<=1099511627776/\0<=x.Attempt/\x.Attempt<=65535/\(x.State=1\/x.State=2/\1<=x.Ts\/x.State=3):=by
  unfold sE at h
  have hN:∀ b:Bool,(sN x.Tok x.Attempt&&b)=true->(0<=x.Tok/\x.Tok<=1099511627776/\0<=x.Attempt/\x.Attempt<=65535)/\b=true:=λb h=>by
    rw[zG] at h;exact⟨of_decide_eq_true h.1,h.2⟩
  by_cases h1:x.State=1\/x.State=3
  · rw[if_pos h1] at h
    obtain⟨⟨a,b,c,d⟩,_⟩:=hN _ h
    exact⟨a,b,c,d,h1.elim .inl (λh=>.inr (.inr h))⟩
  · rw[if_neg h1] at h
    by_cases h2:x.State=2
    · rw[if_pos h2] at h
      obtain⟨⟨a,b,c,d⟩,h3⟩:=hN _ h
      exact⟨a,b,c,d,.inr (.inl ⟨h2,(of_decide_eq_true h3).1⟩)⟩
    · rw[if_neg h2] at h;cases h
theorem A2j {l:List E12} (ok:OkT l) (tok att:Int):∃ l' e,Ee ⟨l⟩ tok att=some (⟨l'⟩,e)/\(e=0->OpR l 0 tok att 0 l') /\
    (fnd l tok=none->sN tok att=true->e=if l.length=32 then 8 else 0):=by
  unfold Ee
  show ∃ l' e,(Ci ⟨l⟩).bind _=_/\_
  rw[Abr ok,Kh]
  simp only[zA]
  rw[if_neg smp]
  cases hN:sN tok att with
  | false=>exact⟨[],1,rfl,(λh=>by cases h),λ_ h=>by cases h⟩
  | true =>
  rw[if_neg smp]
  have hN':0<=tok/\tok<=1099511627776/\0<=att/\att<=65535:=of_decide_eq_true hN
  have hsE:sE (⟨tok,att,1,0⟩:E12)=true:=by unfold sE;rw[if_pos (.inl rfl)];show(sN tok att&&_)=true;rw[hN];rfl
  unfold L5
  have hn:=ok.n
  rw[Wf omg]
  simp only[zA]
  have hset:∃ l' e,(B4 ⟨l⟩ ⟨tok,att,1,0⟩).bind (λv=>some (v.1,v.2))=some (⟨l'⟩,e)/\((∀ x,fnd l tok=some x->x.State≠2/\x.Attempt<att)->e=0->OpR l 0 tok att 0 l')/\(fnd l tok=none->e=if l.length=32 then 8 else 0):=by
    rw[Axq ok]
    simp only[zA]
    by_cases h:32<=ix l tok
    · rw[if_pos (show 32<=ix l (⟨tok,att,1,0⟩:E12).Tok from h)]
      exact⟨[],8,rfl,(λ_ h=>by cases h),(λ_=>by rw[if_pos (by have:=Ajd l tok;omega)])⟩
    · rw[if_neg (show ¬ 32<=ix l (⟨tok,att,1,0⟩:E12).Tok from h)]
      have hf:=Ank ok hsE (show ix l (⟨tok,att,1,0⟩:E12).Tok<32 by show ix l tok<32;omega)
      refine⟨_,0,rfl,λhx _=>⟨Ao3 ok hsE (by show ix l tok<32;omega),(λt ht=>by rw[hf t,if_neg ht]),hN'.2.2.1,hN'.2.2.2,.inl ⟨rfl,hx,by rw[hf tok,if_pos rfl]⟩⟩,λhno=>by rw[if_neg (by have:=(Aat hno).1;omega)]⟩
  cases hf:fnd l tok with
  | none =>
    rw[if_neg smp,if_neg smp]
    obtain⟨l',e,h1,h2,h3⟩:=hset
    exact⟨l',e,h1,h2 (by rw[hf];intro x h;cases h),λ_ _=>h3 hf⟩
  | some x =>
    dsimp only
    rw[if_pos rfl]
    by_cases h2:x.State=2
    · rw[ifp h2]
      exact⟨[],7,rfl,(λh=>by cases h),λh=>by cases h⟩
    rw[if_neg (by simpa using h2),if_pos rfl]
    by_cases h3:att<=x.Attempt
    · rw[ifp h3]
      exact⟨[],14,rfl,(λh=>by cases h),λh=>by cases h⟩
    · rw[if_neg (by simpa using h3)]
      obtain⟨l',e,h4,h5,_⟩:=hset
      exact⟨l',e,h4,h5 (by rw[hf];rintro y h;cases h;exact⟨h2,by omega⟩),λh=>by cases h⟩
theorem Azb {l:List E12} (ok:OkT l) (tok att ts:Int):∃ l' e,Cq ⟨l⟩ tok att ts=some (⟨l'⟩,e)/\(e=0->OpR l 2 tok att ts l') /\
    (fnd l tok=some ⟨tok,att,1,0⟩->sTs ts=true->e=0/\ix l' tok<l'.length/\l'.length=l.length):=by
  unfold Cq
  rw[Abr ok,Kh,Aj2]
  simp only[zA]
  rw[if_neg smp]
  have hn:=ok.n
  cases hN:sN tok att with
  | false =>
    refine⟨[],1,rfl,(λh=>by cases h),λh _=>?_⟩
    have:=Ap4 (ok.e _ (Jk h).2.2)
    exfalso
    have h2:sN tok att=true:=decide_eq_true ⟨this.1,this.2.1,this.2.2.1,this.2.2.2.1⟩
    rw[hN] at h2;cases h2
  | true =>
  rw[if_neg smp]
  have hN':0<=tok/\tok<=1099511627776/\0<=att/\att<=65535:=of_decide_eq_true hN
  cases hT:sTs ts with
  | false=>exact⟨[],1,rfl,(λh=>by cases h),λ_ h=>by cases h⟩
  | true =>
  rw[if_neg smp]
  have hsE:sE (⟨tok,att,2,ts⟩:E12)=true:=by
    unfold sE
    rw[if_neg (by rintro(h|h) <;> cases h),if_pos rfl]
    show(sN tok att&&sTs ts)=true
    rw[hN,hT];rfl
  unfold J5
  rw[Wf omg]
  simp only[zA]
  cases hf:fnd l tok with
  | none=>exact⟨[],14,rfl,(λh=>by cases h),λh=>by cases h⟩
  | some x =>
    dsimp only
    have hx:=Jk hf
    by_cases h2:x.State=2
    · rw[ifp h2]
      exact⟨[],7,rfl,(λh=>by cases h),λh=>by cases h;cases h2⟩
    rw[if_neg (by simpa using h2)]
    by_cases h1:x.State=1
    · rw[if_neg (by simp [h1])]
      by_cases h3:x.Attempt=att
      · rw[if_neg (by simp [h3]),Axq ok]
        simp only[zA]
        have hix:ix l tok<32:=by omega
        rw[if_neg (show ¬ 32<=ix l (⟨tok,att,2,ts⟩:E12).Tok by show ¬ 32<=ix l tok;omega)]
        have hff:=Ank ok hsE (show ix l (⟨tok,att,2,ts⟩:E12).Tok<32 from hix)
        refine⟨_,0,rfl,λ_=>⟨Ao3 ok hsE hix,(λt ht=>by rw[hff t,if_neg ht]),hN'.2.2.1,hN'.2.2.2,.inr (.inl ⟨rfl,⟨x,hf,h1,h3⟩,by rw[hff tok,if_pos rfl]⟩)⟩,λ_ _=>⟨rfl,?_,?_⟩⟩
        · have h4:fnd (Aj6 l ⟨tok,att,2,ts⟩) tok=some ⟨tok,att,2,ts⟩:=by rw[hff tok,if_pos rfl]
          exact(Jk h4).2.1
        · unfold Aj6
          rw[if_pos (show ix l (⟨tok,att,2,ts⟩:E12).Tok<l.length from hx.2.1),xA]
      · rw[if_pos (by simpa using h3)]
        exact⟨[],14,rfl,(λh=>by cases h),λh=>by cases h;exact absurd rfl h3⟩
    · rw[if_pos (by simpa using h1)]
      exact⟨[],14,rfl,(λh=>by cases h),λh=>by cases h;exact absurd rfl h1⟩
theorem Aja {l:List E12} (ok:OkT l) (tok att:Int):∃ l' n e,Bp ⟨l⟩ tok att=some (⟨l'⟩,n,e)/\(e=0->OpR l 4 tok att 0 l') /\
    (∀ x,fnd l tok=some x->x.State=2->(e=0/\n=x.Ts)\/e=1)/\(e=0->n<=0->∀ x,fnd l tok=some x->x.State≠2)/\(fnd l tok=none->sN tok att=true->l.length=32->e=8)/\(n=0\/∃ x,fnd l tok=some x/\x.State=2):=by
  unfold Bp
  rw[Abr ok,Kh]
  simp only[zA]
  rw[if_neg smp]
  have hn:=ok.n
  cases hN:sN tok att with
  | false=>exact⟨[],0,1,rfl,(λh=>by cases h),(λ_ _ _=>.inr rfl),(λh=>by cases h),(λ_ h=>by cases h),.inl rfl⟩
  | true =>
  rw[if_neg smp]
  have hN':0<=tok/\tok<=1099511627776/\0<=att/\att<=65535:=of_decide_eq_true hN
  unfold L6
  rw[Wf omg]
  simp only[zA]
  have hgo:∀ b:Int,0<=b->b<=65535->∃ l' e,(B4 ⟨l⟩ ⟨tok,b,3,0⟩).bind (λv=>some (v.1,(0:Int),v.2))=some (⟨l'⟩,0,e)/\(e=0->OkT l'/\(∀ t,t≠tok->fnd l' t=fnd l t)/\fnd l' tok=some ⟨tok,b,3,0⟩)/\(fnd l tok=none->l.length=32->e=8):=by
    intro b h0 h1
    have hsE:sE (⟨tok,b,3,0⟩:E12)=true:=by
      unfold sE
      rw[if_pos (.inr rfl)]
      show(sN tok b&&_)=true
      have:sN tok b=true:=decide_eq_true ⟨hN'.1,hN'.2.1,h0,h1⟩
      rw[this];rfl
    rw[Axq ok]
    simp only[zA]
    by_cases h:32<=ix l tok
    · rw[if_pos (show 32<=ix l (⟨tok,b,3,0⟩:E12).Tok from h)]
      exact⟨[],8,rfl,(λh=>by cases h),λ_ _=>rfl⟩
    · rw[if_neg (show ¬ 32<=ix l (⟨tok,b,3,0⟩:E12).Tok from h)]
      have hff:=Ank ok hsE (show ix l (⟨tok,b,3,0⟩:E12).Tok<32 by show ix l tok<32;omega)
      exact⟨_,0,rfl,λ_=>⟨Ao3 ok hsE (by show ix l tok<32;omega),(λt ht=>by rw[hff t,if_neg ht]),by rw[hff tok,if_pos rfl]⟩,λhno h32=>by have:=(Aat hno).1;omega⟩
  cases hf:fnd l tok with
  | none =>
    dsimp only
    rw[if_neg dcd]
    have he:(if att > e00.Attempt then att else e00.Attempt)=att:=by show(if att > 0 then att else 0)=att;split <;> omega
    rw[he]
    obtain⟨l',e,h1,h2,h3⟩:=hgo att hN'.2.2.1 hN'.2.2.2
    exact⟨l',0,e,h1,λh=>⟨(h2 h).1,(h2 h).2.1,hN'.2.2.1,hN'.2.2.2,.inr (.inr (.inr ⟨rfl,(by rw[hf];intro x h;cases h),att,(h2 h).2.2,by rw[hf]⟩))⟩,(λx h=>by cases h),(λ_ _ x h=>by cases h),(λ_ _=>h3 hf),.inl rfl⟩
  | some x =>
    dsimp only
    have hx:=Jk hf
    have hsx:=Ap4 (ok.e _ hx.2.2)
    by_cases h2:x.State=2
    · rw[ifp h2]
      refine⟨l,x.Ts,0,rfl,λ_=>⟨ok,λ_ _=>rfl,hN'.2.2.1,hN'.2.2.2,.inr (.inr (.inl ⟨rfl,x,hf,h2,rfl⟩))⟩,(λy h _=>by cases h;exact .inl ⟨rfl,rfl⟩),λ_ h0 y h=>?_,(λh=>by cases h),.inr ⟨x,rfl,h2⟩⟩
      rcases hsx.2.2.2.2 with h|h|h
      · rw[h] at h2;cases h2
      · omega
      · rw[h] at h2;cases h2
    · rw[if_neg (by simpa using h2)]
      have he:(if att > x.Attempt then att else x.Attempt)=max x.Attempt att:=by split <;> omega
      rw[he]
      obtain⟨l',e,h1,h3,_⟩:=hgo (max x.Attempt att) omg omg
      exact⟨l',0,e,h1,λh=>⟨(h3 h).1,(h3 h).2.1,hN'.2.2.1,hN'.2.2.2,.inr (.inr (.inr ⟨rfl,(by rw[hf];rintro y h;cases h;exact h2),_,(h3 h).2.2,by rw[hf]⟩))⟩,(λy h hy=>by cases h;exact absurd hy h2),(λ_ _ y h=>by cases h;exact h2),(λh=>by cases h),.inl rfl⟩
theorem Auv {l:List E12} (ok:OkT l) (tok:Int):∃ l' e,C7 ⟨l⟩ tok=some (⟨l'⟩,e)/\(e=0->OkT l'/\(∀ t,t≠tok->fnd l' t=fnd l t)/\fnd l' tok=none/\l'.length=l.length-1/\1<=l.length) /\
    (∀ x,fnd l tok=some x->(x.State=1->e=7)/\(x.State=2->e=0)):=by
  unfold C7
  show ∃ l' e,(Ci ⟨l⟩).bind _=_/\_
  rw[Abr ok,Kh]
  simp only[zA]
  rw[if_neg smp]
  have hn:=ok.n
  cases hN:sN tok 0 with
  | false =>
    refine⟨[],1,rfl,(λh=>by cases h),λx h=>?_⟩
    have:=Ap4 (ok.e _ (Jk h).2.2)
    rw[(Jk h).1] at this
    exfalso
    have h2:sN tok 0=true:=decide_eq_true ⟨this.1,this.2.1,xS _,by decide⟩
    rw[hN] at h2;cases h2
  | true =>
  rw[if_neg smp]
  unfold Jq
  rw[Wf omg]
  simp only[zA]
  cases hf:fnd l tok with
  | none=>exact⟨[],6,rfl,(λh=>by cases h),λx h=>by cases h⟩
  | some x =>
    dsimp only
    have hx:=Jk hf
    rw[if_neg smp]
    by_cases h1:x.State=1
    · rw[ifp h1]
      exact⟨[],7,rfl,(λh=>by cases h),λy h=>by cases h;exact⟨λ_=>rfl,λh2=>by rw[h1] at h2;cases h2⟩⟩
    rw[if_neg (by simpa using h1),Oa l tok omg]
    simp only[zA]
    rw[Tq omg omg omg]
    simp only[zA]
    rw[wIo,Tq omg omg omg]
    simp only[zA]
    have e1:(l.drop (0:Int).toNat).take ((ix l tok:Int).toNat-(0:Int).toNat)=l.take (ix l tok):=by simp
    have e2:(l.drop ((ix l tok:Int)+1).toNat).take ((l.length:Int).toNat-((ix l tok:Int)+1).toNat)=l.drop (ix l tok+1):=by
      rw[show((ix l tok:Int)+1).toNat=ix l tok+1 by omega,z6]
      exact yJ (by rw[yF];exact zT _)
    rw[e1,e2]
    have e3:[l.take (ix l tok),l.drop (ix l tok+1)].flatten=Am5 l tok:=by simp [Am5]
    have hdl:=A1e (l:=l) (t:=tok) hx.2.1
    rw[Qa _ (by rw[e3,hdl];omega) smp,e3]
    simp only[zA]
    have hff:=A19 ok hx.2.1
    exact⟨_,0,rfl,λ_=>⟨A0h ok hx.2.1,(λt ht=>by rw[hff t,if_neg ht]),by rw[hff tok,if_pos rfl],hdl,by omega⟩,λy h=>by cases h;exact⟨λh=>absurd h h1,λ_=>rfl⟩⟩
theorem A6k:OkT []:=⟨λx h=>(by cases h),λi j x y h=>(by simp at h),by simp⟩
namespace bf
theorem Afg (a b:List UInt8):F3 a b=some (Ce a b):=rfl
theorem Awa {a b:List UInt8} {i:Nat} {x y:UInt8} (ha:a[i]? = some x) (hb:b[i]? = some y):Ce (a.drop i) (b.drop i)=if x<y then -1 else if y<x then 1 else Ce (a.drop (i+1)) (b.drop (i+1)):=by
  obtain⟨h1,rfl⟩:=zB.1 ha
  obtain⟨h2,rfl⟩:=zB.1 hb
  rw[xB h1,xB h2]
  rfl
theorem Abh (x y:UInt8):((x.toBitVec.toNat:Int)<(y.toBitVec.toNat:Int))↔x<y:=by
  rw[xI,Int.ofNat_lt]
  rfl
def Pu (r:Aj) (k:List UInt8):Bool:=decide (0<=Ce k r.Lo)&&(r.Open||decide (Ce k r.Hi<0))
theorem Auk (r:Aj) (k:List UInt8):Er r k=some (Pu r k):=by
  unfold Er Pu
  simp only[Afg,zA]
  cases decide (0<=Ce k r.Lo) <;> cases r.Open <;> simp
def emptyV (r:Aj):Bool:=!r.Open&&((decide (r.Lo=[])&&decide (r.Hi=[0]))||decide (Ce r.Hi r.Lo<=0))
theorem Bft {α:Type} (a:List α):decide ((a.length:Int)=0)=decide (a=[]):=by
  rw[decide_eq_decide]
  cases a <;> simp
  omega
theorem empty_m (r:Aj):Ex r=some (emptyV r):=by
  obtain⟨lo,hi,o⟩:=r
  unfold Ex E2 emptyV
  simp only[Afg,zA,Bft]
  cases o with
  | true=>rfl
  | false =>
    cases lo with
    | cons x xs=>simp
    | nil =>
      rcases hi with _|⟨x,_|⟨y,ys⟩⟩
      · simp
      · have e:(decide ((x.toBitVec.toNat:Int)=(0:Int)))=decide (x=0):=by
          rw[decide_eq_decide]
          constructor
          · intro h; exact UInt8.toNat_inj.1 (by have : x.toNat = 0 := by have h' : ((x.toNat : Nat) : Int) = 0 := h; omega
                                                 rw[this];rfl)
          · rintro rfl;rfl
        rw[show idx [x] 0=some x from rfl]
        simp only[zA,e]
        by_cases hx:x=0 <;> simp [hx]
      · have:((List.length (x::y::ys):Nat):Int)≠1:=by simp;omega
        simp [this]
        omega
theorem one_m (a:List UInt8) (h:a.length<=1000000):Ss a=some ⟨a,a++[0],false⟩:=by
  unfold Ss
  rw[Wt _ (by simp;omega) smp]
  simp
abbrev Keys:=List (List UInt8)
def kat (xs:Keys) (k:List UInt8):Nat:=xs.findIdx (λx=>decide (0<=Ce x k))
def hit (xs:Keys) (k:List UInt8):Bool:=xs[kat xs k]? == some k
theorem Afu (xs:Keys) (k:List UInt8):kat xs k<=xs.length:=j7
theorem Azx {xs:Keys} {k:List UInt8} {i:Nat} {x:List UInt8} (h:xs[i]? = some x) (h1:0<=Ce x k) (h2:∀ j y,j<i->xs[j]? = some y->Ce y k<0):kat xs k=i:=by
  obtain⟨hi,rfl⟩:=zB.1 h
  unfold kat
  rw[List.findIdx_eq hi]
  refine⟨by simpa using h1,λj hj=>?_⟩
  have:=h2 j xs[j] hj (zC omg)
  rw[decide_eq_false_iff_not]
  omega
theorem Ao4 {xs:Keys} {k:List UInt8} (h:∀ j y,j<xs.length->xs[j]? = some y->Ce y k<0):kat xs k=xs.length:=by
  unfold kat
  rw[j8]
  intro x hx
  obtain⟨j,hj,rfl⟩:=y9 hx
  have:=h j xs[j] hj (zC hj)
  rw[decide_eq_false_iff_not]
  omega
theorem Adf (x k:List UInt8):decide (Ce x k=0)=(x==k):=by
  by_cases h:x=k
  · subst h;simp [Jp]
  · rw[beq_false_of_ne h,decide_eq_false_iff_not]
    exact λe=>h (Pf e)
theorem Akt (xs:Keys) (k:List UInt8) (hn:xs.length<=1000000000000000000):Ig xs k=some ((kat xs k:Int),hit xs k):=by
  obtain⟨v,hv,hr⟩:=B9 (f:=Dz xs k) (P:=λs=>∃ i:Nat,s=(i:Int)/\i<=xs.length/\∀ j y,j<i->xs[j]? = some y->Ce y k<0) (μ:=λs=>xs.length-s.toNat)
    (R:=λv=>match v with | .inl r=>r=(kat xs k:Int)/\kat xs k<xs.length | .inr _=>kat xs k=xs.length) (by
    rintro _ ⟨i,rfl,h1,h2⟩
    unfold Dz Di
    by_cases hi:i<xs.length
    · have e:=zC hi
      rw[ifo,Ak,e]
      simp only[zA,Afg]
      by_cases hc:0<=Ce xs[i] k
      · right;right
        rw[ifp hc]
        have ea:=Azx e hc h2
        exact⟨_,rfl,by rw[ea],by rw[ea];exact hi⟩
      · left
        rw[ifn hc]
        refine⟨_,rfl,⟨i+1,by rw[wIo];rfl,hi,λj y hj hy=>?_⟩,by rw[wIo];omega⟩
        rcases j0.1 hj with h|rfl
        · exact h2 j y h hy
        · rw[e] at hy;cases hy;omega
    · right;left
      rw[ifq]
      refine⟨_,rfl,?_⟩
      have:i=xs.length:=by omega
      subst this
      exact Ao4 h2) fuel 0 ⟨0,rfl,zU _,λj y hj=>absurd hj (zW _)⟩ (Bb (by show xs.length-0<=_;omega))
  unfold Ig Iw
  rw[hv]
  simp only[zA]
  cases v with
  | inl r =>
    obtain⟨rfl,hlt⟩:r=(kat xs k:Int)/\kat xs k<xs.length:=hr
    simp only[zA]
    rw[ifq,Ak,zC hlt]
    simp only[zA,Cw]
    unfold hit
    rw[zC hlt]
    rfl
  | inr u =>
    have e:kat xs k=xs.length:=hr
    unfold Gu
    simp only[zA]
    rw[if_pos dcd]
    unfold hit
    rw[e]
    simp
def ins (xs:Keys) (k:List UInt8):Keys:=if hit xs k then xs else xs.take (kat xs k)++k::xs.drop (kat xs k)
def part (xs:Keys) (k:List UInt8) (j:Nat):Keys:=if hit xs k=true\/j<=kat xs k then xs.take j else xs.take (kat xs k)++k::(xs.drop (kat xs k)).take (j-kat xs k)
theorem Aor {xs:Keys} {k:List UInt8} (h:hit xs k=true):kat xs k<xs.length:=by
  unfold hit at h
  have:=eq_of_beq h
  exact(zB.1 this).1
abbrev PW (xs:Keys):Prop:=xs.Pairwise (λx y=>Ce x y<0)
theorem Au3 {xs:Keys} {k x:List UInt8} (h:x∈xs.take (kat xs k)):Ce x k<0:=by
  obtain⟨j,hj,rfl⟩:=y9 h
  rw[zR] at hj
  rw[jI]
  have:=j6 (p:=λx=>decide (0<=Ce x k)) (xs:=xs) (i:=j) (by have h':kat xs k=List.findIdx (λx=>decide (0<=Ce x k)) xs:=rfl;omega)
  have h2:¬ 0<=Ce xs[j] k:=by simpa using this
  omega
theorem Ats {xs:Keys} {k:List UInt8} (h:kat xs k<xs.length):0<=Ce xs[kat xs k] k:=by
  have:=kE (p:=λx=>decide (0<=Ce x k)) (xs:=xs) (w:=h)
  exact of_decide_eq_true this
theorem Anb {xs:Keys} {k:List UInt8} (h:hit xs k=true):k∈xs:=by
  unfold hit at h
  exact zD (eq_of_beq h)
theorem A29 {xs:Keys} {k:List UInt8} (hp:PW xs) (h:k∈xs):hit xs k=true:=by
  obtain⟨j,hj,rfl⟩:=y9 h
  have hle:kat xs xs[j]<=j:=by
    rcases zQ j (kat xs xs[j]) with h1|h1
    · have:=Au3 (xs:=xs) (k:=xs[j]) (x:=xs[j]) (List.mem_take_iff_getElem.2 ⟨j,by omega,rfl⟩)
      rw[Jp] at this
      omega
    · exact h1
  have hk:kat xs xs[j]<xs.length:=by omega
  unfold hit
  rw[zC hk]
  rcases zQ (kat xs xs[j]) j with h1|h1
  · have h2:=z7.1 hp _ _ hk hj h1
    have h3:=Ats hk
    omega
  · have e:kat xs xs[j]=j:=by omega
    simp only[e]
    simp
theorem Anj {xs:Keys} {k:List UInt8} (hp:PW xs):hit xs k=true↔k∈xs:=⟨Anb,A29 hp⟩
theorem Am6 {xs:Keys} {k x:List UInt8}:x∈ins xs k↔x=k\/x∈xs:=by
  unfold ins
  by_cases h:hit xs k=true
  · rw[if_pos h]
    constructor
    · exact .inr
    · rintro(rfl|h')
      · exact Anb h
      · exact h'
  · rw[if_neg h]
    have e:x∈xs↔x∈xs.take (kat xs k)\/x∈xs.drop (kat xs k):=by
      rw[<- yG,xP]
    rw[yG,yB,e]
    constructor
    · rintro(h1|rfl|h1)
      · exact .inr (.inl h1)
      · exact .inl rfl
      · exact .inr (.inr h1)
    · rintro(rfl|h1|h1)
      · exact .inr (.inl rfl)
      · exact .inl h1
      · exact .inr (.inr h1)
theorem A4a (xs:Keys) (k:List UInt8):(ins xs k).length=if hit xs k=true then xs.length else xs.length+1:=by
  unfold ins
  have:=Afu xs k
  split
  · rfl
  · simp;omega
theorem Auq {xs:Keys} {k:List UInt8} (hp:PW xs):PW (ins xs k):=by
  unfold ins
  by_cases h:hit xs k=true
  · rw[if_pos h];exact hp
  · rw[if_neg h]
    have hap:PW (xs.take (kat xs k)++xs.drop (kat xs k)):=by rw[xP];exact hp
    obtain⟨h1,h2,h3⟩:=wU.1 hap
    have hk:∀ y∈xs.drop (kat xs k),Ce k y<0:=by
      intro y hy
      have hlt:kat xs k<xs.length:=by
        rcases zQ (kat xs k) xs.length with h'|h'
        · exact h'
        · rw[wN h'] at hy;cases hy
      have hge:=Ats hlt
      have hne:Ce xs[kat xs k] k≠0:=λe=>h (by
        unfold hit
        rw[zC hlt,Pf e]
        simp)
      have hs:=Lh k xs[kat xs k]
      have hlt2:Ce k xs[kat xs k]<0:=by omega
      rw[xB hlt] at hy h2
      rcases yB.1 hy with rfl|hy
      · exact hlt2
      · have:=(yX.1 h2).1 y hy
        exact(Hd (kJ hlt2) (kJ this)).2 (.inl hlt2)
    refine wU.2 ⟨h1,yX.2 ⟨hk,h2⟩,λx hx y hy=>?_⟩
    rcases yB.1 hy with rfl|hy
    · exact Au3 hx
    · exact h3 x hx y hy
theorem Yg {xs:Keys} (hp:PW xs) (hn:xs.length<=1000000000000000000):Bi xs=some true:=by
  obtain⟨v,hv,hr⟩:=B9 (f:=Bm xs) (P:=λs=>∃ i:Nat,s=(i:Int)/\1<=i) (μ:=λs=>xs.length-s.toNat)
    (R:=λv=>match v with | .inl r=>False | .inr _=>True) (by
    rintro _ ⟨i,rfl,h1⟩
    unfold Bm
    by_cases hi:i<xs.length
    · left
      rw[ifo,wIo,show(i:Int)-1=((i-1:Nat):Int) from by omega,Ak,Ak,zC hi,zC omg]
      simp only[zA,Afg]
      have:=z7.1 hp (i-1) i omg hi omg
      rw[ifq]
      exact⟨_,rfl,⟨i+1,by rw[wIo];rfl,by omega⟩,by rw[wIo];omega⟩
    · right;left
      rw[ifq]
      exact⟨_,rfl,trivial⟩) fuel 1 ⟨1,rfl,zT _⟩ (Bb (by show xs.length-1<=_;omega))
  unfold Bi
  rw[hv]
  cases v with
  | inl r=>exact hr.elim
  | inr u=>rfl
theorem sorted_some (xs:Keys) (hn:xs.length<=1000000000000000000):∃ v,Bi xs=some v:=by
  obtain⟨v,hv,hr⟩:=B9 (f:=Bm xs) (P:=λs=>∃ i:Nat,s=(i:Int)/\1<=i) (μ:=λs=>xs.length-s.toNat)
    (R:=λ_=>True) (by
    rintro _ ⟨i,rfl,h1⟩
    unfold Bm
    by_cases hi:i<xs.length
    · rw[ifo,wIo,show(i:Int)-1=((i-1:Nat):Int) from by omega,Ak,Ak,zC hi,zC omg]
      simp only[zA,Afg]
      by_cases hc:0<=Ce xs[i-1] xs[i]
      · right;right
        rw[ifp hc]
        exact⟨_,rfl,trivial⟩
      · left
        rw[ifq]
        exact⟨_,rfl,⟨i+1,by rw[wIo];rfl,by omega⟩,by rw[wIo];omega⟩
    · right;left
      rw[ifq]
      exact⟨_,rfl,trivial⟩) fuel 1 ⟨1,rfl,zT _⟩ (Bb (by show xs.length-1<=_;omega))
  unfold Bi
  rw[hv]
  cases v with
  | inl r=>exact⟨r,rfl⟩
  | inr u=>exact⟨true,rfl⟩
theorem idx_mem {α:Type} {xs:List α} {j:Int} {u:α} (h:idx xs j=some u):u∈xs:=zD (Hu h).2
def wk (x:Ae):List UInt8:=x.Key
def swV (w:Ae):Bool:=(Bt w).getD false
theorem A7f (w:Ae):Bt w=some (swV w):=by
  have:∃ b,Bt w=some b:=by
    unfold Bt Co
    repeat' (first|exact⟨_,rfl⟩|split|dsimp only [Option.bind_some])
  obtain⟨b,hb⟩:=this
  unfold swV
  rw[hb];rfl
structure Good (b:List Ae):Prop where
  sw:∀ w∈b,swV w=true
  len:b.length<=16
  rise:Gh wk b
theorem Good.nil:Good []:=⟨λw h=>(by simp at h),by decide,List.Pairwise.nil⟩
theorem pw_rise {α:Type} {kf:α->List UInt8} {l:List α}:PW (l.map kf)↔Gh kf l:=wH
theorem keysOf_m {b:List Ae} (hb:b.length<=1000000):Cs ⟨b⟩=some (b.map wk):=by
  unfold Cs
  obtain⟨v,hv,hr⟩:=Bo (f:=J8 ⟨b⟩) (P:=λs=>∃ j:Nat,j<=b.length/\s=((j:Int),(b.take j).map wk)) (μ:=λs=>b.length-s.1.toNat) (R:=λv=>v=b.map wk) (by
    rintro _ ⟨j,hj,rfl⟩
    unfold J8
    dsimp only
    rcases zQ j b.length with hlt|hge
    · left
      rw[ifo,Ak,zC hlt,zA,if_pos (by rw[zP,zR,yD];omega),wIo]
      refine⟨_,rfl,⟨j+1,hlt,?_⟩,by dsimp only;omega⟩
      rw[zO hlt,xJ];rfl
    · right
      have e:j=b.length:=by omega
      subst e
      rw[ifq]
      exact⟨_,rfl,by rw[yM]⟩) fuel (0,[]) ⟨0,zU _,by simp⟩ (Bb (by show b.length-0<=_;omega))
  rw[hv,hr];rfl
theorem sane_m {b:List Ae} (h:Good b):Df ⟨b⟩=some true:=by
  have hl:=h.len
  unfold Df
  rw[Auo b (λw=>!swV w) (λ_=>false) (Ik ⟨b⟩) omg (λi x hx=>by
    have hlt:=(zB.1 hx).1
    unfold Ik
    dsimp only
    rw[ifo,Ak,hx,zA,A7f,zA,wIo]
    cases swV x <;> rfl) (by
    unfold Ik
    dsimp only
    rw[ifq]),Abl (λx hx=>by rw[h.sw x hx];rfl)]
  show L3 ⟨b⟩ ()=_
  unfold L3
  dsimp only
  rw[ifo,keysOf_m omg,zA,Yg (pw_rise.2 h.rise) (by rw[zP];omega),zA]
def setR (b:List Ae) (w:Ae):List Ae:=Ajw wk (Tj wk b w)
theorem Af4 {α:Type} {kf:α->List UInt8} {t:List α} (h:Ib kf t) (x:α):Ib kf (Tj kf t x):=by
  refine yX.2 ⟨λy hy=>?_,h.sublist (jB ..)⟩
  have:=(yO.1 hy).2
  intro e
  rw[e] at this
  simp at this
theorem Ati {α:Type} {kf:α->List UInt8} {t:List α} (h:Ib kf t) (k:List UInt8):Ib kf (Ad5 kf t k):=h.sublist (jB ..)
theorem Aje {α:Type} {kf:α->List UInt8} {t:List α} {x y:α}:y∈Tj kf t x↔y=x\/(y∈t/\kf y≠kf x):=by
  unfold Tj
  rw[yB,yO]
  simp
theorem Ayy {α:Type} {kf:α->List UInt8} {t:List α} {k:List UInt8} {y:α}:y∈Ad5 kf t k↔y∈t/\kf y≠k:=by
  unfold Ad5
  rw[yO]
  simp
theorem Ay1 {b:List Ae} {w x:Ae}:x∈setR b w↔x=w\/(x∈b/\wk x≠wk w):=Ap3.trans Aje
theorem Af3 {b:List Ae} (h:Gh wk b) (w:Ae):Gh wk (setR b w):=Tg (Af4 h.dist w)
theorem Aiw {b:List Ae} (h:Gh wk b) {k:List UInt8}:hit (b.map wk) k=true↔k∈b.map wk:=Anj (pw_rise.2 h)
theorem Alu {b:List Ae} (h:Gh wk b) {w:Ae} (hh:hit (b.map wk) (wk w)=true):b.set (kat (b.map wk) (wk w)) w=setR b w:=by
  have hk:(b.map wk)[kat (b.map wk) (wk w)]? = some (wk w):=by
    unfold hit at hh
    exact beq_iff_eq.1 hh
  obtain⟨p1,_,p3⟩:=Ajf (List.Perm.refl b) h.dist (x:=w) hk
  refine Agm ?_ (Af3 h w) (p1.trans (Jo _).symm)
  have e:(b.set (kat (b.map wk) (wk w)) w).map wk=b.map wk:=(Ajf (List.Perm.refl b) h.dist (x:=w) hk).2.1
  exact pw_rise.1 (by rw[e];exact pw_rise.2 h)
theorem Avx {b:List Ae} (h:Gh wk b) {w:Ae} (hh:hit (b.map wk) (wk w)=false):b.take (kat (b.map wk) (wk w))++w::b.drop (kat (b.map wk) (wk w))=setR b w:=by
  have hk:wk w∉b.map wk:=λhm=>by rw[(Aiw h).2 hm] at hh;cases hh
  have hp:(b.take (kat (b.map wk) (wk w))++w::b.drop (kat (b.map wk) (wk w))).Perm (w::b):=by
    refine List.perm_middle.trans ?_
    rw[xP]
  have hf:Tj wk b w=w::b:=by unfold Tj;rw[Afd hk]
  refine Agm ?_ (Af3 h w) (hp.trans (by rw[<- hf];exact(Jo _).symm))
  have hi:=Auq (k:=wk w) (pw_rise.2 h)
  unfold ins at hi
  rw[if_neg (by rw[hh];decide)] at hi
  refine pw_rise.1 ?_
  rw[xJ,xN,jO,j9]
  exact hi
theorem Axm {b:List Ae} (h:Gh wk b) (w:Ae):(setR b w).length=if hit (b.map wk) (wk w)=true then b.length else b.length+1:=by
  cases hh:hit (b.map wk) (wk w) with
  | true=>rw[<- Alu h hh,if_pos rfl,xA]
  | false =>
    rw[<- Avx h hh,if_neg dcd,zI,yZ,zR,yF]
    have:=Afu (b.map wk) (wk w)
    rw[zP] at this
    omega
theorem A4r {b:List Ae} (h:Good b) {w:Ae} (hw:swV w=true) (hr:wk w∈b.map wk\/b.length<16):Bu ⟨b⟩ w=some (⟨setR b w⟩,0)/\Good (setR b w):=by
  have hl:=h.len
  have hg:Good (setR b w):=by
    refine⟨λx hx=>?_,?_,Af3 h.rise w⟩
    · rcases Ay1.1 hx with rfl|⟨hx,_⟩
      · exact hw
      · exact h.sw x hx
    · rw[Axm h.rise]
      split
      · exact hl
      · rename_i hn
        rcases hr with hr|hr
        · exact absurd ((Aiw h.rise).2 hr) hn
        · omega
  refine⟨?_,hg⟩
  unfold Bu
  rw[show(⟨(Au.mk b).L⟩:Au)=⟨b⟩ from rfl,sane_m h,zA,show(⟨w.Key,w.Val,w.Del⟩:Ae)=w from rfl,A7f,zA,hw]
  unfold G9
  rw[keysOf_m omg,zA,Akt _ _ (by rw[zP];omega),zA]
  dsimp only
  rw[Kw _ omg,zA]
  have hkl:=Afu (b.map wk) (wk w)
  rw[zP] at hkl
  rw[if_neg dcd,if_neg dcd]
  cases hh:hit (b.map wk) w.Key with
  | true =>
    have hlt:=Aor hh
    rw[zP] at hlt
    rw[if_pos rfl,Ak,zC hlt,zA,z6]
    exact congrArg (λl=>some (Au.mk l,(0:Int))) (Alu h.rise hh)
  | false =>
    have hlt:b.length<16:=by
      rcases hr with hr|hr
      · have:=(Aiw h.rise).2 hr
        rw[show wk w=w.Key from rfl,hh] at this;cases this
      · exact hr
    rw[if_neg dcd,ifq]
    unfold Mv Auz
    dsimp only
    rw[if_pos ⟨⟨xZ _,by show((kat (b.map wk) (wk w):Nat):Int)<=_;omega⟩,by omega⟩,zA,z6]
    exact congrArg (λl=>some (Au.mk l,(0:Int))) (Avx h.rise hh)
theorem A1c {b:List Ae} (h:Good b) {w:Ae} (hn:¬ (swV w=true/\(wk w∈b.map wk\/b.length<16))):∃ e:Int,e≠0/\(swV w=true->e=8)/\Bu ⟨b⟩ w=some (⟨[]⟩,e):=by
  have hl:=h.len
  unfold Bu
  rw[show(⟨(Au.mk b).L⟩:Au)=⟨b⟩ from rfl,sane_m h,zA,show(⟨w.Key,w.Val,w.Del⟩:Ae)=w from rfl,A7f,zA,if_neg dcd]
  cases hw:swV w with
  | false=>exact⟨1,by decide,λh=>(by cases h),rfl⟩
  | true =>
    have hn2:¬ (wk w∈b.map wk\/b.length<16):=λh=>hn ⟨hw,h⟩
    have hh:hit (b.map wk) w.Key=false:=by
      cases hh:hit (b.map wk) w.Key with
      | false=>rfl
      | true=>exact absurd (.inl ((Aiw h.rise).1 hh)) hn2
    unfold G9
    rw[if_neg dcd,keysOf_m omg,zA,Akt _ _ (by rw[zP];omega),zA]
    dsimp only
    rw[Kw _ omg,zA,hh,if_neg dcd,ifo]
    exact⟨8,by decide,λ_=>rfl,rfl⟩
theorem set_any {b:List Ae} (h:Good b) (w:Ae):(Bu ⟨b⟩ w=some (⟨setR b w⟩,0)/\Good (setR b w)/\swV w=true)\/∃ e:Int,e≠0/\Bu ⟨b⟩ w=some (⟨[]⟩,e):=by
  by_cases hc:swV w=true/\(wk w∈b.map wk\/b.length<16)
  · obtain⟨h1,h2⟩:=A4r h hc.1 hc.2
    exact .inl ⟨h1,h2,hc.1⟩
  · obtain⟨e,h1,_,h2⟩:=A1c h hc
    exact .inr ⟨e,h1,h2⟩
def kvw (w:Ae):As:=⟨w.Key,w.Val⟩
def S9 (r:Aj) (t:List As) (x:As):List As:=if Pu r x.Key then Tj kvk t x else t
def Wm (r:Aj) (t:List As) (w:Ae):List As:=if w.Del then Ad5 kvk t w.Key else if Pu r w.Key then Tj kvk t (kvw w) else t
def ovL (b:List Ae) (l:List As) (r:Aj):List As:=Ajw kvk (b.foldl (Wm r) (l.foldl (S9 r) []))
theorem Akk {r:Aj}:∀ {l t:List As},Ib kvk l->(∀ x∈t,∀ y∈l,kvk x≠kvk y)->Ib kvk t->(∀ x,x∈l.foldl (S9 r) t↔x∈t\/(x∈l/\Pu r x.Key=true))/\Ib kvk (l.foldl (S9 r) t)
  | [],t,_,_,hd=>⟨λx=>by simp,hd⟩
  | y::l,t,h,hn,hd=>by
    obtain⟨h1,h2⟩:=yX.1 h
    rw[w8]
    have hs:(∀ x,x∈S9 r t y↔x∈t\/(x=y/\Pu r y.Key=true))/\Ib kvk (S9 r t y):=by
      unfold S9
      cases hh:Pu r y.Key with
      | false=>exact⟨λx=>by simp,hd⟩
      | true =>
        rw[if_pos rfl]
        refine⟨λx=>?_,Af4 hd y⟩
        rw[Aje]
        constructor
        · rintro(h|⟨h,_⟩)
          · exact .inr ⟨h,rfl⟩
          · exact .inl h
        · rintro(h|⟨h,_⟩)
          · exact .inr ⟨h,hn x h y (yQ ..)⟩
          · exact .inl h
    obtain⟨i1,i2⟩:=Akk (r:=r) h2 (t:=S9 r t y) (λx hx z hz=>by
      rcases(hs.1 x).1 hx with h|⟨h,_⟩
      · exact hn x h z (yH _ hz)
      · rw[h];exact h1 z hz) hs.2
    refine⟨λx=>?_,i2⟩
    rw[i1,hs.1,yB]
    constructor
    · rintro((h|⟨h,h'⟩)|⟨h,h'⟩)
      · exact .inl h
      · exact .inr ⟨.inl h,by rw[h];exact h'⟩
      · exact .inr ⟨.inr h,h'⟩
    · rintro(h|⟨h|h,h'⟩)
      · exact .inl (.inl h)
      · exact .inl (.inr ⟨h,by rw[<- h];exact h'⟩)
      · exact .inr ⟨h,h'⟩
theorem Amr {r:Aj}:∀ {b:List Ae} {t:List As},Ib wk b->(∀ x∈t,Pu r x.Key=true)->Ib kvk t ->
    (∀ x,x∈b.foldl (Wm r) t↔(x∈t/\x.Key∉b.map wk)\/∃ w∈b,w.Del=false/\Pu r w.Key=true/\x=kvw w)/\Ib kvk (b.foldl (Wm r) t)
  | [],t,_,_,hd=>⟨λx=>by simp,hd⟩
  | y::b,t,h,hr,hd=>by
    obtain⟨h1,h2⟩:=yX.1 h
    rw[w8]
    have hs:(∀ x,x∈Wm r t y↔(x∈t/\x.Key≠y.Key)\/(y.Del=false/\Pu r y.Key=true/\x=kvw y))/\Ib kvk (Wm r t y):=by
      unfold Wm
      cases hdel:y.Del with
      | true =>
        rw[if_pos rfl]
        refine⟨λx=>?_,Ati hd _⟩
        rw[Ayy]
        simp [kvk]
      | false =>
        rw[if_neg dcd]
        cases hh:Pu r y.Key with
        | false =>
          rw[if_neg dcd]
          refine⟨λx=>⟨λhx=>.inl ⟨hx,λe=>?_⟩,λhx=>?_⟩,hd⟩
          · have:=hr x hx;rw[e,hh] at this;cases this
          · rcases hx with⟨hx,_⟩|⟨_,hx,_⟩
            · exact hx
            · cases hx
        | true =>
          rw[if_pos rfl]
          refine⟨λx=>?_,Af4 hd _⟩
          rw[Aje]
          constructor
          · rintro(h|h)
            · exact .inr ⟨rfl,rfl,h⟩
            · exact .inl h
          · rintro(h|⟨_,_,h⟩)
            · exact .inr h
            · exact .inl h
    obtain⟨i1,i2⟩:=Amr (r:=r) h2 (t:=Wm r t y) (λx hx=>by
      rcases(hs.1 x).1 hx with⟨h,_⟩|⟨_,h,e⟩
      · exact hr x h
      · rw[e];exact h) hs.2
    refine⟨λx=>?_,i2⟩
    rw[i1,hs.1,xN,yB]
    constructor
    · rintro(⟨⟨h,h'⟩|⟨hd',hr',e⟩,hb⟩|⟨w,hw,hx⟩)
      · exact .inl ⟨h,λe=>e.elim h' hb⟩
      · exact .inr ⟨y,yQ ..,hd',hr',e⟩
      · exact .inr ⟨w,yH _ hw,hx⟩
    · rintro(⟨h,hb⟩|⟨w,hw,hx⟩)
      · exact .inl ⟨.inl ⟨h,λe=>hb (.inl e)⟩,λe=>hb (.inr e)⟩
      · rcases yB.1 hw with rfl|hw
        · refine .inl ⟨.inr hx,λhm=>?_⟩
          obtain⟨z,hz,hk⟩:=yA.1 hm
          rw[hx.2.2] at hk
          exact h1 z hz hk.symm
        · exact .inr ⟨w,hw,hx⟩
theorem Atu {b:List Ae} {l:List As} (r:Aj) (hb:Gh wk b) (hl:Gh kvk l) :
    (∀ x,x∈b.foldl (Wm r) (l.foldl (S9 r) [])↔(Pu r x.Key=true/\x∈l/\x.Key∉b.map wk)\/∃ w∈b,w.Del=false/\Pu r w.Key=true/\x=kvw w)/\Ib kvk (b.foldl (Wm r) (l.foldl (S9 r) [])):=by
  obtain⟨h1,h2⟩:=Akk (r:=r) (t:=[]) hl.dist (λx hx=>by simp at hx) List.Pairwise.nil
  obtain⟨h3,h4⟩:=Amr (r:=r) hb.dist (t:=l.foldl (S9 r) []) (λx hx=>by
    rcases(h1 x).1 hx with h|h
    · simp at h
    · exact h.2) h2
  refine⟨λx=>?_,h4⟩
  rw[h3,h1]
  simp only[List.not_mem_nil,false_or]
  constructor
  · rintro(⟨⟨a,b⟩,c⟩|h)
    · exact .inl ⟨b,a,c⟩
    · exact .inr h
  · rintro(⟨b,a,c⟩|h)
    · exact .inl ⟨⟨a,b⟩,c⟩
    · exact .inr h
theorem A6s {b:List Ae} {l:List As} {r:Aj} (hb:Gh wk b) (hl:Gh kvk l) {x:As} :
    x∈ovL b l r↔(Pu r x.Key=true/\x∈l/\x.Key∉b.map wk)\/∃ w∈b,w.Del=false/\Pu r w.Key=true/\x=kvw w:=Ap3.trans ((Atu r hb hl).1 x)
theorem A34 {b:List Ae} {l:List As} (r:Aj) (hb:Gh wk b) (hl:Gh kvk l):Gh kvk (ovL b l r):=Tg (Atu r hb hl).2
theorem Amt (r:Aj):∀ (l t:List As),(l.foldl (S9 r) t).length<=t.length+l.length
  | [],t=>by simp
  | y::l,t=>by
    have:=Amt r l (S9 r t y)
    have h2:(S9 r t y).length<=t.length+1:=by
      unfold S9 Tj
      split
      · have:=xK (λz=>!(kvk z==kvk y)) t
        rw[yZ];omega
      · omega
    rw[w8,yZ];omega
theorem Alx (r:Aj):∀ (b:List Ae) (t:List As),(b.foldl (Wm r) t).length<=t.length+b.length
  | [],t=>by simp
  | y::l,t=>by
    have:=Alx r l (Wm r t y)
    have h2:(Wm r t y).length<=t.length+1:=by
      unfold Wm Tj Ad5
      split
      · have:=xK (λz=>!(kvk z==y.Key)) t;omega
      · split
        · have:=xK (λz=>!(kvk z==kvk (kvw y))) t
          rw[yZ];omega
        · omega
    rw[w8,yZ];omega
theorem A40 (b:List Ae) (l:List As) (r:Aj):(ovL b l r).length<=l.length+b.length:=by
  unfold ovL
  rw[(Jo _).length_eq]
  have h1:=Alx r b (l.foldl (S9 r) [])
  have h2:=Amt r l []
  simp at h2
  omega
theorem A23 {l:List As} (h:Gh kvk l) (hl:l.length<=1000000):Dq l=some true:=by
  unfold Dq
  obtain⟨v,hv,hr⟩:=Bo (f:=Ei l) (P:=λs=>∃ j:Nat,j<=l.length/\s=((j:Int),(l.take j).map kvk)) (μ:=λs=>l.length-s.1.toNat) (R:=λv=>v=l.map kvk) (by
    rintro _ ⟨j,hj,rfl⟩
    unfold Ei
    dsimp only
    rcases zQ j l.length with hlt|hge
    · left
      rw[ifo,Ak,zC hlt,zA,if_pos (by rw[zP,zR,yD];omega),wIo]
      refine⟨_,rfl,⟨j+1,hlt,?_⟩,by dsimp only;omega⟩
      rw[zO hlt,xJ];rfl
    · right
      have e:j=l.length:=by omega
      subst e
      rw[ifq]
      exact⟨_,rfl,by rw[yM]⟩) fuel (0,[]) ⟨0,zU _,by simp⟩ (Bb (by show l.length-0<=_;omega))
  rw[hv,hr]
  show Em _=_
  unfold Em
  rw[Yg (wH.2 h) (by rw[zP];omega)]
  rfl
theorem over_m {b:List Ae} {l:List As} (r:Aj) {n:Int} (hb:Good b) (hl:Gh kvk l) (hn:l.length<=1000000) (h1:1<=n):C5 ⟨b⟩ l r n=some ((ovL b l r).take n.toNat):=by
  have hbl:=hb.len
  unfold C5
  rw[sane_m hb,zA,if_neg dcd,A23 hl hn,zA,if_neg dcd,ifq]
  have e1:=Ab9 (f:=Agd l r) (λ(t:List As) (i:Nat)=>((i:Int),t)) l (S9 r) (λt=>t) omg (λacc i x hx=>by
    have hlt:=(zB.1 hx).1
    unfold Agd
    dsimp only
    rw[ifo,Ak,hx,zA,Auk,zA,wIo]
    rfl) (λacc=>by
    unfold Agd
    dsimp only
    rw[ifq]) []
  have e2:=Ab9 (f:=Ae7 ⟨b⟩ r) (λ(t:List As) (i:Nat)=>((i:Int),t)) b (Wm r) (λt=>t) omg (λacc i x hx=>by
    have hlt:=(zB.1 hx).1
    unfold Ae7 Wm
    dsimp only
    rw[ifo,Ak,hx,zA,wIo]
    cases hd:x.Del with
    | true=>rfl
    | false =>
      rw[if_neg dcd,Auk,zA]
      rfl) (λacc=>by
    unfold Ae7
    dsimp only
    rw[ifq]) (l.foldl (S9 r) [])
  have e1':Be (Agd l r) fuel (0,[])=some (l.foldl (S9 r) []):=e1
  have e2':Be (Ae7 ⟨b⟩ r) fuel (0,l.foldl (S9 r) [])=some (b.foldl (Wm r) (l.foldl (S9 r) [])):=e2
  rw[e1',zA]
  unfold Ap6
  rw[e2',zA]
  unfold Aqk
  have hlen:=A40 b l r
  have hlen':(b.foldl (Wm r) (l.foldl (S9 r) [])).length=(ovL b l r).length:=(Jo (kf:=kvk) _).length_eq.symm
  rw[if_pos omg]
  show cut (ovL b l r) 0 (if n<((ovL b l r).length:Int) then n else((ovL b l r).length:Int))=_
  split
  · rw[Tq omg omg omg];simp
  · rw[Tq omg omg omg,yJ (l:=ovL b l r) omg];simp
end bf
namespace ss
open bf
def knR (x:Ac):Bl:=⟨x.Tx,x.Rng.Lo,x.Rng.Hi,x.Rng.Open⟩
theorem Au2 {a b:Ac} (h:knR a=knR b):a=b:=by
 cases a with|mk t r=>cases r;cases b with|mk t' r'=>cases r';simp [knR] at h;simp [h]
theorem Bbu (x:Ac):Iy x=some (knR x):=rfl
section
variable {κ:Type} [DecidableEq κ]
def Aia (l:List κ) (k:κ):List κ:=if k∈l then l else l++[k]
theorem Aq3 (M:List (κ×Int)) (k:κ) (i:Int):(Aac M k i).map (·.1)=Aia (M.map (·.1)) k:=by
 unfold Aia
 by_cases h:k∈M.map (·.1)
 ·rw[if_pos h]
  unfold Aac
  rw[if_pos (show(M.any λx=>decide (x.1=k))=true from Tu.2 h),List.map_map]
  apply xU
  intro x _
  simp only[Function.comp]
  split <;> rfl
 ·rw[if_neg h,Akz h,xJ];rfl
theorem Ay4 {l:List κ} {k x:κ}:x∈Aia l k↔x∈l\/x=k:=by
 unfold Aia
 split
 ·constructor
  ·exact .inl
  ·rintro(h|rfl)
   ·exact h
   ·assumption
 ·rw[yG,z8]
theorem Arf {l:List κ} (h:l.Nodup) (k:κ):(Aia l k).Nodup:=by
 unfold Aia
 split
 ·exact h
 ·rename_i hk
  refine j4.2 ⟨h,by simp,λa ha b hb=>?_⟩
  rw[z8.1 hb]
  exact λe=>hk (e ▸ ha)
theorem Arb:∀ (l acc:List κ),acc.Nodup->(l.foldl Aia acc).Nodup/\(∀ x,x∈l.foldl Aia acc↔x∈acc\/x∈l)/\(l.foldl Aia acc).length<=acc.length+l.length/\((l.foldl Aia acc).length=acc.length+l.length↔(acc++l).Nodup)
 | [],acc,h=>⟨h,λx=>by simp,by simp,by simp [h]⟩
 | k::l,acc,h=>by
  obtain⟨h1,h2,h3,h4⟩:=Arb l (Aia acc k) (Arf h k)
  rw[w8]
  have hlen:(Aia acc k).length=acc.length/\k∈acc\/(Aia acc k).length=acc.length+1/\k∉acc/\Aia acc k=acc++[k]:=by
   unfold Aia
   split
   ·exact .inl ⟨rfl,by assumption⟩
   ·exact .inr ⟨by simp,by assumption,rfl⟩
  refine⟨h1,λx=>?_,?_,?_⟩
  ·rw[h2,Ay4,yB,or_assoc]
  ·rw[yZ];rcases hlen with⟨h,_⟩|⟨h,_⟩ <;> omega
  ·rcases hlen with⟨h5,h6⟩|⟨h5,h6,h7⟩
   ·constructor
    ·intro he;rw[yZ] at he;omega
    ·intro hn
     have:=(j4.1 hn).2.2 k h6 k (yQ ..)
     exact absurd rfl this
   ·rw[yZ]
    rw[h7,xE,List.singleton_append] at h4
    rw[<- h4,h7]
    constructor <;> intro h <;> simp at h ⊢ <;> omega
end
theorem Ah3 (l:List Ac):∃ M:List (Bl×Int),(l.length<=1000000->True/\G4 l=some M)/\M.map (·.1)=(l.map knR).foldl Aia []:=by
 have key:∀ (f:Int×List (Bl×Int)->Option (LB (Int×List (Bl×Int)) (List (Bl×Int)))),(∀ (i:Nat) x acc,l[i]? = some x->l.length<=1000000->f ((i:Int),acc)=some (.cont (((i+1:Nat):Int),Aac acc (knR x) (i:Int))))->(∀ acc,f ((l.length:Int),acc)=some (.brk acc)) ->
   ∃ M,(l.length<=1000000->Be f fuel (0,[])=some M)/\M.map (·.1)=(l.map knR).foldl Aia []:=λf h1 h2=>by
  by_cases hl:l.length<=1000000
  ·obtain⟨v,hv,hr⟩:=Bo (f:=f) (P:=λs=>∃ (i:Nat) (M:List (Bl×Int)),i<=l.length/\s=((i:Int),M)/\M.map (·.1)=((l.take i).map knR).foldl Aia []) (μ:=λs=>l.length-s.1.toNat) (R:=λM=>M.map (·.1)=(l.map knR).foldl Aia []) (by
    rintro _ ⟨i,M,hi,rfl,hm⟩
    rcases zQ i l.length with hlt|hge
    ·left
     refine⟨_,h1 i _ _ (zC hlt) hl,⟨i+1,_,hlt,rfl,?_⟩,by simp only[z6];omega⟩
     rw[Aq3,hm,zO hlt,xJ,List.foldl_append]
     rfl
    ·right
     have e:i=l.length:=by omega
     subst e
     exact⟨_,h2 _,by rw[yM] at hm;exact hm⟩) fuel (0,[]) ⟨0,[],zU _,rfl,rfl⟩ (Bb (by show l.length-0<=_;omega))
   exact⟨v,λ_=>hv,hr⟩
  ·refine⟨((l.map knR).foldl Aia []).map (λk=>(k,0)),λh=>absurd h hl,?_⟩
   rw[List.map_map]
   exact wR _
 obtain⟨M,hM,hk⟩:=key (Ek l) (λi x acc hx hl=>by
  have hlt:=(zB.1 hx).1
  unfold Ek
  dsimp only
  rw[ifo,Ak,hx,zA,Bbu,zA,wIo]
  rfl) (λacc=>by
  unfold Ek
  dsimp only
  rw[ifq])
 refine⟨M,λhl=>?_,hk⟩
 have h:=hM hl
 refine⟨trivial,?_⟩
 unfold G4
 rw[h];rfl
def srV (x:Ac):Bool:=(B6 x).getD false
theorem Aqz (r:Aj):∃ v,Ex r=some v:=by
 unfold Ex E2
 simp only[Afg,zA]
 repeat' (first|exact⟨_,rfl⟩|split|dsimp only [Option.bind_some])
 all_goals
  rename_i h1 h2
  have hl:(0:Int)<r.Hi.length:=by have:=of_decide_eq_true h2;omega
  obtain⟨u,hu,_⟩:=A02 (xs:=r.Hi) (j:=0) dcd hl
  rw[hu,zA]
  split <;> exact⟨_,rfl⟩
theorem Bao (x:Ac):B6 x=some (srV x):=by
 have:∃ b,B6 x=some b:=by
  obtain⟨v,hv⟩:=Aqz ⟨x.Rng.Lo,x.Rng.Hi,x.Rng.Open⟩
  unfold B6 Br
  simp only[hv,zA]
  repeat' (first|exact⟨_,rfl⟩|split|dsimp only [Option.bind_some])
 obtain⟨b,hb⟩:=this
 unfold srV
 rw[hb];rfl
structure Good (l:List Ac):Prop where
 sr:∀ x∈l,srV x=true
 len:l.length<=128
 nd:l.Nodup
theorem Ao1 {l:List Ac}:(l.map knR).Nodup↔l.Nodup:=by
 constructor
 ·exact Sf _
 ·intro h
  exact wH.2 (h.imp λhne e=>hne (Au2 e))
theorem sane_m {l:List Ac} (hl:l.length<=1000000):∃ b,D3 ⟨l⟩=some b/\(b=true↔Good l):=by
 unfold D3
 rw[Bah l srV false (F9 ⟨l⟩) omg (λi x hx=>by
  have hlt:=(zB.1 hx).1
  unfold F9
  dsimp only
  rw[ifo,Ak,hx,zA,Bao,zA,wIo]
  cases srV x <;> rfl) (by
  unfold F9
  dsimp only
  rw[ifq])]
 cases ha:l.all srV with
 | false =>
  refine⟨false,rfl,(λh=>by cases h),λh=>?_⟩
  rw[zJ.2 h.sr] at ha;cases ha
 | true =>
  show ∃ b,Je ⟨l⟩ ()=some b/\_
  unfold Je
  dsimp only
  by_cases h128:l.length<=128
  ·rw[ifo]
   obtain⟨M,hM,hk⟩:=Ah3 l
   rw[(hM hl).2,zA]
   refine⟨_,rfl,?_⟩
   have hf:=Arb (l.map knR) [] kM
   rw[<- hk] at hf
   simp only[zP,jG,yT,wO] at hf
   rw[decide_eq_true_eq]
   constructor
   ·intro h
    exact⟨zJ.1 ha,h128,Ao1.1 (hf.2.2.2.1 omg)⟩
   ·intro h
    have:=hf.2.2.2.2 (Ao1.2 h.nd)
    omega
  ·rw[ifq]
   exact⟨false,rfl,λh=>(by cases h),λh=>absurd h.len h128⟩
theorem Xi {l:List Ac} (h:Good l):D3 ⟨l⟩=some true:=by
 obtain⟨b,hb,hi⟩:=sane_m (l:=l) (by have:=h.len;omega)
 rw[hb,hi.2 h]
theorem Aq2 (a b:List Ac) (h:(a.length+b.length)*64<=140737488355328):E8 [a,b]=some (a++b):=by
 have:=Xn [a,b] (by simpa using h) smp
 rw[this];simp
theorem A74 {l:List Ac} (hl:l.length<=1000000) (tx:Int) (r:Aj) :
  (Good l/\srV ⟨tx,r⟩=true/\(((⟨tx,r⟩:Ac)∈l/\D1 ⟨l⟩ tx r=some (⟨l⟩,0))\/((⟨tx,r⟩:Ac)∉l/\((128<=l.length/\D1 ⟨l⟩ tx r=some (⟨[]⟩,8))\/(l.length<128/\D1 ⟨l⟩ tx r=some (⟨l++[⟨tx,r⟩]⟩,0)/\Good (l++[⟨tx,r⟩])))))) \/
  (¬ (Good l/\srV ⟨tx,r⟩=true)/\D1 ⟨l⟩ tx r=some (⟨[]⟩,1)):=by
 unfold D1
 obtain⟨b,hb,hi⟩:=sane_m hl
 dsimp only
 rw[hb,zA]
 cases b with
 | false =>
  refine .inr ⟨λh=>?_,by rw[if_pos (by rfl)]⟩
  have:=hi.2 h.1;cases this
 | true =>
  have hg:=hi.1 rfl
  rw[if_neg (nn (by rfl)),Bao,zA]
  cases hs:srV ⟨tx,r⟩ with
  | false=>exact .inr ⟨λh=>(by cases h.2),by rw[if_pos (by rfl)]⟩
  | true =>
   rw[if_neg (nn (by rfl))]
   refine .inl ⟨hg,rfl,?_⟩
   unfold N6
   dsimp only
   obtain⟨M,hM,hk⟩:=Ah3 l
   have hf:=Arb (l.map knR) [] kM
   rw[<- hk] at hf
   rw[(hM hl).2,zA,Bbu,zA]
   have hmem:Aln M (knR ⟨tx,r⟩)=true↔(⟨tx,r⟩:Ac)∈l:=by
    rw[Tu,hf.2.1]
    simp only[List.not_mem_nil,false_or]
    constructor
    ·intro h
     obtain⟨x,hx,he⟩:=yA.1 h
     rw[<- Au2 he];exact hx
    ·intro h;exact yA.2 ⟨_,h,rfl⟩
   by_cases hin:(⟨tx,r⟩:Ac)∈l
   ·rw[if_pos (hmem.2 hin)]
    exact .inl ⟨hin,rfl⟩
   ·rw[if_neg (λh=>hin (hmem.1 h))]
    refine .inr ⟨hin,?_⟩
    by_cases h128:128<=l.length
    ·rw[ifo]
     exact .inl ⟨h128,rfl⟩
    ·rw[ifq,Aq2 _ _ (by rw[yD];omega)]
     refine .inr ⟨by omega,rfl,λx hx=>?_,by rw[zI,yD];omega,?_⟩
     ·rcases yG.1 hx with hx|hx
      ·exact hg.sr x hx
      ·rw[z8.1 hx];exact hs
     ·refine j4.2 ⟨hg.nd,by simp,λa ha b hb=>?_⟩
      rw[z8.1 hb]
      exact λe=>hin (e ▸ ha)
def Vt (l:List Ac) (k:List UInt8):List Int:=(l.filter λx=>Pu x.Rng k).map (·.Tx)
theorem A5c {l:List Ac} (hl:l.length<=1000000) (k:List UInt8):Mq ⟨l⟩ k=some (Adz (Vt l k)):=by
 unfold Mq
 rw[Arw l (λx=>if Pu x.Rng k then[x.Tx] else[]) (Gg ⟨l⟩ k) 1 (λx=>by split <;> simp) omg (λi x acc hx ha=>by
  have hlt:=(zB.1 hx).1
  unfold Gg
  dsimp only
  rw[ifo,Ak,hx,zA,Auk,zA,wIo]
  cases Pu x.Rng k with
  | true=>rw[if_pos rfl,if_pos (by rw[yD];omega),if_pos rfl];rfl
  | false=>rw[if_neg (nn (by rfl)),if_neg (nn (by rfl)),xC];rfl) (λacc=>by
  unfold Gg
  dsimp only
  rw[ifq]),zA,Aej]
 have hlen:(Vt l k).length<=l.length:=by
  unfold Vt;rw[zP];exact xK _ _
 show Ja (Vt l k)=_
 unfold Ja Pt L4
 rw[if_pos omg,zA,if_pos (jL _),if_pos (by rw[jL];omega)]
 rfl
theorem Ap8 {l:List Ac} {k:List UInt8} {t:Int}:t∈Adz (Vt l k)↔∃ x∈l,Pu x.Rng k=true/\x.Tx=t:=by
 rw[Amo]
 unfold Vt
 rw[yA]
 constructor
 ·rintro⟨x,hx,rfl⟩
  obtain⟨h1,h2⟩:=yO.1 hx
  exact⟨x,h1,h2,rfl⟩
 ·rintro⟨x,h1,h2,rfl⟩
  exact⟨x,yO.2 ⟨h1,h2⟩,rfl⟩
theorem X4 (txs:List Int) (t:Int) (hl:txs.length<=1000000):Cp txs t=some (decide (t∈txs)):=by
 unfold Cp Dr
 obtain⟨v,hv,hr⟩:=B9 (f:=Ej txs t) (P:=λs=>∃ i:Nat,i<=txs.length/\s=(i:Int)/\t∉txs.take i) (μ:=λs=>txs.length-s.toNat)
  (R:=λx=>match x with | .inl r=>0<=r/\t∈txs | .inr _=>t∉txs) (by
   rintro _ ⟨i,hi,rfl,hp⟩
   unfold Ej
   rcases zQ i txs.length with hlt|hge
   ·rw[ifo,Ak,zC hlt,zA,wIo]
    by_cases he:t=txs[i]
    ·rw[ifp he]
     exact .inr (.inr ⟨_,rfl,xZ _,by rw[he];exact yW _⟩)
    ·rw[ifn he]
     refine .inl ⟨_,rfl,⟨i+1,hlt,rfl,?_⟩,by simp only[z6];omega⟩
     rw[zO hlt,yG,z8]
     rintro(h|h)
     ·exact hp h
     ·exact he h
   ·have e:i=txs.length:=by omega
    subst e
    rw[ifq]
    rw[yM] at hp
    exact .inr (.inl ⟨_,rfl,hp⟩)) fuel 0 ⟨0,zU _,rfl,by simp⟩ (Bb (by show txs.length-0<=_;omega))
 rw[hv]
 cases v with
 | inl r =>
  show some (decide (0<=r))=_
  rw[decide_eq_true hr.1,decide_eq_true hr.2]
 | inr u =>
  show some (decide ((0:Int) <= -1))=_
  rw[decide_eq_false (show ¬ t∈txs from hr)]
  rfl
def Tl (l:List Ac) (txs:List Int) (b:Bool):List Ac:=l.filter λx=>decide (x.Tx∈txs)==b
theorem A5b {l:List Ac} (hl:l.length<=1000000) (txs:List Int) (ht:txs.length<=1000000) (b:Bool):M9 ⟨l⟩ txs b=some ⟨Tl l txs b⟩:=by
 unfold M9
 rw[Arw l (λx=>if decide (x.Tx∈txs)==b then[x] else[]) (Ji ⟨l⟩ txs b) 1 (λx=>by split <;> simp) omg (λi x acc hx ha=>by
  have hlt:=(zB.1 hx).1
  unfold Ji
  dsimp only
  rw[ifo,Ak,hx,zA,X4 txs _ ht,zA,wIo]
  cases (decide (x.Tx∈txs)==b) with
  | true=>rw[if_pos rfl,if_pos (by rw[yD];omega),if_pos rfl];rfl
  | false=>rw[if_neg (nn (by rfl)),if_neg (nn (by rfl)),xC];rfl) (λacc=>by
  unfold Ji
  dsimp only
  rw[ifq]),zA,Aej,List.map_id']
 rfl
theorem Azv {l:List Ac} (hl:l.length<=1000000) (txs:List Int) (ht:txs.length<=1000000):J7 ⟨l⟩ txs=some ⟨Tl l txs false⟩:=by
 unfold J7
 rw[A5b hl txs ht];rfl
theorem Aa1 {l:List Ac} {txs:List Int} {b:Bool} {x:Ac}:x∈Tl l txs b↔x∈l/\(decide (x.Tx∈txs)=b):=by
 unfold Tl
 rw[yO,beq_iff_eq]
theorem Bcu {α ρ:Type} (xs:List α) (f:Int->Option (LR Int Unit ρ)) (hl:xs.length<=1000000000000000000)
  (h:∀ (i:Nat) x,xs[i]? = some x->f (i:Int)=some (.cont ((i+1:Nat):Int))) (hend:f (xs.length:Int)=some (.brk ())):B7 f fuel 0=some (.inr ()):=by
 obtain⟨v,hv,hr⟩:=B9 (f:=f) (P:=λs=>∃ i:Nat,i<=xs.length/\s=(i:Int)) (μ:=λs=>xs.length-s.toNat) (R:=λr=>r=.inr ()) (by
  rintro _ ⟨i,hi,rfl⟩
  rcases zQ i xs.length with hlt|hge
  ·exact .inl ⟨_,h i _ (zC hlt),⟨i+1,hlt,rfl⟩,by simp only[z6];omega⟩
  ·have e:i=xs.length:=by omega
   subst e
   exact .inr (.inl ⟨(),hend,rfl⟩)) fuel 0 ⟨0,zU _,rfl⟩ (Bb (by show xs.length-0<=_;omega))
 rw[hv,hr]
theorem Avq (l:List Ac) (k:List UInt8):(Adz (Vt l k)).length<=l.length:=by
 refine yU (Asu _) ?_
 unfold Vt
 rw[zP]
 exact xK _ _
instance:DecidableEq Aj:=λa b=>decidable_of_iff (a.Lo=b.Lo/\a.Hi=b.Hi/\a.Open=b.Open) (by cases a;cases b;simp)
end ss
namespace ss
open bf
structure Ayp where
  Tx:Int
  Rng:Aj
structure Avb where
  ID:Int
  Begin:Int
  End:Int
  State:Int
  In:Bool
  Out:Bool
  RO:Bool
  Keys:List (List UInt8)
structure WL11 where
  c:Af
  now:Int
  begun:List Int
  did:List Avb
  read:List Ayp
def Aux (r:Aj) (l:Keys):Bool:=l.any (Pu r)
theorem Aqb {r:Aj} {l:Keys}:Aux r l=true↔∃ k∈l,Pu r k=true:=xF
def maxTs:Int:=1099511627776
structure Amz (x:Ag) (saneK:Keys->Prop):Prop where
  id:0<=x.ID
  beg:0<=x.Begin/\x.Begin<=maxTs
  st:x.State=1/\x.End=0/\x.Keys=[]\/x.State=2/\x.Begin<x.End/\x.End<=maxTs/\saneK x.Keys/\¬ (x.RO=true/\x.Keys≠[])
structure Inv (saneK:Keys->Prop) (w:WL11):Prop where
  gr:Good w.c.Reads.L
  ri:∀ r∈w.c.Reads.L,∃ x∈w.c.Txs,x.ID=r.Tx
  len:w.c.Txs.length<=64
  each:∀ x∈w.c.Txs,Amz x saneK
  ids:w.c.Txs.Pairwise (λx y=>x.ID≠y.ID)
  now0:0<=w.now
  beg:∀ b∈w.begun,0<=b/\b<=w.now
  act:∀ x∈w.c.Txs,idx w.begun x.ID=some x.Begin
  don:∀ x∈w.c.Txs,x.State=2->∃ d∈w.did,d.ID=x.ID/\d.Begin=x.Begin/\d.End=x.End/\d.Keys=x.Keys
  did0:∀ d∈w.did,0<=d.ID/\idx w.begun d.ID=some d.Begin/\d.Begin<d.End/\d.End<=w.now/\saneK d.Keys
  didE:w.did.Pairwise (λa b=>a.End<b.End)
variable {saneK:Keys->Prop} {w:WL11}
theorem pw_eq {α:Type} {R:α->α->Prop} {l:List α} (h:l.Pairwise R) {x y:α} (hx:x∈l) (hy:y∈l) (h1:¬ R x y) (h2:¬ R y x):x=y:=by
  induction h with
  | nil=>simp at hx
  | cons ha _ ih =>
    rcases yB.1 hx with e1|hx <;> rcases yB.1 hy with e2|hy
    · rw[e1,e2]
    · exact absurd (e1 ▸ ha _ hy) h1
    · exact absurd (e2 ▸ ha _ hx) h2
    · exact ih hx hy
theorem Inv.one (h:Inv saneK w) {x y:Ag} (hx:x∈w.c.Txs) (hy:y∈w.c.Txs) (e:x.ID=y.ID):x=y:=pw_eq h.ids hx hy (λn=>n e) (λn=>n e.symm)
theorem Aoe {α:Type} {xs:List α} {j:Int} {u:α} (h:idx xs j=some u):0<=j/\j<xs.length/\u∈xs:=by
  unfold idx at h
  by_cases h0:0<=j
  · rw[if_pos h0] at h
    obtain⟨h1,h2⟩:=zB.1 h
    exact⟨h0,by omega,h2 ▸ yW _⟩
  · rw[if_neg h0] at h;cases h
theorem Au1 {α:Type} {xs:List α} {j:Int} {u v:α} (h:idx xs j=some u):idx (xs++[v]) j=some u:=by
  obtain⟨h0,h1,_⟩:=Aoe h
  unfold idx at h ⊢
  rw[if_pos h0] at h ⊢
  rw[zL omg];exact h
theorem Ayc {α:Type} {xs:List α} {v:α}:idx (xs++[v]) (xs.length:Int)=some v:=by
  unfold idx
  rw[if_pos (xZ _)]
  simp
theorem inv_nil:Inv saneK ⟨⟨[],⟨[]⟩⟩,0,[],[],[]⟩:=by
  constructor <;> first|exact Good.mk (λx h=>by simp at h) dcd kM|simp
theorem inv_begin (h:Inv saneK w) (ro:Bool) (hn:w.now<=maxTs) (hl:w.c.Txs.length<64) :
    Inv saneK ⟨⟨w.c.Txs++[⟨(w.begun.length:Int),w.now,0,1,false,false,ro,[]⟩],w.c.Reads⟩,w.now,w.begun++[w.now],w.did,w.read⟩:=by
  have hid:∀ x∈w.c.Txs,x.ID<w.begun.length:=λx hx=>(Aoe (h.act x hx)).2.1
  have hdd:∀ d∈w.did,d.ID<w.begun.length:=λx hx=>(Aoe (h.did0 x hx).2.1).2.1
  have key:∀ {P:Ag->Prop},(∀ x∈w.c.Txs,P x)->P ⟨(w.begun.length:Int),w.now,0,1,false,false,ro,[]⟩->∀ x∈w.c.Txs++[⟨(w.begun.length:Int),w.now,0,1,false,false,ro,[]⟩],P x:=λh1 h2 x hx=>by
    rcases yG.1 hx with hx|hx
    · exact h1 x hx
    · rw[z8.1 hx];exact h2
  constructor
  · exact h.gr
  · intro r hr
    obtain⟨x,hx,e⟩:=h.ri r hr
    exact⟨x,wM _ hx,e⟩
  · show(w.c.Txs++_).length<=64
    rw[zI,yD];omega
  · exact key h.each ⟨xZ _,⟨h.now0,hn⟩,.inl ⟨rfl,rfl,rfl⟩⟩
  · refine wU.2 ⟨h.ids,wS ..,λa ha b hb=>?_⟩
    rw[z8.1 hb]
    have:=hid a ha
    show a.ID≠w.begun.length
    omega
  · exact h.now0
  · intro b hb
    rcases yG.1 hb with hb|hb
    · exact h.beg b hb
    · rw[z8.1 hb];exact⟨h.now0,xS _⟩
  · exact key (λx hx=>Au1 (h.act x hx)) Ayc
  · exact key h.don (λe=>by cases e)
  · intro d hd
    obtain⟨h1,h2,h3⟩:=h.did0 d hd
    exact⟨h1,Au1 h2,h3⟩
  · exact h.didE
theorem Aql (h:Inv saneK w) (p:Ag->Bool) (rs:List Ac) (hrs:rs.Sublist w.c.Reads.L) (hr:∀ r∈rs,∃ x∈w.c.Txs,p x=true/\x.ID=r.Tx)
    (hk:∀ r∈w.c.Reads.L,∀ x∈w.c.Txs,p x=true->x.ID=r.Tx->r∈rs) (hp:∀ x∈w.c.Txs,p x=false->x.State=2->∀ a∈w.c.Txs,p a=true->a.State=1->x.End<=a.Begin) :
    Inv saneK ⟨⟨w.c.Txs.filter p,⟨rs⟩⟩,w.now,w.begun,w.did,w.read⟩:=by
  have hm:∀ {x},x∈w.c.Txs.filter p->x∈w.c.Txs:=λhx=>(yO.1 hx).1
  constructor
  · exact⟨λx hx=>h.gr.sr x (hrs.subset hx),yU hrs.length_le h.gr.len,h.gr.nd.sublist hrs⟩
  · intro r hr'
    obtain⟨x,hx,h1,h2⟩:=hr r hr'
    exact⟨x,yO.2 ⟨hx,h1⟩,h2⟩
  · exact yU (xK ..) h.len
  · exact λx hx=>h.each x (hm hx)
  · exact h.ids.sublist (jB ..)
  · exact h.now0
  · exact h.beg
  · exact λx hx=>h.act x (hm hx)
  · exact λx hx=>h.don x (hm hx)
  · exact h.did0
  · exact h.didE
def Qk (a:Ag) (r:Aj) (x:Ag):Bool:=decide (x.State=2) && !decide (x.End<=a.Begin)&&Aux r x.Keys
def Wy (l:List Ag) (a:Ag) (r:Aj) (x:Ag):Ag :=
  if x.ID=a.ID then { x with Out:=x.Out||l.any (Qk a r) } else if Qk a r x then { x with In:=true } else x
theorem readF_id (l:List Ag) (a:Ag) (r:Aj) (x:Ag):(Wy l a r x).ID=x.ID/\(Wy l a r x).Begin=x.Begin/\(Wy l a r x).End=x.End/\(Wy l a r x).State=x.State/\(Wy l a r x).RO=x.RO/\(Wy l a r x).Keys=x.Keys:=by
  unfold Wy
  split
  · exact⟨rfl,rfl,rfl,rfl,rfl,rfl⟩
  · split <;> exact⟨rfl,rfl,rfl,rfl,rfl,rfl⟩
theorem Avk {a:Ag} {r:Aj} {x:Ag}:Qk a r x=true↔x.State=2/\a.Begin<x.End/\Aux r x.Keys=true:=by
  unfold Qk
  simp only[zG,decide_eq_true_eq,xQ,decide_eq_false_iff_not]
  constructor
  · rintro⟨⟨h1,h2⟩,h3⟩;exact⟨h1,by omega,h3⟩
  · rintro⟨h1,h2,h3⟩;exact⟨⟨h1,by omega⟩,h3⟩
theorem inv_read (h:Inv saneK w) {a:Ag} (ha:a∈w.c.Txs) (h1:a.State=1) (r:Aj) (rs:List Ac) (hg:Good rs) (hsub:∀ x∈w.c.Reads.L,x∈rs) (hin:(⟨a.ID,r⟩:Ac)∈rs) (hnew:∀ x∈rs,x∈w.c.Reads.L\/x=⟨a.ID,r⟩)
    (hno:∀ x∈w.c.Txs,Qk a r x=true->x.Out=false):Inv saneK ⟨⟨w.c.Txs.map (Wy w.c.Txs a r),⟨rs⟩⟩,w.now,w.begun,w.did,w.read++[⟨a.ID,r⟩]⟩:=by
  have key:∀ {P:Ag->Prop},(∀ x∈w.c.Txs,P (Wy w.c.Txs a r x))->∀ x∈w.c.Txs.map (Wy w.c.Txs a r),P x:=λh1 x hx=>by
    obtain⟨y,hy,rfl⟩:=yA.1 hx
    exact h1 y hy
  have F:=readF_id w.c.Txs a r
  have hex:∀ {x i},x∈w.c.Txs->x.ID=i->∃ y∈w.c.Txs.map (Wy w.c.Txs a r),y.ID=i:=λ{x i} hx e=>⟨_,yA.2 ⟨x,hx,rfl⟩,by rw[(F x).1,e]⟩
  have haid:=h.act a ha
  constructor
  · exact hg
  · intro x hx
    rcases hnew x hx with hx|rfl
    · obtain⟨y,hy,e⟩:=h.ri x hx
      exact hex hy e
    · exact hex ha rfl
  · show(w.c.Txs.map _).length<=64
    rw[zP];exact h.len
  · refine key λx hx=>?_
    obtain⟨e1,e2,e3,e4,e5,e6⟩:=F x
    have:=h.each x hx
    exact⟨by rw[e1];exact this.id,by rw[e2];exact this.beg,by rw[e2,e3,e4,e5,e6];exact this.st⟩
  · refine wH.2 (h.ids.imp λ{x y} hne=>?_)
    rw[(F x).1,(F y).1];exact hne
  · exact h.now0
  · exact h.beg
  · refine key λx hx=>?_
    rw[(F x).1,(F x).2.1];exact h.act x hx
  · refine key λx hx=>?_
    obtain⟨e1,e2,e3,e4,e5,e6⟩:=F x
    rw[e1,e2,e3,e4,e6];exact h.don x hx
  · exact h.did0
  · exact h.didE
def Y4 (rs:List Ac) (a:Ag) (K:Keys) (x:Ag):Bool:=!decide (x.ID=a.ID)&&rs.any (λr=>decide (r.Tx=x.ID)&&Aux r.Rng K) && !(decide (x.State=2)&&decide (x.End<=a.Begin))
theorem Ax5 {rs:List Ac} {a x:Ag} {K:Keys}:Y4 rs a K x=true↔x.ID≠a.ID/\(∃ r∈rs,r.Tx=x.ID/\Aux r.Rng K=true)/\(x.State=2->a.Begin<x.End):=by
  unfold Y4
  simp only[zG,xF,decide_eq_true_eq,xQ,decide_eq_false_iff_not,Bool.and_eq_false_iff]
  constructor
  · rintro⟨⟨h1,h2⟩,h3⟩
    refine⟨h1,h2,λhs=>?_⟩
    rcases h3 with h3|h3
    · exact absurd hs h3
    · omega
  · rintro⟨h1,h2,h3⟩
    refine⟨⟨h1,h2⟩,?_⟩
    by_cases hs:x.State=2
    · exact .inr (by have:=h3 hs;omega)
    · exact .inl hs
def doneF (l:List Ag) (rs:List Ac) (a:Ag) (ts:Int) (K:Keys) (x:Ag):Ag :=
  if x.ID=a.ID then { x with In:=x.In||l.any (Y4 rs a K),State:=2,End:=ts,Keys:=K } else if Y4 rs a K x then { x with Out:=true } else x
theorem inv_done (h:Inv saneK w) {a:Ag} (ha:a∈w.c.Txs) (h1:a.State=1) (K:Keys) (hts:a.Begin<w.now+1/\w.now+1<=maxTs) (hK:saneK K) (hro:¬ (a.RO=true/\K≠[]))
    (hcf:∀ x∈w.c.Txs,x.State=2->a.Begin<x.End->∀ k∈K,k∉x.Keys) (hpass:∀ x∈w.c.Txs,Y4 w.c.Reads.L a K x=true->x.State=2->x.In=false)
    (hpiv:¬ ((a.In||w.c.Txs.any (Y4 w.c.Reads.L a K))=true/\a.Out=true)) (d0:Avb) (e0:d0.ID=a.ID/\d0.Begin=a.Begin/\d0.End=w.now+1/\d0.Keys=K) :
    Inv saneK ⟨⟨w.c.Txs.map (doneF w.c.Txs w.c.Reads.L a (w.now+1) K),w.c.Reads⟩,w.now+1,w.begun,w.did++[d0],w.read⟩:=by
  have key:∀ {P:Ag->Prop},(∀ x∈w.c.Txs,P (doneF w.c.Txs w.c.Reads.L a (w.now+1) K x))->∀ x∈w.c.Txs.map (doneF w.c.Txs w.c.Reads.L a (w.now+1) K),P x:=λh1 x hx=>by
    obtain⟨y,hy,rfl⟩:=yA.1 hx
    exact h1 y hy
  have keyD:∀ {P:Avb->Prop},(∀ x∈w.did,P x)->P d0->∀ x∈w.did++[d0],P x:=λh1 h2 x hx=>by
    rcases yG.1 hx with hx|hx
    · exact h1 x hx
    · rw[z8.1 hx];exact h2
  obtain⟨q1,q2,q3,q4⟩:=e0
  have G:∀ x,(doneF w.c.Txs w.c.Reads.L a (w.now+1) K x).ID=x.ID/\(doneF w.c.Txs w.c.Reads.L a (w.now+1) K x).Begin=x.Begin/\(doneF w.c.Txs w.c.Reads.L a (w.now+1) K x).RO=x.RO:=λx=>by
    unfold doneF
    split
    · exact⟨rfl,rfl,rfl⟩
    · split <;> exact⟨rfl,rfl,rfl⟩
  have N:∀ x∈w.c.Txs,x≠a->(doneF w.c.Txs w.c.Reads.L a (w.now+1) K x)=if Y4 w.c.Reads.L a K x then { x with Out:=true } else x:=λx hx hne=>by
    unfold doneF
    rw[if_neg λe=>hne (h.one hx ha e)]
  have A:doneF w.c.Txs w.c.Reads.L a (w.now+1) K a={ a with In:=a.In||w.c.Txs.any (Y4 w.c.Reads.L a K),State:=2,End:=w.now+1,Keys:=K }:=by
    unfold doneF
    rw[if_pos rfl]
  have F:∀ x∈w.c.Txs,x≠a->(doneF w.c.Txs w.c.Reads.L a (w.now+1) K x).End=x.End/\(doneF w.c.Txs w.c.Reads.L a (w.now+1) K x).State=x.State/\(doneF w.c.Txs w.c.Reads.L a (w.now+1) K x).Keys=x.Keys/\(doneF w.c.Txs w.c.Reads.L a (w.now+1) K x).In=x.In/\(x.Out=true->(doneF w.c.Txs w.c.Reads.L a (w.now+1) K x).Out=true):=λx hx hne=>by
    rw[N x hx hne]
    split
    · exact⟨rfl,rfl,rfl,rfl,λ_=>rfl⟩
    · exact⟨rfl,rfl,rfl,rfl,λh=>h⟩
  have hex:∀ {x i},x∈w.c.Txs->x.ID=i->∃ y∈w.c.Txs.map (doneF w.c.Txs w.c.Reads.L a (w.now+1) K),y.ID=i:=λ{x i} hx e=>⟨_,yA.2 ⟨x,hx,rfl⟩,by rw[(G x).1,e]⟩
  have hend:∀ d∈w.did,d.End<=w.now:=λd hd=>(h.did0 d hd).2.2.2.1
  have hdon:∀ x∈w.c.Txs.map (doneF w.c.Txs w.c.Reads.L a (w.now+1) K),x.State=2->∃ d∈w.did++[d0],d.ID=x.ID/\d.Begin=x.Begin/\d.End=x.End/\d.Keys=x.Keys:=by
    refine key λx hx hs=>?_
    by_cases hxa:x=a
    · subst hxa
      rw[A]
      exact⟨d0,w4 _ (List.mem_singleton_self _),q1,q2,q3,q4⟩
    · obtain⟨f1,f2,f3,f4,f5⟩:=F x hx hxa
      rw[f2] at hs
      rw[(G x).1,(G x).2.1,f1,f3]
      obtain⟨d,hd,e⟩:=h.don x hx hs
      exact⟨d,wM _ hd,e⟩
  constructor
  · exact h.gr
  · intro r hr
    obtain⟨y,hy,e⟩:=h.ri r hr
    exact hex hy e
  · show(w.c.Txs.map _).length<=64
    rw[zP];exact h.len
  · refine key λx hx=>?_
    have he:=h.each x hx
    by_cases hxa:x=a
    · subst hxa
      rw[A]
      exact⟨he.id,he.beg,.inr ⟨rfl,hts.1,hts.2,hK,hro⟩⟩
    · obtain⟨f1,f2,f3,f4,f5⟩:=F x hx hxa
      exact⟨by rw[(G x).1];exact he.id,by rw[(G x).2.1];exact he.beg,by rw[(G x).2.1,(G x).2.2,f1,f2,f3];exact he.st⟩
  · refine wH.2 (h.ids.imp λ{x y} hne=>?_)
    rw[(G x).1,(G y).1];exact hne
  · show 0<=w.now+1
    have:=h.now0;omega
  · intro b hb
    have:=h.beg b hb
    show 0<=b/\b<=w.now+1
    omega
  · refine key λx hx=>?_
    rw[(G x).1,(G x).2.1];exact h.act x hx
  · exact hdon
  · refine keyD (λd hd=>?_) ⟨by rw[q1];exact(h.each a ha).id,by rw[q1,q2];exact h.act a ha,by rw[q2,q3];exact hts.1,by rw[q3];exact xS _,by rw[q4];exact hK⟩
    obtain⟨g1,g2,g3,g4,g5⟩:=h.did0 d hd
    exact⟨g1,g2,g3,by show d.End<=w.now+1;omega,g5⟩
  · refine wU.2 ⟨h.didE,wS ..,λx hx y hy=>?_⟩
    rw[z8.1 hy,q3]
    have:=hend x hx;omega
theorem A8a (l:List Ag) (h:l.length<=1000000):O1 l=some (l.map (·.ID)):=by
  unfold O1
  rw[Arw l (λx=>[x.ID]) (Ng l) 1 (λx=>by simp) omg (λi x acc hx ha=>by
    have hlt:=(zB.1 hx).1
    unfold Ng
    dsimp only
    rw[ifo,Ak,hx,zA,if_pos (by rw[yD];omega),wIo]
    rfl) (λacc=>by
    unfold Ng
    dsimp only
    rw[ifq]),zA,Ayz]
  rfl
theorem Aur {xs:Keys} (hn:xs.length<=1000000000000000000) (h:Bi xs=some true):PW xs:=by
  obtain⟨v,hv,hr⟩:=B9 (f:=Bm xs) (P:=λs=>∃ i:Nat,s=(i:Int)/\1<=i/\∀ j a b,j+1<i->xs[j]? = some a->xs[j+1]? = some b->Ce a b<0) (μ:=λs=>xs.length-s.toNat)
    (R:=λv=>match v with | .inl r=>r=false | .inr _=>∀ j a b,xs[j]? = some a->xs[j+1]? = some b->Ce a b<0) (by
    rintro _ ⟨i,rfl,h1,h2⟩
    unfold Bm
    by_cases hi:i<xs.length
    · have e1:=zC hi
      have e2:=zC (show i-1<xs.length by omega)
      rw[ifo,wIo,show(i:Int)-1=((i-1:Nat):Int) from by omega,Ak,Ak,e1,e2]
      simp only[zA,Afg]
      by_cases hc:0<=Ce xs[i-1] xs[i]
      · right;right
        rw[ifp hc]
        exact⟨_,rfl,rfl⟩
      · left
        rw[ifq]
        refine⟨_,rfl,⟨i+1,by rw[wIo];rfl,by omega,λj a b hj ha hb=>?_⟩,by rw[wIo];omega⟩
        rcases zQ (j+1) i with hlt|hge
        · exact h2 j a b hlt ha hb
        · have:j=i-1:=by omega
          subst this
          rw[show i-1+1=i from by omega] at hb
          rw[e2] at ha;rw[e1] at hb
          rw[<- zF ha,<- zF hb];omega
    · right;left
      rw[ifq]
      refine⟨_,rfl,λj a b ha hb=>h2 j a b ?_ ha hb⟩
      have:=(zB.1 hb).1
      omega) fuel 1 ⟨1,rfl,zT _,λj _ _ hj=>by omega⟩ (Bb (by show xs.length-1<=_;omega))
  unfold Bi at h
  rw[hv] at h
  cases v with
  | inl r =>
    have hr:r=false:=hr
    rw[hr] at h;cases h
  | inr u =>
    have key:∀ d i a b,xs[i]? = some a->xs[i+(d+1)]? = some b->Ce a b<0:=λd=>by
      induction d with
      | zero=>exact hr
      | succ d ih =>
        intro i a b ha hb
        have hlt:=(zB.1 hb).1
        have hm:=zC (show i+(d+1)<xs.length by omega)
        have h1:=ih i a _ ha hm
        have h2:=hr _ _ _ hm (by rw[show i+(d+1)+1=i+(d+1+1) from by omega];exact hb)
        exact(Hd (kJ h1) (kJ h2)).2 (.inl h1)
    refine z7.2 λi j hi hj hij=>?_
    refine key (j-i-1) i _ _ (zC hi) ?_
    rw[show i+(j-i-1+1)=j from by omega]
    exact zC hj
structure KS (K:Keys):Prop where
  each:∀ k∈K,1<=k.length/\k.length<=16
  pw:PW K
theorem Alg (k:List UInt8):Co k=some (decide (1<=k.length/\k.length<=16)):=by
  unfold Co
  by_cases h1:(1:Int)<=k.length
  · rw[ifp h1]
    congr 1
    rw[decide_eq_decide];omega
  · rw[ifn h1,decide_eq_false omg]
theorem Qt (K:Keys) (hn:K.length<=1000000000000000000):∃ b,Hf K=some b/\(b=true↔KS K):=by
  unfold Hf
  rw[Bah K (λk=>decide (1<=k.length/\k.length<=16)) false (G1 K) hn (λi x hx=>by
    have hlt:=(zB.1 hx).1
    unfold G1
    rw[ifo,Ak,hx,zA,Alg,zA,wIo]
    cases decide (1<=x.length/\x.length<=16) <;> rfl) (by
    unfold G1
    rw[ifq])]
  cases ha:K.all (λk=>decide (1<=k.length/\k.length<=16)) with
  | false =>
    refine⟨false,rfl,(λh=>by cases h),λh=>?_⟩
    rw[zJ.2 λk hk=>decide_eq_true (h.each k hk)] at ha;cases ha
  | true =>
    show ∃ b,K4 K ()=some b/\_
    unfold K4
    obtain⟨v,hv⟩:=sorted_some K hn
    rw[hv]
    refine⟨v,rfl,?_⟩
    constructor
    · intro h
      rw[h] at hv
      exact⟨λk hk=>of_decide_eq_true (zJ.1 ha k hk),Aur hn hv⟩
    · intro h
      rw[Yg h.pw hn] at hv
      exact(zF hv).symm
theorem Ajj {x:Ag} (h:Amz x KS) (hn:x.Keys.length<=1000000000000000000):Jv x=some true:=by
  unfold Jv
  have h1:=h.id
  have h2:=h.beg
  have h2':x.Begin<=1099511627776:=h2.2
  rw[ifq,ifq,ifq]
  unfold Sz
  rcases h.st with⟨a,b,c⟩|⟨a,b,c,d,e⟩
  · rw[ifp a,ifp b,c];rfl
  · have c':x.End<=1099511627776:=c
    rw[ifq,ifp a,ifp b,ifp c']
    obtain⟨v,hv,hi⟩:=Qt x.Keys hn
    rw[hv,zA,hi.2 d,if_pos rfl]
    cases hro:x.RO with
    | false=>rfl
    | true =>
      have:x.Keys=[]:=by
        rcases List.eq_nil_or_concat x.Keys with h|h
        · exact h
        · exact absurd ⟨hro,by rw[show x.Keys=_ from h.choose_spec.choose_spec];simp⟩ e
      rw[if_pos rfl,this];rfl
structure SC (c:Af):Prop where
  gr:Good c.Reads.L
  ri:∀ r∈c.Reads.L,∃ x∈c.Txs,x.ID=r.Tx
  len:c.Txs.length<=64
  each:∀ x∈c.Txs,Amz x KS
  ids:c.Txs.Pairwise (λx y=>x.ID≠y.ID)
  ends:∀ x∈c.Txs,∀ y∈c.Txs,x.State=2->y.State=2->x.End=y.End->x.ID=y.ID
  keys:∀ x∈c.Txs,x.Keys.length<=16
theorem SC.one {c:Af} (h:SC c) {x y:Ag} (hx:x∈c.Txs) (hy:y∈c.Txs) (e:x.ID=y.ID):x=y:=pw_eq h.ids hx hy (λn=>n e) (λn=>n e.symm)
theorem SC.st {c:Af} (h:SC c) {x:Ag} (hx:x∈c.Txs):x.State=1\/x.State=2:=by
  rcases(h.each x hx).st with h|h
  · exact .inl h.1
  · exact .inr h.1
theorem A2z (a b:Ag) (h1:a.ID≠b.ID) (h2:¬ (a.State=2/\b.State=2/\a.End=b.End)):Oe a b=some false:=by
  have key:∀ w,Kf a b w=some false:=λw=>by
    unfold Kf
    rw[ifn h1]
    by_cases c1:a.State=2
    · rw[ifp c1]
      by_cases c2:b.State=2
      · rw[ifp c2,ifn (λc3=>h2 ⟨c1,c2,c3⟩)]
      · rw[ifn c2]
    · rw[ifn c1]
  unfold Oe
  rw[key,key]
  split <;> rfl
theorem sane_c {c:Af} (h:SC c):Hv c=some true:=by
  unfold Hv
  have hl:=h.len
  rw[ifq,show D3 c.Reads=some true from Xi h.gr,zA,if_neg (nn (by rfl))]
  unfold Xg
  rw[Bcu c.Txs (Me c) omg (λi x hx=>by
    have hlt:=(zB.1 hx).1
    have hxm:=zD hx
    unfold Me
    rw[ifo,Ak,hx,zA,Ajj (h.each x hxm) (by have:=h.keys x hxm;omega),zA,if_neg (nn (by rfl)),Tq (xS _) (xZ _) omg,zA]
    rw[show(c.Txs.drop (0:Int).toNat).take ((i:Int).toNat-(0:Int).toNat)=c.Txs.take i from rfl]
    rw[Bcu (c.Txs.take i) (Lj x (c.Txs.take i)) (by rw[zR];omega) (λj y hy=>by
      have hj:=(zB.1 hy).1
      have hjl:j<i:=by rw[zR] at hj;omega
      have hy':c.Txs[j]? = some y:=by rw[List.getElem?_take_of_lt hjl] at hy;exact hy
      have hne:x.ID≠y.ID:=by
        obtain⟨p1,p2⟩:=zB.1 hy'
        obtain⟨q1,q2⟩:=zB.1 hx
        have:=z7.1 h.ids j i p1 q1 hjl
        rw[p2,q2] at this
        exact λe=>this e.symm
      unfold Lj
      rw[ifo,Ak,hy,zA,A2z _ _ hne (λhc=>hne (h.ends x hxm y (zD hy') hc.1 hc.2.1 hc.2.2)),zA,if_neg (nn (by rfl)),wIo]
      rfl) (by
      unfold Lj
      rw[ifq]),zA]
    show Ra _ _=_
    unfold Ra
    rw[wIo];rfl) (by
    unfold Me
    rw[ifq]),zA]
  show Q8 _ _=_
  unfold Q8
  rw[A8a _ omg,zA,Azv (l:=c.Reads.L) (by have:=h.gr.len;omega) _ (by rw[zP];omega),zA]
  have:Tl c.Reads.L (c.Txs.map (·.ID)) false=[]:=by
    unfold Tl
    refine j5.2 λr hr=>?_
    obtain⟨x,hx,e⟩:=h.ri r hr
    rw[decide_eq_true (yA.2 ⟨x,hx,e⟩)];decide
  rw[this];rfl
theorem A31 (xs:List Int) (t:Int) (hl:xs.length<=1000000):(t∉xs/\Dr xs t=some (-1))\/∃ i:Nat,xs[i]? = some t/\Dr xs t=some (i:Int):=by
  unfold Dr
  obtain⟨v,hv,hr⟩:=B9 (f:=Ej xs t) (P:=λs=>∃ i:Nat,i<=xs.length/\s=(i:Int)/\t∉xs.take i) (μ:=λs=>xs.length-s.toNat)
    (R:=λx=>match x with | .inl r=>∃ i:Nat,xs[i]? = some t/\r=(i:Int) | .inr _=>t∉xs) (by
      rintro _ ⟨i,hi,rfl,hp⟩
      unfold Ej
      rcases zQ i xs.length with hlt|hge
      · have hx:=zC hlt
        rw[ifo,Ak,hx,zA,wIo]
        by_cases he:t=xs[i]
        · rw[ifp he]
          exact .inr (.inr ⟨_,rfl,i,by rw[hx,<- he],rfl⟩)
        · rw[ifn he]
          refine .inl ⟨_,rfl,⟨i+1,hlt,rfl,?_⟩,by simp only[z6];omega⟩
          rw[zO hlt,yG,z8]
          rintro(h|h)
          · exact hp h
          · exact he h
      · have e:i=xs.length:=by omega
        subst e
        rw[ifq]
        rw[yM] at hp
        exact .inr (.inl ⟨_,rfl,hp⟩)) fuel 0 ⟨0,zU _,rfl,by simp⟩ (Bb (by show xs.length-0<=_;omega))
  rw[hv]
  cases v with
  | inl r =>
    obtain⟨i,h1,h2⟩:=hr
    refine .inr ⟨i,h1,?_⟩
    rw[h2];rfl
  | inr u=>exact .inl ⟨hr,rfl⟩
theorem Oa (c:Af) (id:Int) (hl:c.Txs.length<=1000000):((∀ x∈c.Txs,x.ID≠id)/\Ew c id=some (-1))\/∃ (i:Nat) (x:Ag),c.Txs[i]? = some x/\x.ID=id/\Ew c id=some (i:Int):=by
  unfold Ew
  rw[A8a _ hl,zA]
  rcases A31 (c.Txs.map (·.ID)) id (by rw[zP];exact hl) with⟨h,e⟩|⟨i,h,e⟩
  · left
    rw[e]
    exact⟨λx hx e'=>h (yA.2 ⟨x,hx,e'⟩),rfl⟩
  · right
    rw[zK] at h
    cases hx:c.Txs[i]? with
    | none=>rw[hx] at h;cases h
    | some x =>
      rw[hx] at h
      refine⟨i,x,hx,zF h,?_⟩
      rw[e];rfl
theorem Ajh {c:Af} (h:SC c) (id:Int):((∀ x∈c.Txs,x.ID=id->x.State≠1)/\Cm c id=some (-1))\/∃ (i:Nat) (x:Ag),c.Txs[i]? = some x/\x.ID=id/\x.State=1/\Cm c id=some (i:Int):=by
  unfold Cm
  rcases Oa c id (by have:=h.len;omega) with⟨h1,e⟩|⟨i,x,hx,e1,e⟩
  · rw[e,zA]
    exact .inl ⟨λx hx e=>absurd e (h1 x hx),rfl⟩
  · rw[e,zA,ifq,Ak,hx,zA]
    by_cases hs:x.State=1
    · rw[decide_eq_true hs]
      exact .inr ⟨i,x,hx,e1,hs,rfl⟩
    · rw[decide_eq_false hs]
      refine .inl ⟨λy hy ey=>?_,rfl⟩
      rw[h.one hy (zD hx) (ey.trans e1.symm)]
      exact hs
abbrev cN:Af:=⟨[],⟨[]⟩⟩
theorem begin_m {c:Af} (h:SC c) (id snap:Int) (ro:Bool) (h0:0<=id) (h1:0<=snap) (h2:snap<=maxTs) :
    ((∃ x∈c.Txs,x.ID=id)/\Es c id snap ro=some (cN,7))\/((∀ x∈c.Txs,x.ID≠id)/\(64<=c.Txs.length/\Es c id snap ro=some (cN,8)\/c.Txs.length<64/\Es c id snap ro=some (⟨c.Txs++[⟨id,snap,0,1,false,false,ro,[]⟩],c.Reads⟩,0))):=by
  unfold Es
  have hl:=h.len
  rw[sane_c h,zA,if_neg (nn (by rfl)),Ajj ⟨h0,⟨h1,h2⟩,.inl ⟨rfl,rfl,rfl⟩⟩ smp,zA,if_neg (nn (by rfl))]
  rcases Oa c id omg with⟨h1,e⟩|⟨i,x,hx,e1,e⟩
  · right
    refine⟨h1,?_⟩
    rw[e,zA,if_neg dcd]
    by_cases h64:64<=c.Txs.length
    · rw[ifo]
      exact .inl ⟨h64,rfl⟩
    · rw[ifq,Py _ (by simp;omega) smp]
      refine .inr ⟨by omega,?_⟩
      simp
  · left
    refine⟨⟨x,zD hx,e1⟩,?_⟩
    rw[e,zA,ifo]
theorem Alq (x:Ag) (r:Aj) (hl:x.Keys.length<=1000000):Im x r=some (Aux r x.Keys):=by
  unfold Im
  rw[Auo x.Keys (Pu r) (λ_=>true) (Ie x r) omg (λi k hk=>by
    have hlt:=(zB.1 hk).1
    unfold Ie
    rw[ifo,Ak,hk,zA,Auk,zA,wIo]
    cases Pu r k <;> rfl) (by
    unfold Ie
    rw[ifq]),zA]
  unfold Aux
  cases hf:x.Keys.find? (Pu r) with
  | none =>
    rw[show x.Keys.any (Pu r)=false from kU.2 λk hk=>by have:=kQ.1 hf k hk;simpa using this];rfl
  | some k=>rw[xF.2 ⟨k,k9 hf,by have:=zAi hf;exact this⟩]
theorem Aeu (x a:Ag) (ha:a.State=1):Da x a=some (!(decide (x.State=2)&&decide (x.End<=a.Begin))):=by
  unfold Da Ld
  rw[if_neg (show ¬ decide (a.State=2)=true by rw[ha];decide)]
  by_cases hs:x.State=2
  · rw[ifp hs,decide_eq_true hs,wG,zA]
    cases decide (x.End<=a.Begin) <;> rfl
  · rw[ifn hs,decide_eq_false hs];rfl
theorem Awr (x a:Ag) (ha:a.State=1):Da a x=some (!(decide (x.State=2)&&decide (x.End<=a.Begin))):=by
  unfold Da Ld
  rw[if_neg (show ¬ decide (a.State=2)=true by rw[ha];decide)]
  by_cases hs:x.State=2
  · rw[ifp hs,decide_eq_true hs,wG,zA]
    cases decide (x.End<=a.Begin) <;> rfl
  · rw[ifn hs,decide_eq_false hs];rfl
theorem Ajq (l:List Ag) (h:l.length<=1000000):C9 l=some l:=by
  unfold C9
  rw[if_pos (by simp;omega)];rfl
def Xf (l:List Ag) (at':Nat) (p:Ag->Bool) (f:Bool->Ag->Ag) (g:Ag->Ag) (i j:Nat) (x:Ag):Ag :=
  if j=at' then f ((l.take i).any p) x else if j<i/\p x=true then g x else x
theorem Alm (l:List Ag) (at':Nat) (p:Ag->Bool) (f:Bool->Ag->Ag) (g:Ag->Ag) {i:Nat} {x:Ag} (hx:l[i]? = some x) (hp:p x=false) (j:Nat) (y:Ag) (hy:l[j]? = some y) :
    Xf l at' p f g (i+1) j y=Xf l at' p f g i j y:=by
  obtain⟨hlt,rfl⟩:=zB.1 hx
  unfold Xf
  rw[zO hlt,List.any_append]
  simp only[zAa,j1,hp,Bool.or_false]
  split
  · rfl
  · by_cases hji:j<i
    · simp only[show j<i+1 from by omega,hji]
    · by_cases hj:j=i
      · subst hj
        rw[hx] at hy
        rw[<- zF hy,hp];simp
      · simp only[show ¬ j<i+1 from by omega,hji]
theorem A8c (l:List Ag) (a b:Nat) {x y:Ag} (hne:a≠b) (hx:l[a]? = some x) (hy:l[b]? = some y) :
    Fa l (a:Int) (b:Int)=some ((l.set a { x with Out:=true }).set b { y with In:=true }):=by
  have ha:=(zB.1 hx).1
  unfold Fa L8 L2
  rw[Ak,hx]
  simp only[zA,z6]
  rw[Ak,zS hne,hy]
  rfl
theorem Aco (x:Ag):Gr x=some (x.In&&x.Out):=by
  unfold Gr
  cases x.In <;> rfl
theorem Ao0 {c:Af} (h:SC c) (r:Aj) {n:Nat} {a:Ag} (ha:c.Txs[n]? = some a) (h1:a.State=1) :
    ∃ v,B7 (Cn r (n:Int) c.Txs) fuel (0,c.Txs)=some v /\
      (match v with
        | .inl q=>q=(cN,10)/\∃ x∈c.Txs,Qk a r x=true/\x.Out=true
        | .inr l=>l=c.Txs.map (Wy c.Txs a r)/\∀ x∈c.Txs,Qk a r x=true->x.Out=false):=by
  have hl:=h.len
  have ham:=zD ha
  have hpa:Qk a r a=false:=by unfold Qk;rw[h1];rfl
  let F:=Xf c.Txs n (Qk a r) (λb x=>{ x with Out:=x.Out||b }) (λx=>{ x with In:=true })
  refine B9 (f:=Cn r (n:Int) c.Txs) (P:=λs=>∃ i:Nat,i<=c.Txs.length/\s.1=(i:Int)/\s.2.length=c.Txs.length/\(∀ (j:Nat) (x:Ag),c.Txs[j]? = some x->s.2[j]? = some (F i j x))/\∀ x∈c.Txs.take i,Qk a r x=true->x.Out=false) (μ:=λs=>c.Txs.length-s.1.toNat) (R:=λv=>match v with
        | .inl q=>q=(cN,10)/\∃ x∈c.Txs,Qk a r x=true/\x.Out=true
        | .inr l=>l=c.Txs.map (Wy c.Txs a r)/\∀ x∈c.Txs,Qk a r x=true->x.Out=false) ?_ fuel (0,c.Txs) ⟨0,zU _,rfl,rfl,λj x hx=>?_,by simp⟩ (Bb (by show c.Txs.length-0<=_;omega))
  · rintro⟨_,l⟩ ⟨i,hi,rfl,hll,hF,hno⟩
    dsimp only at hll hF
    unfold Cn
    dsimp only
    rcases zQ i c.Txs.length with hlt|hge
    · have hx:=zC hlt
      generalize c.Txs[i]=x at hx
      have hxm:=zD hx
      have hstep:Qk a r x=false->∃ s',(some (LR.cont (wI ((i:Int)+1),l)):Option (LR (Int×List Ag) (List Ag) (Af×Int)))=some (.cont s')/\(∃ k:Nat,k<=c.Txs.length/\s'.1=(k:Int)/\s'.2.length=c.Txs.length/\(∀ (j:Nat) (x:Ag),c.Txs[j]? = some x->s'.2[j]? = some (F k j x))/\∀ x∈c.Txs.take k,Qk a r x=true->x.Out=false)/\c.Txs.length-s'.1.toNat<c.Txs.length-(i:Int).toNat:=λhp=>by
        refine⟨_,rfl,⟨i+1,hlt,by rw[wIo];rfl,hll,λj y hy=>?_,λy hy hpy=>?_⟩,by rw[wIo];omega⟩
        · show l[j]? = some (Xf _ _ _ _ _ (i+1) j y)
          rw[Alm _ _ _ _ _ hx hp j y hy];exact hF j y hy
        · rw[zO hlt,yG,z8] at hy
          rcases hy with hy|hy
          · exact hno y hy hpy
          · rw[zC hlt] at hx
            rw[hy,zF hx,hp] at hpy;cases hpy
      rw[ifo,Ak,hF i x hx,zA]
      by_cases hin:i=n
      · subst hin
        have:x=a:=by rw[ha] at hx;exact(zF hx).symm
        subst this
        left
        rw[if_pos (by
          show(!decide ((F i i x).State=2))=true
          have:(F i i x).State=x.State:=by show(Xf _ _ _ _ _ i i x).State=_;unfold Xf;rw[if_pos rfl]
          rw[this,h1];rfl)]
        exact hstep hpa
      · have eF:F i i x=x:=by show Xf _ _ _ _ _ i i x=_;unfold Xf;rw[if_neg hin,if_neg (λe=>by omega)]
        rw[eF]
        have hFa:F i n a={ a with Out:=a.Out||(c.Txs.take i).any (Qk a r) }:=by show Xf _ _ _ _ _ i n a=_;unfold Xf;rw[if_pos rfl]
        by_cases hs:x.State=2
        · rw[if_neg (by rw[decide_eq_true hs];decide),Ak,hF n a ha,zA,Aeu x _ (by rw[hFa];exact h1),zA,decide_eq_true hs,wG,Bool.not_not]
          rw[show(F i n a).Begin=a.Begin from by rw[hFa]]
          by_cases he:x.End<=a.Begin
          · rw[ifp he]
            exact .inl (hstep (by unfold Qk;rw[decide_eq_true he];simp))
          · rw[ifn he,Alq x r (by have:=h.keys x hxm;omega),zA]
            cases hm:Aux r x.Keys with
            | false =>
              rw[if_pos (by rfl)]
              exact .inl (hstep (by unfold Qk;rw[hm];simp))
            | true =>
              have hp:Qk a r x=true:=Avk.2 ⟨hs,by omega,hm⟩
              rw[if_neg (nn (by rfl))]
              unfold Lu Dp
              dsimp only
              rw[zA,A8c l n i (λe=>hin e.symm) (hF n a ha) (by rw[hF i x hx,eF]),zA,if_pos smp,Ak,zN (by rw[xA];omega),zA,Aco,zA]
              dsimp only
              rw[wG]
              cases ho:x.Out with
              | true =>
                rw[if_pos rfl]
                exact .inr (.inr ⟨_,rfl,rfl,x,hxm,hp,ho⟩)
              | false =>
                rw[if_neg (nn (by rfl))]
                refine .inl ⟨_,rfl,⟨i+1,hlt,by rw[wIo];rfl,by simp [hll],λj y hy=>?_,λy hy hpy=>?_⟩,by rw[wIo];omega⟩
                · show(List.set _ i _)[j]? = some (Xf _ _ _ _ _ (i+1) j y)
                  have hjl:=(zB.1 hy).1
                  unfold Xf
                  by_cases hji:j=i
                  · subst hji
                    rw[hx] at hy
                    have:=zF hy
                    subst this
                    rw[zN (by rw[xA];omega),if_neg hin,if_pos ⟨by omega,hp⟩]
                    dsimp only
                    rw[ho]
                  · rw[zS (λe=>hji e.symm)]
                    by_cases hjn:j=n
                    · subst hjn
                      rw[ha] at hy
                      have:=zF hy
                      subst this
                      rw[zN omg,if_pos rfl,zO hlt,List.any_append,hFa]
                      have:c.Txs[i]=x:=by rw[zC hlt] at hx;exact zF hx
                      rw[this]
                      simp only[zAa,j1,hp,Bool.or_true,Bool.true_or]
                    · rw[zS (λe=>hjn e.symm),if_neg hjn,hF j y hy]
                      show some (Xf _ _ _ _ _ i j y)=_
                      unfold Xf
                      rw[if_neg hjn]
                      by_cases hlt':j<i
                      · simp only[hlt',show j<i+1 from by omega]
                      · simp only[hlt',show ¬ j<i+1 from by omega]
                · rw[zO hlt,yG,z8] at hy
                  rcases hy with hy|hy
                  · exact hno y hy hpy
                  · rw[zC hlt] at hx
                    rw[hy,zF hx];exact ho
        · rw[if_pos (by rw[decide_eq_false hs];rfl)]
          exact .inl (hstep (by unfold Qk;rw[decide_eq_false hs];rfl))
    · have e:i=c.Txs.length:=by omega
      subst e
      rw[ifq]
      refine .inr (.inl ⟨_,rfl,?_,by rw[yM] at hno;exact hno⟩)
      apply wA
      intro j
      rw[zK]
      cases hy:c.Txs[j]? with
      | none =>
        have hy:=wD.1 hy
        exact wD.2 omg
      | some y =>
        rw[hF j y hy]
        show some (Xf _ _ _ _ _ _ j y)=some (Wy _ _ _ y)
        have hjl:=(zB.1 hy).1
        unfold Xf Wy
        rw[yM]
        by_cases hjn:j=n
        · subst hjn
          rw[ha] at hy
          have:=zF hy
          subst this
          rw[if_pos rfl,if_pos rfl]
        · have hne:y.ID≠a.ID:=λe=>by
            have hya:=h.one (zD hy) ham e
            obtain⟨p1,p2⟩:=zB.1 hy
            obtain⟨q1,q2⟩:=zB.1 ha
            rcases Nat.lt_or_gt_of_ne hjn with hh|hh
            · have:=z7.1 h.ids j n p1 q1 hh
              rw[p2,q2] at this;exact this e
            · have:=z7.1 h.ids n j q1 p1 hh
              rw[p2,q2] at this;exact this e.symm
          rw[if_neg hjn,if_neg hne]
          simp only[hjl,true_and]
  · show c.Txs[j]? = some (Xf _ _ _ _ _ 0 j x)
    rw[hx]
    unfold Xf
    rw[j2]
    simp only[j1,Bool.or_false,zW,false_and,if_false]
    split <;> rfl
theorem read_m {c:Af} (h:SC c) (id:Int) (r:Aj) :
    ((∀ x∈c.Txs,x.ID=id->x.State≠1)/\Cd c id r=some (cN,7)) \/
    ∃ a∈c.Txs,a.ID=id/\a.State=1 /\
      ((∃ e,(e=1\/(e=8/\128<=c.Reads.L.length))/\Cd c id r=some (cN,e)) \/
       ((∃ x∈c.Txs,Qk a r x=true/\x.Out=true)/\Cd c id r=some (cN,10)) \/
       ∃ rs,Good rs/\(∀ x∈c.Reads.L,x∈rs)/\(⟨a.ID,r⟩:Ac)∈rs/\(∀ x∈rs,x∈c.Reads.L\/x=⟨a.ID,r⟩)/\rs.length<=c.Reads.L.length+1/\(∀ x∈c.Txs,Qk a r x=true->x.Out=false) /\
         Cd c id r=some (⟨c.Txs.map (Wy c.Txs a r),⟨rs⟩⟩,0)):=by
  unfold Cd
  rw[sane_c h,zA,if_neg (nn (by rfl))]
  rcases Ajh h id with⟨h1,e⟩|⟨i,a,ha,e1,e2,e⟩
  · rw[e,zA]
    exact .inl ⟨h1,rfl⟩
  · right
    refine⟨a,zD ha,e1,e2,?_⟩
    rw[e,zA,ifq]
    have hfin:∀ rs:List Ac,((C9 c.Txs).bind λv4=>(B7 (Cn r (i:Int) v4) fuel (0,v4)).bind λx=>match x with | .inl r=>some r | .inr e17=>Lm ((⟨rs⟩:Am),(0:Int)) e17)=some (cN,10)/\(∃ x∈c.Txs,Qk a r x=true/\x.Out=true)\/((C9 c.Txs).bind λv4=>(B7 (Cn r (i:Int) v4) fuel (0,v4)).bind λx=>match x with | .inl r=>some r | .inr e17=>Lm ((⟨rs⟩:Am),(0:Int)) e17)=some (⟨c.Txs.map (Wy c.Txs a r),⟨rs⟩⟩,0)/\(∀ x∈c.Txs,Qk a r x=true->x.Out=false):=λrs=>by
      rw[Ajq _ (by have:=h.len;omega),zA]
      obtain⟨v,hv,hr⟩:=Ao0 h r ha e2
      rw[hv]
      cases v with
      | inl q=>exact .inl ⟨by rw[<- hr.1];rfl,hr.2⟩
      | inr l=>exact .inr ⟨by rw[<- hr.1];rfl,hr.2⟩
    have hg:=h.gr
    subst e1
    rcases A74 (l:=c.Reads.L) (by have:=hg.len;omega) a.ID r with⟨_,hs,⟨hin,e⟩|⟨hin,⟨h128,e⟩|⟨h128,e,hg'⟩⟩⟩|⟨_,e⟩
    · rw[e,zA,if_neg (by show ¬ (!decide ((0:Int)=0))=true;decide)]
      rcases hfin c.Reads.L with⟨hh,hx⟩|⟨hh,hx⟩
      · exact .inr (.inl ⟨hx,hh⟩)
      · exact .inr (.inr ⟨c.Reads.L,hg,λx hx=>hx,hin,λx hx=>.inl hx,by omega,hx,hh⟩)
    · rw[e,zA,if_pos dcd]
      exact .inl ⟨8,.inr ⟨rfl,h128⟩,rfl⟩
    · rw[e,zA,if_neg (by show ¬ (!decide ((0:Int)=0))=true;decide)]
      rcases hfin (c.Reads.L++[⟨a.ID,r⟩]) with⟨hh,hx⟩|⟨hh,hx⟩
      · exact .inr (.inl ⟨hx,hh⟩)
      · refine .inr (.inr ⟨_,hg',λx hx=>wM _ hx,w4 _ (List.mem_singleton_self _),λx hx=>?_,by rw[zI];exact zT _,hx,hh⟩)
        rcases yG.1 hx with hx|hx
        · exact .inl hx
        · exact .inr (z8.1 hx)
    · rw[e,zA,if_pos dcd]
      exact .inl ⟨1,.inl rfl,rfl⟩
theorem Ajz {c:Af} (h:SC c) (a:Ag) (ts:Int) (K:Keys) (hK:K.length<=1000000) :
    ∃ b,Hl c a ts K=some b/\(b=true↔a.Begin<ts/\ts<=maxTs/\KS K/\¬ (a.RO=true/\K≠[])/\∀ y∈c.Txs,y.End<ts):=by
  have hl:=h.len
  unfold Hl
  by_cases h1:ts<=a.Begin
  · rw[ifp h1]
    exact⟨false,rfl,(λe=>by cases e),λe=>by omega⟩
  rw[ifn h1]
  by_cases h2:1099511627776<ts
  · rw[ifp h2]
    exact⟨false,rfl,(λe=>by cases e),λe=>by have:ts<=1099511627776:=e.2.1;omega⟩
  rw[ifn h2]
  obtain⟨v,hv,hi⟩:=Qt K omg
  rw[hv,zA]
  cases v with
  | false=>exact⟨false,rfl,(λe=>by cases e),λe=>by have:=hi.2 e.2.2.1;cases this⟩
  | true =>
  have hks:=hi.1 rfl
  rw[if_neg (nn (by rfl))]
  have hk1:∃ b,Jl c ts ()=some b/\(b=true↔∀ y∈c.Txs,y.End<ts):=by
    unfold Jl
    rw[Bah c.Txs (λy=>!decide (ts<=y.End)) false (Jc c ts) omg (λi x hx=>by
      have hlt:=(zB.1 hx).1
      unfold Jc
      rw[ifo,Ak,hx,zA,wIo]
      cases decide (ts<=x.End) <;> rfl) (by
      unfold Jc
      rw[ifq])]
    cases ha:c.Txs.all (λy=>!decide (ts<=y.End)) with
    | true =>
      refine⟨true,rfl,λ_ y hy=>?_,λ_=>rfl⟩
      have:=zJ.1 ha y hy
      simp only[xQ,decide_eq_false_iff_not] at this
      omega
    | false =>
      refine⟨false,rfl,(λe=>by cases e),λe=>?_⟩
      rw[zJ.2 λy hy=>by have:=e y hy;simp only[xQ,decide_eq_false_iff_not];omega] at ha
      cases ha
  obtain⟨b,hb,hbi⟩:=hk1
  have h2':ts<=maxTs:=by show ts<=1099511627776;omega
  cases hro:a.RO with
  | false =>
    rw[if_neg dcd,hb]
    exact⟨b,rfl,hbi.trans ⟨λe=>⟨by omega,h2',hks,λe=>(by cases e.1),e⟩,λe=>e.2.2.2.2⟩⟩
  | true =>
    rw[if_pos rfl]
    by_cases hK0:(0:Int)<K.length
    · rw[ifp hK0]
      refine⟨false,rfl,(λe=>by cases e),λe=>absurd ⟨rfl,λe=>?_⟩ e.2.2.2.1⟩
      rw[e] at hK0;simp at hK0
    · rw[ifn hK0,hb]
      have:K=[]:=yE omg
      exact⟨b,rfl,hbi.trans ⟨λe=>⟨by omega,h2',hks,λe=>e.2 this,e⟩,λe=>e.2.2.2.2⟩⟩
theorem Ac8 {c:Af} (h:SC c) (a:Ag) (h1:a.State=1) (K:Keys) (hK:K.length<=1000000) :
    ∃ b,Dt c a K=some b/\(b=false↔∀ x∈c.Txs,x.State=2->a.Begin<x.End->∀ k∈K,k∉x.Keys):=by
  have hl:=h.len
  have hpw:∀ x∈c.Txs,x.State=2->PW x.Keys:=λx hx hs=>by
    rcases(h.each x hx).st with e|e
    · rw[hs] at e;cases e.1
    · exact e.2.2.2.1.pw
  let p:Ag->Bool:=λx=>decide (x.State=2) && !decide (x.End<=a.Begin)&&K.any (λk=>hit x.Keys k)
  have hs:Dt c a K=some (c.Txs.any p):=by
    unfold Dt
    rw[Auo c.Txs p (λ_=>true) (Gz c a K) omg (λi x hx=>by
      have hlt:=(zB.1 hx).1
      have hxm:=zD hx
      unfold Gz
      rw[ifo,Ak,hx,zA]
      by_cases hs:x.State=2
      · rw[if_neg (by rw[decide_eq_true hs];decide),Awr x a h1,zA,decide_eq_true hs,wG,Bool.not_not]
        by_cases he:x.End<=a.Begin
        · rw[ifp he,wIo]
          have:p x=false:=by show(_&&_&&_)=false;rw[decide_eq_true he];simp
          rw[this];rfl
        · rw[ifn he]
          unfold P8
          rw[Auo K (λk=>hit x.Keys k) (λ_=>true) (G0 K x) omg (λj k hk=>by
            have hjl:=(zB.1 hk).1
            unfold G0
            rw[ifo,Ak,hk,zA,Akt _ _ (by have:=h.keys x hxm;omega),zA,wIo]
            cases hit x.Keys k <;> rfl) (by
            unfold G0
            rw[ifq]),zA]
          have hpx:p x=K.any (λk=>hit x.Keys k):=by show(_&&_&&_)=_;rw[decide_eq_true hs,decide_eq_false he];simp
          rw[hpx]
          cases hf:K.find? (λk=>hit x.Keys k) with
          | none =>
            rw[show K.any (λk=>hit x.Keys k)=false from kU.2 λk hk=>by have:=kQ.1 hf k hk;simpa using this]
            show K8 _ _=_
            unfold K8
            rw[wIo];rfl
          | some k=>rw[xF.2 ⟨k,k9 hf,by have:=zAi hf;exact this⟩];rfl
      · rw[if_pos (by rw[decide_eq_false hs];rfl),wIo]
        have:p x=false:=by show(_&&_&&_)=false;rw[decide_eq_false hs];rfl
        rw[this];rfl) (by
      unfold Gz
      rw[ifq]),zA]
    cases hf:c.Txs.find? p with
    | none=>rw[show c.Txs.any p=false from kU.2 λk hk=>by have:=kQ.1 hf k hk;simpa using this];rfl
    | some k=>rw[xF.2 ⟨k,k9 hf,by have:=zAi hf;exact this⟩]
  refine⟨_,hs,?_⟩
  rw[kU]
  constructor
  · intro hh x hx hs he k hk hkx
    refine hh x hx ?_
    show(_&&_&&_)=true
    rw[decide_eq_true hs,decide_eq_false omg,xF.2 ⟨k,hk,(Anj (hpw x hx hs)).2 hkx⟩];rfl
  · intro hh x hx hp
    have hp:(decide (x.State=2) && !decide (x.End<=a.Begin)&&K.any (λk=>hit x.Keys k))=true:=hp
    simp only[zG,decide_eq_true_eq,xQ,decide_eq_false_iff_not,xF] at hp
    obtain⟨⟨hs,he⟩,k,hk,hh'⟩:=hp
    exact hh x hx hs omg k hk (Anb hh')
def Aj8 (rs:List Ac) (K:Keys):List Int:=K.flatMap λk=>Adz (Vt rs k)
theorem Aqm {rs:List Ac} {K:Keys} {t:Int}:t∈Aj8 rs K↔∃ r∈rs,r.Tx=t/\Aux r.Rng K=true:=by
  unfold Aj8
  rw[List.mem_flatMap]
  constructor
  · rintro⟨k,hk,h⟩
    obtain⟨x,hx,h1,h2⟩:=Ap8.1 h
    exact⟨x,hx,h2,Aqb.2 ⟨k,hk,h1⟩⟩
  · rintro⟨r,hr,h1,h2⟩
    obtain⟨k,hk,h3⟩:=Aqb.1 h2
    exact⟨k,hk,Ap8.2 ⟨r,hr,h3,h1⟩⟩
theorem Ai1 (rs:List Ac):∀ K:Keys,(Aj8 rs K).length<=K.length*rs.length
  | []=>by simp [Aj8]
  | k::K=>by
    have ih:=Ai1 rs K
    have:=Avq rs k
    unfold Aj8 at ih ⊢
    rw[yY,zI,yZ,kS]
    omega
theorem Afc {c:Af} (h:SC c) (K:Keys) (hK:K.length<=1000000):H9 c K=some (Aj8 c.Reads.L K):=by
  have hg:=h.gr.len
  unfold H9
  rw[Arw K (λk=>Adz (Vt c.Reads.L k)) (Dj c K) 128 (λk=>by have:=Avq c.Reads.L k;omega) omg (λi x acc hx ha=>by
    have hlt:=(zB.1 hx).1
    have:=Avq c.Reads.L x
    unfold Dj
    dsimp only
    rw[ifo,Ak,hx,zA,A5c (l:=c.Reads.L) omg,zA,if_pos omg,wIo]
    rfl) (λacc=>by
    unfold Dj
    dsimp only
    rw[ifq]),zA]
  rfl
theorem Aqa {c:Af} (h:SC c) (K:Keys) (hK:K.length<=16) {n:Nat} {a:Ag} (ha:c.Txs[n]? = some a) (h1:a.State=1) :
    ∃ b l,Ir c.Txs (n:Int) (Aj8 c.Reads.L K)=some (b,l)/\l.length=c.Txs.length /\
      (b=false->∃ x∈c.Txs,Y4 c.Reads.L a K x=true/\x.State=2/\x.In=true) /\
      (b=true->(∀ (j:Nat) (x:Ag),c.Txs[j]? = some x->l[j]? = some (if j=n then { x with In:=x.In||c.Txs.any (Y4 c.Reads.L a K) } else if Y4 c.Reads.L a K x=true then { x with Out:=true } else x))/\∀ x∈c.Txs,Y4 c.Reads.L a K x=true->x.State=2->x.In=false):=by
  have hl:=h.len
  have hg:=h.gr.len
  have hrl:=Ai1 c.Reads.L K
  have hrl':(Aj8 c.Reads.L K).length<=2048:=yU hrl (yU (Nat.mul_le_mul hK hg) dcd)
  have ham:=zD ha
  have hpa:Y4 c.Reads.L a K a=false:=by unfold Y4;rw[decide_eq_true rfl];rfl
  let F:=Xf c.Txs n (Y4 c.Reads.L a K) (λb x=>{ x with In:=x.In||b }) (λx=>{ x with Out:=true })
  have key:∃ v,B7 (Cf c.Txs (n:Int) (Aj8 c.Reads.L K)) fuel (0,c.Txs)=some v /\
      (match v with
        | .inl q=>q.1=false/\q.2.length=c.Txs.length/\∃ x∈c.Txs,Y4 c.Reads.L a K x=true/\x.State=2/\x.In=true
        | .inr l=>l.length=c.Txs.length/\(∀ (j:Nat) (x:Ag),c.Txs[j]? = some x->l[j]? = some (F c.Txs.length j x))/\∀ x∈c.Txs,Y4 c.Reads.L a K x=true->x.State=2->x.In=false):=by
    refine B9 (f:=Cf c.Txs (n:Int) (Aj8 c.Reads.L K)) (P:=λs=>∃ i:Nat,i<=c.Txs.length/\s.1=(i:Int)/\s.2.length=c.Txs.length/\(∀ (j:Nat) (x:Ag),c.Txs[j]? = some x->s.2[j]? = some (F i j x))/\∀ x∈c.Txs.take i,Y4 c.Reads.L a K x=true->x.State=2->x.In=false) (μ:=λs=>c.Txs.length-s.1.toNat) (R:=λv=>match v with
        | .inl q=>q.1=false/\q.2.length=c.Txs.length/\∃ x∈c.Txs,Y4 c.Reads.L a K x=true/\x.State=2/\x.In=true
        | .inr l=>l.length=c.Txs.length/\(∀ (j:Nat) (x:Ag),c.Txs[j]? = some x->l[j]? = some (F c.Txs.length j x))/\∀ x∈c.Txs,Y4 c.Reads.L a K x=true->x.State=2->x.In=false) ?_ fuel (0,c.Txs) ⟨0,zU _,rfl,rfl,λj x hx=>?_,by simp⟩ (Bb (by show c.Txs.length-0<=_;omega))
    · rintro⟨_,l⟩ ⟨i,hi,rfl,hll,hF,hno⟩
      dsimp only at hll hF
      unfold Cf
      dsimp only
      rcases zQ i c.Txs.length with hlt|hge
      · have hx:=zC hlt
        generalize c.Txs[i]=x at hx
        have hxm:=zD hx
        have htk:∀ {y},y∈c.Txs.take (i+1)->y∈c.Txs.take i\/y=x:=λ{y} hy=>by
          rw[zO hlt,yG,z8] at hy
          rcases hy with hy|hy
          · exact .inl hy
          · rw[zC hlt] at hx
            exact .inr (hy.trans (zF hx))
        have hstep:Y4 c.Reads.L a K x=false->∃ s',(some (LR.cont (wI ((i:Int)+1),l)):Option (LR (Int×List Ag) (List Ag) (Bool×List Ag)))=some (.cont s')/\(∃ k:Nat,k<=c.Txs.length/\s'.1=(k:Int)/\s'.2.length=c.Txs.length/\(∀ (j:Nat) (x:Ag),c.Txs[j]? = some x->s'.2[j]? = some (F k j x))/\∀ x∈c.Txs.take k,Y4 c.Reads.L a K x=true->x.State=2->x.In=false)/\c.Txs.length-s'.1.toNat<c.Txs.length-(i:Int).toNat:=λhp=>by
          refine⟨_,rfl,⟨i+1,hlt,by rw[wIo];rfl,hll,λj y hy=>?_,λy hy hpy=>?_⟩,by rw[wIo];omega⟩
          · show l[j]? = some (Xf _ _ _ _ _ (i+1) j y)
            rw[Alm _ _ _ _ _ hx hp j y hy];exact hF j y hy
          · rcases htk hy with hy|hy
            · exact hno y hy hpy
            · rw[hy,hp] at hpy;cases hpy
        rw[ifo,Ak,hF i x hx,zA]
        by_cases hin:i=n
        · subst hin
          have:x=a:=by rw[ha] at hx;exact(zF hx).symm
          subst this
          left
          rw[ifp rfl]
          exact hstep hpa
        · have hid:x.ID≠a.ID:=λe=>by
            have hya:=h.one hxm ham e
            obtain⟨p1,p2⟩:=zB.1 hx
            obtain⟨q1,q2⟩:=zB.1 ha
            rcases Nat.lt_or_gt_of_ne hin with hh|hh
            · have:=z7.1 h.ids i n p1 q1 hh
              rw[p2,q2] at this;exact this e
            · have:=z7.1 h.ids n i q1 p1 hh
              rw[p2,q2] at this;exact this e.symm
          have eF:F i i x=x:=by show Xf _ _ _ _ _ i i x=_;unfold Xf;rw[if_neg hin,if_neg (λe=>by omega)]
          rw[eF]
          have hFa:F i n a={ a with In:=a.In||(c.Txs.take i).any (Y4 c.Reads.L a K) }:=by show Xf _ _ _ _ _ i n a=_;unfold Xf;rw[if_pos rfl]
          rw[ifq,X4 _ _ omg,zA]
          by_cases hc:x.ID∈Aj8 c.Reads.L K
          · rw[decide_eq_true hc,if_neg dcd,Ak,hF n a ha,zA,Aeu x _ (by rw[hFa];exact h1),zA,Bool.not_not]
            rw[show(F i n a).Begin=a.Begin from by rw[hFa]]
            cases hb:(decide (x.State=2)&&decide (x.End<=a.Begin)) with
            | true =>
              rw[if_pos rfl]
              exact .inl (hstep (by unfold Y4;rw[hb];simp))
            | false =>
              have hp:Y4 c.Reads.L a K x=true:=by
                unfold Y4
                rw[hb,decide_eq_false hid]
                obtain⟨r,hr,e1,e2⟩:=Aqm.1 hc
                rw[xF.2 ⟨r,hr,by rw[decide_eq_true e1,e2];rfl⟩];rfl
              rw[if_neg dcd]
              unfold H8 Dp
              dsimp only
              rw[zA,A8c l i n hin (by rw[hF i x hx,eF]) (hF n a ha),zA,if_pos smp]
              have hnew:∀ (j:Nat) (y:Ag),c.Txs[j]? = some y->((l.set i { x with Out:=true }).set n { (F i n a) with In:=true })[j]? = some (F (i+1) j y):=λj y hy=>by
                show(List.set _ n _)[j]? = some (Xf _ _ _ _ _ (i+1) j y)
                have hjl:=(zB.1 hy).1
                unfold Xf
                by_cases hjn:j=n
                · subst hjn
                  rw[ha] at hy
                  have:=zF hy
                  subst this
                  rw[zN (by rw[xA];omega),if_pos rfl,zO hlt,List.any_append,hFa]
                  have:c.Txs[i]=x:=by rw[zC hlt] at hx;exact zF hx
                  rw[this]
                  simp only[zAa,j1,hp,Bool.or_true,Bool.true_or]
                · rw[zS (λe=>hjn e.symm)]
                  by_cases hji:j=i
                  · subst hji
                    rw[hx] at hy
                    have:=zF hy
                    subst this
                    rw[zN omg,if_neg hin,if_pos ⟨by omega,hp⟩]
                  · rw[zS (λe=>hji e.symm),if_neg hjn,hF j y hy]
                    show some (Xf _ _ _ _ _ i j y)=_
                    unfold Xf
                    rw[if_neg hjn]
                    by_cases hlt':j<i
                    · simp only[hlt',show j<i+1 from by omega]
                    · simp only[hlt',show ¬ j<i+1 from by omega]
              have hgo:(x.State=2->x.In=false)->∃ s',(some (LR.cont (wI ((i:Int)+1),(l.set i { x with Out:=true }).set n { (F i n a) with In:=true })):Option (LR (Int×List Ag) (List Ag) (Bool×List Ag)))=some (.cont s')/\(∃ k:Nat,k<=c.Txs.length/\s'.1=(k:Int)/\s'.2.length=c.Txs.length/\(∀ (j:Nat) (x:Ag),c.Txs[j]? = some x->s'.2[j]? = some (F k j x))/\∀ x∈c.Txs.take k,Y4 c.Reads.L a K x=true->x.State=2->x.In=false)/\c.Txs.length-s'.1.toNat<c.Txs.length-(i:Int).toNat:=λhxi=>by
                refine⟨_,rfl,⟨i+1,hlt,by rw[wIo];rfl,by simp [hll],hnew,λy hy hpy hsy=>?_⟩,by rw[wIo];omega⟩
                rcases htk hy with hy|hy
                · exact hno y hy hpy hsy
                · rw[hy] at hsy ⊢;exact hxi hsy
              by_cases hs:x.State=2
              · rw[ifp hs,Ak,hnew i x hx,zA,Aco,zA]
                have eF':F (i+1) i x={ x with Out:=true }:=by show Xf _ _ _ _ _ (i+1) i x=_;unfold Xf;rw[if_neg hin,if_pos ⟨by omega,hp⟩]
                rw[eF']
                dsimp only
                rw[jP]
                by_cases hio:x.In=true
                · rw[if_pos hio]
                  exact .inr (.inr ⟨_,rfl,rfl,by simp [hll],x,hxm,hp,hs,hio⟩)
                · rw[if_neg hio]
                  exact .inl (hgo λ_=>by simpa using hio)
              · rw[ifn hs]
                exact .inl (hgo λe=>absurd e hs)
          · rw[decide_eq_false hc,if_pos (by rfl)]
            refine .inl (hstep ?_)
            cases hh:Y4 c.Reads.L a K x with
            | false=>rfl
            | true =>
              obtain⟨_,⟨r,hr,e1,e2⟩,_⟩:=Ax5.1 hh
              exact absurd (Aqm.2 ⟨r,hr,e1,e2⟩) hc
      · have e:i=c.Txs.length:=by omega
        subst e
        rw[ifq]
        exact .inr (.inl ⟨_,rfl,hll,hF,by rw[yM] at hno;exact hno⟩)
    · show c.Txs[j]? = some (Xf _ _ _ _ _ 0 j x)
      rw[hx]
      unfold Xf
      rw[j2]
      simp only[j1,Bool.or_false,zW,false_and,if_false]
      split <;> rfl
  obtain⟨v,hv,hr⟩:=key
  unfold Ir
  rw[hv,zA]
  cases v with
  | inl q =>
    obtain⟨b,l⟩:=q
    obtain⟨e,h2,h3⟩:=hr
    have e:b=false:=e
    subst e
    exact⟨false,l,rfl,h2,λ_=>h3,λe=>by cases e⟩
  | inr l =>
    obtain⟨h2,h3,h4⟩:=hr
    refine⟨true,l,rfl,h2,(λe=>by cases e),λ_=>⟨λj x hx=>?_,h4⟩⟩
    rw[h3 j x hx]
    show some (Xf _ _ _ _ _ _ j x)=_
    have hjl:=(zB.1 hx).1
    unfold Xf
    rw[yM]
    simp only[hjl,true_and]
theorem commit_m {c:Af} (h:SC c) (id ts:Int) (K:Keys) (hK:K.length<=16) :
    ((∀ x∈c.Txs,x.ID=id->x.State≠1)/\B2 c id ts K=some (cN,7)) \/
    ∃ a∈c.Txs,a.ID=id/\a.State=1 /\
      ((¬ (a.Begin<ts/\ts<=maxTs/\KS K/\¬ (a.RO=true/\K≠[])/\∀ y∈c.Txs,y.End<ts)/\B2 c id ts K=some (cN,1)) \/
       ((a.Begin<ts/\ts<=maxTs/\KS K/\¬ (a.RO=true/\K≠[])/\∀ y∈c.Txs,y.End<ts) /\
         ((¬ (∀ x∈c.Txs,x.State=2->a.Begin<x.End->∀ k∈K,k∉x.Keys)/\B2 c id ts K=some (cN,9)) \/
          ((∀ x∈c.Txs,x.State=2->a.Begin<x.End->∀ k∈K,k∉x.Keys) /\
            (((∃ x∈c.Txs,Y4 c.Reads.L a K x=true/\x.State=2/\x.In=true)\/((a.In||c.Txs.any (Y4 c.Reads.L a K))=true/\a.Out=true))/\B2 c id ts K=some (cN,10) \/
             (∀ x∈c.Txs,Y4 c.Reads.L a K x=true->x.State=2->x.In=false)/\¬ ((a.In||c.Txs.any (Y4 c.Reads.L a K))=true/\a.Out=true)/\B2 c id ts K=some (⟨c.Txs.map (doneF c.Txs c.Reads.L a ts K),c.Reads⟩,0)))))):=by
  unfold B2
  rw[sane_c h,zA,if_neg (nn (by rfl))]
  rcases Ajh h id with⟨h1,e⟩|⟨n,a,ha,e1,h1,e⟩
  · rw[e,zA]
    exact .inl ⟨h1,rfl⟩
  right
  have ham:=zD ha
  have hl:=h.len
  refine⟨a,ham,e1,h1,?_⟩
  rw[e,zA,ifq,Ak,ha,zA]
  obtain⟨b,hb,hbi⟩:=Ajz h a ts K omg
  rw[hb,zA]
  cases b with
  | false=>exact .inl ⟨λhc=>(by have:=hbi.2 hc;cases this),rfl⟩
  | true =>
  right
  refine⟨hbi.1 rfl,?_⟩
  rw[if_neg dcd,zA]
  obtain⟨b,hb,hbi⟩:=Ac8 h a h1 K omg
  rw[hb,zA]
  cases b with
  | true=>exact .inl ⟨λhc=>(by have:=hbi.2 hc;cases this),rfl⟩
  | false =>
  right
  refine⟨hbi.1 rfl,?_⟩
  rw[if_neg dcd,Ajq _ omg,zA,Afc h K omg,zA]
  obtain⟨b,l,hp,hll,hf,ht⟩:=Aqa h K hK ha h1
  rw[hp,zA,if_pos hll]
  cases b with
  | false=>exact .inl ⟨.inl (hf rfl),rfl⟩
  | true =>
  obtain⟨hj,hno⟩:=ht rfl
  have hln:=hj n a ha
  rw[if_pos rfl] at hln
  rw[if_neg smp]
  dsimp only
  rw[Ak,hln,zA,Aco,zA]
  dsimp only
  by_cases hpv:(a.In||c.Txs.any (Y4 c.Reads.L a K))=true/\a.Out=true
  · rw[if_pos (by rw[hpv.1,hpv.2];rfl)]
    exact .inl ⟨.inr hpv,rfl⟩
  · rw[if_neg (by rw[zG];exact hpv)]
    refine .inr ⟨hno,hpv,?_⟩
    have hnl:n<l.length:=(zB.1 hln).1
    unfold M3
    rw[Ak,hln,zA]
    dsimp only
    rw[Ak,z6,zN hnl,zA]
    dsimp only
    rw[Ak,zN (by rw[xA];exact hnl),zA,jY,jY]
    congr 2
    show(Af.mk _ _)=_
    congr 1
    apply wA
    intro j
    rw[zK]
    cases hy:c.Txs[j]? with
    | none =>
      have hy:=wD.1 hy
      exact wD.2 (by rw[xA];omega)
    | some y =>
      show _=some (doneF _ _ _ _ _ y)
      unfold doneF
      by_cases hjn:j=n
      · subst hjn
        rw[ha] at hy
        have:=zF hy
        subst this
        rw[zN hnl,if_pos rfl]
      · have hne:y.ID≠a.ID:=λe=>by
          have hya:=h.one (zD hy) ham e
          obtain⟨p1,p2⟩:=zB.1 hy
          obtain⟨q1,q2⟩:=zB.1 ha
          rcases Nat.lt_or_gt_of_ne hjn with hh|hh
          · have:=z7.1 h.ids j n p1 q1 hh
            rw[p2,q2] at this;exact this e
          · have:=z7.1 h.ids n j q1 p1 hh
            rw[p2,q2] at this;exact this e.symm
        rw[zS (λe=>hjn e.symm),hj j y hy,if_neg hjn,if_neg hne]
theorem Aan {c:Af} (h:SC c) (gone:List Int) (hg:gone.length<=1000000):Fu c gone=some ⟨c.Txs.filter (λx=>!decide (x.ID∈gone)),⟨Tl c.Reads.L gone false⟩⟩:=by
  have hl:=h.len
  unfold Fu
  rw[Arw c.Txs (λx=>if (!decide (x.ID∈gone))=true then[x] else[]) (Ih c gone) 1 (λx=>by split <;> simp) omg (λi x acc hx ha=>by
    have hlt:=(zB.1 hx).1
    unfold Ih
    dsimp only
    rw[ifo,Ak,hx,zA,X4 _ _ hg,zA,wIo]
    cases decide (x.ID∈gone) with
    | true=>rw[if_neg dcd,if_neg dcd,xC];rfl
    | false=>rw[if_pos (by rfl),if_pos (by rw[yD];omega),if_pos (by rfl)];rfl) (λacc=>by
    unfold Ih
    dsimp only
    rw[ifq]),zA,Aej,List.map_id']
  unfold Q7
  rw[Azv (l:=c.Reads.L) (by have:=h.gr.len;omega) _ hg];rfl
theorem abort_m {c:Af} (h:SC c) (id:Int):((∀ x∈c.Txs,x.ID=id->x.State≠1)/\Cb c id=some c) \/
    ((∃ a∈c.Txs,a.ID=id/\a.State=1)/\Cb c id=some ⟨c.Txs.filter (λx=>!decide (x.ID∈[id])),⟨Tl c.Reads.L [id] false⟩⟩):=by
  unfold Cb
  rcases Ajh h id with⟨h1,e⟩|⟨n,a,ha,e1,h1,e⟩
  · rw[e,zA]
    exact .inl ⟨h1,rfl⟩
  · rw[e,zA,ifq,Aan h _ smp]
    exact .inr ⟨⟨a,zD ha,e1,h1⟩,rfl⟩
def oldV (l:List Ag) (now:Int):Int:=l.foldl (λm x=>if x.State=1 then(if x.Begin<m then x.Begin else m) else m) now
theorem oldest_m (c:Af) (now:Int) (hl:c.Txs.length<=1000000):Ju c now=some (oldV c.Txs now):=by
  unfold Ju
  show(Be _ fuel (now,((0:Nat):Int))).bind _=_
  rw[Ab9 (f:=I4 c) (λ(m:Int) (i:Nat)=>(m,(i:Int))) c.Txs (λm x=>if x.State=1 then(if x.Begin<m then x.Begin else m) else m) (λm=>m) omg (λacc i x hx=>by
    have hlt:=(zB.1 hx).1
    unfold I4
    dsimp only
    rw[ifo,Ak,hx,zA,wIo]
    by_cases hs:x.State=1
    · rw[ifp hs,if_pos hs];rfl
    · rw[ifn hs,if_neg hs];rfl) (λacc=>by
    unfold I4
    dsimp only
    rw[ifq])]
  rfl
theorem oldV_le {l:List Ag}:∀ {now m:Int},m<=oldV l now↔m<=now/\∀ x∈l,x.State=1->m<=x.Begin:=by
  induction l with
  | nil=>intro now m;simp [oldV]
  | cons a l ih =>
    intro now m
    show m<=oldV l _↔_
    rw[ih]
    constructor
    · rintro⟨h1,h2⟩
      have h1:m<=(if a.State=1 then(if a.Begin<now then a.Begin else now) else now):=h1
      by_cases hs:a.State=1
      · rw[if_pos hs] at h1
        split at h1
        · exact⟨by omega,λx hx h=>by
            rcases yB.1 hx with e|hx
            · rw[e];omega
            · exact h2 x hx h⟩
        · exact⟨by omega,λx hx h=>by
            rcases yB.1 hx with e|hx
            · rw[e];omega
            · exact h2 x hx h⟩
      · rw[if_neg hs] at h1
        exact⟨h1,λx hx h=>by
          rcases yB.1 hx with e|hx
          · rw[e] at h;exact absurd h hs
          · exact h2 x hx h⟩
    · rintro⟨h1,h2⟩
      refine⟨?_,λx hx h=>h2 x (yH _ hx) h⟩
      show m<=(if a.State=1 then(if a.Begin<now then a.Begin else now) else now)
      by_cases hs:a.State=1
      · have:=h2 a (yQ ..) hs
        rw[if_pos hs]
        split <;> omega
      · rw[if_neg hs];exact h1
def goneV (l:List Ag) (x:Ag):Bool:=decide (x.State=2)&&decide (x.End<=oldV l x.End)
theorem Alc {l:List Ag} {x:Ag}:goneV l x=true↔x.State=2/\∀ a∈l,a.State=1->x.End<=a.Begin:=by
  unfold goneV
  rw[zG,decide_eq_true_eq,decide_eq_true_eq,oldV_le]
  exact⟨λh=>⟨h.1,h.2.2⟩,λh=>⟨h.1,xS _,h.2⟩⟩
theorem Aut {c:Af} (h:SC c):Gp c=some ⟨c.Txs.filter (λx=>!decide (x.ID∈(c.Txs.filter (goneV c.Txs)).map (·.ID))),⟨Tl c.Reads.L ((c.Txs.filter (goneV c.Txs)).map (·.ID)) false⟩⟩:=by
  have hl:=h.len
  unfold Gp
  rw[Arw c.Txs (λx=>if goneV c.Txs x=true then[x.ID] else[]) (Kp c) 1 (λx=>by split <;> simp) omg (λi x acc hx ha=>by
    have hlt:=(zB.1 hx).1
    unfold Kp
    dsimp only
    rw[ifo,Ak,hx,zA,oldest_m _ _ omg,zA,wIo]
    unfold goneV
    by_cases hs:x.State=2
    · rw[ifp hs,decide_eq_true hs,wG]
      by_cases he:x.End<=oldV c.Txs x.End
      · rw[ifp he,if_pos (by rw[yD];omega),ifp he];rfl
      · rw[ifn he,ifn he,xC];rfl
    · rw[ifn hs,decide_eq_false hs,zAj,if_neg dcd,xC];rfl) (λacc=>by
    unfold Kp
    dsimp only
    rw[ifq]),zA,Aej]
  unfold T5
  rw[Aan h _ (by rw[zP];have:=xK (goneV c.Txs) c.Txs;omega)]
  rfl
theorem find_c (c:Af) (id:Int) (hl:c.Txs.length<=1000000):((∀ x∈c.Txs,x.ID≠id)/\∃ z,F6 c id=some (z,false))\/∃ x∈c.Txs,x.ID=id/\F6 c id=some (x,true):=by
  unfold F6
  rcases Oa c id hl with⟨h1,e⟩|⟨i,x,hx,e1,e⟩
  · rw[e]
    exact .inl ⟨h1,_,rfl⟩
  · rw[e,zA,ifq,Ak,hx]
    exact .inr ⟨x,zD hx,e1,rfl⟩
def K10 (K:Keys):Prop:=KS K/\K.length<=16
structure Bd (w:WL11) (n:Nat):Prop where
  now:w.now<=n
  beg:w.begun.length<=n
  did:w.did.length<=n
  read:w.read.length<=n
theorem Amz.to {x:Ag} (h:Amz x K10):Amz x KS/\x.Keys.length<=16:=by
  refine⟨⟨h.id,h.beg,?_⟩,?_⟩
  · rcases h.st with e|⟨a,b,c,d,e⟩
    · exact .inl e
    · exact .inr ⟨a,b,c,d.1,e⟩
  · rcases h.st with⟨_,_,e⟩|⟨a,b,c,d,e⟩
    · rw[e];decide
    · exact d.2
theorem Inv.sc {w:WL11} (h:Inv K10 w):SC w.c:=by
  refine⟨h.gr,h.ri,h.len,λx hx=>(h.each x hx).to.1,h.ids,λx hx y hy h1 h2 he=>?_,λx hx=>(h.each x hx).to.2⟩
  obtain⟨d,hd,a1,a2,a3,a4⟩:=h.don x hx h1
  obtain⟨d',hd',b1,b2,b3,b4⟩:=h.don y hy h2
  have:d=d':=pw_eq h.didE hd hd' omg omg
  rw[<- a1,<- b1,this]
theorem inv_abort {w:WL11} (h:Inv K10 w) (id:Int):∃ c,Cb w.c id=some c/\Inv K10 { w with c:=c }/\(∀ x∈c.Txs,x∈w.c.Txs/\¬ (x.ID=id/\x.State=1)):=by
  rcases abort_m h.sc id with⟨h1,e⟩|⟨⟨a,ha,e1,h1⟩,e⟩
  · exact⟨_,e,h,λx hx=>⟨hx,λhc=>h1 x hx hc.1 hc.2⟩⟩
  · refine⟨_,e,Aql h _ _ (jB ..) (λr hr=>?_) (λr hr x hx hp e=>?_) (λx hx hp hs=>?_),λx hx=>?_⟩
    · obtain⟨hr1,hr2⟩:=Aa1.1 hr
      obtain⟨x,hx,e⟩:=h.ri r hr1
      exact⟨x,hx,by rw[e,hr2];rfl,e⟩
    · rw[e] at hp
      exact Aa1.2 ⟨hr,by simpa using hp⟩
    · have:x.ID=id:=by simpa using hp
      rw[h.one hx ha (this.trans e1.symm),h1] at hs;cases hs
    · obtain⟨h1,h2⟩:=yO.1 hx
      refine⟨h1,λhc=>?_⟩
      simp [hc.1] at h2
theorem inv_clean {w:WL11} (h:Inv K10 w):∃ c,Gp w.c=some c/\Inv K10 { w with c:=c }/\c=⟨w.c.Txs.filter (λx=>!goneV w.c.Txs x),⟨Tl w.c.Reads.L ((w.c.Txs.filter (goneV w.c.Txs)).map (·.ID)) false⟩⟩:=by
  have hm:∀ x∈w.c.Txs,(x.ID∈(w.c.Txs.filter (goneV w.c.Txs)).map (·.ID))↔goneV w.c.Txs x=true:=λx hx=>by
    rw[yA]
    constructor
    · rintro⟨y,hy,e⟩
      obtain⟨h1,h2⟩:=yO.1 hy
      rw[<- h.one h1 hx e];exact h2
    · intro hg;exact⟨x,yO.2 ⟨hx,hg⟩,rfl⟩
  have hf:w.c.Txs.filter (λx=>!decide (x.ID∈(w.c.Txs.filter (goneV w.c.Txs)).map (·.ID)))=w.c.Txs.filter (λx=>!goneV w.c.Txs x):=by
    refine List.filter_congr λx hx=>?_
    congr 1
    cases hg:goneV w.c.Txs x with
    | true=>exact decide_eq_true ((hm x hx).2 hg)
    | false=>exact decide_eq_false λhc=>by have:=(hm x hx).1 hc;rw[hg] at this;cases this
  refine⟨_,Aut h.sc,?_,by rw[hf]⟩
  rw[hf]
  refine Aql h _ _ (jB ..) (λr hr=>?_) (λr hr x hx hp e=>?_) (λx hx hp hs a ha hpa h1=>?_)
  · obtain⟨hr1,hr2⟩:=Aa1.1 hr
    obtain⟨x,hx,e⟩:=h.ri r hr1
    refine⟨x,hx,?_,e⟩
    have hn:¬ (x.ID∈(w.c.Txs.filter (goneV w.c.Txs)).map (·.ID)):=by rw[e];exact of_decide_eq_false hr2
    cases hg:goneV w.c.Txs x with
    | true=>exact absurd ((hm x hx).2 hg) hn
    | false=>rfl
  · refine Aa1.2 ⟨hr,decide_eq_false λhc=>?_⟩
    rw[<- e] at hc
    rw[(hm x hx).1 hc] at hp;cases hp
  · have hg:goneV w.c.Txs x=true:=by simpa using hp
    exact(Alc.1 hg).2 a ha h1
end ss
namespace st
open bf
theorem W0 (x y:UInt8):x<y\/x=y\/y<x:=by
 rcases kH x.toNat y.toNat with h|h|h
 ·exact .inl (xI.2 h)
 ·exact .inr (.inl (UInt8.toNat_inj.1 h))
 ·exact .inr (.inr (xI.2 h))
theorem Km {x y:UInt8} (h:x<y):¬ y<x:=λh'=>by
 have:=xI.1 h
 have:=xI.1 h'
 omega
theorem Ai9 {x y z:UInt8} (h:x<y) (h':y<z):x<z:=by
 have h1:=xI.1 h
 have h2:=xI.1 h'
 exact xI.2 omg
theorem Jp:∀ a:List UInt8,Ce a a=0
 | []=>rfl
 | x::xs=>by unfold Ce;rw[if_neg (xD x),if_neg (xD x)];exact Jp xs
theorem Lh:∀ a b:List UInt8,Ce a b = -Ce b a
 | [],[]=>rfl
 | [],_::_=>rfl
 | _::_,[]=>rfl
 | x::xs,y::ys=>by
  unfold Ce
  rcases W0 x y with h|h|h
  ·rw[if_pos h,if_neg (Km h),if_pos h]
  ·subst h
   rw[if_neg (xD x),if_neg (xD x),if_neg (xD x),if_neg (xD x)];exact Lh xs ys
  ·rw[if_neg (Km h),if_pos h,if_pos h];rfl
theorem Pf:∀ {a b:List UInt8},Ce a b=0->a=b
 | [],[],_=>rfl
 | [],_::_,h=>by cases h
 | _::_,[],h=>by cases h
 | x::xs,y::ys,h=>by
  unfold Ce at h
  rcases W0 x y with h1|h1|h1
  ·rw[if_pos h1] at h;cases h
  ·subst h1
   rw[if_neg (xD x),if_neg (xD x)] at h
   rw[Pf h]
  ·rw[if_neg (Km h1),if_pos h1] at h;cases h
theorem Hd:∀ {a b c:List UInt8},Ce a b<=0->Ce b c<=0->Ce a c<=0/\(Ce a b<0\/Ce b c<0->Ce a c<0)
 | [],b,[],h1,h2=>⟨xS _,λh=>by
   cases b with
   | nil=>rcases h with h | h <;> simp [Ce] at h
   | cons y ys=>simp [Ce] at h2⟩
 | [],_,_::_,_,_=>⟨by simp [Ce],λ_=>by simp [Ce]⟩
 | _::_,[],_,h1,_=>by simp [Ce] at h1
 | _::_,_::_,[],_,h2=>by simp [Ce] at h2
 | x::xs,y::ys,z::zs,h1,h2=>by
  unfold Ce at h1 h2 ⊢
  rcases W0 x y with e1|e1|e1
  ·rcases W0 y z with e2|e2|e2
   ·rw[if_pos (Ai9 e1 e2)];exact⟨by decide,λ_=>by decide⟩
   ·subst e2;rw[if_pos e1];exact⟨by decide,λ_=>by decide⟩
   ·rw[if_neg (Km e2),if_pos e2] at h2;exact absurd h2 dcd
  ·subst e1
   rw[if_neg (xD x),if_neg (xD x)] at h1 ⊢
   rcases W0 x z with e2|e2|e2
   ·rw[if_pos e2];exact⟨by decide,λ_=>by decide⟩
   ·subst e2
    simp only[xD,if_false] at h2 ⊢
    exact Hd h1 h2
   ·rw[if_neg (Km e2),if_pos e2] at h2;exact absurd h2 dcd
  ·rw[if_neg (Km e1),if_pos e1] at h1;exact absurd h1 dcd
theorem A26 (xs:Keys) (k:List UInt8) (hn:xs.length<=1000000000000000000):Of xs k=some ((kat xs k:Int),hit xs k):=by
 obtain⟨v,hv,hr⟩:=B9 (f:=Dh xs k) (P:=λs=>∃ i:Nat,s=(i:Int)/\i<=xs.length/\∀ j y,j<i->xs[j]? = some y->Ce y k<0) (μ:=λs=>xs.length-s.toNat)
  (R:=λv=>match v with | .inl r=>r=(kat xs k:Int)/\kat xs k<xs.length | .inr _=>kat xs k=xs.length) (by
  rintro _ ⟨i,rfl,h1,h2⟩
  unfold Dh Di
  by_cases hi:i<xs.length
  ·have e:=zC hi
   rw[ifo,Ak,e]
   simp only[zA,Afg]
   by_cases hc:0<=Ce xs[i] k
   ·right;right
    rw[ifp hc]
    have ea:=Azx e hc h2
    exact⟨_,rfl,by rw[ea],by rw[ea];exact hi⟩
   ·left
    rw[ifn hc]
    refine⟨_,rfl,⟨i+1,by rw[wIo];rfl,hi,λj y hj hy=>?_⟩,by rw[wIo];omega⟩
    rcases j0.1 hj with h|rfl
    ·exact h2 j y h hy
    ·rw[e] at hy;cases hy;omega
  ·right;left
   rw[ifq]
   refine⟨_,rfl,?_⟩
   have:i=xs.length:=by omega
   subst this
   exact Ao4 h2) fuel 0 ⟨0,rfl,zU _,λj y hj=>absurd hj (zW _)⟩ (Bb (by show xs.length-0<=_;omega))
 unfold Of Ia
 rw[hv]
 simp only[zA]
 cases v with
 | inl r =>
  obtain⟨rfl,hlt⟩:r=(kat xs k:Int)/\kat xs k<xs.length:=hr
  simp only[zA]
  rw[ifq,Ak,zC hlt]
  simp only[zA,Cw]
  unfold hit
  rw[zC hlt]
  rfl
 | inr u =>
  have e:kat xs k=xs.length:=hr
  unfold Ft
  simp only[zA]
  rw[if_pos dcd]
  unfold hit
  rw[e]
  simp
def vOk (v:Ai):Bool:=decide (1<=v.Ts)&&decide (v.Ts<=1099511627776)&&decide ((v.Val.length:Int)<=32) && !(v.Del&&decide (0<(v.Val.length:Int)))
theorem A7j (v:Ai):Ec v=some (vOk v):=by
 unfold Ec vOk
 cases h1:decide (1<=v.Ts) <;> cases h2:decide (v.Ts<=1099511627776) <;> cases h3:decide ((v.Val.length:Int)<=32) <;> cases h4:v.Del <;> simp
structure OkC (l:List Ai):Prop where
 each:∀ (i:Nat) (v:Ai),l[i]? = some v->vOk v=true
 asc:∀ (i:Nat) (v w:Ai),l[i]? = some v->l[i+1]? = some w->v.Ts<w.Ts
def OkN (l:List Ai) (n:Nat) (b:Int):Prop :=
 (∀ (i:Nat) (v:Ai),i<n->l[i]? = some v->vOk v=true)/\(∀ (i:Nat) (v w:Ai),i+1<n->l[i]? = some v->l[i+1]? = some w->v.Ts<w.Ts)/\∀ (k:Nat) (v:Ai),n=k+1->l[k]? = some v->v.Ts<b
theorem Ajr {c:Ab} (h:c.L.length<=1000):Ark c=some (Rv c.L c.L.length):=if_pos omg
theorem Av2 (l:List Ai):∀ (n:Nat) (b:Int),n<=l.length->∃ e r,R1 I0 (Rv l n) b=some e/\Amc M0 Mg (λ_ _=>none) e=some r/\(r=true↔OkN l n b)
 | 0,b,_=>⟨_,_,rfl,rfl,by simp [OkN]⟩
 | n+1,b,h=>by
  rw[Rs omg]
  have hg:=zC (show n<l.length by omega)
  generalize l[n]'omg=v at hg
  unfold R1
  unfold I0
  dsimp only
  rw[A7j,zA]
  cases hs:vOk v with
  | false =>
   refine⟨_,false,rfl,rfl,?_⟩
   simp only[zV,false_iff]
   intro hk
   rw[hk.1 n v (xR n) hg] at hs
   cases hs
  | true =>
   by_cases hb:b<=v.Ts
   ·rw[if_neg smp,ifp hb]
    refine⟨_,false,rfl,rfl,?_⟩
    simp only[zV,false_iff]
    intro hk
    have:=hk.2.2 n v rfl hg
    omega
   ·rw[if_neg smp,if_neg (by simpa using hb)]
    obtain⟨e,r,h1,h2,h3⟩:=Av2 l n v.Ts omg
    refine⟨e,r,h1,h2,h3.trans ⟨λhk=>⟨λi u hi hu=>?_,λi u w hi hu hw=>?_,λk u hk2 hu=>?_⟩,λhk=>⟨λi u hi hu=>hk.1 i u omg hu,λi u w hi hu hw=>hk.2.1 i u w omg hu hw,λk u hk2 hu=>?_⟩⟩⟩
    ·by_cases e:i=n
     ·subst e;rw[hg] at hu;cases hu;exact hs
     ·exact hk.1 i u omg hu
    ·by_cases e:i+1=n
     ·subst e;rw[hg] at hw;cases hw;exact hk.2.2 i u rfl hu
     ·exact hk.2.1 i u w omg hu hw
    ·have:k=n:=by omega
     subst this
     rw[hg] at hu;cases hu;omega
    ·subst hk2
     exact hk.2.1 k u v omg hu hg
theorem A18 (l:List Ai):OkN l l.length 1099511627777↔OkC l:=by
 constructor
 ·intro h
  exact⟨λi v hv=>h.1 i v (zB.1 hv).1 hv,λi v w hv hw=>h.2.1 i v w (zB.1 hw).1 hv hw⟩
 ·intro h
  refine⟨λi v _ hv=>h.each i v hv,λi v w _ hv hw=>h.asc i v w hv hw,λk v _ hv=>?_⟩
  have:=h.each k v hv
  unfold vOk at this
  simp only[zG,decide_eq_true_eq] at this
  omega
theorem X3 {c:Ab} (h:c.L.length<=1000):(Ct c=some true/\OkC c.L)\/(Ct c=some false/\¬ OkC c.L):=by
 obtain⟨e,r,h1,h2,h3⟩:=Av2 c.L c.L.length 1099511627777 (zT _)
 have:Ct c=some r:=by
  unfold Ct
  rw[Ajr h,zA,h1,zA,h2]
 rw[A18] at h3
 cases r with
 | true=>exact .inl ⟨this,h3.1 rfl⟩
 | false=>exact .inr ⟨this,λhk=>by have:=h3.2 hk;cases this⟩
def plc (l:List Ai) (t:Int):Nat->Int
 | 0=>-1
 | n+1=>match l[n]? with
  | some v=>if v.Ts<=t then(n:Int) else plc l t n
  | none=>-1
theorem Atk (l:List Ai) (t:Int):∀ (n:Nat) (s:Int),n<=l.length->∃ e,R1 (Iz t) (Rv l n) s=some e/\Amc Nn Nl (λ_ _=>none) e=some (plc l t n)
 | 0,s,_=>⟨_,rfl,rfl⟩
 | n+1,s,h=>by
  rw[Rs omg]
  have hg:=zC (show n<l.length by omega)
  generalize l[n]'omg=v at hg
  unfold R1 Iz plc
  rw[hg]
  dsimp only
  by_cases ht:v.Ts<=t
  ·rw[ifp ht,if_pos ht]
   exact⟨_,rfl,rfl⟩
  ·rw[if_neg (by simpa using ht),if_neg ht]
   exact Atk l t n s omg
theorem Afq {c:Ab} (h:c.L.length<=1000) (t:Int):G7 c t=some (plc c.L t c.L.length):=by
 obtain⟨e,h1,h2⟩:=Atk c.L t c.L.length 0 (zT _)
 unfold G7
 rw[Ajr h,zA,h1,zA,h2]
theorem Aeq (l:List Ai) (t:Int):∀ n,n<=l.length -> -1<=plc l t n/\plc l t n<n/\(∀ k v,plc l t n=((k:Nat):Int)->l[k]? = some v->v.Ts<=t)/\∀ (j:Nat) v,plc l t n<j->j<n->l[j]? = some v->t<v.Ts
 | 0,_=>⟨by show(-1:Int) <= -1;omega,by show(-1:Int)<((0:Nat):Int);omega,λk v h=>by have h':(-1:Int)=k:=h;omega,λj v _ h=>by omega⟩
 | n+1,h=>by
  have hg:=zC (show n<l.length by omega)
  generalize l[n]'omg=u at hg
  obtain⟨h1,h2,h3,h4⟩:=Aeq l t n omg
  unfold plc
  rw[hg]
  dsimp only
  by_cases ht:u.Ts<=t
  ·rw[if_pos ht]
   refine⟨by omega,by omega,λk v hk hv=>?_,λj v hj1 hj2 hv=>by omega⟩
   have:k=n:=by omega
   subst this
   rw[hg] at hv;cases hv;exact ht
  ·rw[if_neg ht]
   refine⟨h1,by omega,h3,λj v hj1 hj2 hv=>?_⟩
   by_cases e:j=n
   ·subst e;rw[hg] at hv;cases hv;omega
   ·exact h4 j v hj1 omg hv
theorem A1q {c:Ab} (h:c.L.length<=1000) {t:Int} (hp:plc c.L t c.L.length = -1):Dw c t=some (⟨0,[],false⟩,false):=by
 unfold Dw
 rw[Afq h,hp]
 rfl
theorem A2y {c:Ab} (h:c.L.length<=1000) {t:Int} {k:Nat} {v:Ai} (hp:plc c.L t c.L.length=k) (hv:c.L[k]? = some v):Dw c t=some (v,true):=by
 unfold Dw
 rw[Afq h,hp,zA,if_neg (by simp only[decide_eq_true_eq];omega),Ak,hv]
 rfl
theorem Aot {c:Ab} {t:Int} {v:Ai} {b:Bool} (h:Dw c t=some (v,b)):Cv c t=some (if b && !v.Del then(v.Val,true) else([],false)):=by
 unfold Cv Sl
 rw[h,zA]
 cases b <;> cases v.Del <;> simp
def Ku (l:List Ai):Int:=match l[l.length-1]? with
 | some v=>v.Ts
 | none=>0
theorem Asz {c:Ab} (h:c.L.length<=1000):Hb c=some (Ku c.L):=by
 unfold Hb Ku
 rw[Ajr h,zA]
 cases hn:c.L.length with
 | zero =>
  have:c.L=[]:=yE hn
  rw[this]
  rfl
 | succ n =>
  rw[Rs omg,jX,zC (show n<c.L.length by omega)]
  rfl
theorem Ao7 {c:Ab} (h:c.L.length<=1000) {v:Ai} (hk:OkC c.L) (hv:vOk v=true) (hl:Ku c.L<v.Ts):Jr c v=some (⟨c.L++[v]⟩,0):=by
 unfold Jr
 rcases X3 (c:=⟨c.L⟩) h with⟨h1,h2⟩|⟨h1,h2⟩
 ·rw[h1,zA,A7j,zA,hv]
  unfold R5
  have hn:¬ (decide (v.Ts<=Ku c.L)=true):=by rw[decide_eq_true_eq];omega
  rw[Asz h,zA,if_neg hn,W7 _ (by simp;omega) smp]
  simp
 ·exact absurd hk h2
def gone (l:List Ai) (t:Int):Nat:=match l[(plc l t l.length).toNat]? with
 | some v=>if plc l t l.length<0 then 0 else if v.Del then(plc l t l.length).toNat+1 else(plc l t l.length).toNat
 | none=>0
theorem A4u {c:Ab} (h:c.L.length<=1000) (hk:OkC c.L) (t:Int):E4 c t=some ⟨c.L.drop (gone c.L t)⟩:=by
 obtain⟨p1,p2,_,_⟩:=Aeq c.L t c.L.length (zT _)
 unfold E4 gone
 rw[Afq h,zA]
 by_cases h0:plc c.L t c.L.length<0
 ·rw[ifp h0]
  split
  ·rw[if_pos h0];rfl
  ·rfl
 ·rw[if_neg (by simpa using h0)]
  rcases X3 (c:=⟨c.L⟩) h with⟨h1,h2⟩|⟨h1,h2⟩
  ·rw[h1,zA,if_neg smp]
   unfold Kz
   have hg:=zC (show(plc c.L t c.L.length).toNat<c.L.length by omega)
   generalize c.L[(plc c.L t c.L.length).toNat]'omg=v at hg
   rw[A7v omg hg,zA,hg]
   dsimp only
   rw[if_neg h0]
   have key:∀ j:Nat,j<=c.L.length->Dd c (j:Int)=some ⟨c.L.drop j⟩:=λj hj=>by
    unfold Dd
    rw[Tq omg omg omg,zA]
    have:(c.L.drop ((j:Int)).toNat).take (((c.L.length:Int)).toNat-((j:Int)).toNat)=c.L.drop j:=by
     rw[z6,z6]
     exact yJ smp
    rw[this,P6 _ (by simp;omega)]
    rfl
   cases hd:v.Del with
   | true =>
    rw[if_pos rfl,if_pos rfl,wIo]
    have:=key ((plc c.L t c.L.length).toNat+1) omg
    rw[show(((plc c.L t c.L.length).toNat+1:Nat):Int)=plc c.L t c.L.length+1 by omega] at this
    exact this
   | false =>
    rw[if_neg smp,if_neg smp]
    have:=key ((plc c.L t c.L.length).toNat) omg
    rw[show(((plc c.L t c.L.length).toNat:Nat):Int)=plc c.L t c.L.length by omega] at this
    exact this
  ·exact absurd hk h2
theorem Aiz:OkC []:=⟨λi v h=>by simp at h,λi v w h=>by simp at h⟩
theorem Aic {l:List Ai} (h:OkC l) {v:Ai} (hv:vOk v=true) (hl:Ku l<v.Ts):OkC (l++[v]):=by
 refine⟨λi u hu=>?_,λi u w hu hw=>?_⟩
 ·by_cases hi:i<l.length
  ·rw[zL hi] at hu;exact h.each i u hu
  ·rw[zX omg] at hu
   cases hj:i-l.length with
   | zero=>rw[hj] at hu;cases hu;exact hv
   | succ j=>rw[hj] at hu;simp at hu
 ·by_cases hi:i+1<l.length
  ·rw[zL omg] at hu
   rw[zL hi] at hw
   exact h.asc i u w hu hw
  ·by_cases hi2:i<l.length
   ·rw[zL hi2] at hu
    rw[zX omg,show i+1-l.length=0 by omega] at hw
    cases hw
    unfold Ku at hl
    rw[show l.length-1=i by omega,hu] at hl
    exact hl
   ·rw[zX omg] at hw
    cases hj:i+1-l.length with
    | zero=>omega
    | succ j=>rw[hj] at hw;simp at hw
theorem Ay2 {l:List Ai} (h:OkC l) (n:Nat):OkC (l.drop n):=by
 refine⟨λi v hv=>?_,λi v w hv hw=>?_⟩
 ·rw[yP] at hv;exact h.each _ v hv
 ·rw[yP] at hv hw;exact h.asc (n+i) v w hv (by rw[jD];exact hw)
def pc (l:List Ai) (t:Int):Nat:=(plc l t l.length+1).toNat
theorem Bad (l:List Ai) (t:Int):pc l t<=l.length:=by
 obtain⟨h1,h2,_,_⟩:=Aeq l t l.length (zT _)
 unfold pc;omega
theorem A0x (l:List Ai) (t:Int):plc l t l.length=(pc l t:Int)-1:=by
 obtain⟨h1,h2,_,_⟩:=Aeq l t l.length (zT _)
 unfold pc;omega
theorem at0 {c:Ab} (h:c.L.length<=1000) {t:Int} (hp:pc c.L t=0):Dw c t=some (⟨0,[],false⟩,false) :=
 A1q h (by rw[A0x,hp];rfl)
theorem at1 {c:Ab} (h:c.L.length<=1000) {t:Int} {v:Ai} (hp:0<pc c.L t) (hv:c.L[pc c.L t-1]? = some v):Dw c t=some (v,true) :=
 A2y h (by rw[A0x];omega) hv
theorem Azo {α:Type} (xs:List α) (p:Nat->α->Bool) (f:Int->Option (LR Int Unit Bool)) (hl:xs.length<=1000000000000000000)
  (h:∀ (i:Nat) x,xs[i]? = some x->f (i:Int)=some (if p i x then .ret false else .cont ((i+1:Nat):Int))) (hend:f (xs.length:Int)=some (.brk ())) :
  (∃ i x,xs[i]? = some x/\p i x=true/\B7 f fuel 0=some (.inl false))\/((∀ (i:Nat) x,xs[i]? = some x->p i x=false)/\B7 f fuel 0=some (.inr ())):=by
 obtain⟨b,hb,hr⟩:=B9 (f:=f) (P:=λs=>∃ i:Nat,i<=xs.length/\s=(i:Int)/\∀ j x,j<i->xs[j]? = some x->p j x=false) (μ:=λs=>xs.length-s.toNat)
  (R:=λr=>(r=.inl false/\∃ i x,xs[i]? = some x/\p i x=true)\/(r=.inr ()/\∀ (i:Nat) x,xs[i]? = some x->p i x=false)) (by
   rintro _ ⟨i,hi,rfl,hp⟩
   rcases zQ i xs.length with hlt|hge
   ·have hx:=zC hlt
    have hf:=h i _ hx
    cases hpx:p i xs[i] with
    | true =>
     rw[hpx,if_pos rfl] at hf
     exact .inr (.inr ⟨false,hf,.inl ⟨rfl,i,_,hx,hpx⟩⟩)
    | false =>
     rw[hpx,if_neg dcd] at hf
     refine .inl ⟨_,hf,⟨i+1,hlt,rfl,λj x hj hx'=>?_⟩,by simp only[z6];omega⟩
     rcases j0.1 hj with h'|rfl
     ·exact hp j x h' hx'
     ·rw[hx] at hx';cases hx';exact hpx
   ·have e:i=xs.length:=by omega
    subst e
    exact .inr (.inl ⟨(),hend,.inr ⟨rfl,λj x hx=>hp j x (zB.1 hx).1 hx⟩⟩)) fuel 0 ⟨0,zU _,rfl,λj x hj=>absurd hj (zW _)⟩ (Bb (by show xs.length-0<=_;omega))
 rcases hr with⟨rfl,i,x,hx,hp⟩|⟨rfl,hp⟩
 ·exact .inl ⟨i,x,hx,hp,hb⟩
 ·exact .inr ⟨hp,hb⟩
def kOk (k:List UInt8):Bool:=decide (1<=(k.length:Int))&&decide ((k.length:Int)<=16)
theorem kSane_m (k:List UInt8):Co k=some (kOk k):=by
 unfold Co kOk
 by_cases h:1<=(k.length:Int)
 ·rw[ifp h,decide_eq_true h,wG]
 ·rw[ifn h,decide_eq_false h,zAj]
theorem Amv:∀ (xs:Keys),(∀ (j:Nat) x y,xs[j]? = some x->xs[j+1]? = some y->Ce x y<0)->PW xs
 | [],_=>List.Pairwise.nil
 | [_],_=>wS _ _
 | x::y::l,h=>by
  have ih:PW (y::l):=Amv (y::l) λj a b ha hb=>h (j+1) a b ha hb
  have hxy:Ce x y<0:=h 0 x y rfl rfl
  refine yX.2 ⟨λz hz=>?_,ih⟩
  rcases yB.1 hz with rfl|hz
  ·exact hxy
  ·have:=(yX.1 ih).1 z hz
   exact(Hd (kJ hxy) (kJ this)).2 (.inl hxy)
theorem sorted_conv {xs:Keys} (hn:xs.length<=1000000000000000000) (h:Bi xs=some true):PW xs:=by
 refine Amv xs ?_
 obtain⟨v,hv,hr⟩:=B9 (f:=Bm xs) (P:=λs=>∃ i:Nat,s=(i:Int)/\1<=i/\∀ (j:Nat) x y,j+1<i->xs[j]? = some x->xs[j+1]? = some y->Ce x y<0) (μ:=λs=>xs.length-s.toNat)
  (R:=λv=>v=.inl false\/(v=.inr ()/\∀ (j:Nat) x y,xs[j]? = some x->xs[j+1]? = some y->Ce x y<0)) (by
  rintro _ ⟨i,rfl,h1,hadj⟩
  unfold Bm
  by_cases hi:i<xs.length
  ·rw[ifo,wIo,show(i:Int)-1=((i-1:Nat):Int) from by omega,Ak,Ak,zC hi,zC (show i-1<xs.length by omega)]
   simp only[zA,Afg]
   by_cases hc:0<=Ce xs[i-1] xs[i]
   ·rw[ifp hc]
    exact .inr (.inr ⟨false,rfl,.inl rfl⟩)
   ·rw[ifn hc]
    refine .inl ⟨_,rfl,⟨i+1,by rw[wIo];rfl,by omega,λj x y hj hx hy=>?_⟩,by rw[wIo];omega⟩
    rcases zQ (j+1) i with h'|h'
    ·exact hadj j x y h' hx hy
    ·have e:j=i-1:=by omega
     subst e
     rw[zC (show i-1<xs.length by omega)] at hx
     rw[show i-1+1=i by omega,zC hi] at hy
     cases hx;cases hy
     omega
  ·right;left
   rw[ifq]
   refine⟨_,rfl,.inr ⟨rfl,λj x y hx hy=>hadj j x y ?_ hx hy⟩⟩
   have:=(zB.1 hy).1
   omega) fuel 1 ⟨1,rfl,zT _,λj x y hj=>by omega⟩ (Bb (by show xs.length-1<=_;omega))
 unfold Bi at h
 rw[hv] at h
 rcases hr with rfl|⟨rfl,hr⟩
 ·cases h
 ·exact hr
theorem Qt (xs:Keys) (hn:xs.length<=1000000000000000000):∃ b,Cx xs=some b/\(b=true↔(∀ k∈xs,kOk k=true)/\PW xs):=by
 unfold Cx
 rcases Azo xs (λ_ k=>!kOk k) (Fq xs) hn (λi x hx=>by
  have hlt:=(zB.1 hx).1
  unfold Fq
  rw[ifo,Ak,hx,zA,kSane_m,zA]
  cases kOk x with
  | false=>rfl
  | true=>rw[if_neg dcd,if_neg dcd,wIo];rfl) (by
  unfold Fq
  rw[ifq]) with⟨i,x,hx,hp,e⟩|⟨hp,e⟩
 ·rw[e]
  refine⟨false,rfl,⟨λh=>(by cases h),λh=>?_⟩⟩
  rw[h.1 x (zD hx)] at hp
  cases hp
 ·rw[e,zA]
  unfold Nw
  obtain⟨v,hv⟩:=sorted_some xs hn
  rw[hv]
  refine⟨v,rfl,⟨λh=>⟨λk hk=>?_,?_⟩,λh=>?_⟩⟩
  ·obtain⟨i,hi⟩:=xH.1 hk
   have:=hp i k hi
   simpa using this
  ·subst h;exact sorted_conv hn hv
  ·rw[Yg h.2 hn] at hv
   exact(zF hv).symm
structure OkS (K:Keys) (C:List Ab) (T:Int) (B:Nat):Prop where
 t0:0<=T
 t1:T<=1099511627776
 cl:C.length=K.length
 ks:∀ k∈K,kOk k=true
 pw:PW K
 cs:∀ c∈C,c.L≠[]/\OkC c.L/\Ku c.L<=T/\c.L.length<=B
theorem ssane_m {K:Keys} {C:List Ab} {T:Int} {B:Nat} (h:OkS K C T B) (hB:B<=1000) (hk:K.length<=128):Ca ⟨K,C,T⟩=some true:=by
 unfold Ca
 have h0:=h.t0
 have h1:=h.t1
 have hcl:=h.cl
 rw[if_neg (by rw[decide_eq_true_eq];dsimp only;omega),if_neg (by rw[decide_eq_true_eq];dsimp only;omega),if_neg (by rw[decide_eq_true_eq];dsimp only;omega),if_neg (by rw[decide_eq_true (by dsimp only;omega)];decide)]
 obtain⟨b,hb,hb2⟩:=Qt K omg
 have:b=true:=hb2.2 ⟨h.ks,h.pw⟩
 subst this
 show(Cx K).bind _=_
 rw[hb,zA,if_neg dcd]
 unfold Tr
 rcases Azo C (λ_ _=>false) (Ke ⟨K,C,T⟩) omg (λi x hx=>by
  have hlt:=(zB.1 hx).1
  obtain⟨c1,c2,c3,c4⟩:=h.cs x (zD hx)
  unfold Ke
  dsimp only
  rw[ifo,Ak,hx,zA]
  have hne:x.L.length≠0:=λe=>c1 (yE e)
  rw[ifq]
  rcases X3 (c:=x) omg with⟨e,_⟩|⟨_,e⟩
  ·rw[e,zA,if_neg dcd,Asz (c:=x) omg,zA,ifq,if_neg dcd,wIo]
   rfl
  ·exact absurd c2 e) (by
  unfold Ke
  dsimp only
  rw[ifq]) with⟨i,x,hx,hp,e⟩|⟨hp,e⟩
 ·cases hp
 ·rw[e];rfl
def wOk (w:Ae):Bool:=decide ((w.Val.length:Int)<=32) && !(w.Del&&decide (0<(w.Val.length:Int)))
theorem Akc (l:List Ae) (hn:l.length<=1000000):∃ b,Cj l=some b/\(b=true->(∀ w∈l,wOk w=true)/\(∀ w∈l,kOk w.Key=true)/\PW (l.map (·.Key))):=by
 unfold Cj
 obtain⟨v,hv,hr⟩:=B9 (f:=C3 l) (P:=λs=>∃ i:Nat,i<=l.length/\s=((i:Int),(l.take i).map (·.Key))/\∀ w∈l.take i,wOk w=true) (μ:=λs=>l.length-s.1.toNat)
  (R:=λv=>v=.inl false\/(v=.inr (l.map (·.Key))/\∀ w∈l,wOk w=true)) (by
   rintro _ ⟨i,hi,rfl,hw⟩
   unfold C3
   dsimp only
   rcases zQ i l.length with hlt|hge
   ·have hx:=zC hlt
    rw[ifo,Ak,hx,zA]
    have hk5:Cy ((i:Int),(l.take i).map (·.Key)) l[i] ()=some (.cont (((i+1:Nat):Int),(l.take (i+1)).map (·.Key))):=by
     unfold Cy
     dsimp only
     rw[if_pos (by rw[zP,zR,yD];omega),wIo,zO hlt,xJ]
     rfl
    by_cases h1:32<(l[i].Val.length:Int)
    ·rw[ifp h1];exact .inr (.inr ⟨false,rfl,.inl rfl⟩)
    rw[ifn h1]
    have hnext:wOk l[i]=true->∀ w∈l.take (i+1),wOk w=true:=λhwi w hm=>by
     rw[zO hlt] at hm
     rcases yG.1 hm with hm|hm
     ·exact hw w hm
     ·rw[z8.1 hm];exact hwi
    cases hd:l[i].Del with
    | true =>
     rw[if_pos rfl]
     by_cases h2:0<(l[i].Val.length:Int)
     ·rw[ifp h2];exact .inr (.inr ⟨false,rfl,.inl rfl⟩)
     ·rw[ifn h2,hk5]
      refine .inl ⟨_,rfl,⟨i+1,hlt,rfl,hnext ?_⟩,by simp only[z6];omega⟩
      unfold wOk
      rw[decide_eq_true omg,hd,decide_eq_false h2]
      rfl
    | false =>
     rw[if_neg dcd,hk5]
     refine .inl ⟨_,rfl,⟨i+1,hlt,rfl,hnext ?_⟩,by simp only[z6];omega⟩
     unfold wOk
     rw[decide_eq_true omg,hd]
     rfl
   ·have e:i=l.length:=by omega
    subst e
    rw[ifq]
    rw[yM] at hw ⊢
    exact .inr (.inl ⟨_,rfl,.inr ⟨rfl,hw⟩⟩)) fuel (0,[]) ⟨0,zU _,rfl,λw h=>by simp at h⟩ (Bb (by show l.length-0<=_;omega))
 rw[hv,zA]
 rcases hr with rfl|⟨rfl,hw⟩
 ·exact⟨false,rfl,λh=>(by cases h)⟩
 ·show ∃ b,He (l.map (·.Key))=some b/\_
  unfold He
  obtain⟨b,hb,hb2⟩:=Qt (l.map (·.Key)) (by rw[zP];omega)
  rw[hb]
  refine⟨b,rfl,λh=>?_⟩
  obtain⟨h1,h2⟩:=hb2.1 h
  exact⟨hw,λw hm=>h1 w.Key (yA.2 ⟨w,hm,rfl⟩),h2⟩
def At (K:Keys) (C:List Ab) (k:List UInt8) (c:Ab):Prop:=∃ i:Nat,K[i]? = some k/\C[i]? = some c
theorem Ahn {K:Keys} (h:PW K) {i j:Nat} {k:List UInt8} (hi:K[i]? = some k) (hj:K[j]? = some k):i=j:=by
 obtain⟨hi1,hi2⟩:=zB.1 hi
 obtain⟨hj1,hj2⟩:=zB.1 hj
 rcases kH i j with h'|h'|h'
 ·have:=z7.1 h i j hi1 hj1 h'
  rw[hi2,hj2,Jp] at this;omega
 ·exact h'
 ·have:=z7.1 h j i hj1 hi1 h'
  rw[hi2,hj2,Jp] at this;omega
theorem Acl {K:Keys} {k:List UInt8} (h:hit K k=true):K[kat K k]? = some k:=by
 unfold hit at h
 exact eq_of_beq h
theorem At.uniq {K:Keys} {C:List Ab} {k:List UInt8} {c d:Ab} (h:PW K) (hc:At K C k c) (hd:At K C k d):c=d:=by
 obtain⟨i,h1,h2⟩:=hc
 obtain⟨j,h3,h4⟩:=hd
 have:=Ahn h h1 h3
 subst this
 rw[h2] at h4
 exact zF h4
theorem At.hit {K:Keys} {C:List Ab} {k:List UInt8} {c:Ab} (h:PW K) (hc:At K C k c):bf.hit K k=true/\C[kat K k]? = some c:=by
 obtain⟨i,h1,h2⟩:=hc
 have hh:=(Anj h).2 (zD h1)
 have:=Ahn h h1 (Acl hh)
 subst this
 exact⟨hh,h2⟩
theorem At.of_hit {K:Keys} {C:List Ab} {k:List UInt8} (hl:C.length=K.length) (h:bf.hit K k=true):∃ c,At K C k c/\C[kat K k]? = some c:=by
 have hlt:=Aor h
 exact⟨C[kat K k]'omg,⟨_,Acl h,zC omg⟩,zC omg⟩
abbrev ver (ts:Int) (w:Ae):Ai:=Ai.mk ts w.Val w.Del
def A4d (K:Keys) (C:List Ab) (ts:Int) (w:Ae) (c:Ab):Prop:=(∃ c0,At K C w.Key c0/\c.L=c0.L++[ver ts w])\/((¬ ∃ c0,At K C w.Key c0)/\c.L=[ver ts w])
theorem Aon {ts:Int} {w:Ae} (h1:1<=ts) (h2:ts<=1099511627776) (hw:wOk w=true):vOk (ver ts w)=true:=by
 unfold wOk at hw
 unfold vOk ver
 dsimp only
 rw[decide_eq_true h1,decide_eq_true h2,wG,wG]
 exact hw
theorem Am7 {α:Type} {by_:Nat} {xs:List α} {i:Nat} {x:α} (hi:i<=xs.length) (hb:(xs.length+1)*by_<=140737488355328):Auz by_ xs (i:Int) [x]=some (xs.take i++x::xs.drop i):=by
 unfold Auz
 dsimp only
 rw[if_pos ⟨⟨by omega,by omega⟩,hb⟩,z6]
theorem Avz {α:Type} {xs:List α} {p:Nat} {x:α} (hp:p<=xs.length) (i:Nat):(xs.take p++x::xs.drop p)[i]? = if i<p then xs[i]? else if i=p then some x else xs[i-1]? := by
 rw[List.getElem?_append,zR,kN hp]
 split
 ·next h=>rw[yR,if_pos h]
 ·next h =>
  split
  ·next h2=>rw[h2,kZ];rfl
  ·next h2 =>
   rw[show i-p=(i-p-1)+1 by omega,kD,yP]
   congr 1;omega
structure OkP (K:Keys) (C:List Ab) (B:Nat):Prop where
 cl:C.length=K.length
 ks:∀ k∈K,kOk k=true
 pw:PW K
 cs:∀ c∈C,OkC c.L/\c.L.length<=B
theorem Ban {K:Keys} {C:List Ab} {B:Nat} (h:OkP K C B) (hB:B<=1000) (hK:K.length<=100000) {ts:Int} (ht:1<=ts/\ts<=1099511627776) {w:Ae} (hw:wOk w=true) (hk:kOk w.Key=true)
  (hlast:∀ c,At K C w.Key c->Ku c.L<ts) :
  ∃ K' C',Nq K C ts w=some (ts,K',C')/\PW K'/\C'.length=K'.length/\(∀ k∈K',kOk k=true)/\K'.length<=K.length+1/\(∃ c,At K' C' w.Key c) /\
   (∀ c,At K' C' w.Key c->A4d K C ts w c)/\(∀ k c,k≠w.Key->(At K' C' k c↔At K C k c)):=by
 have hcl:=h.cl
 have hv:=Aon ht.1 ht.2 hw
 unfold Nq
 rw[A26 K w.Key omg,zA]
 cases hh:hit K w.Key with
 | true =>
  rw[if_neg (λh=>Bool.noConfusion h)]
  obtain⟨c0,hat,hget⟩:=At.of_hit hcl hh
  obtain⟨hc1,hc2⟩:=h.cs c0 (zD hget)
  have hlt:kat K w.Key<C.length:=(zB.1 hget).1
  refine⟨K,C.set (kat K w.Key) ⟨c0.L++[ver ts w]⟩,?_,h.pw,by rw[xA];exact hcl,h.ks,by omega,⟨_,_,Acl hh,zN hlt⟩,?_,?_⟩
  ·unfold Ea
   dsimp only
   rw[Ak,hget,zA,Ao7 (c:=c0) omg hc1 hv (hlast c0 hat),zA,ifp rfl,zA,z6]
  ·rintro c ⟨i,h1,h2⟩
   have:=Ahn h.pw h1 (Acl hh)
   subst this
   rw[zN hlt] at h2
   cases h2
   exact .inl ⟨c0,hat,rfl⟩
  ·intro k c hne
   constructor
   ·rintro⟨i,h1,h2⟩
    refine⟨i,h1,?_⟩
    rw[zS] at h2
    ·exact h2
    ·intro e;subst e;rw[Acl hh] at h1;exact hne (zF h1).symm
   ·rintro⟨i,h1,h2⟩
    refine⟨i,h1,?_⟩
    rw[zS]
    ·exact h2
    ·intro e;subst e;rw[Acl hh] at h1;exact hne (zF h1).symm
 | false =>
  have hnot:¬ ∃ c0,At K C w.Key c0:=λ⟨c0,hc0⟩=>by rw[(At.hit h.pw hc0).1] at hh;cases hh
  have hle:=Afu K w.Key
  have hK':ins K w.Key=K.take (kat K w.Key)++w.Key::K.drop (kat K w.Key):=by unfold ins;rw[hh];rfl
  rw[if_pos (show(!((kat K w.Key:Int),false).2)=true from rfl)]
  show ∃ K' C',((Auz 24 K ((kat K w.Key:Nat):Int) [w.Key]).bind λv6=>(Auz 24 C ((kat K w.Key:Nat):Int) [(Ab.mk ([]:List Ai))]).bind λv7=>Ea w ((kat K w.Key:Int),false) (v6,v7,ts))=_/\_
  rw[Am7 hle omg,zA,Am7 omg omg,zA]
  have hgK:=Avz (xs:=K) (x:=w.Key) hle
  have hgC:=Avz (xs:=C) (x:=(Ab.mk ([]:List Ai))) (p:=kat K w.Key) omg
  have hlen:(C.take (kat K w.Key)++(Ab.mk ([]:List Ai))::C.drop (kat K w.Key)).length=C.length+1:=by
   rw[zI,yZ,zR,yF];omega
  have hlenK:(K.take (kat K w.Key)++w.Key::K.drop (kat K w.Key)).length=K.length+1:=by
   rw[zI,yZ,zR,yF];omega
  have hpl:kat K w.Key<(C.take (kat K w.Key)++(Ab.mk ([]:List Ai))::C.drop (kat K w.Key)).length:=by rw[hlen];omega
  have hgp:(C.take (kat K w.Key)++(Ab.mk ([]:List Ai))::C.drop (kat K w.Key))[kat K w.Key]? = some (Ab.mk ([]:List Ai)):=by
   rw[hgC,if_neg (wF _),if_pos rfl]
  have hgkp:(K.take (kat K w.Key)++w.Key::K.drop (kat K w.Key))[kat K w.Key]? = some w.Key:=by
   rw[hgK,if_neg (wF _),if_pos rfl]
  have hpw':PW (K.take (kat K w.Key)++w.Key::K.drop (kat K w.Key)):=by rw[<- hK'];exact Auq h.pw
  refine⟨_,(C.take (kat K w.Key)++(Ab.mk ([]:List Ai))::C.drop (kat K w.Key)).set (kat K w.Key) ⟨[]++[ver ts w]⟩,?_,hpw',by rw[xA,hlen,hlenK];omega,λk hkm=>?_,by rw[hlenK];exact zT _,
   ⟨_,_,hgkp,zN hpl⟩,?_,?_⟩
  ·unfold Ea
   dsimp only
   rw[Ak,hgp,zA,Ao7 (c:=⟨[]⟩) (zU _) Aiz hv (by show(0:Int)<ts;omega),zA,ifp rfl,zA,z6]
  ·rw[<- hK'] at hkm
   rcases Am6.1 hkm with rfl|hm
   ·exact hk
   ·exact h.ks k hm
  ·rintro c ⟨i,h1,h2⟩
   have:=Ahn hpw' h1 hgkp
   subst this
   rw[zN hpl] at h2
   cases h2
   exact .inr ⟨hnot,rfl⟩
  ·intro k c hne
   have hK2:∀ i,(K.take (kat K w.Key)++w.Key::K.drop (kat K w.Key))[i]? = some k->i≠kat K w.Key:=λi hi e=>by
    subst e;rw[hgkp] at hi;exact hne (zF hi).symm
   constructor
   ·rintro⟨i,h1,h2⟩
    have hip:=hK2 i h1
    rw[zS (λe=>hip e.symm),hgC] at h2
    rw[hgK] at h1
    split at h1
    ·next hlt=>rw[if_pos hlt] at h2;exact⟨i,h1,h2⟩
    ·next hlt =>
     rw[if_neg hlt,if_neg hip] at h2
     exact⟨i-1,h1,h2⟩
   ·rintro⟨i,h1,h2⟩
    rcases zQ i (kat K w.Key) with hlt|hge
    ·refine⟨i,?_,?_⟩
     ·rw[hgK,if_pos hlt];exact h1
     ·rw[zS omg,hgC,if_pos hlt];exact h2
    ·refine⟨i+1,?_,?_⟩
     ·rw[hgK,if_neg omg,if_neg omg];exact h1
     ·rw[zS omg,hgC,if_neg omg,if_neg omg];exact h2
theorem At.mem {K:Keys} {C:List Ab} (hl:C.length=K.length) {c:Ab} (hc:c∈C):∃ k,At K C k c:=by
 obtain⟨i,hi⟩:=xH.1 hc
 have hlt:=(zB.1 hi).1
 exact⟨K[i]'omg,i,zC omg,hi⟩
theorem Amu (l:List Ai) (v:Ai):Ku (l++[v])=v.Ts:=by
 unfold Ku
 rw[zI,yD,jX,zX (zT _),kZ]
 rfl
theorem A4d.ok {K:Keys} {C:List Ab} {B:Nat} (h:∀ c∈C,OkC c.L/\c.L.length<=B) {ts:Int} (ht:1<=ts/\ts<=1099511627776) {w:Ae} (hw:wOk w=true) (hlast:∀ c,At K C w.Key c->Ku c.L<ts) {c:Ab} (g:A4d K C ts w c) :
  OkC c.L/\c.L.length<=B+1/\c.L≠[]/\Ku c.L=ts:=by
 have hv:=Aon ht.1 ht.2 hw
 rcases g with⟨c0,hat,e⟩|⟨_,e⟩
 ·obtain⟨i,_,hi⟩:=hat
  obtain⟨h1,h2⟩:=h c0 (zD hi)
  rw[e]
  exact⟨Aic h1 hv (hlast c0 ⟨i,‹_›,hi⟩),by rw[zI,yD];omega,by simp,Amu _ _⟩
 ·rw[e]
  have:=Aic Aiz hv (by show(0:Int)<ts;omega)
  exact⟨this,by show 1<=B+1;omega,by simp,Amu [] _⟩
structure Laid (K:Keys) (C:List Ab) (ts:Int) (l:List Ae) (K':Keys) (C':List Ab):Prop where
 pw:PW K'
 cl:C'.length=K'.length
 ks:∀ k∈K',kOk k=true
 len:K'.length<=K.length+l.length
 is:∀ w∈l,∃ c,At K' C' w.Key c
 new:∀ w∈l,∀ c,At K' C' w.Key c->A4d K C ts w c
 old:∀ k c,(∀ w∈l,w.Key≠k)->(At K' C' k c↔At K C k c)
theorem A0w {K:Keys} {C:List Ab} {T:Int} {B:Nat} (h:OkS K C T B) (hB:B<1000) (hK:K.length<=128) {ts:Int} (ht:T<ts/\ts<=1099511627776) (l:List Ae) (hl:l.length<=1000)
  (hw:∀ w∈l,wOk w=true) (hk:∀ w∈l,kOk w.Key=true) (hp:PW (l.map (·.Key))) :
  ∃ K' C',Be (D2 l) fuel (0,K,C,ts)=some (K',C',ts)/\Laid K C ts l K' C':=by
 have h0:=h.t0
 have hlast0:∀ k c,At K C k c->Ku c.L<ts:=λk c ⟨i,_,hi⟩=>by
  have:=(h.cs c (zD hi)).2.2.1
  omega
 have hcs0:∀ c∈C,OkC c.L/\c.L.length<=B:=λc hc=>⟨(h.cs c hc).2.1,(h.cs c hc).2.2.2⟩
 obtain⟨v,hv,hr⟩:=Bo (f:=D2 l) (P:=λs=>∃ i:Nat,i<=l.length/\s.1=(i:Int)/\s.2.2.2=ts/\Laid K C ts (l.take i) s.2.1 s.2.2.1) (μ:=λs=>l.length-s.1.toNat)
  (R:=λv=>v.2.2=ts/\Laid K C ts l v.1 v.2.1) (by
   rintro⟨_,K1,C1,t1⟩ ⟨i,hi,rfl,ht1,hL⟩
   have ht1:t1=ts:=ht1
   have hL:Laid K C ts (l.take i) K1 C1:=hL
   unfold D2
   dsimp only
   rw[ht1]
   rcases zQ i l.length with hlt|hge
   ·have hx:=zC hlt
    have hxm:=yW hlt
    rw[ifo,Ak,hx,zA]
    have hfresh:∀ w∈l.take i,w.Key≠l[i].Key:=λw hm e=>by
     obtain⟨j,hj⟩:=xH.1 hm
     rw[yR] at hj
     split at hj
     ·next hji =>
      have h1:(l.map (·.Key))[j]? = some w.Key:=by rw[zK,hj];rfl
      have h2:(l.map (·.Key))[i]? = some l[i].Key:=by rw[zK,hx];rfl
      have:=Ahn hp h1 (by rw[e];exact h2)
      omega
     ·cases hj
    have hOk1:∀ c∈C1,OkC c.L/\c.L.length<=B+1:=λc hc=>by
     obtain⟨k,hat⟩:=At.mem hL.cl hc
     by_cases hex:∃ w∈l.take i,w.Key=k
     ·obtain⟨w,hwm,rfl⟩:=hex
      have:=A4d.ok hcs0 ⟨by omega,ht.2⟩ (hw w (List.mem_of_mem_take hwm)) (hlast0 _) (hL.new w hwm c hat)
      exact⟨this.1,this.2.1⟩
     ·have:=(hL.old k c (λw hwm e=>hex ⟨w,hwm,e⟩)).1 hat
      obtain⟨j,_,hj⟩:=this
      have:=hcs0 c (zD hj)
      exact⟨this.1,by omega⟩
    have hat1:∀ c,At K1 C1 l[i].Key c↔At K C l[i].Key c:=λc=>hL.old _ c hfresh
    obtain⟨K2,C2,e2,p2,c2,k2,n2,is2,new2,old2⟩:=Ban (B:=B+1) ⟨hL.cl,hL.ks,hL.pw,hOk1⟩ omg (by have:=hL.len;rw[zR] at this;omega) (ts:=ts) ⟨by omega,ht.2⟩ (hw _ hxm) (hk _ hxm) (λc hc=>hlast0 _ c ((hat1 c).1 hc))
    rw[e2,zA]
    dsimp only
    refine .inl ⟨_,rfl,⟨i+1,hlt,by dsimp only;rw[wIo];rfl,rfl,⟨p2,c2,k2,?_,?_,?_,?_⟩⟩,by dsimp only;rw[wIo];omega⟩
    ·have:=hL.len
     rw[zR] at this ⊢
     show K2.length<=_
     omega
    ·intro w hwm
     rw[zO hlt] at hwm
     rcases yG.1 hwm with hwm|hwm
     ·obtain⟨c,hc⟩:=hL.is w hwm
      exact⟨c,(old2 _ c (hfresh w hwm)).2 hc⟩
     ·rw[z8.1 hwm];exact is2
    ·intro w hwm c hc
     rw[zO hlt] at hwm
     rcases yG.1 hwm with hwm|hwm
     ·exact hL.new w hwm c ((old2 _ c (hfresh w hwm)).1 hc)
     ·rw[z8.1 hwm] at hc ⊢
      rcases new2 c hc with⟨c0,hc0,e⟩|⟨hn,e⟩
      ·exact .inl ⟨c0,(hat1 c0).1 hc0,e⟩
      ·exact .inr ⟨λ⟨c0,hc0⟩=>hn ⟨c0,(hat1 c0).2 hc0⟩,e⟩
    ·intro k c hne
     have h1:k≠l[i].Key:=λe=>hne l[i] (by rw[zO hlt];exact w4 _ (z8.2 rfl)) e.symm
     have h2:∀ w∈l.take i,w.Key≠k:=λw hwm=>hne w (by rw[zO hlt];exact wM _ hwm)
     exact(old2 k c h1).trans (hL.old k c h2)
   ·have e:i=l.length:=by omega
    subst e
    rw[yM] at hL
    rw[ifq]
    exact .inr ⟨_,rfl,rfl,hL⟩) fuel (0,K,C,ts) ⟨0,zU _,rfl,rfl,⟨h.pw,h.cl,h.ks,by simp,λw hw=>by simp at hw,λw hw=>by simp at hw,λk c _=>Iff.rfl⟩⟩ (Bb (by show l.length-0<=_;omega))
 obtain⟨K',C',T'⟩:=v
 obtain⟨rfl,hr⟩:=hr
 exact⟨K',C',hv,hr⟩
abbrev zstore:Ao:=Ao.mk ([]:List (List UInt8)) ([]:List Ab) 0
theorem install_m {K:Keys} {C:List Ab} {T:Int} {B:Nat} (h:OkS K C T B) (hB:B<1000) (hK:K.length<=128) (ts:Int) (l:List Ae) (hl:l.length<=1000) :
  (∃ e,(e=1\/(e=7/\¬ (T<ts/\ts<=1099511627776))\/e=8)/\B5 ⟨K,C,T⟩ ts l=some (zstore,e)) \/
  ∃ K' C',B5 ⟨K,C,T⟩ ts l=some (⟨K',C',ts⟩,0)/\(T<ts/\ts<=1099511627776)/\(∀ w∈l,wOk w=true)/\PW (l.map (·.Key))/\K'.length<=128/\Laid K C ts l K' C'/\OkS K' C' ts (B+1):=by
 unfold B5
 show(∃ e,_/\(Ca ⟨K,C,T⟩).bind _=_)\/∃ K' C',(Ca ⟨K,C,T⟩).bind _=_/\_
 rw[ssane_m h omg hK,zA,if_neg dcd]
 obtain⟨b,hb,hb2⟩:=Akc l omg
 rw[hb,zA]
 cases b with
 | false=>exact .inl ⟨1,.inl rfl,rfl⟩
 | true =>
 obtain⟨hw,hk,hp⟩:=hb2 rfl
 rw[if_neg dcd]
 unfold F5
 dsimp only
 by_cases h1:ts<=T
 ·rw[ifp h1];exact .inl ⟨7,.inr (.inl ⟨rfl,by omega⟩),rfl⟩
 rw[ifn h1]
 by_cases h2:1099511627776<ts
 ·rw[ifp h2];exact .inl ⟨7,.inr (.inl ⟨rfl,by omega⟩),rfl⟩
 rw[ifn h2]
 unfold F2
 have hcl:=h.cl
 have e1:C8 K=some K:=by
  unfold C8
  rw[if_pos (by simp only[jG];omega)];rfl
 have e2:C6 C=some C:=by
  unfold C6
  rw[if_pos (by simp only[jG];omega)];rfl
 dsimp only
 rw[e1,zA,e2,zA]
 obtain⟨K',C',e3,hL⟩:=A0w h hB hK (ts:=ts) ⟨by omega,by omega⟩ l hl hw hk hp
 rw[e3,zA]
 unfold Gl
 dsimp only
 by_cases h8:128<(K'.length:Int)
 ·rw[ifp h8];exact .inl ⟨8,.inr (.inr rfl),rfl⟩
 rw[ifn h8]
 refine .inr ⟨K',C',rfl,⟨by omega,by omega⟩,hw,hp,by omega,hL,⟨by have:=h.t0;omega,by omega,hL.cl,hL.ks,hL.pw,λc hc=>?_⟩⟩
 obtain⟨k,hat⟩:=At.mem hL.cl hc
 by_cases hex:∃ w∈l,w.Key=k
 ·obtain⟨w,hwm,rfl⟩:=hex
  have hh:=A4d.ok (B:=B) (λc hc=>⟨(h.cs c hc).2.1,(h.cs c hc).2.2.2⟩) ⟨by have:=h.t0;omega,by omega⟩ (hw w hwm) (λc ⟨i,_,hi⟩=>by have:=(h.cs c (zD hi)).2.2.1;omega) (hL.new w hwm c hat)
  exact⟨hh.2.2.1,hh.1,Int.le_of_eq hh.2.2.2,hh.2.1⟩
 ·obtain⟨i,_,hi⟩:=(hL.old k c (λw hwm e=>hex ⟨w,hwm,e⟩)).1 hat
  have:=h.cs c (zD hi)
  exact⟨this.1,this.2.1,by omega,by omega⟩
theorem OkS.mono {K:Keys} {C:List Ab} {T:Int} {B B':Nat} (h:OkS K C T B) (hb:B<=B'):OkS K C T B' :=
 ⟨h.t0,h.t1,h.cl,h.ks,h.pw,λc hc=>⟨(h.cs c hc).1,(h.cs c hc).2.1,(h.cs c hc).2.2.1,yU (h.cs c hc).2.2.2 hb⟩⟩
def Azs (l:List Ai) (t:Int):List UInt8×Bool:=match pc l t with
 | 0=>([],false)
 | n+1=>match l[n]? with
  | some v=>if v.Del then([],false) else(v.Val,true)
  | none=>([],false)
theorem Aey {c:Ab} (h:c.L.length<=1000) (t:Int):Cv c t=some (Azs c.L t):=by
 have hle:=Bad c.L t
 unfold Azs
 cases hp:pc c.L t with
 | zero =>
  rw[Aot (at0 h hp)]
  rfl
 | succ n =>
  have hx:c.L[n]? = some (c.L[n]'omg):=zC omg
  rw[Aot (at1 (t:=t) h omg (by rw[hp];exact hx))]
  dsimp only
  rw[hx]
  dsimp only
  cases (c.L[n]'omg).Del <;> rfl
theorem get_m {K:Keys} {C:List Ab} {T:Int} {B:Nat} (h:OkS K C T B) (hB:B<=1000) (hK:K.length<=128) (k:List UInt8) (t:Int) :
  (∃ c,At K C k c/\Ii ⟨K,C,T⟩ k t=some (Azs c.L t))\/((¬ ∃ c,At K C k c)/\Ii ⟨K,C,T⟩ k t=some ([],false)):=by
 unfold Ii
 dsimp only
 rw[Akt K k omg,zA]
 cases hh:hit K k with
 | false =>
  refine .inr ⟨λ⟨c0,hc0⟩=>(by rw[(At.hit h.pw hc0).1] at hh;cases hh),?_⟩
  rfl
 | true =>
  obtain⟨c0,hat,hget⟩:=At.of_hit h.cl hh
  refine .inl ⟨c0,hat,?_⟩
  rw[if_neg (λh=>Bool.noConfusion h)]
  show(Ca ⟨K,C,T⟩).bind _=_
  rw[ssane_m h hB hK,zA,if_neg dcd]
  unfold Vi
  dsimp only
  rw[Ak,hget,zA,Aey (c:=c0) (by have:=(h.cs c0 (zD hget)).2.2.2;omega),zA]
def ent (r:Aj) (t:Int) (p:List UInt8×Ab):List As:=if Pu r p.1&&(Azs p.2.L t).2 then[⟨p.1,(Azs p.2.L t).1⟩] else[]
def ents (r:Aj) (t:Int) (K:Keys) (C:List Ab):List As:=(K.zip C).flatMap (ent r t)
theorem Anu (r:Aj) (t:Int) (p:List UInt8×Ab):(ent r t p).length<=1:=by
 unfold ent;split <;> simp
theorem Abv {α β:Type} (f:α->List β) (hf:∀ x,(f x).length<=1):∀ l:List α,(l.flatMap f).length<=l.length
 | []=>zT _
 | x::l=>by
  have:=hf x
  have:=Abv f hf l
  rw[yY,zI,yZ];omega
theorem Anf {α β:Type} {K:List α} {C:List β} {i:Nat} {k:α} {c:β} (hk:K[i]? = some k) (hc:C[i]? = some c):(K.zip C)[i]? = some (k,c):=by
 rw[List.getElem?_zip_eq_some]
 exact⟨hk,hc⟩
theorem All {α β:Type} {f:α->List β} {l:List α} {i:Nat} {x:α} (h:l[i]? = some x):(l.take (i+1)).flatMap f=(l.take i).flatMap f++f x:=by
 obtain⟨hlt,rfl⟩:=zB.1 h
 rw[zO hlt,kW,List.flatMap_singleton]
theorem Axo {α β:Type} (f:α->List β) (l:List α) (i:Nat):∃ rest,l.flatMap f=(l.take i).flatMap f++rest :=
 ⟨(l.drop i).flatMap f,by rw[<- kW,xP]⟩
theorem scan_m {K:Keys} {C:List Ab} {T:Int} {B:Nat} (h:OkS K C T B) (hB:B<=1000) (hK:K.length<=128) (r:Aj) (t most:Int) :
  E1 ⟨K,C,T⟩ r t most=some ((ents r t K C).take most.toNat):=by
 have hcl:=h.cl
 have hzl:(K.zip C).length=K.length:=by rw[jU];omega
 unfold E1
 rw[ssane_m h hB hK,zA,if_neg dcd]
 obtain⟨v,hv,hr⟩:=Bo (f:=N7 ⟨K,C,T⟩ r t most) (P:=λs=>∃ i:Nat,i<=K.length/\s=((i:Int),((((K.zip C).take i).flatMap (ent r t)).take most.toNat))) (μ:=λs=>K.length-s.1.toNat)
  (R:=λv=>v=(ents r t K C).take most.toNat) (by
   rintro _ ⟨i,hi,rfl⟩
   unfold N7
   dsimp only
   rcases zQ i K.length with hlt|hge
   ·have hx:=zC hlt
    have hc:C[i]? = some (C[i]'omg):=zC omg
    have hst:=All (f:=ent r t) (Anf hx hc)
    have hlen:(((K.zip C).take i).flatMap (ent r t)).length<=128:=by
     refine yU (Abv _ (Anu r t) _) ?_
     rw[zR];omega
    rw[ifo,Ak,hx,zA]
    by_cases hm:most<=(((((K.zip C).take i).flatMap (ent r t)).take most.toNat).length:Int)
    ·rw[ifp hm]
     refine .inr ⟨_,rfl,?_⟩
     rw[zR] at hm
     obtain⟨rest,e⟩:=Axo (ent r t) (K.zip C) i
     unfold ents
     rw[e,xG omg]
    ·rw[ifn hm]
     rw[zR] at hm
     have hid:(((K.zip C).take i).flatMap (ent r t)).take most.toNat=((K.zip C).take i).flatMap (ent r t):=yJ omg
     have hnext:∀ x,ent r t (K[i],C[i]'omg)=x->x.length<=1->(((K.zip C).take (i+1)).flatMap (ent r t)).take most.toNat=((K.zip C).take i).flatMap (ent r t)++x:=λx hx1 hx2=>by
      rw[hst,hx1,yJ (by rw[zI];omega)]
     rw[Auk,zA,hid]
     left
     cases hh:Pu r K[i] with
     | false =>
      rw[if_pos (show(!false)=true from rfl)]
      refine⟨_,rfl,⟨i+1,hlt,?_⟩,by simp only[Zc (show -9223372036854775808<=(i:Int)+1 by omega) omg];omega⟩
      rw[wIo,hnext [] (by unfold ent;dsimp only;rw[hh];rfl) dcd,List.append_nil];rfl
     | true =>
      rw[if_neg dcd,Ak,hc,zA,Aey (c:=C[i]'omg) (by have:=(h.cs _ (yW (show i<C.length by omega))).2.2.2;omega),zA]
      cases hv:(Azs (C[i]'omg).L t).2 with
      | false =>
       rw[if_neg dcd]
       refine⟨_,rfl,⟨i+1,hlt,?_⟩,by simp only[Zc (show -9223372036854775808<=(i:Int)+1 by omega) omg];omega⟩
       rw[wIo,hnext [] (by unfold ent;dsimp only;rw[hh,hv];rfl) dcd,List.append_nil];rfl
      | true =>
       rw[if_pos rfl,if_pos (by rw[yD];omega)]
       refine⟨_,rfl,⟨i+1,hlt,?_⟩,by simp only[Zc (show -9223372036854775808<=(i:Int)+1 by omega) omg];omega⟩
       rw[wIo,hnext [⟨K[i],(Azs (C[i]'omg).L t).1⟩] (by unfold ent;dsimp only;rw[hh,hv];rfl) (Nat.le_refl _)];rfl
   ·have e:i=K.length:=by omega
    subst e
    rw[ifq]
    refine .inr ⟨_,rfl,?_⟩
    unfold ents
    rw[<- hzl,yM]) fuel (0,[]) ⟨0,zU _,by simp⟩ (Bb (by show K.length-0<=_;omega))
 rw[hv,zA,hr]
 rfl
theorem ents_len (r:Aj) (t:Int) (K:Keys) (C:List Ab):(ents r t K C).length<=K.length:=by
 refine yU (Abv _ (Anu r t) _) ?_
 rw[jU];omega
abbrev KC:=List UInt8×Ab
def Aq5 (o:Int) (p:KC):List KC:=if 0<(p.2.L.drop (gone p.2.L o)).length then[(p.1,⟨p.2.L.drop (gone p.2.L o)⟩)] else[]
def vacP (o:Int) (K:Keys) (C:List Ab):List KC:=(K.zip C).flatMap (Aq5 o)
theorem Aym (o:Int) (p:KC):(Aq5 o p).length<=1:=by
 unfold Aq5;split <;> simp
theorem vacS_m {K:Keys} {C:List Ab} {T:Int} {B:Nat} (h:OkS K C T B) (hB:B<=1000) (hK:K.length<=128) (o:Int) :
  E5 ⟨K,C,T⟩ o=some ⟨(vacP (if T<o then T else o) K C).map (·.1),(vacP (if T<o then T else o) K C).map (·.2),T⟩:=by
 have hcl:=h.cl
 have hzl:(K.zip C).length=C.length:=by rw[jU];omega
 unfold E5
 rw[ssane_m h hB hK,zA,if_neg dcd]
 obtain⟨v,hv,hr⟩:=Bo (f:=Eh ⟨K,C,T⟩ o) (P:=λs=>∃ i:Nat,i<=C.length/\s=((i:Int),T,(((K.zip C).take i).flatMap (Aq5 (if T<o then T else o))).map (·.1),(((K.zip C).take i).flatMap (Aq5 (if T<o then T else o))).map (·.2))) (μ:=λs=>C.length-s.1.toNat)
  (R:=λv=>v=(T,(vacP (if T<o then T else o) K C).map (·.1),(vacP (if T<o then T else o) K C).map (·.2))) (by
   rintro _ ⟨i,hi,rfl⟩
   unfold Eh
   dsimp only
   generalize (if T<o then T else o)=o'
   rcases zQ i C.length with hlt|hge
   ·left
    have hc:=zC hlt
    have hx:K[i]? = some (K[i]'omg):=zC omg
    have hst:=All (f:=Aq5 o') (Anf hx hc)
    have hlen:(((K.zip C).take i).flatMap (Aq5 o')).length<=128:=by
     refine yU (Abv _ (Aym o') _) ?_
     rw[zR];omega
    obtain⟨h1,h2,h3,h4⟩:=h.cs _ (yW hlt)
    rw[ifo,Ak,hc,zA,A4u omg h2,zA]
    dsimp only
    by_cases hd:0<((C[i].L.drop (gone C[i].L o')).length:Int)
    ·have e:Aq5 o' (K[i]'omg,C[i])=[(K[i]'omg,⟨C[i].L.drop (gone C[i].L o')⟩)]:=if_pos (by dsimp only;omega)
     rw[ifp hd,Ak,hx,zA,if_pos (by rw[zP,yD];omega),if_pos (by rw[zP,yD];omega)]
     refine⟨_,rfl,⟨i+1,hlt,?_⟩,by simp only[Zc (show -9223372036854775808<=(i:Int)+1 by omega) omg];omega⟩
     rw[wIo,hst,e,xJ,xJ];rfl
    ·have e:Aq5 o' (K[i]'omg,C[i])=[]:=if_neg (by dsimp only;omega)
     rw[ifn hd]
     refine⟨_,rfl,⟨i+1,hlt,?_⟩,by simp only[Zc (show -9223372036854775808<=(i:Int)+1 by omega) omg];omega⟩
     rw[wIo,hst,e,xC];rfl
   ·right
    have e:i=C.length:=by omega
    subst e
    rw[ifq]
    refine⟨_,rfl,?_⟩
    unfold vacP
    rw[<- hzl,yM]) fuel (0,T,[],[]) ⟨0,zU _,by simp⟩ (Bb (by show C.length-0<=_;omega))
 rw[hv,zA,hr]
 rfl
theorem As2 {l:List Ai} {n:Nat} (h:n<l.length):Ku (l.drop n)=Ku l:=by
 unfold Ku
 rw[yF,yP,show n+(l.length-n-1)=l.length-1 by omega]
theorem Awu {o:Int} {K:Keys} {C:List Ab} {q:KC} (h:q∈vacP o K C):∃ c,(q.1,c)∈K.zip C/\q.2=⟨c.L.drop (gone c.L o)⟩/\0<(c.L.drop (gone c.L o)).length:=by
 unfold vacP at h
 obtain⟨p,hp,hq⟩:=List.mem_flatMap.1 h
 unfold Aq5 at hq
 split at hq
 ·next hl =>
  rw[z8.1 hq]
  exact⟨p.2,hp,rfl,hl⟩
 ·cases hq
theorem Ana (o:Int):∀ l:List KC,((l.flatMap (Aq5 o)).map (·.1)).Sublist (l.map (·.1))
 | []=>List.Sublist.slnil
 | p::l=>by
  have ih:=Ana o l
  rw[yY]
  unfold Aq5
  split
  ·exact ih.cons_cons _
  ·exact ih.cons _
theorem fst_zip {K:Keys} {C:List Ab} (h:C.length=K.length):(K.zip C).map (·.1)=K:=by
 rw[List.map_fst_zip];omega
theorem vac_ok {K:Keys} {C:List Ab} {T:Int} {B:Nat} (h:OkS K C T B) (o:Int):OkS ((vacP o K C).map (·.1)) ((vacP o K C).map (·.2)) T B:=by
 have hsub:=Ana o (K.zip C)
 rw[fst_zip h.cl] at hsub
 refine⟨h.t0,h.t1,by rw[zP,zP],λk hk=>h.ks k (hsub.subset hk),h.pw.sublist hsub,λc hc=>?_⟩
 obtain⟨q,hq,rfl⟩:=yA.1 hc
 obtain⟨d,hd,e,hl⟩:=Awu hq
 obtain⟨h1,h2,h3,h4⟩:=h.cs d (List.of_mem_zip hd).2
 rw[e]
 refine⟨λe0=>?_,Ay2 h2 _,?_,?_⟩
 ·have e0:d.L.drop (gone d.L o)=[]:=e0
  rw[e0] at hl;exact absurd hl (wF _)
 ·show Ku (d.L.drop (gone d.L o))<=T
  rw[As2 (by rw[yF] at hl;omega)];exact h3
 ·show(d.L.drop (gone d.L o)).length<=B
  rw[yF];omega
theorem vac_len (o:Int) (K:Keys) (C:List Ab):((vacP o K C).map (·.1)).length<=K.length:=by
 have:=(Ana o (K.zip C)).length_le
 rw[zP,zP,jU] at this
 show((((K.zip C).flatMap (Aq5 o)).map (·.1))).length<=_
 rw[zP]
 omega
end st
def TKI (l:List E12) (tok done floor:Int):Prop :=
 (fnd l tok=none/\done=0/\floor = -1)\/∃ x,fnd l tok=some x/\((x.State=1/\done=0/\floor<x.Attempt)\/(x.State=3/\done=0/\floor<=x.Attempt)\/(x.State=2/\done=1))
def Stp (l l':List E12):Prop:=∀ tok done floor,TKI l tok done floor->TKI l' tok done floor
theorem Stp.refl (l:List E12):Stp l l:=λ_ _ _ h=>h
theorem Stp.trans {a b c:List E12} (h:Stp a b) (g:Stp b c):Stp a c:=λt d f x=>g t d f (h t d f x)
theorem A9s {l l':List E12} {tok done floor:Int} (h:fnd l' tok=fnd l tok) (i:TKI l tok done floor):TKI l' tok done floor:=by
 unfold TKI at *
 rw[h];exact i
theorem Ans {l:List E12} (ok:OkT l) (tok att:Int):∃ l' n e,Bp ⟨l⟩ tok att=some (⟨l'⟩,n,e)/\(e=0->OkT l'/\Stp l l'/\(0<n↔∃ x,fnd l tok=some x/\x.State=2)/\(n=0->∀ done floor,TKI l tok done floor->TKI l' tok done (if att > floor then att else floor))):=by
 obtain⟨l',n,e,h1,h2,h3,h4,-,h5⟩:=Aja ok tok att
 refine⟨l',n,e,h1,λhe=>?_⟩
 obtain⟨k1,k2,a0,a1,h⟩:=h2 he
 have hn:0<n↔∃ x,fnd l tok=some x/\x.State=2:=by
  constructor
  ·intro hp
   rcases h5 with h5|h5
   ·omega
   ·exact h5
  ·rintro⟨x,hf,hs⟩
   rcases Int.lt_or_le 0 n with hlt|hle
   ·exact hlt
   ·exact absurd hs (h4 he hle x hf)
 refine⟨k1,λt done floor hi=>?_,hn,λh0 done floor hi=>?_⟩
 ·by_cases ht:t=tok
  ·subst ht
   rcases h with⟨h,-⟩|⟨h,-⟩|⟨-,x,hf,hs,rfl⟩|⟨-,hno,b,hnew,hb⟩
   ·cases h
   ·cases h
   ·exact hi
   ·rcases hi with⟨hf,rfl,rfl⟩|⟨x,hf,hx⟩
    ·rw[hf] at hb
     have hb:b=att:=hb
     exact .inr ⟨_,hnew,.inr (.inl ⟨rfl,rfl,by show(-1:Int)<=b;omega⟩)⟩
    ·rw[hf] at hb
     have hb:b=max x.Attempt att:=hb
     rcases hx with⟨h1,rfl,h3⟩|⟨h1,rfl,h3⟩|⟨h1,-⟩
     ·exact .inr ⟨_,hnew,.inr (.inl ⟨rfl,rfl,by show floor<=b;omega⟩)⟩
     ·exact .inr ⟨_,hnew,.inr (.inl ⟨rfl,rfl,by show floor<=b;omega⟩)⟩
     ·exact absurd h1 (hno x hf)
  ·exact A9s (k2 t ht) hi
 ·rcases h with⟨h,-⟩|⟨h,-⟩|⟨-,x,hf,hs,rfl⟩|⟨-,hno,b,hnew,hb⟩
  ·cases h
  ·cases h
  ·have:=hn.2 ⟨x,hf,hs⟩;omega
  ·have hfl:(if att > floor then att else floor)<=max floor att:=by split <;> omega
   rcases hi with⟨hf,rfl,rfl⟩|⟨x,hf,hx⟩
   ·rw[hf] at hb
    have hb:b=att:=hb
    exact .inr ⟨_,hnew,.inr (.inl ⟨rfl,rfl,by show _<=b;omega⟩)⟩
   ·rw[hf] at hb
    have hb:b=max x.Attempt att:=hb
    rcases hx with⟨h1,rfl,h3⟩|⟨h1,rfl,h3⟩|⟨h1,-⟩
    ·exact .inr ⟨_,hnew,.inr (.inl ⟨rfl,rfl,by show _<=b;omega⟩)⟩
    ·exact .inr ⟨_,hnew,.inr (.inl ⟨rfl,rfl,by show _<=b;omega⟩)⟩
    ·exact absurd h1 (hno x hf)
structure EgI (e:Aa) (n:Nat):Prop where
 st:st.OkS e.Store.Keys e.Store.Chains e.Store.Ts n
 kl:e.Store.Keys.length<=128
 ts:e.Store.Ts<=n
 tk:OkT e.Toks.L
 cert:∃ w:ss.WL11,ss.Inv ss.K10 w/\w.c=e.Cert/\w.now=e.Store.Ts/\(w.begun.length:Int)=e.Next
 op:e.Open.length<=16
 bf:∀ o∈e.Open,bf.Good o.Buf.L
 nx:0<=e.Next/\e.Next<=n
theorem EgI.up {e:Aa} {n m:Nat} (h:EgI e n) (hm:n<=m):EgI e m:=⟨h.st.mono hm,h.kl,by have:=h.ts;omega,h.tk,h.cert,h.op,h.bf,h.nx.1,by have:=h.nx.2;omega⟩
theorem EgI.sc {e:Aa} {n:Nat} (h:EgI e n):ss.SC e.Cert:=by
 obtain⟨w,hi,hc,-⟩:=h.cert
 rw[<- hc];exact hi.sc
theorem A98 (e:Aa) (id:Int) (hl:e.Open.length<=1000):(B0 e id=some (-1))\/∃ (i:Nat) (o:Aq),e.Open[i]? = some o/\o.ID=id/\B0 e id=some (i:Int):=by
 obtain⟨v,hv,hr⟩:=B9 (f:=Ip e id) (P:=λs=>∃ j:Nat,j<=e.Open.length/\s=(j:Int)) (μ:=λs=>e.Open.length-s.toNat)
  (R:=λv=>v=.inr ()\/∃ (i:Nat) (o:Aq),e.Open[i]? = some o/\o.ID=id/\v=.inl (i:Int)) (by
   rintro _ ⟨j,hj,rfl⟩
   unfold Ip
   rcases zQ j e.Open.length with hlt|hge
   ·rw[ifo,Ak,zC hlt,zA]
    by_cases h:e.Open[j].ID=id
    ·rw[ifp h]
     exact .inr (.inr ⟨_,rfl,.inr ⟨j,_,zC hlt,h,rfl⟩⟩)
    ·rw[ifn h,wIo]
     exact .inl ⟨_,rfl,⟨j+1,hlt,rfl⟩,by simp only[z6];omega⟩
   ·rw[ifq]
    exact .inr (.inl ⟨_,rfl,.inl rfl⟩)) fuel 0 ⟨0,zU _,rfl⟩ (Bb (by show e.Open.length-0<=_;omega))
 unfold B0
 rw[hv]
 rcases hr with rfl|⟨i,o,ho,hid,rfl⟩
 ·exact .inl rfl
 ·exact .inr ⟨i,o,ho,hid,rfl⟩
theorem Uv (e:Aa) (id:Int) (hl:e.Open.length<=1000):E9 e id=some { e with Open:=e.Open.filter λo=>!decide (o.ID=id) }:=by
 unfold E9
 obtain⟨v,hv,hr⟩:=Bo (f:=Gd e id) (P:=λs=>∃ j:Nat,j<=e.Open.length/\s=((j:Int),(e.Open.take j).filter λo=>!decide (o.ID=id))) (μ:=λs=>e.Open.length-s.1.toNat)
  (R:=λv=>v=e.Open.filter λo=>!decide (o.ID=id)) (by
   rintro _ ⟨j,hj,rfl⟩
   unfold Gd
   dsimp only
   rcases zQ j e.Open.length with hlt|hge
   ·left
    have hfl:((e.Open.take j).filter λo=>!decide (o.ID=id)).length<=j:=yU (xK _ _) (by rw[zR];omega)
    rw[ifo,Ak,zC hlt,zA,wIo]
    have htk:(e.Open.take (j+1)).filter (λo=>!decide (o.ID=id))=(e.Open.take j).filter (λo=>!decide (o.ID=id))++[e.Open[j]].filter (λo=>!decide (o.ID=id)):=by rw[zO hlt,jZ]
    by_cases h:e.Open[j].ID=id
    ·rw[if_neg (by rw[decide_eq_true h];decide)]
     refine⟨_,rfl,⟨j+1,hlt,?_⟩,by dsimp only;omega⟩
     rw[htk,kK,if_neg (by rw[decide_eq_true h];decide),List.filter_nil,xC];rfl
    ·rw[if_pos (by rw[decide_eq_false h];rfl),if_pos (by rw[yD];omega)]
     refine⟨_,rfl,⟨j+1,hlt,?_⟩,by dsimp only;omega⟩
     rw[htk,kK,if_pos (by rw[decide_eq_false h];rfl),List.filter_nil];rfl
   ·right
    have e1:j=e.Open.length:=by omega
    subst e1
    rw[ifq,yM]
    exact⟨_,rfl,rfl⟩) fuel (0,[]) ⟨0,zU _,rfl⟩ (Bb (by show e.Open.length-0<=_;omega))
 rw[hv,zA,hr];rfl
def CI (c:Af) (now next:Int):Prop:=∃ w:ss.WL11,ss.Inv ss.K10 w/\w.c=c/\w.now=now/\(w.begun.length:Int)=next
theorem CI.sc {c:Af} {now next:Int} (h:CI c now next):ss.SC c:=by
 obtain⟨w,hi,rfl,-⟩:=h
 exact hi.sc
theorem Awx {c:Af} {now next:Int} (h:CI c now next) (id:Int):∃ c',Cb c id=some c'/\CI c' now next:=by
 obtain⟨w,hi,rfl,h2,h3⟩:=h
 obtain⟨c',e,hi',-⟩:=ss.inv_abort hi id
 exact⟨c',e,_,hi',rfl,h2,h3⟩
theorem Aox {c:Af} {now next:Int} (h:CI c now next):∃ c',Gp c=some c'/\CI c' now next:=by
 obtain⟨w,hi,rfl,h2,h3⟩:=h
 obtain⟨c',e,hi',-⟩:=ss.inv_clean hi
 exact⟨c',e,_,hi',rfl,h2,h3⟩
theorem Ayv {c:Af} {now next:Int} (h:CI c now next) (hn:now<=ss.maxTs) (ro:Bool):∃ c' e,Es c next now ro=some (c',e)/\(e=0->CI c' now (next+1)):=by
 obtain⟨w,hi,rfl,rfl,rfl⟩:=h
 rcases ss.begin_m hi.sc (w.begun.length:Int) w.now ro (xZ _) hi.now0 hn with⟨-,e⟩|⟨-,⟨-,e⟩|⟨hl,e⟩⟩
 ·exact⟨_,_,e,λh=>by cases h⟩
 ·exact⟨_,_,e,λh=>by cases h⟩
 ·refine⟨_,_,e,λ_=>⟨_,ss.inv_begin hi ro hn hl,rfl,rfl,?_⟩⟩
  show((w.begun++[w.now]).length:Int)=_
  rw[zI,yD];rfl
theorem A16 {c:Af} {now next:Int} (h:CI c now next) (id:Int) (r:Aj):∃ c' e,Cd c id r=some (c',e)/\(e=0->CI c' now next):=by
 obtain⟨w,hi,rfl,h2,h3⟩:=h
 rcases ss.read_m hi.sc id r with⟨-,e⟩|⟨a,ha,e1,h1,⟨x,hx,e⟩|⟨-,e⟩|⟨rs,hg,r1,r2,r3,r4,r5,e⟩⟩
 ·exact⟨_,_,e,λh=>by cases h⟩
 ·exact⟨_,_,e,λh=>by rcases hx with hx|⟨hx,-⟩ <;> omega⟩
 ·exact⟨_,_,e,λh=>by cases h⟩
 ·exact⟨_,_,e,λ_=>⟨_,ss.inv_read hi ha h1 r rs hg r1 r2 r3 r5,rfl,h2,h3⟩⟩
theorem Akl {c:Af} {now next:Int} (h:CI c now next) (id:Int) (K:List (List UInt8)) (hK:K.length<=16):∃ c' e,B2 c id (now+1) K=some (c',e)/\(e=0->CI c' (now+1) next):=by
 obtain⟨w,hi,rfl,rfl,h3⟩:=h
 rcases ss.commit_m hi.sc id (w.now+1) K hK with⟨-,e⟩|⟨a,ha,e1,h1,⟨-,e⟩|⟨hm,⟨-,e⟩|⟨hcf,⟨-,e⟩|⟨hno,hpv,e⟩⟩⟩⟩
 ·exact⟨_,_,e,λh=>by cases h⟩
 ·exact⟨_,_,e,λh=>by cases h⟩
 ·exact⟨_,_,e,λh=>by cases h⟩
 ·exact⟨_,_,e,λh=>by cases h⟩
 ·exact⟨_,_,e,λ_=>⟨_,ss.inv_done hi ha h1 K ⟨hm.1,hm.2.1⟩ ⟨hm.2.2.1,hK⟩ hm.2.2.2.1 hcf hno hpv ⟨a.ID,a.Begin,w.now+1,0,false,false,false,K⟩ ⟨rfl,rfl,rfl,rfl⟩,rfl,rfl,h3⟩⟩
theorem Apk {e:Aa} {n:Nat} (h:EgI e n) (o:Aq):∃ e',A5 e o=some e'/\EgI e' n/\Stp e.Toks.L e'.Toks.L/\e'.Next=e.Next:=by
 have hop:=h.op
 unfold A5
 rw[Uv e o.ID omg,zA]
 obtain⟨c',hc,hci⟩:=Awx h.cert o.ID
 obtain⟨l',m,er,hf,hf2⟩:=Ans h.tk o.Token o.Attempt
 have hc':Cb (Aa.mk e.Store e.Cert e.Toks (e.Open.filter λx=>!decide (x.ID=o.ID)) e.Next).Cert o.ID=some c':=hc
 have hfl:(e.Open.filter λx=>!decide (x.ID=o.ID)).length<=16:=yU (xK _ _) hop
 have hbf:∀ x∈(e.Open.filter λx=>!decide (x.ID=o.ID)),bf.Good x.Buf.L:=λx hx=>h.bf x (yO.1 hx).1
 rw[hc,zA]
 show ∃ e',(Bp e.Toks o.Token o.Attempt).bind _=some e'/\_
 rw[show Bp e.Toks o.Token o.Attempt=some (⟨l'⟩,m,er) from hf,zA]
 by_cases he:er=0
 ·rw[ifp he]
  obtain⟨k1,k2,-⟩:=hf2 he
  exact⟨_,rfl,⟨h.st,h.kl,h.ts,k1,hci,hfl,hbf,h.nx⟩,k2,rfl⟩
 ·rw[ifn he]
  exact⟨_,rfl,⟨h.st,h.kl,h.ts,h.tk,hci,hfl,hbf,h.nx⟩,Stp.refl _,rfl⟩
theorem A63 (b:Au) (k:List UInt8) (hl:b.L.length<=1000):∃ r,Gq b k=some r:=by
 unfold Gq
 obtain⟨v,hv,-⟩:=B9 (f:=Hp b k) (P:=λs=>∃ j:Nat,j<=b.L.length/\s=(j:Int)) (μ:=λs=>b.L.length-s.toNat) (R:=λ_=>True) (by
  rintro _ ⟨j,hj,rfl⟩
  unfold Hp Cw
  rcases zQ j b.L.length with hlt|hge
  ·rw[ifo,Ak,zC hlt,zA,zA,wIo]
   split
   ·exact .inr (.inr ⟨_,rfl,trivial⟩)
   ·exact .inl ⟨_,rfl,⟨j+1,hlt,rfl⟩,by simp only[z6];omega⟩
  ·rw[ifq]
   exact .inr (.inl ⟨_,rfl,trivial⟩)) fuel 0 ⟨0,zU _,rfl⟩ (Bb (by show b.L.length-0<=_;omega))
 rw[hv]
 cases v with
 | inl r=>exact⟨_,rfl⟩
 | inr u=>exact⟨_,rfl⟩
theorem A2s (l:List As) (hl:l.length<=1000000):∃ v,Dq l=some v/\(v=true->Gh kvk l):=by
 unfold Dq
 obtain⟨v,hv,hr⟩:=Bo (f:=Ei l) (P:=λs=>∃ j:Nat,j<=l.length/\s=((j:Int),(l.take j).map kvk)) (μ:=λs=>l.length-s.1.toNat) (R:=λv=>v=l.map kvk) (by
  rintro _ ⟨j,hj,rfl⟩
  unfold Ei
  dsimp only
  rcases zQ j l.length with hlt|hge
  ·left
   rw[ifo,Ak,zC hlt,zA,if_pos (by rw[zP,zR,yD];omega),wIo]
   refine⟨_,rfl,⟨j+1,hlt,?_⟩,by dsimp only;omega⟩
   rw[zO hlt,xJ];rfl
  ·right
   have e:j=l.length:=by omega
   subst e
   rw[ifq]
   exact⟨_,rfl,by rw[yM]⟩) fuel (0,[]) ⟨0,zU _,by simp⟩ (Bb (by show l.length-0<=_;omega))
 rw[hv,hr]
 show ∃ v,Em _=some v/\_
 unfold Em
 have hn:(l.map kvk).length<=1000000000000000000:=by rw[zP];omega
 obtain⟨b,hb⟩:=bf.sorted_some (l.map kvk) hn
 rw[hb]
 refine⟨b,rfl,λh=>?_⟩
 rw[h] at hb
 exact wH.1 (st.sorted_conv hn hb)
theorem A41 {b:List Ae} (hb:bf.Good b) (l:List As) (r:Aj) (hl:l.length<=1000000):∃ v,C5 ⟨b⟩ l r 8=some v/\v.length<=8:=by
 obtain⟨v,hv,hv2⟩:=A2s l hl
 cases v with
 | true=>exact⟨_,bf.over_m r hb (hv2 rfl) hl dcd,List.length_take_le _ _⟩
 | false =>
  unfold C5
  rw[bf.sane_m hb,zA,if_neg dcd,hv,zA,if_pos (by rfl)]
  exact⟨_,rfl,by simp⟩
theorem A1o:R8=some true:=by decide +kernel
theorem Axz:EgI Bh 0:=⟨⟨xS _,by decide,rfl,by simp,List.Pairwise.nil,by simp⟩,by decide,xS _,A6k,⟨_,ss.inv_nil,rfl,rfl,rfl⟩,by decide,by simp,xS _,xS _⟩
structure OpE (e:Aa):Prop where
 act:∀ x∈e.Cert.Txs,x.State=1->∃ o∈e.Open,o.ID=x.ID
 ops:∀ o∈e.Open,∃ x∈e.Cert.Txs,x.ID=o.ID/\x.State=1/\x.Begin=o.Snap/\x.RO=o.RO
 ro:∀ o∈e.Open,o.RO=true->o.Buf.L=[]
 ids:e.Open.Pairwise λa b=>a.ID<b.ID
 toks:e.Open.Pairwise λa b=>a.Token≠b.Token
 tks:∀ o∈e.Open,∃ x,fnd e.Toks.L o.Token=some x/\x.State=1/\x.Attempt=o.Attempt
theorem X7 (e:Aa) (id:Int) (hl:e.Open.length<=1000):((∀ o∈e.Open,o.ID≠id)/\B0 e id=some (-1))\/∃ (i:Nat) (o:Aq),e.Open[i]? = some o/\o.ID=id/\B0 e id=some (i:Int):=by
 obtain⟨v,hv,hr⟩:=B9 (f:=Ip e id) (P:=λs=>∃ j:Nat,j<=e.Open.length/\s=(j:Int)/\∀ o∈e.Open.take j,o.ID≠id) (μ:=λs=>e.Open.length-s.toNat)
  (R:=λv=>(v=.inr ()/\∀ o∈e.Open,o.ID≠id)\/∃ (i:Nat) (o:Aq),e.Open[i]? = some o/\o.ID=id/\v=.inl (i:Int)) (by
   rintro _ ⟨j,hj,rfl,hk⟩
   unfold Ip
   rcases zQ j e.Open.length with hlt|hge
   ·rw[ifo,Ak,zC hlt,zA]
    by_cases h:e.Open[j].ID=id
    ·rw[ifp h]
     exact .inr (.inr ⟨_,rfl,.inr ⟨j,_,zC hlt,h,rfl⟩⟩)
    ·rw[ifn h,wIo]
     refine .inl ⟨_,rfl,⟨j+1,hlt,rfl,λo ho=>?_⟩,by simp only[z6];omega⟩
     rw[zO hlt] at ho
     rcases yG.1 ho with ho|ho
     ·exact hk o ho
     ·rw[z8.1 ho];exact h
   ·rw[ifq]
    rw[yJ hge] at hk
    exact .inr (.inl ⟨_,rfl,.inl ⟨rfl,hk⟩⟩)) fuel 0 ⟨0,zU _,rfl,by simp⟩ (Bb (by show e.Open.length-0<=_;omega))
 unfold B0
 rw[hv]
 rcases hr with⟨rfl,hk⟩|⟨i,o,ho,hid,rfl⟩
 ·exact .inl ⟨hk,rfl⟩
 ·exact .inr ⟨i,o,ho,hid,rfl⟩
theorem EgI.begun {e:Aa} {n:Nat} (h:EgI e n) {x:Ag} (hx:x∈e.Cert.Txs):0<=x.ID/\x.ID<e.Next/\0<=x.Begin/\x.Begin<=e.Store.Ts/\x.End<=e.Store.Ts:=by
 obtain⟨w,hi,hc,hn,hb⟩:=h.cert
 rw[<- hc] at hx
 have ha:=hi.act x hx
 have hid:0<=x.ID:=(hi.each x hx).id
 obtain⟨hlt,hge⟩:=Hu ha
 have hmem:=bf.idx_mem ha
 have hbg:=hi.beg _ hmem
 have h0:=hi.now0
 refine⟨hid,by rw[<- hb];have:=(zB.1 hge).1;omega,hbg.1,by rw[<- hn];exact hbg.2,?_⟩
 rw[<- hn]
 rcases hi.sc.st hx with hs|hs
 ·rcases(hi.each x hx).st with⟨_,h2,_⟩|⟨h1,_⟩
  ·omega
  ·omega
 ·obtain⟨d,hd,h1,h2,h3,h4⟩:=hi.don x hx hs
  rw[<- h3]
  exact(hi.did0 d hd).2.2.2.1
theorem Ah1 {e:Aa} {n:Nat} (h:EgI e n) (k:OpE e) {o:Aq} (ho:o∈e.Open):Kg e o=some true/\0<=o.ID/\o.ID<e.Next:=by
 have hl:=h.sc.len
 obtain⟨x,hx,e1,e2,e3,e4⟩:=k.ops o ho
 obtain⟨b1,b2,b3,b4,-⟩:=h.begun hx
 refine⟨?_,by omega,by omega⟩
 unfold Kg
 rcases ss.find_c e.Cert o.ID omg with⟨hn,-⟩|⟨y,hy,hy1,hy2⟩
 ·exact absurd e1 (hn x hx)
 ·obtain rfl:=h.sc.one hy hx omg
  rw[hy2,zA,ifp e2,ifp e3,if_pos (by rw[e4];exact beq_self_eq_true _),ifp (by rw[<- e3];exact b4),
   show Df o.Buf=some true from bf.sane_m (h.bf o ho),zA,if_pos rfl]
  by_cases hr:o.RO=true
  ·rw[if_pos hr,k.ro o ho hr];rfl
  ·rw[if_neg hr]
theorem Aog {e:Aa} {n:Nat} (h:EgI e n) (k:OpE e):Kt e=some true:=by
 have hop:=h.op
 unfold Kt
 obtain⟨v,hv,hr⟩:=B9 (f:=Ky e) (P:=λs=>∃ j:Nat,j<=e.Open.length/\s.2=(j:Int)/\((j=0/\s.1 = -1)\/∃ p,e.Open[j-1]? = some p/\0<j/\s.1=p.ID)) (μ:=λs=>e.Open.length-s.2.toNat)
  (R:=λv=>v=.inr ()) (by
   rintro⟨last,_⟩ ⟨j,hj,rfl,hlast⟩
   unfold Ky
   dsimp only at hlast ⊢
   rcases zQ j e.Open.length with hlt|hge
   ·obtain⟨s1,s2,s3⟩:=Ah1 h k (yW hlt)
    have hgt:last<e.Open[j].ID:=by
     rcases hlast with⟨-,rfl⟩|⟨p,hp,hj0,rfl⟩
     ·omega
     ·have hp':=zB.1 hp
      have:=z7.1 k.ids (j-1) j hp'.1 hlt omg
      rw[hp'.2] at this
      exact this
    rw[ifo,Ak,zC hlt,zA,ifq,ifq,s1,zA,if_neg dcd]
    unfold P9
    dsimp only
    rw[Tq omg omg omg,zA]
    have hcut:(e.Open.drop (0:Int).toNat).take ((j:Int).toNat-(0:Int).toNat)=e.Open.take j:=by simp
    rw[hcut]
    obtain⟨x,hx,hx2⟩:=B9 (f:=K5 e.Open[j] (e.Open.take j)) (P:=λs=>∃ q:Nat,q<=(e.Open.take j).length/\s=(q:Int)) (μ:=λs=>(e.Open.take j).length-s.toNat) (R:=λv=>v=.inr ()) (by
     rintro _ ⟨q,hq,rfl⟩
     unfold K5
     rcases zQ q (e.Open.take j).length with hlt'|hge'
     ·have hqj:q<j:=by rw[zR] at hlt';omega
      have hne:=z7.1 k.toks q j omg hlt hqj
      rw[ifo,Ak,zC hlt',zA,Zc (by rw[zR] at hlt';omega) (by rw[zR] at hlt';omega),if_neg (by rw[decide_eq_true_eq,jI];exact hne)]
      exact .inl ⟨_,rfl,⟨q+1,hlt',rfl⟩,by simp only[z6];omega⟩
     ·rw[ifq]
      exact .inr (.inl ⟨_,rfl,rfl⟩)) fuel 0 ⟨0,zU _,rfl⟩ (Bb (by show(e.Open.take j).length-0<=_;rw[zR];omega))
    rw[hx,hx2]
    left
    refine⟨(e.Open[j].ID,((j+1:Nat):Int)),?_,⟨j+1,hlt,rfl,.inr ⟨e.Open[j],by rw[jX];exact zC hlt,Nat.succ_pos _,rfl⟩⟩,by simp only[z6];omega⟩
    show K0 (last,(j:Int)) e.Open[j] ()=_
    unfold K0
    dsimp only
    rw[wIo];rfl
   ·rw[ifq]
    exact .inr (.inl ⟨_,rfl,rfl⟩)) fuel (-1,0) ⟨0,zU _,rfl,.inl ⟨rfl,rfl⟩⟩ (Bb (by show e.Open.length-0<=_;omega))
 rw[hv,hr,zA]
 show Kx e ()=_
 unfold Kx
 rw[decide_eq_true omg]
theorem Xi {e:Aa} {n:Nat} (h:EgI e n) (hn:n<=500) (k:OpE e):Ez e=some true:=by
 have hop:=h.op
 have hcl:=h.sc.len
 have hnx:=h.nx
 unfold Ez
 rw[show Ca e.Store=some true from st.ssane_m h.st omg h.kl,zA,if_neg dcd,ss.sane_c h.sc,zA,if_neg dcd,show Ci e.Toks=some true from Abr h.tk,zA,if_neg dcd,
  ifq,ifq]
 unfold V6
 obtain⟨v,hv,hr⟩:=B9 (f:=Q3 e) (P:=λs=>∃ j:Nat,j<=e.Cert.Txs.length/\s=(j:Int)) (μ:=λs=>e.Cert.Txs.length-s.toNat)
  (R:=λv=>v=.inr ()) (by
   rintro _ ⟨j,hj,rfl⟩
   unfold Q3
   rcases zQ j e.Cert.Txs.length with hlt|hge
   ·obtain⟨-,-,-,-,b5⟩:=h.begun (yW hlt)
    rw[ifo,Ak,zC hlt,zA,wIo,ifq]
    have hnx:∃ s',some (LR.cont ((j+1:Nat):Int))=(some (LR.cont s'):Option (LR Int Unit Bool))/\(∃ j:Nat,j<=e.Cert.Txs.length/\s'=(j:Int))/\e.Cert.Txs.length-s'.toNat<e.Cert.Txs.length-(j:Int).toNat:=⟨_,rfl,⟨j+1,hlt,rfl⟩,by simp only[z6];omega⟩
    split
    ·rename_i hs
     rw[decide_eq_true_eq] at hs
     obtain⟨o,ho,hid⟩:=k.act _ (yW hlt) hs
     rcases X7 e e.Cert.Txs[j].ID omg with⟨hp,-⟩|⟨i,q,-,-,hp⟩
     ·exact absurd hid (hp o ho)
     ·rw[hp,zA,ifq]
      exact .inl hnx
    ·exact .inl hnx
   ·rw[ifq]
    exact .inr (.inl ⟨_,rfl,rfl⟩)) fuel 0 ⟨0,zU _,rfl⟩ (Bb (by show e.Cert.Txs.length-0<=_;omega))
 rw[hv,hr,zA]
 show Rm e ()=_
 unfold Rm
 rw[Aog h k];rfl
theorem Am0 {e:Aa} {n:Nat} (h:EgI e n) (hn:n<=500) (k:OpE e) (id:Int):(∃ o∈e.Open,o.ID=id/\C0 e id=some (o,0))\/((∀ o∈e.Open,o.ID≠id)/\∃ z,C0 e id=some (z,7)):=by
 have hop:=h.op
 unfold C0
 rw[Xi h hn k,zA,if_neg dcd]
 rcases X7 e id omg with⟨hno,hp⟩|⟨i,o,ho,hid,hp⟩
 ·rw[hp,zA,if_pos dcd]
  exact .inr ⟨hno,_,rfl⟩
 ·rw[hp,zA,ifq,Ak,ho]
  exact .inl ⟨o,zD ho,hid,rfl⟩
theorem OpE.tok_ne {e:Aa} (k:OpE e) {p o:Aq} (hp:p∈e.Open) (ho:o∈e.Open) (h:p.ID≠o.ID):p.Token≠o.Token:=λe1=>by
 have:=ss.pw_eq k.toks hp ho (λn=>n e1) (λn=>n e1.symm)
 rw[this] at h
 exact h rfl
theorem OpE.id_eq {e:Aa} (k:OpE e) {p o:Aq} (hp:p∈e.Open) (ho:o∈e.Open) (h:p.ID=o.ID):p=o :=
 ss.pw_eq k.ids hp ho (λn=>by omega) (λn=>by omega)
theorem Xr {e:Aa} (k:OpE e) {o:Aq} (ho:o∈e.Open) (S':Ao) (C':Af) (T':Ah) (N':Int)
  (h1:∀ x∈C'.Txs,x.State=1->x.ID≠o.ID/\∃ y∈e.Cert.Txs,y.ID=x.ID/\y.State=1)
  (h2:∀ p∈e.Open,p.ID≠o.ID->∃ x∈C'.Txs,x.ID=p.ID/\x.State=1/\x.Begin=p.Snap/\x.RO=p.RO)
  (h3:∀ t,t≠o.Token->fnd T'.L t=fnd e.Toks.L t):OpE ⟨S',C',T',e.Open.filter λx=>!decide (x.ID=o.ID),N'⟩:=by
 have hm:∀ {p:Aq},p∈(e.Open.filter λx=>!decide (x.ID=o.ID))↔p∈e.Open/\p.ID≠o.ID:=λ{p}=>by
  rw[yO];simp
 refine⟨λx hx hs=>?_,λp hp=>?_,λp hp=>k.ro p (hm.1 hp).1,k.ids.filter _,k.toks.filter _,λp hp=>?_⟩
 ·obtain⟨a1,y,hy,a2,a3⟩:=h1 x hx hs
  obtain⟨p,hp,hpi⟩:=k.act y hy a3
  exact⟨p,hm.2 ⟨hp,by omega⟩,by omega⟩
 ·exact h2 p (hm.1 hp).1 (hm.1 hp).2
 ·obtain⟨x,b1,b2⟩:=k.tks p (hm.1 hp).1
  exact⟨x,(h3 _ (k.tok_ne (hm.1 hp).1 ho (hm.1 hp).2)).trans b1,b2⟩
theorem A3q {e:Aa} {n:Nat} (h:EgI e n) (k:OpE e) {o:Aq} (ho:o∈e.Open):∃ C',Cb e.Cert o.ID=some C'/\C'.Txs=e.Cert.Txs.filter λx=>!decide (x.ID∈[o.ID]):=by
 obtain⟨x,hx,e1,e2,-⟩:=k.ops o ho
 rcases ss.abort_m h.sc o.ID with⟨hn,-⟩|⟨-,e3⟩
 ·exact absurd e2 (hn x hx e1)
 ·exact⟨_,e3,rfl⟩
theorem X1 {e:Aa} {n:Nat} (h:EgI e n) (k:OpE e) {o:Aq} (ho:o∈e.Open):∃ e',A5 e o=some e'/\EgI e' n/\OpE e'/\e'.Store=e.Store/\e'.Next=e.Next/\e'.Open=(e.Open.filter λx=>!decide (x.ID=o.ID)) /\
  (∀ t,t≠o.Token->fnd e'.Toks.L t=fnd e.Toks.L t):=by
 obtain⟨e',g1,g2,-,-⟩:=Apk h o
 refine⟨e',g1,g2,?_⟩
 have hop:=h.op
 unfold A5 at g1
 rw[Uv e o.ID omg,zA] at g1
 obtain⟨C',hab,hC⟩:=A3q h k ho
 obtain⟨l',m,er,hf,hf2,-⟩:=Aja h.tk o.Token o.Attempt
 have hm:∀ {x:Ag},x∈C'.Txs↔x∈e.Cert.Txs/\x.ID≠o.ID:=λ{x}=>by
  rw[hC,yO];simp
 have ha:∀ x∈C'.Txs,x.State=1->x.ID≠o.ID/\∃ y∈e.Cert.Txs,y.ID=x.ID/\y.State=1:=λx hx hs=>⟨(hm.1 hx).2,x,(hm.1 hx).1,rfl,hs⟩
 have hb:∀ p∈e.Open,p.ID≠o.ID->∃ x∈C'.Txs,x.ID=p.ID/\x.State=1/\x.Begin=p.Snap/\x.RO=p.RO:=λp hp hne=>by
  obtain⟨x,hx,b1,b2⟩:=k.ops p hp
  exact⟨x,hm.2 ⟨hx,by omega⟩,b1,b2⟩
 dsimp only at g1
 rw[hab,zA] at g1
 have hf':Bp e.Toks o.Token o.Attempt=some (⟨l'⟩,m,er):=hf
 rw[hf',zA] at g1
 dsimp only at g1
 by_cases he:er=0
 ·rw[ifp he] at g1
  obtain rfl:=zF g1
  obtain⟨-,k2,-⟩:=hf2 he
  exact⟨Xr k ho _ _ _ _ ha hb k2,rfl,rfl,rfl,k2⟩
 ·rw[ifn he] at g1
  obtain rfl:=zF g1
  exact⟨Xr k ho _ _ _ _ ha hb (λ_ _=>rfl),rfl,rfl,rfl,λ_ _=>rfl⟩
def NT (e e':Aa):Prop:=∀ T,(∀ p∈e.Open,p.Token≠T)->fnd e.Toks.L T=none->fnd e'.Toks.L T=none/\∀ p∈e'.Open,p.Token≠T
theorem Pq (e:Aa):NT e e:=λ_ h1 h2=>⟨h2,h1⟩
theorem Aod {e e':Aa} {o:Aq} (ho:o∈e.Open) (h1:e'.Open=e.Open.filter λx=>!decide (x.ID=o.ID)) (h2:∀ t,t≠o.Token->fnd e'.Toks.L t=fnd e.Toks.L t):NT e e':=λT a1 a2 =>
 ⟨(h2 T (λe1=>a1 o ho e1.symm)).trans a2,λp hp=>by rw[h1] at hp;exact a1 p (yO.1 hp).1⟩
def NTt (e e':Aa) (tok:Int):Prop:=∀ T,T≠tok->(∀ p∈e.Open,p.Token≠T)->fnd e.Toks.L T=none->fnd e'.Toks.L T=none/\∀ p∈e'.Open,p.Token≠T
theorem A0v {e:Aa} {n:Nat} (h:EgI e n) (k:OpE e) {o:Aq} (ho:o∈e.Open) (r:Aj):∃ e' er,Fw e o r=some (e',er)/\EgI e' n/\OpE e'/\e'.Store=e.Store /\
  (er=0->e'.Open=e.Open/\e'.Next=e.Next)/\(er=0\/er=1\/er=8\/er=10)/\(∀ p∈e.Open,p.ID≠o.ID->p∈e'.Open)/\NT e e':=by
 obtain⟨x,hx,e1,e2,e3,e4⟩:=k.ops o ho
 have up:∀ er:Int,er≠0->(er=1\/er=8\/er=10)->Cd e.Cert o.ID r=some (ss.cN,er)->∃ e' er,Fw e o r=some (e',er)/\EgI e' n/\OpE e'/\e'.Store=e.Store/\(er=0->e'.Open=e.Open/\e'.Next=e.Next)/\(er=0\/er=1\/er=8\/er=10)/\(∀ p∈e.Open,p.ID≠o.ID->p∈e'.Open)/\NT e e':=λer he hr hc=>by
  obtain⟨e',g1,g2,g3,g4,-,g6,g7⟩:=X1 h k ho
  unfold Fw
  rw[hc,zA,if_pos (by rw[decide_eq_false he];rfl),g1,zA]
  exact⟨_,_,rfl,g2,g3,g4,λh=>absurd h he,.inr hr,(λp hp hne=>by rw[g6];exact yO.2 ⟨hp,by simpa using hne⟩),Aod ho g6 g7⟩
 rcases ss.read_m h.sc o.ID r with⟨hno,-⟩|⟨a,ha,a1,a2,⟨er,her,e5⟩|⟨-,e5⟩|⟨rs,hg,r1,r2,r3,r4,r5,e5⟩⟩
 ·exact absurd e2 (hno x hx e1)
 ·exact up er (by rcases her with h|h <;> omega) (by rcases her with h|h;exact .inl h;exact .inr (.inl h.1)) e5
 ·exact up 10 omg omg e5
 ·unfold Fw
  rw[e5,zA,if_neg (by show ¬ (!decide ((0:Int)=0))=true;decide)]
  refine⟨_,_,rfl,⟨h.st,h.kl,h.ts,h.tk,?_,h.op,h.bf,h.nx⟩,⟨λy hy hs=>?_,λp hp=>?_,k.ro,k.ids,k.toks,k.tks⟩,rfl,λ_=>⟨rfl,rfl⟩,.inl rfl,(λp hp _=>hp),Pq e⟩
  ·obtain⟨c',e',q1,q2⟩:=A16 h.cert o.ID r
   rw[e5] at q1
   simp only[z2,Prod.mk.injEq] at q1
   obtain⟨rfl,rfl⟩:=q1
   exact q2 rfl
  ·obtain⟨z,hz,rfl⟩:=yA.1 hy
   obtain⟨f1,f2,f3,f4,f5,f6⟩:=ss.readF_id e.Cert.Txs a r z
   obtain⟨p,hp,hpi⟩:=k.act z hz (by rw[<- f4];exact hs)
   exact⟨p,hp,by rw[f1];exact hpi⟩
  ·obtain⟨z,hz,b1,b2,b3,b4⟩:=k.ops p hp
   obtain⟨f1,f2,f3,f4,f5,f6⟩:=ss.readF_id e.Cert.Txs a r z
   exact⟨_,yA.2 ⟨z,hz,rfl⟩,by rw[f1];exact b1,by rw[f4];exact b2,by rw[f2];exact b3,by rw[f5];exact b4⟩
def Akj (e:Aa) (tok att:Int) (ro:Bool):Aq:=⟨e.Next,tok,att,e.Store.Ts,ro,⟨[]⟩⟩
theorem Ax1 {f:Aa} {n:Nat} (h:EgI f n) (hn:n<=400) (k:OpE f) (tok att:Int) (ro:Bool) (hno:∀ o∈f.Open,o.Token=tok->att<=o.Attempt) :
  ∃ e' id er,De tok att ro f=some (e',id,er)/\EgI e' (n+1)/\OpE e'/\e'.Store=f.Store/\(er≠0->e'=f) /\
   (er=0->id=f.Next/\e'.Open=f.Open++[Akj f tok att ro])/\NTt f e' tok/\(er≠0->fnd f.Toks.L tok=none->sN tok att=true->16<=f.Open.length\/f.Toks.L.length=32\/64<=f.Cert.Txs.length):=by
 have hop:=h.op
 have hts:=h.ts
 have hnx:=h.nx
 have stay:∀ er:Int,er≠0->(fnd f.Toks.L tok=none->sN tok att=true->16<=f.Open.length\/f.Toks.L.length=32\/64<=f.Cert.Txs.length)->∃ e' id er',some (f,(0:Int),er)=some (e',id,er')/\EgI e' (n+1)/\OpE e'/\e'.Store=f.Store/\(er'≠0->e'=f) /\
   (er'=0->id=f.Next/\e'.Open=f.Open++[Akj f tok att ro])/\NTt f e' tok/\(er'≠0->fnd f.Toks.L tok=none->sN tok att=true->16<=f.Open.length\/f.Toks.L.length=32\/64<=f.Cert.Txs.length):=λer he hw=>⟨_,_,_,rfl,h.up (xO n),k,rfl,(λ_=>rfl),(λh=>absurd h he),(λT _ a1 a2=>⟨a2,a1⟩),λ_=>hw⟩
 unfold De
 split
 ·rename_i hbig
  rw[decide_eq_true_eq] at hbig
  omega
 split
 ·rename_i hbig
  rw[decide_eq_true_eq] at hbig
  exact stay _ dcd λ_ _=>.inl omg
 rename_i h16
 rw[decide_eq_true_eq] at h16
 obtain⟨l',er,hs,hs2,hs3⟩:=A2j h.tk tok att
 rw[show Ee f.Toks tok att=some (⟨l'⟩,er) from hs,zA]
 dsimp only
 by_cases he:er=0
 ·rw[if_neg (by rw[decide_eq_true he];decide)]
  obtain⟨k1,k2,k3,k4,k5⟩:=hs2 he
  have hst0:=h.st.t0
  obtain⟨c',er2,hc,hc2⟩:=Ayv h.cert (by show f.Store.Ts<=1099511627776;omega) ro
  rw[hc,zA]
  by_cases he2:er2=0
  ·rw[if_neg (by rw[decide_eq_true he2];decide),Rx _ (by simp;omega) smp,zA,wIo]
   subst he2
   have hb:=ss.begin_m h.sc f.Next f.Store.Ts ro hnx.1 hst0 (by show f.Store.Ts<=1099511627776;omega)
   have hcc:c'=⟨f.Cert.Txs++[⟨f.Next,f.Store.Ts,0,1,false,false,ro,[]⟩],f.Cert.Reads⟩:=by
    rcases hb with⟨-,e⟩|⟨-,⟨-,e⟩|⟨-,e⟩⟩ <;> rw[hc] at e <;> simp only[z2,Prod.mk.injEq] at e
    ·exact absurd e.2 dcd
    ·exact absurd e.2 dcd
    ·exact e.1
   subst hcc
   have hfl:([f.Open,[Akj f tok att ro]]:List (List Aq)).flatten=f.Open++[Akj f tok att ro]:=by simp
   have hk5:(∀ x,fnd f.Toks.L tok=some x->x.State≠2/\x.Attempt<att)/\fnd l' tok=some ⟨tok,att,1,0⟩:=by
    rcases k5 with⟨-,h1,h2⟩|⟨h1,-⟩|⟨h1,-⟩|⟨h1,-⟩
    ·exact⟨h1,h2⟩
    ·cases h1
    ·cases h1
    ·cases h1
   have hlt:∀ o∈f.Open,o.ID<f.Next:=λo ho=>(Ah1 h k ho).2.2
   have htk:∀ o∈f.Open,o.Token≠tok:=λo ho ht=>by
    obtain⟨x,b1,b2,b3⟩:=k.tks o ho
    rw[ht] at b1
    have:=(hk5.1 x b1).2
    have:=hno o ho ht
    omega
   refine⟨_,_,_,rfl,⟨h.st.mono (xO n),h.kl,by show f.Store.Ts<=((n+1:Nat):Int);omega,k1,hc2 rfl,?_,?_,by show 0<=f.Next+1;omega,by show f.Next+1<=((n+1:Nat):Int);omega⟩,?_,rfl,(λh=>absurd rfl h),(λ_=>⟨rfl,hfl⟩),(λT ht a1 a2=>⟨(k2 T ht).trans a2,λp hp=>?_⟩),λh=>absurd rfl h⟩
   rotate_left 3
   ·have hp:p∈f.Open++[Akj f tok att ro]:=by rw[<- hfl];exact hp
    rcases yG.1 hp with hp|hp
    ·exact a1 p hp
    ·rw[z8.1 hp];exact λe1=>ht e1.symm
   ·simp;omega
   ·intro o ho
    simp only[List.flatten_cons,List.flatten_nil,xC,yG,z8] at ho
    rcases ho with ho|rfl
    ·exact h.bf o ho
    ·exact bf.Good.nil
   ·show OpE ⟨f.Store,_,⟨l'⟩,([f.Open,[Akj f tok att ro]]:List (List Aq)).flatten,f.Next+1⟩
    rw[hfl]
    refine⟨λx hx hs=>?_,λp hp=>?_,λp hp hr=>?_,?_,?_,λp hp=>?_⟩
    ·rcases yG.1 hx with hx|hx
     ·obtain⟨o,ho,hid⟩:=k.act x hx hs
      exact⟨o,wM _ ho,hid⟩
     ·rw[z8.1 hx]
      exact⟨Akj f tok att ro,w4 _ (z8.2 rfl),rfl⟩
    ·rcases yG.1 hp with hp|hp
     ·obtain⟨x,hx,b⟩:=k.ops p hp
      exact⟨x,wM _ hx,b⟩
     ·rw[z8.1 hp]
      exact⟨_,w4 _ (z8.2 rfl),rfl,rfl,rfl,rfl⟩
    ·rcases yG.1 hp with hp|hp
     ·exact k.ro p hp hr
     ·rw[z8.1 hp];rfl
    ·exact wU.2 ⟨k.ids,wS _ _,λa ha b hb=>by rw[z8.1 hb];exact hlt a ha⟩
    ·exact wU.2 ⟨k.toks,wS _ _,λa ha b hb=>by rw[z8.1 hb];exact htk a ha⟩
    ·rcases yG.1 hp with hp|hp
     ·obtain⟨x,b1,b2⟩:=k.tks p hp
      exact⟨x,(k2 _ (htk p hp)).trans b1,b2⟩
     ·rw[z8.1 hp]
      exact⟨_,hk5.2,rfl,rfl⟩
  ·rw[if_pos (by rw[decide_eq_false he2];rfl)]
   refine stay _ he2 λ_ _=>.inr (.inr ?_)
   have hb:=ss.begin_m h.sc f.Next f.Store.Ts ro hnx.1 hst0 (by show f.Store.Ts<=1099511627776;omega)
   rcases hb with⟨⟨x,hx,e1⟩,-⟩|⟨-,⟨h64,-⟩|⟨-,e⟩⟩
   ·have:=(h.begun hx).2.1;omega
   ·exact h64
   ·rw[hc] at e
    simp only[z2,Prod.mk.injEq] at e
    exact absurd e.2 he2
 ·rw[if_pos (by rw[decide_eq_false he];rfl)]
  refine stay _ he λh1 h2=>.inr (.inl ?_)
  have:=hs3 h1 h2
  split at this
  ·assumption
  ·exact absurd this he
theorem Ae5 (e:Aa) (tok:Int) (hl:e.Open.length<=1000):∃ r,Hg e tok=some r/\((r.2=true/\r.1∈e.Open/\r.1.Token=tok)\/(r.2=false/\∀ o∈e.Open,o.Token≠tok)):=by
 obtain⟨v,hv,hr⟩:=B9 (f:=M7 e tok) (P:=λs=>∃ j:Nat,j<=e.Open.length/\s=(j:Int)/\∀ o∈e.Open.take j,o.Token≠tok) (μ:=λs=>e.Open.length-s.toNat)
  (R:=λv=>(v=.inr ()/\∀ o∈e.Open,o.Token≠tok)\/∃ o∈e.Open,o.Token=tok/\v=.inl (o,true)) (by
   rintro _ ⟨j,hj,rfl,hk⟩
   unfold M7
   rcases zQ j e.Open.length with hlt|hge
   ·rw[ifo,Ak,zC hlt,zA]
    by_cases h:e.Open[j].Token=tok
    ·rw[ifp h]
     exact .inr (.inr ⟨_,rfl,.inr ⟨_,yW hlt,h,rfl⟩⟩)
    ·rw[ifn h,wIo]
     refine .inl ⟨_,rfl,⟨j+1,hlt,rfl,λo ho=>?_⟩,by simp only[z6];omega⟩
     rw[zO hlt] at ho
     rcases yG.1 ho with ho|ho
     ·exact hk o ho
     ·rw[z8.1 ho];exact h
   ·rw[ifq]
    rw[yJ hge] at hk
    exact .inr (.inl ⟨_,rfl,.inl ⟨rfl,hk⟩⟩)) fuel 0 ⟨0,zU _,rfl,by simp⟩ (Bb (by show e.Open.length-0<=_;omega))
 unfold Hg
 rw[hv]
 rcases hr with⟨rfl,hk⟩|⟨o,ho,ht,rfl⟩
 ·exact⟨_,rfl,.inr ⟨rfl,hk⟩⟩
 ·exact⟨_,rfl,.inl ⟨rfl,ho,ht⟩⟩
theorem A1m {e:Aa} {n:Nat} (h:EgI e n) (hn:n<=400) (k:OpE e) (tok att:Int) (ro:Bool) :
  ∃ e' id er,Ep e tok att ro=some (e',id,er)/\EgI e' (n+1)/\OpE e'/\e'.Store=e.Store /\
   (er=0->∃ o∈e'.Open,o.ID=id/\o.Token=tok/\o.Snap=e.Store.Ts/\o.RO=ro/\o.Buf.L=[])/\(∀ p∈e.Open,p.Token≠tok->p∈e'.Open)/\NTt e e' tok/\(er≠0->(∀ p∈e.Open,p.Token≠tok)->fnd e.Toks.L tok=none->sN tok att=true->16<=e'.Open.length\/e'.Toks.L.length=32\/64<=e'.Cert.Txs.length):=by
 have hop:=h.op
 unfold Ep
 rw[Xi h omg k,zA,if_neg dcd]
 obtain⟨r,hr,hc⟩:=Ae5 e tok omg
 rw[hr,zA]
 have key:∀ f:Aa,EgI f n->OpE f->f.Store=e.Store->(∀ o∈f.Open,o.Token=tok->att<=o.Attempt)->(∀ p∈e.Open,p.Token≠tok->p∈f.Open)->NTt e f tok->((∀ p∈e.Open,p.Token≠tok)->f=e)->∃ e' id er,De tok att ro f=some (e',id,er)/\EgI e' (n+1)/\OpE e'/\e'.Store=e.Store /\
   (er=0->∃ o∈e'.Open,o.ID=id/\o.Token=tok/\o.Snap=e.Store.Ts/\o.RO=ro/\o.Buf.L=[])/\(∀ p∈e.Open,p.Token≠tok->p∈e'.Open)/\NTt e e' tok/\(er≠0->(∀ p∈e.Open,p.Token≠tok)->fnd e.Toks.L tok=none->sN tok att=true->16<=e'.Open.length\/e'.Toks.L.length=32\/64<=e'.Cert.Txs.length):=λf hf kf hs hno hst hnt hfe=>by
  obtain⟨e',id,er,g1,g2,g3,g4,g5,g6,g7,g8⟩:=Ax1 hf hn kf tok att ro hno
  refine⟨e',id,er,g1,g2,g3,g4.trans hs,λhe=>?_,λp hp hne=>?_,(λT ht a1 a2=>by obtain⟨b1,b2⟩:=hnt T ht a1 a2;exact g7 T ht b2 b1),λhe a1 a2 a3=>by
   have:=hfe a1
   subst this
   rw[g5 he]
   exact g8 he a2 a3⟩
  rotate_left
  ·by_cases he:er=0
   ·rw[(g6 he).2];exact wM _ (hst p hp hne)
   ·rw[g5 he];exact hst p hp hne
  obtain⟨q1,q2⟩:=g6 he
  exact⟨Akj f tok att ro,by rw[q2];exact w4 _ (z8.2 rfl),q1.symm,rfl,by show f.Store.Ts=_;rw[hs],rfl,rfl⟩
 rcases hc with⟨h1,h2,h3⟩|⟨h1,h2⟩
 ·rw[if_pos h1]
  by_cases ha:r.1.Attempt<att
  ·rw[ifp ha]
   obtain⟨f,g1,g2,g3,g4,g5,g6,g7⟩:=X1 h k h2
   rw[g1,zA]
   refine key f g2 g3 g4 (λo ho ht=>?_) (λp hp hne=>?_) (λT _ a1 a2=>Aod h2 g6 g7 T a1 a2) (λa1=>absurd h3 (a1 _ h2))
   ·rw[g6,yO] at ho
    have hne:o.ID≠r.1.ID:=by simpa using ho.2
    exact absurd (ht.trans h3.symm) (k.tok_ne ho.1 h2 hne)
   ·rw[g6]
    refine yO.2 ⟨hp,?_⟩
    have:p.ID≠r.1.ID:=λe1=>hne (by rw[k.id_eq hp h2 e1];exact h3)
    simpa using this
  ·rw[ifn ha]
   refine key e h k rfl (λo ho ht=>?_) (λp hp _=>hp) (λT _ a1 a2=>⟨a2,a1⟩) (λ_=>rfl)
   by_cases hne:o.ID=r.1.ID
   ·rw[k.id_eq ho h2 hne];omega
   ·exact absurd (ht.trans h3.symm) (k.tok_ne ho h2 hne)
 ·rw[if_neg (by rw[h1];decide)]
  exact key e h k rfl (λo ho ht=>absurd ht (h2 o ho)) (λp hp _=>hp) (λT _ a1 a2=>⟨a2,a1⟩) (λ_=>rfl)
theorem Adh {α β:Type} {f:α->β} {l:List α} {i:Nat} {a b:α} (h:l[i]? = some b) (hf:f a=f b):(l.set i a).map f=l.map f:=by
 apply wA
 intro j
 rw[zK,zK,kG]
 by_cases e:i=j
 ·subst e
  have hlt:=(zB.1 h).1
  rw[if_pos rfl,if_pos hlt,h]
  show some (f a)=some (f b)
  rw[hf]
 ·rw[if_neg e]
theorem A9k {e:Aa} {n:Nat} (h:EgI e n) (hn:n<=400) (k:OpE e) (id:Int) (w:Ae) :
  ∃ e' er,Hw e id w=some (e',er)/\EgI e' (n+1)/\OpE e'/\e'.Store=e.Store /\
   (er=0->∃ o∈e.Open,o.ID=id/\bf.swV w=true/\bf.Good (bf.setR o.Buf.L w)/\∃ o'∈e'.Open,o'.ID=id/\o'.Buf.L=bf.setR o.Buf.L w/\o'.RO=o.RO/\e'.Open.length=e.Open.length)/\(∀ p∈e.Open,p.ID≠id->p∈e'.Open)/\NT e e':=by
 have hop:=h.op
 have hts:=h.ts
 have hnx:=h.nx
 unfold Hw
 rcases Am0 h omg k id with⟨o,ho,hid,hf⟩|⟨-,z,hf⟩
 ·rw[hf,zA,if_neg (by show ¬ (!decide ((0:Int)=0))=true;decide)]
  dsimp only
  split
  ·exact⟨_,_,rfl,h.up (xO n),k,rfl,(λh=>by cases h),(λp hp _=>hp),Pq e⟩
  rename_i hro
  have hro':o.RO=false:=by simpa using hro
  rcases bf.set_any (h.bf o ho) w with⟨s1,s2,s3⟩|⟨er2,hne,s1⟩
  ·rw[show Bu o.Buf w=some (⟨bf.setR o.Buf.L w⟩,0) from s1,zA,if_neg (by show ¬ (!decide ((0:Int)=0))=true;decide)]
   unfold Lq
   dsimp only
   rw[Pv _ omg,zA]
   rcases X7 e o.ID omg with⟨hp,-⟩|⟨i,p,hp1,hp2,hp⟩
   ·exact absurd rfl (hp o ho)
   ·obtain rfl:=k.id_eq (zD hp1) ho hp2
    rw[show B0 (Aa.mk (Ao.mk e.Store.Keys e.Store.Chains e.Store.Ts) (Af.mk e.Cert.Txs (Am.mk e.Cert.Reads.L)) (Ah.mk e.Toks.L) e.Open e.Next) p.ID=some (i:Int) from hp,zA,Ak,hp1,zA]
    have hlt:=(zB.1 hp1).1
    have hmem:∀ {x},x∈e.Open.set i { p with Buf:=⟨bf.setR p.Buf.L w⟩ }->(x∈e.Open)\/x={ p with Buf:=⟨bf.setR p.Buf.L w⟩ }:=λ{x} hx=>jV hx
    have hin:({ p with Buf:=⟨bf.setR p.Buf.L w⟩ }:Aq)∈e.Open.set i { p with Buf:=⟨bf.setR p.Buf.L w⟩ }:=xH.2 ⟨i,by rw[zN hlt]⟩
    have hall:∀ x∈e.Open,∃ y∈e.Open.set i { p with Buf:=⟨bf.setR p.Buf.L w⟩ },y.ID=x.ID:=λx hx=>by
     obtain⟨j,hj⟩:=xH.1 hx
     by_cases e1:i=j
     ·subst e1
      rw[hp1] at hj
      cases hj
      exact⟨_,hin,rfl⟩
     ·exact⟨x,xH.2 ⟨j,by rw[zS e1];exact hj⟩,rfl⟩
    refine⟨_,_,rfl,⟨h.st.mono (xO n),h.kl,by show e.Store.Ts<=((n+1:Nat):Int);omega,h.tk,h.cert,by show(e.Open.set _ _).length<=16;rw[xA];omega,λx hx=>?_,h.nx.1,by show e.Next<=((n+1:Nat):Int);omega⟩,⟨λx hx hs=>?_,λx hx=>?_,λx hx hr=>?_,?_,?_,λx hx=>?_⟩,rfl,(λ_=>⟨p,ho,hid,s3,s2,_,hin,hid,rfl,rfl,xA ..⟩),(λy hy hne=>?_),λT a1 a2=>⟨a2,λy hy=>?_⟩⟩
    ·rcases hmem hx with hx|rfl
     ·exact h.bf x hx
     ·exact s2
    ·obtain⟨q,hq,hqi⟩:=k.act x hx hs
     obtain⟨y,hy,hyi⟩:=hall q hq
     exact⟨y,hy,hyi.trans hqi⟩
    ·rcases hmem hx with hx|rfl
     ·exact k.ops x hx
     ·exact k.ops p ho
    ·rcases hmem hx with hx|rfl
     ·exact k.ro x hx hr
     ·exact absurd hr (by show ¬ p.RO=true;rw[hro'];decide)
    ·have:=k.ids
     rw[<- wH (f:=Aq.ID) (R:=λa b=>a<b)] at this ⊢
     show List.Pairwise _ ((e.Open.set i _).map Aq.ID)
     rw[Adh (f:=Aq.ID) (a:={ p with Buf:=⟨bf.setR p.Buf.L w⟩ }) hp1 rfl];exact this
    ·have:=k.toks
     rw[<- wH (f:=Aq.Token) (R:=λa b=>a≠b)] at this ⊢
     show List.Pairwise _ ((e.Open.set i _).map Aq.Token)
     rw[Adh (f:=Aq.Token) (a:={ p with Buf:=⟨bf.setR p.Buf.L w⟩ }) hp1 rfl];exact this
    ·rcases hmem hx with hx|rfl
     ·exact k.tks x hx
     ·exact k.tks p ho
    ·obtain⟨j,hj⟩:=xH.1 hy
     refine xH.2 ⟨j,?_⟩
     show(e.Open.set i _)[j]? = some y
     rw[zS,hj]
     intro e1
     rw[<- e1,hp1] at hj
     cases hj
     exact hne hid
    ·rcases hmem hy with hy|rfl
     ·exact a1 y hy
     ·exact a1 p ho
  ·rw[show Bu o.Buf w=some (⟨[]⟩,er2) from s1,zA,if_pos (by rw[decide_eq_false hne];rfl)]
   unfold Qq Ol
   dsimp only
   rw[zA]
   split
   ·exact⟨_,_,rfl,h.up (xO n),k,rfl,(λh=>absurd h hne),(λp hp _=>hp),Pq e⟩
   ·obtain⟨f,g1,g2,g3,g4,-,g6,g7⟩:=X1 h k ho
    rw[g1]
    exact⟨_,_,rfl,g2.up (xO n),g3,g4,(λh=>absurd h hne),(λp hp hne=>by rw[g6];exact yO.2 ⟨hp,by simpa [hid] using hne⟩),Aod ho g6 g7⟩
 ·rw[hf,zA,if_pos (by show(!decide ((7:Int)=0))=true;decide)]
  unfold Ch
  rw[if_neg (by show ¬ decide ((7:Int)=1)=true;decide),zA]
  exact⟨_,_,rfl,h.up (xO n),k,rfl,(λh=>by cases h),(λp hp _=>hp),Pq e⟩
theorem A1k {e:Aa} {n:Nat} (h:EgI e n) (hn:n<=400) (k:OpE e) (id:Int) :
  ∃ e' er,J9 e id=some (e',er)/\EgI e' (n+1)/\OpE e'/\e'.Store=e.Store/\((∃ o∈e.Open,o.ID=id)->er=0)/\(∀ p∈e.Open,p.ID≠id->p∈e'.Open)/\NT e e':=by
 unfold J9
 rcases Am0 h omg k id with⟨o,ho,hid,hf⟩|⟨hno,z,hf⟩
 ·rw[hf,zA,if_neg (by show ¬ (!decide ((0:Int)=0))=true;decide)]
  obtain⟨f,g1,g2,g3,g4,-,g6,g7⟩:=X1 h k ho
  dsimp only
  rw[g1]
  exact⟨_,_,rfl,g2.up (xO n),g3,g4,(λ_=>rfl),(λp hp hne=>by rw[g6];exact yO.2 ⟨hp,by simpa [hid] using hne⟩),Aod ho g6 g7⟩
 ·rw[hf,zA,if_pos (by show(!decide ((7:Int)=0))=true;decide)]
  unfold Ch
  rw[if_neg (by show ¬ decide ((7:Int)=1)=true;decide),zA]
  exact⟨_,_,rfl,h.up (xO n),k,rfl,(λ⟨o,ho,hi⟩=>absurd hi (hno o ho)),(λp hp _=>hp),Pq e⟩
theorem Ay6 {e:Aa} {n:Nat} {l:List E12} (h:EgI { e with Toks:=⟨l⟩ } n) (k:OpE e) {o:Aq} (ho:o∈e.Open) (hT:∀ t,t≠o.Token->fnd l t=fnd e.Toks.L t) :
  ∃ e',A5 { e with Toks:=⟨l⟩ } o=some e'/\EgI e' n/\OpE e'/\e'.Store=e.Store/\e'.Open=(e.Open.filter λx=>!decide (x.ID=o.ID))/\(∀ t,t≠o.Token->fnd e'.Toks.L t=fnd e.Toks.L t):=by
 obtain⟨e',g1,g2,-,-⟩:=Apk h o
 refine⟨e',g1,g2,?_⟩
 have hop:e.Open.length<=16:=h.op
 have hsc:ss.SC e.Cert:=h.sc
 unfold A5 at g1
 rw[Uv { e with Toks:=⟨l⟩ } o.ID (by show e.Open.length<=_;omega),zA] at g1
 obtain⟨x,hx,e1,e2,-⟩:=k.ops o ho
 obtain⟨C',hab,hC⟩:∃ C',Cb e.Cert o.ID=some C'/\C'.Txs=e.Cert.Txs.filter λx=>!decide (x.ID∈[o.ID]):=by
  rcases ss.abort_m hsc o.ID with⟨hn,-⟩|⟨-,e3⟩
  ·exact absurd e2 (hn x hx e1)
  ·exact⟨_,e3,rfl⟩
 obtain⟨l',m,er,hf,hf2,-⟩:=Aja h.tk o.Token o.Attempt
 have hm:∀ {x:Ag},x∈C'.Txs↔x∈e.Cert.Txs/\x.ID≠o.ID:=λ{x}=>by
  rw[hC,yO];simp
 have ha:∀ x∈C'.Txs,x.State=1->x.ID≠o.ID/\∃ y∈e.Cert.Txs,y.ID=x.ID/\y.State=1:=λx hx hs=>⟨(hm.1 hx).2,x,(hm.1 hx).1,rfl,hs⟩
 have hb:∀ p∈e.Open,p.ID≠o.ID->∃ x∈C'.Txs,x.ID=p.ID/\x.State=1/\x.Begin=p.Snap/\x.RO=p.RO:=λp hp hne=>by
  obtain⟨x,hx,b1,b2⟩:=k.ops p hp
  exact⟨x,hm.2 ⟨hx,by omega⟩,b1,b2⟩
 dsimp only at g1
 rw[hab,zA] at g1
 have hf':Bp ⟨l⟩ o.Token o.Attempt=some (⟨l'⟩,m,er):=hf
 rw[hf',zA] at g1
 dsimp only at g1
 by_cases he:er=0
 ·rw[ifp he] at g1
  obtain rfl:=zF g1
  obtain⟨-,k2,-⟩:=hf2 he
  exact⟨Xr k ho _ _ _ _ ha hb λt ht=>(k2 t ht).trans (hT t ht),rfl,rfl,λt ht=>(k2 t ht).trans (hT t ht)⟩
 ·rw[ifn he] at g1
  obtain rfl:=zF g1
  exact⟨Xr k ho _ _ _ _ ha hb hT,rfl,rfl,hT⟩
theorem A2e (e:Aa) (er:Int) (h:er≠1):Ch e er=some e:=by
 unfold Ch
 rw[ifn h]
theorem A92 {e:Aa} {n:Nat} (h:EgI e n) (hn:n<=400) (k:OpE e) (id:Int) (key:List UInt8) (hk:key.length<=50) :
  ∃ e' v f er,H6 e id key=some (e',v,f,er)/\EgI e' (n+1)/\OpE e'/\e'.Store=e.Store/\(∀ p∈e.Open,p.ID≠id->p∈e'.Open)/\NT e e':=by
 unfold H6
 rcases Am0 h omg k id with⟨o,ho,hid,hf⟩|⟨-,z,hf⟩
 ·rw[hf,zA,if_neg (by show ¬ (!decide ((0:Int)=0))=true;decide)]
  dsimp only
  have hlen:=(h.bf o ho).len
  rw[st.kSane_m,zA]
  split
  ·exact⟨_,_,_,_,rfl,h.up (xO n),k,rfl,(λp hp _=>hp),Pq e⟩
  obtain⟨r,hr⟩:=A63 o.Buf key omg
  rw[hr,zA]
  split
  ·exact⟨_,_,_,_,rfl,h.up (xO n),k,rfl,(λp hp _=>hp),Pq e⟩
  rw[bf.one_m key omg,zA]
  obtain⟨f,er2,q1,q2,q3,q4,-,-,q7,q8⟩:=A0v h k ho ⟨key,key++[0],false⟩
  rw[q1,zA]
  dsimp only
  split
  ·exact⟨_,_,_,_,rfl,q2.up (xO n),q3,q4,(λp hp hne=>q7 p hp (by rw[hid];exact hne)),q8⟩
  have hg:∃ v,Ii f.Store key o.Snap=some v:=by
   rcases st.get_m q2.st omg q2.kl key o.Snap with⟨c,-,e1⟩|⟨-,e1⟩
   ·exact⟨_,e1⟩
   ·exact⟨_,e1⟩
  obtain⟨v,hv⟩:=hg
  rw[hv]
  exact⟨_,_,_,_,rfl,q2.up (xO n),q3,q4,(λp hp hne=>q7 p hp (by rw[hid];exact hne)),q8⟩
 ·rw[hf,zA,if_pos (by show(!decide ((7:Int)=0))=true;decide),A2e e _ (by show(7:Int)≠1;decide),zA]
  exact⟨_,_,_,_,rfl,h.up (xO n),k,rfl,(λp hp _=>hp),Pq e⟩
theorem A6z {e:Aa} {n:Nat} (h:EgI e n) (hn:n<=400) (k:OpE e) (id:Int) (r:Aj) :
  ∃ e' l er,Mb e id r 8=some (e',l,er)/\EgI e' (n+1)/\OpE e'/\e'.Store=e.Store/\(∀ p∈e.Open,p.ID≠id->p∈e'.Open)/\NT e e'/\l.length<=8:=by
 unfold Mb
 rcases Am0 h omg k id with⟨o,ho,hid,hf⟩|⟨-,z,hf⟩
 ·rw[hf,zA,if_neg (by show ¬ (!decide ((0:Int)=0))=true;decide)]
  have hks:∃ b,Br r=some b:=by
   unfold Br
   repeat' split
   all_goals exact⟨_,rfl⟩
  obtain⟨b,hb⟩:=hks
  rw[hb,zA]
  split
  ·exact⟨_,_,_,rfl,h.up (xO n),k,rfl,(λp hp _=>hp),Pq e,by simp⟩
  rw[bf.empty_m,zA]
  split
  ·exact⟨_,_,_,rfl,h.up (xO n),k,rfl,(λp hp _=>hp),Pq e,by simp⟩
  unfold Ru
  dsimp only
  obtain⟨f,er2,q1,q2,q3,q4,-,-,q7,q8⟩:=A0v h k ho r
  rw[q1,zA]
  dsimp only
  split
  ·exact⟨_,_,_,rfl,q2.up (xO n),q3,q4,(λp hp hne=>q7 p hp (by rw[hid];exact hne)),q8,by simp⟩
  have hents:=st.ents_len r o.Snap f.Store.Keys f.Store.Chains
  have hkl:=q2.kl
  rw[show E1 f.Store r o.Snap 128=some ((st.ents r o.Snap f.Store.Keys f.Store.Chains).take (128:Int).toNat) from st.scan_m q2.st omg q2.kl r o.Snap 128,zA]
  obtain⟨v,hv,hv8⟩:=A41 (h.bf o ho) ((st.ents r o.Snap f.Store.Keys f.Store.Chains).take (128:Int).toNat) r (by rw[zR];omega)
  rw[show C5 o.Buf _ r 8=some v from hv]
  exact⟨_,_,_,rfl,q2.up (xO n),q3,q4,(λp hp hne=>q7 p hp (by rw[hid];exact hne)),q8,hv8⟩
 ·rw[hf,zA,if_pos (by show(!decide ((7:Int)=0))=true;decide),A2e e _ (by show(7:Int)≠1;decide),zA]
  exact⟨_,_,_,rfl,h.up (xO n),k,rfl,(λp hp _=>hp),Pq e,by simp⟩
theorem Aty {e:Aa} {n:Nat} (h:EgI e n) (hn:n<=400) (k:OpE e) (tok:Int):∃ e' er,G6 e tok=some (e',er)/\((er=1/\e'=Bh)\/(EgI e' (n+1)/\OpE e'/\e'.Store=e.Store/\e'.Open=e.Open/\NTt e e' tok)):=by
 unfold G6
 rw[Xi h omg k,zA,if_neg dcd]
 obtain⟨l',er,hr,hr2,hr3⟩:=Auv h.tk tok
 rw[show C7 e.Toks tok=some (⟨l'⟩,er) from hr,zA]
 dsimp only
 by_cases he:er=0
 ·rw[if_neg (by rw[decide_eq_true he];decide)]
  obtain⟨k1,k2,-⟩:=hr2 he
  refine⟨_,_,rfl,.inr ⟨(show EgI { e with Toks:=⟨l'⟩ } n from⟨h.st,h.kl,h.ts,k1,h.cert,h.op,h.bf,h.nx⟩).up (xO n),⟨k.act,k.ops,k.ro,k.ids,k.toks,λp hp=>?_⟩,rfl,rfl,λT ht a1 a2=>⟨(k2 T ht).trans a2,a1⟩⟩⟩
  obtain⟨x,b1,b2,b3⟩:=k.tks p hp
  refine⟨x,(k2 _ λe1=>?_).trans b1,b2,b3⟩
  have:=(hr3 x (by rw[<- e1];exact b1)).1 b2
  omega
 ·rw[if_pos (by rw[decide_eq_false he];rfl)]
  unfold Ch
  by_cases h1:er=1
  ·rw[ifp h1]
   exact⟨_,_,rfl,.inl ⟨h1,rfl⟩⟩
  ·rw[ifn h1]
   exact⟨_,_,rfl,.inr ⟨h.up (xO n),k,rfl,rfl,λT _ a1 a2=>⟨a2,a1⟩⟩⟩
theorem Ayd {e:Aa} {n:Nat} (h:EgI e n) (hn:n<=400) (k:OpE e) (tok att:Int):∃ e' ts er,Iu e tok att=some (e',ts,er)/\((er=1/\e'=Bh)\/(EgI e' (n+1)/\OpE e'/\e'.Store=e.Store/\(∀ p∈e.Open,p.Token≠tok->p∈e'.Open)/\NTt e e' tok)):=by
 have hop:=h.op
 unfold Iu
 rw[Xi h omg k,zA,if_neg dcd]
 obtain⟨l',m,er,hf,hf2,-⟩:=Aja h.tk tok att
 rw[show Bp e.Toks tok att=some (⟨l'⟩,m,er) from hf,zA]
 dsimp only
 by_cases he:er=0
 ·rw[if_neg (by rw[decide_eq_true he];decide)]
  obtain⟨k1,k2,-,-,k5⟩:=hf2 he
  have hn1:EgI { e with Toks:=⟨l'⟩ } n:=⟨h.st,h.kl,h.ts,k1,h.cert,h.op,h.bf,h.nx⟩
  have hl32:=k1.n
  have hfd:=Wf (l:=l') omg tok
  rw[hfd,zA]
  obtain⟨r,hr,hc⟩:=Ae5 { e with Toks:=⟨l'⟩ } tok (by show e.Open.length<=_;omega)
  rw[hr,zA]
  have stay:OpE { e with Toks:=⟨l'⟩ }->∃ e' ts er,E3 (⟨l'⟩,m,er) { e with Toks:=⟨l'⟩ }=some (e',ts,er)/\((er=1/\e'=Bh)\/(EgI e' (n+1)/\OpE e'/\e'.Store=e.Store/\(∀ p∈e.Open,p.Token≠tok->p∈e'.Open)/\NTt e e' tok)):=λhk=>⟨_,_,_,rfl,.inr ⟨hn1.up (xO n),hk,rfl,(λp hp _=>hp),λT ht a1 a2=>⟨(k2 T ht).trans a2,a1⟩⟩⟩
  rcases hc with⟨h1,h2,h3⟩|⟨h1,h2⟩
  ·rw[if_pos h1]
   have h2':r.1∈e.Open:=h2
   obtain⟨x,b1,b2,b3⟩:=k.tks r.1 h2'
   rw[h3] at b1
   obtain⟨b,hb1,hb2⟩:∃ b,fnd l' tok=some ⟨tok,b,3,0⟩/\x.Attempt<=b:=by
    rcases k5 with⟨h1,-⟩|⟨h1,-⟩|⟨-,y,hy,hs,-⟩|⟨-,-,b,q1,q2⟩
    ·cases h1
    ·cases h1
    ·rw[b1] at hy;cases hy;rw[b2] at hs;cases hs
    ·rw[b1] at q2
     have q2:b=max x.Attempt att:=q2
     exact⟨b,q1,by omega⟩
   rw[hb1]
   dsimp only
   rw[if_pos (by show decide ((3:Int)=3)=true;decide),ifp (by show r.1.Attempt<=b;omega)]
   obtain⟨g,g1,g2,g3,g4,g5,g6⟩:=Ay6 hn1 k h2' (λt ht=>k2 t (by rw[<- h3];exact ht))
   rw[g1]
   exact⟨_,_,_,rfl,.inr ⟨g2.up (xO n),g3,g4,(λp hp hne=>by
    rw[g5]
    refine yO.2 ⟨hp,?_⟩
    have:p.ID≠r.1.ID:=λe1=>hne (by rw[k.id_eq hp h2' e1];exact h3)
    simpa using this),λT _ a1 a2=>Aod h2' g5 g6 T a1 a2⟩⟩
  ·rw[if_neg (by rw[h1];decide)]
   exact stay ⟨k.act,k.ops,k.ro,k.ids,k.toks,λp hp=>by
    obtain⟨x,b1,b2⟩:=k.tks p hp
    exact⟨x,(k2 _ (h2 p hp)).trans b1,b2⟩⟩
 ·rw[if_pos (by rw[decide_eq_false he];rfl)]
  unfold Ch
  by_cases h1:er=1
  ·rw[ifp h1]
   exact⟨_,_,_,rfl,.inl ⟨h1,rfl⟩⟩
  ·rw[ifn h1]
   exact⟨_,_,_,rfl,.inr ⟨h.up (xO n),k,rfl,(λp hp _=>hp),λT _ a1 a2=>⟨a2,a1⟩⟩⟩
theorem Ut (l:List Ag) (rs:List Ac) (a:Ag) (ts:Int) (K:List (List UInt8)) (x:Ag):(ss.doneF l rs a ts K x).ID=x.ID/\(x.ID=a.ID->(ss.doneF l rs a ts K x).State=2) /\
  (x.ID≠a.ID->(ss.doneF l rs a ts K x).State=x.State/\(ss.doneF l rs a ts K x).Begin=x.Begin/\(ss.doneF l rs a ts K x).RO=x.RO):=by
 unfold ss.doneF
 split
 ·rename_i h;exact⟨rfl,λ_=>rfl,λhn=>absurd h hn⟩
 ·rename_i h
  split
  ·exact⟨rfl,λe=>absurd e h,λ_=>⟨rfl,rfl,rfl⟩⟩
  ·exact⟨rfl,λe=>absurd e h,λ_=>⟨rfl,rfl,rfl⟩⟩
theorem Aqh {l:List Ag} {x:Ag} (h:ss.goneV l x=true):x.State=2:=by
 unfold ss.goneV at h
 simp only[zG,decide_eq_true_eq] at h
 exact h.1
theorem Ayb {c:Af} (h:ss.SC c) (id ts:Int) (K:List (List UInt8)) (hK:K.length<=16) {c':Af} (hc:B2 c id ts K=some (c',0)) :
  ∃ a∈c.Txs,a.ID=id/\a.State=1/\c'.Txs=c.Txs.map (ss.doneF c.Txs c.Reads.L a ts K):=by
 rcases ss.commit_m h id ts K hK with⟨-,e⟩|⟨a,ha,e1,h1,⟨-,e⟩|⟨hm,⟨-,e⟩|⟨hcf,⟨-,e⟩|⟨hno,hpv,e⟩⟩⟩⟩
 ·rw[hc] at e;simp only[z2,Prod.mk.injEq] at e;exact absurd e.2 dcd
 ·rw[hc] at e;simp only[z2,Prod.mk.injEq] at e;exact absurd e.2 dcd
 ·rw[hc] at e;simp only[z2,Prod.mk.injEq] at e;exact absurd e.2 dcd
 ·rw[hc] at e;simp only[z2,Prod.mk.injEq] at e;exact absurd e.2 dcd
 ·rw[hc] at e;simp only[z2,Prod.mk.injEq] at e
  exact⟨a,ha,e1,h1,by rw[e.1]⟩
theorem Awl {e:Aa} {n:Nat} (h:EgI e n) (hn:n<=400) (k:OpE e) {o:Aq} (ho:o∈e.Open):∃ e' er,Lb e o (e.Store.Ts+1)=some (e',er) /\
  (er=0->EgI e' (n+1)/\OpE e'/\e'.Open=(e.Open.filter λx=>!decide (x.ID=o.ID))/\(∀ t,t≠o.Token->fnd e'.Toks.L t=fnd e.Toks.L t)/\∃ K' C' q,st.Laid e.Store.Keys e.Store.Chains (e.Store.Ts+1) o.Buf.L K' C'/\st.OkS K' C' (e.Store.Ts+1) (n+1)/\K'.length<=128/\(∀ w∈o.Buf.L,st.wOk w=true) /\
   q<=e.Store.Ts+1/\(∀ p∈e.Open,p.ID≠o.ID->q<=p.Snap)/\e'.Store=⟨(st.vacP q K' C').map (·.1),(st.vacP q K' C').map (·.2),e.Store.Ts+1⟩):=by
 have hop:=h.op
 have hts:=h.ts
 have hst0:=h.st.t0
 have hb:=h.bf o ho
 have hbl:=hb.len
 unfold Lb
 rw[ifq,show G8 o.Buf=some (o.Buf.L.map bf.wk) from(show G8 o.Buf=Cs o.Buf from rfl).trans (bf.keysOf_m (b:=o.Buf.L) omg),zA]
 obtain⟨c',er,hc,hc2⟩:=Akl h.cert o.ID (o.Buf.L.map bf.wk) (by rw[zP];omega)
 rw[hc,zA]
 dsimp only
 by_cases he:er=0
 ·rw[if_neg (by rw[decide_eq_true he];decide)]
  subst he
  obtain⟨a,ha,ha1,ha2,hct⟩:=Ayb h.sc o.ID _ _ (by rw[zP];omega) hc
  obtain⟨l',er2,hfi,hfi2,-⟩:=Azb h.tk o.Token o.Attempt (e.Store.Ts+1)
  rw[show Cq e.Toks o.Token o.Attempt (e.Store.Ts+1)=some (⟨l'⟩,er2) from hfi,zA]
  dsimp only
  by_cases he2:er2=0
  ·rw[if_neg (by rw[decide_eq_true he2];decide)]
   obtain⟨k1,k2,-⟩:=hfi2 he2
   rcases st.install_m h.st omg h.kl (e.Store.Ts+1) o.Buf.L omg with⟨er3,he3,hin⟩|⟨K',C',hin,hT,hwo,-,hK',hlaid,hok⟩
   ·rw[show B5 e.Store (e.Store.Ts+1) o.Buf.L=some (st.zstore,er3) from hin,zA,if_pos (by rw[decide_eq_false (show ¬ er3=0 by rcases he3 with h|⟨h,-⟩|h <;> omega)];rfl)]
    exact⟨_,_,rfl,λh=>by dsimp only at h;rcases he3 with h|⟨h,-⟩|h <;> omega⟩
   ·rw[show B5 e.Store (e.Store.Ts+1) o.Buf.L=some (⟨K',C',e.Store.Ts+1⟩,0) from hin,zA,if_neg (by show ¬ (!decide ((0:Int)=0))=true;decide),Uv e o.ID omg,zA]
    have hsc':=(hc2 rfl).sc
    obtain⟨w,hiw,hwc,-⟩:=hc2 rfl
    obtain⟨c2,hcl,hcl2,hcl3⟩:=ss.inv_clean hiw
    rw[hwc] at hcl hcl3
    have hci:CI c2 (e.Store.Ts+1) e.Next:=by
     obtain⟨c3,q1,q2⟩:=Aox (hc2 rfl)
     rw[hcl] at q1
     rw[zF q1];exact q2
    have hcl4:=hci.sc.len
    rw[hcl,zA,ss.oldest_m c2 (e.Store.Ts+1) omg,zA]
    dsimp only
    rw[st.vacS_m hok omg hK',zA]
    refine⟨_,_,rfl,λ_=>⟨⟨st.vac_ok hok _,?_,by show e.Store.Ts+1<=((n+1:Nat):Int);omega,k1,hci,yU (xK _ _) hop,λx hx=>h.bf x (yO.1 hx).1,h.nx.1,by have:=h.nx.2;show e.Next<=((n+1:Nat):Int);omega⟩,?_,rfl,k2,K',C',_,hlaid,hok,hK',hwo,?_,?_,rfl⟩⟩
    ·exact yU (st.vac_len _ K' C') hK'
    ·refine Xr k ho _ c2 ⟨l'⟩ _ (λx hx hs=>?_) (λp hp hne=>?_) k2
     ·rw[hcl3] at hx
      have hx:=(yO.1 hx).1
      rw[hct] at hx
      obtain⟨y,hy,rfl⟩:=yA.1 hx
      obtain⟨d1,d2,d3⟩:=Ut c'.Txs e.Cert.Reads.L a (e.Store.Ts+1) (o.Buf.L.map bf.wk) y
      obtain⟨d1,d2,d3⟩:=Ut e.Cert.Txs e.Cert.Reads.L a (e.Store.Ts+1) (o.Buf.L.map bf.wk) y
      have hne:y.ID≠a.ID:=λe1=>by rw[d2 e1] at hs;cases hs
      exact⟨by rw[d1];omega,y,hy,d1.symm,by rw[<- (d3 hne).1];exact hs⟩
     ·obtain⟨x,hx,b1,b2,b3,b4⟩:=k.ops p hp
      obtain⟨d1,d2,d3⟩:=Ut e.Cert.Txs e.Cert.Reads.L a (e.Store.Ts+1) (o.Buf.L.map bf.wk) x
      obtain⟨d4,d5,d6⟩:=d3 omg
      refine⟨ss.doneF e.Cert.Txs e.Cert.Reads.L a (e.Store.Ts+1) (o.Buf.L.map bf.wk) x,?_,d1.trans b1,d4.trans b2,d5.trans b3,d6.trans b4⟩
      rw[hcl3]
      refine yO.2 ⟨by rw[hct];exact yA.2 ⟨x,hx,rfl⟩,?_⟩
      rw[xQ]
      cases hg:ss.goneV c'.Txs (ss.doneF e.Cert.Txs e.Cert.Reads.L a (e.Store.Ts+1) (o.Buf.L.map bf.wk) x) with
      | false=>rfl
      | true=>have:=Aqh hg;omega
    ·split <;> omega
    ·intro p hp hne
     obtain⟨x,hx,b1,b2,b3,b4⟩:=k.ops p hp
     obtain⟨d1,d2,d3⟩:=Ut e.Cert.Txs e.Cert.Reads.L a (e.Store.Ts+1) (o.Buf.L.map bf.wk) x
     obtain⟨d4,d5,d6⟩:=d3 omg
     have hin:ss.doneF e.Cert.Txs e.Cert.Reads.L a (e.Store.Ts+1) (o.Buf.L.map bf.wk) x∈c2.Txs:=by
      rw[hcl3]
      refine yO.2 ⟨by rw[hct];exact yA.2 ⟨x,hx,rfl⟩,?_⟩
      rw[xQ]
      cases hg:ss.goneV c'.Txs (ss.doneF e.Cert.Txs e.Cert.Reads.L a (e.Store.Ts+1) (o.Buf.L.map bf.wk) x) with
      | false=>rfl
      | true=>have:=Aqh hg;omega
     have hle:=(ss.oldV_le.1 (xS (ss.oldV c2.Txs (e.Store.Ts+1)))).2 _ hin (d4.trans b2)
     have h2:=(ss.oldV_le.1 (xS (ss.oldV c2.Txs (e.Store.Ts+1)))).1
     rw[d5,b3] at hle
     split <;> omega
  ·rw[if_pos (by rw[decide_eq_false he2];rfl)]
   exact⟨_,_,rfl,λh=>absurd h he2⟩
 ·rw[if_pos (by rw[decide_eq_false he];rfl)]
  exact⟨_,_,rfl,λh=>absurd h he⟩
theorem Axw {e:Aa} {n:Nat} (h:EgI e n) (hn:n<=400) (k:OpE e) (id:Int):∃ e' ts er,Dv e id=some (e',ts,er)/\EgI e' (n+1)/\OpE e'/\(er≠0->e'.Store=e.Store)/\(∀ p∈e.Open,p.ID≠id->p∈e'.Open)/\NT e e' /\
  (er=0->∃ o∈e.Open,o.ID=id/\e'.Open=(e.Open.filter λx=>!decide (x.ID=o.ID))/\∃ K' C' q,st.Laid e.Store.Keys e.Store.Chains (e.Store.Ts+1) o.Buf.L K' C'/\st.OkS K' C' (e.Store.Ts+1) (n+1)/\K'.length<=128/\(∀ w∈o.Buf.L,st.wOk w=true) /\
   q<=e.Store.Ts+1/\(∀ p∈e.Open,p.ID≠o.ID->q<=p.Snap)/\e'.Store=⟨(st.vacP q K' C').map (·.1),(st.vacP q K' C').map (·.2),e.Store.Ts+1⟩):=by
 have hts:=h.ts
 have hst0:=h.st.t0
 unfold Dv
 rcases Am0 h omg k id with⟨o,ho,hid,hf⟩|⟨-,z,hf⟩
 ·rw[hf,zA,if_neg (by show ¬ (!decide ((0:Int)=0))=true;decide),wIo]
  dsimp only
  obtain⟨f,er2,hfi,hfi2⟩:=Awl h hn k ho
  rw[hfi,zA]
  dsimp only
  by_cases he2:er2=0
  ·rw[if_neg (by rw[decide_eq_true he2];decide)]
   obtain⟨q1,q2,q3,q5,q4⟩:=hfi2 he2
   exact⟨_,_,_,rfl,q1,q2,(λh=>absurd rfl h),(λp hp hne=>by rw[q3];exact yO.2 ⟨hp,by simpa [hid] using hne⟩),Aod ho q3 q5,λ_=>⟨o,ho,hid,q3,q4⟩⟩
  ·rw[if_pos (by rw[decide_eq_false he2];rfl)]
   obtain⟨g,g1,g2,g3,g4,-,g6,g7⟩:=X1 h k ho
   rw[g1]
   exact⟨_,_,_,rfl,g2.up (xO n),g3,(λ_=>g4),(λp hp hne=>by rw[g6];exact yO.2 ⟨hp,by simpa [hid] using hne⟩),Aod ho g6 g7,λh=>absurd h he2⟩
 ·rw[hf,zA,if_pos (by show(!decide ((7:Int)=0))=true;decide),A2e e _ (by show(7:Int)≠1;decide),zA]
  exact⟨_,_,_,rfl,h.up (xO n),k,(λ_=>rfl),(λp hp _=>hp),Pq e,λh=>by cases h⟩
theorem Bfs {e:Aa} {n:Nat} (h:EgI e n) (hn:n<=400) (k:OpE e) (o:Ic) (id:Int) (hk:o.Key.length<=50):∃ e' x,Qu e o id=some (e',x)/\x.l_.length<=8/\((x.e_=1/\e'=Bh)\/(EgI e' (n+1)/\OpE e')):=by
 unfold Qu
 by_cases c1:o.What<=1
 ·rw[ifp c1]
  obtain⟨e',i,er,h1,h2,h3,-,-,-,h4,-⟩:=A1m h hn k o.Token o.Attempt o.RO
  rw[h1]
  exact⟨_,_,rfl,by simp,.inr ⟨h2,h3⟩⟩
 rw[ifn c1]
 by_cases c3:o.What<=3
 ·rw[ifp c3]
  obtain⟨e',v,f,er,h1,h2,h3,-,-,h4⟩:=A92 h hn k id o.Key hk
  rw[h1]
  exact⟨_,_,rfl,by simp,.inr ⟨h2,h3⟩⟩
 rw[ifn c3]
 by_cases c4:o.What=4
 ·rw[ifp c4]
  obtain⟨e',l,er,h1,h2,h3,-,-,-,h4⟩:=A6z h hn k id o.Rng
  rw[h1]
  exact⟨_,_,rfl,h4,.inr ⟨h2,h3⟩⟩
 rw[ifn c4]
 by_cases c7:o.What<=7
 ·rw[ifp c7]
  obtain⟨e',er,h1,h2,h3,-,-,-,h4⟩:=A9k h hn k id ⟨o.Key,o.Val,o.Del⟩
  rw[h1]
  exact⟨_,_,rfl,by simp,.inr ⟨h2,h3⟩⟩
 rw[ifn c7]
 by_cases c10:o.What<=10
 ·rw[ifp c10]
  obtain⟨e',ts,er,h1,h2,h3,-,-,h4,-⟩:=Axw h hn k id
  rw[h1]
  exact⟨_,_,rfl,by simp,.inr ⟨h2,h3⟩⟩
 rw[ifn c10]
 by_cases c11:o.What=11
 ·rw[ifp c11]
  obtain⟨e',er,h1,h2,h3,-,-,-,h4⟩:=A1k h hn k id
  rw[h1]
  exact⟨_,_,rfl,by simp,.inr ⟨h2,h3⟩⟩
 rw[ifn c11]
 by_cases c12:o.What=12
 ·rw[ifp c12]
  obtain⟨e',ts,er,h1,h2⟩:=Ayd h hn k o.Token o.Attempt
  rw[h1]
  exact⟨_,_,rfl,by simp,by rcases h2 with h2|h2;exact .inl h2;exact .inr ⟨h2.1,h2.2.1⟩⟩
 rw[ifn c12]
 obtain⟨e',er,h1,h2⟩:=Aty h hn k o.Token
 rw[h1]
 exact⟨_,_,rfl,by simp,by rcases h2 with h2|h2;exact .inl h2;exact .inr ⟨h2.1,h2.2.1⟩⟩
theorem Ayn:OpE Bh:=⟨λx hx=>(by cases hx),λx hx=>(by cases hx),λx hx=>(by cases hx),List.Pairwise.nil,List.Pairwise.nil,λx hx=>(by cases hx)⟩
namespace bf
theorem Adm (a b:List UInt8) (ha:a.length<=1000000000000000000):Ck a b=some (Ce a b):=by
 obtain⟨v,hv,hr⟩:=B9 (f:=Q5 a b) (P:=λs=>∃ i:Nat,s=(i:Int)/\i<=a.length/\i<=b.length/\Ce a b=Ce (a.drop i) (b.drop i)) (μ:=λs=>a.length-s.toNat)
  (R:=λv=>v.elim id (λ_=>if a.length<b.length then -1 else if b.length<a.length then 1 else 0)=Ce a b) (by
  rintro _ ⟨i,rfl,h1,h2,h3⟩
  unfold Q5
  by_cases ha':i<a.length
  ·rw[ifo]
   by_cases hb':i<b.length
   ·have ea:=zC ha'
    have eb:=zC hb'
    have e:=Awa ea eb
    rw[ifo]
    unfold Wd
    rw[Ak,Ak,ea,eb]
    simp only[zA]
    by_cases hx:a[i]<b[i]
    ·rw[ifp ((Abh _ _).2 hx)]
     exact .inr (.inr ⟨_,rfl,by rw[h3,e,if_pos hx];rfl⟩)
    ·rw[ifn (λh=>hx ((Abh _ _).1 h))]
     by_cases hy:b[i]<a[i]
     ·rw[ifp ((Abh _ _).2 hy)]
      exact .inr (.inr ⟨_,rfl,by rw[h3,e,if_neg hx,if_pos hy];rfl⟩)
     ·rw[ifn (λh=>hy ((Abh _ _).1 h)),wIo]
      exact .inl ⟨_,rfl,⟨i+1,rfl,ha',hb',by rw[h3,e,if_neg hx,if_neg hy]⟩,omg⟩
   ·rw[ifq]
    refine .inr (.inl ⟨_,rfl,?_⟩)
    have:i=b.length:=by omega
    rw[h3,this,kY,xB omg]
    show(if _ then _ else _)=(1:Int)
    rw[if_neg omg,if_pos omg]
  ·rw[ifq]
   refine .inr (.inl ⟨_,rfl,?_⟩)
   have:i=a.length:=by omega
   rw[h3,this,kY]
   show(if _ then _ else _)=_
   by_cases hb':a.length<b.length
   ·rw[xB hb',if_pos hb'];rfl
   ·rw[wN omg,if_neg hb',if_neg omg];rfl) fuel 0 ⟨0,rfl,zU _,zU _,rfl⟩ (Bb (by show a.length-0<=_;omega))
 unfold Ck
 rw[hv,zA,<- hr]
 cases v with
 | inl r=>rfl
 | inr u =>
  show Rk a b u=some (if a.length<b.length then(-1:Int) else if b.length<a.length then 1 else 0)
  unfold Rk
  by_cases h1:a.length<b.length
  ·rw[ifo,if_pos h1]
  ·rw[ifq,if_neg h1]
   by_cases h2:b.length<a.length
   ·rw[ifo,if_pos h2]
   ·rw[ifq,if_neg h2]
theorem Ao2 (r:Aj) (k:List UInt8) (h:k.length<=1000000000000000000):J6 r k=some (Pu r k):=by
 unfold J6 Pu
 simp only[Adm _ _ h,zA]
 cases decide (0<=Ce k r.Lo) <;> cases r.Open <;> simp
theorem rsaneR (r:Aj):Hr r=Br r:=by
 unfold Hr Br
 have e:(decide ((r.Hi.length:Int)=0)) = !decide (0<(r.Hi.length:Int)):=by
  rw[<- decide_not,decide_eq_decide];omega
 rw[e]
 cases r.Open <;> rfl
theorem rempty_m (r:Aj) (h:r.Hi.length<=1000000000000000000):Nf r=some (emptyV r):=by
 rw[<- empty_m]
 obtain⟨lo,hi,o⟩:=r
 unfold Nf Ex E2
 simp only[Adm _ _ h,Afg,zA]
 cases o with
 | true=>rfl
 | false =>
  rcases lo with _|⟨z,zs⟩
  ·rcases hi with _|⟨x,_|⟨y,ys⟩⟩
   ·rfl
   ·rw[show idx [x] 0=some x from rfl]
    simp only[zA]
    cases decide ((x.toBitVec.toNat:Int)=0) <;> cases decide (Ce [x] []<=0) <;> rfl
   ·rw[show decide (((x::y::ys).length:Int)=1)=false from decide_eq_false (by simp;omega)]
    cases decide (Ce (x::y::ys) []<=0) <;> rfl
  ·rw[show decide (((z::zs).length:Int)=0)=false from decide_eq_false (by simp;omega)]
   cases decide (Ce hi (z::zs)<=0) <;> rfl
theorem rone_m (a:List UInt8) (h:a.length<=1000000):Ux a=some ⟨a,a++[0],false⟩:=by
 unfold Ux
 rw[if_pos (by simp;omega),if_pos (by simp;omega)]
 simp
theorem Ahy (xs:Keys) (hx:∀ x∈xs,x.length<=1000000000000000000):Hm xs=Bi xs:=by
 have:Np xs=Bm xs:=by
  funext s
  unfold Np Bm
  cases h:idx xs (wI (s-1)) with
  | none=>rfl
  | some u=>simp only[zA,Afg,Adm u _ (hx u (idx_mem h))]
 unfold Hm Bi
 rw[this];rfl
theorem At4 (xs:Keys) (k:List UInt8) (hn:xs.length<=1000000000000000000) (hx:∀ x∈xs,x.length<=1000000000000000000):M1 xs k=some ((kat xs k:Int),hit xs k):=by
 obtain⟨v,hv,hr⟩:=Aw9 xs (λx=>decide (0<=Ce x k)) (λi x=>((i:Int),decide (Ce x k=0))) (K:=λi u=>(Ck u k).bind λv=>if decide (0<=v)=true then(idx xs i).bind λu=>(Ck u k).bind λv=>some (.ret (i,decide (v=0))) else some (.cont (wI (i+1)))) hn (λi x h=>by
  simp only[Adm x k (hx x (zD h)),zA,Ak,h]
  split <;> rfl)
 unfold M1
 rw[show B7 (Vn xs k) fuel 0=some v from hv]
 rcases hr with⟨x,hx,rfl⟩|⟨e,rfl⟩
 ·show some (_,_)=_
  unfold hit kat
  rw[hx,Adf];rfl
 ·show some (_,_)=_
  unfold hit kat
  rw[e,zZ (zT _)];rfl
theorem Avm (xs:Keys) (k:List UInt8) (hn:xs.length<=100000) (hx:∀ x∈xs,x.length<=1000000):My xs k=some (ins xs k):=by
 unfold My
 rw[At4 xs k omg (λx h=>by have:=hx x h;omega)]
 simp only[zA]
 have hle:=Afu xs k
 unfold ins
 cases hh:hit xs k with
 | true=>rw[if_pos rfl,if_pos rfl,if_pos (by simp;omega)];rfl
 | false =>
  rw[if_neg (by simp),if_neg (by simp),Tq (xS _) omg omg]
  simp only[zA]
  rw[if_pos (by simp;omega),if_pos (by simp;omega),Tq omg omg (xS _)]
  simp only[zA]
  rw[if_pos (by simp;omega)]
  simp
  rw[yJ (by simp)]
end bf
theorem Aye (l:List E12) (t:Int) (hl:l.length<=1000000):Gs ⟨l⟩ t=some (if ix l t<l.length then(ix l t:Int) else -1):=by
 have h:B7 (Ty ⟨l⟩ t) fuel 0=some (if ix l t<l.length then .inl (ix l t:Int) else .inr ()):=A1f l _ _ omg (λi x _=>by split <;> rfl)
 unfold Gs
 rw[h]
 split <;> rfl
theorem Amh (t a:Int):Hs t a=some (sN t a):=by
 unfold Hs sN
 by_cases h1:0<=t <;> by_cases h2:t<=1099511627776 <;> by_cases h3:0<=a <;> simp [h1,h2,h3]
theorem Agh {l:List E12} (ok:OkT l):Gi ⟨l⟩=some true:=by
 have hn:=ok.n
 have h:B7 (U3 ⟨l⟩) fuel 0=some (.inr ()):=V4 l omg (λi x hx=>by
  have e:=ok.e x (zD hx)
  rw[Amh,Aye _ _ (by omega),(Agl ok hx rfl).1,if_pos (zB.1 hx).1]
  unfold sE at e
  unfold U8 Ll Ln
  split at e
  ·rename_i hs
   obtain⟨e1,e2⟩:=(zG ..).mp e
   rw[e1]
   rcases hs with hs|hs <;> simp [hs,of_decide_eq_true e2]
  ·split at e
   ·rename_i h2
    obtain⟨e1,e2⟩:=(zG ..).mp e
    have e2:=of_decide_eq_true e2
    rw[e1]
    simp [h2,e2]
   ·cases e)
 unfold Gi
 rw[h]
 show some (decide ((l.length:Int)<=32))=_
 rw[decide_eq_true omg]
theorem Aj1 {l:List E12} (hl:l.length<=1000000) (t:Int):Ij ⟨l⟩ t=Dc ⟨l⟩ t:=by
 rw[Wf hl]
 unfold Ij
 rw[Aye _ _ hl,zA]
 by_cases h:ix l t<l.length
 ·rw[if_pos h,ifq,Ak]
  show(l[ix l t]?).bind _=some (match l[ix l t]? with|some x=>(x,true)|none=>(e00,false))
  rw[zC h];rfl
 ·rw[if_neg h,ifo]
  show _=some (match l[ix l t]? with|some x=>(x,true)|none=>(e00,false))
  rw[zZ (Nat.not_lt.1 h)];rfl
theorem Anz {l:List E12} (ok:OkT l) (x:E12):Ka ⟨l⟩ x=B4 ⟨l⟩ x:=by
 have hn:=ok.n
 rw[Axq ok]
 unfold Ka
 have h32:=Ajd l x.Tok
 rw[Aye _ _ omg,zA,if_pos (by simp;omega)]
 show(if decide (0<=if ix l x.Tok<l.length then(ix l x.Tok:Int) else -1)=true then(idx l _).bind _ else _)=_
 by_cases h:ix l x.Tok<l.length
 ·rw[if_pos h,ifo,Ak,zC h,if_neg omg]
  show some ((⟨l.set ((ix l x.Tok:Int)).toNat x⟩:Ah),(0:Int))=_
  unfold Aj6
  rw[if_pos h];rfl
 ·rw[if_neg h,ifq]
  have e:ix l x.Tok=l.length:=by omega
  rw[e]
  by_cases h2:32<=l.length
  ·rw[ifo (by show(32:Int)<=(l.length:Int);omega),if_pos h2]
  ·rw[ifq (by show ¬ (32:Int)<=(l.length:Int);omega),if_pos (by simp;omega),if_neg h2]
   unfold Aj6
   rw[if_neg h];rfl
theorem Ayu {l:List E12} (ok:OkT l) (t a:Int):Nk ⟨l⟩ t a=Ee ⟨l⟩ t a:=by
 have hn:=ok.n
 unfold Nk Ee Vj L5 Po Pp
 rw[Agh ok,Abr ok,Amh,Kh,Aj1 omg,Wf omg]
 simp only[Anz ok,zA]
theorem Apd {l:List E12} (ok:OkT l) (t a:Int):Lc ⟨l⟩ t a=Bp ⟨l⟩ t a:=by
 have hn:=ok.n
 unfold Lc Bp Ub L6 N5 N1
 rw[Agh ok,Abr ok,Amh,Kh,Aj1 omg,Wf omg]
 simp only[Anz ok,zA]
 cases hs:sN t a with
 | false=>rfl
 | true =>
  have ha:=(of_decide_eq_true hs).2.2.1
  cases fnd l t with
  | none =>
   have e:(if a > (0:Int) then a else 0)=a:=by split <;> omega
   show _=(B4 ⟨l⟩ ⟨t,if a > (0:Int) then a else 0,3,0⟩).bind _
   rw[e];rfl
  | some x =>
   have e:(if x.Attempt > a then x.Attempt else a)=if a > x.Attempt then a else x.Attempt:=by split <;> split <;> omega
   simp [e]
theorem A60 {l:List E12} (ok:OkT l) (t a ts:Int):Oq ⟨l⟩ t a ts=Cq ⟨l⟩ t a ts:=by
 have hn:=ok.n
 unfold Oq Cq T6 J5 N9 Tt
 rw[Agh ok,Abr ok,Amh,Kh,Aj2,Aj1 omg,Wf omg]
 simp only[Anz ok,zA]
 cases sN t a
 ·rfl
 ·by_cases h1:ts<1
  ·simp [sTs,h1,show ¬ 1<=ts from omg]
  ·by_cases h2:1099511627776<ts
   ·simp [sTs,h1,h2,show ¬ ts<=1099511627776 from omg]
   ·rw[ifq,ifq,show sTs ts=true from decide_eq_true ⟨omg,omg⟩]
    cases fnd l t <;> simp <;> rfl
theorem A6d {l:List E12} (ok:OkT l) (t:Int):L0 ⟨l⟩ t=C7 ⟨l⟩ t:=by
 have hn:=ok.n
 unfold L0 C7 Rp Jq
 rw[Agh ok,Abr ok,Amh,Kh,Wf omg,Aye _ _ omg,Oa _ _ omg]
 simp only[zA]
 have hle:=Ajd l t
 cases sN t 0
 ·rfl
 simp only[yK,zV,if_false]
 by_cases h:ix l t<l.length
 ·have hf:fnd l t=some l[ix l t]:=zC h
  rw[hf,if_pos h,ifq,Ak,zC h,wIo,Tq omg omg omg,Tq omg omg omg]
  simp only[zA]
  by_cases h1:l[ix l t].State=1
  ·rw[ifp h1];simp [h1]
  ·rw[ifn h1,if_pos (by simp;omega),if_pos (by simp;omega),Qa _ (by simp;omega) (by simp)]
   simp [h1]
 ·have hf:fnd l t=none:=zZ omg
  rw[hf,if_neg h];rfl
namespace ss
open bf
theorem Azz (x:Ac):O4 x=some (srV x):=by
 rw[<- Bao]
 unfold O4 B6
 rw[rsaneR]
 cases decide (0<=x.Tx)
 ·rfl
 ·by_cases h:x.Rng.Hi.length<=17
  ·simp only[rempty_m x.Rng omg,empty_m]
  ·have:Br x.Rng=some false:=by
    unfold Br
    rw[ifn (p:=(x.Rng.Hi.length:Int)<=17) omg];split <;> rfl
   rw[this];rfl
theorem Afb (a b:Ac):∃ c,Eo a b=some c/\(c=true↔a=b):=by
 obtain⟨t,lo,hi,op⟩:=a
 obtain⟨t',lo',hi',op'⟩:=b
 unfold Eo Mk
 by_cases h1:t=t' <;> by_cases h2:lo=lo' <;> by_cases h3:hi=hi' <;> simp [h1,h2,h3]
theorem As3 {l:List Ac} (h:Good l):Mi ⟨l⟩=some true:=by
 have hl:=h.len
 have e:B7 (Vb ⟨l⟩) fuel 0=some (.inr ()):=V4 l omg (λi x hx=>by
  have hlt:=(zB.1 hx).1
  have e2:B7 (U2 ⟨l⟩ i) fuel 0=some (.inr ()):=A1y l (Nat.le_of_lt hlt) omg (λj y hj hy=>by
   dsimp only
   rw[Ak,hx]
   obtain⟨c,hc,hi⟩:=Afb y x
   have:c=false:=jJ.2 λe=>by
    obtain⟨h1,h2⟩:=zB.1 hy
    obtain⟨h3,h4⟩:=zB.1 hx
    exact z7.1 h.nd j i h1 h3 hj (by rw[h2,h4];exact hi.1 e)
   rw[zA,hc,this];rfl)
  rw[Azz,h.sr x (zD hx),zA,if_neg smp,e2];rfl)
 unfold Mi
 rw[e]
 show some (decide ((l.length:Int)<=128))=_
 rw[decide_eq_true omg]
theorem A5q {l:List Ac} (h:Good l) (tx:Int) (r:Aj):Sc ⟨l⟩ tx r=D1 ⟨l⟩ tx r:=by
 have hl:=h.len
 unfold Sc
 rw[As3 h,Azz,zA,zA,if_neg smp]
 rcases A74 (l:=l) omg tx r with⟨_,hs,hr⟩|⟨hn,e⟩
 ·rw[hs,if_neg smp]
  unfold Wj
  have e:∀ b:Bool,(b=true↔(⟨tx,r⟩:Ac)∈l)->B7 (Xb ⟨l⟩ tx r) fuel 0=some (if b then .inl (⟨l⟩,0) else .inr ()):=λb hb=>by
   obtain⟨v,hv,hr⟩:=Aw9 l (λx=>(Eo x ⟨tx,r⟩).getD false) (λ_ _=>((⟨l⟩:Am),(0:Int))) (K:=λi u=>(Eo u ⟨tx,r⟩).bind λv=>if v then some (.ret (⟨l⟩,0)) else some (.cont (wI (i+1)))) omg (λi x _=>by
    obtain⟨c,hc,_⟩:=Afb x ⟨tx,r⟩
    rw[hc];cases c <;> rfl)
   refine Eq.trans hv (congrArg some ?_)
   rcases hr with⟨x,hx,rfl⟩|⟨hx,rfl⟩
   ·obtain⟨c,hc,hi⟩:=Afb x ⟨tx,r⟩
    have hlt:=(zB.1 hx).1
    have hp:(Eo l[l.findIdx _] ⟨tx,r⟩).getD false=true:=kE (w:=hlt)
    rw[(zB.1 hx).2,hc] at hp
    rw[if_pos (hb.2 (hi.1 hp ▸ zD hx))]
   ·rw[if_neg λhc=>?_]
    have:=j8.1 hx _ (hb.1 hc)
    obtain⟨c,hc,hi⟩:=Afb ⟨tx,r⟩ ⟨tx,r⟩
    rw[hc,yS,hi.2 rfl] at this;cases this
  rcases hr with⟨hin,e'⟩|⟨hin,hr⟩
  ·rw[e true ⟨λ_=>hin,λ_=>rfl⟩,e'];rfl
  ·rw[e false ⟨λh=>(by cases h),λh=>absurd h hin⟩]
   show Rq ⟨l⟩ tx r ()=_
   unfold Rq
   dsimp only
   rcases hr with⟨h8,e'⟩|⟨h8,e',_⟩
   ·rw[e',ifo]
   ·rw[e',ifq,if_pos (by simp;omega),if_pos (by simp;omega)];rfl
 ·cases hs:srV ⟨tx,r⟩
  ·rw[e];rfl
  ·exact absurd ⟨h,hs⟩ hn
theorem A5i (t:Int) (txs:List Int) (hl:txs.length<=1000000):Ov t txs=some (decide (t∈txs)):=by
 have e:B7 (Uc t txs) fuel 0=some (if _ then .inl true else .inr ()):=A1f txs (λy=>decide (y=t)) (λ_=>true) omg (λi y _=>by split <;> rfl)
 unfold Ov
 rw[e]
 by_cases h:t∈txs
 ·rw[decide_eq_true h,if_pos (List.findIdx_lt_length_of_exists ⟨t,h,decide_eq_true rfl⟩)];rfl
 ·rw[decide_eq_false h,if_neg λhc=>h ?_];rfl
  have:=kE (w:=hc)
  rw[<- of_decide_eq_true this]
  exact yW hc
theorem A3i {l:List Ac} (hl:l.length<=1000000) (txs:List Int) (ht:txs.length<=1000000):Qg ⟨l⟩ txs=some ⟨Tl l txs false⟩:=by
 have e:Be (Se ⟨l⟩ txs false) fuel (0,[])=some ((l.filter λx=>decide (x.Tx∈txs)==false).map id):=A2b l _ _ 64 omg omg (λi x acc hx=>by
  dsimp only
  rw[A5i _ _ ht,zA,Ak,hx];rfl)
 unfold Qg Rh
 rw[e,wR];rfl
theorem Ba3 {l:List Int} (hl:l.length<=1000000):∃ r,Nr l=some r/\(∀ x,x∈r↔x∈l)/\r.length<=l.length:=by
 obtain⟨v,hv,h1,h2⟩:=Bo (f:=Pm l) (P:=λs=>∃ i:Nat,i<=l.length/\s.2=(i:Int)/\(∀ x,x∈s.1↔x∈l.take i)/\s.1.length<=i) (μ:=λs=>l.length-s.2.toNat)
  (R:=λv=>(∀ x,x∈v↔x∈l)/\v.length<=l.length) (by
  rintro⟨o,_⟩ ⟨i,hi,rfl,hm,ho⟩
  dsimp only at hm ho
  unfold Pm
  dsimp only
  rcases zQ i l.length with hlt|hge
  ·left
   have hx:=zC hlt
   have ht:∀ x,x∈l.take (i+1)↔x∈o\/x=l[i]:=λx=>by rw[zO hlt,yG,z8,hm]
   obtain⟨_,hk,k,hkl,rfl⟩:=Bo (f:=N8 l (o,(i:Int))) (P:=λs=>∃ j:Nat,j<=o.length/\s=(j:Int)) (μ:=λs=>o.length-s.toNat) (R:=λv=>∃ j:Nat,j<=o.length/\v=(j:Int)) (by
    rintro _ ⟨j,hj,rfl⟩
    unfold N8
    dsimp only
    rcases zQ j o.length with h|h
    ·rw[ifo,Ak,Ak,hx,zC h,zA,zA]
     split
     ·exact .inl ⟨_,rfl,⟨j+1,h,wIo⟩,by rw[wIo];omega⟩
     ·exact .inr ⟨_,rfl,j,hj,rfl⟩
    ·rw[ifq];exact .inr ⟨_,rfl,j,hj,rfl⟩) fuel 0 ⟨0,zU _,rfl⟩ (Bb (by show o.length-0<=_;omega))
   rw[ifo,hk,zA]
   unfold U4
   dsimp only
   have hl4:∃ s',Ly l (o,(i:Int)) k ()=some (.cont s')/\(∃ i:Nat,i<=l.length/\s'.2=(i:Int)/\(∀ x,x∈s'.1↔x∈l.take i)/\s'.1.length<=i)/\l.length-s'.2.toNat<l.length-((i:Nat):Int).toNat:=by
    unfold Ly
    dsimp only
    rw[Tq (xS _) omg omg,Tq omg omg (xS _),Ak,hx]
    simp only[zA]
    rw[if_pos (by simp;omega),if_pos (by simp;omega),if_pos (by simp;omega),wIo]
    refine⟨_,rfl,⟨i+1,hlt,rfl,λx=>?_,by simp;omega⟩,by dsimp only;omega⟩
    rw[ht]
    have:x∈o↔x∈o.take k\/x∈o.drop k:=by rw[<- yG,xP]
    rw[this]
    simp [yJ,or_comm,or_left_comm,or_assoc]
   split
   ·rename_i hk2
    have hk2:=of_decide_eq_true hk2
    rw[Ak,Ak,hx,zC (show k<o.length from omg),zA,zA]
    split
    ·rename_i he
     refine⟨_,rfl,⟨i+1,hlt,wIo,λx=>?_,Nat.le_succ_of_le ho⟩,by rw[wIo];dsimp only;omega⟩
     rw[ht]
     exact⟨.inl,λh=>h.elim id λe=>by rw[e,<- of_decide_eq_true he];exact yW _⟩
    ·exact hl4
   ·exact hl4
  ·rw[ifq]
   rw[yJ hge] at hm
   exact .inr ⟨_,rfl,hm,omg⟩) fuel ([],0) ⟨0,zU _,rfl,λx=>by simp,zT _⟩ (Bb (by show l.length-0<=_;omega))
 unfold Nr
 rw[hv]
 exact⟨v,rfl,h1,h2⟩
theorem A1d {l:List Ac} (hl:l.length<=1000000) (k:List UInt8) (hk:k.length<=1000000):∃ r,Qi ⟨l⟩ k=some r/\(∀ x,x∈r↔x∈Adz (Vt l k))/\r.length<=l.length:=by
 have e:Be (Ve ⟨l⟩ k) fuel (0,[])=some ((l.filter λx=>Pu x.Rng k).map (·.Tx)):=A2b l _ _ 8 omg omg (λi x acc hx=>by
  dsimp only
  rw[Ao2 _ _ omg,zA,Ak,hx];rfl)
 have hn:(Vt l k).length<=l.length:=by unfold Vt;rw[zP];exact xK _ _
 obtain⟨r,hr,hm,hrl⟩:=Ba3 (l:=Vt l k) omg
 refine⟨r,?_,λx=>(hm x).trans Amo.symm,yU hrl hn⟩
 unfold Qi
 rw[e]
 show(Nr (Vt l k)).bind _=_
 rw[hr];rfl
theorem rrefl10 {l:List Ac} (hl:l.length<=1000000):Qp ⟨l⟩ ⟨l⟩=some true:=by
 have e:B7 (Va ⟨l⟩ ⟨l⟩) fuel 0=some (.inr ()):=V4 l omg (λi x hx=>by
  dsimp only
  obtain⟨c,hc,hi⟩:=Afb x x
  rw[Ak,hx,zA,hc,hi.2 rfl];rfl)
 unfold Qp
 rw[ifz,e];rfl
end ss
namespace ss
open bf
theorem SC.idu {c:Af} (h:SC c) (id:Int):c.Txs.Pairwise λa b=>¬ (decide (a.ID=id)=true/\decide (b.ID=id)=true) :=
 h.ids.imp λhne ⟨h1,h2⟩=>hne ((of_decide_eq_true h1).trans (of_decide_eq_true h2).symm)
theorem A05 (l:List Ag) (id:Int) (hl:l.length<=1000000):Cu l id=some (if l.findIdx (λx=>decide (x.ID=id))<l.length then(l.findIdx (λx=>decide (x.ID=id)):Int) else -1):=by
 have h:B7 (Ug l id) fuel 0=some (if _ then .inl _ else .inr ()):=A1f l (λx=>decide (x.ID=id)) (λi=>(i:Int)) omg (λi x _=>by split <;> rfl)
 unfold Cu
 rw[h]
 split <;> rfl
theorem Aky {c:Af} (h:SC c) (id:Int):Cu c.Txs id=Ew c id:=by
 have hl:=h.len
 rw[A05 _ _ omg]
 rcases Oa c id omg with⟨h1,e⟩|⟨i,x,hx,hid,e⟩
 ·rw[e,if_neg λhlt=>h1 _ (yW hlt) (of_decide_eq_true (kE (w:=hlt)))]
 ·rw[e,A4w (h.idu id) hx (decide_eq_true hid),if_pos (zB.1 hx).1]
theorem rfind11 {c:Af} (h:SC c) (id:Int):Qd c id=F6 c id:=by
 unfold Qd F6
 rw[Aky h]
theorem Aza (k:List UInt8):D6 k=Co k:=rfl
theorem Azj {K:Keys} (h:KS K) (hn:K.length<=1000000):Pe K=some true:=by
 have e:B7 (Wc K) fuel 0=some (.inr ()):=V4 K omg (λi x hx=>by
  rw[Aza,Alg,decide_eq_true (h.each x (zD hx))];rfl)
 unfold Pe
 rw[e]
 show(Hm K).bind _=_
 rw[Ahy K (λx hx=>by have:=(h.each x hx).2;omega),Yg h.pw omg];rfl
theorem A0u {x:Ag} (h:Amz x KS) (hn:x.Keys.length<=1000000):O8 x=some true:=by
 obtain⟨h1,h2,h3⟩:=h
 unfold O8
 have:=h2.1
 have hm:maxTs=1099511627776:=rfl
 rw[ifq,ifq,ifq]
 unfold Wu
 rcases h3 with⟨s1,s2,s3⟩|⟨s1,s2,s3,s4,s5⟩
 ·rw[ifp s1,ifp s2,s3];rfl
 ·rw[ifq,ifp s1,ifp s2,ifo,Azj s4 hn]
  cases hr:x.RO
  ·rfl
  ·have:x.Keys=[]:=Classical.byContradiction λe=>s5 ⟨hr,e⟩
   rw[this];rfl
theorem rsane11 {c:Af} (h:SC c):H7 c=some true:=by
 have hl:=h.len
 have hr:=h.gr.len
 have e1:B7 (Vo c) fuel 0=some (.inr ()):=V4 c.Txs omg (λi x hx=>by
  have hm:=zD hx
  have hlt:=(zB.1 hx).1
  have e2:B7 (Kl c i x) fuel 0=some (.inr ()):=Axb (n:=i) omg (λj hj=>by
   have hy:=zC (zAh hj hlt)
   unfold Kl
   rw[ifo,Ak,hy]
   simp only[zA]
   by_cases s1:x.State=2
   ·by_cases s2:c.Txs[j].State=2
    ·rw[ifp s1,ifp s2,ifn λe=>?_]
     have:=h.ends _ (yW (zAh hj hlt)) x hm s2 s1 e
     obtain⟨q1,q2⟩:=zB.1 hx
     exact z7.1 h.ids j i _ q1 hj (by rw[q2];exact this)
    ·rw[ifp s1,ifn s2]
   ·rw[ifn s1]) (by
   unfold Kl
   rw[ifq])
  rw[A0u (h.each x hm) (by have:=h.keys x hm;omega),zA,if_neg smp,A05 _ _ omg,A4w (h.idu x.ID) hx (decide_eq_true rfl),if_pos hlt,zA,ifz]
  unfold Ua
  rw[e2];rfl)
 have e3:B7 (Vl c) fuel 0=some (.inr ()):=V4 c.Reads.L omg (λi x hx=>by
  obtain⟨y,hy,e⟩:=h.ri x (zD hx)
  rw[A05 _ _ omg,if_pos (List.findIdx_lt_length_of_exists ⟨y,hy,decide_eq_true e⟩),zA,ifq])
 unfold H7
 rw[e1]
 show Ps c ()=_
 unfold Ps
 rw[e3]
 show Pl c ()=_
 unfold Pl
 rw[ifo,show c.Reads=⟨c.Reads.L⟩ from rfl,As3 h.gr];rfl
theorem A12 {c:Af} (hl:c.Txs.length<=1000000):Ef c=some (c.Reads.L,c.Txs):=by
 unfold Ef
 rw[if_pos (by simp;omega)];rfl
theorem rbegin11 {c:Af} (h:SC c) (id snap:Int) (ro:Bool) (h0:0<=id) (h1:0<=snap) (h2:snap<=maxTs):M6 c id snap ro=Es c id snap ro:=by
 have hl:=h.len
 have hs:Amz ⟨id,snap,0,1,false,false,ro,[]⟩ KS:=⟨h0,⟨h1,h2⟩,.inl ⟨rfl,rfl,rfl⟩⟩
 unfold M6 Es U5
 rw[rsane11 h,sane_c h,A0u hs (by simp),Ajj hs (by simp),Aky h,A12 omg,Py _ (by simp;omega) (by simp)]
 simp [show(c.Txs.length+1)*64<=140737488355328 from omg]
theorem A6f {c:Af} (h:SC c) (g:List Int) (hg:g.length<=1000000):Eg c g=Fu c g:=by
 have hl:=h.len
 have hr:=h.gr.len
 rw[Aan h g hg]
 unfold Eg
 rw[show c.Reads=⟨c.Reads.L⟩ from rfl,A3i omg g hg,zA]
 have e:Be (Hz c g) fuel (0,Tl c.Reads.L g false,[])=some (Tl c.Reads.L g false,(c.Txs.filter λx=>!decide (x.ID∈g)).map id):=Azk (λacc i=>((i:Int),Tl c.Reads.L g false,acc)) c.Txs _ _ (λacc=>(Tl c.Reads.L g false,acc)) omg (λacc i x hx ha=>by
  have hlt:=(zB.1 hx).1
  have e2:Be (Hy c g ((i:Int),Tl c.Reads.L g false,acc)) fuel (false,0,Tl c.Reads.L g false)=some (false||g.any λy=>decide (y=x.ID),Tl c.Reads.L g false):=A9t (λb j=>(b,(j:Int),Tl c.Reads.L g false)) g _ (λb=>(b,Tl c.Reads.L g false)) omg (λb j y hy=>by
   have:=(zB.1 hy).1
   unfold Hy
   dsimp only
   rw[ifo,Ak,Ak,hx,hy,wIo]
   cases b <;> rfl) (λb=>by unfold Hy;rw[ifq (by dsimp only;omega)]) false
  unfold Hz Rf
  dsimp only
  rw[ifo,e2,zA,Ak,hx,Bool.false_or,wIo]
  dsimp only
  have:(g.any λy=>decide (y=x.ID))=decide (x.ID∈g):=by rw[jW];simp
  rw[this]
  cases decide (x.ID∈g)
  ·show(if (acc.length+1)*64<=140737488355328 then _ else _)=_
   rw[if_pos omg];rfl
  ·rfl) (λacc=>by unfold Hz;rw[ifq (by dsimp only;omega)])
 rw[e,wR];rfl
theorem rab11 {c:Af} (h:SC c) (id:Int):Oo c id=Cb c id:=by
 have hl:=h.len
 unfold Oo Cb Cm Uf
 rw[Aky h,A6f h [id] (by simp)]
 rcases Oa c id omg with⟨_,e⟩|⟨i,x,hx,_,e⟩
 ·rw[e];rfl
 ·rw[e,zA,zA,ifq,ifq,Ak,hx,zA,zA]
  cases decide (x.State=1)
  ·rfl
  ·rw[if_neg smp,if_neg smp,zA,ifq]
theorem rold11 (c:Af) (now:Int) (hl:c.Txs.length<=1000000):Na c now=some (oldV c.Txs now):=by
 have e:Be (I2 c) fuel (now,0)=some (oldV c.Txs now):=Ax9 (λm i=>(m,(i:Int))) c.Txs _ id (λ_ _=>True) omg (λm i x hx _=>by
  have:=(zB.1 hx).1
  unfold I2
  dsimp only
  rw[ifo,Ak,hx,wIo]
  by_cases hs:x.State=1
  ·rw[if_pos hs];simp only[zA];rw[ifp hs];exact⟨rfl,trivial⟩
  ·rw[if_neg hs];simp only[Option.bind_some];rw[ifn hs];exact⟨rfl,trivial⟩) (λm _=>by unfold I2;rw[ifq (by dsimp only;omega)];rfl) now trivial
 unfold Na
 rw[e];rfl
theorem rclean11 {c:Af} (h:SC c):Qj c=Gp c:=by
 have hl:=h.len
 have e:Be (Ls c) fuel (0,[])=some ((c.Txs.filter (goneV c.Txs)).map (·.ID)):=Azk (λacc i=>((i:Int),acc)) c.Txs _ _ id omg (λacc i x hx ha=>by
  have hlt:=(zB.1 hx).1
  have e2:Be (Lk c ((i:Int),acc)) fuel (!decide (x.State=2),0)=some ((!decide (x.State=2))||c.Txs.any λy=>decide (y.State=1)&&decide (y.Begin<x.End)):=A9t (λb j=>(b,(j:Int))) c.Txs _ id omg (λb j y hy=>by
   have:=(zB.1 hy).1
   unfold Lk
   dsimp only
   rw[ifo,Ak,Ak,hx,hy,wIo]
   cases b <;> by_cases h1:y.State=1 <;> simp [h1]) (λb=>by unfold Lk;rw[ifq (by dsimp only;omega)];rfl) _
  have e3:(!((!decide (x.State=2))||c.Txs.any λy=>decide (y.State=1)&&decide (y.Begin<x.End)))=goneV c.Txs x:=by
   rw[jW,Alc]
   simp
  unfold Ls U6
  dsimp only
  rw[ifo,Ak,hx,zA,e2,zA,e3,wIo]
  cases goneV c.Txs x
  ·rfl
  ·show(if (acc.length+1)*8<=140737488355328 then _ else _)=_
   rw[if_pos omg];rfl) (λacc=>by unfold Ls;rw[ifq (by dsimp only;omega)];rfl)
 rw[Aut h,<- Aan h]
 unfold Qj
 rw[e,<- A6f h]
 ·show(Eg c _).bind some=_
  cases Eg c _ <;> rfl
 all_goals
  rw[zP]
  have:=xK (goneV c.Txs) c.Txs
  omega
end ss
namespace ss
open bf
theorem SC.kl {c:Af} (h:SC c) {x:Ag} (hx:x∈c.Txs) {k:List UInt8} (hk:k∈x.Keys):k.length<=1000000:=by
 rcases(h.each x hx).st with⟨_,_,e⟩|⟨_,_,_,e,_⟩
 ·rw[e] at hk;cases hk
 ·have:=(e.each k hk).2;omega
def KB (x:Ag):Prop:=x.Keys.length<=1000000/\∀ k∈x.Keys,k.length<=1000000
def Sh (m n:Nat) (s:Int×List Ag):Prop:=(∃ i:Nat,s.1=(i:Int))/\s.2.length=m/\(∃ a,s.2[n]? = some a/\a.State=1)/\∀ x∈s.2,KB x
theorem Sh.two {m n i:Nat} {l:List Ag} (h:Sh m n ((i:Int),l)) {j:Int} (hj:∃ k:Nat,j=k) {x a:Ag} (hx:l[i]? = some x) (ha:l[n]? = some a) (h1:a.State=1) (hne:n≠i) {p q:Nat} (hp:(p=n/\q=i)\/(p=i/\q=n)) {u v:Ag} (hu:u.State=(if p=n then a else x).State/\u.Keys=(if p=n then a else x).Keys) (hv:v.State=(if q=n then a else x).State/\v.Keys=(if q=n then a else x).Keys):Sh m n (j,(l.set p u).set q v):=by
 obtain⟨_,h2,_,h4⟩:=h
 have hn:=(zB.1 ha).1
 have kx:=h4 x (zD hx)
 have ka:=h4 a (zD ha)
 refine⟨hj,by show((l.set p u).set q v).length=m;rw[xA,xA];exact h2,?_,λy hy=>?_⟩
 ·rcases hp with⟨rfl,rfl⟩|⟨rfl,rfl⟩
  ·refine⟨u,?_,hu.1.trans (by rw[if_pos rfl];exact h1)⟩
   show((l.set p u).set q v)[p]? = _
   rw[zS (λe=>hne e.symm),zN hn]
  ·refine⟨v,?_,hv.1.trans (by rw[if_pos rfl];exact h1)⟩
   exact zN (by rw[xA];exact hn)
 ·rcases jV hy with hy|rfl
  ·rcases jV hy with hy|rfl
   ·exact h4 y hy
   ·unfold KB;rw[hu.2];split <;> assumption
  ·unfold KB;rw[hv.2];split <;> assumption
theorem Baj (x a:Ag):Ho x a=some (decide (x.State=2)&&decide (a.Begin<x.End)):=by
 unfold Ho
 cases decide (x.State=2) <;> rfl
theorem At2 {c:Af} (h:SC c) (r:Aj) (R:List Ac) {n:Nat} {a:Ag} (ha:c.Txs[n]? = some a) (h1:a.State=1) {v:Sum (Af×Int) (List Ag)}
  (hv:B7 (Cn r (n:Int) c.Txs) fuel (0,c.Txs)=some v):B7 (Mw r (n:Int)) fuel (0,c.Txs,R)=some (v.elim .inl λl=>.inr (l,R)):=by
 have hl:=h.len
 obtain⟨u,hu,hq⟩:=A90 (f:=Mw r (n:Int)) (λs t=>s=(t.1,t.2,R)/\Sh c.Txs.length n t) (λu v=>u=v.elim .inl λl=>.inr (l,R)) (g:=Cn r (n:Int) c.Txs) (by
  rintro _ ⟨_,l⟩ ⟨rfl,hs⟩
  have hs':=hs
  obtain⟨⟨i,rfl⟩,hm,⟨a,ha,h1⟩,hk⟩:=hs'
  dsimp only at hm ha hk
  unfold Mw Cn
  dsimp only
  rcases zQ i c.Txs.length with hlt|hge
  ·have hx:l[i]? = some l[i]:=zC (by omega)
   generalize l[i]=x at hx
   obtain⟨k1,k2⟩:=hk x (zD hx)
   have e2:Be (Lx r ((i:Int),l,R)) fuel (false,0,R)=some (false||x.Keys.any (Pu r),R):=A9t (λb j=>(b,(j:Int),R)) x.Keys _ (λb=>(b,R)) omg (λb j k hj=>by
    have:=(zB.1 hj).1
    unfold Lx
    dsimp only
    rw[Ak,hx,zA,ifo,zA,Ak,hj,wIo,zA,Ao2 _ _ (by have:=k2 k (zD hj);omega)]
    cases b <;> rfl) (λb=>by
    unfold Lx
    dsimp only
    rw[Ak,hx,zA,ifq]) false
   have hst:Sh c.Txs.length n (wI ((i:Int)+1),l):=⟨⟨i+1,wIo⟩,hs.2⟩
   rw[ifo,ifo,e2,Ak,Ak,hx,ha]
   simp only[zA]
   rw[Aeu x a h1,Alq x _ k1]
   unfold Ws
   dsimp only
   rw[Ak,Ak,hx,ha]
   simp only[zA]
   rw[Baj,Bool.false_or]
   have go:∀ {y:Option (LR (Int×List Ag×List Ac) (List Ag×List Ac) (Af×Int))} {z:Option (LR (Int×List Ag) (List Ag) (Af×Int))},y=some (.cont (wI ((i:Int)+1),l,R))->z=some (.cont (wI ((i:Int)+1),l))->(∃ s' t',y=some (.cont s')/\z=some (.cont t')/\s'=(t'.1,t'.2,R)/\Sh c.Txs.length n t')\/(∃ b b',y=some (.brk b)/\z=some (.brk b')/\(.inr b:Sum (Af×Int) _)=(Sum.inr b':Sum (Af×Int) _).elim .inl λl=>.inr (l,R))\/∃ q q',y=some (.ret q)/\z=some (.ret q')/\(.inl q:Sum _ (List Ag×List Ac))=(Sum.inl q':Sum _ (List Ag)).elim .inl λl=>.inr (l,R):=λe1 e2=>.inl ⟨_,_,e1,e2,rfl,hst⟩
   by_cases s2:x.State=2
   ·by_cases hb:x.End<=a.Begin
    ·exact go (by cases x.Keys.any (Pu r) <;> simp [s2,show ¬ a.Begin<x.End from omg]) (by simp [s2,hb])
    ·have hb':a.Begin<x.End:=by omega
     cases hm:x.Keys.any (Pu r) with
     | false=>exact go (by simp) (by simp [s2,hb,Aux,hm])
     | true =>
      have hne:n≠i:=λe=>by subst e;rw[ha] at hx;cases hx;rw[h1] at s2;cases s2
      have hli:=(zB.1 hx).1
      have e3:(l.set n { a with Out:=true })[i]? = some x:=by rw[zS hne];exact hx
      have e4:((l.set n { a with Out:=true }).set i { x with In:=true })[i]? = some { x with In:=true }:=zN (by rw[xA];exact hli)
      simp only[Aux,hm,decide_eq_true s2,decide_eq_false hb,decide_eq_true hb',yK,wT,Bool.and_self,j3,zA,zV,↓reduceIte]
      unfold W4 Lu Dp
      dsimp only
      rw[zA,A8c l n i hne ha hx,zA,if_pos (show((l.set n { a with Out:=true }).set i { x with In:=true }).length=l.length by simp)]
      simp only[Ak,z6,ha,e3,e4,Aco,zA,wG]
      cases x.Out with
      | true=>exact .inr (.inr ⟨_,_,rfl,rfl,rfl⟩)
      | false=>exact .inl ⟨_,_,rfl,rfl,rfl,hs.two ⟨i+1,wIo⟩ hx ha h1 hne (.inl ⟨rfl,rfl⟩) (by rw[if_pos rfl];exact⟨rfl,rfl⟩) (by rw[if_neg λe=>hne e.symm];exact⟨rfl,rfl⟩)⟩
   ·exact go (by cases x.Keys.any (Pu r) <;> simp [s2]) (by simp [s2])
  ·rw[ifq,ifq]
   exact .inr (.inl ⟨_,_,rfl,rfl,rfl⟩)) (s:=(0,c.Txs,R)) (t:=(0,c.Txs)) ⟨rfl,⟨0,rfl⟩,rfl,⟨a,ha,h1⟩,λx hx=>⟨by have:=h.keys x hx;omega,λk hk=>h.kl hx hk⟩⟩ hv
 rw[hu,hq]
theorem rread11 {c:Af} (h:SC c) (id:Int) (r:Aj):Ph c id r=Cd c id r:=by
 have hl:=h.len
 unfold Ph Cd Cm
 rw[rsane11 h,sane_c h,Aky h]
 rcases Oa c id omg with⟨_,e⟩|⟨i,x,hx,_,e⟩
 ·rw[e];rfl
 ·simp only[e,zA,Ak,hx]
  rw[ifq,ifq]
  by_cases h1:x.State=1
  ·obtain⟨v,hv,-⟩:=Ao0 h r hx h1
   unfold We
   rw[show c.Reads=⟨c.Reads.L⟩ from rfl,A5q h.gr,A12 omg,Ajq _ omg,decide_eq_true h1]
   simp only[yK,zV,↓reduceIte,zA]
   rw[ifq]
   cases D1 ⟨c.Reads.L⟩ id r with
   | none=>rfl
   | some w =>
    simp only[zA]
    rw[hv,At2 h r w.1.L hx h1 hv]
    cases v <;> rfl
  ·rw[decide_eq_false h1];rfl
theorem A30 (l:List Int) (t:Int):(l.any λy=>decide (y=t))=decide (t∈l):=by rw[jW];simp
theorem Bgg {c:Af} (h:SC c) (t:Int) (K:Keys) (hK:K.length<=1000000) (hk:∀ k∈K,k.length<=1000000):Si c t K=some (decide (t∈Aj8 c.Reads.L K)):=by
 have hr:=h.gr.len
 have e:B7 (V2 c t K) fuel 0=some (if _ then .inl true else .inr ()):=Avd K (λk=>decide (t∈Adz (Vt c.Reads.L k))) true omg (λi k hx=>by
  obtain⟨r,e,hm,hrl⟩:=A1d (l:=c.Reads.L) omg k (hk k (zD hx))
  have e2:B7 (W6 t r) fuel 0=some (if _ then .inl true else .inr ()):=Avd r (λy=>decide (y=t)) true omg (λi y _=>by split <;> rfl)
  rw[show c.Reads=⟨c.Reads.L⟩ from rfl,e,zA,e2,A30,show decide (t∈r)=decide (t∈Adz (Vt c.Reads.L k)) from decide_eq_decide.2 (hm t)]
  split <;> rfl)
 have e3:(K.any λk=>decide (t∈Adz (Vt c.Reads.L k)))=decide (t∈Aj8 c.Reads.L K):=by rw[jW];simp [Aj8]
 unfold Si
 rw[e,e3]
 split
 ·rename_i h;rw[h];rfl
 ·rename_i h;rw[jJ.2 h];rfl
theorem A3k (a b:Keys) (ha:a.length<=1000000) (hb:b.length<=1000000):Ml a b=some (a.any λk=>b.any λu=>k==u):=by
 have e:B7 (I7 a b) fuel 0=some (if _ then .inl true else .inr ()):=App a (λk=>b.any λu=>k==u) true omg (λi k hx=>by
  have hlt:=(zB.1 hx).1
  have e2:B7 (I6 a b i) fuel 0=some (if _ then .inl true else .inr ()):=App b (λu=>k==u) true omg (λj u hu=>by
   have:=(zB.1 hu).1
   unfold I6
   rw[ifo,Ak,Ak,hx,hu,zA,zA]
   split <;> rfl) (by unfold I6;rw[ifq])
  unfold I7
  rw[ifo,e2]
  split <;> rfl) (by unfold I7;rw[ifq])
 unfold Ml
 rw[e]
 cases a.any λk=>b.any λu=>k==u <;> rfl
end ss
namespace ss
open bf
theorem A6g {c:Af} (h:SC c) (a:Ag) (h1:a.State=1) (ts:Int) {K:Keys} (hK:KS K) (hn:K.length<=1000000) {b d:Bool} (hb:Hl c a ts K=some b) (hd:Dt c a K=some d) :
  Ow c a ts K=some (if b then(if d then 9 else 0) else 1):=by
 have hl:=h.len
 have hm:maxTs=1099511627776:=rfl
 obtain⟨b',hb',hbi⟩:=Ajz h a ts K hn
 obtain⟨d',hd',hdi⟩:=Ac8 h a h1 K hn
 rw[hb] at hb';cases hb'
 rw[hd] at hd';cases hd'
 have e1:B7 (S4 c ts) fuel 0=some (if _ then .inl 1 else .inr ()):=Avd c.Txs (λy=>decide (ts<=y.End)) 1 omg (λi y _=>by split <;> rfl)
 have e2:B7 (T2 c a K) fuel 0=some (if _ then .inl 9 else .inr ()):=Avd c.Txs (λx=>(decide (x.State=2)&&decide (a.Begin<x.End))&&x.Keys.any λk=>K.any λu=>k==u) 9 omg (λi x hx=>by
  have:=h.keys x (zD hx)
  rw[Baj,zA,Ak,hx,zA,A3k _ _ omg hn,zA]
  cases decide (x.State=2)&&decide (a.Begin<x.End) <;> cases x.Keys.any λk=>K.any λu=>k==u <;> rfl)
 have e3:(c.Txs.any λx=>(decide (x.State=2)&&decide (a.Begin<x.End))&&x.Keys.any λk=>K.any λu=>k==u)=d:=by
  cases d with
  | false =>
   have hf:=hdi.1 rfl
   refine jJ.2 λe=>?_
   obtain⟨x,hx,e⟩:=xF.1 e
   simp only[zG,decide_eq_true_eq,xF] at e
   obtain⟨⟨s,hbe⟩,k,hk,u,hu,e⟩:=e
   exact hf x hx s hbe u hu (eq_of_beq e ▸ hk)
  | true =>
   refine Classical.byContradiction λhc=>?_
   have:true=false:=hdi.2 λx hx s hbe u hu hk=>hc (xF.2 ⟨x,hx,by
    simp only[zG,decide_eq_true_eq,xF]
    exact⟨⟨s,hbe⟩,u,hk,u,hu,beq_self_eq_true u⟩⟩)
   cases this
 have fin:Ks c a ts K ()=some (if (c.Txs.any λy=>decide (ts<=y.End)) then 1 else if d then 9 else 0):=by
  unfold Ks T9
  rw[e1,e2,e3]
  cases c.Txs.any λy=>decide (ts<=y.End) <;> cases d <;> rfl
 unfold Ow
 rw[fin,Azj hK hn]
 have hz:a.RO=true->decide (0<(K.length:Int))=true->¬ b=true:=λhr hk hb=>(hbi.1 hb).2.2.2.1 ⟨hr,λe=>by rw[e] at hk;cases hk⟩
 by_cases q1:ts<=a.Begin
 ·rw[ifp q1,if_neg λhb=>?_]
  have:=(hbi.1 hb).1;omega
 ·rw[ifn q1]
  by_cases q2:1099511627776<ts
  ·rw[ifp q2,if_neg λhb=>?_]
   have:=(hbi.1 hb).2.1;omega
  ·rw[ifn q2,zA,if_neg smp]
   have hy:¬ (a.RO=true/\K≠[])->(!c.Txs.any λy=>decide (ts<=y.End))=b:=λhro=>by
    rw[jW,hbi]
    constructor
    ·intro e
     refine⟨omg,omg,hK,hro,λy hy=>?_⟩
     have e:=(xQ _).mp e
     have:=kU.1 e y hy
     rw[decide_eq_true_eq] at this;omega
    ·rintro⟨_,_,_,_,e⟩
     refine(xQ _).mpr (kU.2 λy hy=>?_)
     have:=e y hy
     rw[decide_eq_true_eq];omega
   cases hr:a.RO with
   | false =>
    rw[if_neg smp,<- hy (by simp [hr])]
    cases c.Txs.any λy=>decide (ts<=y.End) <;> rfl
   | true =>
    rw[if_pos rfl]
    by_cases hk:0<(K.length:Int)
    ·rw[ifp hk,if_neg (hz hr (decide_eq_true hk))]
    ·rw[ifn hk,<- hy λ⟨_,e⟩=>e (yE omg)]
     cases c.Txs.any λy=>decide (ts<=y.End) <;> rfl
theorem Av0 {c:Af} (h:SC c) (R:List Ac) (K:Keys) (hK:K.length<=1000000) (hk:∀ k∈K,k.length<=1000000) (hr:(Aj8 c.Reads.L K).length<=1000000) {n:Nat} {a:Ag} (ha:c.Txs[n]? = some a) (h1:a.State=1) {v:Sum (Bool×List Ag) (List Ag)}
  (hv:B7 (Cf c.Txs (n:Int) (Aj8 c.Reads.L K)) fuel (0,c.Txs)=some v):B7 (Jb c K (n:Int)) fuel (0,c.Txs,R)=some (v.elim (λ_=>.inl (Bn,10)) λl=>.inr (l,R))/\(∀ r,v=.inl r->r.1=false):=by
 have hl:=h.len
 obtain⟨u,hu,hq⟩:=A90 (f:=Jb c K (n:Int)) (λs t=>s=(t.1,t.2,R)/\Sh c.Txs.length n t) (λu v=>u=v.elim (λ_=>.inl (Bn,10)) (λl=>.inr (l,R))/\(∀ r,v=.inl r->r.1=false)) (g:=Cf c.Txs (n:Int) (Aj8 c.Reads.L K)) (by
  rintro _ ⟨_,l⟩ ⟨rfl,hs⟩
  have hs':=hs
  obtain⟨⟨i,rfl⟩,hm,⟨a,ha,h1⟩,hk'⟩:=hs'
  dsimp only at hm ha hk'
  unfold Jb Cf
  dsimp only
  rcases zQ i c.Txs.length with hlt|hge
  ·have hx:l[i]? = some l[i]:=zC (by omega)
   generalize l[i]=x at hx
   have hli:=(zB.1 hx).1
   have hst:Sh c.Txs.length n (wI ((i:Int)+1),l):=⟨⟨i+1,wIo⟩,hs.2⟩
   rw[ifo,ifo]
   simp only[Ak,hx,ha,zA]
   rw[Bgg h x.ID K hK hk,X4 _ _ hr,Aeu x a h1,Baj]
   by_cases hin:(i:Int)=n
   ·rw[ifp hin,ifp hin]
    exact .inl ⟨_,_,rfl,rfl,rfl,hst⟩
   ·rw[ifn hin,ifn hin]
    have hne:n≠i:=λe=>hin (by rw[e])
    simp only[zA]
    cases hit:decide (x.ID∈Aj8 c.Reads.L K) with
    | false=>exact .inl ⟨_,_,rfl,rfl,rfl,hst⟩
    | true =>
     have e3:(l.set i { x with Out:=true })[n]? = some a:=by rw[zS λe=>hne e.symm];exact ha
     have e4:((l.set i { x with Out:=true }).set n { a with In:=true })[i]? = some { x with Out:=true }:=by rw[zS hne];exact zN hli
     have go:=A8c l i n (λe=>hne e.symm) hx ha
     have hln:((l.set i { x with Out:=true }).set n { a with In:=true }).length=l.length:=by simp
     unfold Mt H8 Dp
     simp only[Ak,z6,hx,e3,e4,go,hln,Aco,zA,yK,zV,↓reduceIte,jP]
     have hst':Sh c.Txs.length n (wI ((i:Int)+1),(l.set i { x with Out:=true }).set n { a with In:=true }):=hs.two ⟨i+1,wIo⟩ hx ha h1 hne (.inr ⟨rfl,rfl⟩) (by rw[if_neg λe=>hne e.symm];exact⟨rfl,rfl⟩) (by rw[if_pos rfl];exact⟨rfl,rfl⟩)
     by_cases s2:x.State=2
     ·by_cases hb:x.End<=a.Begin
      ·simp only[decide_eq_true s2,decide_eq_true hb,decide_eq_false (show ¬ a.Begin<x.End from omg),j3,jP,yK,wT,↓reduceIte]
       exact .inl ⟨_,_,rfl,rfl,rfl,hst⟩
      ·simp only[decide_eq_true s2,decide_eq_false hb,decide_eq_true (show a.Begin<x.End from omg),j3,jP,yK,wT,zV,↓reduceIte]
       by_cases hi:x.In=true
       ·rw[if_pos hi,if_pos hi];exact .inr (.inr ⟨_,_,rfl,rfl,rfl,λr e=>by cases e;rfl⟩)
       ·rw[if_neg hi,if_neg hi];exact .inl ⟨_,_,rfl,rfl,rfl,hst'⟩
     ·simp only[decide_eq_false s2,zAj,wT,yK,zV,↓reduceIte,zA]
      exact .inl ⟨_,_,rfl,rfl,rfl,hst'⟩
  ·rw[ifq,ifq]
   exact .inr (.inl ⟨_,_,rfl,rfl,rfl,λr e=>by cases e⟩)) (s:=(0,c.Txs,R)) (t:=(0,c.Txs)) ⟨rfl,⟨0,rfl⟩,rfl,⟨a,ha,h1⟩,λx hx=>⟨by have:=h.keys x hx;omega,λk hk=>h.kl hx hk⟩⟩ hv
 exact⟨by rw[hu,hq.1],hq.2⟩
theorem rcommit11 {c:Af} (h:SC c) (id ts:Int) {K:Keys} (hK:KS K) (hn:K.length<=16):Og c id ts K=B2 c id ts K:=by
 have hl:=h.len
 unfold Og B2 Cm
 rw[rsane11 h,sane_c h,Aky h]
 rcases Oa c id omg with⟨_,e⟩|⟨i,x,hx,_,e⟩
 ·rw[e];rfl
 ·simp only[e,zA,Ak,hx]
  rw[ifq,ifq]
  by_cases h1:x.State=1
  ·obtain⟨b,hb,-⟩:=Ajz h x ts K omg
   obtain⟨d,hd,-⟩:=Ac8 h x h1 K omg
   unfold Tf
   rw[decide_eq_true h1]
   simp only[yK,zV,↓reduceIte,zA,Ak,hx]
   rw[ifq,A6g h x h1 ts hK omg hb hd,hb,hd,A12 omg,Ajq _ omg]
   simp only[zA]
   cases b with
   | false=>rfl
   | true =>
    cases d with
    | true=>rfl
    | false =>
     simp only[yK,zV,↓reduceIte]
     have hrl:=Ai1 c.Reads.L K
     have hr:=h.gr.len
     have hr2:K.length*c.Reads.L.length<=16*128:=Nat.mul_le_mul hn hr
     have hkl:∀ k∈K,k.length<=1000000:=λk hk=>by have:=(hK.each k hk).2;omega
     rw[show(⟨c.Txs,⟨c.Reads.L⟩⟩:Af)=c from rfl,Afc h K omg,zA]
     obtain⟨b,l,hp,hlen,-,-⟩:=Aqa h K hn hx h1
     rw[hp,zA,if_pos hlen]
     unfold Ir at hp
     obtain⟨v,hv,hp⟩:=Ap hp
     obtain⟨e2,e3⟩:=Av0 h c.Reads.L K omg hkl omg hx h1 hv
     rw[e2]
     cases v with
     | inl r =>
      have e3:=e3 r rfl
      cases hp
      have e3:b=false:=e3
      rw[e3];rfl
     | inr l' =>
      cases hp
      obtain⟨y,hli⟩:∃ y,l[i]? = some y:=⟨_,zC (by have:=(zB.1 hx).1;omega)⟩
      show N0 ts K i (l,c.Reads.L)=_
      unfold N0
      simp only[Ak,hli,Aco,zA,yK,zV,↓reduceIte]
      cases y.In <;> cases y.Out <;> rfl
  ·rw[decide_eq_false h1];rfl
end ss
namespace st
open bf
theorem Ato {v:Ai} (h:vOk v=true):1<=v.Ts/\v.Ts<=1099511627776/\(v.Val.length:Int)<=32/\(v.Del=true->¬ 0<(v.Val.length:Int)):=by
 unfold vOk at h
 simp only[zG,decide_eq_true_eq,xQ] at h
 exact⟨h.1.1.1,h.1.1.2,h.1.2,λhd hl=>by rw[hd,decide_eq_true hl] at h;cases h.2⟩
theorem Ais {l:List Ai} (h:OkC l) (hl:l.length<=1000):Gb ⟨l⟩=some true:=by
 have e:B7 (U1 ⟨l⟩) fuel 0=some (.inr ()):=V4 l omg (λi x hx=>by
  obtain⟨h1,h2,h3,h4⟩:=Ato (h.each i x hx)
  have hlt:=(zB.1 hx).1
  rw[ifq,ifq]
  have fin:∀ {z:Option (LR Int Unit Bool)},(if decide (32<(x.Val.length:Int))=true then z else(if x.Del=true then(if decide (0<(x.Val.length:Int))=true then z else some (.cont (wI ((i:Int)+1)))) else some (.cont (wI ((i:Int)+1)))))=some (.cont (wI ((i:Int)+1))):=λ{z}=>by
   rw[ifq]
   cases hd:x.Del
   ·rfl
   ·rw[if_pos rfl,ifn (h4 hd)]
  cases i with
  | zero=>rw[ifq];exact fin
  | succ j =>
   have hy:l[j]? = some (l[j]'omg):=zC omg
   have:=h.asc j _ x hy hx
   rw[ifo,show wI (((j+1:Nat):Int)-1)=(j:Int) by rw[wIo];omega]
   show(idx l (j:Int)).bind _=_
   rw[Ak,hy,zA,ifq]
   exact fin)
 unfold Gb
 rw[e];rfl
theorem A7n (l:List Ai) (hl:l.length<=1000):Kj ⟨l⟩=some (Ku l):=by
 unfold Kj Ku
 dsimp only
 by_cases h:l.length=0
 ·rw[ifo,zZ omg]
 ·have hx:l[l.length-1]? = some (l[l.length-1]'omg):=zC omg
  rw[ifq,wIo,show(l.length:Int)-1=((l.length-1:Nat):Int) by omega,Ak,hx];rfl
theorem Ao5 (l:List Ai) (t:Int) (hl:l.length<=1000):Lg ⟨l⟩ t=some (plc l t l.length):=by
 obtain⟨v,hv,rfl⟩:=Bo (f:=N3 ⟨l⟩ t) (P:=λs=>∃ i:Nat,i<=l.length/\s=(plc l t i,(i:Int))) (μ:=λs=>l.length-s.2.toNat) (R:=λv=>v=plc l t l.length) (by
  rintro _ ⟨i,hi,rfl⟩
  unfold N3
  dsimp only
  rcases zQ i l.length with hlt|hge
  ·have hx:=zC hlt
   have e:plc l t (i+1)=if l[i].Ts<=t then(i:Int) else plc l t i:=by
    show(match l[i]? with|some v=>if v.Ts<=t then(i:Int) else plc l t i|none=>-1)=_
    rw[hx]
   rw[ifo,Ak,hx,zA,wIo]
   by_cases ht:l[i].Ts<=t
   ·rw[ifp ht]
    exact .inl ⟨_,rfl,⟨i+1,hlt,by rw[e,if_pos ht];rfl⟩,by dsimp only;omega⟩
   ·rw[ifn ht]
    exact .inl ⟨_,rfl,⟨i+1,hlt,by rw[e,if_neg ht];rfl⟩,by dsimp only;omega⟩
  ·obtain rfl:i=l.length:=by omega
   rw[ifq]
   exact .inr ⟨_,rfl,rfl⟩) fuel (-1,0) ⟨0,zU _,rfl⟩ (Bb (by show l.length-0<=_;omega))
 unfold Lg
 rw[hv];rfl
theorem Aj3 (l:List Ai) (t:Int) (hl:l.length<=1000):Gn ⟨l⟩ t=Cv ⟨l⟩ t:=by
 unfold Gn Cv Z1 Dw
 rw[Ao5 l t hl,Afq (c:=⟨l⟩) hl];rfl
theorem A3x {l:List Ai} (h:OkC l) (hl:l.length<=1000) {v:Ai} (hv:vOk v=true) (ht:Ku l<v.Ts):Qm ⟨l⟩ v=some (⟨l++[v]⟩,0):=by
 unfold Qm Vh
 rw[Ais h hl,Ais (l:=[v]) (Aic Aiz hv (by have:=(Ato hv).1;show(0:Int)<_;omega)) (by simp),A7n l hl]
 simp only[zA,yK,zV,↓reduceIte]
 rw[ifq,if_pos (by simp;omega),if_pos (by simp;omega)];rfl
theorem A65 {l:List Ai} (h:OkC l) (hl:l.length<=1000) (t:Int):Jt ⟨l⟩ t=E4 ⟨l⟩ t:=by
 unfold Jt E4
 rw[Ao5 l t hl,Afq (c:=⟨l⟩) hl,Ais h hl]
 have hs:Ct ⟨l⟩=some true:=by
  rcases X3 (c:=⟨l⟩) hl with⟨e,_⟩|⟨_,e⟩
  ·exact e
  ·exact absurd h e
 dsimp only
 rw[hs]
 have hk:∀ b:Int,I1 ⟨l⟩ b=Dd ⟨l⟩ b:=λb=>by
  unfold I1 Dd
  cases hc:cut l b (l.length:Int) with
  | none=>rfl
  | some xs =>
   rw[zA,zA,P6 xs (by
    have hx:xs.length<=l.length:=by rw[(Al3 hc).2];simp
    omega)];rfl
 unfold Sk Kz
 simp only[hk,zA,yK,zV,↓reduceIte]
theorem rrefl07 (l:List Ai) (hl:l.length<=1000):Qh l l=some true:=by
 have e:B7 (Vf l l) fuel 0=some (.inr ()):=V4 l omg (λi x hx=>by
  unfold Wl
  rw[Ak,hx];simp)
 unfold Qh
 rw[ifz,e];rfl
end st
namespace st
open bf
theorem A5f {xs ys:Keys} (hx:PW xs) (hy:PW ys) (h:∀ x,x∈xs↔x∈ys):xs=ys:=by
 have nd:∀ {l:Keys},PW l->l.Nodup:=λh=>h.imp λh e=>by rw[e,Jp] at h;omega
 exact List.Perm.eq_of_pairwise (le:=λa b=>Ce a b<0) (λa b _ _ h1 h2=>by have:=Lh a b;omega) hx hy ((k8 (nd hx) (nd hy)).2 h)
theorem kOk_len {k:List UInt8} (h:kOk k=true):1<=k.length/\k.length<=16:=by
 unfold kOk at h
 rw[zG,decide_eq_true_eq,decide_eq_true_eq] at h
 omega
theorem rsane08 {K:Keys} {C:List Ab} {T:Int} {B:Nat} (h:OkS K C T B) (hB:B<=1000) (hk:K.length<=128):Gj ⟨K,C,T⟩=some true:=by
 have hcl:=h.cl
 have h0:=h.t0
 have h1:=h.t1
 have e:B7 (Lw ⟨K,C,T⟩) fuel 0=some (.inr ()):=Axb (n:=K.length) omg (λi hi=>by
  obtain⟨x,hx⟩:∃ x,K[i]? = some x:=⟨_,zC hi⟩
  obtain⟨c,hc⟩:∃ c,C[i]? = some c:=⟨_,zC omg⟩
  obtain⟨c1,c2,c3,c4⟩:=h.cs c (zD hc)
  have c5:=List.length_pos_iff.2 c1
  unfold Lw
  dsimp only
  rw[ifo,Ak,Ak,hx,hc,zA,zA,show D6 x=some true from(kSane_m x).trans (congrArg some (h.ks x (zD hx))),zA,if_neg smp]
  rw[show Gb c=some true from Ais c2 omg,zA,if_neg smp,ifq,show Kj c=_ from A7n _ omg,zA,ifq]) (by
  unfold Lw
  rw[ifq (by dsimp only;omega)])
 unfold Gj U7
 dsimp only
 rw[hcl,ifz,ifq,Ahy K (λx hx=>by have:=(kOk_len (h.ks x hx)).2;omega),Yg h.pw omg,zA,if_neg smp,ifq,ifq,e];rfl
theorem A0l {K:Keys} {C:List Ab} {T:Int} {B:Nat} (h:OkS K C T B) (hB:B<=1000) (hk:K.length<=128) (k:List UInt8) :
  (∃ c,At K C k c/\Ey ⟨K,C,T⟩ k=some c)\/((¬ ∃ c,At K C k c)/\Ey ⟨K,C,T⟩ k=some ⟨[]⟩):=by
 unfold Ey
 dsimp only
 rw[At4 K k omg (λx hx=>by have:=(kOk_len (h.ks x hx)).2;omega),zA]
 cases hh:hit K k with
 | false=>exact .inr ⟨λ⟨c,hc⟩=>by(rw[(At.hit h.pw hc).1] at hh;cases hh),rfl⟩
 | true =>
  obtain⟨c,hc,hg⟩:=At.of_hit h.cl hh
  refine .inl ⟨c,hc,?_⟩
  rw[rsane08 h hB hk]
  show(idx C (kat K k:Int)).bind _=_
  rw[Ak,hg];rfl
theorem rget08 {K:Keys} {C:List Ab} {T:Int} {B:Nat} (h:OkS K C T B) (hB:B<=1000) (hk:K.length<=128) (k:List UInt8) (t:Int):Uq ⟨K,C,T⟩ k t=Ii ⟨K,C,T⟩ k t:=by
 unfold Uq
 rcases A0l h hB hk k with⟨c,hc,e⟩|⟨hn,e⟩ <;> rcases get_m h hB hk k t with⟨c',hc',e'⟩|⟨hn',e'⟩
 ·obtain rfl:=At.uniq h.pw hc hc'
  obtain⟨i,_,hi⟩:=hc
  have:=(h.cs c (zD hi)).2.2.2
  rw[e,zA,show Gn c t=_ from Aj3 c.L t omg,show Cv ⟨c.L⟩ t=_ from Aey (c:=c) omg t,e'];rfl
 ·exact absurd ⟨c,hc⟩ hn'
 ·exact absurd ⟨c',hc'⟩ hn
 ·rw[e,zA,Aj3 [] t (by simp),Aey (c:=⟨[]⟩) (by simp) t,e'];rfl
theorem Ahf {α β:Type} (f:α->List β):∀ (l:List α) (a:List β),l.foldl (λa x=>a++f x) a=a++l.flatMap f
 | [],a=>by simp
 | x::l,a=>by rw[w8,Ahf f l,yY,xE]
theorem rscan08 {K:Keys} {C:List Ab} {T:Int} {B:Nat} (h:OkS K C T B) (hB:B<=1000) (hk:K.length<=128) (r:Aj) (t:Int):O3 ⟨K,C,T⟩ r t 1000=E1 ⟨K,C,T⟩ r t 1000:=by
 have hcl:=h.cl
 have hzl:(K.zip C).length=K.length:=by rw[jU];omega
 have hel:=ents_len r t K C
 rw[scan_m h hB hk,yJ (show(ents r t K C).length<=(1000:Int).toNat from omg)]
 have e:Be (Mp ⟨K,C,T⟩ r t 1000) fuel (0,[])=some (id ((K.zip C).foldl (λa x=>a++ent r t x) [])):=Ax9 (λacc i=>((i:Int),acc)) (K.zip C) _ id (λi acc=>acc.length<=i) omg (λacc i p hp ha=>by
  have hlt:=(zB.1 hp).1
  have hx:K[i]? = some (K[i]'omg):=zC omg
  have hc:C[i]? = some (C[i]'omg):=zC omg
  rw[Anf hx hc] at hp
  cases hp
  generalize K[i]'omg=x at hx
  generalize C[i]'omg=c at hc
  have hel:=Anu r t (x,c)
  refine⟨?_,by rw[zI];omega⟩
  have:=(h.cs c (zD hc)).2.2.2
  have:=(kOk_len (h.ks x (zD hx))).2
  unfold Mp V7
  dsimp only
  rw[ifo,rsane08 h hB hk,zA,if_pos rfl]
  simp only[Ak,hx,hc,zA]
  rw[show Gn c t=_ from Aj3 c.L t omg,show Cv ⟨c.L⟩ t=_ from Aey (c:=c) omg t,Ao2 _ _ omg,wIo]
  simp only[zA]
  unfold ent
  cases (Azs c.L t).2
  ·rw[if_neg smp,if_neg smp,xC];rfl
  ·cases Pu r x
   ·rw[if_pos rfl,if_neg smp,if_neg smp,xC];rfl
   ·rw[if_pos rfl,if_pos rfl,ifo,if_pos (by simp;omega),if_pos smp];rfl) (λacc _=>by
  unfold Mp
  dsimp only
  rw[ifq];rfl) [] (zT _)
 unfold O3
 rw[e,Ahf];rfl
theorem rvac08 {K:Keys} {C:List Ab} {T:Int} {B:Nat} (h:OkS K C T B) (hB:B<=1000) (hk:K.length<=128) (o:Int):Oh ⟨K,C,T⟩ o=E5 ⟨K,C,T⟩ o:=by
 have e:N2 ⟨K,C,T⟩ o=Eh ⟨K,C,T⟩ o:=by
  funext s
  unfold N2 Eh
  dsimp only
  rw[h.cl]
  cases hc:idx C s.1 with
  | none=>rfl
  | some c =>
   obtain⟨_,h2,_,h4⟩:=h.cs c (idx_mem hc)
   rw[zA,zA,show Jt c _=_ from A65 h2 omg _]
 unfold Oh E5
 rw[rsane08 h hB hk,ssane_m h hB hk,e];rfl
end st
end Go.Proofs.YtkblaobhhoebaaaGreat.Abs
