/-
 The library's rows.
-/
import Derived.Test.YtkblaobhhoebaaaGreatST14
import Derived.Test.YtkblaobhhoebaaaGreatSAbsC
set_option linter.unusedVariables false
set_option linter.unusedSimpArgs false
namespace Go.Proofs.YtkblaobhhoebaaaGreat.Abs
theorem Yi (n:Int) (h0:0<=n) (h1:n*64<=140737488355328):Kt n=some []:=by
 unfold Kt
 rw[if_neg (by rw[decide_eq_true_eq];omega)]
 unfold Kj
 rw[Cd (n:=0-0) (by decide) (by decide),show n-(0-0)=n from by omega,Cd (by omega) (by omega)]
 by_cases hn:0<n
 ·rw[if_pos (decide_eq_true hn),if_pos ⟨hn,by omega⟩,if_pos ⟨xU _,xL _⟩]
  rfl
 ·rw[if_neg (by rw[decide_eq_true_eq];exact hn)]
theorem Wv (xss:List (List A3)) (h:xss.flatten.length*64<=140737488355328) (hl:xss.length<=1000000000000000000):J4 xss=some xss.flatten:=by
 have hpre:∀ i,(xss.take i).flatten.length<=xss.flatten.length:=λi=>by
  have e:xss.flatten.length=(xss.take i).flatten.length+(xss.drop i).flatten.length:=by
   rw[<- zH,<- xN,xK]
  omega
 have hstep:∀ i (hi:i<xss.length),(xss.take (i+1)).flatten=(xss.take i).flatten++xss[i]:=λi hi=>by
  rw[zM hi,xN];simp
 obtain⟨v,hv,rfl⟩:=Dm (f:=Ex xss) (P:=λs=>∃ i,i<=xss.length/\s=(((xss.take i).flatten.length:Int),(i:Int))) (μ:=λs=>xss.length-s.2.toNat) (R:=λv=>v=(xss.flatten.length:Int)) (by
  rintro _ ⟨i,hi,rfl⟩
  rcases zO i xss.length with hlt|hge
  ·left
   have h1:=hpre (i+1)
   rw[hstep i hlt,zH] at h1
   refine⟨(((xss.take (i+1)).flatten.length:Int),((i+1:Nat):Int)),?_,⟨i+1,hlt,rfl⟩,by simp only[zT];omega⟩
   unfold Ex
   rw[if_pos (decide_eq_true (by show(i:Int)<xss.length;omega))]
   dsimp only
   rw[Bo,zB hlt,zA,Cd (by omega) (by omega),Cd (by omega) (by omega),if_neg (by rw[decide_eq_true_eq];omega),hstep i hlt,zH,xM,xM]
   rfl
  ·right
   have e:i=xss.length:=by omega
   subst e
   refine⟨_,?_,rfl⟩
   unfold Ex
   rw[if_neg (by rw[decide_eq_true_eq];exact wU _),yF]) fuel (0,0) ⟨0,zX _,by simp⟩ (Co (by show xss.length-0<=_;omega))
 obtain⟨w,hw,rfl⟩:=Dm (f:=E0 xss) (P:=λs=>∃ i,i<=xss.length/\s=((i:Int),(xss.take i).flatten)) (μ:=λs=>xss.length-s.1.toNat) (R:=λv=>v=xss.flatten) (by
  rintro _ ⟨i,hi,rfl⟩
  rcases zO i xss.length with hlt|hge
  ·left
   have h1:=hpre (i+1)
   rw[hstep i hlt,zH] at h1
   refine⟨(((i+1:Nat):Int),(xss.take (i+1)).flatten),?_,⟨i+1,hlt,rfl⟩,by simp only[zT];omega⟩
   unfold E0
   rw[if_pos (decide_eq_true (by show(i:Int)<xss.length;omega))]
   dsimp only
   rw[Bo,zB hlt,zA,Cd (by omega) (by omega),if_pos (by omega),hstep i hlt,xM]
   rfl
  ·right
   have e:i=xss.length:=by omega
   subst e
   refine⟨_,?_,rfl⟩
   unfold E0
   rw[if_neg (by rw[decide_eq_true_eq];exact wU _),yF]) fuel (0,([]:List A3)) ⟨0,zX _,by simp⟩ (Co (by show xss.length-0<=_;omega))
 unfold J4
 rw[hv,zA]
 unfold J1
 rw[Yi _ (by omega) (by omega),zA,hw,zA]
 rfl
theorem Yf (n:Int) (h0:0<=n) (h1:n*64<=140737488355328):Lj n=some []:=by
 unfold Lj
 rw[if_neg (by rw[decide_eq_true_eq];omega)]
 unfold Kk
 rw[Cd (n:=0-0) (by decide) (by decide),show n-(0-0)=n from by omega,Cd (by omega) (by omega)]
 by_cases hn:0<n
 ·rw[if_pos (decide_eq_true hn),if_pos ⟨hn,by omega⟩,if_pos ⟨xU _,xL _⟩]
  rfl
 ·rw[if_neg (by rw[decide_eq_true_eq];exact hn)]
theorem Yj (xss:List (List Bg)) (h:xss.flatten.length*64<=140737488355328) (hl:xss.length<=1000000000000000000):K8 xss=some xss.flatten:=by
 have hpre:∀ i,(xss.take i).flatten.length<=xss.flatten.length:=λi=>by
  have e:xss.flatten.length=(xss.take i).flatten.length+(xss.drop i).flatten.length:=by
   rw[<- zH,<- xN,xK]
  omega
 have hstep:∀ i (hi:i<xss.length),(xss.take (i+1)).flatten=(xss.take i).flatten++xss[i]:=λi hi=>by
  rw[zM hi,xN];simp
 obtain⟨v,hv,rfl⟩:=Dm (f:=Ff xss) (P:=λs=>∃ i,i<=xss.length/\s=(((xss.take i).flatten.length:Int),(i:Int))) (μ:=λs=>xss.length-s.2.toNat) (R:=λv=>v=(xss.flatten.length:Int)) (by
  rintro _ ⟨i,hi,rfl⟩
  rcases zO i xss.length with hlt|hge
  ·left
   have h1:=hpre (i+1)
   rw[hstep i hlt,zH] at h1
   refine⟨(((xss.take (i+1)).flatten.length:Int),((i+1:Nat):Int)),?_,⟨i+1,hlt,rfl⟩,by simp only[zT];omega⟩
   unfold Ff
   rw[if_pos (decide_eq_true (by show(i:Int)<xss.length;omega))]
   dsimp only
   rw[Bo,zB hlt,zA,Cd (by omega) (by omega),Cd (by omega) (by omega),if_neg (by rw[decide_eq_true_eq];omega),hstep i hlt,zH,xM,xM]
   rfl
  ·right
   have e:i=xss.length:=by omega
   subst e
   refine⟨_,?_,rfl⟩
   unfold Ff
   rw[if_neg (by rw[decide_eq_true_eq];exact wU _),yF]) fuel (0,0) ⟨0,zX _,by simp⟩ (Co (by show xss.length-0<=_;omega))
 obtain⟨w,hw,rfl⟩:=Dm (f:=Fj xss) (P:=λs=>∃ i,i<=xss.length/\s=((i:Int),(xss.take i).flatten)) (μ:=λs=>xss.length-s.1.toNat) (R:=λv=>v=xss.flatten) (by
  rintro _ ⟨i,hi,rfl⟩
  rcases zO i xss.length with hlt|hge
  ·left
   have h1:=hpre (i+1)
   rw[hstep i hlt,zH] at h1
   refine⟨(((i+1:Nat):Int),(xss.take (i+1)).flatten),?_,⟨i+1,hlt,rfl⟩,by simp only[zT];omega⟩
   unfold Fj
   rw[if_pos (decide_eq_true (by show(i:Int)<xss.length;omega))]
   dsimp only
   rw[Bo,zB hlt,zA,Cd (by omega) (by omega),if_pos (by omega),hstep i hlt,xM]
   rfl
  ·right
   have e:i=xss.length:=by omega
   subst e
   refine⟨_,?_,rfl⟩
   unfold Fj
   rw[if_neg (by rw[decide_eq_true_eq];exact wU _),yF]) fuel (0,([]:List Bg)) ⟨0,zX _,by simp⟩ (Co (by show xss.length-0<=_;omega))
 unfold K8
 rw[hv,zA]
 unfold Ki
 rw[Yf _ (by omega) (by omega),zA,hw,zA]
 rfl
theorem X9 (n:Int) (h0:0<=n) (h1:n*1<=140737488355328):Kz n=some []:=by
 unfold Kz
 rw[if_neg (by rw[decide_eq_true_eq];omega)]
 unfold Kl
 rw[Cd (n:=0-0) (by decide) (by decide),show n-(0-0)=n from by omega,Cd (by omega) (by omega)]
 by_cases hn:0<n
 ·rw[if_pos (decide_eq_true hn),if_pos ⟨hn,by omega⟩,if_pos ⟨xU _,xL _⟩]
  rfl
 ·rw[if_neg (by rw[decide_eq_true_eq];exact hn)]
theorem V9 (xss:List (List UInt8)) (h:xss.flatten.length*1<=140737488355328) (hl:xss.length<=1000000000000000000):Im xss=some xss.flatten:=by
 have hpre:∀ i,(xss.take i).flatten.length<=xss.flatten.length:=λi=>by
  have e:xss.flatten.length=(xss.take i).flatten.length+(xss.drop i).flatten.length:=by
   rw[<- zH,<- xN,xK]
  omega
 have hstep:∀ i (hi:i<xss.length),(xss.take (i+1)).flatten=(xss.take i).flatten++xss[i]:=λi hi=>by
  rw[zM hi,xN];simp
 obtain⟨v,hv,rfl⟩:=Dm (f:=Ed xss) (P:=λs=>∃ i,i<=xss.length/\s=(((xss.take i).flatten.length:Int),(i:Int))) (μ:=λs=>xss.length-s.2.toNat) (R:=λv=>v=(xss.flatten.length:Int)) (by
  rintro _ ⟨i,hi,rfl⟩
  rcases zO i xss.length with hlt|hge
  ·left
   have h1:=hpre (i+1)
   rw[hstep i hlt,zH] at h1
   refine⟨(((xss.take (i+1)).flatten.length:Int),((i+1:Nat):Int)),?_,⟨i+1,hlt,rfl⟩,by simp only[zT];omega⟩
   unfold Ed
   rw[if_pos (decide_eq_true (by show(i:Int)<xss.length;omega))]
   dsimp only
   rw[Bo,zB hlt,zA,Cd (by omega) (by omega),Cd (by omega) (by omega),if_neg (by rw[decide_eq_true_eq];omega),hstep i hlt,zH,xM,xM]
   rfl
  ·right
   have e:i=xss.length:=by omega
   subst e
   refine⟨_,?_,rfl⟩
   unfold Ed
   rw[if_neg (by rw[decide_eq_true_eq];exact wU _),yF]) fuel (0,0) ⟨0,zX _,by simp⟩ (Co (by show xss.length-0<=_;omega))
 obtain⟨w,hw,rfl⟩:=Dm (f:=Ef xss) (P:=λs=>∃ i,i<=xss.length/\s=((i:Int),(xss.take i).flatten)) (μ:=λs=>xss.length-s.1.toNat) (R:=λv=>v=xss.flatten) (by
  rintro _ ⟨i,hi,rfl⟩
  rcases zO i xss.length with hlt|hge
  ·left
   have h1:=hpre (i+1)
   rw[hstep i hlt,zH] at h1
   refine⟨(((i+1:Nat):Int),(xss.take (i+1)).flatten),?_,⟨i+1,hlt,rfl⟩,by simp only[zT];omega⟩
   unfold Ef
   rw[if_pos (decide_eq_true (by show(i:Int)<xss.length;omega))]
   dsimp only
   rw[Bo,zB hlt,zA,Cd (by omega) (by omega),if_pos (by omega),hstep i hlt,xM]
   rfl
  ·right
   have e:i=xss.length:=by omega
   subst e
   refine⟨_,?_,rfl⟩
   unfold Ef
   rw[if_neg (by rw[decide_eq_true_eq];exact wU _),yF]) fuel (0,([]:List UInt8)) ⟨0,zX _,by simp⟩ (Co (by show xss.length-0<=_;omega))
 unfold Im
 rw[hv,zA]
 unfold Iw
 rw[X9 _ (by omega) (by omega),zA,hw,zA]
 rfl
theorem Xs (n:Int) (h0:0<=n) (h1:n*64<=140737488355328):Kp n=some []:=by
 unfold Kp
 rw[if_neg (by rw[decide_eq_true_eq];omega)]
 unfold Kf
 rw[Cd (n:=0-0) (by decide) (by decide),show n-(0-0)=n from by omega,Cd (by omega) (by omega)]
 by_cases hn:0<n
 ·rw[if_pos (decide_eq_true hn),if_pos ⟨hn,by omega⟩,if_pos ⟨xU _,xL _⟩]
  rfl
 ·rw[if_neg (by rw[decide_eq_true_eq];exact hn)]
theorem Wn (xss:List (List A4)) (h:xss.flatten.length*64<=140737488355328) (hl:xss.length<=1000000000000000000):F6 xss=some xss.flatten:=by
 have hpre:∀ i,(xss.take i).flatten.length<=xss.flatten.length:=λi=>by
  have e:xss.flatten.length=(xss.take i).flatten.length+(xss.drop i).flatten.length:=by
   rw[<- zH,<- xN,xK]
  omega
 have hstep:∀ i (hi:i<xss.length),(xss.take (i+1)).flatten=(xss.take i).flatten++xss[i]:=λi hi=>by
  rw[zM hi,xN];simp
 obtain⟨v,hv,rfl⟩:=Dm (f:=Ej xss) (P:=λs=>∃ i,i<=xss.length/\s=(((xss.take i).flatten.length:Int),(i:Int))) (μ:=λs=>xss.length-s.2.toNat) (R:=λv=>v=(xss.flatten.length:Int)) (by
  rintro _ ⟨i,hi,rfl⟩
  rcases zO i xss.length with hlt|hge
  ·left
   have h1:=hpre (i+1)
   rw[hstep i hlt,zH] at h1
   refine⟨(((xss.take (i+1)).flatten.length:Int),((i+1:Nat):Int)),?_,⟨i+1,hlt,rfl⟩,by simp only[zT];omega⟩
   unfold Ej
   rw[if_pos (decide_eq_true (by show(i:Int)<xss.length;omega))]
   dsimp only
   rw[Bo,zB hlt,zA,Cd (by omega) (by omega),Cd (by omega) (by omega),if_neg (by rw[decide_eq_true_eq];omega),hstep i hlt,zH,xM,xM]
   rfl
  ·right
   have e:i=xss.length:=by omega
   subst e
   refine⟨_,?_,rfl⟩
   unfold Ej
   rw[if_neg (by rw[decide_eq_true_eq];exact wU _),yF]) fuel (0,0) ⟨0,zX _,by simp⟩ (Co (by show xss.length-0<=_;omega))
 obtain⟨w,hw,rfl⟩:=Dm (f:=Eh xss) (P:=λs=>∃ i,i<=xss.length/\s=((i:Int),(xss.take i).flatten)) (μ:=λs=>xss.length-s.1.toNat) (R:=λv=>v=xss.flatten) (by
  rintro _ ⟨i,hi,rfl⟩
  rcases zO i xss.length with hlt|hge
  ·left
   have h1:=hpre (i+1)
   rw[hstep i hlt,zH] at h1
   refine⟨(((i+1:Nat):Int),(xss.take (i+1)).flatten),?_,⟨i+1,hlt,rfl⟩,by simp only[zT];omega⟩
   unfold Eh
   rw[if_pos (decide_eq_true (by show(i:Int)<xss.length;omega))]
   dsimp only
   rw[Bo,zB hlt,zA,Cd (by omega) (by omega),if_pos (by omega),hstep i hlt,xM]
   rfl
  ·right
   have e:i=xss.length:=by omega
   subst e
   refine⟨_,?_,rfl⟩
   unfold Eh
   rw[if_neg (by rw[decide_eq_true_eq];exact wU _),yF]) fuel (0,([]:List A4)) ⟨0,zX _,by simp⟩ (Co (by show xss.length-0<=_;omega))
 unfold F6
 rw[hv,zA]
 unfold Iy
 rw[Xs _ (by omega) (by omega),zA,hw,zA]
 rfl
theorem X8 (n:Int) (h0:0<=n) (h1:n*40<=140737488355328):K0 n=some []:=by
 unfold K0
 rw[if_neg (by rw[decide_eq_true_eq];omega)]
 unfold Kh
 rw[Cd (n:=0-0) (by decide) (by decide),show n-(0-0)=n from by omega,Cd (by omega) (by omega)]
 by_cases hn:0<n
 ·rw[if_pos (decide_eq_true hn),if_pos ⟨hn,by omega⟩,if_pos ⟨xU _,xL _⟩]
  rfl
 ·rw[if_neg (by rw[decide_eq_true_eq];exact hn)]
theorem Vx (xss:List (List A8)) (h:xss.flatten.length*40<=140737488355328) (hl:xss.length<=1000000000000000000):Iq xss=some xss.flatten:=by
 have hpre:∀ i,(xss.take i).flatten.length<=xss.flatten.length:=λi=>by
  have e:xss.flatten.length=(xss.take i).flatten.length+(xss.drop i).flatten.length:=by
   rw[<- zH,<- xN,xK]
  omega
 have hstep:∀ i (hi:i<xss.length),(xss.take (i+1)).flatten=(xss.take i).flatten++xss[i]:=λi hi=>by
  rw[zM hi,xN];simp
 obtain⟨v,hv,rfl⟩:=Dm (f:=Ei xss) (P:=λs=>∃ i,i<=xss.length/\s=(((xss.take i).flatten.length:Int),(i:Int))) (μ:=λs=>xss.length-s.2.toNat) (R:=λv=>v=(xss.flatten.length:Int)) (by
  rintro _ ⟨i,hi,rfl⟩
  rcases zO i xss.length with hlt|hge
  ·left
   have h1:=hpre (i+1)
   rw[hstep i hlt,zH] at h1
   refine⟨(((xss.take (i+1)).flatten.length:Int),((i+1:Nat):Int)),?_,⟨i+1,hlt,rfl⟩,by simp only[zT];omega⟩
   unfold Ei
   rw[if_pos (decide_eq_true (by show(i:Int)<xss.length;omega))]
   dsimp only
   rw[Bo,zB hlt,zA,Cd (by omega) (by omega),Cd (by omega) (by omega),if_neg (by rw[decide_eq_true_eq];omega),hstep i hlt,zH,xM,xM]
   rfl
  ·right
   have e:i=xss.length:=by omega
   subst e
   refine⟨_,?_,rfl⟩
   unfold Ei
   rw[if_neg (by rw[decide_eq_true_eq];exact wU _),yF]) fuel (0,0) ⟨0,zX _,by simp⟩ (Co (by show xss.length-0<=_;omega))
 obtain⟨w,hw,rfl⟩:=Dm (f:=Ek xss) (P:=λs=>∃ i,i<=xss.length/\s=((i:Int),(xss.take i).flatten)) (μ:=λs=>xss.length-s.1.toNat) (R:=λv=>v=xss.flatten) (by
  rintro _ ⟨i,hi,rfl⟩
  rcases zO i xss.length with hlt|hge
  ·left
   have h1:=hpre (i+1)
   rw[hstep i hlt,zH] at h1
   refine⟨(((i+1:Nat):Int),(xss.take (i+1)).flatten),?_,⟨i+1,hlt,rfl⟩,by simp only[zT];omega⟩
   unfold Ek
   rw[if_pos (decide_eq_true (by show(i:Int)<xss.length;omega))]
   dsimp only
   rw[Bo,zB hlt,zA,Cd (by omega) (by omega),if_pos (by omega),hstep i hlt,xM]
   rfl
  ·right
   have e:i=xss.length:=by omega
   subst e
   refine⟨_,?_,rfl⟩
   unfold Ek
   rw[if_neg (by rw[decide_eq_true_eq];exact wU _),yF]) fuel (0,([]:List A8)) ⟨0,zX _,by simp⟩ (Co (by show xss.length-0<=_;omega))
 unfold Iq
 rw[hv,zA]
 unfold Ir
 rw[X8 _ (by omega) (by omega),zA,hw,zA]
 rfl
theorem Yk (n:Int) (h0:0<=n) (h1:n*32<=140737488355328):Lh n=some []:=by
 unfold Lh
 rw[if_neg (by rw[decide_eq_true_eq];omega)]
 unfold Km
 rw[Cd (n:=0-0) (by decide) (by decide),show n-(0-0)=n from by omega,Cd (by omega) (by omega)]
 by_cases hn:0<n
 ·rw[if_pos (decide_eq_true hn),if_pos ⟨hn,by omega⟩,if_pos ⟨xU _,xL _⟩]
  rfl
 ·rw[if_neg (by rw[decide_eq_true_eq];exact hn)]
theorem W2 (xss:List (List Ba)) (h:xss.flatten.length*32<=140737488355328) (hl:xss.length<=1000000000000000000):Je xss=some xss.flatten:=by
 have hpre:∀ i,(xss.take i).flatten.length<=xss.flatten.length:=λi=>by
  have e:xss.flatten.length=(xss.take i).flatten.length+(xss.drop i).flatten.length:=by
   rw[<- zH,<- xN,xK]
  omega
 have hstep:∀ i (hi:i<xss.length),(xss.take (i+1)).flatten=(xss.take i).flatten++xss[i]:=λi hi=>by
  rw[zM hi,xN];simp
 obtain⟨v,hv,rfl⟩:=Dm (f:=E1 xss) (P:=λs=>∃ i,i<=xss.length/\s=(((xss.take i).flatten.length:Int),(i:Int))) (μ:=λs=>xss.length-s.2.toNat) (R:=λv=>v=(xss.flatten.length:Int)) (by
  rintro _ ⟨i,hi,rfl⟩
  rcases zO i xss.length with hlt|hge
  ·left
   have h1:=hpre (i+1)
   rw[hstep i hlt,zH] at h1
   refine⟨(((xss.take (i+1)).flatten.length:Int),((i+1:Nat):Int)),?_,⟨i+1,hlt,rfl⟩,by simp only[zT];omega⟩
   unfold E1
   rw[if_pos (decide_eq_true (by show(i:Int)<xss.length;omega))]
   dsimp only
   rw[Bo,zB hlt,zA,Cd (by omega) (by omega),Cd (by omega) (by omega),if_neg (by rw[decide_eq_true_eq];omega),hstep i hlt,zH,xM,xM]
   rfl
  ·right
   have e:i=xss.length:=by omega
   subst e
   refine⟨_,?_,rfl⟩
   unfold E1
   rw[if_neg (by rw[decide_eq_true_eq];exact wU _),yF]) fuel (0,0) ⟨0,zX _,by simp⟩ (Co (by show xss.length-0<=_;omega))
 obtain⟨w,hw,rfl⟩:=Dm (f:=Eu xss) (P:=λs=>∃ i,i<=xss.length/\s=((i:Int),(xss.take i).flatten)) (μ:=λs=>xss.length-s.1.toNat) (R:=λv=>v=xss.flatten) (by
  rintro _ ⟨i,hi,rfl⟩
  rcases zO i xss.length with hlt|hge
  ·left
   have h1:=hpre (i+1)
   rw[hstep i hlt,zH] at h1
   refine⟨(((i+1:Nat):Int),(xss.take (i+1)).flatten),?_,⟨i+1,hlt,rfl⟩,by simp only[zT];omega⟩
   unfold Eu
   rw[if_pos (decide_eq_true (by show(i:Int)<xss.length;omega))]
   dsimp only
   rw[Bo,zB hlt,zA,Cd (by omega) (by omega),if_pos (by omega),hstep i hlt,xM]
   rfl
  ·right
   have e:i=xss.length:=by omega
   subst e
   refine⟨_,?_,rfl⟩
   unfold Eu
   rw[if_neg (by rw[decide_eq_true_eq];exact wU _),yF]) fuel (0,([]:List Ba)) ⟨0,zX _,by simp⟩ (Co (by show xss.length-0<=_;omega))
 unfold Je
 rw[hv,zA]
 unfold J2
 rw[Yk _ (by omega) (by omega),zA,hw,zA]
 rfl
theorem Xg (xs:List Ba) (h:xs.length*32<=140737488355328):Jq xs=some xs:=by
 unfold Jq
 rw[if_pos (by simpa using h)]
 rfl
theorem R4 (xs:List A7) (h:xs.length*56<=140737488355328):Jw xs=some xs:=by
 unfold Jw
 rw[if_pos (by simpa using h)]
 rfl
theorem Xc (xs:List Bg) (h:xs.length*64<=140737488355328):Jn xs=some xs:=by
 unfold Jn
 rw[if_pos (by simpa using h)]
 rfl
theorem Wu (xs:List A8) (h:xs.length*40<=140737488355328):Jf xs=some xs:=by
 unfold Jf
 rw[if_pos (by simpa using h)]
 rfl
end Go.Proofs.YtkblaobhhoebaaaGreat.Abs
