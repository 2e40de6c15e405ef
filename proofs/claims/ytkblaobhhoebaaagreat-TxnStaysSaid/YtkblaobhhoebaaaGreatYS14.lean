/-
 The library's rows.
-/
import Derived.Test.YtkblaobhhoebaaaGreatYT14
import Derived.Test.YtkblaobhhoebaaaGreatYAbsC
set_option linter.unusedVariables false
set_option linter.unusedSimpArgs false
namespace Go.Proofs.YtkblaobhhoebaaaGreat.Abs
theorem U9 (n:Int) (h0:0≤n) (h1:n*64≤140737488355328):Kn n=some []:=by
 unfold Kn
 rw [if_neg (by rw [decide_eq_true_eq];omega)]
 unfold Jy
 rw [Cd (n:=0-0) (by decide) (by decide),show n-(0-0)=n from by omega,Cd (by omega) (by omega)]
 by_cases hn:0<n
 ·rw [if_pos (decide_eq_true hn),if_pos ⟨hn,by omega⟩,if_pos ⟨xP _,xM _⟩]
  rfl
 ·rw [if_neg (by rw [decide_eq_true_eq];exact hn)]
theorem Uh (xss:List (List A1)) (h:xss.flatten.length*64≤140737488355328) (hl:xss.length≤1000000000000000000):Ja xss=some xss.flatten:=by
 have hpre:∀ i,(xss.take i).flatten.length≤xss.flatten.length:=fun i=>by
  have e:xss.flatten.length=(xss.take i).flatten.length+(xss.drop i).flatten.length:=by
   rw [← zG,← xO,xL]
  omega
 have hstep:∀ i (hi:i<xss.length),(xss.take (i+1)).flatten=(xss.take i).flatten++xss[i]:=fun i hi=>by
  rw [zM hi,xO];simp
 obtain ⟨v,hv,rfl⟩:=Di (f:=Er xss) (P:=fun s=>∃ i,i≤xss.length∧s=(((xss.take i).flatten.length:Int),(i:Int))) (μ:=fun s=>xss.length-s.2.toNat) (R:=fun v=>v=(xss.flatten.length:Int)) (by
  rintro _ ⟨i,hi,rfl⟩
  rcases zP i xss.length with hlt | hge
  ·left
   have h1:=hpre (i+1)
   rw [hstep i hlt,zG] at h1
   refine ⟨(((xss.take (i+1)).flatten.length:Int),((i+1:Nat):Int)),?_,⟨i+1,hlt,rfl⟩,by simp only [zW];omega⟩
   unfold Er
   rw [if_pos (decide_eq_true (by show (i:Int)<xss.length;omega))]
   dsimp only
   rw [Bp,zB hlt,zA,Cd (by omega) (by omega),Cd (by omega) (by omega),if_neg (by rw [decide_eq_true_eq];omega),hstep i hlt,zG,xN,xN]
   rfl
  ·right
   have e:i=xss.length:=by omega
   subst e
   refine ⟨_,?_,rfl⟩
   unfold Er
   rw [if_neg (by rw [decide_eq_true_eq];exact wT _),yI]) fuel (0,0) ⟨0,zX _,by simp⟩ (Ci (by show xss.length-0≤_;omega))
 obtain ⟨w,hw,rfl⟩:=Di (f:=Ek xss) (P:=fun s=>∃ i,i≤xss.length∧s=((i:Int),(xss.take i).flatten)) (μ:=fun s=>xss.length-s.1.toNat) (R:=fun v=>v=xss.flatten) (by
  rintro _ ⟨i,hi,rfl⟩
  rcases zP i xss.length with hlt | hge
  ·left
   have h1:=hpre (i+1)
   rw [hstep i hlt,zG] at h1
   refine ⟨(((i+1:Nat):Int),(xss.take (i+1)).flatten),?_,⟨i+1,hlt,rfl⟩,by simp only [zW];omega⟩
   unfold Ek
   rw [if_pos (decide_eq_true (by show (i:Int)<xss.length;omega))]
   dsimp only
   rw [Bp,zB hlt,zA,Cd (by omega) (by omega),if_pos (by omega),hstep i hlt,xN]
   rfl
  ·right
   have e:i=xss.length:=by omega
   subst e
   refine ⟨_,?_,rfl⟩
   unfold Ek
   rw [if_neg (by rw [decide_eq_true_eq];exact wT _),yI]) fuel (0,([]:List A1)) ⟨0,zX _,by simp⟩ (Ci (by show xss.length-0≤_;omega))
 unfold Ja
 rw [hv,zA]
 unfold I7
 rw [U9 _ (by omega) (by omega),zA,hw,zA]
 rfl
theorem Vb (n:Int) (h0:0≤n) (h1:n*64≤140737488355328):Kr n=some []:=by
 unfold Kr
 rw [if_neg (by rw [decide_eq_true_eq];omega)]
 unfold J2
 rw [Cd (n:=0-0) (by decide) (by decide),show n-(0-0)=n from by omega,Cd (by omega) (by omega)]
 by_cases hn:0<n
 ·rw [if_pos (decide_eq_true hn),if_pos ⟨hn,by omega⟩,if_pos ⟨xP _,xM _⟩]
  rfl
 ·rw [if_neg (by rw [decide_eq_true_eq];exact hn)]
theorem Vs (xss:List (List Bc)) (h:xss.flatten.length*64≤140737488355328) (hl:xss.length≤1000000000000000000):J9 xss=some xss.flatten:=by
 have hpre:∀ i,(xss.take i).flatten.length≤xss.flatten.length:=fun i=>by
  have e:xss.flatten.length=(xss.take i).flatten.length+(xss.drop i).flatten.length:=by
   rw [← zG,← xO,xL]
  omega
 have hstep:∀ i (hi:i<xss.length),(xss.take (i+1)).flatten=(xss.take i).flatten++xss[i]:=fun i hi=>by
  rw [zM hi,xO];simp
 obtain ⟨v,hv,rfl⟩:=Di (f:=E5 xss) (P:=fun s=>∃ i,i≤xss.length∧s=(((xss.take i).flatten.length:Int),(i:Int))) (μ:=fun s=>xss.length-s.2.toNat) (R:=fun v=>v=(xss.flatten.length:Int)) (by
  rintro _ ⟨i,hi,rfl⟩
  rcases zP i xss.length with hlt | hge
  ·left
   have h1:=hpre (i+1)
   rw [hstep i hlt,zG] at h1
   refine ⟨(((xss.take (i+1)).flatten.length:Int),((i+1:Nat):Int)),?_,⟨i+1,hlt,rfl⟩,by simp only [zW];omega⟩
   unfold E5
   rw [if_pos (decide_eq_true (by show (i:Int)<xss.length;omega))]
   dsimp only
   rw [Bp,zB hlt,zA,Cd (by omega) (by omega),Cd (by omega) (by omega),if_neg (by rw [decide_eq_true_eq];omega),hstep i hlt,zG,xN,xN]
   rfl
  ·right
   have e:i=xss.length:=by omega
   subst e
   refine ⟨_,?_,rfl⟩
   unfold E5
   rw [if_neg (by rw [decide_eq_true_eq];exact wT _),yI]) fuel (0,0) ⟨0,zX _,by simp⟩ (Ci (by show xss.length-0≤_;omega))
 obtain ⟨w,hw,rfl⟩:=Di (f:=Fb xss) (P:=fun s=>∃ i,i≤xss.length∧s=((i:Int),(xss.take i).flatten)) (μ:=fun s=>xss.length-s.1.toNat) (R:=fun v=>v=xss.flatten) (by
  rintro _ ⟨i,hi,rfl⟩
  rcases zP i xss.length with hlt | hge
  ·left
   have h1:=hpre (i+1)
   rw [hstep i hlt,zG] at h1
   refine ⟨(((i+1:Nat):Int),(xss.take (i+1)).flatten),?_,⟨i+1,hlt,rfl⟩,by simp only [zW];omega⟩
   unfold Fb
   rw [if_pos (decide_eq_true (by show (i:Int)<xss.length;omega))]
   dsimp only
   rw [Bp,zB hlt,zA,Cd (by omega) (by omega),if_pos (by omega),hstep i hlt,xN]
   rfl
  ·right
   have e:i=xss.length:=by omega
   subst e
   refine ⟨_,?_,rfl⟩
   unfold Fb
   rw [if_neg (by rw [decide_eq_true_eq];exact wT _),yI]) fuel (0,([]:List Bc)) ⟨0,zX _,by simp⟩ (Ci (by show xss.length-0≤_;omega))
 unfold J9
 rw [hv,zA]
 unfold Jw
 rw [Vb _ (by omega) (by omega),zA,hw,zA]
 rfl
theorem V6 (n:Int) (h0:0≤n) (h1:n*1≤140737488355328):Kq n=some []:=by
 unfold Kq
 rw [if_neg (by rw [decide_eq_true_eq];omega)]
 unfold Ju
 rw [Cd (n:=0-0) (by decide) (by decide),show n-(0-0)=n from by omega,Cd (by omega) (by omega)]
 by_cases hn:0<n
 ·rw [if_pos (decide_eq_true hn),if_pos ⟨hn,by omega⟩,if_pos ⟨xP _,xM _⟩]
  rfl
 ·rw [if_neg (by rw [decide_eq_true_eq];exact hn)]
theorem T8 (xss:List (List UInt8)) (h:xss.flatten.length*1≤140737488355328) (hl:xss.length≤1000000000000000000):Hm xss=some xss.flatten:=by
 have hpre:∀ i,(xss.take i).flatten.length≤xss.flatten.length:=fun i=>by
  have e:xss.flatten.length=(xss.take i).flatten.length+(xss.drop i).flatten.length:=by
   rw [← zG,← xO,xL]
  omega
 have hstep:∀ i (hi:i<xss.length),(xss.take (i+1)).flatten=(xss.take i).flatten++xss[i]:=fun i hi=>by
  rw [zM hi,xO];simp
 obtain ⟨v,hv,rfl⟩:=Di (f:=D8 xss) (P:=fun s=>∃ i,i≤xss.length∧s=(((xss.take i).flatten.length:Int),(i:Int))) (μ:=fun s=>xss.length-s.2.toNat) (R:=fun v=>v=(xss.flatten.length:Int)) (by
  rintro _ ⟨i,hi,rfl⟩
  rcases zP i xss.length with hlt | hge
  ·left
   have h1:=hpre (i+1)
   rw [hstep i hlt,zG] at h1
   refine ⟨(((xss.take (i+1)).flatten.length:Int),((i+1:Nat):Int)),?_,⟨i+1,hlt,rfl⟩,by simp only [zW];omega⟩
   unfold D8
   rw [if_pos (decide_eq_true (by show (i:Int)<xss.length;omega))]
   dsimp only
   rw [Bp,zB hlt,zA,Cd (by omega) (by omega),Cd (by omega) (by omega),if_neg (by rw [decide_eq_true_eq];omega),hstep i hlt,zG,xN,xN]
   rfl
  ·right
   have e:i=xss.length:=by omega
   subst e
   refine ⟨_,?_,rfl⟩
   unfold D8
   rw [if_neg (by rw [decide_eq_true_eq];exact wT _),yI]) fuel (0,0) ⟨0,zX _,by simp⟩ (Ci (by show xss.length-0≤_;omega))
 obtain ⟨w,hw,rfl⟩:=Di (f:=D6 xss) (P:=fun s=>∃ i,i≤xss.length∧s=((i:Int),(xss.take i).flatten)) (μ:=fun s=>xss.length-s.1.toNat) (R:=fun v=>v=xss.flatten) (by
  rintro _ ⟨i,hi,rfl⟩
  rcases zP i xss.length with hlt | hge
  ·left
   have h1:=hpre (i+1)
   rw [hstep i hlt,zG] at h1
   refine ⟨(((i+1:Nat):Int),(xss.take (i+1)).flatten),?_,⟨i+1,hlt,rfl⟩,by simp only [zW];omega⟩
   unfold D6
   rw [if_pos (decide_eq_true (by show (i:Int)<xss.length;omega))]
   dsimp only
   rw [Bp,zB hlt,zA,Cd (by omega) (by omega),if_pos (by omega),hstep i hlt,xN]
   rfl
  ·right
   have e:i=xss.length:=by omega
   subst e
   refine ⟨_,?_,rfl⟩
   unfold D6
   rw [if_neg (by rw [decide_eq_true_eq];exact wT _),yI]) fuel (0,([]:List UInt8)) ⟨0,zX _,by simp⟩ (Ci (by show xss.length-0≤_;omega))
 unfold Hm
 rw [hv,zA]
 unfold Hz
 rw [V6 _ (by omega) (by omega),zA,hw,zA]
 rfl
theorem Vo (n:Int) (h0:0≤n) (h1:n*64≤140737488355328):Kd n=some []:=by
 unfold Kd
 rw [if_neg (by rw [decide_eq_true_eq];omega)]
 unfold J1
 rw [Cd (n:=0-0) (by decide) (by decide),show n-(0-0)=n from by omega,Cd (by omega) (by omega)]
 by_cases hn:0<n
 ·rw [if_pos (decide_eq_true hn),if_pos ⟨hn,by omega⟩,if_pos ⟨xP _,xM _⟩]
  rfl
 ·rw [if_neg (by rw [decide_eq_true_eq];exact hn)]
theorem Tc (xss:List (List Az)) (h:xss.flatten.length*64≤140737488355328) (hl:xss.length≤1000000000000000000):Fx xss=some xss.flatten:=by
 have hpre:∀ i,(xss.take i).flatten.length≤xss.flatten.length:=fun i=>by
  have e:xss.flatten.length=(xss.take i).flatten.length+(xss.drop i).flatten.length:=by
   rw [← zG,← xO,xL]
  omega
 have hstep:∀ i (hi:i<xss.length),(xss.take (i+1)).flatten=(xss.take i).flatten++xss[i]:=fun i hi=>by
  rw [zM hi,xO];simp
 obtain ⟨v,hv,rfl⟩:=Di (f:=D5 xss) (P:=fun s=>∃ i,i≤xss.length∧s=(((xss.take i).flatten.length:Int),(i:Int))) (μ:=fun s=>xss.length-s.2.toNat) (R:=fun v=>v=(xss.flatten.length:Int)) (by
  rintro _ ⟨i,hi,rfl⟩
  rcases zP i xss.length with hlt | hge
  ·left
   have h1:=hpre (i+1)
   rw [hstep i hlt,zG] at h1
   refine ⟨(((xss.take (i+1)).flatten.length:Int),((i+1:Nat):Int)),?_,⟨i+1,hlt,rfl⟩,by simp only [zW];omega⟩
   unfold D5
   rw [if_pos (decide_eq_true (by show (i:Int)<xss.length;omega))]
   dsimp only
   rw [Bp,zB hlt,zA,Cd (by omega) (by omega),Cd (by omega) (by omega),if_neg (by rw [decide_eq_true_eq];omega),hstep i hlt,zG,xN,xN]
   rfl
  ·right
   have e:i=xss.length:=by omega
   subst e
   refine ⟨_,?_,rfl⟩
   unfold D5
   rw [if_neg (by rw [decide_eq_true_eq];exact wT _),yI]) fuel (0,0) ⟨0,zX _,by simp⟩ (Ci (by show xss.length-0≤_;omega))
 obtain ⟨w,hw,rfl⟩:=Di (f:=Eb xss) (P:=fun s=>∃ i,i≤xss.length∧s=((i:Int),(xss.take i).flatten)) (μ:=fun s=>xss.length-s.1.toNat) (R:=fun v=>v=xss.flatten) (by
  rintro _ ⟨i,hi,rfl⟩
  rcases zP i xss.length with hlt | hge
  ·left
   have h1:=hpre (i+1)
   rw [hstep i hlt,zG] at h1
   refine ⟨(((i+1:Nat):Int),(xss.take (i+1)).flatten),?_,⟨i+1,hlt,rfl⟩,by simp only [zW];omega⟩
   unfold Eb
   rw [if_pos (decide_eq_true (by show (i:Int)<xss.length;omega))]
   dsimp only
   rw [Bp,zB hlt,zA,Cd (by omega) (by omega),if_pos (by omega),hstep i hlt,xN]
   rfl
  ·right
   have e:i=xss.length:=by omega
   subst e
   refine ⟨_,?_,rfl⟩
   unfold Eb
   rw [if_neg (by rw [decide_eq_true_eq];exact wT _),yI]) fuel (0,([]:List Az)) ⟨0,zX _,by simp⟩ (Ci (by show xss.length-0≤_;omega))
 unfold Fx
 rw [hv,zA]
 unfold Hw
 rw [Vo _ (by omega) (by omega),zA,hw,zA]
 rfl
theorem Vr (n:Int) (h0:0≤n) (h1:n*40≤140737488355328):J7 n=some []:=by
 unfold J7
 rw [if_neg (by rw [decide_eq_true_eq];omega)]
 unfold Jz
 rw [Cd (n:=0-0) (by decide) (by decide),show n-(0-0)=n from by omega,Cd (by omega) (by omega)]
 by_cases hn:0<n
 ·rw [if_pos (decide_eq_true hn),if_pos ⟨hn,by omega⟩,if_pos ⟨xP _,xM _⟩]
  rfl
 ·rw [if_neg (by rw [decide_eq_true_eq];exact hn)]
theorem Tt (xss:List (List Ax)) (h:xss.flatten.length*40≤140737488355328) (hl:xss.length≤1000000000000000000):Ht xss=some xss.flatten:=by
 have hpre:∀ i,(xss.take i).flatten.length≤xss.flatten.length:=fun i=>by
  have e:xss.flatten.length=(xss.take i).flatten.length+(xss.drop i).flatten.length:=by
   rw [← zG,← xO,xL]
  omega
 have hstep:∀ i (hi:i<xss.length),(xss.take (i+1)).flatten=(xss.take i).flatten++xss[i]:=fun i hi=>by
  rw [zM hi,xO];simp
 obtain ⟨v,hv,rfl⟩:=Di (f:=Ee xss) (P:=fun s=>∃ i,i≤xss.length∧s=(((xss.take i).flatten.length:Int),(i:Int))) (μ:=fun s=>xss.length-s.2.toNat) (R:=fun v=>v=(xss.flatten.length:Int)) (by
  rintro _ ⟨i,hi,rfl⟩
  rcases zP i xss.length with hlt | hge
  ·left
   have h1:=hpre (i+1)
   rw [hstep i hlt,zG] at h1
   refine ⟨(((xss.take (i+1)).flatten.length:Int),((i+1:Nat):Int)),?_,⟨i+1,hlt,rfl⟩,by simp only [zW];omega⟩
   unfold Ee
   rw [if_pos (decide_eq_true (by show (i:Int)<xss.length;omega))]
   dsimp only
   rw [Bp,zB hlt,zA,Cd (by omega) (by omega),Cd (by omega) (by omega),if_neg (by rw [decide_eq_true_eq];omega),hstep i hlt,zG,xN,xN]
   rfl
  ·right
   have e:i=xss.length:=by omega
   subst e
   refine ⟨_,?_,rfl⟩
   unfold Ee
   rw [if_neg (by rw [decide_eq_true_eq];exact wT _),yI]) fuel (0,0) ⟨0,zX _,by simp⟩ (Ci (by show xss.length-0≤_;omega))
 obtain ⟨w,hw,rfl⟩:=Di (f:=D9 xss) (P:=fun s=>∃ i,i≤xss.length∧s=((i:Int),(xss.take i).flatten)) (μ:=fun s=>xss.length-s.1.toNat) (R:=fun v=>v=xss.flatten) (by
  rintro _ ⟨i,hi,rfl⟩
  rcases zP i xss.length with hlt | hge
  ·left
   have h1:=hpre (i+1)
   rw [hstep i hlt,zG] at h1
   refine ⟨(((i+1:Nat):Int),(xss.take (i+1)).flatten),?_,⟨i+1,hlt,rfl⟩,by simp only [zW];omega⟩
   unfold D9
   rw [if_pos (decide_eq_true (by show (i:Int)<xss.length;omega))]
   dsimp only
   rw [Bp,zB hlt,zA,Cd (by omega) (by omega),if_pos (by omega),hstep i hlt,xN]
   rfl
  ·right
   have e:i=xss.length:=by omega
   subst e
   refine ⟨_,?_,rfl⟩
   unfold D9
   rw [if_neg (by rw [decide_eq_true_eq];exact wT _),yI]) fuel (0,([]:List Ax)) ⟨0,zX _,by simp⟩ (Ci (by show xss.length-0≤_;omega))
 unfold Ht
 rw [hv,zA]
 unfold Hv
 rw [Vr _ (by omega) (by omega),zA,hw,zA]
 rfl
theorem Vl (n:Int) (h0:0≤n) (h1:n*32≤140737488355328):Kl n=some []:=by
 unfold Kl
 rw [if_neg (by rw [decide_eq_true_eq];omega)]
 unfold Jv
 rw [Cd (n:=0-0) (by decide) (by decide),show n-(0-0)=n from by omega,Cd (by omega) (by omega)]
 by_cases hn:0<n
 ·rw [if_pos (decide_eq_true hn),if_pos ⟨hn,by omega⟩,if_pos ⟨xP _,xM _⟩]
  rfl
 ·rw [if_neg (by rw [decide_eq_true_eq];exact hn)]
theorem Ug (xss:List (List A5)) (h:xss.flatten.length*32≤140737488355328) (hl:xss.length≤1000000000000000000):I9 xss=some xss.flatten:=by
 have hpre:∀ i,(xss.take i).flatten.length≤xss.flatten.length:=fun i=>by
  have e:xss.flatten.length=(xss.take i).flatten.length+(xss.drop i).flatten.length:=by
   rw [← zG,← xO,xL]
  omega
 have hstep:∀ i (hi:i<xss.length),(xss.take (i+1)).flatten=(xss.take i).flatten++xss[i]:=fun i hi=>by
  rw [zM hi,xO];simp
 obtain ⟨v,hv,rfl⟩:=Di (f:=Eu xss) (P:=fun s=>∃ i,i≤xss.length∧s=(((xss.take i).flatten.length:Int),(i:Int))) (μ:=fun s=>xss.length-s.2.toNat) (R:=fun v=>v=(xss.flatten.length:Int)) (by
  rintro _ ⟨i,hi,rfl⟩
  rcases zP i xss.length with hlt | hge
  ·left
   have h1:=hpre (i+1)
   rw [hstep i hlt,zG] at h1
   refine ⟨(((xss.take (i+1)).flatten.length:Int),((i+1:Nat):Int)),?_,⟨i+1,hlt,rfl⟩,by simp only [zW];omega⟩
   unfold Eu
   rw [if_pos (decide_eq_true (by show (i:Int)<xss.length;omega))]
   dsimp only
   rw [Bp,zB hlt,zA,Cd (by omega) (by omega),Cd (by omega) (by omega),if_neg (by rw [decide_eq_true_eq];omega),hstep i hlt,zG,xN,xN]
   rfl
  ·right
   have e:i=xss.length:=by omega
   subst e
   refine ⟨_,?_,rfl⟩
   unfold Eu
   rw [if_neg (by rw [decide_eq_true_eq];exact wT _),yI]) fuel (0,0) ⟨0,zX _,by simp⟩ (Ci (by show xss.length-0≤_;omega))
 obtain ⟨w,hw,rfl⟩:=Di (f:=El xss) (P:=fun s=>∃ i,i≤xss.length∧s=((i:Int),(xss.take i).flatten)) (μ:=fun s=>xss.length-s.1.toNat) (R:=fun v=>v=xss.flatten) (by
  rintro _ ⟨i,hi,rfl⟩
  rcases zP i xss.length with hlt | hge
  ·left
   have h1:=hpre (i+1)
   rw [hstep i hlt,zG] at h1
   refine ⟨(((i+1:Nat):Int),(xss.take (i+1)).flatten),?_,⟨i+1,hlt,rfl⟩,by simp only [zW];omega⟩
   unfold El
   rw [if_pos (decide_eq_true (by show (i:Int)<xss.length;omega))]
   dsimp only
   rw [Bp,zB hlt,zA,Cd (by omega) (by omega),if_pos (by omega),hstep i hlt,xN]
   rfl
  ·right
   have e:i=xss.length:=by omega
   subst e
   refine ⟨_,?_,rfl⟩
   unfold El
   rw [if_neg (by rw [decide_eq_true_eq];exact wT _),yI]) fuel (0,([]:List A5)) ⟨0,zX _,by simp⟩ (Ci (by show xss.length-0≤_;omega))
 unfold I9
 rw [hv,zA]
 unfold Ir
 rw [Vl _ (by omega) (by omega),zA,hw,zA]
 rfl
theorem Uk (xs:List A5) (h:xs.length*32≤140737488355328):Im xs=some xs:=by
 unfold Im
 rw [if_pos (by simpa using h)]
 rfl
theorem P9 (xs:List A6) (h:xs.length*56≤140737488355328):Ij xs=some xs:=by
 unfold Ij
 rw [if_pos (by simpa using h)]
 rfl
theorem Uz (xs:List Bc) (h:xs.length*64≤140737488355328):Ik xs=some xs:=by
 unfold Ik
 rw [if_pos (by simpa using h)]
 rfl
theorem Uq (xs:List Ax) (h:xs.length*40≤140737488355328):Je xs=some xs:=by
 unfold Je
 rw [if_pos (by simpa using h)]
 rfl
end Go.Proofs.YtkblaobhhoebaaaGreat.Abs
