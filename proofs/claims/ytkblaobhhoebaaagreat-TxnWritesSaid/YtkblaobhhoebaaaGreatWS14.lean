/-
 The library's rows.
-/
import Derived.Test.YtkblaobhhoebaaaGreatWT14
import Derived.Test.YtkblaobhhoebaaaGreatWAbsC
set_option linter.unusedVariables false
set_option linter.unusedSimpArgs false
namespace Go.Proofs.YtkblaobhhoebaaaGreat.Abs
theorem Vy (n:Int) (h0:0≤n) (h1:n*64≤140737488355328):Kr n=some []:=by
 unfold Kr
 rw [if_neg (by rw [decide_eq_true_eq];omega)]
 unfold J6
 rw [Cb (n:=0-0) (by decide) (by decide),show n-(0-0)=n from by omega,Cb (by omega) (by omega)]
 by_cases hn:0<n
 ·rw [if_pos (decide_eq_true hn),if_pos ⟨hn,by omega⟩,if_pos ⟨xU _,xK _⟩]
  rfl
 ·rw [if_neg (by rw [decide_eq_true_eq];exact hn)]
theorem U9 (xss:List (List A2)) (h:xss.flatten.length*64≤140737488355328) (hl:xss.length≤1000000000000000000):Iq xss=some xss.flatten:=by
 have hpre:∀ i,(xss.take i).flatten.length≤xss.flatten.length:=fun i=>by
  have e:xss.flatten.length=(xss.take i).flatten.length+(xss.drop i).flatten.length:=by
   rw [← zH,← xM,xJ]
  omega
 have hstep:∀ i (hi:i<xss.length),(xss.take (i+1)).flatten=(xss.take i).flatten++xss[i]:=fun i hi=>by
  rw [zM hi,xM];simp
 obtain ⟨v,hv,rfl⟩:=C9 (f:=Eo xss) (P:=fun s=>∃ i,i≤xss.length∧s=(((xss.take i).flatten.length:Int),(i:Int))) (μ:=fun s=>xss.length-s.2.toNat) (R:=fun v=>v=(xss.flatten.length:Int)) (by
  rintro _ ⟨i,hi,rfl⟩
  rcases zO i xss.length with hlt | hge
  ·left
   have h1:=hpre (i+1)
   rw [hstep i hlt,zH] at h1
   refine ⟨(((xss.take (i+1)).flatten.length:Int),((i+1:Nat):Int)),?_,⟨i+1,hlt,rfl⟩,by simp only [zR];omega⟩
   unfold Eo
   rw [if_pos (decide_eq_true (by show (i:Int)<xss.length;omega))]
   dsimp only
   rw [Bn,zB hlt,zA,Cb (by omega) (by omega),Cb (by omega) (by omega),if_neg (by rw [decide_eq_true_eq];omega),hstep i hlt,zH,xL,xL]
   rfl
  ·right
   have e:i=xss.length:=by omega
   subst e
   refine ⟨_,?_,rfl⟩
   unfold Eo
   rw [if_neg (by rw [decide_eq_true_eq];exact wV _),yI]) fuel (0,0) ⟨0,zY _,by simp⟩ (Ce (by show xss.length-0≤_;omega))
 obtain ⟨w,hw,rfl⟩:=C9 (f:=Ek xss) (P:=fun s=>∃ i,i≤xss.length∧s=((i:Int),(xss.take i).flatten)) (μ:=fun s=>xss.length-s.1.toNat) (R:=fun v=>v=xss.flatten) (by
  rintro _ ⟨i,hi,rfl⟩
  rcases zO i xss.length with hlt | hge
  ·left
   have h1:=hpre (i+1)
   rw [hstep i hlt,zH] at h1
   refine ⟨(((i+1:Nat):Int),(xss.take (i+1)).flatten),?_,⟨i+1,hlt,rfl⟩,by simp only [zR];omega⟩
   unfold Ek
   rw [if_pos (decide_eq_true (by show (i:Int)<xss.length;omega))]
   dsimp only
   rw [Bn,zB hlt,zA,Cb (by omega) (by omega),if_pos (by omega),hstep i hlt,xL]
   rfl
  ·right
   have e:i=xss.length:=by omega
   subst e
   refine ⟨_,?_,rfl⟩
   unfold Ek
   rw [if_neg (by rw [decide_eq_true_eq];exact wV _),yI]) fuel (0,([]:List A2)) ⟨0,zY _,by simp⟩ (Ce (by show xss.length-0≤_;omega))
 unfold Iq
 rw [hv,zA]
 unfold I7
 rw [Vy _ (by omega) (by omega),zA,hw,zA]
 rfl
theorem Wj (n:Int) (h0:0≤n) (h1:n*64≤140737488355328):Kt n=some []:=by
 unfold Kt
 rw [if_neg (by rw [decide_eq_true_eq];omega)]
 unfold J5
 rw [Cb (n:=0-0) (by decide) (by decide),show n-(0-0)=n from by omega,Cb (by omega) (by omega)]
 by_cases hn:0<n
 ·rw [if_pos (decide_eq_true hn),if_pos ⟨hn,by omega⟩,if_pos ⟨xU _,xK _⟩]
  rfl
 ·rw [if_neg (by rw [decide_eq_true_eq];exact hn)]
theorem Vz (xss:List (List Be)) (h:xss.flatten.length*64≤140737488355328) (hl:xss.length≤1000000000000000000):Km xss=some xss.flatten:=by
 have hpre:∀ i,(xss.take i).flatten.length≤xss.flatten.length:=fun i=>by
  have e:xss.flatten.length=(xss.take i).flatten.length+(xss.drop i).flatten.length:=by
   rw [← zH,← xM,xJ]
  omega
 have hstep:∀ i (hi:i<xss.length),(xss.take (i+1)).flatten=(xss.take i).flatten++xss[i]:=fun i hi=>by
  rw [zM hi,xM];simp
 obtain ⟨v,hv,rfl⟩:=C9 (f:=E7 xss) (P:=fun s=>∃ i,i≤xss.length∧s=(((xss.take i).flatten.length:Int),(i:Int))) (μ:=fun s=>xss.length-s.2.toNat) (R:=fun v=>v=(xss.flatten.length:Int)) (by
  rintro _ ⟨i,hi,rfl⟩
  rcases zO i xss.length with hlt | hge
  ·left
   have h1:=hpre (i+1)
   rw [hstep i hlt,zH] at h1
   refine ⟨(((xss.take (i+1)).flatten.length:Int),((i+1:Nat):Int)),?_,⟨i+1,hlt,rfl⟩,by simp only [zR];omega⟩
   unfold E7
   rw [if_pos (decide_eq_true (by show (i:Int)<xss.length;omega))]
   dsimp only
   rw [Bn,zB hlt,zA,Cb (by omega) (by omega),Cb (by omega) (by omega),if_neg (by rw [decide_eq_true_eq];omega),hstep i hlt,zH,xL,xL]
   rfl
  ·right
   have e:i=xss.length:=by omega
   subst e
   refine ⟨_,?_,rfl⟩
   unfold E7
   rw [if_neg (by rw [decide_eq_true_eq];exact wV _),yI]) fuel (0,0) ⟨0,zY _,by simp⟩ (Ce (by show xss.length-0≤_;omega))
 obtain ⟨w,hw,rfl⟩:=C9 (f:=E8 xss) (P:=fun s=>∃ i,i≤xss.length∧s=((i:Int),(xss.take i).flatten)) (μ:=fun s=>xss.length-s.1.toNat) (R:=fun v=>v=xss.flatten) (by
  rintro _ ⟨i,hi,rfl⟩
  rcases zO i xss.length with hlt | hge
  ·left
   have h1:=hpre (i+1)
   rw [hstep i hlt,zH] at h1
   refine ⟨(((i+1:Nat):Int),(xss.take (i+1)).flatten),?_,⟨i+1,hlt,rfl⟩,by simp only [zR];omega⟩
   unfold E8
   rw [if_pos (decide_eq_true (by show (i:Int)<xss.length;omega))]
   dsimp only
   rw [Bn,zB hlt,zA,Cb (by omega) (by omega),if_pos (by omega),hstep i hlt,xL]
   rfl
  ·right
   have e:i=xss.length:=by omega
   subst e
   refine ⟨_,?_,rfl⟩
   unfold E8
   rw [if_neg (by rw [decide_eq_true_eq];exact wV _),yI]) fuel (0,([]:List Be)) ⟨0,zY _,by simp⟩ (Ce (by show xss.length-0≤_;omega))
 unfold Km
 rw [hv,zA]
 unfold J7
 rw [Wj _ (by omega) (by omega),zA,hw,zA]
 rfl
theorem Vo (n:Int) (h0:0≤n) (h1:n*1≤140737488355328):Ks n=some []:=by
 unfold Ks
 rw [if_neg (by rw [decide_eq_true_eq];omega)]
 unfold J1
 rw [Cb (n:=0-0) (by decide) (by decide),show n-(0-0)=n from by omega,Cb (by omega) (by omega)]
 by_cases hn:0<n
 ·rw [if_pos (decide_eq_true hn),if_pos ⟨hn,by omega⟩,if_pos ⟨xU _,xK _⟩]
  rfl
 ·rw [if_neg (by rw [decide_eq_true_eq];exact hn)]
theorem Ul (xss:List (List UInt8)) (h:xss.flatten.length*1≤140737488355328) (hl:xss.length≤1000000000000000000):Hw xss=some xss.flatten:=by
 have hpre:∀ i,(xss.take i).flatten.length≤xss.flatten.length:=fun i=>by
  have e:xss.flatten.length=(xss.take i).flatten.length+(xss.drop i).flatten.length:=by
   rw [← zH,← xM,xJ]
  omega
 have hstep:∀ i (hi:i<xss.length),(xss.take (i+1)).flatten=(xss.take i).flatten++xss[i]:=fun i hi=>by
  rw [zM hi,xM];simp
 obtain ⟨v,hv,rfl⟩:=C9 (f:=D8 xss) (P:=fun s=>∃ i,i≤xss.length∧s=(((xss.take i).flatten.length:Int),(i:Int))) (μ:=fun s=>xss.length-s.2.toNat) (R:=fun v=>v=(xss.flatten.length:Int)) (by
  rintro _ ⟨i,hi,rfl⟩
  rcases zO i xss.length with hlt | hge
  ·left
   have h1:=hpre (i+1)
   rw [hstep i hlt,zH] at h1
   refine ⟨(((xss.take (i+1)).flatten.length:Int),((i+1:Nat):Int)),?_,⟨i+1,hlt,rfl⟩,by simp only [zR];omega⟩
   unfold D8
   rw [if_pos (decide_eq_true (by show (i:Int)<xss.length;omega))]
   dsimp only
   rw [Bn,zB hlt,zA,Cb (by omega) (by omega),Cb (by omega) (by omega),if_neg (by rw [decide_eq_true_eq];omega),hstep i hlt,zH,xL,xL]
   rfl
  ·right
   have e:i=xss.length:=by omega
   subst e
   refine ⟨_,?_,rfl⟩
   unfold D8
   rw [if_neg (by rw [decide_eq_true_eq];exact wV _),yI]) fuel (0,0) ⟨0,zY _,by simp⟩ (Ce (by show xss.length-0≤_;omega))
 obtain ⟨w,hw,rfl⟩:=C9 (f:=D5 xss) (P:=fun s=>∃ i,i≤xss.length∧s=((i:Int),(xss.take i).flatten)) (μ:=fun s=>xss.length-s.1.toNat) (R:=fun v=>v=xss.flatten) (by
  rintro _ ⟨i,hi,rfl⟩
  rcases zO i xss.length with hlt | hge
  ·left
   have h1:=hpre (i+1)
   rw [hstep i hlt,zH] at h1
   refine ⟨(((i+1:Nat):Int),(xss.take (i+1)).flatten),?_,⟨i+1,hlt,rfl⟩,by simp only [zR];omega⟩
   unfold D5
   rw [if_pos (decide_eq_true (by show (i:Int)<xss.length;omega))]
   dsimp only
   rw [Bn,zB hlt,zA,Cb (by omega) (by omega),if_pos (by omega),hstep i hlt,xL]
   rfl
  ·right
   have e:i=xss.length:=by omega
   subst e
   refine ⟨_,?_,rfl⟩
   unfold D5
   rw [if_neg (by rw [decide_eq_true_eq];exact wV _),yI]) fuel (0,([]:List UInt8)) ⟨0,zY _,by simp⟩ (Ce (by show xss.length-0≤_;omega))
 unfold Hw
 rw [hv,zA]
 unfold Ia
 rw [Vo _ (by omega) (by omega),zA,hw,zA]
 rfl
theorem Wg (n:Int) (h0:0≤n) (h1:n*64≤140737488355328):Kq n=some []:=by
 unfold Kq
 rw [if_neg (by rw [decide_eq_true_eq];omega)]
 unfold J4
 rw [Cb (n:=0-0) (by decide) (by decide),show n-(0-0)=n from by omega,Cb (by omega) (by omega)]
 by_cases hn:0<n
 ·rw [if_pos (decide_eq_true hn),if_pos ⟨hn,by omega⟩,if_pos ⟨xU _,xK _⟩]
  rfl
 ·rw [if_neg (by rw [decide_eq_true_eq];exact hn)]
theorem Ua (xss:List (List A3)) (h:xss.flatten.length*64≤140737488355328) (hl:xss.length≤1000000000000000000):F0 xss=some xss.flatten:=by
 have hpre:∀ i,(xss.take i).flatten.length≤xss.flatten.length:=fun i=>by
  have e:xss.flatten.length=(xss.take i).flatten.length+(xss.drop i).flatten.length:=by
   rw [← zH,← xM,xJ]
  omega
 have hstep:∀ i (hi:i<xss.length),(xss.take (i+1)).flatten=(xss.take i).flatten++xss[i]:=fun i hi=>by
  rw [zM hi,xM];simp
 obtain ⟨v,hv,rfl⟩:=C9 (f:=Dz xss) (P:=fun s=>∃ i,i≤xss.length∧s=(((xss.take i).flatten.length:Int),(i:Int))) (μ:=fun s=>xss.length-s.2.toNat) (R:=fun v=>v=(xss.flatten.length:Int)) (by
  rintro _ ⟨i,hi,rfl⟩
  rcases zO i xss.length with hlt | hge
  ·left
   have h1:=hpre (i+1)
   rw [hstep i hlt,zH] at h1
   refine ⟨(((xss.take (i+1)).flatten.length:Int),((i+1:Nat):Int)),?_,⟨i+1,hlt,rfl⟩,by simp only [zR];omega⟩
   unfold Dz
   rw [if_pos (decide_eq_true (by show (i:Int)<xss.length;omega))]
   dsimp only
   rw [Bn,zB hlt,zA,Cb (by omega) (by omega),Cb (by omega) (by omega),if_neg (by rw [decide_eq_true_eq];omega),hstep i hlt,zH,xL,xL]
   rfl
  ·right
   have e:i=xss.length:=by omega
   subst e
   refine ⟨_,?_,rfl⟩
   unfold Dz
   rw [if_neg (by rw [decide_eq_true_eq];exact wV _),yI]) fuel (0,0) ⟨0,zY _,by simp⟩ (Ce (by show xss.length-0≤_;omega))
 obtain ⟨w,hw,rfl⟩:=C9 (f:=D1 xss) (P:=fun s=>∃ i,i≤xss.length∧s=((i:Int),(xss.take i).flatten)) (μ:=fun s=>xss.length-s.1.toNat) (R:=fun v=>v=xss.flatten) (by
  rintro _ ⟨i,hi,rfl⟩
  rcases zO i xss.length with hlt | hge
  ·left
   have h1:=hpre (i+1)
   rw [hstep i hlt,zH] at h1
   refine ⟨(((i+1:Nat):Int),(xss.take (i+1)).flatten),?_,⟨i+1,hlt,rfl⟩,by simp only [zR];omega⟩
   unfold D1
   rw [if_pos (decide_eq_true (by show (i:Int)<xss.length;omega))]
   dsimp only
   rw [Bn,zB hlt,zA,Cb (by omega) (by omega),if_pos (by omega),hstep i hlt,xL]
   rfl
  ·right
   have e:i=xss.length:=by omega
   subst e
   refine ⟨_,?_,rfl⟩
   unfold D1
   rw [if_neg (by rw [decide_eq_true_eq];exact wV _),yI]) fuel (0,([]:List A3)) ⟨0,zY _,by simp⟩ (Ce (by show xss.length-0≤_;omega))
 unfold F0
 rw [hv,zA]
 unfold H8
 rw [Wg _ (by omega) (by omega),zA,hw,zA]
 rfl
theorem Vn (n:Int) (h0:0≤n) (h1:n*40≤140737488355328):Kn n=some []:=by
 unfold Kn
 rw [if_neg (by rw [decide_eq_true_eq];omega)]
 unfold Jw
 rw [Cb (n:=0-0) (by decide) (by decide),show n-(0-0)=n from by omega,Cb (by omega) (by omega)]
 by_cases hn:0<n
 ·rw [if_pos (decide_eq_true hn),if_pos ⟨hn,by omega⟩,if_pos ⟨xU _,xK _⟩]
  rfl
 ·rw [if_neg (by rw [decide_eq_true_eq];exact hn)]
theorem T7 (xss:List (List A0)) (h:xss.flatten.length*40≤140737488355328) (hl:xss.length≤1000000000000000000):Hv xss=some xss.flatten:=by
 have hpre:∀ i,(xss.take i).flatten.length≤xss.flatten.length:=fun i=>by
  have e:xss.flatten.length=(xss.take i).flatten.length+(xss.drop i).flatten.length:=by
   rw [← zH,← xM,xJ]
  omega
 have hstep:∀ i (hi:i<xss.length),(xss.take (i+1)).flatten=(xss.take i).flatten++xss[i]:=fun i hi=>by
  rw [zM hi,xM];simp
 obtain ⟨v,hv,rfl⟩:=C9 (f:=D6 xss) (P:=fun s=>∃ i,i≤xss.length∧s=(((xss.take i).flatten.length:Int),(i:Int))) (μ:=fun s=>xss.length-s.2.toNat) (R:=fun v=>v=(xss.flatten.length:Int)) (by
  rintro _ ⟨i,hi,rfl⟩
  rcases zO i xss.length with hlt | hge
  ·left
   have h1:=hpre (i+1)
   rw [hstep i hlt,zH] at h1
   refine ⟨(((xss.take (i+1)).flatten.length:Int),((i+1:Nat):Int)),?_,⟨i+1,hlt,rfl⟩,by simp only [zR];omega⟩
   unfold D6
   rw [if_pos (decide_eq_true (by show (i:Int)<xss.length;omega))]
   dsimp only
   rw [Bn,zB hlt,zA,Cb (by omega) (by omega),Cb (by omega) (by omega),if_neg (by rw [decide_eq_true_eq];omega),hstep i hlt,zH,xL,xL]
   rfl
  ·right
   have e:i=xss.length:=by omega
   subst e
   refine ⟨_,?_,rfl⟩
   unfold D6
   rw [if_neg (by rw [decide_eq_true_eq];exact wV _),yI]) fuel (0,0) ⟨0,zY _,by simp⟩ (Ce (by show xss.length-0≤_;omega))
 obtain ⟨w,hw,rfl⟩:=C9 (f:=D3 xss) (P:=fun s=>∃ i,i≤xss.length∧s=((i:Int),(xss.take i).flatten)) (μ:=fun s=>xss.length-s.1.toNat) (R:=fun v=>v=xss.flatten) (by
  rintro _ ⟨i,hi,rfl⟩
  rcases zO i xss.length with hlt | hge
  ·left
   have h1:=hpre (i+1)
   rw [hstep i hlt,zH] at h1
   refine ⟨(((i+1:Nat):Int),(xss.take (i+1)).flatten),?_,⟨i+1,hlt,rfl⟩,by simp only [zR];omega⟩
   unfold D3
   rw [if_pos (decide_eq_true (by show (i:Int)<xss.length;omega))]
   dsimp only
   rw [Bn,zB hlt,zA,Cb (by omega) (by omega),if_pos (by omega),hstep i hlt,xL]
   rfl
  ·right
   have e:i=xss.length:=by omega
   subst e
   refine ⟨_,?_,rfl⟩
   unfold D3
   rw [if_neg (by rw [decide_eq_true_eq];exact wV _),yI]) fuel (0,([]:List A0)) ⟨0,zY _,by simp⟩ (Ce (by show xss.length-0≤_;omega))
 unfold Hv
 rw [hv,zA]
 unfold H9
 rw [Vn _ (by omega) (by omega),zA,hw,zA]
 rfl
theorem Wk (n:Int) (h0:0≤n) (h1:n*32≤140737488355328):Kb n=some []:=by
 unfold Kb
 rw [if_neg (by rw [decide_eq_true_eq];omega)]
 unfold J3
 rw [Cb (n:=0-0) (by decide) (by decide),show n-(0-0)=n from by omega,Cb (by omega) (by omega)]
 by_cases hn:0<n
 ·rw [if_pos (decide_eq_true hn),if_pos ⟨hn,by omega⟩,if_pos ⟨xU _,xK _⟩]
  rfl
 ·rw [if_neg (by rw [decide_eq_true_eq];exact hn)]
theorem U8 (xss:List (List A8)) (h:xss.flatten.length*32≤140737488355328) (hl:xss.length≤1000000000000000000):I8 xss=some xss.flatten:=by
 have hpre:∀ i,(xss.take i).flatten.length≤xss.flatten.length:=fun i=>by
  have e:xss.flatten.length=(xss.take i).flatten.length+(xss.drop i).flatten.length:=by
   rw [← zH,← xM,xJ]
  omega
 have hstep:∀ i (hi:i<xss.length),(xss.take (i+1)).flatten=(xss.take i).flatten++xss[i]:=fun i hi=>by
  rw [zM hi,xM];simp
 obtain ⟨v,hv,rfl⟩:=C9 (f:=El xss) (P:=fun s=>∃ i,i≤xss.length∧s=(((xss.take i).flatten.length:Int),(i:Int))) (μ:=fun s=>xss.length-s.2.toNat) (R:=fun v=>v=(xss.flatten.length:Int)) (by
  rintro _ ⟨i,hi,rfl⟩
  rcases zO i xss.length with hlt | hge
  ·left
   have h1:=hpre (i+1)
   rw [hstep i hlt,zH] at h1
   refine ⟨(((xss.take (i+1)).flatten.length:Int),((i+1:Nat):Int)),?_,⟨i+1,hlt,rfl⟩,by simp only [zR];omega⟩
   unfold El
   rw [if_pos (decide_eq_true (by show (i:Int)<xss.length;omega))]
   dsimp only
   rw [Bn,zB hlt,zA,Cb (by omega) (by omega),Cb (by omega) (by omega),if_neg (by rw [decide_eq_true_eq];omega),hstep i hlt,zH,xL,xL]
   rfl
  ·right
   have e:i=xss.length:=by omega
   subst e
   refine ⟨_,?_,rfl⟩
   unfold El
   rw [if_neg (by rw [decide_eq_true_eq];exact wV _),yI]) fuel (0,0) ⟨0,zY _,by simp⟩ (Ce (by show xss.length-0≤_;omega))
 obtain ⟨w,hw,rfl⟩:=C9 (f:=En xss) (P:=fun s=>∃ i,i≤xss.length∧s=((i:Int),(xss.take i).flatten)) (μ:=fun s=>xss.length-s.1.toNat) (R:=fun v=>v=xss.flatten) (by
  rintro _ ⟨i,hi,rfl⟩
  rcases zO i xss.length with hlt | hge
  ·left
   have h1:=hpre (i+1)
   rw [hstep i hlt,zH] at h1
   refine ⟨(((i+1:Nat):Int),(xss.take (i+1)).flatten),?_,⟨i+1,hlt,rfl⟩,by simp only [zR];omega⟩
   unfold En
   rw [if_pos (decide_eq_true (by show (i:Int)<xss.length;omega))]
   dsimp only
   rw [Bn,zB hlt,zA,Cb (by omega) (by omega),if_pos (by omega),hstep i hlt,xL]
   rfl
  ·right
   have e:i=xss.length:=by omega
   subst e
   refine ⟨_,?_,rfl⟩
   unfold En
   rw [if_neg (by rw [decide_eq_true_eq];exact wV _),yI]) fuel (0,([]:List A8)) ⟨0,zY _,by simp⟩ (Ce (by show xss.length-0≤_;omega))
 unfold I8
 rw [hv,zA]
 unfold I5
 rw [Wk _ (by omega) (by omega),zA,hw,zA]
 rfl
theorem U7 (xs:List A8) (h:xs.length*32≤140737488355328):Jb xs=some xs:=by
 unfold Jb
 rw [if_pos (by simpa using h)]
 rfl
theorem P5 (xs:List Av) (h:xs.length*56≤140737488355328):Iy xs=some xs:=by
 unfold Iy
 rw [if_pos (by simpa using h)]
 rfl
theorem Us (xs:List Be) (h:xs.length*64≤140737488355328):Jd xs=some xs:=by
 unfold Jd
 rw [if_pos (by simpa using h)]
 rfl
theorem Uz (xs:List A0) (h:xs.length*40≤140737488355328):I3 xs=some xs:=by
 unfold I3
 rw [if_pos (by simpa using h)]
 rfl
end Go.Proofs.YtkblaobhhoebaaaGreat.Abs
