/-
 The library's rows.
-/
import Derived.Test.YtkblaobhhoebaaaGreatOT14
import Derived.Test.YtkblaobhhoebaaaGreatOAbsC
set_option linter.unusedVariables false
set_option linter.unusedSimpArgs false
namespace Go.Proofs.YtkblaobhhoebaaaGreat.Abs
theorem U2 (n:Int) (h0:0≤n) (h1:n*64≤140737488355328):Jl n=some []:=by
 unfold Jl
 rw [if_neg (by rw [decide_eq_true_eq];omega)]
 unfold Jf
 rw [Cc (n:=0-0) (by decide) (by decide),show n-(0-0)=n from by omega,Cc (by omega) (by omega)]
 by_cases hn:0<n
 ·rw [if_pos (decide_eq_true hn),if_pos ⟨hn,by omega⟩,if_pos ⟨Int.le_refl _,Int.natCast_nonneg _⟩]
  rfl
 ·rw [if_neg (by rw [decide_eq_true_eq];exact hn)]
theorem Ty (xss:List (List A2)) (h:xss.flatten.length*64≤140737488355328) (hl:xss.length≤1000000000000000000):Ih xss=some xss.flatten:=by
 have hpre:∀ i,(xss.take i).flatten.length≤xss.flatten.length:=fun i=>by
  have e:xss.flatten.length=(xss.take i).flatten.length+(xss.drop i).flatten.length:=by
   rw [← List.length_append,← List.flatten_append,List.take_append_drop]
  omega
 have hstep:∀ i (hi:i<xss.length),(xss.take (i+1)).flatten=(xss.take i).flatten++xss[i]:=fun i hi=>by
  rw [List.take_succ_eq_append_getElem hi,List.flatten_append];simp
 obtain ⟨v,hv,rfl⟩:=Ej (f:=Ek xss) (P:=fun s=>∃ i,i≤xss.length∧s=(((xss.take i).flatten.length:Int),(i:Int))) (μ:=fun s=>xss.length-s.2.toNat) (R:=fun v=>v=(xss.flatten.length:Int)) (by
  rintro _ ⟨i,hi,rfl⟩
  rcases Nat.lt_or_ge i xss.length with hlt | hge
  ·left
   have h1:=hpre (i+1)
   rw [hstep i hlt,List.length_append] at h1
   refine ⟨(((xss.take (i+1)).flatten.length:Int),((i+1:Nat):Int)),?_,⟨i+1,hlt,rfl⟩,by simp only [Int.toNat_natCast];omega⟩
   unfold Ek
   rw [if_pos (decide_eq_true (by show (i:Int)<xss.length;omega))]
   dsimp only
   rw [Bp,List.getElem?_eq_getElem hlt,Option.bind_some,Cc (by omega) (by omega),Cc (by omega) (by omega),if_neg (by rw [decide_eq_true_eq];omega),hstep i hlt,List.length_append,Int.natCast_add,Int.natCast_add]
   rfl
  ·right
   have e:i=xss.length:=by omega
   subst e
   refine ⟨_,?_,rfl⟩
   unfold Ek
   rw [if_neg (by rw [decide_eq_true_eq];exact Int.lt_irrefl _),List.take_length]) fuel (0,0) ⟨0,Nat.zero_le _,by simp⟩ (Ck (by show xss.length-0≤_;omega))
 obtain ⟨w,hw,rfl⟩:=Ej (f:=Et xss) (P:=fun s=>∃ i,i≤xss.length∧s=((i:Int),(xss.take i).flatten)) (μ:=fun s=>xss.length-s.1.toNat) (R:=fun v=>v=xss.flatten) (by
  rintro _ ⟨i,hi,rfl⟩
  rcases Nat.lt_or_ge i xss.length with hlt | hge
  ·left
   have h1:=hpre (i+1)
   rw [hstep i hlt,List.length_append] at h1
   refine ⟨(((i+1:Nat):Int),(xss.take (i+1)).flatten),?_,⟨i+1,hlt,rfl⟩,by simp only [Int.toNat_natCast];omega⟩
   unfold Et
   rw [if_pos (decide_eq_true (by show (i:Int)<xss.length;omega))]
   dsimp only
   rw [Bp,List.getElem?_eq_getElem hlt,Option.bind_some,Cc (by omega) (by omega),if_pos (by omega),hstep i hlt,Int.natCast_add]
   rfl
  ·right
   have e:i=xss.length:=by omega
   subst e
   refine ⟨_,?_,rfl⟩
   unfold Et
   rw [if_neg (by rw [decide_eq_true_eq];exact Int.lt_irrefl _),List.take_length]) fuel (0,([]:List A2)) ⟨0,Nat.zero_le _,by simp⟩ (Ck (by show xss.length-0≤_;omega))
 unfold Ih
 rw [hv,Option.bind_some]
 unfold Iq
 rw [U2 _ (by omega) (by omega),Option.bind_some,hw,Option.bind_some]
 rfl
theorem Vd (n:Int) (h0:0≤n) (h1:n*64≤140737488355328):Jq n=some []:=by
 unfold Jq
 rw [if_neg (by rw [decide_eq_true_eq];omega)]
 unfold Jc
 rw [Cc (n:=0-0) (by decide) (by decide),show n-(0-0)=n from by omega,Cc (by omega) (by omega)]
 by_cases hn:0<n
 ·rw [if_pos (decide_eq_true hn),if_pos ⟨hn,by omega⟩,if_pos ⟨Int.le_refl _,Int.natCast_nonneg _⟩]
  rfl
 ·rw [if_neg (by rw [decide_eq_true_eq];exact hn)]
theorem Ut (xss:List (List Bl)) (h:xss.flatten.length*64≤140737488355328) (hl:xss.length≤1000000000000000000):Jt xss=some xss.flatten:=by
 have hpre:∀ i,(xss.take i).flatten.length≤xss.flatten.length:=fun i=>by
  have e:xss.flatten.length=(xss.take i).flatten.length+(xss.drop i).flatten.length:=by
   rw [← List.length_append,← List.flatten_append,List.take_append_drop]
  omega
 have hstep:∀ i (hi:i<xss.length),(xss.take (i+1)).flatten=(xss.take i).flatten++xss[i]:=fun i hi=>by
  rw [List.take_succ_eq_append_getElem hi,List.flatten_append];simp
 obtain ⟨v,hv,rfl⟩:=Ej (f:=E4 xss) (P:=fun s=>∃ i,i≤xss.length∧s=(((xss.take i).flatten.length:Int),(i:Int))) (μ:=fun s=>xss.length-s.2.toNat) (R:=fun v=>v=(xss.flatten.length:Int)) (by
  rintro _ ⟨i,hi,rfl⟩
  rcases Nat.lt_or_ge i xss.length with hlt | hge
  ·left
   have h1:=hpre (i+1)
   rw [hstep i hlt,List.length_append] at h1
   refine ⟨(((xss.take (i+1)).flatten.length:Int),((i+1:Nat):Int)),?_,⟨i+1,hlt,rfl⟩,by simp only [Int.toNat_natCast];omega⟩
   unfold E4
   rw [if_pos (decide_eq_true (by show (i:Int)<xss.length;omega))]
   dsimp only
   rw [Bp,List.getElem?_eq_getElem hlt,Option.bind_some,Cc (by omega) (by omega),Cc (by omega) (by omega),if_neg (by rw [decide_eq_true_eq];omega),hstep i hlt,List.length_append,Int.natCast_add,Int.natCast_add]
   rfl
  ·right
   have e:i=xss.length:=by omega
   subst e
   refine ⟨_,?_,rfl⟩
   unfold E4
   rw [if_neg (by rw [decide_eq_true_eq];exact Int.lt_irrefl _),List.take_length]) fuel (0,0) ⟨0,Nat.zero_le _,by simp⟩ (Ck (by show xss.length-0≤_;omega))
 obtain ⟨w,hw,rfl⟩:=Ej (f:=E7 xss) (P:=fun s=>∃ i,i≤xss.length∧s=((i:Int),(xss.take i).flatten)) (μ:=fun s=>xss.length-s.1.toNat) (R:=fun v=>v=xss.flatten) (by
  rintro _ ⟨i,hi,rfl⟩
  rcases Nat.lt_or_ge i xss.length with hlt | hge
  ·left
   have h1:=hpre (i+1)
   rw [hstep i hlt,List.length_append] at h1
   refine ⟨(((i+1:Nat):Int),(xss.take (i+1)).flatten),?_,⟨i+1,hlt,rfl⟩,by simp only [Int.toNat_natCast];omega⟩
   unfold E7
   rw [if_pos (decide_eq_true (by show (i:Int)<xss.length;omega))]
   dsimp only
   rw [Bp,List.getElem?_eq_getElem hlt,Option.bind_some,Cc (by omega) (by omega),if_pos (by omega),hstep i hlt,Int.natCast_add]
   rfl
  ·right
   have e:i=xss.length:=by omega
   subst e
   refine ⟨_,?_,rfl⟩
   unfold E7
   rw [if_neg (by rw [decide_eq_true_eq];exact Int.lt_irrefl _),List.take_length]) fuel (0,([]:List Bl)) ⟨0,Nat.zero_le _,by simp⟩ (Ck (by show xss.length-0≤_;omega))
 unfold Jt
 rw [hv,Option.bind_some]
 unfold Je
 rw [Vd _ (by omega) (by omega),Option.bind_some,hw,Option.bind_some]
 rfl
theorem U6 (n:Int) (h0:0≤n) (h1:n*1≤140737488355328):Jh n=some []:=by
 unfold Jh
 rw [if_neg (by rw [decide_eq_true_eq];omega)]
 unfold I8
 rw [Cc (n:=0-0) (by decide) (by decide),show n-(0-0)=n from by omega,Cc (by omega) (by omega)]
 by_cases hn:0<n
 ·rw [if_pos (decide_eq_true hn),if_pos ⟨hn,by omega⟩,if_pos ⟨Int.le_refl _,Int.natCast_nonneg _⟩]
  rfl
 ·rw [if_neg (by rw [decide_eq_true_eq];exact hn)]
theorem Tg (xss:List (List UInt8)) (h:xss.flatten.length*1≤140737488355328) (hl:xss.length≤1000000000000000000):Hj xss=some xss.flatten:=by
 have hpre:∀ i,(xss.take i).flatten.length≤xss.flatten.length:=fun i=>by
  have e:xss.flatten.length=(xss.take i).flatten.length+(xss.drop i).flatten.length:=by
   rw [← List.length_append,← List.flatten_append,List.take_append_drop]
  omega
 have hstep:∀ i (hi:i<xss.length),(xss.take (i+1)).flatten=(xss.take i).flatten++xss[i]:=fun i hi=>by
  rw [List.take_succ_eq_append_getElem hi,List.flatten_append];simp
 obtain ⟨v,hv,rfl⟩:=Ej (f:=Ea xss) (P:=fun s=>∃ i,i≤xss.length∧s=(((xss.take i).flatten.length:Int),(i:Int))) (μ:=fun s=>xss.length-s.2.toNat) (R:=fun v=>v=(xss.flatten.length:Int)) (by
  rintro _ ⟨i,hi,rfl⟩
  rcases Nat.lt_or_ge i xss.length with hlt | hge
  ·left
   have h1:=hpre (i+1)
   rw [hstep i hlt,List.length_append] at h1
   refine ⟨(((xss.take (i+1)).flatten.length:Int),((i+1:Nat):Int)),?_,⟨i+1,hlt,rfl⟩,by simp only [Int.toNat_natCast];omega⟩
   unfold Ea
   rw [if_pos (decide_eq_true (by show (i:Int)<xss.length;omega))]
   dsimp only
   rw [Bp,List.getElem?_eq_getElem hlt,Option.bind_some,Cc (by omega) (by omega),Cc (by omega) (by omega),if_neg (by rw [decide_eq_true_eq];omega),hstep i hlt,List.length_append,Int.natCast_add,Int.natCast_add]
   rfl
  ·right
   have e:i=xss.length:=by omega
   subst e
   refine ⟨_,?_,rfl⟩
   unfold Ea
   rw [if_neg (by rw [decide_eq_true_eq];exact Int.lt_irrefl _),List.take_length]) fuel (0,0) ⟨0,Nat.zero_le _,by simp⟩ (Ck (by show xss.length-0≤_;omega))
 obtain ⟨w,hw,rfl⟩:=Ej (f:=D5 xss) (P:=fun s=>∃ i,i≤xss.length∧s=((i:Int),(xss.take i).flatten)) (μ:=fun s=>xss.length-s.1.toNat) (R:=fun v=>v=xss.flatten) (by
  rintro _ ⟨i,hi,rfl⟩
  rcases Nat.lt_or_ge i xss.length with hlt | hge
  ·left
   have h1:=hpre (i+1)
   rw [hstep i hlt,List.length_append] at h1
   refine ⟨(((i+1:Nat):Int),(xss.take (i+1)).flatten),?_,⟨i+1,hlt,rfl⟩,by simp only [Int.toNat_natCast];omega⟩
   unfold D5
   rw [if_pos (decide_eq_true (by show (i:Int)<xss.length;omega))]
   dsimp only
   rw [Bp,List.getElem?_eq_getElem hlt,Option.bind_some,Cc (by omega) (by omega),if_pos (by omega),hstep i hlt,Int.natCast_add]
   rfl
  ·right
   have e:i=xss.length:=by omega
   subst e
   refine ⟨_,?_,rfl⟩
   unfold D5
   rw [if_neg (by rw [decide_eq_true_eq];exact Int.lt_irrefl _),List.take_length]) fuel (0,([]:List UInt8)) ⟨0,Nat.zero_le _,by simp⟩ (Ck (by show xss.length-0≤_;omega))
 unfold Hj
 rw [hv,Option.bind_some]
 unfold Hk
 rw [U6 _ (by omega) (by omega),Option.bind_some,hw,Option.bind_some]
 rfl
theorem U8 (n:Int) (h0:0≤n) (h1:n*64≤140737488355328):Jy n=some []:=by
 unfold Jy
 rw [if_neg (by rw [decide_eq_true_eq];omega)]
 unfold I7
 rw [Cc (n:=0-0) (by decide) (by decide),show n-(0-0)=n from by omega,Cc (by omega) (by omega)]
 by_cases hn:0<n
 ·rw [if_pos (decide_eq_true hn),if_pos ⟨hn,by omega⟩,if_pos ⟨Int.le_refl _,Int.natCast_nonneg _⟩]
  rfl
 ·rw [if_neg (by rw [decide_eq_true_eq];exact hn)]
theorem Tk (xss:List (List A0)) (h:xss.flatten.length*64≤140737488355328) (hl:xss.length≤1000000000000000000):Fo xss=some xss.flatten:=by
 have hpre:∀ i,(xss.take i).flatten.length≤xss.flatten.length:=fun i=>by
  have e:xss.flatten.length=(xss.take i).flatten.length+(xss.drop i).flatten.length:=by
   rw [← List.length_append,← List.flatten_append,List.take_append_drop]
  omega
 have hstep:∀ i (hi:i<xss.length),(xss.take (i+1)).flatten=(xss.take i).flatten++xss[i]:=fun i hi=>by
  rw [List.take_succ_eq_append_getElem hi,List.flatten_append];simp
 obtain ⟨v,hv,rfl⟩:=Ej (f:=D8 xss) (P:=fun s=>∃ i,i≤xss.length∧s=(((xss.take i).flatten.length:Int),(i:Int))) (μ:=fun s=>xss.length-s.2.toNat) (R:=fun v=>v=(xss.flatten.length:Int)) (by
  rintro _ ⟨i,hi,rfl⟩
  rcases Nat.lt_or_ge i xss.length with hlt | hge
  ·left
   have h1:=hpre (i+1)
   rw [hstep i hlt,List.length_append] at h1
   refine ⟨(((xss.take (i+1)).flatten.length:Int),((i+1:Nat):Int)),?_,⟨i+1,hlt,rfl⟩,by simp only [Int.toNat_natCast];omega⟩
   unfold D8
   rw [if_pos (decide_eq_true (by show (i:Int)<xss.length;omega))]
   dsimp only
   rw [Bp,List.getElem?_eq_getElem hlt,Option.bind_some,Cc (by omega) (by omega),Cc (by omega) (by omega),if_neg (by rw [decide_eq_true_eq];omega),hstep i hlt,List.length_append,Int.natCast_add,Int.natCast_add]
   rfl
  ·right
   have e:i=xss.length:=by omega
   subst e
   refine ⟨_,?_,rfl⟩
   unfold D8
   rw [if_neg (by rw [decide_eq_true_eq];exact Int.lt_irrefl _),List.take_length]) fuel (0,0) ⟨0,Nat.zero_le _,by simp⟩ (Ck (by show xss.length-0≤_;omega))
 obtain ⟨w,hw,rfl⟩:=Ej (f:=D6 xss) (P:=fun s=>∃ i,i≤xss.length∧s=((i:Int),(xss.take i).flatten)) (μ:=fun s=>xss.length-s.1.toNat) (R:=fun v=>v=xss.flatten) (by
  rintro _ ⟨i,hi,rfl⟩
  rcases Nat.lt_or_ge i xss.length with hlt | hge
  ·left
   have h1:=hpre (i+1)
   rw [hstep i hlt,List.length_append] at h1
   refine ⟨(((i+1:Nat):Int),(xss.take (i+1)).flatten),?_,⟨i+1,hlt,rfl⟩,by simp only [Int.toNat_natCast];omega⟩
   unfold D6
   rw [if_pos (decide_eq_true (by show (i:Int)<xss.length;omega))]
   dsimp only
   rw [Bp,List.getElem?_eq_getElem hlt,Option.bind_some,Cc (by omega) (by omega),if_pos (by omega),hstep i hlt,Int.natCast_add]
   rfl
  ·right
   have e:i=xss.length:=by omega
   subst e
   refine ⟨_,?_,rfl⟩
   unfold D6
   rw [if_neg (by rw [decide_eq_true_eq];exact Int.lt_irrefl _),List.take_length]) fuel (0,([]:List A0)) ⟨0,Nat.zero_le _,by simp⟩ (Ck (by show xss.length-0≤_;omega))
 unfold Fo
 rw [hv,Option.bind_some]
 unfold Hl
 rw [U8 _ (by omega) (by omega),Option.bind_some,hw,Option.bind_some]
 rfl
theorem Uu (n:Int) (h0:0≤n) (h1:n*40≤140737488355328):J5 n=some []:=by
 unfold J5
 rw [if_neg (by rw [decide_eq_true_eq];omega)]
 unfold I9
 rw [Cc (n:=0-0) (by decide) (by decide),show n-(0-0)=n from by omega,Cc (by omega) (by omega)]
 by_cases hn:0<n
 ·rw [if_pos (decide_eq_true hn),if_pos ⟨hn,by omega⟩,if_pos ⟨Int.le_refl _,Int.natCast_nonneg _⟩]
  rfl
 ·rw [if_neg (by rw [decide_eq_true_eq];exact hn)]
theorem Sp (xss:List (List A3)) (h:xss.flatten.length*40≤140737488355328) (hl:xss.length≤1000000000000000000):Hg xss=some xss.flatten:=by
 have hpre:∀ i,(xss.take i).flatten.length≤xss.flatten.length:=fun i=>by
  have e:xss.flatten.length=(xss.take i).flatten.length+(xss.drop i).flatten.length:=by
   rw [← List.length_append,← List.flatten_append,List.take_append_drop]
  omega
 have hstep:∀ i (hi:i<xss.length),(xss.take (i+1)).flatten=(xss.take i).flatten++xss[i]:=fun i hi=>by
  rw [List.take_succ_eq_append_getElem hi,List.flatten_append];simp
 obtain ⟨v,hv,rfl⟩:=Ej (f:=D9 xss) (P:=fun s=>∃ i,i≤xss.length∧s=(((xss.take i).flatten.length:Int),(i:Int))) (μ:=fun s=>xss.length-s.2.toNat) (R:=fun v=>v=(xss.flatten.length:Int)) (by
  rintro _ ⟨i,hi,rfl⟩
  rcases Nat.lt_or_ge i xss.length with hlt | hge
  ·left
   have h1:=hpre (i+1)
   rw [hstep i hlt,List.length_append] at h1
   refine ⟨(((xss.take (i+1)).flatten.length:Int),((i+1:Nat):Int)),?_,⟨i+1,hlt,rfl⟩,by simp only [Int.toNat_natCast];omega⟩
   unfold D9
   rw [if_pos (decide_eq_true (by show (i:Int)<xss.length;omega))]
   dsimp only
   rw [Bp,List.getElem?_eq_getElem hlt,Option.bind_some,Cc (by omega) (by omega),Cc (by omega) (by omega),if_neg (by rw [decide_eq_true_eq];omega),hstep i hlt,List.length_append,Int.natCast_add,Int.natCast_add]
   rfl
  ·right
   have e:i=xss.length:=by omega
   subst e
   refine ⟨_,?_,rfl⟩
   unfold D9
   rw [if_neg (by rw [decide_eq_true_eq];exact Int.lt_irrefl _),List.take_length]) fuel (0,0) ⟨0,Nat.zero_le _,by simp⟩ (Ck (by show xss.length-0≤_;omega))
 obtain ⟨w,hw,rfl⟩:=Ej (f:=Ed xss) (P:=fun s=>∃ i,i≤xss.length∧s=((i:Int),(xss.take i).flatten)) (μ:=fun s=>xss.length-s.1.toNat) (R:=fun v=>v=xss.flatten) (by
  rintro _ ⟨i,hi,rfl⟩
  rcases Nat.lt_or_ge i xss.length with hlt | hge
  ·left
   have h1:=hpre (i+1)
   rw [hstep i hlt,List.length_append] at h1
   refine ⟨(((i+1:Nat):Int),(xss.take (i+1)).flatten),?_,⟨i+1,hlt,rfl⟩,by simp only [Int.toNat_natCast];omega⟩
   unfold Ed
   rw [if_pos (decide_eq_true (by show (i:Int)<xss.length;omega))]
   dsimp only
   rw [Bp,List.getElem?_eq_getElem hlt,Option.bind_some,Cc (by omega) (by omega),if_pos (by omega),hstep i hlt,Int.natCast_add]
   rfl
  ·right
   have e:i=xss.length:=by omega
   subst e
   refine ⟨_,?_,rfl⟩
   unfold Ed
   rw [if_neg (by rw [decide_eq_true_eq];exact Int.lt_irrefl _),List.take_length]) fuel (0,([]:List A3)) ⟨0,Nat.zero_le _,by simp⟩ (Ck (by show xss.length-0≤_;omega))
 unfold Hg
 rw [hv,Option.bind_some]
 unfold Hn
 rw [Uu _ (by omega) (by omega),Option.bind_some,hw,Option.bind_some]
 rfl
theorem T9 (xs:List A9) (h:xs.length*32≤140737488355328):Ii xs=some xs:=by
 unfold Ii
 rw [if_pos (by simpa using h)]
 rfl
theorem Pr (xs:List A8) (h:xs.length*56≤140737488355328):Ic xs=some xs:=by
 unfold Ic
 rw [if_pos (by simpa using h)]
 rfl
theorem T8 (xs:List Bl) (h:xs.length*64≤140737488355328):Im xs=some xs:=by
 unfold Im
 rw [if_pos (by simpa using h)]
 rfl
theorem T7 (xs:List A3) (h:xs.length*40≤140737488355328):Ib xs=some xs:=by
 unfold Ib
 rw [if_pos (by simpa using h)]
 rfl
end Go.Proofs.YtkblaobhhoebaaaGreat.Abs
