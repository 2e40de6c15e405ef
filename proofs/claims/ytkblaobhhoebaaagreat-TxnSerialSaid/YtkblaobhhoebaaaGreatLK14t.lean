/-
  What the library's functions compute.
-/
import Derived.Test.YtkblaobhhoebaaaGreatLS14
set_option linter.unusedVariables false
set_option linter.unusedSimpArgs false
namespace Go.Proofs.YtkblaobhhoebaaaGreat.Abs
abbrev E12:=As
def ix (l:List E12) (t:Int):Nat:=l.findIdx λx=>decide (x.Tok=t)
def fnd (l:List E12) (t:Int):Option E12:=l[ix l t]?
def sN (t a:Int):Bool:=decide (0<=t/\t<=1099511627776/\0<=a/\a<=65535)
def sTs (t:Int):Bool:=decide (1<=t/\t<=1099511627776)
def sE (x:E12):Bool:=if x.State=1\/x.State=3 then sN x.Tok x.Attempt&&decide (x.Ts=0) else if x.State=2 then sN x.Tok x.Attempt&&sTs x.Ts else false
structure OkT (l:List E12):Prop where
  e:∀ x∈l,sE x=true
  u:∀ (i j:Nat) (x y:E12),l[i]? = some x->l[j]? = some y->x.Tok=y.Tok->i=j
  n:l.length<=32
theorem Su (t a:Int):Cg t a=some (sN t a):=by
  unfold Cg sN
  by_cases h1:0<=t <;> by_cases h2:t<=1099511627776 <;> by_cases h3:0<=a <;> simp [h1,h2,h3]
theorem Ail (t:Int):G7 t=some (sTs t):=by
  unfold G7 sTs
  by_cases h1:1<=t <;> simp [h1]
theorem Afl (x:E12):Gx x=some (sE x):=by
  unfold Gx E5 sE
  rw[Su,Ail]
  by_cases h1:x.State=1
  · simp [h1];cases sN x.Tok x.Attempt <;> simp
  · by_cases h3:x.State=3
    · simp [h3];cases sN x.Tok x.Attempt <;> simp
    · by_cases h2:x.State=2
      · simp [h2];cases sN x.Tok x.Attempt <;> simp
      · simp [h1,h2,h3]
theorem Afi (l:List E12) (t:Int):ix l t<=l.length:=List.findIdx_le_length
theorem Ae1 {l:List E12} {t:Int} (h:ix l t<l.length):l[ix l t].Tok=t:=by
  have:=List.findIdx_getElem (xs:=l) (p:=λ(x:E12)=>decide (x.Tok=t)) (w:=h)
  exact of_decide_eq_true this
theorem Ahf {l:List E12} {t:Int} {i:Nat} {x:E12} (h:i<ix l t) (hx:l[i]? = some x):x.Tok≠t:=by
  have hi:i<l.length:=(zB.1 hx).1
  have:=List.not_of_lt_findIdx (xs:=l) (p:=λ(x:E12)=>decide (x.Tok=t)) h
  have e:=(zB.1 hx).2
  rw[e] at this
  simpa using this
theorem Au6 {l:List E12} {t:Int} {i:Nat} {x:E12} (hx:l[i]? = some x) (ht:x.Tok=t) (hf:∀ (j:Nat) (y:E12),j<i->l[j]? = some y->y.Tok≠t):ix l t=i:=by
  rcases kN (ix l t) i with h|h|h
  · have hi:i<l.length:=(zB.1 hx).1
    have hl:ix l t<l.length:=Nat.lt_trans h hi
    exact absurd (Ae1 hl) (hf _ _ h (zC hl))
  · exact h
  · exact absurd ht (Ahf h hx)
theorem Ko {l:List E12} {t:Int} {x:E12} (h:fnd l t=some x):x.Tok=t/\ix l t<l.length/\x∈l:=by
  unfold fnd at h
  obtain⟨h1,h2⟩:=zB.1 h
  exact⟨by rw[<- h2];exact Ae1 h1,h1,zG h⟩
theorem Xa {l:List E12} {t:Int} (h:fnd l t=none):ix l t=l.length/\∀ (i:Nat) (x:E12),l[i]? = some x->x.Tok≠t:=by
  unfold fnd at h
  have h1:=wJ.1 h
  have e:ix l t=l.length:=Nat.le_antisymm (Afi l t) h1
  exact⟨e,λi x hx=>Ahf (by rw[e];exact(zB.1 hx).1) hx⟩
theorem Abk {l:List E12} (ok:OkT l) {t:Int} {i:Nat} {x:E12} (hx:l[i]? = some x) (ht:x.Tok=t):ix l t=i/\fnd l t=some x:=by
  have h:=Au6 hx ht (λj y hj hy hc=>wS j (by have:=ok.u j i y x hy hx (hc.trans ht.symm);omega))
  exact⟨h,by unfold fnd;rw[h];exact hx⟩
theorem T5 (l:List E12) (t:Int) (hl:l.length<=1000000):Ee ⟨l⟩ t=some (ix l t:Int):=by
  unfold Ee
  obtain⟨x,hx,hm⟩:=Cr (f:=Hm ⟨l⟩ t) (P:=λs=>∃ i:Nat,i<=l.length/\s=(i:Int)/\∀ (j:Nat) (y:E12),j<i->l[j]? = some y->y.Tok≠t) (μ:=λs=>l.length-s.toNat)
    (R:=λx=>match x with | .inl y=>y=(ix l t:Int) | .inr _=>ix l t=l.length) (by
    rintro _ ⟨i,hi,rfl,hf⟩
    unfold Hm
    dsimp only
    rcases zU i l.length with hlt|hge
    · have e:=zC hlt
      rw[ifo,A3,e]
      simp only[zA]
      by_cases ht:l[i].Tok=t
      · right;right
        rw[ifp ht]
        exact⟨_,rfl,by rw[Au6 e ht hf]⟩
      · left
        rw[if_neg (by simpa using ht),wIo]
        refine⟨_,rfl,⟨i+1,hlt,rfl,λj y hj hy=>?_⟩,by omega⟩
        rcases zU j i with h|h
        · exact hf j y h hy
        · have:j=i:=by omega
          subst this
          rw[e] at hy;cases hy;exact ht
    · right;left
      rw[ifq]
      refine⟨_,rfl,?_⟩
      refine Nat.le_antisymm (Afi l t) (Nat.le_of_not_lt λh=>?_)
      exact hf _ _ omg (zC h) (Ae1 h)) fuel 0 ⟨0,zZ _,rfl,λj y hj=>absurd hj (zW _)⟩ (Bs (by show l.length-0<=_;omega))
  rw[hx]
  cases x with
  | inl y=>show some y=_;rw[show y=_ from hm]
  | inr y=>show some (l.length:Int)=_;rw[show ix l t=l.length from hm]
theorem Adh {l:List E12} (ok:OkT l):Cx ⟨l⟩=some true:=by
  have hn:=ok.n
  unfold Cx
  obtain⟨x,hx,hm⟩:=Cr (f:=Jp ⟨l⟩) (P:=λs=>∃ i:Nat,i<=l.length/\s=(i:Int)) (μ:=λs=>l.length-s.toNat)
    (R:=λx=>match x with | .inl y=>False | .inr _=>True) (by
    rintro _ ⟨i,hi,rfl⟩
    unfold Jp
    dsimp only
    rcases zU i l.length with hlt|hge
    · have e:=zC hlt
      left
      rw[ifo,A3,e]
      simp only[zA]
      rw[Afl,ok.e _ (xZ hlt)]
      simp only[zA]
      rw[if_neg smp,T5 l _ omg,(Abk ok e rfl).1]
      simp only[zA]
      rw[if_neg smp,wIo]
      exact⟨_,rfl,⟨i+1,hlt,rfl⟩,by omega⟩
    · right;left
      rw[ifq]
      exact⟨_,rfl,trivial⟩) fuel 0 ⟨0,zZ _,rfl⟩ (Bs (by show l.length-0<=_;omega))
  rw[hx]
  cases x with
  | inl y=>exact hm.elim
  | inr y=>show some (decide ((l.length:Int)<=32))=_;rw[decide_eq_true omg]
def e00:E12:=⟨0,0,0,0⟩
theorem Aeo {l:List E12} (hl:l.length<=1000000) (t:Int):Er ⟨l⟩ t=some (match fnd l t with|some x=>(x,true)|none=>(e00,false)):=by
  unfold Er
  rw[T5 l t hl]
  simp only[zA]
  cases h:fnd l t with
  | none =>
    rw[ifp (by rw[(Xa h).1])]
    rfl
  | some x =>
    have h1:=Ko h
    rw[ifq]
    show(idx l (ix l t:Int)).bind _=_
    rw[A3,show l[ix l t]? = some x from h]
    rfl
def Afc (l:List E12) (x:E12):List E12:=if ix l x.Tok<l.length then l.set (ix l x.Tok) x else l++[x]
theorem Ae2 (l:List E12) (x:E12):(Afc l x)[ix l x.Tok]? = some x:=by
  unfold Afc
  have:=Afi l x.Tok
  split
  · rw[zI (by assumption)]
  · have e:ix l x.Tok=l.length:=by omega
    rw[e,z2 (zO _),jG];rfl
theorem Q4 (l:List E12) (x:E12) {j:Nat} (hj:j≠ix l x.Tok):(Afc l x)[j]? = l[j]? := by
  unfold Afc
  have:=Afi l x.Tok
  split
  · rw[zM (λe=>hj e.symm)]
  · have e:ix l x.Tok=l.length:=by omega
    rcases zU j l.length with h|h
    · rw[zK h]
    · rw[yL (by simp;omega),yL h]
theorem Anm {l:List E12} (ok:OkT l) {x y:E12} {j:Nat} (hj:j≠ix l x.Tok) (hy:l[j]? = some y):y.Tok≠x.Tok:=λhc=>hj (Abk ok hy hc).1.symm
theorem Aip {l:List E12} (ok:OkT l) {x:E12} (hx:sE x=true) (h:ix l x.Tok<32):OkT (Afc l x):=by
  refine⟨λy hy=>?_,λi j y z hy hz hyz=>?_,?_⟩
  · obtain⟨j,hj⟩:=jD hy
    by_cases e:j=ix l x.Tok
    · subst e;rw[Ae2] at hj;cases hj;exact hx
    · rw[Q4 l x e] at hj
      exact ok.e y (zG hj)
  · by_cases e1:i=ix l x.Tok <;> by_cases e2:j=ix l x.Tok
    · rw[e1,e2]
    · rw[Q4 l x e2] at hz
      subst e1;rw[Ae2] at hy;cases hy
      exact absurd hyz.symm (Anm ok e2 hz)
    · rw[Q4 l x e1] at hy
      subst e2;rw[Ae2] at hz;cases hz
      exact absurd hyz (Anm ok e1 hy)
    · rw[Q4 l x e1] at hy
      rw[Q4 l x e2] at hz
      exact ok.u i j y z hy hz hyz
  · unfold Afc
    have:=ok.n
    have:=Afi l x.Tok
    split
    · rw[yS];omega
    · rw[zH];simp only[xD,kV];omega
theorem Afn {l:List E12} (ok:OkT l) {x:E12} (hx:sE x=true) (h:ix l x.Tok<32) (t:Int):fnd (Afc l x) t=if t=x.Tok then some x else fnd l t:=by
  have ok':=Aip ok hx h
  by_cases ht:t=x.Tok
  · rw[if_pos ht]
    exact(Abk ok' (Ae2 l x) ht.symm).2
  · rw[if_neg ht]
    cases hf:fnd l t with
    | some y =>
      have h1:=Ko hf
      have hj:ix l t≠ix l x.Tok:=λe=>by
        have h2:l[ix l t]? = some y:=hf
        have h3:=Ae1 (l:=l) (t:=x.Tok) (by rw[<- e];exact h1.2.1)
        have h4:l[ix l x.Tok]? = some y:=by rw[<- e];exact h2
        rw[zC (by rw[<- e];exact h1.2.1)] at h4
        have h5:l[ix l x.Tok]'(by rw[<- e];exact h1.2.1)=y:=zD h4
        rw[h5] at h3
        exact ht (h1.1.symm.trans h3)
      exact(Abk ok' (by rw[Q4 l x hj];exact hf) h1.1).2
    | none =>
      have h1:=(Xa hf).2
      cases hf':fnd (Afc l x) t with
      | none=>rfl
      | some y =>
        have h2:=Ko hf'
        have h3:(Afc l x)[ix (Afc l x) t]? = some y:=hf'
        by_cases e:ix (Afc l x) t=ix l x.Tok
        · rw[e,Ae2] at h3
          cases h3
          exact absurd h2.1.symm ht
        · rw[Q4 l x e] at h3
          exact absurd h2.1 (h1 _ _ h3)
def Afb (l:List E12) (t:Int):List E12:=l.take (ix l t)++l.drop (ix l t+1)
theorem Akd {l:List E12} {t:Int} (h:ix l t<l.length) (j:Nat):(Afb l t)[j]? = if j<ix l t then l[j]? else l[j+1]? := by
  unfold Afb
  have hl:(l.take (ix l t)).length=ix l t:=by rw[zN];omega
  split
  · rw[zK (by rw[hl];assumption),yF,if_pos (by assumption)]
  · rw[z2 (by rw[hl];omega),hl,yH]
    congr 1;omega
theorem W3 {l:List E12} {t:Int} (h:ix l t<l.length) {j:Nat} {y:E12} (hy:(Afb l t)[j]? = some y):∃ q,q≠ix l t/\l[q]? = some y/\(q=if j<ix l t then j else j+1):=by
  rw[Akd h] at hy
  by_cases c:j<ix l t
  · rw[if_pos c] at hy ⊢;exact⟨j,by omega,hy,rfl⟩
  · rw[if_neg c] at hy ⊢;exact⟨j+1,by omega,hy,rfl⟩
theorem Arc {l:List E12} (ok:OkT l) {t:Int} (h:ix l t<l.length):OkT (Afb l t):=by
  refine⟨λy hy=>?_,λi j y z hy hz hyz=>?_,?_⟩
  · obtain⟨j,hj⟩:=jD hy
    obtain⟨q,_,hq,_⟩:=W3 h hj
    exact ok.e y (zG hq)
  · obtain⟨q,h1,hq,e1⟩:=W3 h hy
    obtain⟨q',h2,hq',e2⟩:=W3 h hz
    have:=ok.u q q' y z hq hq' hyz
    by_cases c1:i<ix l t <;> by_cases c2:j<ix l t
    · rw[if_pos c1] at e1;rw[if_pos c2] at e2;omega
    · rw[if_pos c1] at e1;rw[if_neg c2] at e2;omega
    · rw[if_neg c1] at e1;rw[if_pos c2] at e2;omega
    · rw[if_neg c1] at e1;rw[if_neg c2] at e2;omega
  · unfold Afb
    have:=ok.n
    rw[zH,zN,yB];omega
theorem Atp {l:List E12} {t:Int} (h:ix l t<l.length):(Afb l t).length=l.length-1:=by
  unfold Afb
  rw[zH,zN,yB];omega
theorem Asx {l:List E12} (ok:OkT l) {t:Int} (h:ix l t<l.length) (s:Int):fnd (Afb l t) s=if s=t then none else fnd l s:=by
  have ok':=Arc ok h
  by_cases hs:s=t
  · rw[if_pos hs]
    cases hf:fnd (Afb l t) s with
    | none=>rfl
    | some y =>
      have h2:=Ko hf
      obtain⟨q,h3,hq,_⟩:=W3 h (show(Afb l t)[ix (Afb l t) s]? = some y from hf)
      exact absurd (Abk ok hq (h2.1.trans hs)).1.symm h3
  · rw[if_neg hs]
    cases hf:fnd l s with
    | some y =>
      have h1:=Ko hf
      have hne:ix l s≠ix l t:=λe=>by
        have h3:=Ae1 h
        have h4:l[ix l t]? = some y:=by rw[<- e];exact hf
        rw[zC h] at h4
        rw[zD h4] at h3
        exact hs (h1.1.symm.trans h3)
      refine(Abk ok' (i:=if ix l s<ix l t then ix l s else ix l s-1) ?_ h1.1).2
      rw[Akd h]
      by_cases c:ix l s<ix l t
      · rw[if_pos c,if_pos c];exact hf
      · rw[if_neg c,if_neg omg,show ix l s-1+1=ix l s by omega];exact hf
    | none =>
      have h1:=(Xa hf).2
      cases hf':fnd (Afb l t) s with
      | none=>rfl
      | some y =>
        have h2:=Ko hf'
        obtain⟨q,_,hq,_⟩:=W3 h (show(Afb l t)[ix (Afb l t) s]? = some y from hf')
        exact absurd h2.1 (h1 _ _ hq)
theorem Aym (l:List E12) (x:E12) (hl:l.length<=1000000):Nf l (ix l x.Tok:Int) x=some (Afc l x):=by
  unfold Nf Afc
  rw[Va _ omg]
  simp only[zA]
  have:=Afi l x.Tok
  by_cases h:ix l x.Tok<l.length
  · rw[ifq,if_pos h,A3,zC h,zT]
    rfl
  · rw[ifo,if_neg h,if_pos (by simp only[xD,kV];omega)]
theorem Auf {l:List E12} (ok:OkT l) (x:E12):Cu ⟨l⟩ x=some (if 32<=ix l x.Tok then(⟨[]⟩,8) else(⟨Afc l x⟩,0)):=by
  unfold Cu
  have hn:=ok.n
  rw[T5 l _ omg]
  simp only[zA]
  by_cases h:32<=ix l x.Tok
  · rw[ifo,if_pos h]
  · rw[ifq,if_neg h,Aym l x omg]
    rfl
def OpR (l:List E12) (what tok att ts:Int) (l':List E12):Prop :=
  OkT l'/\(∀ t,t≠tok->fnd l' t=fnd l t)/\0<=att/\att<=65535 /\
    ((what=0/\(∀ x,fnd l tok=some x->x.State≠2/\x.Attempt<att)/\fnd l' tok=some ⟨tok,att,1,0⟩) \/
     (what=2/\(∃ x,fnd l tok=some x/\x.State=1/\x.Attempt=att)/\fnd l' tok=some ⟨tok,att,2,ts⟩) \/
     (what=4/\(∃ x,fnd l tok=some x/\x.State=2/\l'=l)) \/
     (what=4/\(∀ x,fnd l tok=some x->x.State≠2)/\∃ b,fnd l' tok=some ⟨tok,b,3,0⟩/\b=(match fnd l tok with|some x=>max x.Attempt att|none=>att)))
theorem An7 {x:E12} (h:sE x=true):0<=x.Tok/\x.Tok<=1099511627776/\0<=x.Attempt/\x.Attempt<=65535/\(x.State=1\/x.State=2/\1<=x.Ts\/x.State=3):=by
  unfold sE at h
  have hN:∀ b:Bool,(sN x.Tok x.Attempt&&b)=true->(0<=x.Tok/\x.Tok<=1099511627776/\0<=x.Attempt/\x.Attempt<=65535)/\b=true:=λb h=>by
    rw[zS] at h;exact⟨of_decide_eq_true h.1,h.2⟩
  by_cases h1:x.State=1\/x.State=3
  · rw[if_pos h1] at h
    obtain⟨⟨a,b,c,d⟩,_⟩:=hN _ h
    exact⟨a,b,c,d,h1.elim .inl (λh=>.inr (.inr h))⟩
  · rw[if_neg h1] at h
    by_cases h2:x.State=2
    · rw[if_pos h2] at h
      obtain⟨⟨a,b,c,d⟩,h3⟩:=hN _ h
      exact⟨a,b,c,d,.inr (.inl ⟨h2,(of_decide_eq_true h3).1⟩)⟩
    · rw[if_neg h2] at h;cases h
theorem At3 {l:List E12} (ok:OkT l) (tok att:Int):∃ l' e,Iv ⟨l⟩ tok att=some (⟨l'⟩,e)/\(e=0->OpR l 0 tok att 0 l') /\
    (fnd l tok=none->sN tok att=true->e=if l.length=32 then 8 else 0):=by
  unfold Iv
  show ∃ l' e,(Cx ⟨l⟩).bind _=_/\_
  rw[Adh ok,Su]
  simp only[zA]
  rw[if_neg smp]
  cases hN:sN tok att with
  | false=>exact⟨[],1,rfl,(λh=>by cases h),λ_ h=>by cases h⟩
  | true =>
  rw[if_neg smp]
  have hN':0<=tok/\tok<=1099511627776/\0<=att/\att<=65535:=of_decide_eq_true hN
  have hsE:sE (⟨tok,att,1,0⟩:E12)=true:=by unfold sE;rw[if_pos (.inl rfl)];show(sN tok att&&_)=true;rw[hN];rfl
  unfold Me
  have hn:=ok.n
  rw[Aeo omg]
  simp only[zA]
  have hset:∃ l' e,(Cu ⟨l⟩ ⟨tok,att,1,0⟩).bind (λv=>some (v.1,v.2))=some (⟨l'⟩,e)/\((∀ x,fnd l tok=some x->x.State≠2/\x.Attempt<att)->e=0->OpR l 0 tok att 0 l')/\(fnd l tok=none->e=if l.length=32 then 8 else 0):=by
    rw[Auf ok]
    simp only[zA]
    by_cases h:32<=ix l tok
    · rw[if_pos (show 32<=ix l (⟨tok,att,1,0⟩:E12).Tok from h)]
      exact⟨[],8,rfl,(λ_ h=>by cases h),(λ_=>by rw[if_pos (by have:=Afi l tok;omega)])⟩
    · rw[if_neg (show ¬ 32<=ix l (⟨tok,att,1,0⟩:E12).Tok from h)]
      have hf:=Afn ok hsE (show ix l (⟨tok,att,1,0⟩:E12).Tok<32 by show ix l tok<32;omega)
      refine⟨_,0,rfl,λhx _=>⟨Aip ok hsE (by show ix l tok<32;omega),(λt ht=>by rw[hf t,if_neg ht]),hN'.2.2.1,hN'.2.2.2,.inl ⟨rfl,hx,by rw[hf tok,if_pos rfl]⟩⟩,λhno=>by rw[if_neg (by have:=(Xa hno).1;omega)]⟩
  cases hf:fnd l tok with
  | none =>
    rw[if_neg smp,if_neg smp]
    obtain⟨l',e,h1,h2,h3⟩:=hset
    exact⟨l',e,h1,h2 (by rw[hf];intro x h;cases h),λ_ _=>h3 hf⟩
  | some x =>
    dsimp only
    rw[if_pos rfl]
    by_cases h2:x.State=2
    · rw[ifp h2]
      exact⟨[],7,rfl,(λh=>by cases h),λh=>by cases h⟩
    rw[if_neg (by simpa using h2),if_pos rfl]
    by_cases h3:att<=x.Attempt
    · rw[ifp h3]
      exact⟨[],14,rfl,(λh=>by cases h),λh=>by cases h⟩
    · rw[if_neg (by simpa using h3)]
      obtain⟨l',e,h4,h5,_⟩:=hset
      exact⟨l',e,h4,h5 (by rw[hf];rintro y h;cases h;exact⟨h2,by omega⟩),λh=>by cases h⟩
theorem Apu {l:List E12} (ok:OkT l) (tok att ts:Int):∃ l' e,G3 ⟨l⟩ tok att ts=some (⟨l'⟩,e)/\(e=0->OpR l 2 tok att ts l') /\
    (fnd l tok=some ⟨tok,att,1,0⟩->sTs ts=true->e=0/\ix l' tok<l'.length/\l'.length=l.length):=by
  unfold G3
  rw[Adh ok,Su,Ail]
  simp only[zA]
  rw[if_neg smp]
  have hn:=ok.n
  cases hN:sN tok att with
  | false =>
    refine⟨[],1,rfl,(λh=>by cases h),λh _=>?_⟩
    have:=An7 (ok.e _ (Ko h).2.2)
    exfalso
    have h2:sN tok att=true:=decide_eq_true ⟨this.1,this.2.1,this.2.2.1,this.2.2.2.1⟩
    rw[hN] at h2;cases h2
  | true =>
  rw[if_neg smp]
  have hN':0<=tok/\tok<=1099511627776/\0<=att/\att<=65535:=of_decide_eq_true hN
  cases hT:sTs ts with
  | false=>exact⟨[],1,rfl,(λh=>by cases h),λ_ h=>by cases h⟩
  | true =>
  rw[if_neg smp]
  have hsE:sE (⟨tok,att,2,ts⟩:E12)=true:=by
    unfold sE
    rw[if_neg (by rintro(h|h) <;> cases h),if_pos rfl]
    show(sN tok att&&sTs ts)=true
    rw[hN,hT];rfl
  unfold Kg
  rw[Aeo omg]
  simp only[zA]
  cases hf:fnd l tok with
  | none=>exact⟨[],14,rfl,(λh=>by cases h),λh=>by cases h⟩
  | some x =>
    dsimp only
    have hx:=Ko hf
    by_cases h2:x.State=2
    · rw[ifp h2]
      exact⟨[],7,rfl,(λh=>by cases h),λh=>by cases h;cases h2⟩
    rw[if_neg (by simpa using h2)]
    by_cases h1:x.State=1
    · rw[if_neg (by simp [h1])]
      by_cases h3:x.Attempt=att
      · rw[if_neg (by simp [h3]),Auf ok]
        simp only[zA]
        have hix:ix l tok<32:=by omega
        rw[if_neg (show ¬ 32<=ix l (⟨tok,att,2,ts⟩:E12).Tok by show ¬ 32<=ix l tok;omega)]
        have hff:=Afn ok hsE (show ix l (⟨tok,att,2,ts⟩:E12).Tok<32 from hix)
        refine⟨_,0,rfl,λ_=>⟨Aip ok hsE hix,(λt ht=>by rw[hff t,if_neg ht]),hN'.2.2.1,hN'.2.2.2,.inr (.inl ⟨rfl,⟨x,hf,h1,h3⟩,by rw[hff tok,if_pos rfl]⟩)⟩,λ_ _=>⟨rfl,?_,?_⟩⟩
        · have h4:fnd (Afc l ⟨tok,att,2,ts⟩) tok=some ⟨tok,att,2,ts⟩:=by rw[hff tok,if_pos rfl]
          exact(Ko h4).2.1
        · unfold Afc
          rw[if_pos (show ix l (⟨tok,att,2,ts⟩:E12).Tok<l.length from hx.2.1),yS]
      · rw[if_pos (by simpa using h3)]
        exact⟨[],14,rfl,(λh=>by cases h),λh=>by cases h;exact absurd rfl h3⟩
    · rw[if_pos (by simpa using h1)]
      exact⟨[],14,rfl,(λh=>by cases h),λh=>by cases h;exact absurd rfl h1⟩
theorem Aci {l:List E12} (ok:OkT l) (tok att:Int):∃ l' n e,Co ⟨l⟩ tok att=some (⟨l'⟩,n,e)/\(e=0->OpR l 4 tok att 0 l') /\
    (∀ x,fnd l tok=some x->x.State=2->(e=0/\n=x.Ts)\/e=1)/\(e=0->n<=0->∀ x,fnd l tok=some x->x.State≠2)/\(fnd l tok=none->sN tok att=true->l.length=32->e=8)/\(n=0\/∃ x,fnd l tok=some x/\x.State=2):=by
  unfold Co
  rw[Adh ok,Su]
  simp only[zA]
  rw[if_neg smp]
  have hn:=ok.n
  cases hN:sN tok att with
  | false=>exact⟨[],0,1,rfl,(λh=>by cases h),(λ_ _ _=>.inr rfl),(λh=>by cases h),(λ_ h=>by cases h),.inl rfl⟩
  | true =>
  rw[if_neg smp]
  have hN':0<=tok/\tok<=1099511627776/\0<=att/\att<=65535:=of_decide_eq_true hN
  unfold Mi
  rw[Aeo omg]
  simp only[zA]
  have hgo:∀ b:Int,0<=b->b<=65535->∃ l' e,(Cu ⟨l⟩ ⟨tok,b,3,0⟩).bind (λv=>some (v.1,(0:Int),v.2))=some (⟨l'⟩,0,e)/\(e=0->OkT l'/\(∀ t,t≠tok->fnd l' t=fnd l t)/\fnd l' tok=some ⟨tok,b,3,0⟩)/\(fnd l tok=none->l.length=32->e=8):=by
    intro b h0 h1
    have hsE:sE (⟨tok,b,3,0⟩:E12)=true:=by
      unfold sE
      rw[if_pos (.inr rfl)]
      show(sN tok b&&_)=true
      have:sN tok b=true:=decide_eq_true ⟨hN'.1,hN'.2.1,h0,h1⟩
      rw[this];rfl
    rw[Auf ok]
    simp only[zA]
    by_cases h:32<=ix l tok
    · rw[if_pos (show 32<=ix l (⟨tok,b,3,0⟩:E12).Tok from h)]
      exact⟨[],8,rfl,(λh=>by cases h),λ_ _=>rfl⟩
    · rw[if_neg (show ¬ 32<=ix l (⟨tok,b,3,0⟩:E12).Tok from h)]
      have hff:=Afn ok hsE (show ix l (⟨tok,b,3,0⟩:E12).Tok<32 by show ix l tok<32;omega)
      exact⟨_,0,rfl,λ_=>⟨Aip ok hsE (by show ix l tok<32;omega),(λt ht=>by rw[hff t,if_neg ht]),by rw[hff tok,if_pos rfl]⟩,λhno h32=>by have:=(Xa hno).1;omega⟩
  cases hf:fnd l tok with
  | none =>
    dsimp only
    rw[if_neg dcd]
    have he:(if att > e00.Attempt then att else e00.Attempt)=att:=by show(if att > 0 then att else 0)=att;split <;> omega
    rw[he]
    obtain⟨l',e,h1,h2,h3⟩:=hgo att hN'.2.2.1 hN'.2.2.2
    exact⟨l',0,e,h1,λh=>⟨(h2 h).1,(h2 h).2.1,hN'.2.2.1,hN'.2.2.2,.inr (.inr (.inr ⟨rfl,(by rw[hf];intro x h;cases h),att,(h2 h).2.2,by rw[hf]⟩))⟩,(λx h=>by cases h),(λ_ _ x h=>by cases h),(λ_ _=>h3 hf),.inl rfl⟩
  | some x =>
    dsimp only
    have hx:=Ko hf
    have hsx:=An7 (ok.e _ hx.2.2)
    by_cases h2:x.State=2
    · rw[ifp h2]
      refine⟨l,x.Ts,0,rfl,λ_=>⟨ok,λ_ _=>rfl,hN'.2.2.1,hN'.2.2.2,.inr (.inr (.inl ⟨rfl,x,hf,h2,rfl⟩))⟩,(λy h _=>by cases h;exact .inl ⟨rfl,rfl⟩),λ_ h0 y h=>?_,(λh=>by cases h),.inr ⟨x,rfl,h2⟩⟩
      rcases hsx.2.2.2.2 with h|h|h
      · rw[h] at h2;cases h2
      · omega
      · rw[h] at h2;cases h2
    · rw[if_neg (by simpa using h2)]
      have he:(if att > x.Attempt then att else x.Attempt)=max x.Attempt att:=by split <;> omega
      rw[he]
      obtain⟨l',e,h1,h3,_⟩:=hgo (max x.Attempt att) omg omg
      exact⟨l',0,e,h1,λh=>⟨(h3 h).1,(h3 h).2.1,hN'.2.2.1,hN'.2.2.2,.inr (.inr (.inr ⟨rfl,(by rw[hf];rintro y h;cases h;exact h2),_,(h3 h).2.2,by rw[hf]⟩))⟩,(λy h hy=>by cases h;exact absurd hy h2),(λ_ _ y h=>by cases h;exact h2),(λh=>by cases h),.inl rfl⟩
theorem Alx {l:List E12} (ok:OkT l) (tok:Int):∃ l' e,Gs ⟨l⟩ tok=some (⟨l'⟩,e)/\(e=0->OkT l'/\(∀ t,t≠tok->fnd l' t=fnd l t)/\fnd l' tok=none/\l'.length=l.length-1/\1<=l.length) /\
    (∀ x,fnd l tok=some x->(x.State=1->e=7)/\(x.State=2->e=0)):=by
  unfold Gs
  show ∃ l' e,(Cx ⟨l⟩).bind _=_/\_
  rw[Adh ok,Su]
  simp only[zA]
  rw[if_neg smp]
  have hn:=ok.n
  cases hN:sN tok 0 with
  | false =>
    refine⟨[],1,rfl,(λh=>by cases h),λx h=>?_⟩
    have:=An7 (ok.e _ (Ko h).2.2)
    rw[(Ko h).1] at this
    exfalso
    have h2:sN tok 0=true:=decide_eq_true ⟨this.1,this.2.1,xQ _,by decide⟩
    rw[hN] at h2;cases h2
  | true =>
  rw[if_neg smp]
  unfold Jv
  rw[Aeo omg]
  simp only[zA]
  cases hf:fnd l tok with
  | none=>exact⟨[],6,rfl,(λh=>by cases h),λx h=>by cases h⟩
  | some x =>
    dsimp only
    have hx:=Ko hf
    rw[if_neg smp]
    by_cases h1:x.State=1
    · rw[ifp h1]
      exact⟨[],7,rfl,(λh=>by cases h),λy h=>by cases h;exact⟨λ_=>rfl,λh2=>by rw[h1] at h2;cases h2⟩⟩
    rw[if_neg (by simpa using h1),T5 l tok omg]
    simp only[zA]
    rw[Aaw omg omg omg]
    simp only[zA]
    rw[wIo,Aaw omg omg omg]
    simp only[zA]
    have e1:(l.drop (0:Int).toNat).take ((ix l tok:Int).toNat-(0:Int).toNat)=l.take (ix l tok):=by simp
    have e2:(l.drop ((ix l tok:Int)+1).toNat).take ((l.length:Int).toNat-((ix l tok:Int)+1).toNat)=l.drop (ix l tok+1):=by
      rw[show((ix l tok:Int)+1).toNat=ix l tok+1 by omega,zT]
      exact yO (by rw[yB];exact zO _)
    rw[e1,e2]
    have e3:[l.take (ix l tok),l.drop (ix l tok+1)].flatten=Afb l tok:=by simp [Afb]
    have hdl:=Atp (l:=l) (t:=tok) hx.2.1
    rw[U6 _ (by rw[e3,hdl];omega) smp,e3]
    simp only[zA]
    have hff:=Asx ok hx.2.1
    exact⟨_,0,rfl,λ_=>⟨Arc ok hx.2.1,(λt ht=>by rw[hff t,if_neg ht]),by rw[hff tok,if_pos rfl],hdl,by omega⟩,λy h=>by cases h;exact⟨λh=>absurd h h1,λ_=>rfl⟩⟩
theorem Awx:OkT []:=⟨λx h=>(by cases h),λi j x y h=>(by simp at h),by simp⟩
end Go.Proofs.YtkblaobhhoebaaaGreat.Abs
