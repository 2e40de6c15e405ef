/-
  What the library's functions compute.
-/
import Derived.Test.YtkblaobhhoebaaaGreatSS14
set_option linter.unusedVariables false
set_option linter.unusedSimpArgs false
namespace Go.Proofs.YtkblaobhhoebaaaGreat.Abs
abbrev E12:=Ba
def ix (l:List E12) (t:Int):Nat:=l.findIdx λx=>decide (x.Tok=t)
def fnd (l:List E12) (t:Int):Option E12:=l[ix l t]?
def sN (t a:Int):Bool:=decide (0<=t/\t<=1099511627776/\0<=a/\a<=65535)
def sTs (t:Int):Bool:=decide (1<=t/\t<=1099511627776)
def sE (x:E12):Bool:=if x.State=1\/x.State=3 then sN x.Tok x.Attempt&&decide (x.Ts=0) else if x.State=2 then sN x.Tok x.Attempt&&sTs x.Ts else false
structure OkT (l:List E12):Prop where
  e:∀ x∈l,sE x=true
  u:∀ (i j:Nat) (x y:E12),l[i]? = some x->l[j]? = some y->x.Tok=y.Tok->i=j
  n:l.length<=32
theorem Ur (t a:Int):Cy t a=some (sN t a):=by
  unfold Cy sN
  by_cases h1:0<=t <;> by_cases h2:t<=1099511627776 <;> by_cases h3:0<=a <;> simp [h1,h2,h3]
theorem Alm (t:Int):G4 t=some (sTs t):=by
  unfold G4 sTs
  by_cases h1:1<=t <;> simp [h1]
theorem Ajg (x:E12):Gl x=some (sE x):=by
  unfold Gl E2 sE
  rw[Ur,Alm]
  by_cases h1:x.State=1
  · simp [h1];cases sN x.Tok x.Attempt <;> simp
  · by_cases h3:x.State=3
    · simp [h3];cases sN x.Tok x.Attempt <;> simp
    · by_cases h2:x.State=2
      · simp [h2];cases sN x.Tok x.Attempt <;> simp
      · simp [h1,h2,h3]
theorem Aj2 (l:List E12) (t:Int):ix l t<=l.length:=List.findIdx_le_length
theorem Agd {l:List E12} {t:Int} (h:ix l t<l.length):l[ix l t].Tok=t:=by
  have:=List.findIdx_getElem (xs:=l) (p:=λ(x:E12)=>decide (x.Tok=t)) (w:=h)
  exact of_decide_eq_true this
theorem Ake {l:List E12} {t:Int} {i:Nat} {x:E12} (h:i<ix l t) (hx:l[i]? = some x):x.Tok≠t:=by
  have hi:i<l.length:=(zC.1 hx).1
  have:=List.not_of_lt_findIdx (xs:=l) (p:=λ(x:E12)=>decide (x.Tok=t)) h
  have e:=(zC.1 hx).2
  rw[e] at this
  simpa using this
theorem Ayn {l:List E12} {t:Int} {i:Nat} {x:E12} (hx:l[i]? = some x) (ht:x.Tok=t) (hf:∀ (j:Nat) (y:E12),j<i->l[j]? = some y->y.Tok≠t):ix l t=i:=by
  rcases kI (ix l t) i with h|h|h
  · have hi:i<l.length:=(zC.1 hx).1
    have hl:ix l t<l.length:=Nat.lt_trans h hi
    exact absurd (Agd hl) (hf _ _ h (zB hl))
  · exact h
  · exact absurd ht (Ake h hx)
theorem N9 {l:List E12} {t:Int} {x:E12} (h:fnd l t=some x):x.Tok=t/\ix l t<l.length/\x∈l:=by
  unfold fnd at h
  obtain⟨h1,h2⟩:=zC.1 h
  exact⟨by rw[<- h2];exact Agd h1,h1,zJ h⟩
theorem Y6 {l:List E12} {t:Int} (h:fnd l t=none):ix l t=l.length/\∀ (i:Nat) (x:E12),l[i]? = some x->x.Tok≠t:=by
  unfold fnd at h
  have h1:=xR.1 h
  have e:ix l t=l.length:=Nat.le_antisymm (Aj2 l t) h1
  exact⟨e,λi x hx=>Ake (by rw[e];exact(zC.1 hx).1) hx⟩
theorem Adu {l:List E12} (ok:OkT l) {t:Int} {i:Nat} {x:E12} (hx:l[i]? = some x) (ht:x.Tok=t):ix l t=i/\fnd l t=some x:=by
  have h:=Ayn hx ht (λj y hj hy hc=>wD j (by have:=ok.u j i y x hy hx (hc.trans ht.symm);omega))
  exact⟨h,by unfold fnd;rw[h];exact hx⟩
theorem V7 (l:List E12) (t:Int) (hl:l.length<=1000000):Ez ⟨l⟩ t=some (ix l t:Int):=by
  unfold Ez
  obtain⟨x,hx,hm⟩:=D2 (f:=Hk ⟨l⟩ t) (P:=λs=>∃ i:Nat,i<=l.length/\s=(i:Int)/\∀ (j:Nat) (y:E12),j<i->l[j]? = some y->y.Tok≠t) (μ:=λs=>l.length-s.toNat)
    (R:=λx=>match x with | .inl y=>y=(ix l t:Int) | .inr _=>ix l t=l.length) (by
    rintro _ ⟨i,hi,rfl,hf⟩
    unfold Hk
    dsimp only
    rcases zO i l.length with hlt|hge
    · have e:=zB hlt
      rw[if_pos (decide_eq_true (by omega)),Bo,e]
      simp only[zA]
      by_cases ht:l[i].Tok=t
      · right;right
        rw[if_pos (decide_eq_true ht)]
        exact⟨_,rfl,by rw[Ayn e ht hf]⟩
      · left
        rw[if_neg (by simpa using ht),Cd (by omega) (by omega)]
        refine⟨_,rfl,⟨i+1,hlt,rfl,λj y hj hy=>?_⟩,by omega⟩
        rcases zO j i with h|h
        · exact hf j y h hy
        · have:j=i:=by omega
          subst this
          rw[e] at hy;cases hy;exact ht
    · right;left
      rw[if_neg (by rw[decide_eq_true_eq];omega)]
      refine⟨_,rfl,?_⟩
      refine Nat.le_antisymm (Aj2 l t) (Nat.le_of_not_lt λh=>?_)
      exact hf _ _ (by omega) (zB h) (Agd h)) fuel 0 ⟨0,zX _,rfl,λj y hj=>absurd hj (zR _)⟩ (Co (by show l.length-0<=_;omega))
  rw[hx]
  cases x with
  | inl y=>show some y=_;rw[show y=_ from hm]
  | inr y=>show some (l.length:Int)=_;rw[show ix l t=l.length from hm]
theorem Agf {l:List E12} (ok:OkT l):De ⟨l⟩=some true:=by
  have hn:=ok.n
  unfold De
  obtain⟨x,hx,hm⟩:=D2 (f:=Jk ⟨l⟩) (P:=λs=>∃ i:Nat,i<=l.length/\s=(i:Int)) (μ:=λs=>l.length-s.toNat)
    (R:=λx=>match x with | .inl y=>False | .inr _=>True) (by
    rintro _ ⟨i,hi,rfl⟩
    unfold Jk
    dsimp only
    rcases zO i l.length with hlt|hge
    · have e:=zB hlt
      left
      rw[if_pos (decide_eq_true (by omega)),Bo,e]
      simp only[zA]
      rw[Ajg,ok.e _ (yY hlt)]
      simp only[zA]
      rw[if_neg (by simp),V7 l _ (by omega),(Adu ok e rfl).1]
      simp only[zA]
      rw[if_neg (by simp),Cd (by omega) (by omega)]
      exact⟨_,rfl,⟨i+1,hlt,rfl⟩,by omega⟩
    · right;left
      rw[if_neg (by rw[decide_eq_true_eq];omega)]
      exact⟨_,rfl,trivial⟩) fuel 0 ⟨0,zX _,rfl⟩ (Co (by show l.length-0<=_;omega))
  rw[hx]
  cases x with
  | inl y=>exact hm.elim
  | inr y=>show some (decide ((l.length:Int)<=32))=_;rw[decide_eq_true (by omega)]
def e00:E12:=⟨0,0,0,0⟩
theorem Af2 {l:List E12} (hl:l.length<=1000000) (t:Int):E8 ⟨l⟩ t=some (match fnd l t with|some x=>(x,true)|none=>(e00,false)):=by
  unfold E8
  rw[V7 l t hl]
  simp only[zA]
  cases h:fnd l t with
  | none =>
    rw[if_pos (decide_eq_true (by rw[(Y6 h).1]))]
    rfl
  | some x =>
    have h1:=N9 h
    rw[if_neg (by rw[decide_eq_true_eq];omega)]
    show(idx l (ix l t:Int)).bind _=_
    rw[Bo,show l[ix l t]? = some x from h]
    rfl
def Aii (l:List E12) (x:E12):List E12:=if ix l x.Tok<l.length then l.set (ix l x.Tok) x else l++[x]
theorem Af3 (l:List E12) (x:E12):(Aii l x)[ix l x.Tok]? = some x:=by
  unfold Aii
  have:=Aj2 l x.Tok
  split
  · rw[zQ (by assumption)]
  · have e:ix l x.Tok=l.length:=by omega
    rw[e,yA (zN _),j0];rfl
theorem Tf (l:List E12) (x:E12) {j:Nat} (hj:j≠ix l x.Tok):(Aii l x)[j]? = l[j]? := by
  unfold Aii
  have:=Aj2 l x.Tok
  split
  · rw[zZ (λe=>hj e.symm)]
  · have e:ix l x.Tok=l.length:=by omega
    rcases zO j l.length with h|h
    · rw[zL h]
    · rw[yG (by simp;omega),yG h]
theorem Anj {l:List E12} (ok:OkT l) {x y:E12} {j:Nat} (hj:j≠ix l x.Tok) (hy:l[j]? = some y):y.Tok≠x.Tok:=λhc=>hj (Adu ok hy hc).1.symm
theorem Ak0 {l:List E12} (ok:OkT l) {x:E12} (hx:sE x=true) (h:ix l x.Tok<32):OkT (Aii l x):=by
  refine⟨λy hy=>?_,λi j y z hy hz hyz=>?_,?_⟩
  · obtain⟨j,hj⟩:=List.getElem?_of_mem hy
    by_cases e:j=ix l x.Tok
    · subst e;rw[Af3] at hj;cases hj;exact hx
    · rw[Tf l x e] at hj
      exact ok.e y (zJ hj)
  · by_cases e1:i=ix l x.Tok <;> by_cases e2:j=ix l x.Tok
    · rw[e1,e2]
    · rw[Tf l x e2] at hz
      subst e1;rw[Af3] at hy;cases hy
      exact absurd hyz.symm (Anj ok e2 hz)
    · rw[Tf l x e1] at hy
      subst e2;rw[Af3] at hz;cases hz
      exact absurd hyz (Anj ok e1 hy)
    · rw[Tf l x e1] at hy
      rw[Tf l x e2] at hz
      exact ok.u i j y z hy hz hyz
  · unfold Aii
    have:=ok.n
    have:=Aj2 l x.Tok
    split
    · rw[xI];omega
    · rw[zH];simp only[yW,jN];omega
theorem Ai2 {l:List E12} (ok:OkT l) {x:E12} (hx:sE x=true) (h:ix l x.Tok<32) (t:Int):fnd (Aii l x) t=if t=x.Tok then some x else fnd l t:=by
  have ok':=Ak0 ok hx h
  by_cases ht:t=x.Tok
  · rw[if_pos ht]
    exact(Adu ok' (Af3 l x) ht.symm).2
  · rw[if_neg ht]
    cases hf:fnd l t with
    | some y =>
      have h1:=N9 hf
      have hj:ix l t≠ix l x.Tok:=λe=>by
        have h2:l[ix l t]? = some y:=hf
        have h3:=Agd (l:=l) (t:=x.Tok) (by rw[<- e];exact h1.2.1)
        have h4:l[ix l x.Tok]? = some y:=by rw[<- e];exact h2
        rw[zB (by rw[<- e];exact h1.2.1)] at h4
        have h5:l[ix l x.Tok]'(by rw[<- e];exact h1.2.1)=y:=zD h4
        rw[h5] at h3
        exact ht (h1.1.symm.trans h3)
      exact(Adu ok' (by rw[Tf l x hj];exact hf) h1.1).2
    | none =>
      have h1:=(Y6 hf).2
      cases hf':fnd (Aii l x) t with
      | none=>rfl
      | some y =>
        have h2:=N9 hf'
        have h3:(Aii l x)[ix (Aii l x) t]? = some y:=hf'
        by_cases e:ix (Aii l x) t=ix l x.Tok
        · rw[e,Af3] at h3
          cases h3
          exact absurd h2.1.symm ht
        · rw[Tf l x e] at h3
          exact absurd h2.1 (h1 _ _ h3)
def Aib (l:List E12) (t:Int):List E12:=l.take (ix l t)++l.drop (ix l t+1)
theorem Anl {l:List E12} {t:Int} (h:ix l t<l.length) (j:Nat):(Aib l t)[j]? = if j<ix l t then l[j]? else l[j+1]? := by
  unfold Aib
  have hl:(l.take (ix l t)).length=ix l t:=by rw[zK];omega
  split
  · rw[zL (by rw[hl];assumption),yL,if_pos (by assumption)]
  · rw[yA (by rw[hl];omega),hl,yJ]
    congr 1;omega
theorem Y2 {l:List E12} {t:Int} (h:ix l t<l.length) {j:Nat} {y:E12} (hy:(Aib l t)[j]? = some y):∃ q,q≠ix l t/\l[q]? = some y/\(q=if j<ix l t then j else j+1):=by
  rw[Anl h] at hy
  by_cases c:j<ix l t
  · rw[if_pos c] at hy ⊢;exact⟨j,by omega,hy,rfl⟩
  · rw[if_neg c] at hy ⊢;exact⟨j+1,by omega,hy,rfl⟩
theorem Aud {l:List E12} (ok:OkT l) {t:Int} (h:ix l t<l.length):OkT (Aib l t):=by
  refine⟨λy hy=>?_,λi j y z hy hz hyz=>?_,?_⟩
  · obtain⟨j,hj⟩:=List.getElem?_of_mem hy
    obtain⟨q,_,hq,_⟩:=Y2 h hj
    exact ok.e y (zJ hq)
  · obtain⟨q,h1,hq,e1⟩:=Y2 h hy
    obtain⟨q',h2,hq',e2⟩:=Y2 h hz
    have:=ok.u q q' y z hq hq' hyz
    by_cases c1:i<ix l t <;> by_cases c2:j<ix l t
    · rw[if_pos c1] at e1;rw[if_pos c2] at e2;omega
    · rw[if_pos c1] at e1;rw[if_neg c2] at e2;omega
    · rw[if_neg c1] at e1;rw[if_pos c2] at e2;omega
    · rw[if_neg c1] at e1;rw[if_neg c2] at e2;omega
  · unfold Aib
    have:=ok.n
    rw[zH,zK,yC];omega
theorem Av3 {l:List E12} {t:Int} (h:ix l t<l.length):(Aib l t).length=l.length-1:=by
  unfold Aib
  rw[zH,zK,yC];omega
theorem Av6 {l:List E12} (ok:OkT l) {t:Int} (h:ix l t<l.length) (s:Int):fnd (Aib l t) s=if s=t then none else fnd l s:=by
  have ok':=Aud ok h
  by_cases hs:s=t
  · rw[if_pos hs]
    cases hf:fnd (Aib l t) s with
    | none=>rfl
    | some y =>
      have h2:=N9 hf
      obtain⟨q,h3,hq,_⟩:=Y2 h (show(Aib l t)[ix (Aib l t) s]? = some y from hf)
      exact absurd (Adu ok hq (h2.1.trans hs)).1.symm h3
  · rw[if_neg hs]
    cases hf:fnd l s with
    | some y =>
      have h1:=N9 hf
      have hne:ix l s≠ix l t:=λe=>by
        have h3:=Agd h
        have h4:l[ix l t]? = some y:=by rw[<- e];exact hf
        rw[zB h] at h4
        rw[zD h4] at h3
        exact hs (h1.1.symm.trans h3)
      refine(Adu ok' (i:=if ix l s<ix l t then ix l s else ix l s-1) ?_ h1.1).2
      rw[Anl h]
      by_cases c:ix l s<ix l t
      · rw[if_pos c,if_pos c];exact hf
      · rw[if_neg c,if_neg (by omega),show ix l s-1+1=ix l s by omega];exact hf
    | none =>
      have h1:=(Y6 hf).2
      cases hf':fnd (Aib l t) s with
      | none=>rfl
      | some y =>
        have h2:=N9 hf'
        obtain⟨q,_,hq,_⟩:=Y2 h (show(Aib l t)[ix (Aib l t) s]? = some y from hf')
        exact absurd h2.1 (h1 _ _ hq)
theorem A33 (l:List E12) (x:E12) (hl:l.length<=1000000):Nj l (ix l x.Tok:Int) x=some (Aii l x):=by
  unfold Nj Aii
  rw[Xg _ (by omega)]
  simp only[zA]
  have:=Aj2 l x.Tok
  by_cases h:ix l x.Tok<l.length
  · rw[if_neg (by rw[decide_eq_true_eq];omega),if_pos h,Bo,zB h,zT]
    rfl
  · rw[if_pos (decide_eq_true (by omega)),if_neg h,if_pos (by simp only[yW,jN];omega)]
theorem Awi {l:List E12} (ok:OkT l) (x:E12):Dd ⟨l⟩ x=some (if 32<=ix l x.Tok then(⟨[]⟩,8) else(⟨Aii l x⟩,0)):=by
  unfold Dd
  have hn:=ok.n
  rw[V7 l _ (by omega)]
  simp only[zA]
  by_cases h:32<=ix l x.Tok
  · rw[if_pos (decide_eq_true (by omega)),if_pos h]
  · rw[if_neg (by rw[decide_eq_true_eq];omega),if_neg h,A33 l x (by omega)]
    rfl
def OpR (l:List E12) (what tok att ts:Int) (l':List E12):Prop :=
  OkT l'/\(∀ t,t≠tok->fnd l' t=fnd l t)/\0<=att/\att<=65535 /\
    ((what=0/\(∀ x,fnd l tok=some x->x.State≠2/\x.Attempt<att)/\fnd l' tok=some ⟨tok,att,1,0⟩) \/
     (what=2/\(∃ x,fnd l tok=some x/\x.State=1/\x.Attempt=att)/\fnd l' tok=some ⟨tok,att,2,ts⟩) \/
     (what=4/\(∃ x,fnd l tok=some x/\x.State=2/\l'=l)) \/
     (what=4/\(∀ x,fnd l tok=some x->x.State≠2)/\∃ b,fnd l' tok=some ⟨tok,b,3,0⟩/\b=(match fnd l tok with|some x=>max x.Attempt att|none=>att)))
theorem Apk {x:E12} (h:sE x=true):0<=x.Tok/\x.Tok<=1099511627776/\0<=x.Attempt/\x.Attempt<=65535/\(x.State=1\/x.State=2/\1<=x.Ts\/x.State=3):=by
  unfold sE at h
  have hN:∀ b:Bool,(sN x.Tok x.Attempt&&b)=true->(0<=x.Tok/\x.Tok<=1099511627776/\0<=x.Attempt/\x.Attempt<=65535)/\b=true:=λb h=>by
    rw[yD] at h;exact⟨of_decide_eq_true h.1,h.2⟩
  by_cases h1:x.State=1\/x.State=3
  · rw[if_pos h1] at h
    obtain⟨⟨a,b,c,d⟩,_⟩:=hN _ h
    exact⟨a,b,c,d,h1.elim .inl (λh=>.inr (.inr h))⟩
  · rw[if_neg h1] at h
    by_cases h2:x.State=2
    · rw[if_pos h2] at h
      obtain⟨⟨a,b,c,d⟩,h3⟩:=hN _ h
      exact⟨a,b,c,d,.inr (.inl ⟨h2,(of_decide_eq_true h3).1⟩)⟩
    · rw[if_neg h2] at h;cases h
theorem Auv {l:List E12} (ok:OkT l) (tok att:Int):∃ l' e,I9 ⟨l⟩ tok att=some (⟨l'⟩,e)/\(e=0->OpR l 0 tok att 0 l') /\
    (fnd l tok=none->sN tok att=true->e=if l.length=32 then 8 else 0):=by
  unfold I9
  show ∃ l' e,(De ⟨l⟩).bind _=_/\_
  rw[Agf ok,Ur]
  simp only[zA]
  rw[if_neg (by simp)]
  cases hN:sN tok att with
  | false=>exact⟨[],1,rfl,(λh=>by cases h),λ_ h=>by cases h⟩
  | true =>
  rw[if_neg (by simp)]
  have hN':0<=tok/\tok<=1099511627776/\0<=att/\att<=65535:=of_decide_eq_true hN
  have hsE:sE (⟨tok,att,1,0⟩:E12)=true:=by unfold sE;rw[if_pos (.inl rfl)];show(sN tok att&&_)=true;rw[hN];rfl
  unfold Lv
  have hn:=ok.n
  rw[Af2 (by omega)]
  simp only[zA]
  have hset:∃ l' e,(Dd ⟨l⟩ ⟨tok,att,1,0⟩).bind (λv=>some (v.1,v.2))=some (⟨l'⟩,e)/\((∀ x,fnd l tok=some x->x.State≠2/\x.Attempt<att)->e=0->OpR l 0 tok att 0 l')/\(fnd l tok=none->e=if l.length=32 then 8 else 0):=by
    rw[Awi ok]
    simp only[zA]
    by_cases h:32<=ix l tok
    · rw[if_pos (show 32<=ix l (⟨tok,att,1,0⟩:E12).Tok from h)]
      exact⟨[],8,rfl,(λ_ h=>by cases h),(λ_=>by rw[if_pos (by have:=Aj2 l tok;omega)])⟩
    · rw[if_neg (show ¬ 32<=ix l (⟨tok,att,1,0⟩:E12).Tok from h)]
      have hf:=Ai2 ok hsE (show ix l (⟨tok,att,1,0⟩:E12).Tok<32 by show ix l tok<32;omega)
      refine⟨_,0,rfl,λhx _=>⟨Ak0 ok hsE (by show ix l tok<32;omega),(λt ht=>by rw[hf t,if_neg ht]),hN'.2.2.1,hN'.2.2.2,.inl ⟨rfl,hx,by rw[hf tok,if_pos rfl]⟩⟩,λhno=>by rw[if_neg (by have:=(Y6 hno).1;omega)]⟩
  cases hf:fnd l tok with
  | none =>
    rw[if_neg (by simp),if_neg (by simp)]
    obtain⟨l',e,h1,h2,h3⟩:=hset
    exact⟨l',e,h1,h2 (by rw[hf];intro x h;cases h),λ_ _=>h3 hf⟩
  | some x =>
    dsimp only
    rw[if_pos rfl]
    by_cases h2:x.State=2
    · rw[if_pos (decide_eq_true h2)]
      exact⟨[],7,rfl,(λh=>by cases h),λh=>by cases h⟩
    rw[if_neg (by simpa using h2),if_pos rfl]
    by_cases h3:att<=x.Attempt
    · rw[if_pos (decide_eq_true h3)]
      exact⟨[],14,rfl,(λh=>by cases h),λh=>by cases h⟩
    · rw[if_neg (by simpa using h3)]
      obtain⟨l',e,h4,h5,_⟩:=hset
      exact⟨l',e,h4,h5 (by rw[hf];rintro y h;cases h;exact⟨h2,by omega⟩),λh=>by cases h⟩
theorem Ar7 {l:List E12} (ok:OkT l) (tok att ts:Int):∃ l' e,G3 ⟨l⟩ tok att ts=some (⟨l'⟩,e)/\(e=0->OpR l 2 tok att ts l') /\
    (fnd l tok=some ⟨tok,att,1,0⟩->sTs ts=true->e=0/\ix l' tok<l'.length/\l'.length=l.length):=by
  unfold G3
  rw[Agf ok,Ur,Alm]
  simp only[zA]
  rw[if_neg (by simp)]
  have hn:=ok.n
  cases hN:sN tok att with
  | false =>
    refine⟨[],1,rfl,(λh=>by cases h),λh _=>?_⟩
    have:=Apk (ok.e _ (N9 h).2.2)
    exfalso
    have h2:sN tok att=true:=decide_eq_true ⟨this.1,this.2.1,this.2.2.1,this.2.2.2.1⟩
    rw[hN] at h2;cases h2
  | true =>
  rw[if_neg (by simp)]
  have hN':0<=tok/\tok<=1099511627776/\0<=att/\att<=65535:=of_decide_eq_true hN
  cases hT:sTs ts with
  | false=>exact⟨[],1,rfl,(λh=>by cases h),λ_ h=>by cases h⟩
  | true =>
  rw[if_neg (by simp)]
  have hsE:sE (⟨tok,att,2,ts⟩:E12)=true:=by
    unfold sE
    rw[if_neg (by rintro(h|h) <;> cases h),if_pos rfl]
    show(sN tok att&&sTs ts)=true
    rw[hN,hT];rfl
  unfold Jo
  rw[Af2 (by omega)]
  simp only[zA]
  cases hf:fnd l tok with
  | none=>exact⟨[],14,rfl,(λh=>by cases h),λh=>by cases h⟩
  | some x =>
    dsimp only
    have hx:=N9 hf
    by_cases h2:x.State=2
    · rw[if_pos (decide_eq_true h2)]
      exact⟨[],7,rfl,(λh=>by cases h),λh=>by cases h;cases h2⟩
    rw[if_neg (by simpa using h2)]
    by_cases h1:x.State=1
    · rw[if_neg (by simp [h1])]
      by_cases h3:x.Attempt=att
      · rw[if_neg (by simp [h3]),Awi ok]
        simp only[zA]
        have hix:ix l tok<32:=by omega
        rw[if_neg (show ¬ 32<=ix l (⟨tok,att,2,ts⟩:E12).Tok by show ¬ 32<=ix l tok;omega)]
        have hff:=Ai2 ok hsE (show ix l (⟨tok,att,2,ts⟩:E12).Tok<32 from hix)
        refine⟨_,0,rfl,λ_=>⟨Ak0 ok hsE hix,(λt ht=>by rw[hff t,if_neg ht]),hN'.2.2.1,hN'.2.2.2,.inr (.inl ⟨rfl,⟨x,hf,h1,h3⟩,by rw[hff tok,if_pos rfl]⟩)⟩,λ_ _=>⟨rfl,?_,?_⟩⟩
        · have h4:fnd (Aii l ⟨tok,att,2,ts⟩) tok=some ⟨tok,att,2,ts⟩:=by rw[hff tok,if_pos rfl]
          exact(N9 h4).2.1
        · unfold Aii
          rw[if_pos (show ix l (⟨tok,att,2,ts⟩:E12).Tok<l.length from hx.2.1),xI]
      · rw[if_pos (by simpa using h3)]
        exact⟨[],14,rfl,(λh=>by cases h),λh=>by cases h;exact absurd rfl h3⟩
    · rw[if_pos (by simpa using h1)]
      exact⟨[],14,rfl,(λh=>by cases h),λh=>by cases h;exact absurd rfl h1⟩
theorem Aet {l:List E12} (ok:OkT l) (tok att:Int):∃ l' n e,C7 ⟨l⟩ tok att=some (⟨l'⟩,n,e)/\(e=0->OpR l 4 tok att 0 l') /\
    (∀ x,fnd l tok=some x->x.State=2->(e=0/\n=x.Ts)\/e=1)/\(e=0->n<=0->∀ x,fnd l tok=some x->x.State≠2)/\(fnd l tok=none->sN tok att=true->l.length=32->e=8)/\(n=0\/∃ x,fnd l tok=some x/\x.State=2):=by
  unfold C7
  rw[Agf ok,Ur]
  simp only[zA]
  rw[if_neg (by simp)]
  have hn:=ok.n
  cases hN:sN tok att with
  | false=>exact⟨[],0,1,rfl,(λh=>by cases h),(λ_ _ _=>.inr rfl),(λh=>by cases h),(λ_ h=>by cases h),.inl rfl⟩
  | true =>
  rw[if_neg (by simp)]
  have hN':0<=tok/\tok<=1099511627776/\0<=att/\att<=65535:=of_decide_eq_true hN
  unfold Lz
  rw[Af2 (by omega)]
  simp only[zA]
  have hgo:∀ b:Int,0<=b->b<=65535->∃ l' e,(Dd ⟨l⟩ ⟨tok,b,3,0⟩).bind (λv=>some (v.1,(0:Int),v.2))=some (⟨l'⟩,0,e)/\(e=0->OkT l'/\(∀ t,t≠tok->fnd l' t=fnd l t)/\fnd l' tok=some ⟨tok,b,3,0⟩)/\(fnd l tok=none->l.length=32->e=8):=by
    intro b h0 h1
    have hsE:sE (⟨tok,b,3,0⟩:E12)=true:=by
      unfold sE
      rw[if_pos (.inr rfl)]
      show(sN tok b&&_)=true
      have:sN tok b=true:=decide_eq_true ⟨hN'.1,hN'.2.1,h0,h1⟩
      rw[this];rfl
    rw[Awi ok]
    simp only[zA]
    by_cases h:32<=ix l tok
    · rw[if_pos (show 32<=ix l (⟨tok,b,3,0⟩:E12).Tok from h)]
      exact⟨[],8,rfl,(λh=>by cases h),λ_ _=>rfl⟩
    · rw[if_neg (show ¬ 32<=ix l (⟨tok,b,3,0⟩:E12).Tok from h)]
      have hff:=Ai2 ok hsE (show ix l (⟨tok,b,3,0⟩:E12).Tok<32 by show ix l tok<32;omega)
      exact⟨_,0,rfl,λ_=>⟨Ak0 ok hsE (by show ix l tok<32;omega),(λt ht=>by rw[hff t,if_neg ht]),by rw[hff tok,if_pos rfl]⟩,λhno h32=>by have:=(Y6 hno).1;omega⟩
  cases hf:fnd l tok with
  | none =>
    dsimp only
    rw[if_neg (by decide)]
    have he:(if att > e00.Attempt then att else e00.Attempt)=att:=by show(if att > 0 then att else 0)=att;split <;> omega
    rw[he]
    obtain⟨l',e,h1,h2,h3⟩:=hgo att hN'.2.2.1 hN'.2.2.2
    exact⟨l',0,e,h1,λh=>⟨(h2 h).1,(h2 h).2.1,hN'.2.2.1,hN'.2.2.2,.inr (.inr (.inr ⟨rfl,(by rw[hf];intro x h;cases h),att,(h2 h).2.2,by rw[hf]⟩))⟩,(λx h=>by cases h),(λ_ _ x h=>by cases h),(λ_ _=>h3 hf),.inl rfl⟩
  | some x =>
    dsimp only
    have hx:=N9 hf
    have hsx:=Apk (ok.e _ hx.2.2)
    by_cases h2:x.State=2
    · rw[if_pos (decide_eq_true h2)]
      refine⟨l,x.Ts,0,rfl,λ_=>⟨ok,λ_ _=>rfl,hN'.2.2.1,hN'.2.2.2,.inr (.inr (.inl ⟨rfl,x,hf,h2,rfl⟩))⟩,(λy h _=>by cases h;exact .inl ⟨rfl,rfl⟩),λ_ h0 y h=>?_,(λh=>by cases h),.inr ⟨x,rfl,h2⟩⟩
      rcases hsx.2.2.2.2 with h|h|h
      · rw[h] at h2;cases h2
      · omega
      · rw[h] at h2;cases h2
    · rw[if_neg (by simpa using h2)]
      have he:(if att > x.Attempt then att else x.Attempt)=max x.Attempt att:=by split <;> omega
      rw[he]
      obtain⟨l',e,h1,h3,_⟩:=hgo (max x.Attempt att) (by omega) (by omega)
      exact⟨l',0,e,h1,λh=>⟨(h3 h).1,(h3 h).2.1,hN'.2.2.1,hN'.2.2.2,.inr (.inr (.inr ⟨rfl,(by rw[hf];rintro y h;cases h;exact h2),_,(h3 h).2.2,by rw[hf]⟩))⟩,(λy h hy=>by cases h;exact absurd hy h2),(λ_ _ y h=>by cases h;exact h2),(λh=>by cases h),.inl rfl⟩
theorem Aqu {l:List E12} (ok:OkT l) (tok:Int):∃ l' e,G2 ⟨l⟩ tok=some (⟨l'⟩,e)/\(e=0->OkT l'/\(∀ t,t≠tok->fnd l' t=fnd l t)/\fnd l' tok=none/\l'.length=l.length-1/\1<=l.length) /\
    (∀ x,fnd l tok=some x->(x.State=1->e=7)/\(x.State=2->e=0)):=by
  unfold G2
  show ∃ l' e,(De ⟨l⟩).bind _=_/\_
  rw[Agf ok,Ur]
  simp only[zA]
  rw[if_neg (by simp)]
  have hn:=ok.n
  cases hN:sN tok 0 with
  | false =>
    refine⟨[],1,rfl,(λh=>by cases h),λx h=>?_⟩
    have:=Apk (ok.e _ (N9 h).2.2)
    rw[(N9 h).1] at this
    exfalso
    have h2:sN tok 0=true:=decide_eq_true ⟨this.1,this.2.1,xU _,by decide⟩
    rw[hN] at h2;cases h2
  | true =>
  rw[if_neg (by simp)]
  unfold Jm
  rw[Af2 (by omega)]
  simp only[zA]
  cases hf:fnd l tok with
  | none=>exact⟨[],6,rfl,(λh=>by cases h),λx h=>by cases h⟩
  | some x =>
    dsimp only
    have hx:=N9 hf
    rw[if_neg (by simp)]
    by_cases h1:x.State=1
    · rw[if_pos (decide_eq_true h1)]
      exact⟨[],7,rfl,(λh=>by cases h),λy h=>by cases h;exact⟨λ_=>rfl,λh2=>by rw[h1] at h2;cases h2⟩⟩
    rw[if_neg (by simpa using h1),V7 l tok (by omega)]
    simp only[zA]
    rw[Abl (by omega) (by omega) (by omega)]
    simp only[zA]
    rw[Cd (by omega) (by omega),Abl (by omega) (by omega) (by omega)]
    simp only[zA]
    have e1:(l.drop (0:Int).toNat).take ((ix l tok:Int).toNat-(0:Int).toNat)=l.take (ix l tok):=by simp
    have e2:(l.drop ((ix l tok:Int)+1).toNat).take ((l.length:Int).toNat-((ix l tok:Int)+1).toNat)=l.drop (ix l tok+1):=by
      rw[show((ix l tok:Int)+1).toNat=ix l tok+1 by omega,zT]
      exact yX (by rw[yC];exact zN _)
    rw[e1,e2]
    have e3:[l.take (ix l tok),l.drop (ix l tok+1)].flatten=Aib l tok:=by simp [Aib]
    have hdl:=Av3 (l:=l) (t:=tok) hx.2.1
    rw[W2 _ (by rw[e3,hdl];omega) (by simp),e3]
    simp only[zA]
    have hff:=Av6 ok hx.2.1
    exact⟨_,0,rfl,λ_=>⟨Aud ok hx.2.1,(λt ht=>by rw[hff t,if_neg ht]),by rw[hff tok,if_pos rfl],hdl,by omega⟩,λy h=>by cases h;exact⟨λh=>absurd h h1,λ_=>rfl⟩⟩
theorem Axi:OkT []:=⟨λx h=>(by cases h),λi j x y h=>(by simp at h),by simp⟩
end Go.Proofs.YtkblaobhhoebaaaGreat.Abs
