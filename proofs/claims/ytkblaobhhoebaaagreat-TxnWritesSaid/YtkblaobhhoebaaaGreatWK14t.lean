/-
  What the library's functions compute.
-/
import Derived.Test.YtkblaobhhoebaaaGreatWS14
set_option linter.unusedVariables false
set_option linter.unusedSimpArgs false
namespace Go.Proofs.YtkblaobhhoebaaaGreat.Abs
abbrev E12:=A8
def ix (l:List E12) (t:Int):Nat:=l.findIdx fun x=>decide (x.Tok=t)
def fnd (l:List E12) (t:Int):Option E12:=l[ix l t]?
def sN (t a:Int):Bool:=decide (0≤t∧t≤1099511627776∧0≤a∧a≤65535)
def sTs (t:Int):Bool:=decide (1≤t∧t≤1099511627776)
def sE (x:E12):Bool:=if x.State=1∨x.State=3 then sN x.Tok x.Attempt && decide (x.Ts=0) else if x.State=2 then sN x.Tok x.Attempt && sTs x.Ts else false
structure OkT (l:List E12):Prop where
  e:∀ x ∈ l,sE x=true
  u:∀ (i j:Nat) (x y:E12),l[i]? = some x→l[j]? = some y→x.Tok=y.Tok→i=j
  n:l.length≤32
theorem Sd (t a:Int):Cn t a=some (sN t a):=by
  unfold Cn sN
  by_cases h1:0≤t <;> by_cases h2:t≤1099511627776 <;> by_cases h3:0≤a <;> simp [h1,h2,h3]
theorem Aiq (t:Int):Gi t=some (sTs t):=by
  unfold Gi sTs
  by_cases h1:1≤t <;> simp [h1]
theorem Agc (x:E12):Gb x=some (sE x):=by
  unfold Gb Eg sE
  rw [Sd,Aiq]
  by_cases h1:x.State=1
  · simp [h1];cases sN x.Tok x.Attempt <;> simp
  · by_cases h3:x.State=3
    · simp [h3];cases sN x.Tok x.Attempt <;> simp
    · by_cases h2:x.State=2
      · simp [h2];cases sN x.Tok x.Attempt <;> simp
      · simp [h1,h2,h3]
theorem Ag1 (l:List E12) (t:Int):ix l t≤l.length:=List.findIdx_le_length
theorem Af2 {l:List E12} {t:Int} (h:ix l t<l.length):l[ix l t].Tok=t:=by
  have:=List.findIdx_getElem (xs:=l) (p:=fun (x:E12)=>decide (x.Tok=t)) (w:=h)
  exact of_decide_eq_true this
theorem Ai1 {l:List E12} {t:Int} {i:Nat} {x:E12} (h:i<ix l t) (hx:l[i]? = some x):x.Tok≠t:=by
  have hi:i<l.length:=(zC.1 hx).1
  have:=List.not_of_lt_findIdx (xs:=l) (p:=fun (x:E12)=>decide (x.Tok=t)) h
  have e:=(zC.1 hx).2
  rw [e] at this
  simpa using this
theorem Av4 {l:List E12} {t:Int} {i:Nat} {x:E12} (hx:l[i]? = some x) (ht:x.Tok=t) (hf:∀ (j:Nat) (y:E12),j<i→l[j]? = some y→y.Tok≠t):ix l t=i:=by
  rcases w8 (ix l t) i with h | h | h
  · have hi:i<l.length:=(zC.1 hx).1
    have hl:ix l t<l.length:=Nat.lt_trans h hi
    exact absurd (Af2 hl) (hf _ _ h (zB hl))
  · exact h
  · exact absurd ht (Ai1 h hx)
theorem M7 {l:List E12} {t:Int} {x:E12} (h:fnd l t=some x):x.Tok=t∧ix l t<l.length∧x ∈ l:=by
  unfold fnd at h
  obtain ⟨h1,h2⟩:=zC.1 h
  exact ⟨by rw [← h2];exact Af2 h1,h1,zI h⟩
theorem Wn {l:List E12} {t:Int} (h:fnd l t=none):ix l t=l.length∧∀ (i:Nat) (x:E12),l[i]? = some x→x.Tok≠t:=by
  unfold fnd at h
  have h1:=xR.1 h
  have e:ix l t=l.length:=Nat.le_antisymm (Ag1 l t) h1
  exact ⟨e,fun i x hx=>Ai1 (by rw [e];exact (zC.1 hx).1) hx⟩
theorem Abc {l:List E12} (ok:OkT l) {t:Int} {i:Nat} {x:E12} (hx:l[i]? = some x) (ht:x.Tok=t):ix l t=i∧fnd l t=some x:=by
  have h:=Av4 hx ht (fun j y hj hy hc=>wJ j (by have:=ok.u j i y x hy hx (hc.trans ht.symm);omega))
  exact ⟨h,by unfold fnd;rw [h];exact hx⟩
theorem Tw (l:List E12) (t:Int) (hl:l.length≤1000000):Ej ⟨l⟩ t=some (ix l t:Int):=by
  unfold Ej
  obtain ⟨x,hx,hm⟩:=Dh (f:=G4 ⟨l⟩ t) (P:=fun s=>∃ i:Nat,i≤l.length∧s=(i:Int)∧∀ (j:Nat) (y:E12),j<i→l[j]? = some y→y.Tok≠t) (μ:=fun s=>l.length-s.toNat)
    (R:=fun x=>match x with | .inl y=>y=(ix l t:Int) | .inr _=>ix l t=l.length) (by
    rintro _ ⟨i,hi,rfl,hf⟩
    unfold G4
    dsimp only
    rcases zO i l.length with hlt | hge
    · have e:=zB hlt
      rw [if_pos (decide_eq_true (by omega)),Bn,e]
      simp only [zA]
      by_cases ht:l[i].Tok=t
      · right;right
        rw [if_pos (decide_eq_true ht)]
        exact ⟨_,rfl,by rw [Av4 e ht hf]⟩
      · left
        rw [if_neg (by simpa using ht),Cb (by omega) (by omega)]
        refine ⟨_,rfl,⟨i+1,hlt,rfl,fun j y hj hy=>?_⟩,by omega⟩
        rcases zO j i with h | h
        · exact hf j y h hy
        · have:j=i:=by omega
          subst this
          rw [e] at hy;cases hy;exact ht
    · right;left
      rw [if_neg (by rw [decide_eq_true_eq];omega)]
      refine ⟨_,rfl,?_⟩
      refine Nat.le_antisymm (Ag1 l t) (Nat.le_of_not_lt fun h=>?_)
      exact hf _ _ (by omega) (zB h) (Af2 h)) fuel 0 ⟨0,zY _,rfl,fun j y hj=>absurd hj (zT _)⟩ (Ce (by show l.length-0≤_;omega))
  rw [hx]
  cases x with
  | inl y=>show some y=_;rw [show y=_ from hm]
  | inr y=>show some (l.length:Int)=_;rw [show ix l t=l.length from hm]
theorem Aey {l:List E12} (ok:OkT l):C0 ⟨l⟩=some true:=by
  have hn:=ok.n
  unfold C0
  obtain ⟨x,hx,hm⟩:=Dh (f:=Jj ⟨l⟩) (P:=fun s=>∃ i:Nat,i≤l.length∧s=(i:Int)) (μ:=fun s=>l.length-s.toNat)
    (R:=fun x=>match x with | .inl y=>False | .inr _=>True) (by
    rintro _ ⟨i,hi,rfl⟩
    unfold Jj
    dsimp only
    rcases zO i l.length with hlt | hge
    · have e:=zB hlt
      left
      rw [if_pos (decide_eq_true (by omega)),Bn,e]
      simp only [zA]
      rw [Agc,ok.e _ (xN hlt)]
      simp only [zA]
      rw [if_neg (by simp),Tw l _ (by omega),(Abc ok e rfl).1]
      simp only [zA]
      rw [if_neg (by simp),Cb (by omega) (by omega)]
      exact ⟨_,rfl,⟨i+1,hlt,rfl⟩,by omega⟩
    · right;left
      rw [if_neg (by rw [decide_eq_true_eq];omega)]
      exact ⟨_,rfl,trivial⟩) fuel 0 ⟨0,zY _,rfl⟩ (Ce (by show l.length-0≤_;omega))
  rw [hx]
  cases x with
  | inl y=>exact hm.elim
  | inr y=>show some (decide ((l.length:Int)≤32))=_;rw [decide_eq_true (by omega)]
def e00:E12:=⟨0,0,0,0⟩
theorem Afd {l:List E12} (hl:l.length≤1000000) (t:Int):E3 ⟨l⟩ t=some (match fnd l t with | some x=>(x,true) | none=>(e00,false)):=by
  unfold E3
  rw [Tw l t hl]
  simp only [zA]
  cases h:fnd l t with
  | none =>
    rw [if_pos (decide_eq_true (by rw [(Wn h).1]))]
    rfl
  | some x =>
    have h1:=M7 h
    rw [if_neg (by rw [decide_eq_true_eq];omega)]
    show (idx l (ix l t:Int)).bind _=_
    rw [Bn,show l[ix l t]? = some x from h]
    rfl
def Af9 (l:List E12) (x:E12):List E12:=if ix l x.Tok<l.length then l.set (ix l x.Tok) x else l++[x]
theorem Af3 (l:List E12) (x:E12):(Af9 l x)[ix l x.Tok]? = some x:=by
  unfold Af9
  have:=Ag1 l x.Tok
  split
  · rw [zS (by assumption)]
  · have e:ix l x.Tok=l.length:=by omega
    rw [e,zX (zN _),kU];rfl
theorem Qy (l:List E12) (x:E12) {j:Nat} (hj:j≠ix l x.Tok):(Af9 l x)[j]? = l[j]? := by
  unfold Af9
  have:=Ag1 l x.Tok
  split
  · rw [z6 (fun e=>hj e.symm)]
  · have e:ix l x.Tok=l.length:=by omega
    rcases zO j l.length with h | h
    · rw [zK h]
    · rw [yJ (by simp;omega),yJ h]
theorem Anj {l:List E12} (ok:OkT l) {x y:E12} {j:Nat} (hj:j≠ix l x.Tok) (hy:l[j]? = some y):y.Tok≠x.Tok:=fun hc=>hj (Abc ok hy hc).1.symm
theorem Ahv {l:List E12} (ok:OkT l) {x:E12} (hx:sE x=true) (h:ix l x.Tok<32):OkT (Af9 l x):=by
  refine ⟨fun y hy=>?_,fun i j y z hy hz hyz=>?_,?_⟩
  · obtain ⟨j,hj⟩:=List.getElem?_of_mem hy
    by_cases e:j=ix l x.Tok
    · subst e;rw [Af3] at hj;cases hj;exact hx
    · rw [Qy l x e] at hj
      exact ok.e y (zI hj)
  · by_cases e1:i=ix l x.Tok <;> by_cases e2:j=ix l x.Tok
    · rw [e1,e2]
    · rw [Qy l x e2] at hz
      subst e1;rw [Af3] at hy;cases hy
      exact absurd hyz.symm (Anj ok e2 hz)
    · rw [Qy l x e1] at hy
      subst e2;rw [Af3] at hz;cases hz
      exact absurd hyz (Anj ok e1 hy)
    · rw [Qy l x e1] at hy
      rw [Qy l x e2] at hz
      exact ok.u i j y z hy hz hyz
  · unfold Af9
    have:=ok.n
    have:=Ag1 l x.Tok
    split
    · rw [xH];omega
    · rw [zH];simp only [yT,jP];omega
theorem Ahc {l:List E12} (ok:OkT l) {x:E12} (hx:sE x=true) (h:ix l x.Tok<32) (t:Int):fnd (Af9 l x) t=if t=x.Tok then some x else fnd l t:=by
  have ok':=Ahv ok hx h
  by_cases ht:t=x.Tok
  · rw [if_pos ht]
    exact (Abc ok' (Af3 l x) ht.symm).2
  · rw [if_neg ht]
    cases hf:fnd l t with
    | some y =>
      have h1:=M7 hf
      have hj:ix l t≠ix l x.Tok:=fun e=>by
        have h2:l[ix l t]? = some y:=hf
        have h3:=Af2 (l:=l) (t:=x.Tok) (by rw [← e];exact h1.2.1)
        have h4:l[ix l x.Tok]? = some y:=by rw [← e];exact h2
        rw [zB (by rw [← e];exact h1.2.1)] at h4
        have h5:l[ix l x.Tok]'(by rw [← e];exact h1.2.1)=y:=zD h4
        rw [h5] at h3
        exact ht (h1.1.symm.trans h3)
      exact (Abc ok' (by rw [Qy l x hj];exact hf) h1.1).2
    | none =>
      have h1:=(Wn hf).2
      cases hf':fnd (Af9 l x) t with
      | none=>rfl
      | some y =>
        have h2:=M7 hf'
        have h3:(Af9 l x)[ix (Af9 l x) t]? = some y:=hf'
        by_cases e:ix (Af9 l x) t=ix l x.Tok
        · rw [e,Af3] at h3
          cases h3
          exact absurd h2.1.symm ht
        · rw [Qy l x e] at h3
          exact absurd h2.1 (h1 _ _ h3)
def Agb (l:List E12) (t:Int):List E12:=l.take (ix l t)++l.drop (ix l t+1)
theorem Ali {l:List E12} {t:Int} (h:ix l t<l.length) (j:Nat):(Agb l t)[j]? = if j<ix l t then l[j]? else l[j+1]? := by
  unfold Agb
  have hl:(l.take (ix l t)).length=ix l t:=by rw [zL];omega
  split
  · rw [zK (by rw [hl];assumption),yN,if_pos (by assumption)]
  · rw [zX (by rw [hl];omega),hl,yG]
    congr 1;omega
theorem W0 {l:List E12} {t:Int} (h:ix l t<l.length) {j:Nat} {y:E12} (hy:(Agb l t)[j]? = some y):∃ q,q≠ix l t∧l[q]? = some y∧(q=if j<ix l t then j else j+1):=by
  rw [Ali h] at hy
  by_cases c:j<ix l t
  · rw [if_pos c] at hy ⊢;exact ⟨j,by omega,hy,rfl⟩
  · rw [if_neg c] at hy ⊢;exact ⟨j+1,by omega,hy,rfl⟩
theorem Arf {l:List E12} (ok:OkT l) {t:Int} (h:ix l t<l.length):OkT (Agb l t):=by
  refine ⟨fun y hy=>?_,fun i j y z hy hz hyz=>?_,?_⟩
  · obtain ⟨j,hj⟩:=List.getElem?_of_mem hy
    obtain ⟨q,_,hq,_⟩:=W0 h hj
    exact ok.e y (zI hq)
  · obtain ⟨q,h1,hq,e1⟩:=W0 h hy
    obtain ⟨q',h2,hq',e2⟩:=W0 h hz
    have:=ok.u q q' y z hq hq' hyz
    by_cases c1:i<ix l t <;> by_cases c2:j<ix l t
    · rw [if_pos c1] at e1;rw [if_pos c2] at e2;omega
    · rw [if_pos c1] at e1;rw [if_neg c2] at e2;omega
    · rw [if_neg c1] at e1;rw [if_pos c2] at e2;omega
    · rw [if_neg c1] at e1;rw [if_neg c2] at e2;omega
  · unfold Agb
    have:=ok.n
    rw [zH,zL,yD];omega
theorem At4 {l:List E12} {t:Int} (h:ix l t<l.length):(Agb l t).length=l.length-1:=by
  unfold Agb
  rw [zH,zL,yD];omega
theorem Atl {l:List E12} (ok:OkT l) {t:Int} (h:ix l t<l.length) (s:Int):fnd (Agb l t) s=if s=t then none else fnd l s:=by
  have ok':=Arf ok h
  by_cases hs:s=t
  · rw [if_pos hs]
    cases hf:fnd (Agb l t) s with
    | none=>rfl
    | some y =>
      have h2:=M7 hf
      obtain ⟨q,h3,hq,_⟩:=W0 h (show (Agb l t)[ix (Agb l t) s]? = some y from hf)
      exact absurd (Abc ok hq (h2.1.trans hs)).1.symm h3
  · rw [if_neg hs]
    cases hf:fnd l s with
    | some y =>
      have h1:=M7 hf
      have hne:ix l s≠ix l t:=fun e=>by
        have h3:=Af2 h
        have h4:l[ix l t]? = some y:=by rw [← e];exact hf
        rw [zB h] at h4
        rw [zD h4] at h3
        exact hs (h1.1.symm.trans h3)
      refine (Abc ok' (i:=if ix l s<ix l t then ix l s else ix l s-1) ?_ h1.1).2
      rw [Ali h]
      by_cases c:ix l s<ix l t
      · rw [if_pos c,if_pos c];exact hf
      · rw [if_neg c,if_neg (by omega),show ix l s-1+1=ix l s by omega];exact hf
    | none =>
      have h1:=(Wn hf).2
      cases hf':fnd (Agb l t) s with
      | none=>rfl
      | some y =>
        have h2:=M7 hf'
        obtain ⟨q,_,hq,_⟩:=W0 h (show (Agb l t)[ix (Agb l t) s]? = some y from hf')
        exact absurd h2.1 (h1 _ _ hq)
theorem Ay8 (l:List E12) (x:E12) (hl:l.length≤1000000):Mm l (ix l x.Tok:Int) x=some (Af9 l x):=by
  unfold Mm Af9
  rw [U7 _ (by omega)]
  simp only [zA]
  have:=Ag1 l x.Tok
  by_cases h:ix l x.Tok<l.length
  · rw [if_neg (by rw [decide_eq_true_eq];omega),if_pos h,Bn,zB h,zR]
    rfl
  · rw [if_pos (decide_eq_true (by omega)),if_neg h,if_pos (by simp only [yT,jP];omega)]
theorem Asm {l:List E12} (ok:OkT l) (x:E12):C4 ⟨l⟩ x=some (if 32≤ix l x.Tok then (⟨[]⟩,8) else (⟨Af9 l x⟩,0)):=by
  unfold C4
  have hn:=ok.n
  rw [Tw l _ (by omega)]
  simp only [zA]
  by_cases h:32≤ix l x.Tok
  · rw [if_pos (decide_eq_true (by omega)),if_pos h]
  · rw [if_neg (by rw [decide_eq_true_eq];omega),if_neg h,Ay8 l x (by omega)]
    rfl
def OpR (l:List E12) (what tok att ts:Int) (l':List E12):Prop :=
  OkT l'∧(∀ t,t≠tok→fnd l' t=fnd l t)∧0≤att∧att≤65535 ∧
    ((what=0∧(∀ x,fnd l tok=some x→x.State≠2∧x.Attempt<att)∧fnd l' tok=some ⟨tok,att,1,0⟩) ∨
     (what=2∧(∃ x,fnd l tok=some x∧x.State=1∧x.Attempt=att)∧fnd l' tok=some ⟨tok,att,2,ts⟩) ∨
     (what=4∧(∃ x,fnd l tok=some x∧x.State=2∧l'=l)) ∨
     (what=4∧(∀ x,fnd l tok=some x→x.State≠2)∧∃ b,fnd l' tok=some ⟨tok,b,3,0⟩∧b=(match fnd l tok with | some x=>max x.Attempt att | none=>att)))
theorem Amh {x:E12} (h:sE x=true):0≤x.Tok∧x.Tok≤1099511627776∧0≤x.Attempt∧x.Attempt≤65535∧(x.State=1∨x.State=2∧1≤x.Ts∨x.State=3):=by
  unfold sE at h
  have hN:∀ b:Bool,(sN x.Tok x.Attempt && b)=true→(0≤x.Tok∧x.Tok≤1099511627776∧0≤x.Attempt∧x.Attempt≤65535)∧b=true:=fun b h=>by
    rw [yA] at h;exact ⟨of_decide_eq_true h.1,h.2⟩
  by_cases h1:x.State=1∨x.State=3
  · rw [if_pos h1] at h
    obtain ⟨⟨a,b,c,d⟩,_⟩:=hN _ h
    exact ⟨a,b,c,d,h1.elim .inl (fun h=>.inr (.inr h))⟩
  · rw [if_neg h1] at h
    by_cases h2:x.State=2
    · rw [if_pos h2] at h
      obtain ⟨⟨a,b,c,d⟩,h3⟩:=hN _ h
      exact ⟨a,b,c,d,.inr (.inl ⟨h2,(of_decide_eq_true h3).1⟩)⟩
    · rw [if_neg h2] at h;cases h
theorem As0 {l:List E12} (ok:OkT l) (tok att:Int):∃ l' e,Ii ⟨l⟩ tok att=some (⟨l'⟩,e)∧(e=0→OpR l 0 tok att 0 l') ∧
    (fnd l tok=none→sN tok att=true→e=if l.length=32 then 8 else 0):=by
  unfold Ii
  show ∃ l' e,(C0 ⟨l⟩).bind _=_∧_
  rw [Aey ok,Sd]
  simp only [zA]
  rw [if_neg (by simp)]
  cases hN:sN tok att with
  | false=>exact ⟨[],1,rfl,(fun h=>by cases h),fun _ h=>by cases h⟩
  | true =>
  rw [if_neg (by simp)]
  have hN':0≤tok∧tok≤1099511627776∧0≤att∧att≤65535:=of_decide_eq_true hN
  have hsE:sE (⟨tok,att,1,0⟩:E12)=true:=by unfold sE;rw [if_pos (.inl rfl)];show (sN tok att && _)=true;rw [hN];rfl
  unfold K6
  have hn:=ok.n
  rw [Afd (by omega)]
  simp only [zA]
  have hset:∃ l' e,(C4 ⟨l⟩ ⟨tok,att,1,0⟩).bind (fun v=>some (v.1,v.2))=some (⟨l'⟩,e)∧((∀ x,fnd l tok=some x→x.State≠2∧x.Attempt<att)→e=0→OpR l 0 tok att 0 l')∧(fnd l tok=none→e=if l.length=32 then 8 else 0):=by
    rw [Asm ok]
    simp only [zA]
    by_cases h:32≤ix l tok
    · rw [if_pos (show 32≤ix l (⟨tok,att,1,0⟩:E12).Tok from h)]
      exact ⟨[],8,rfl,(fun _ h=>by cases h),(fun _=>by rw [if_pos (by have:=Ag1 l tok;omega)])⟩
    · rw [if_neg (show ¬ 32≤ix l (⟨tok,att,1,0⟩:E12).Tok from h)]
      have hf:=Ahc ok hsE (show ix l (⟨tok,att,1,0⟩:E12).Tok<32 by show ix l tok<32;omega)
      refine ⟨_,0,rfl,fun hx _=>⟨Ahv ok hsE (by show ix l tok<32;omega),(fun t ht=>by rw [hf t,if_neg ht]),hN'.2.2.1,hN'.2.2.2,.inl ⟨rfl,hx,by rw [hf tok,if_pos rfl]⟩⟩,fun hno=>by rw [if_neg (by have:=(Wn hno).1;omega)]⟩
  cases hf:fnd l tok with
  | none =>
    rw [if_neg (by simp),if_neg (by simp)]
    obtain ⟨l',e,h1,h2,h3⟩:=hset
    exact ⟨l',e,h1,h2 (by rw [hf];intro x h;cases h),fun _ _=>h3 hf⟩
  | some x =>
    dsimp only
    rw [if_pos rfl]
    by_cases h2:x.State=2
    · rw [if_pos (decide_eq_true h2)]
      exact ⟨[],7,rfl,(fun h=>by cases h),fun h=>by cases h⟩
    rw [if_neg (by simpa using h2),if_pos rfl]
    by_cases h3:att≤x.Attempt
    · rw [if_pos (decide_eq_true h3)]
      exact ⟨[],14,rfl,(fun h=>by cases h),fun h=>by cases h⟩
    · rw [if_neg (by simpa using h3)]
      obtain ⟨l',e,h4,h5,_⟩:=hset
      exact ⟨l',e,h4,h5 (by rw [hf];rintro y h;cases h;exact ⟨h2,by omega⟩),fun h=>by cases h⟩
theorem Aqj {l:List E12} (ok:OkT l) (tok att ts:Int):∃ l' e,Gn ⟨l⟩ tok att ts=some (⟨l'⟩,e)∧(e=0→OpR l 2 tok att ts l') ∧
    (fnd l tok=some ⟨tok,att,1,0⟩→sTs ts=true→e=0∧ix l' tok<l'.length∧l'.length=l.length):=by
  unfold Gn
  rw [Aey ok,Sd,Aiq]
  simp only [zA]
  rw [if_neg (by simp)]
  have hn:=ok.n
  cases hN:sN tok att with
  | false =>
    refine ⟨[],1,rfl,(fun h=>by cases h),fun h _=>?_⟩
    have:=Amh (ok.e _ (M7 h).2.2)
    exfalso
    have h2:sN tok att=true:=decide_eq_true ⟨this.1,this.2.1,this.2.2.1,this.2.2.2.1⟩
    rw [hN] at h2;cases h2
  | true =>
  rw [if_neg (by simp)]
  have hN':0≤tok∧tok≤1099511627776∧0≤att∧att≤65535:=of_decide_eq_true hN
  cases hT:sTs ts with
  | false=>exact ⟨[],1,rfl,(fun h=>by cases h),fun _ h=>by cases h⟩
  | true =>
  rw [if_neg (by simp)]
  have hsE:sE (⟨tok,att,2,ts⟩:E12)=true:=by
    unfold sE
    rw [if_neg (by rintro (h | h) <;> cases h),if_pos rfl]
    show (sN tok att && sTs ts)=true
    rw [hN,hT];rfl
  unfold Ji
  rw [Afd (by omega)]
  simp only [zA]
  cases hf:fnd l tok with
  | none=>exact ⟨[],14,rfl,(fun h=>by cases h),fun h=>by cases h⟩
  | some x =>
    dsimp only
    have hx:=M7 hf
    by_cases h2:x.State=2
    · rw [if_pos (decide_eq_true h2)]
      exact ⟨[],7,rfl,(fun h=>by cases h),fun h=>by cases h;cases h2⟩
    rw [if_neg (by simpa using h2)]
    by_cases h1:x.State=1
    · rw [if_neg (by simp [h1])]
      by_cases h3:x.Attempt=att
      · rw [if_neg (by simp [h3]),Asm ok]
        simp only [zA]
        have hix:ix l tok<32:=by omega
        rw [if_neg (show ¬ 32≤ix l (⟨tok,att,2,ts⟩:E12).Tok by show ¬ 32≤ix l tok;omega)]
        have hff:=Ahc ok hsE (show ix l (⟨tok,att,2,ts⟩:E12).Tok<32 from hix)
        refine ⟨_,0,rfl,fun _=>⟨Ahv ok hsE hix,(fun t ht=>by rw [hff t,if_neg ht]),hN'.2.2.1,hN'.2.2.2,.inr (.inl ⟨rfl,⟨x,hf,h1,h3⟩,by rw [hff tok,if_pos rfl]⟩)⟩,fun _ _=>⟨rfl,?_,?_⟩⟩
        · have h4:fnd (Af9 l ⟨tok,att,2,ts⟩) tok=some ⟨tok,att,2,ts⟩:=by rw [hff tok,if_pos rfl]
          exact (M7 h4).2.1
        · unfold Af9
          rw [if_pos (show ix l (⟨tok,att,2,ts⟩:E12).Tok<l.length from hx.2.1),xH]
      · rw [if_pos (by simpa using h3)]
        exact ⟨[],14,rfl,(fun h=>by cases h),fun h=>by cases h;exact absurd rfl h3⟩
    · rw [if_pos (by simpa using h1)]
      exact ⟨[],14,rfl,(fun h=>by cases h),fun h=>by cases h;exact absurd rfl h1⟩
theorem Ab8 {l:List E12} (ok:OkT l) (tok att:Int):∃ l' n e,Cq ⟨l⟩ tok att=some (⟨l'⟩,n,e)∧(e=0→OpR l 4 tok att 0 l') ∧
    (∀ x,fnd l tok=some x→x.State=2→(e=0∧n=x.Ts)∨e=1)∧(e=0→n≤0→∀ x,fnd l tok=some x→x.State≠2)∧(fnd l tok=none→sN tok att=true→l.length=32→e=8)∧(n=0∨∃ x,fnd l tok=some x∧x.State=2):=by
  unfold Cq
  rw [Aey ok,Sd]
  simp only [zA]
  rw [if_neg (by simp)]
  have hn:=ok.n
  cases hN:sN tok att with
  | false=>exact ⟨[],0,1,rfl,(fun h=>by cases h),(fun _ _ _=>.inr rfl),(fun h=>by cases h),(fun _ h=>by cases h),.inl rfl⟩
  | true =>
  rw [if_neg (by simp)]
  have hN':0≤tok∧tok≤1099511627776∧0≤att∧att≤65535:=of_decide_eq_true hN
  unfold Ld
  rw [Afd (by omega)]
  simp only [zA]
  have hgo:∀ b:Int,0≤b→b≤65535→∃ l' e,(C4 ⟨l⟩ ⟨tok,b,3,0⟩).bind (fun v=>some (v.1,(0:Int),v.2))=some (⟨l'⟩,0,e)∧(e=0→OkT l'∧(∀ t,t≠tok→fnd l' t=fnd l t)∧fnd l' tok=some ⟨tok,b,3,0⟩)∧(fnd l tok=none→l.length=32→e=8):=by
    intro b h0 h1
    have hsE:sE (⟨tok,b,3,0⟩:E12)=true:=by
      unfold sE
      rw [if_pos (.inr rfl)]
      show (sN tok b && _)=true
      have:sN tok b=true:=decide_eq_true ⟨hN'.1,hN'.2.1,h0,h1⟩
      rw [this];rfl
    rw [Asm ok]
    simp only [zA]
    by_cases h:32≤ix l tok
    · rw [if_pos (show 32≤ix l (⟨tok,b,3,0⟩:E12).Tok from h)]
      exact ⟨[],8,rfl,(fun h=>by cases h),fun _ _=>rfl⟩
    · rw [if_neg (show ¬ 32≤ix l (⟨tok,b,3,0⟩:E12).Tok from h)]
      have hff:=Ahc ok hsE (show ix l (⟨tok,b,3,0⟩:E12).Tok<32 by show ix l tok<32;omega)
      exact ⟨_,0,rfl,fun _=>⟨Ahv ok hsE (by show ix l tok<32;omega),(fun t ht=>by rw [hff t,if_neg ht]),by rw [hff tok,if_pos rfl]⟩,fun hno h32=>by have:=(Wn hno).1;omega⟩
  cases hf:fnd l tok with
  | none =>
    dsimp only
    rw [if_neg (by decide)]
    have he:(if att > e00.Attempt then att else e00.Attempt)=att:=by show (if att > 0 then att else 0)=att;split <;> omega
    rw [he]
    obtain ⟨l',e,h1,h2,h3⟩:=hgo att hN'.2.2.1 hN'.2.2.2
    exact ⟨l',0,e,h1,fun h=>⟨(h2 h).1,(h2 h).2.1,hN'.2.2.1,hN'.2.2.2,.inr (.inr (.inr ⟨rfl,(by rw [hf];intro x h;cases h),att,(h2 h).2.2,by rw [hf]⟩))⟩,(fun x h=>by cases h),(fun _ _ x h=>by cases h),(fun _ _=>h3 hf),.inl rfl⟩
  | some x =>
    dsimp only
    have hx:=M7 hf
    have hsx:=Amh (ok.e _ hx.2.2)
    by_cases h2:x.State=2
    · rw [if_pos (decide_eq_true h2)]
      refine ⟨l,x.Ts,0,rfl,fun _=>⟨ok,fun _ _=>rfl,hN'.2.2.1,hN'.2.2.2,.inr (.inr (.inl ⟨rfl,x,hf,h2,rfl⟩))⟩,(fun y h _=>by cases h;exact .inl ⟨rfl,rfl⟩),fun _ h0 y h=>?_,(fun h=>by cases h),.inr ⟨x,rfl,h2⟩⟩
      rcases hsx.2.2.2.2 with h | h | h
      · rw [h] at h2;cases h2
      · omega
      · rw [h] at h2;cases h2
    · rw [if_neg (by simpa using h2)]
      have he:(if att > x.Attempt then att else x.Attempt)=max x.Attempt att:=by split <;> omega
      rw [he]
      obtain ⟨l',e,h1,h3,_⟩:=hgo (max x.Attempt att) (by omega) (by omega)
      exact ⟨l',0,e,h1,fun h=>⟨(h3 h).1,(h3 h).2.1,hN'.2.2.1,hN'.2.2.2,.inr (.inr (.inr ⟨rfl,(by rw [hf];rintro y h;cases h;exact h2),_,(h3 h).2.2,by rw [hf]⟩))⟩,(fun y h hy=>by cases h;exact absurd hy h2),(fun _ _ y h=>by cases h;exact h2),(fun h=>by cases h),.inl rfl⟩
theorem Am4 {l:List E12} (ok:OkT l) (tok:Int):∃ l' e,Gh ⟨l⟩ tok=some (⟨l'⟩,e)∧(e=0→OkT l'∧(∀ t,t≠tok→fnd l' t=fnd l t)∧fnd l' tok=none∧l'.length=l.length-1∧1≤l.length) ∧
    (∀ x,fnd l tok=some x→(x.State=1→e=7)∧(x.State=2→e=0)):=by
  unfold Gh
  show ∃ l' e,(C0 ⟨l⟩).bind _=_∧_
  rw [Aey ok,Sd]
  simp only [zA]
  rw [if_neg (by simp)]
  have hn:=ok.n
  cases hN:sN tok 0 with
  | false =>
    refine ⟨[],1,rfl,(fun h=>by cases h),fun x h=>?_⟩
    have:=Amh (ok.e _ (M7 h).2.2)
    rw [(M7 h).1] at this
    exfalso
    have h2:sN tok 0=true:=decide_eq_true ⟨this.1,this.2.1,xU _,by decide⟩
    rw [hN] at h2;cases h2
  | true =>
  rw [if_neg (by simp)]
  unfold Jc
  rw [Afd (by omega)]
  simp only [zA]
  cases hf:fnd l tok with
  | none=>exact ⟨[],6,rfl,(fun h=>by cases h),fun x h=>by cases h⟩
  | some x =>
    dsimp only
    have hx:=M7 hf
    rw [if_neg (by simp)]
    by_cases h1:x.State=1
    · rw [if_pos (decide_eq_true h1)]
      exact ⟨[],7,rfl,(fun h=>by cases h),fun y h=>by cases h;exact ⟨fun _=>rfl,fun h2=>by rw [h1] at h2;cases h2⟩⟩
    rw [if_neg (by simpa using h1),Tw l tok (by omega)]
    simp only [zA]
    rw [Aaq (by omega) (by omega) (by omega)]
    simp only [zA]
    rw [Cb (by omega) (by omega),Aaq (by omega) (by omega) (by omega)]
    simp only [zA]
    have e1:(l.drop (0:Int).toNat).take ((ix l tok:Int).toNat-(0:Int).toNat)=l.take (ix l tok):=by simp
    have e2:(l.drop ((ix l tok:Int)+1).toNat).take ((l.length:Int).toNat-((ix l tok:Int)+1).toNat)=l.drop (ix l tok+1):=by
      rw [show ((ix l tok:Int)+1).toNat=ix l tok+1 by omega,zR]
      exact y9 (by rw [yD];exact zN _)
    rw [e1,e2]
    have e3:[l.take (ix l tok),l.drop (ix l tok+1)].flatten=Agb l tok:=by simp [Agb]
    have hdl:=At4 (l:=l) (t:=tok) hx.2.1
    rw [U8 _ (by rw [e3,hdl];omega) (by simp),e3]
    simp only [zA]
    have hff:=Atl ok hx.2.1
    exact ⟨_,0,rfl,fun _=>⟨Arf ok hx.2.1,(fun t ht=>by rw [hff t,if_neg ht]),by rw [hff tok,if_pos rfl],hdl,by omega⟩,fun y h=>by cases h;exact ⟨fun h=>absurd h h1,fun _=>rfl⟩⟩
theorem Au6:OkT []:=⟨fun x h=>(by cases h),fun i j x y h=>(by simp at h),by simp⟩
end Go.Proofs.YtkblaobhhoebaaaGreat.Abs
