/-
 What the library's functions compute.
-/
import Derived.Test.YtkblaobhhoebaaaGreatSC14
import Derived.Test.YtkblaobhhoebaaaGreatSD14
set_option linter.unusedVariables false
set_option linter.unusedSimpArgs false
namespace Go.Proofs.YtkblaobhhoebaaaGreat.Abs.st
open Go.Proofs.YtkblaobhhoebaaaGreat.Abs.bf
open Go.Proofs.YtkblaobhhoebaaaGreat.Abs.ss
theorem Vt (x y:UInt8):x<y\/x=y\/y<x:=by
 rcases kI x.toNat y.toNat with h|h|h
 ·exact .inl (xH.2 h)
 ·exact .inr (.inl (UInt8.toNat_inj.1 h))
 ·exact .inr (.inr (xH.2 h))
theorem N6 {x y:UInt8} (h:x<y):¬ y<x:=λh'=>by
 have:=xH.1 h
 have:=xH.1 h'
 omega
theorem Aez {x y z:UInt8} (h:x<y) (h':y<z):x<z:=by
 have h1:=xH.1 h
 have h2:=xH.1 h'
 exact xH.2 (by omega)
theorem Rl:∀ a:List UInt8,Gm a a=0
 | []=>rfl
 | x::xs=>by unfold Gm;rw[if_neg (yZ x),if_neg (yZ x)];exact Rl xs
theorem Uo:∀ a b:List UInt8,Gm a b = -Gm b a
 | [],[]=>rfl
 | [],_::_=>rfl
 | _::_,[]=>rfl
 | x::xs,y::ys=>by
  unfold Gm
  rcases Vt x y with h|h|h
  ·rw[if_pos h,if_neg (N6 h),if_pos h]
  ·subst h
   rw[if_neg (yZ x),if_neg (yZ x),if_neg (yZ x),if_neg (yZ x)];exact Uo xs ys
  ·rw[if_neg (N6 h),if_pos h,if_pos h];rfl
theorem Ua:∀ {a b:List UInt8},Gm a b=0->a=b
 | [],[],_=>rfl
 | [],_::_,h=>by cases h
 | _::_,[],h=>by cases h
 | x::xs,y::ys,h=>by
  unfold Gm at h
  rcases Vt x y with h1|h1|h1
  ·rw[if_pos h1] at h;cases h
  ·subst h1
   rw[if_neg (yZ x),if_neg (yZ x)] at h
   rw[Ua h]
  ·rw[if_neg (N6 h1),if_pos h1] at h;cases h
theorem Of:∀ {a b c:List UInt8},Gm a b<=0->Gm b c<=0->Gm a c<=0/\(Gm a b<0\/Gm b c<0->Gm a c<0)
 | [],b,[],h1,h2=>⟨xU _,λh=>by
   cases b with
   | nil=>rcases h with h | h <;> simp [Gm] at h
   | cons y ys=>simp [Gm] at h2⟩
 | [],_,_::_,_,_=>⟨by simp [Gm],λ_=>by simp [Gm]⟩
 | _::_,[],_,h1,_=>by simp [Gm] at h1
 | _::_,_::_,[],_,h2=>by simp [Gm] at h2
 | x::xs,y::ys,z::zs,h1,h2=>by
  unfold Gm at h1 h2 ⊢
  rcases Vt x y with e1|e1|e1
  ·rcases Vt y z with e2|e2|e2
   ·rw[if_pos (Aez e1 e2)];exact⟨by decide,λ_=>by decide⟩
   ·subst e2;rw[if_pos e1];exact⟨by decide,λ_=>by decide⟩
   ·rw[if_neg (N6 e2),if_pos e2] at h2;exact absurd h2 (by decide)
  ·subst e1
   rw[if_neg (yZ x),if_neg (yZ x)] at h1 ⊢
   rcases Vt x z with e2|e2|e2
   ·rw[if_pos e2];exact⟨by decide,λ_=>by decide⟩
   ·subst e2
    simp only[yZ,if_false] at h2 ⊢
    exact Of h1 h2
   ·rw[if_neg (N6 e2),if_pos e2] at h2;exact absurd h2 (by decide)
  ·rw[if_neg (N6 e1),if_pos e1] at h1;exact absurd h1 (by decide)
theorem Au5 (xs:Keys) (k:List UInt8) (hn:xs.length<=1000000000000000000):O2 xs k=some ((kat xs k:Int),hit xs k):=by
 obtain⟨v,hv,hr⟩:=D2 (f:=D3 xs k) (P:=λs=>∃ i:Nat,s=(i:Int)/\i<=xs.length/\∀ j y,j<i->xs[j]? = some y->Gm y k<0) (μ:=λs=>xs.length-s.toNat)
  (R:=λv=>match v with | .inl r=>r=(kat xs k:Int)/\kat xs k<xs.length | .inr _=>kat xs k=xs.length) (by
  rintro _ ⟨i,rfl,h1,h2⟩
  unfold D3 Eg
  by_cases hi:i<xs.length
  ·have e:=zB hi
   rw[if_pos (decide_eq_true (by omega)),Bo,e]
   simp only[zA,Aen]
   by_cases hc:0<=Gm xs[i] k
   ·right;right
    rw[if_pos (decide_eq_true hc)]
    have ea:=At4 e hc h2
    exact⟨_,rfl,by rw[ea],by rw[ea];exact hi⟩
   ·left
    rw[if_neg (by rw[decide_eq_true_eq];exact hc)]
    refine⟨_,rfl,⟨i+1,by rw[Cd (by omega) (by omega)];rfl,hi,λj y hj hy=>?_⟩,by rw[Cd (by omega) (by omega)];omega⟩
    rcases jR.1 hj with h|rfl
    ·exact h2 j y h hy
    ·rw[e] at hy;cases hy;omega
  ·right;left
   rw[if_neg (by rw[decide_eq_true_eq];omega)]
   refine⟨_,rfl,?_⟩
   have:i=xs.length:=by omega
   subst this
   exact Aj9 h2) fuel 0 ⟨0,rfl,zX _,λj y hj=>absurd hj (zR _)⟩ (Co (by show xs.length-0<=_;omega))
 unfold O2 Hm
 rw[hv]
 simp only[zA]
 cases v with
 | inl r =>
  obtain⟨rfl,hlt⟩:r=(kat xs k:Int)/\kat xs k<xs.length:=hr
  simp only[zA]
  rw[if_neg (by rw[decide_eq_true_eq];omega),Bo,zB hlt]
  simp only[zA,Fs]
  unfold hit
  rw[zB hlt]
  rfl
 | inr u =>
  have e:kat xs k=xs.length:=hr
  unfold Fv
  simp only[zA]
  rw[if_pos (by decide)]
  unfold hit
  rw[e]
  simp
theorem Avr {xs:Keys} {k x:List UInt8}:x∈ins xs k↔x=k\/x∈xs:=by
 unfold ins
 by_cases h:hit xs k=true
 ·rw[if_pos h]
  constructor
  ·exact .inr
  ·rintro(rfl|h')
   ·exact Ajw h
   ·exact h'
 ·rw[if_neg h]
  have e:x∈xs↔x∈xs.take (kat xs k)\/x∈xs.drop (kat xs k):=by
   rw[<- yH,xK]
  rw[yH,yM,e]
  constructor
  ·rintro(h1|rfl|h1)
   ·exact .inr (.inl h1)
   ·exact .inl rfl
   ·exact .inr (.inr h1)
  ·rintro(rfl|h1|h1)
   ·exact .inr (.inl rfl)
   ·exact .inl h1
   ·exact .inr (.inr h1)
def vOk (v:A8):Bool:=decide (1<=v.Ts)&&decide (v.Ts<=1099511627776)&&decide ((v.Val.length:Int)<=32) && !(v.Del&&decide (0<(v.Val.length:Int)))
theorem Axp (v:A8):Gp v=some (vOk v):=by
 unfold Gp vOk
 cases h1:decide (1<=v.Ts) <;> cases h2:decide (v.Ts<=1099511627776) <;> cases h3:decide ((v.Val.length:Int)<=32) <;> cases h4:v.Del <;> simp
structure OkC (l:List A8):Prop where
 each:∀ (i:Nat) (v:A8),l[i]? = some v->vOk v=true
 asc:∀ (i:Nat) (v w:A8),l[i]? = some v->l[i+1]? = some w->v.Ts<w.Ts
def OkN (l:List A8) (n:Nat) (b:Int):Prop :=
 (∀ (i:Nat) (v:A8),i<n->l[i]? = some v->vOk v=true)/\(∀ (i:Nat) (v w:A8),i+1<n->l[i]? = some v->l[i+1]? = some w->v.Ts<w.Ts)/\∀ (k:Nat) (v:A8),n=k+1->l[k]? = some v->v.Ts<b
theorem Ae1 {c:Am} (h:c.L.length<=1000):Amg c=some (S4 c.L c.L.length):=if_pos (by omega)
theorem Anw (l:List A8):∀ (n:Nat) (b:Int),n<=l.length->∃ e r,Tj J5 (S4 l n) b=some e/\Ag2 Mw M0 (λ_ _=>none) e=some r/\(r=true↔OkN l n b)
 | 0,b,_=>⟨_,_,rfl,rfl,by simp [OkN]⟩
 | n+1,b,h=>by
  rw[S8 (by omega)]
  have hg:=zB (show n<l.length by omega)
  generalize l[n]'(by omega)=v at hg
  unfold Tj
  unfold J5
  dsimp only
  rw[Axp,zA]
  cases hs:vOk v with
  | false =>
   refine⟨_,false,rfl,rfl,?_⟩
   simp only[kO,false_iff]
   intro hk
   rw[hk.1 n v (zG n) hg] at hs
   cases hs
  | true =>
   by_cases hb:b<=v.Ts
   ·rw[if_neg (by simp),if_pos (decide_eq_true hb)]
    refine⟨_,false,rfl,rfl,?_⟩
    simp only[kO,false_iff]
    intro hk
    have:=hk.2.2 n v rfl hg
    omega
   ·rw[if_neg (by simp),if_neg (by simpa using hb)]
    obtain⟨e,r,h1,h2,h3⟩:=Anw l n v.Ts (by omega)
    refine⟨e,r,h1,h2,h3.trans ⟨λhk=>⟨λi u hi hu=>?_,λi u w hi hu hw=>?_,λk u hk2 hu=>?_⟩,λhk=>⟨λi u hi hu=>hk.1 i u (by omega) hu,λi u w hi hu hw=>hk.2.1 i u w (by omega) hu hw,λk u hk2 hu=>?_⟩⟩⟩
    ·by_cases e:i=n
     ·subst e;rw[hg] at hu;cases hu;exact hs
     ·exact hk.1 i u (by omega) hu
    ·by_cases e:i+1=n
     ·subst e;rw[hg] at hw;cases hw;exact hk.2.2 i u rfl hu
     ·exact hk.2.1 i u w (by omega) hu hw
    ·have:k=n:=by omega
     subst this
     rw[hg] at hu;cases hu;omega
    ·subst hk2
     exact hk.2.1 k u v (by omega) hu hg
theorem Awk (l:List A8):OkN l l.length 1099511627777↔OkC l:=by
 constructor
 ·intro h
  exact⟨λi v hv=>h.1 i v (zC.1 hv).1 hv,λi v w hv hw=>h.2.1 i v w (zC.1 hw).1 hv hw⟩
 ·intro h
  refine⟨λi v _ hv=>h.each i v hv,λi v w _ hv hw=>h.asc i v w hv hw,λk v _ hv=>?_⟩
  have:=h.each k v hv
  unfold vOk at this
  simp only[yD,decide_eq_true_eq] at this
  omega
theorem Aaf {c:Am} (h:c.L.length<=1000):(E9 c=some true/\OkC c.L)\/(E9 c=some false/\¬ OkC c.L):=by
 obtain⟨e,r,h1,h2,h3⟩:=Anw c.L c.L.length 1099511627777 (zN _)
 have:E9 c=some r:=by
  unfold E9
  rw[Ae1 h,zA,h1,zA,h2]
 rw[Awk] at h3
 cases r with
 | true=>exact .inl ⟨this,h3.1 rfl⟩
 | false=>exact .inr ⟨this,λhk=>by have:=h3.2 hk;cases this⟩
def plc (l:List A8) (t:Int):Nat->Int
 | 0=>-1
 | n+1=>match l[n]? with
  | some v=>if v.Ts<=t then(n:Int) else plc l t n
  | none=>-1
theorem Aom (l:List A8) (t:Int):∀ (n:Nat) (s:Int),n<=l.length->∃ e,Tj (Jc t) (S4 l n) s=some e/\Ag2 M1 Mr (λ_ _=>none) e=some (plc l t n)
 | 0,s,_=>⟨_,rfl,rfl⟩
 | n+1,s,h=>by
  rw[S8 (by omega)]
  have hg:=zB (show n<l.length by omega)
  generalize l[n]'(by omega)=v at hg
  unfold Tj Jc plc
  rw[hg]
  dsimp only
  by_cases ht:v.Ts<=t
  ·rw[if_pos (decide_eq_true ht),if_pos ht]
   exact⟨_,rfl,rfl⟩
  ·rw[if_neg (by simpa using ht),if_neg ht]
   exact Aom l t n s (by omega)
theorem Ajh {c:Am} (h:c.L.length<=1000) (t:Int):Kw c t=some (plc c.L t c.L.length):=by
 obtain⟨e,h1,h2⟩:=Aom c.L t c.L.length 0 (zN _)
 unfold Kw
 rw[Ae1 h,zA,h1,zA,h2]
theorem Abb (l:List A8) (t:Int):∀ n,n<=l.length -> -1<=plc l t n/\plc l t n<n/\(∀ k v,plc l t n=((k:Nat):Int)->l[k]? = some v->v.Ts<=t)/\∀ (j:Nat) v,plc l t n<j->j<n->l[j]? = some v->t<v.Ts
 | 0,_=>⟨by show(-1:Int) <= -1;omega,by show(-1:Int)<((0:Nat):Int);omega,λk v h=>by have h':(-1:Int)=k:=h;omega,λj v _ h=>by omega⟩
 | n+1,h=>by
  have hg:=zB (show n<l.length by omega)
  generalize l[n]'(by omega)=u at hg
  obtain⟨h1,h2,h3,h4⟩:=Abb l t n (by omega)
  unfold plc
  rw[hg]
  dsimp only
  by_cases ht:u.Ts<=t
  ·rw[if_pos ht]
   refine⟨by omega,by omega,λk v hk hv=>?_,λj v hj1 hj2 hv=>by omega⟩
   have:k=n:=by omega
   subst this
   rw[hg] at hv;cases hv;exact ht
  ·rw[if_neg ht]
   refine⟨h1,by omega,h3,λj v hj1 hj2 hv=>?_⟩
   by_cases e:j=n
   ·subst e;rw[hg] at hv;cases hv;omega
   ·exact h4 j v hj1 (by omega) hv
theorem Avz {c:Am} (h:c.L.length<=1000) {t:Int} (hp:plc c.L t c.L.length = -1):Ga c t=some (⟨0,[],false⟩,false):=by
 unfold Ga
 rw[Ajh h,hp]
 rfl
theorem Av4 {c:Am} (h:c.L.length<=1000) {t:Int} {k:Nat} {v:A8} (hp:plc c.L t c.L.length=k) (hv:c.L[k]? = some v):Ga c t=some (v,true):=by
 unfold Ga
 rw[Ajh h,hp,zA,if_neg (by simp only[decide_eq_true_eq];omega),Bo,hv]
 rfl
theorem Ali {c:Am} {t:Int} {v:A8} {b:Bool} (h:Ga c t=some (v,b)):Ih c t=some (if b && !v.Del then(v.Val,true) else([],false)):=by
 unfold Ih Mo
 rw[h,zA]
 cases b <;> cases v.Del <;> simp
def Rm (l:List A8):Int:=match l[l.length-1]? with
 | some v=>v.Ts
 | none=>0
theorem Apn {c:Am} (h:c.L.length<=1000):K9 c=some (Rm c.L):=by
 unfold K9 Rm
 rw[Ae1 h,zA]
 cases hn:c.L.length with
 | zero =>
  have:c.L=[]:=zY hn
  rw[this]
  rfl
 | succ n =>
  rw[S8 (by omega),jQ,zB (show n<c.L.length by omega)]
  rfl
theorem Akd {c:Am} (h:c.L.length<=1000) {v:A8} (hk:OkC c.L) (hv:vOk v=true) (hl:Rm c.L<v.Ts):M3 c v=some (⟨c.L++[v]⟩,0):=by
 unfold M3
 rcases Aaf (c:=⟨c.L⟩) h with⟨h1,h2⟩|⟨h1,h2⟩
 ·rw[h1,zA,Axp,zA,hv]
  unfold Mv
  have hn:¬ (decide (v.Ts<=Rm c.L)=true):=by rw[decide_eq_true_eq];omega
  rw[Apn h,zA,if_neg hn,Vx _ (by simp;omega) (by simp)]
  simp
 ·exact absurd hk h2
def gone (l:List A8) (t:Int):Nat:=match l[(plc l t l.length).toNat]? with
 | some v=>if plc l t l.length<0 then 0 else if v.Del then(plc l t l.length).toNat+1 else(plc l t l.length).toNat
 | none=>0
theorem A0m {c:Am} (h:c.L.length<=1000) (hk:OkC c.L) (t:Int):Kv c t=some ⟨c.L.drop (gone c.L t)⟩:=by
 obtain⟨p1,p2,_,_⟩:=Abb c.L t c.L.length (zN _)
 unfold Kv gone
 rw[Ajh h,zA]
 by_cases h0:plc c.L t c.L.length<0
 ·rw[if_pos (decide_eq_true h0)]
  split
  ·rw[if_pos h0];rfl
  ·rfl
 ·rw[if_neg (by simpa using h0)]
  rcases Aaf (c:=⟨c.L⟩) h with⟨h1,h2⟩|⟨h1,h2⟩
  ·rw[h1,zA,if_neg (by simp)]
   unfold Ke
   have hg:=zB (show(plc c.L t c.L.length).toNat<c.L.length by omega)
   generalize c.L[(plc c.L t c.L.length).toNat]'(by omega)=v at hg
   rw[Az5 (by omega) hg,zA,hg]
   dsimp only
   rw[if_neg h0]
   have key:∀ j:Nat,j<=c.L.length->Fl c (j:Int)=some ⟨c.L.drop j⟩:=λj hj=>by
    unfold Fl
    rw[Abl (by omega) (by omega) (by omega),zA]
    have:(c.L.drop ((j:Int)).toNat).take (((c.L.length:Int)).toNat-((j:Int)).toNat)=c.L.drop j:=by
     rw[zT,zT]
     exact yX (by simp)
    rw[this,Wu _ (by simp;omega)]
    rfl
   cases hd:v.Del with
   | true =>
    rw[if_pos rfl,if_pos rfl,Cd (by omega) (by omega)]
    have:=key ((plc c.L t c.L.length).toNat+1) (by omega)
    rw[show(((plc c.L t c.L.length).toNat+1:Nat):Int)=plc c.L t c.L.length+1 by omega] at this
    exact this
   | false =>
    rw[if_neg (by simp),if_neg (by simp)]
    have:=key ((plc c.L t c.L.length).toNat) (by omega)
    rw[show(((plc c.L t c.L.length).toNat:Nat):Int)=plc c.L t c.L.length by omega] at this
    exact this
  ·exact absurd hk h2
theorem Am8:OkC []:=⟨λi v h=>by simp at h,λi v w h=>by simp at h⟩
theorem Akc {l:List A8} (h:OkC l) {v:A8} (hv:vOk v=true) (hl:Rm l<v.Ts):OkC (l++[v]):=by
 refine⟨λi u hu=>?_,λi u w hu hw=>?_⟩
 ·by_cases hi:i<l.length
  ·rw[zL hi] at hu;exact h.each i u hu
  ·rw[yA (by omega)] at hu
   cases hj:i-l.length with
   | zero=>rw[hj] at hu;cases hu;exact hv
   | succ j=>rw[hj] at hu;simp at hu
 ·by_cases hi:i+1<l.length
  ·rw[zL (by omega)] at hu
   rw[zL hi] at hw
   exact h.asc i u w hu hw
  ·by_cases hi2:i<l.length
   ·rw[zL hi2] at hu
    rw[yA (by omega),show i+1-l.length=0 by omega] at hw
    cases hw
    unfold Rm at hl
    rw[show l.length-1=i by omega,hu] at hl
    exact hl
   ·rw[yA (by omega)] at hw
    cases hj:i+1-l.length with
    | zero=>omega
    | succ j=>rw[hj] at hw;simp at hw
theorem Atd {l:List A8} (h:OkC l) (n:Nat):OkC (l.drop n):=by
 refine⟨λi v hv=>?_,λi v w hv hw=>?_⟩
 ·rw[yJ] at hv;exact h.each _ v hv
 ·rw[yJ] at hv hw;exact h.asc (n+i) v w hv (by rw[jF];exact hw)
def pc (l:List A8) (t:Int):Nat:=(plc l t l.length+1).toNat
theorem A4c (l:List A8) (t:Int):pc l t<=l.length:=by
 obtain⟨h1,h2,_,_⟩:=Abb l t l.length (zN _)
 unfold pc;omega
theorem Auf (l:List A8) (t:Int):plc l t l.length=(pc l t:Int)-1:=by
 obtain⟨h1,h2,_,_⟩:=Abb l t l.length (zN _)
 unfold pc;omega
theorem at0 {c:Am} (h:c.L.length<=1000) {t:Int} (hp:pc c.L t=0):Ga c t=some (⟨0,[],false⟩,false) :=
 Avz h (by rw[Auf,hp];rfl)
theorem at1 {c:Am} (h:c.L.length<=1000) {t:Int} {v:A8} (hp:0<pc c.L t) (hv:c.L[pc c.L t-1]? = some v):Ga c t=some (v,true) :=
 Av4 h (by rw[Auf];omega) hv
theorem Aul {α:Type} (xs:List α) (p:Nat->α->Bool) (f:Int->Option (LR Int Unit Bool)) (hl:xs.length<=1000000000000000000)
  (h:∀ (i:Nat) x,xs[i]? = some x->f (i:Int)=some (if p i x then .ret false else .cont ((i+1:Nat):Int))) (hend:f (xs.length:Int)=some (.brk ())) :
  (∃ i x,xs[i]? = some x/\p i x=true/\Iz f fuel 0=some (.inl false))\/((∀ (i:Nat) x,xs[i]? = some x->p i x=false)/\Iz f fuel 0=some (.inr ())):=by
 obtain⟨b,hb,hr⟩:=D2 (f:=f) (P:=λs=>∃ i:Nat,i<=xs.length/\s=(i:Int)/\∀ j x,j<i->xs[j]? = some x->p j x=false) (μ:=λs=>xs.length-s.toNat)
  (R:=λr=>(r=.inl false/\∃ i x,xs[i]? = some x/\p i x=true)\/(r=.inr ()/\∀ (i:Nat) x,xs[i]? = some x->p i x=false)) (by
   rintro _ ⟨i,hi,rfl,hp⟩
   rcases zO i xs.length with hlt|hge
   ·have hx:=zB hlt
    have hf:=h i _ hx
    cases hpx:p i xs[i] with
    | true =>
     rw[hpx,if_pos rfl] at hf
     exact .inr (.inr ⟨false,hf,.inl ⟨rfl,i,_,hx,hpx⟩⟩)
    | false =>
     rw[hpx,if_neg (by decide)] at hf
     refine .inl ⟨_,hf,⟨i+1,hlt,rfl,λj x hj hx'=>?_⟩,by simp only[zT];omega⟩
     rcases jR.1 hj with h'|rfl
     ·exact hp j x h' hx'
     ·rw[hx] at hx';cases hx';exact hpx
   ·have e:i=xs.length:=by omega
    subst e
    exact .inr (.inl ⟨(),hend,.inr ⟨rfl,λj x hx=>hp j x (zC.1 hx).1 hx⟩⟩)) fuel 0 ⟨0,zX _,rfl,λj x hj=>absurd hj (zR _)⟩ (Co (by show xs.length-0<=_;omega))
 rcases hr with⟨rfl,i,x,hx,hp⟩|⟨rfl,hp⟩
 ·exact .inl ⟨i,x,hx,hp,hb⟩
 ·exact .inr ⟨hp,hb⟩
def kOk (k:List UInt8):Bool:=decide (1<=(k.length:Int))&&decide ((k.length:Int)<=16)
theorem kSane_m (k:List UInt8):Fa k=some (kOk k):=by
 unfold Fa kOk
 by_cases h:1<=(k.length:Int)
 ·rw[if_pos (decide_eq_true h),decide_eq_true h,wM]
 ·rw[if_neg (by rw[decide_eq_true_eq];exact h),decide_eq_false h,Bool.false_and]
theorem Ahj:∀ (xs:Keys),(∀ (j:Nat) x y,xs[j]? = some x->xs[j+1]? = some y->Gm x y<0)->PW xs
 | [],_=>List.Pairwise.nil
 | [_],_=>wG _ _
 | x::y::l,h=>by
  have ih:PW (y::l):=Ahj (y::l) λj a b ha hb=>h (j+1) a b ha hb
  have hxy:Gm x y<0:=h 0 x y rfl rfl
  refine wH.2 ⟨λz hz=>?_,ih⟩
  rcases yM.1 hz with rfl|hz
  ·exact hxy
  ·have:=(wH.1 ih).1 z hz
   exact(Of (kP hxy) (kP this)).2 (.inl hxy)
theorem sorted_conv {xs:Keys} (hn:xs.length<=1000000000000000000) (h:Cr xs=some true):PW xs:=by
 refine Ahj xs ?_
 obtain⟨v,hv,hr⟩:=D2 (f:=Cu xs) (P:=λs=>∃ i:Nat,s=(i:Int)/\1<=i/\∀ (j:Nat) x y,j+1<i->xs[j]? = some x->xs[j+1]? = some y->Gm x y<0) (μ:=λs=>xs.length-s.toNat)
  (R:=λv=>v=.inl false\/(v=.inr ()/\∀ (j:Nat) x y,xs[j]? = some x->xs[j+1]? = some y->Gm x y<0)) (by
  rintro _ ⟨i,rfl,h1,hadj⟩
  unfold Cu
  by_cases hi:i<xs.length
  ·rw[if_pos (decide_eq_true (by omega)),Cd (by omega) (by omega),show(i:Int)-1=((i-1:Nat):Int) from by omega,Bo,Bo,zB hi,zB (show i-1<xs.length by omega)]
   simp only[zA,Aen]
   by_cases hc:0<=Gm xs[i-1] xs[i]
   ·rw[if_pos (decide_eq_true hc)]
    exact .inr (.inr ⟨false,rfl,.inl rfl⟩)
   ·rw[if_neg (by rw[decide_eq_true_eq];exact hc)]
    refine .inl ⟨_,rfl,⟨i+1,by rw[Cd (by omega) (by omega)];rfl,by omega,λj x y hj hx hy=>?_⟩,by rw[Cd (by omega) (by omega)];omega⟩
    rcases zO (j+1) i with h'|h'
    ·exact hadj j x y h' hx hy
    ·have e:j=i-1:=by omega
     subst e
     rw[zB (show i-1<xs.length by omega)] at hx
     rw[show i-1+1=i by omega,zB hi] at hy
     cases hx;cases hy
     omega
  ·right;left
   rw[if_neg (by rw[decide_eq_true_eq];omega)]
   refine⟨_,rfl,.inr ⟨rfl,λj x y hx hy=>hadj j x y ?_ hx hy⟩⟩
   have:=(zC.1 hy).1
   omega) fuel 1 ⟨1,rfl,zN _,λj x y hj=>by omega⟩ (Co (by show xs.length-1<=_;omega))
 unfold Cr at h
 rw[hv] at h
 rcases hr with rfl|⟨rfl,hr⟩
 ·cases h
 ·exact hr
theorem Ux (xs:Keys) (hn:xs.length<=1000000000000000000):∃ b,Et xs=some b/\(b=true↔(∀ k∈xs,kOk k=true)/\PW xs):=by
 unfold Et
 rcases Aul xs (λ_ k=>!kOk k) (Ec xs) hn (λi x hx=>by
  have hlt:=(zC.1 hx).1
  unfold Ec
  rw[if_pos (decide_eq_true (by omega)),Bo,hx,zA,kSane_m,zA]
  cases kOk x with
  | false=>rfl
  | true=>rw[if_neg (by decide),if_neg (by decide),Cd (by omega) (by omega)];rfl) (by
  unfold Ec
  rw[if_neg (by rw[decide_eq_true_eq];omega)]) with⟨i,x,hx,hp,e⟩|⟨hp,e⟩
 ·rw[e]
  refine⟨false,rfl,⟨λh=>(by cases h),λh=>?_⟩⟩
  rw[h.1 x (zJ hx)] at hp
  cases hp
 ·rw[e,zA]
  unfold Ix
  obtain⟨v,hv⟩:=sorted_some xs hn
  rw[hv]
  refine⟨v,rfl,⟨λh=>⟨λk hk=>?_,?_⟩,λh=>?_⟩⟩
  ·obtain⟨i,hi⟩:=wE.1 hk
   have:=hp i k hi
   simpa using this
  ·subst h;exact sorted_conv hn hv
  ·rw[Abf h.2 hn] at hv
   exact(zD hv).symm
structure OkS (K:Keys) (C:List Am) (T:Int) (B:Nat):Prop where
 t0:0<=T
 t1:T<=1099511627776
 cl:C.length=K.length
 ks:∀ k∈K,kOk k=true
 pw:PW K
 cs:∀ c∈C,c.L≠[]/\OkC c.L/\Rm c.L<=T/\c.L.length<=B
theorem ssane_m {K:Keys} {C:List Am} {T:Int} {B:Nat} (h:OkS K C T B) (hB:B<=1000) (hk:K.length<=128):Dh ⟨K,C,T⟩=some true:=by
 unfold Dh
 have h0:=h.t0
 have h1:=h.t1
 have hcl:=h.cl
 rw[if_neg (by rw[decide_eq_true_eq];dsimp only;omega),if_neg (by rw[decide_eq_true_eq];dsimp only;omega),if_neg (by rw[decide_eq_true_eq];dsimp only;omega),if_neg (by rw[decide_eq_true (by dsimp only;omega)];decide)]
 obtain⟨b,hb,hb2⟩:=Ux K (by omega)
 have:b=true:=hb2.2 ⟨h.ks,h.pw⟩
 subst this
 show(Et K).bind _=_
 rw[hb,zA,if_neg (by decide)]
 unfold N8
 rcases Aul C (λ_ _=>false) (Ie ⟨K,C,T⟩) (by omega) (λi x hx=>by
  have hlt:=(zC.1 hx).1
  obtain⟨c1,c2,c3,c4⟩:=h.cs x (zJ hx)
  unfold Ie
  dsimp only
  rw[if_pos (decide_eq_true (by omega)),Bo,hx,zA]
  have hne:x.L.length≠0:=λe=>c1 (zY e)
  rw[if_neg (by rw[decide_eq_true_eq];omega)]
  rcases Aaf (c:=x) (by omega) with⟨e,_⟩|⟨_,e⟩
  ·rw[e,zA,if_neg (by decide),Apn (c:=x) (by omega),zA,if_neg (by rw[decide_eq_true_eq];omega),if_neg (by decide),Cd (by omega) (by omega)]
   rfl
  ·exact absurd c2 e) (by
  unfold Ie
  dsimp only
  rw[if_neg (by rw[decide_eq_true_eq];omega)]) with⟨i,x,hx,hp,e⟩|⟨hp,e⟩
 ·cases hp
 ·rw[e];rfl
def wOk (w:A7):Bool:=decide ((w.Val.length:Int)<=32) && !(w.Del&&decide (0<(w.Val.length:Int)))
theorem Ahk (l:List A7) (hn:l.length<=1000000):∃ b,Gc l=some b/\(b=true->(∀ w∈l,wOk w=true)/\(∀ w∈l,kOk w.Key=true)/\PW (l.map (·.Key))):=by
 unfold Gc
 obtain⟨v,hv,hr⟩:=D2 (f:=Ey l) (P:=λs=>∃ i:Nat,i<=l.length/\s=((i:Int),(l.take i).map (·.Key))/\∀ w∈l.take i,wOk w=true) (μ:=λs=>l.length-s.1.toNat)
  (R:=λv=>v=.inl false\/(v=.inr (l.map (·.Key))/\∀ w∈l,wOk w=true)) (by
   rintro _ ⟨i,hi,rfl,hw⟩
   unfold Ey
   dsimp only
   rcases zO i l.length with hlt|hge
   ·have hx:=zB hlt
    rw[if_pos (decide_eq_true (by omega)),Bo,hx,zA]
    have hk5:Dt ((i:Int),(l.take i).map (·.Key)) l[i] ()=some (.cont (((i+1:Nat):Int),(l.take (i+1)).map (·.Key))):=by
     unfold Dt
     dsimp only
     rw[if_pos (by rw[z2,zK,z6];omega),Cd (by omega) (by omega),zM hlt,wA]
     rfl
    by_cases h1:32<(l[i].Val.length:Int)
    ·rw[if_pos (decide_eq_true h1)];exact .inr (.inr ⟨false,rfl,.inl rfl⟩)
    rw[if_neg (by rw[decide_eq_true_eq];exact h1)]
    have hnext:wOk l[i]=true->∀ w∈l.take (i+1),wOk w=true:=λhwi w hm=>by
     rw[zM hlt] at hm
     rcases yH.1 hm with hm|hm
     ·exact hw w hm
     ·rw[zV.1 hm];exact hwi
    cases hd:l[i].Del with
    | true =>
     rw[if_pos rfl]
     by_cases h2:0<(l[i].Val.length:Int)
     ·rw[if_pos (decide_eq_true h2)];exact .inr (.inr ⟨false,rfl,.inl rfl⟩)
     ·rw[if_neg (by rw[decide_eq_true_eq];exact h2),hk5]
      refine .inl ⟨_,rfl,⟨i+1,hlt,rfl,hnext ?_⟩,by simp only[zT];omega⟩
      unfold wOk
      rw[decide_eq_true (by omega),hd,decide_eq_false h2]
      rfl
    | false =>
     rw[if_neg (by decide),hk5]
     refine .inl ⟨_,rfl,⟨i+1,hlt,rfl,hnext ?_⟩,by simp only[zT];omega⟩
     unfold wOk
     rw[decide_eq_true (by omega),hd]
     rfl
   ·have e:i=l.length:=by omega
    subst e
    rw[if_neg (by rw[decide_eq_true_eq];omega)]
    rw[yF] at hw ⊢
    exact .inr (.inl ⟨_,rfl,.inr ⟨rfl,hw⟩⟩)) fuel (0,[]) ⟨0,zX _,rfl,λw h=>by simp at h⟩ (Co (by show l.length-0<=_;omega))
 rw[hv,zA]
 rcases hr with rfl|⟨rfl,hw⟩
 ·exact⟨false,rfl,λh=>(by cases h)⟩
 ·show ∃ b,Ev (l.map (·.Key))=some b/\_
  unfold Ev
  obtain⟨b,hb,hb2⟩:=Ux (l.map (·.Key)) (by rw[z2];omega)
  rw[hb]
  refine⟨b,rfl,λh=>?_⟩
  obtain⟨h1,h2⟩:=hb2.1 h
  exact⟨hw,λw hm=>h1 w.Key (yN.2 ⟨w,hm,rfl⟩),h2⟩
def At (K:Keys) (C:List Am) (k:List UInt8) (c:Am):Prop:=∃ i:Nat,K[i]? = some k/\C[i]? = some c
theorem Akk {K:Keys} (h:PW K) {i j:Nat} {k:List UInt8} (hi:K[i]? = some k) (hj:K[j]? = some k):i=j:=by
 obtain⟨hi1,hi2⟩:=zC.1 hi
 obtain⟨hj1,hj2⟩:=zC.1 hj
 rcases kI i j with h'|h'|h'
 ·have:=yI.1 h i j hi1 hj1 h'
  rw[hi2,hj2,Rl] at this;omega
 ·exact h'
 ·have:=yI.1 h j i hj1 hi1 h'
  rw[hi2,hj2,Rl] at this;omega
theorem Zo {K:Keys} {k:List UInt8} (h:hit K k=true):K[kat K k]? = some k:=by
 unfold hit at h
 exact eq_of_beq h
theorem At.hit {K:Keys} {C:List Am} {k:List UInt8} {c:Am} (h:PW K) (hc:At K C k c):Go.Proofs.YtkblaobhhoebaaaGreat.Abs.bf.hit K k=true/\C[kat K k]? = some c:=by
 obtain⟨i,h1,h2⟩:=hc
 have hh:=(Ai0 h).2 (zJ h1)
 have:=Akk h h1 (Zo hh)
 subst this
 exact⟨hh,h2⟩
theorem At.of_hit {K:Keys} {C:List Am} {k:List UInt8} (hl:C.length=K.length) (h:Go.Proofs.YtkblaobhhoebaaaGreat.Abs.bf.hit K k=true):∃ c,At K C k c/\C[kat K k]? = some c:=by
 have hlt:=Atr h
 exact⟨C[kat K k]'(by omega),⟨_,Zo h,zB (by omega)⟩,zB (by omega)⟩
abbrev ver (ts:Int) (w:A7):A8:=A8.mk ts w.Val w.Del
def Aw4 (K:Keys) (C:List Am) (ts:Int) (w:A7) (c:Am):Prop:=(∃ c0,At K C w.Key c0/\c.L=c0.L++[ver ts w])\/((¬ ∃ c0,At K C w.Key c0)/\c.L=[ver ts w])
theorem Ao1 {ts:Int} {w:A7} (h1:1<=ts) (h2:ts<=1099511627776) (hw:wOk w=true):vOk (ver ts w)=true:=by
 unfold wOk at hw
 unfold vOk ver
 dsimp only
 rw[decide_eq_true h1,decide_eq_true h2,wM,wM]
 exact hw
theorem Ana {α:Type} {by_:Nat} {xs:List α} {i:Nat} {x:α} (hi:i<=xs.length) (hb:(xs.length+1)*by_<=140737488355328):Aqz by_ xs (i:Int) [x]=some (xs.take i++x::xs.drop i):=by
 unfold Aqz
 dsimp only
 rw[if_pos ⟨⟨by omega,by omega⟩,hb⟩,zT]
theorem Aqj {α:Type} {xs:List α} {p:Nat} {x:α} (hp:p<=xs.length) (i:Nat):(xs.take p++x::xs.drop p)[i]? = if i<p then xs[i]? else if i=p then some x else xs[i-1]? := by
 rw[List.getElem?_append,zK,w8 hp]
 split
 ·next h=>rw[yL,if_pos h]
 ·next h =>
  split
  ·next h2=>rw[h2,j0];rfl
  ·next h2 =>
   rw[show i-p=(i-p-1)+1 by omega,kV,yJ]
   congr 1;omega
structure OkP (K:Keys) (C:List Am) (B:Nat):Prop where
 cl:C.length=K.length
 ks:∀ k∈K,kOk k=true
 pw:PW K
 cs:∀ c∈C,OkC c.L/\c.L.length<=B
theorem A1z {K:Keys} {C:List Am} {B:Nat} (h:OkP K C B) (hB:B<=1000) (hK:K.length<=100000) {ts:Int} (ht:1<=ts/\ts<=1099511627776) {w:A7} (hw:wOk w=true) (hk:kOk w.Key=true)
  (hlast:∀ c,At K C w.Key c->Rm c.L<ts) :
  ∃ K' C',M5 K C ts w=some (ts,K',C')/\PW K'/\C'.length=K'.length/\(∀ k∈K',kOk k=true)/\K'.length<=K.length+1/\(∃ c,At K' C' w.Key c) /\
   (∀ c,At K' C' w.Key c->Aw4 K C ts w c)/\(∀ k c,k≠w.Key->(At K' C' k c↔At K C k c)):=by
 have hcl:=h.cl
 have hv:=Ao1 ht.1 ht.2 hw
 unfold M5
 rw[Au5 K w.Key (by omega),zA]
 cases hh:hit K w.Key with
 | true =>
  rw[if_neg (λh=>Bool.noConfusion h)]
  obtain⟨c0,hat,hget⟩:=At.of_hit hcl hh
  obtain⟨hc1,hc2⟩:=h.cs c0 (zJ hget)
  have hlt:kat K w.Key<C.length:=(zC.1 hget).1
  refine⟨K,C.set (kat K w.Key) ⟨c0.L++[ver ts w]⟩,?_,h.pw,by rw[xI];exact hcl,h.ks,by omega,⟨_,_,Zo hh,zQ hlt⟩,?_,?_⟩
  ·unfold E5
   dsimp only
   rw[Bo,hget,zA,Akd (c:=c0) (by omega) hc1 hv (hlast c0 hat),zA,if_pos (decide_eq_true rfl),zA,zT]
  ·rintro c ⟨i,h1,h2⟩
   have:=Akk h.pw h1 (Zo hh)
   subst this
   rw[zQ hlt] at h2
   cases h2
   exact .inl ⟨c0,hat,rfl⟩
  ·intro k c hne
   constructor
   ·rintro⟨i,h1,h2⟩
    refine⟨i,h1,?_⟩
    rw[zZ] at h2
    ·exact h2
    ·intro e;subst e;rw[Zo hh] at h1;exact hne (zD h1).symm
   ·rintro⟨i,h1,h2⟩
    refine⟨i,h1,?_⟩
    rw[zZ]
    ·exact h2
    ·intro e;subst e;rw[Zo hh] at h1;exact hne (zD h1).symm
 | false =>
  have hnot:¬ ∃ c0,At K C w.Key c0:=λ⟨c0,hc0⟩=>by rw[(At.hit h.pw hc0).1] at hh;cases hh
  have hle:=Ape K w.Key
  have hK':ins K w.Key=K.take (kat K w.Key)++w.Key::K.drop (kat K w.Key):=by unfold ins;rw[hh];rfl
  rw[if_pos (show(!((kat K w.Key:Int),false).2)=true from rfl)]
  show ∃ K' C',((Aqz 24 K ((kat K w.Key:Nat):Int) [w.Key]).bind λv6=>(Aqz 24 C ((kat K w.Key:Nat):Int) [(Am.mk ([]:List A8))]).bind λv7=>E5 ts w ((kat K w.Key:Int),false) (v6,v7))=_/\_
  rw[Ana hle (by omega),zA,Ana (by omega) (by omega),zA]
  have hgK:=Aqj (xs:=K) (x:=w.Key) hle
  have hgC:=Aqj (xs:=C) (x:=(Am.mk ([]:List A8))) (p:=kat K w.Key) (by omega)
  have hlen:(C.take (kat K w.Key)++(Am.mk ([]:List A8))::C.drop (kat K w.Key)).length=C.length+1:=by
   rw[zH,yW,zK,yC];omega
  have hlenK:(K.take (kat K w.Key)++w.Key::K.drop (kat K w.Key)).length=K.length+1:=by
   rw[zH,yW,zK,yC];omega
  have hpl:kat K w.Key<(C.take (kat K w.Key)++(Am.mk ([]:List A8))::C.drop (kat K w.Key)).length:=by rw[hlen];omega
  have hgp:(C.take (kat K w.Key)++(Am.mk ([]:List A8))::C.drop (kat K w.Key))[kat K w.Key]? = some (Am.mk ([]:List A8)):=by
   rw[hgC,if_neg (wD _),if_pos rfl]
  have hgkp:(K.take (kat K w.Key)++w.Key::K.drop (kat K w.Key))[kat K w.Key]? = some w.Key:=by
   rw[hgK,if_neg (wD _),if_pos rfl]
  have hpw':PW (K.take (kat K w.Key)++w.Key::K.drop (kat K w.Key)):=by rw[<- hK'];exact Att h.pw
  refine⟨_,(C.take (kat K w.Key)++(Am.mk ([]:List A8))::C.drop (kat K w.Key)).set (kat K w.Key) ⟨[]++[ver ts w]⟩,?_,hpw',by rw[xI,hlen,hlenK];omega,λk hkm=>?_,by rw[hlenK];exact zN _,
   ⟨_,_,hgkp,zQ hpl⟩,?_,?_⟩
  ·unfold E5
   dsimp only
   rw[Bo,hgp,zA,Akd (c:=⟨[]⟩) (zX _) Am8 hv (by show(0:Int)<ts;omega),zA,if_pos (decide_eq_true rfl),zA,zT]
  ·rw[<- hK'] at hkm
   rcases Avr.1 hkm with rfl|hm
   ·exact hk
   ·exact h.ks k hm
  ·rintro c ⟨i,h1,h2⟩
   have:=Akk hpw' h1 hgkp
   subst this
   rw[zQ hpl] at h2
   cases h2
   exact .inr ⟨hnot,rfl⟩
  ·intro k c hne
   have hK2:∀ i,(K.take (kat K w.Key)++w.Key::K.drop (kat K w.Key))[i]? = some k->i≠kat K w.Key:=λi hi e=>by
    subst e;rw[hgkp] at hi;exact hne (zD hi).symm
   constructor
   ·rintro⟨i,h1,h2⟩
    have hip:=hK2 i h1
    rw[zZ (λe=>hip e.symm),hgC] at h2
    rw[hgK] at h1
    split at h1
    ·next hlt=>rw[if_pos hlt] at h2;exact⟨i,h1,h2⟩
    ·next hlt =>
     rw[if_neg hlt,if_neg hip] at h2
     exact⟨i-1,h1,h2⟩
   ·rintro⟨i,h1,h2⟩
    rcases zO i (kat K w.Key) with hlt|hge
    ·refine⟨i,?_,?_⟩
     ·rw[hgK,if_pos hlt];exact h1
     ·rw[zZ (by omega),hgC,if_pos hlt];exact h2
    ·refine⟨i+1,?_,?_⟩
     ·rw[hgK,if_neg (by omega),if_neg (by omega)];exact h1
     ·rw[zZ (by omega),hgC,if_neg (by omega),if_neg (by omega)];exact h2
theorem At.mem {K:Keys} {C:List Am} (hl:C.length=K.length) {c:Am} (hc:c∈C):∃ k,At K C k c:=by
 obtain⟨i,hi⟩:=wE.1 hc
 have hlt:=(zC.1 hi).1
 exact⟨K[i]'(by omega),i,zB (by omega),hi⟩
theorem Afy (l:List A8) (v:A8):Rm (l++[v])=v.Ts:=by
 unfold Rm
 rw[zH,z6,jQ,yA (zN _),j0]
 rfl
theorem Aw4.ok {K:Keys} {C:List Am} {B:Nat} (h:∀ c∈C,OkC c.L/\c.L.length<=B) {ts:Int} (ht:1<=ts/\ts<=1099511627776) {w:A7} (hw:wOk w=true) (hlast:∀ c,At K C w.Key c->Rm c.L<ts) {c:Am} (g:Aw4 K C ts w c) :
  OkC c.L/\c.L.length<=B+1/\c.L≠[]/\Rm c.L=ts:=by
 have hv:=Ao1 ht.1 ht.2 hw
 rcases g with⟨c0,hat,e⟩|⟨_,e⟩
 ·obtain⟨i,_,hi⟩:=hat
  obtain⟨h1,h2⟩:=h c0 (zJ hi)
  rw[e]
  exact⟨Akc h1 hv (hlast c0 ⟨i,‹_›,hi⟩),by rw[zH,z6];omega,by simp,Afy _ _⟩
 ·rw[e]
  have:=Akc Am8 hv (by show(0:Int)<ts;omega)
  exact⟨this,by show 1<=B+1;omega,by simp,Afy [] _⟩
structure Laid (K:Keys) (C:List Am) (ts:Int) (l:List A7) (K':Keys) (C':List Am):Prop where
 pw:PW K'
 cl:C'.length=K'.length
 ks:∀ k∈K',kOk k=true
 len:K'.length<=K.length+l.length
 is:∀ w∈l,∃ c,At K' C' w.Key c
 new:∀ w∈l,∀ c,At K' C' w.Key c->Aw4 K C ts w c
 old:∀ k c,(∀ w∈l,w.Key≠k)->(At K' C' k c↔At K C k c)
theorem Ay2 {K:Keys} {C:List Am} {T:Int} {B:Nat} (h:OkS K C T B) (hB:B<1000) (hK:K.length<=128) {ts:Int} (ht:T<ts/\ts<=1099511627776) (l:List A7) (hl:l.length<=1000)
  (hw:∀ w∈l,wOk w=true) (hk:∀ w∈l,kOk w.Key=true) (hp:PW (l.map (·.Key))) :
  ∃ K' C',Cz (E3 l) fuel (0,K,C,ts)=some (K',C',ts)/\Laid K C ts l K' C':=by
 have h0:=h.t0
 have hlast0:∀ k c,At K C k c->Rm c.L<ts:=λk c ⟨i,_,hi⟩=>by
  have:=(h.cs c (zJ hi)).2.2.1
  omega
 have hcs0:∀ c∈C,OkC c.L/\c.L.length<=B:=λc hc=>⟨(h.cs c hc).2.1,(h.cs c hc).2.2.2⟩
 obtain⟨v,hv,hr⟩:=Dm (f:=E3 l) (P:=λs=>∃ i:Nat,i<=l.length/\s.1=(i:Int)/\s.2.2.2=ts/\Laid K C ts (l.take i) s.2.1 s.2.2.1) (μ:=λs=>l.length-s.1.toNat)
  (R:=λv=>v.2.2=ts/\Laid K C ts l v.1 v.2.1) (by
   rintro⟨_,K1,C1,t1⟩ ⟨i,hi,rfl,ht1,hL⟩
   have ht1:t1=ts:=ht1
   have hL:Laid K C ts (l.take i) K1 C1:=hL
   unfold E3
   dsimp only
   rw[ht1]
   rcases zO i l.length with hlt|hge
   ·have hx:=zB hlt
    have hxm:=yY hlt
    rw[if_pos (decide_eq_true (by omega)),Bo,hx,zA]
    have hfresh:∀ w∈l.take i,w.Key≠l[i].Key:=λw hm e=>by
     obtain⟨j,hj⟩:=wE.1 hm
     rw[yL] at hj
     split at hj
     ·next hji =>
      have h1:(l.map (·.Key))[j]? = some w.Key:=by rw[zP,hj];rfl
      have h2:(l.map (·.Key))[i]? = some l[i].Key:=by rw[zP,hx];rfl
      have:=Akk hp h1 (by rw[e];exact h2)
      omega
     ·cases hj
    have hOk1:∀ c∈C1,OkC c.L/\c.L.length<=B+1:=λc hc=>by
     obtain⟨k,hat⟩:=At.mem hL.cl hc
     by_cases hex:∃ w∈l.take i,w.Key=k
     ·obtain⟨w,hwm,rfl⟩:=hex
      have:=Aw4.ok hcs0 ⟨by omega,ht.2⟩ (hw w (List.mem_of_mem_take hwm)) (hlast0 _) (hL.new w hwm c hat)
      exact⟨this.1,this.2.1⟩
     ·have:=(hL.old k c (λw hwm e=>hex ⟨w,hwm,e⟩)).1 hat
      obtain⟨j,_,hj⟩:=this
      have:=hcs0 c (zJ hj)
      exact⟨this.1,by omega⟩
    have hat1:∀ c,At K1 C1 l[i].Key c↔At K C l[i].Key c:=λc=>hL.old _ c hfresh
    obtain⟨K2,C2,e2,p2,c2,k2,n2,is2,new2,old2⟩:=A1z (B:=B+1) ⟨hL.cl,hL.ks,hL.pw,hOk1⟩ (by omega) (by have:=hL.len;rw[zK] at this;omega) (ts:=ts) ⟨by omega,ht.2⟩ (hw _ hxm) (hk _ hxm) (λc hc=>hlast0 _ c ((hat1 c).1 hc))
    rw[e2,zA]
    dsimp only
    refine .inl ⟨_,rfl,⟨i+1,hlt,by dsimp only;rw[Cd (by omega) (by omega)];rfl,rfl,⟨p2,c2,k2,?_,?_,?_,?_⟩⟩,by dsimp only;rw[Cd (by omega) (by omega)];omega⟩
    ·have:=hL.len
     rw[zK] at this ⊢
     show K2.length<=_
     omega
    ·intro w hwm
     rw[zM hlt] at hwm
     rcases yH.1 hwm with hwm|hwm
     ·obtain⟨c,hc⟩:=hL.is w hwm
      exact⟨c,(old2 _ c (hfresh w hwm)).2 hc⟩
     ·rw[zV.1 hwm];exact is2
    ·intro w hwm c hc
     rw[zM hlt] at hwm
     rcases yH.1 hwm with hwm|hwm
     ·exact hL.new w hwm c ((old2 _ c (hfresh w hwm)).1 hc)
     ·rw[zV.1 hwm] at hc ⊢
      rcases new2 c hc with⟨c0,hc0,e⟩|⟨hn,e⟩
      ·exact .inl ⟨c0,(hat1 c0).1 hc0,e⟩
      ·exact .inr ⟨λ⟨c0,hc0⟩=>hn ⟨c0,(hat1 c0).2 hc0⟩,e⟩
    ·intro k c hne
     have h1:k≠l[i].Key:=λe=>hne l[i] (by rw[zM hlt];exact wN _ (zV.2 rfl)) e.symm
     have h2:∀ w∈l.take i,w.Key≠k:=λw hwm=>hne w (by rw[zM hlt];exact wR _ hwm)
     exact(old2 k c h1).trans (hL.old k c h2)
   ·have e:i=l.length:=by omega
    subst e
    rw[yF] at hL
    rw[if_neg (by rw[decide_eq_true_eq];omega)]
    exact .inr ⟨_,rfl,rfl,hL⟩) fuel (0,K,C,ts) ⟨0,zX _,rfl,rfl,⟨h.pw,h.cl,h.ks,by simp,λw hw=>by simp at hw,λw hw=>by simp at hw,λk c _=>Iff.rfl⟩⟩ (Co (by show l.length-0<=_;omega))
 obtain⟨K',C',T'⟩:=v
 obtain⟨rfl,hr⟩:=hr
 exact⟨K',C',hv,hr⟩
abbrev zstore:B2:=B2.mk ([]:List (List UInt8)) ([]:List Am) 0
theorem install_m {K:Keys} {C:List Am} {T:Int} {B:Nat} (h:OkS K C T B) (hB:B<1000) (hK:K.length<=128) (ts:Int) (l:List A7) (hl:l.length<=1000) :
  (∃ e,(e=1\/(e=7/\¬ (T<ts/\ts<=1099511627776))\/e=8)/\D9 ⟨K,C,T⟩ ts l=some (zstore,e)) \/
  ∃ K' C',D9 ⟨K,C,T⟩ ts l=some (⟨K',C',ts⟩,0)/\(T<ts/\ts<=1099511627776)/\(∀ w∈l,wOk w=true)/\PW (l.map (·.Key))/\K'.length<=128/\Laid K C ts l K' C'/\OkS K' C' ts (B+1):=by
 unfold D9
 show(∃ e,_/\(Dh ⟨K,C,T⟩).bind _=_)\/∃ K' C',(Dh ⟨K,C,T⟩).bind _=_/\_
 rw[ssane_m h (by omega) hK,zA,if_neg (by decide)]
 obtain⟨b,hb,hb2⟩:=Ahk l (by omega)
 rw[hb,zA]
 cases b with
 | false=>exact .inl ⟨1,.inl rfl,rfl⟩
 | true =>
 obtain⟨hw,hk,hp⟩:=hb2 rfl
 rw[if_neg (by decide)]
 unfold Jv
 dsimp only
 by_cases h1:ts<=T
 ·rw[if_pos (decide_eq_true h1)];exact .inl ⟨7,.inr (.inl ⟨rfl,by omega⟩),rfl⟩
 rw[if_neg (by rw[decide_eq_true_eq];exact h1)]
 by_cases h2:1099511627776<ts
 ·rw[if_pos (decide_eq_true h2)];exact .inl ⟨7,.inr (.inl ⟨rfl,by omega⟩),rfl⟩
 rw[if_neg (by rw[decide_eq_true_eq];exact h2)]
 unfold Jr
 have hcl:=h.cl
 have e1:Ju K=some K:=by
  unfold Ju
  rw[if_pos (by simp only[jN];omega)];rfl
 have e2:Jj C=some C:=by
  unfold Jj
  rw[if_pos (by simp only[jN];omega)];rfl
 dsimp only
 rw[e1,zA,e2,zA]
 obtain⟨K',C',e3,hL⟩:=Ay2 h hB hK (ts:=ts) ⟨by omega,by omega⟩ l hl hw hk hp
 rw[e3,zA]
 unfold Jz
 dsimp only
 by_cases h8:128<(K'.length:Int)
 ·rw[if_pos (decide_eq_true h8)];exact .inl ⟨8,.inr (.inr rfl),rfl⟩
 rw[if_neg (by rw[decide_eq_true_eq];exact h8)]
 refine .inr ⟨K',C',rfl,⟨by omega,by omega⟩,hw,hp,by omega,hL,⟨by have:=h.t0;omega,by omega,hL.cl,hL.ks,hL.pw,λc hc=>?_⟩⟩
 obtain⟨k,hat⟩:=At.mem hL.cl hc
 by_cases hex:∃ w∈l,w.Key=k
 ·obtain⟨w,hwm,rfl⟩:=hex
  have hh:=Aw4.ok (B:=B) (λc hc=>⟨(h.cs c hc).2.1,(h.cs c hc).2.2.2⟩) ⟨by have:=h.t0;omega,by omega⟩ (hw w hwm) (λc ⟨i,_,hi⟩=>by have:=(h.cs c (zJ hi)).2.2.1;omega) (hL.new w hwm c hat)
  exact⟨hh.2.2.1,hh.1,Int.le_of_eq hh.2.2.2,hh.2.1⟩
 ·obtain⟨i,_,hi⟩:=(hL.old k c (λw hwm e=>hex ⟨w,hwm,e⟩)).1 hat
  have:=h.cs c (zJ hi)
  exact⟨this.1,this.2.1,by omega,by omega⟩
theorem OkS.mono {K:Keys} {C:List Am} {T:Int} {B B':Nat} (h:OkS K C T B) (hb:B<=B'):OkS K C T B' :=
 ⟨h.t0,h.t1,h.cl,h.ks,h.pw,λc hc=>⟨(h.cs c hc).1,(h.cs c hc).2.1,(h.cs c hc).2.2.1,yO (h.cs c hc).2.2.2 hb⟩⟩
def Awr (l:List A8) (t:Int):List UInt8×Bool:=match pc l t with
 | 0=>([],false)
 | n+1=>match l[n]? with
  | some v=>if v.Del then([],false) else(v.Val,true)
  | none=>([],false)
theorem Aqi {c:Am} (h:c.L.length<=1000) (t:Int):Ih c t=some (Awr c.L t):=by
 have hle:=A4c c.L t
 unfold Awr
 cases hp:pc c.L t with
 | zero =>
  rw[Ali (at0 h hp)]
  rfl
 | succ n =>
  have hx:c.L[n]? = some (c.L[n]'(by omega)):=zB (by omega)
  rw[Ali (at1 (t:=t) h (by omega) (by rw[hp];exact hx))]
  dsimp only
  rw[hx]
  dsimp only
  cases (c.L[n]'(by omega)).Del <;> rfl
theorem get_m {K:Keys} {C:List Am} {T:Int} {B:Nat} (h:OkS K C T B) (hB:B<=1000) (hK:K.length<=128) (k:List UInt8) (t:Int) :
  (∃ c,At K C k c/\L0 ⟨K,C,T⟩ k t=some (Awr c.L t))\/((¬ ∃ c,At K C k c)/\L0 ⟨K,C,T⟩ k t=some ([],false)):=by
 unfold L0
 dsimp only
 rw[Alg K k (by omega),zA]
 cases hh:hit K k with
 | false =>
  refine .inr ⟨λ⟨c0,hc0⟩=>(by rw[(At.hit h.pw hc0).1] at hh;cases hh),?_⟩
  rfl
 | true =>
  obtain⟨c0,hat,hget⟩:=At.of_hit h.cl hh
  refine .inl ⟨c0,hat,?_⟩
  rw[if_neg (λh=>Bool.noConfusion h)]
  show(Dh ⟨K,C,T⟩).bind _=_
  rw[ssane_m h hB hK,zA,if_neg (by decide)]
  unfold O7
  dsimp only
  rw[Bo,hget,zA,Aqi (c:=c0) (by have:=(h.cs c0 (zJ hget)).2.2.2;omega),zA]
def ent (r:Bh) (t:Int) (p:List UInt8×Am):List B8:=if Ah9 r p.1&&(Awr p.2.L t).2 then[⟨p.1,(Awr p.2.L t).1⟩] else[]
def ents (r:Bh) (t:Int) (K:Keys) (C:List Am):List B8:=(K.zip C).flatMap (ent r t)
theorem Aqo (r:Bh) (t:Int) (p:List UInt8×Am):(ent r t p).length<=1:=by
 unfold ent;split <;> simp
theorem Yt {α β:Type} (f:α->List β) (hf:∀ x,(f x).length<=1):∀ l:List α,(l.flatMap f).length<=l.length
 | []=>zN _
 | x::l=>by
  have:=hf x
  have:=Yt f hf l
  rw[xB,zH,yW];omega
theorem Aoq {α β:Type} {K:List α} {C:List β} {i:Nat} {k:α} {c:β} (hk:K[i]? = some k) (hc:C[i]? = some c):(K.zip C)[i]? = some (k,c):=by
 rw[List.getElem?_zip_eq_some]
 exact⟨hk,hc⟩
theorem Agv {α β:Type} {f:α->List β} {l:List α} {i:Nat} {x:α} (h:l[i]? = some x):(l.take (i+1)).flatMap f=(l.take i).flatMap f++f x:=by
 obtain⟨hlt,rfl⟩:=zC.1 h
 rw[zM hlt,kK,List.flatMap_singleton]
theorem Asl {α β:Type} (f:α->List β) (l:List α) (i:Nat):∃ rest,l.flatMap f=(l.take i).flatMap f++rest :=
 ⟨(l.drop i).flatMap f,by rw[<- kK,xK]⟩
theorem scan_m {K:Keys} {C:List Am} {T:Int} {B:Nat} (h:OkS K C T B) (hB:B<=1000) (hK:K.length<=128) (r:Bh) (t most:Int) :
  Hw ⟨K,C,T⟩ r t most=some ((ents r t K C).take most.toNat):=by
 have hcl:=h.cl
 have hzl:(K.zip C).length=K.length:=by rw[j4];omega
 unfold Hw
 rw[ssane_m h hB hK,zA,if_neg (by decide)]
 obtain⟨v,hv,hr⟩:=Dm (f:=Ks ⟨K,C,T⟩ r t most) (P:=λs=>∃ i:Nat,i<=K.length/\s=((i:Int),((((K.zip C).take i).flatMap (ent r t)).take most.toNat))) (μ:=λs=>K.length-s.1.toNat)
  (R:=λv=>v=(ents r t K C).take most.toNat) (by
   rintro _ ⟨i,hi,rfl⟩
   unfold Ks
   dsimp only
   rcases zO i K.length with hlt|hge
   ·have hx:=zB hlt
    have hc:C[i]? = some (C[i]'(by omega)):=zB (by omega)
    have hst:=Agv (f:=ent r t) (Aoq hx hc)
    have hlen:(((K.zip C).take i).flatMap (ent r t)).length<=128:=by
     refine yO (Yt _ (Aqo r t) _) ?_
     rw[zK];omega
    rw[if_pos (decide_eq_true (by omega)),Bo,hx,zA]
    by_cases hm:most<=(((((K.zip C).take i).flatMap (ent r t)).take most.toNat).length:Int)
    ·rw[if_pos (decide_eq_true hm)]
     refine .inr ⟨_,rfl,?_⟩
     rw[zK] at hm
     obtain⟨rest,e⟩:=Asl (ent r t) (K.zip C) i
     unfold ents
     rw[e,wC (by omega)]
    ·rw[if_neg (by rw[decide_eq_true_eq];exact hm)]
     rw[zK] at hm
     have hid:(((K.zip C).take i).flatMap (ent r t)).take most.toNat=((K.zip C).take i).flatMap (ent r t):=yX (by omega)
     have hnext:∀ x,ent r t (K[i],C[i]'(by omega))=x->x.length<=1->(((K.zip C).take (i+1)).flatMap (ent r t)).take most.toNat=((K.zip C).take i).flatMap (ent r t)++x:=λx hx1 hx2=>by
      rw[hst,hx1,yX (by rw[zH];omega)]
     rw[Apz,zA,hid]
     left
     cases hh:Ah9 r K[i] with
     | false =>
      rw[if_pos (show(!false)=true from rfl)]
      refine⟨_,rfl,⟨i+1,hlt,?_⟩,by simp only[Cd (show -9223372036854775808<=(i:Int)+1 by omega) (by omega)];omega⟩
      rw[Cd (by omega) (by omega),hnext [] (by unfold ent;dsimp only;rw[hh];rfl) (by decide),List.append_nil];rfl
     | true =>
      rw[if_neg (by decide),Bo,hc,zA,Aqi (c:=C[i]'(by omega)) (by have:=(h.cs _ (yY (show i<C.length by omega))).2.2.2;omega),zA]
      cases hv:(Awr (C[i]'(by omega)).L t).2 with
      | false =>
       rw[if_neg (by decide)]
       refine⟨_,rfl,⟨i+1,hlt,?_⟩,by simp only[Cd (show -9223372036854775808<=(i:Int)+1 by omega) (by omega)];omega⟩
       rw[Cd (by omega) (by omega),hnext [] (by unfold ent;dsimp only;rw[hh,hv];rfl) (by decide),List.append_nil];rfl
      | true =>
       rw[if_pos rfl,if_pos (by rw[z6];omega)]
       refine⟨_,rfl,⟨i+1,hlt,?_⟩,by simp only[Cd (show -9223372036854775808<=(i:Int)+1 by omega) (by omega)];omega⟩
       rw[Cd (by omega) (by omega),hnext [⟨K[i],(Awr (C[i]'(by omega)).L t).1⟩] (by unfold ent;dsimp only;rw[hh,hv];rfl) (Nat.le_refl _)];rfl
   ·have e:i=K.length:=by omega
    subst e
    rw[if_neg (by rw[decide_eq_true_eq];omega)]
    refine .inr ⟨_,rfl,?_⟩
    unfold ents
    rw[<- hzl,yF]) fuel (0,[]) ⟨0,zX _,by simp⟩ (Co (by show K.length-0<=_;omega))
 rw[hv,zA,hr]
 rfl
theorem ents_len (r:Bh) (t:Int) (K:Keys) (C:List Am):(ents r t K C).length<=K.length:=by
 refine yO (Yt _ (Aqo r t) _) ?_
 rw[j4];omega
abbrev KC:=List UInt8×Am
def Alo (o:Int) (p:KC):List KC:=if 0<(p.2.L.drop (gone p.2.L o)).length then[(p.1,⟨p.2.L.drop (gone p.2.L o)⟩)] else[]
def vacP (o:Int) (K:Keys) (C:List Am):List KC:=(K.zip C).flatMap (Alo o)
theorem Asd (o:Int) (p:KC):(Alo o p).length<=1:=by
 unfold Alo;split <;> simp
theorem vacS_m {K:Keys} {C:List Am} {T:Int} {B:Nat} (h:OkS K C T B) (hB:B<=1000) (hK:K.length<=128) (o:Int) :
  Lg ⟨K,C,T⟩ o=some ⟨(vacP (if T<o then T else o) K C).map (·.1),(vacP (if T<o then T else o) K C).map (·.2),T⟩:=by
 have hcl:=h.cl
 have hzl:(K.zip C).length=C.length:=by rw[j4];omega
 unfold Lg
 rw[ssane_m h hB hK,zA,if_neg (by decide)]
 obtain⟨v,hv,hr⟩:=Dm (f:=Hh ⟨K,C,T⟩ o) (P:=λs=>∃ i:Nat,i<=C.length/\s=((i:Int),(((K.zip C).take i).flatMap (Alo (if T<o then T else o))).map (·.1),(((K.zip C).take i).flatMap (Alo (if T<o then T else o))).map (·.2))) (μ:=λs=>C.length-s.1.toNat)
  (R:=λv=>v=((vacP (if T<o then T else o) K C).map (·.1),(vacP (if T<o then T else o) K C).map (·.2))) (by
   rintro _ ⟨i,hi,rfl⟩
   unfold Hh
   dsimp only
   generalize (if T<o then T else o)=o'
   rcases zO i C.length with hlt|hge
   ·left
    have hc:=zB hlt
    have hx:K[i]? = some (K[i]'(by omega)):=zB (by omega)
    have hst:=Agv (f:=Alo o') (Aoq hx hc)
    have hlen:(((K.zip C).take i).flatMap (Alo o')).length<=128:=by
     refine yO (Yt _ (Asd o') _) ?_
     rw[zK];omega
    obtain⟨h1,h2,h3,h4⟩:=h.cs _ (yY hlt)
    rw[if_pos (decide_eq_true (by omega)),Bo,hc,zA,A0m (by omega) h2,zA]
    dsimp only
    by_cases hd:0<((C[i].L.drop (gone C[i].L o')).length:Int)
    ·have e:Alo o' (K[i]'(by omega),C[i])=[(K[i]'(by omega),⟨C[i].L.drop (gone C[i].L o')⟩)]:=if_pos (by dsimp only;omega)
     rw[if_pos (decide_eq_true hd),Bo,hx,zA,if_pos (by rw[z2,z6];omega),if_pos (by rw[z2,z6];omega)]
     refine⟨_,rfl,⟨i+1,hlt,?_⟩,by simp only[Cd (show -9223372036854775808<=(i:Int)+1 by omega) (by omega)];omega⟩
     rw[Cd (by omega) (by omega),hst,e,wA,wA];rfl
    ·have e:Alo o' (K[i]'(by omega),C[i])=[]:=if_neg (by dsimp only;omega)
     rw[if_neg (by rw[decide_eq_true_eq];exact hd)]
     refine⟨_,rfl,⟨i+1,hlt,?_⟩,by simp only[Cd (show -9223372036854775808<=(i:Int)+1 by omega) (by omega)];omega⟩
     rw[Cd (by omega) (by omega),hst,e,xG];rfl
   ·right
    have e:i=C.length:=by omega
    subst e
    rw[if_neg (by rw[decide_eq_true_eq];omega)]
    refine⟨_,rfl,?_⟩
    unfold vacP
    rw[<- hzl,yF]) fuel (0,[],[]) ⟨0,zX _,by simp⟩ (Co (by show C.length-0<=_;omega))
 rw[hv,zA,hr]
 rfl
theorem Am9 {l:List A8} {n:Nat} (h:n<l.length):Rm (l.drop n)=Rm l:=by
 unfold Rm
 rw[yC,yJ,show n+(l.length-n-1)=l.length-1 by omega]
theorem Arr {o:Int} {K:Keys} {C:List Am} {q:KC} (h:q∈vacP o K C):∃ c,(q.1,c)∈K.zip C/\q.2=⟨c.L.drop (gone c.L o)⟩/\0<(c.L.drop (gone c.L o)).length:=by
 unfold vacP at h
 obtain⟨p,hp,hq⟩:=List.mem_flatMap.1 h
 unfold Alo at hq
 split at hq
 ·next hl =>
  rw[zV.1 hq]
  exact⟨p.2,hp,rfl,hl⟩
 ·cases hq
theorem Ajp (o:Int):∀ l:List KC,((l.flatMap (Alo o)).map (·.1)).Sublist (l.map (·.1))
 | []=>List.Sublist.slnil
 | p::l=>by
  have ih:=Ajp o l
  rw[xB]
  unfold Alo
  split
  ·exact ih.cons_cons _
  ·exact ih.cons _
theorem Awe {K:Keys} {C:List Am} (h:C.length=K.length):(K.zip C).map (·.1)=K:=by
 rw[List.map_fst_zip];omega
theorem vac_ok {K:Keys} {C:List Am} {T:Int} {B:Nat} (h:OkS K C T B) (o:Int):OkS ((vacP o K C).map (·.1)) ((vacP o K C).map (·.2)) T B:=by
 have hsub:=Ajp o (K.zip C)
 rw[Awe h.cl] at hsub
 refine⟨h.t0,h.t1,by rw[z2,z2],λk hk=>h.ks k (hsub.subset hk),h.pw.sublist hsub,λc hc=>?_⟩
 obtain⟨q,hq,rfl⟩:=yN.1 hc
 obtain⟨d,hd,e,hl⟩:=Arr hq
 obtain⟨h1,h2,h3,h4⟩:=h.cs d (List.of_mem_zip hd).2
 rw[e]
 refine⟨λe0=>?_,Atd h2 _,?_,?_⟩
 ·have e0:d.L.drop (gone d.L o)=[]:=e0
  rw[e0] at hl;exact absurd hl (wD _)
 ·show Rm (d.L.drop (gone d.L o))<=T
  rw[Am9 (by rw[yC] at hl;omega)];exact h3
 ·show(d.L.drop (gone d.L o)).length<=B
  rw[yC];omega
theorem vac_len (o:Int) (K:Keys) (C:List Am):((vacP o K C).map (·.1)).length<=K.length:=by
 have:=(Ajp o (K.zip C)).length_le
 rw[z2,z2,j4] at this
 show((((K.zip C).flatMap (Alo o)).map (·.1))).length<=_
 rw[z2]
 omega
end Go.Proofs.YtkblaobhhoebaaaGreat.Abs.st
