/-
 What the library's functions compute.
-/
import Derived.Test.YtkblaobhhoebaaaGreatLC14
import Derived.Test.YtkblaobhhoebaaaGreatLD14
set_option linter.unusedVariables false
set_option linter.unusedSimpArgs false
namespace Go.Proofs.YtkblaobhhoebaaaGreat.Abs.st
open Go.Proofs.YtkblaobhhoebaaaGreat.Abs.bf
open Go.Proofs.YtkblaobhhoebaaaGreat.Abs.ss
theorem T3 (x y:UInt8):x<y\/x=y\/y<x:=by
 rcases kN x.toNat y.toNat with h|h|h
 ·exact .inl (xK.2 h)
 ·exact .inr (.inl (UInt8.toNat_inj.1 h))
 ·exact .inr (.inr (xK.2 h))
theorem Lc {x y:UInt8} (h:x<y):¬ y<x:=λh'=>by
 have:=xK.1 h
 have:=xK.1 h'
 omega
theorem Ab3 {x y z:UInt8} (h:x<y) (h':y<z):x<z:=by
 have h1:=xK.1 h
 have h2:=xK.1 h'
 exact xK.2 omg
theorem cmpL_self:∀ a:List UInt8,Dp a a=0
 | []=>rfl
 | x::xs=>by unfold Dp;rw[if_neg (xB x),if_neg (xB x)];exact cmpL_self xs
theorem Sc:∀ a b:List UInt8,Dp a b = -Dp b a
 | [],[]=>rfl
 | [],_::_=>rfl
 | _::_,[]=>rfl
 | x::xs,y::ys=>by
  unfold Dp
  rcases T3 x y with h|h|h
  ·rw[if_pos h,if_neg (Lc h),if_pos h]
  ·subst h
   rw[if_neg (xB x),if_neg (xB x),if_neg (xB x),if_neg (xB x)];exact Sc xs ys
  ·rw[if_neg (Lc h),if_pos h,if_pos h];rfl
theorem Sm:∀ {a b:List UInt8},Dp a b=0->a=b
 | [],[],_=>rfl
 | [],_::_,h=>by cases h
 | _::_,[],h=>by cases h
 | x::xs,y::ys,h=>by
  unfold Dp at h
  rcases T3 x y with h1|h1|h1
  ·rw[if_pos h1] at h;cases h
  ·subst h1
   rw[if_neg (xB x),if_neg (xB x)] at h
   rw[Sm h]
  ·rw[if_neg (Lc h1),if_pos h1] at h;cases h
theorem Ks:∀ {a b c:List UInt8},Dp a b<=0->Dp b c<=0->Dp a c<=0/\(Dp a b<0\/Dp b c<0->Dp a c<0)
 | [],b,[],h1,h2=>⟨xQ _,λh=>by
   cases b with
   | nil=>rcases h with h | h <;> simp [Dp] at h
   | cons y ys=>simp [Dp] at h2⟩
 | [],_,_::_,_,_=>⟨by simp [Dp],λ_=>by simp [Dp]⟩
 | _::_,[],_,h1,_=>by simp [Dp] at h1
 | _::_,_::_,[],_,h2=>by simp [Dp] at h2
 | x::xs,y::ys,z::zs,h1,h2=>by
  unfold Dp at h1 h2 ⊢
  rcases T3 x y with e1|e1|e1
  ·rcases T3 y z with e2|e2|e2
   ·rw[if_pos (Ab3 e1 e2)];exact⟨by decide,λ_=>by decide⟩
   ·subst e2;rw[if_pos e1];exact⟨by decide,λ_=>by decide⟩
   ·rw[if_neg (Lc e2),if_pos e2] at h2;exact absurd h2 dcd
  ·subst e1
   rw[if_neg (xB x),if_neg (xB x)] at h1 ⊢
   rcases T3 x z with e2|e2|e2
   ·rw[if_pos e2];exact⟨by decide,λ_=>by decide⟩
   ·subst e2
    simp only[xB,if_false] at h2 ⊢
    exact Ks h1 h2
   ·rw[if_neg (Lc e2),if_pos e2] at h2;exact absurd h2 dcd
  ·rw[if_neg (Lc e1),if_pos e1] at h1;exact absurd h1 dcd
theorem Ast (xs:Keys) (k:List UInt8) (hn:xs.length<=1000000000000000000):Of xs k=some ((kat xs k:Int),hit xs k):=by
 obtain⟨v,hv,hr⟩:=Cr (f:=D3 xs k) (P:=λs=>∃ i:Nat,s=(i:Int)/\i<=xs.length/\∀ j y,j<i->xs[j]? = some y->Dp y k<0) (μ:=λs=>xs.length-s.toNat)
  (R:=λv=>match v with | .inl r=>r=(kat xs k:Int)/\kat xs k<xs.length | .inr _=>kat xs k=xs.length) (by
  rintro _ ⟨i,rfl,h1,h2⟩
  unfold D3 Eb
  by_cases hi:i<xs.length
  ·have e:=zC hi
   rw[ifo,A3,e]
   simp only[zA,Acl]
   by_cases hc:0<=Dp xs[i] k
   ·right;right
    rw[ifp hc]
    have ea:=Arn e hc h2
    exact⟨_,rfl,by rw[ea],by rw[ea];exact hi⟩
   ·left
    rw[ifn hc]
    refine⟨_,rfl,⟨i+1,by rw[wIo];rfl,hi,λj y hj hy=>?_⟩,by rw[wIo];omega⟩
    rcases j6.1 hj with h|rfl
    ·exact h2 j y h hy
    ·rw[e] at hy;cases hy;omega
  ·right;left
   rw[ifq]
   refine⟨_,rfl,?_⟩
   have:i=xs.length:=by omega
   subst this
   exact Ag8 h2) fuel 0 ⟨0,rfl,zZ _,λj y hj=>absurd hj (zW _)⟩ (Bs (by show xs.length-0<=_;omega))
 unfold Of Ip
 rw[hv]
 simp only[zA]
 cases v with
 | inl r =>
  obtain⟨rfl,hlt⟩:r=(kat xs k:Int)/\kat xs k<xs.length:=hr
  simp only[zA]
  rw[ifq,A3,zC hlt]
  simp only[zA,Dz]
  unfold hit
  rw[zC hlt]
  rfl
 | inr u =>
  have e:kat xs k=xs.length:=hr
  unfold Gk
  simp only[zA]
  rw[if_pos dcd]
  unfold hit
  rw[e]
  simp
theorem As1 {xs:Keys} {k x:List UInt8}:x∈ins xs k↔x=k\/x∈xs:=by
 unfold ins
 by_cases h:hit xs k=true
 ·rw[if_pos h]
  constructor
  ·exact .inr
  ·rintro(rfl|h')
   ·exact Af3 h
   ·exact h'
 ·rw[if_neg h]
  have e:x∈xs↔x∈xs.take (kat xs k)\/x∈xs.drop (kat xs k):=by
   rw[<- yC,xI]
  rw[yC,yM,e]
  constructor
  ·rintro(h1|rfl|h1)
   ·exact .inr (.inl h1)
   ·exact .inl rfl
   ·exact .inr (.inr h1)
  ·rintro(rfl|h1|h1)
   ·exact .inr (.inl rfl)
   ·exact .inl h1
   ·exact .inr (.inr h1)
def vOk (v:Ak):Bool:=decide (1<=v.Ts)&&decide (v.Ts<=1099511627776)&&decide ((v.Val.length:Int)<=32) && !(v.Del&&decide (0<(v.Val.length:Int)))
theorem Avu (v:Ak):Gq v=some (vOk v):=by
 unfold Gq vOk
 cases h1:decide (1<=v.Ts) <;> cases h2:decide (v.Ts<=1099511627776) <;> cases h3:decide ((v.Val.length:Int)<=32) <;> cases h4:v.Del <;> simp
structure OkC (l:List Ak):Prop where
 each:∀ (i:Nat) (v:Ak),l[i]? = some v->vOk v=true
 asc:∀ (i:Nat) (v w:Ak),l[i]? = some v->l[i+1]? = some w->v.Ts<w.Ts
def OkN (l:List Ak) (n:Nat) (b:Int):Prop :=
 (∀ (i:Nat) (v:Ak),i<n->l[i]? = some v->vOk v=true)/\(∀ (i:Nat) (v w:Ak),i+1<n->l[i]? = some v->l[i+1]? = some w->v.Ts<w.Ts)/\∀ (k:Nat) (v:Ak),n=k+1->l[k]? = some v->v.Ts<b
theorem Acc {c:Ac} (h:c.L.length<=1000):Ai4 c=some (Qf c.L c.L.length):=if_pos omg
theorem Alf (l:List Ak):∀ (n:Nat) (b:Int),n<=l.length->∃ e r,Rm Jg (Qf l n) b=some e/\Ad5 M8 Nn (λ_ _=>none) e=some r/\(r=true↔OkN l n b)
 | 0,b,_=>⟨_,_,rfl,rfl,by simp [OkN]⟩
 | n+1,b,h=>by
  rw[Qz omg]
  have hg:=zC (show n<l.length by omega)
  generalize l[n]'omg=v at hg
  unfold Rm
  unfold Jg
  dsimp only
  rw[Avu,zA]
  cases hs:vOk v with
  | false =>
   refine⟨_,false,rfl,rfl,?_⟩
   simp only[wP,false_iff]
   intro hk
   rw[hk.1 n v (wM n) hg] at hs
   cases hs
  | true =>
   by_cases hb:b<=v.Ts
   ·rw[if_neg smp,ifp hb]
    refine⟨_,false,rfl,rfl,?_⟩
    simp only[wP,false_iff]
    intro hk
    have:=hk.2.2 n v rfl hg
    omega
   ·rw[if_neg smp,if_neg (by simpa using hb)]
    obtain⟨e,r,h1,h2,h3⟩:=Alf l n v.Ts omg
    refine⟨e,r,h1,h2,h3.trans ⟨λhk=>⟨λi u hi hu=>?_,λi u w hi hu hw=>?_,λk u hk2 hu=>?_⟩,λhk=>⟨λi u hi hu=>hk.1 i u omg hu,λi u w hi hu hw=>hk.2.1 i u w omg hu hw,λk u hk2 hu=>?_⟩⟩⟩
    ·by_cases e:i=n
     ·subst e;rw[hg] at hu;cases hu;exact hs
     ·exact hk.1 i u omg hu
    ·by_cases e:i+1=n
     ·subst e;rw[hg] at hw;cases hw;exact hk.2.2 i u rfl hu
     ·exact hk.2.1 i u w omg hu hw
    ·have:k=n:=by omega
     subst this
     rw[hg] at hu;cases hu;omega
    ·subst hk2
     exact hk.2.1 k u v omg hu hg
theorem At1 (l:List Ak):OkN l l.length 1099511627777↔OkC l:=by
 constructor
 ·intro h
  exact⟨λi v hv=>h.1 i v (zB.1 hv).1 hv,λi v w hv hw=>h.2.1 i v w (zB.1 hw).1 hv hw⟩
 ·intro h
  refine⟨λi v _ hv=>h.each i v hv,λi v w _ hv hw=>h.asc i v w hv hw,λk v _ hv=>?_⟩
  have:=h.each k v hv
  unfold vOk at this
  simp only[zS,decide_eq_true_eq] at this
  omega
theorem X6 {c:Ac} (h:c.L.length<=1000):(Ev c=some true/\OkC c.L)\/(Ev c=some false/\¬ OkC c.L):=by
 obtain⟨e,r,h1,h2,h3⟩:=Alf c.L c.L.length 1099511627777 (zO _)
 have:Ev c=some r:=by
  unfold Ev
  rw[Acc h,zA,h1,zA,h2]
 rw[At1] at h3
 cases r with
 | true=>exact .inl ⟨this,h3.1 rfl⟩
 | false=>exact .inr ⟨this,λhk=>by have:=h3.2 hk;cases this⟩
def plc (l:List Ak) (t:Int):Nat->Int
 | 0=>-1
 | n+1=>match l[n]? with
  | some v=>if v.Ts<=t then(n:Int) else plc l t n
  | none=>-1
theorem Amm (l:List Ak) (t:Int):∀ (n:Nat) (s:Int),n<=l.length->∃ e,Rm (Js t) (Qf l n) s=some e/\Ad5 M7 M6 (λ_ _=>none) e=some (plc l t n)
 | 0,s,_=>⟨_,rfl,rfl⟩
 | n+1,s,h=>by
  rw[Qz omg]
  have hg:=zC (show n<l.length by omega)
  generalize l[n]'omg=v at hg
  unfold Rm Js plc
  rw[hg]
  dsimp only
  by_cases ht:v.Ts<=t
  ·rw[ifp ht,if_pos ht]
   exact⟨_,rfl,rfl⟩
  ·rw[if_neg (by simpa using ht),if_neg ht]
   exact Amm l t n s omg
theorem Agg {c:Ac} (h:c.L.length<=1000) (t:Int):Kj c t=some (plc c.L t c.L.length):=by
 obtain⟨e,h1,h2⟩:=Amm c.L t c.L.length 0 (zO _)
 unfold Kj
 rw[Acc h,zA,h1,zA,h2]
theorem Xj (l:List Ak) (t:Int):∀ n,n<=l.length -> -1<=plc l t n/\plc l t n<n/\(∀ k v,plc l t n=((k:Nat):Int)->l[k]? = some v->v.Ts<=t)/\∀ (j:Nat) v,plc l t n<j->j<n->l[j]? = some v->t<v.Ts
 | 0,_=>⟨by show(-1:Int) <= -1;omega,by show(-1:Int)<((0:Nat):Int);omega,λk v h=>by have h':(-1:Int)=k:=h;omega,λj v _ h=>by omega⟩
 | n+1,h=>by
  have hg:=zC (show n<l.length by omega)
  generalize l[n]'omg=u at hg
  obtain⟨h1,h2,h3,h4⟩:=Xj l t n omg
  unfold plc
  rw[hg]
  dsimp only
  by_cases ht:u.Ts<=t
  ·rw[if_pos ht]
   refine⟨by omega,by omega,λk v hk hv=>?_,λj v hj1 hj2 hv=>by omega⟩
   have:k=n:=by omega
   subst this
   rw[hg] at hv;cases hv;exact ht
  ·rw[if_neg ht]
   refine⟨h1,by omega,h3,λj v hj1 hj2 hv=>?_⟩
   by_cases e:j=n
   ·subst e;rw[hg] at hv;cases hv;omega
   ·exact h4 j v hj1 omg hv
theorem Aso {c:Ac} (h:c.L.length<=1000) {t:Int} (hp:plc c.L t c.L.length = -1):Eo c t=some (⟨0,[],false⟩,false):=by
 unfold Eo
 rw[Agg h,hp]
 rfl
theorem Asp {c:Ac} (h:c.L.length<=1000) {t:Int} {k:Nat} {v:Ak} (hp:plc c.L t c.L.length=k) (hv:c.L[k]? = some v):Eo c t=some (v,true):=by
 unfold Eo
 rw[Agg h,hp,zA,if_neg (by simp only[decide_eq_true_eq];omega),A3,hv]
 rfl
theorem Rc {c:Ac} {t:Int} {v:Ak} {b:Bool} (h:Eo c t=some (v,b)):Ep c t=some (if b && !v.Del then(v.Val,true) else([],false)):=by
 unfold Ep Mt
 rw[h,zA]
 cases b <;> cases v.Del <;> simp
def Oo (l:List Ak):Int:=match l[l.length-1]? with
 | some v=>v.Ts
 | none=>0
theorem Amc {c:Ac} (h:c.L.length<=1000):J0 c=some (Oo c.L):=by
 unfold J0 Oo
 rw[Acc h,zA]
 cases hn:c.L.length with
 | zero =>
  have:c.L=[]:=z7 hn
  rw[this]
  rfl
 | succ n =>
  rw[Qz omg,j4,zC (show n<c.L.length by omega)]
  rfl
theorem Ag6 {c:Ac} (h:c.L.length<=1000) {v:Ak} (hk:OkC c.L) (hv:vOk v=true) (hl:Oo c.L<v.Ts):Mv c v=some (⟨c.L++[v]⟩,0):=by
 unfold Mv
 rcases X6 (c:=⟨c.L⟩) h with⟨h1,h2⟩|⟨h1,h2⟩
 ·rw[h1,zA,Avu,zA,hv]
  unfold Nk
  have hn:¬ (decide (v.Ts<=Oo c.L)=true):=by rw[decide_eq_true_eq];omega
  rw[Amc h,zA,if_neg hn,Ub _ (by simp;omega) smp]
  simp
 ·exact absurd hk h2
def gone (l:List Ak) (t:Int):Nat:=match l[(plc l t l.length).toNat]? with
 | some v=>if plc l t l.length<0 then 0 else if v.Del then(plc l t l.length).toNat+1 else(plc l t l.length).toNat
 | none=>0
theorem Au9 {c:Ac} (h:c.L.length<=1000) (hk:OkC c.L) (t:Int):La c t=some ⟨c.L.drop (gone c.L t)⟩:=by
 obtain⟨p1,p2,_,_⟩:=Xj c.L t c.L.length (zO _)
 unfold La gone
 rw[Agg h,zA]
 by_cases h0:plc c.L t c.L.length<0
 ·rw[ifp h0]
  split
  ·rw[if_pos h0];rfl
  ·rfl
 ·rw[if_neg (by simpa using h0)]
  rcases X6 (c:=⟨c.L⟩) h with⟨h1,h2⟩|⟨h1,h2⟩
  ·rw[h1,zA,if_neg smp]
   unfold Lp
   have hg:=zC (show(plc c.L t c.L.length).toNat<c.L.length by omega)
   generalize c.L[(plc c.L t c.L.length).toNat]'omg=v at hg
   rw[Awn omg hg,zA,hg]
   dsimp only
   rw[if_neg h0]
   have key:∀ j:Nat,j<=c.L.length->Fe c (j:Int)=some ⟨c.L.drop j⟩:=λj hj=>by
    unfold Fe
    rw[Aaw omg omg omg,zA]
    have:(c.L.drop ((j:Int)).toNat).take (((c.L.length:Int)).toNat-((j:Int)).toNat)=c.L.drop j:=by
     rw[zT,zT]
     exact yO smp
    rw[this,U1 _ (by simp;omega)]
    rfl
   cases hd:v.Del with
   | true =>
    rw[if_pos rfl,if_pos rfl,wIo]
    have:=key ((plc c.L t c.L.length).toNat+1) omg
    rw[show(((plc c.L t c.L.length).toNat+1:Nat):Int)=plc c.L t c.L.length+1 by omega] at this
    exact this
   | false =>
    rw[if_neg smp,if_neg smp]
    have:=key ((plc c.L t c.L.length).toNat) omg
    rw[show(((plc c.L t c.L.length).toNat:Nat):Int)=plc c.L t c.L.length by omega] at this
    exact this
  ·exact absurd hk h2
theorem Akz:OkC []:=⟨λi v h=>by simp at h,λi v w h=>by simp at h⟩
theorem Ah0 {l:List Ak} (h:OkC l) {v:Ak} (hv:vOk v=true) (hl:Oo l<v.Ts):OkC (l++[v]):=by
 refine⟨λi u hu=>?_,λi u w hu hw=>?_⟩
 ·by_cases hi:i<l.length
  ·rw[zK hi] at hu;exact h.each i u hu
  ·rw[z2 omg] at hu
   cases hj:i-l.length with
   | zero=>rw[hj] at hu;cases hu;exact hv
   | succ j=>rw[hj] at hu;simp at hu
 ·by_cases hi:i+1<l.length
  ·rw[zK omg] at hu
   rw[zK hi] at hw
   exact h.asc i u w hu hw
  ·by_cases hi2:i<l.length
   ·rw[zK hi2] at hu
    rw[z2 omg,show i+1-l.length=0 by omega] at hw
    cases hw
    unfold Oo at hl
    rw[show l.length-1=i by omega,hu] at hl
    exact hl
   ·rw[z2 omg] at hw
    cases hj:i+1-l.length with
    | zero=>omega
    | succ j=>rw[hj] at hw;simp at hw
theorem Ag7 {l:List Ak} (h:OkC l) (n:Nat):OkC (l.drop n):=by
 refine⟨λi v hv=>?_,λi v w hv hw=>?_⟩
 ·rw[yH] at hv;exact h.each _ v hv
 ·rw[yH] at hv hw;exact h.asc (n+i) v w hv (by rw[jN];exact hw)
theorem Aqf {l:List Ak} (h:OkC l) (n:Nat):OkC (l.take n):=by
 refine⟨λi v hv=>?_,λi v w hv hw=>?_⟩
 ·rw[yF] at hv
  split at hv
  ·exact h.each _ v hv
  ·cases hv
 ·rw[yF] at hv hw
  split at hw
  ·rw[if_pos omg] at hv
   exact h.asc i v w hv hw
  ·cases hw
theorem Aqq {l:List Ak} (h:OkC l) {i:Nat} {v:Ak} (hv:l[i]? = some v):∀ (d:Nat) (w:Ak),l[i+d]? = some w->v.Ts<=w.Ts
 | 0,w,hw=>by rw[kF,hv] at hw;cases hw;exact xQ _
 | d+1,w,hw=>by
  have hlt:=(zB.1 hw).1
  have hg:=zC (show i+d<l.length by omega)
  have ih:=Aqq h hv d _ hg
  have:=h.asc (i+d) _ w hg (by rw[jN];exact hw)
  omega
def pc (l:List Ak) (t:Int):Nat:=(plc l t l.length+1).toNat
theorem Acs (l:List Ak) (t:Int):pc l t<=l.length:=by
 obtain⟨h1,h2,_,_⟩:=Xj l t l.length (zO _)
 unfold pc;omega
theorem Ahe (l:List Ak) (t:Int):plc l t l.length=(pc l t:Int)-1:=by
 obtain⟨h1,h2,_,_⟩:=Xj l t l.length (zO _)
 unfold pc;omega
theorem Xe {l:List Ak} (h:OkC l) (t:Int) {i:Nat} {v:Ak} (hv:l[i]? = some v):i<pc l t↔v.Ts<=t:=by
 obtain⟨h1,h2,h3,h4⟩:=Xj l t l.length (zO _)
 have hp:=Ahe l t
 have hlt:=(zB.1 hv).1
 constructor
 ·intro hi
  have hk:pc l t-1<l.length:=by have:=Acs l t;omega
  have hg:=zC hk
  have h5:=h3 (pc l t-1) _ omg hg
  have h6:=Aqq h hv (pc l t-1-i) _ (by rw[show i+(pc l t-1-i)=pc l t-1 by omega];exact hg)
  omega
 ·intro ht
  rcases zU i (pc l t) with hi|hi
  ·exact hi
  ·have:=h4 i v omg hlt hv
   omega
theorem Aws {l:List Ak} (h:OkC l) {t:Int} {n:Nat} (hn:n<=l.length) (ha:∀ (i:Nat) v,i<n->l[i]? = some v->v.Ts<=t) (hb:∀ (i:Nat) v,n<=i->l[i]? = some v->t<v.Ts):pc l t=n:=by
 have h1:=Acs l t
 rcases kN (pc l t) n with hl|hl|hl
 ·have hg:=zC (show pc l t<l.length by omega)
  have:=(Xe h t hg).2 (ha _ _ hl hg)
  omega
 ·exact hl
 ·have hg:=zC (show n<l.length by omega)
  have:=(Xe h t hg).1 hl
  have:=hb _ _ (zO _) hg
  omega
theorem Aud {l:List Ak} (h:OkC l) (t:Int) (n:Nat) (hn:n<=l.length):pc (l.drop n) t=pc l t-n:=by
 have h1:=Acs l t
 refine Aws (Ag7 h n) (by simp;omega) (λi v hi hv=>?_) (λi v hi hv=>?_)
 ·rw[yH] at hv
  exact(Xe h t hv).1 omg
 ·rw[yH] at hv
  rcases zU (n+i) (pc l t) with hlt|hge
  ·omega
  ·have:=mt (Xe h t hv).2 omg
   omega
theorem Asv {l:List Ak} (h:OkC l) {s t:Int} (hst:s<=t):pc l s<=pc l t:=by
 rcases zU (pc l t) (pc l s) with hl|hl
 ·have h1:=Acs l s
  have hg:=zC (show pc l t<l.length by omega)
  have h2:=(Xe h s hg).1 hl
  have:=(Xe h t hg).2 omg
  omega
 ·exact hl
theorem at0 {c:Ac} (h:c.L.length<=1000) {t:Int} (hp:pc c.L t=0):Eo c t=some (⟨0,[],false⟩,false) :=
 Aso h (by rw[Ahe,hp];rfl)
theorem at1 {c:Ac} (h:c.L.length<=1000) {t:Int} {v:Ak} (hp:0<pc c.L t) (hv:c.L[pc c.L t-1]? = some v):Eo c t=some (v,true) :=
 Asp h (by rw[Ahe];omega) hv
theorem Alp (l:List Ak) (t:Int):(pc l t=0/\gone l t=0)\/∃ v,0<pc l t/\l[pc l t-1]? = some v/\gone l t=if v.Del then pc l t else pc l t-1:=by
 have hp:=Ahe l t
 have hle:=Acs l t
 rcases kS (pc l t) with h0|h0
 ·left
  refine⟨h0,?_⟩
  unfold gone
  split
  ·rw[if_pos omg]
  ·rfl
 ·right
  have hg:=zC (show pc l t-1<l.length by omega)
  refine⟨_,h0,hg,?_⟩
  unfold gone
  rw[show(plc l t l.length).toNat=pc l t-1 by omega,hg]
  dsimp only
  rw[if_neg omg,show pc l t-1+1=pc l t by omega]
theorem Atc (l:List Ak) (t:Int):gone l t<=pc l t:=by
 rcases Alp l t with⟨h1,h2⟩|⟨v,h1,h2,h3⟩
 ·omega
 ·rw[h3];split <;> omega
theorem Aq1 {α:Type} (xs:List α) (p:Nat->α->Bool) (f:Int->Option (LR Int Unit Bool)) (hl:xs.length<=1000000000000000000)
  (h:∀ (i:Nat) x,xs[i]? = some x->f (i:Int)=some (if p i x then .ret false else .cont ((i+1:Nat):Int))) (hend:f (xs.length:Int)=some (.brk ())) :
  (∃ i x,xs[i]? = some x/\p i x=true/\Gj f fuel 0=some (.inl false))\/((∀ (i:Nat) x,xs[i]? = some x->p i x=false)/\Gj f fuel 0=some (.inr ())):=by
 obtain⟨b,hb,hr⟩:=Cr (f:=f) (P:=λs=>∃ i:Nat,i<=xs.length/\s=(i:Int)/\∀ j x,j<i->xs[j]? = some x->p j x=false) (μ:=λs=>xs.length-s.toNat)
  (R:=λr=>(r=.inl false/\∃ i x,xs[i]? = some x/\p i x=true)\/(r=.inr ()/\∀ (i:Nat) x,xs[i]? = some x->p i x=false)) (by
   rintro _ ⟨i,hi,rfl,hp⟩
   rcases zU i xs.length with hlt|hge
   ·have hx:=zC hlt
    have hf:=h i _ hx
    cases hpx:p i xs[i] with
    | true =>
     rw[hpx,if_pos rfl] at hf
     exact .inr (.inr ⟨false,hf,.inl ⟨rfl,i,_,hx,hpx⟩⟩)
    | false =>
     rw[hpx,if_neg dcd] at hf
     refine .inl ⟨_,hf,⟨i+1,hlt,rfl,λj x hj hx'=>?_⟩,by simp only[zT];omega⟩
     rcases j6.1 hj with h'|rfl
     ·exact hp j x h' hx'
     ·rw[hx] at hx';cases hx';exact hpx
   ·have e:i=xs.length:=by omega
    subst e
    exact .inr (.inl ⟨(),hend,.inr ⟨rfl,λj x hx=>hp j x (zB.1 hx).1 hx⟩⟩)) fuel 0 ⟨0,zZ _,rfl,λj x hj=>absurd hj (zW _)⟩ (Bs (by show xs.length-0<=_;omega))
 rcases hr with⟨rfl,i,x,hx,hp⟩|⟨rfl,hp⟩
 ·exact .inl ⟨i,x,hx,hp,hb⟩
 ·exact .inr ⟨hp,hb⟩
def kOk (k:List UInt8):Bool:=decide (1<=(k.length:Int))&&decide ((k.length:Int)<=16)
theorem kSane_m (k:List UInt8):Dr k=some (kOk k):=by
 unfold Dr kOk
 by_cases h:1<=(k.length:Int)
 ·rw[ifp h,decide_eq_true h,wY]
 ·rw[ifn h,decide_eq_false h,Bool.false_and]
theorem Ae0:∀ (xs:Keys),(∀ (j:Nat) x y,xs[j]? = some x->xs[j+1]? = some y->Dp x y<0)->PW xs
 | [],_=>List.Pairwise.nil
 | [_],_=>wT _ _
 | x::y::l,h=>by
  have ih:PW (y::l):=Ae0 (y::l) λj a b ha hb=>h (j+1) a b ha hb
  have hxy:Dp x y<0:=h 0 x y rfl rfl
  refine xP.2 ⟨λz hz=>?_,ih⟩
  rcases yM.1 hz with rfl|hz
  ·exact hxy
  ·have:=(xP.1 ih).1 z hz
   exact(Ks (jA hxy) (jA this)).2 (.inl hxy)
theorem sorted_conv {xs:Keys} (hn:xs.length<=1000000000000000000) (h:B6 xs=some true):PW xs:=by
 refine Ae0 xs ?_
 obtain⟨v,hv,hr⟩:=Cr (f:=Ce xs) (P:=λs=>∃ i:Nat,s=(i:Int)/\1<=i/\∀ (j:Nat) x y,j+1<i->xs[j]? = some x->xs[j+1]? = some y->Dp x y<0) (μ:=λs=>xs.length-s.toNat)
  (R:=λv=>v=.inl false\/(v=.inr ()/\∀ (j:Nat) x y,xs[j]? = some x->xs[j+1]? = some y->Dp x y<0)) (by
  rintro _ ⟨i,rfl,h1,hadj⟩
  unfold Ce
  by_cases hi:i<xs.length
  ·rw[ifo,wIo,show(i:Int)-1=((i-1:Nat):Int) from by omega,A3,A3,zC hi,zC (show i-1<xs.length by omega)]
   simp only[zA,Acl]
   by_cases hc:0<=Dp xs[i-1] xs[i]
   ·rw[ifp hc]
    exact .inr (.inr ⟨false,rfl,.inl rfl⟩)
   ·rw[ifn hc]
    refine .inl ⟨_,rfl,⟨i+1,by rw[wIo];rfl,by omega,λj x y hj hx hy=>?_⟩,by rw[wIo];omega⟩
    rcases zU (j+1) i with h'|h'
    ·exact hadj j x y h' hx hy
    ·have e:j=i-1:=by omega
     subst e
     rw[zC (show i-1<xs.length by omega)] at hx
     rw[show i-1+1=i by omega,zC hi] at hy
     cases hx;cases hy
     omega
  ·right;left
   rw[ifq]
   refine⟨_,rfl,.inr ⟨rfl,λj x y hx hy=>hadj j x y ?_ hx hy⟩⟩
   have:=(zB.1 hy).1
   omega) fuel 1 ⟨1,rfl,zO _,λj x y hj=>by omega⟩ (Bs (by show xs.length-1<=_;omega))
 unfold B6 at h
 rw[hv] at h
 rcases hr with rfl|⟨rfl,hr⟩
 ·cases h
 ·exact hr
theorem R6 (xs:Keys) (hn:xs.length<=1000000000000000000):∃ b,El xs=some b/\(b=true↔(∀ k∈xs,kOk k=true)/\PW xs):=by
 unfold El
 rcases Aq1 xs (λ_ k=>!kOk k) (Ea xs) hn (λi x hx=>by
  have hlt:=(zB.1 hx).1
  unfold Ea
  rw[ifo,A3,hx,zA,kSane_m,zA]
  cases kOk x with
  | false=>rfl
  | true=>rw[if_neg dcd,if_neg dcd,wIo];rfl) (by
  unfold Ea
  rw[ifq]) with⟨i,x,hx,hp,e⟩|⟨hp,e⟩
 ·rw[e]
  refine⟨false,rfl,⟨λh=>(by cases h),λh=>?_⟩⟩
  rw[h.1 x (zG hx)] at hp
  cases hp
 ·rw[e,zA]
  unfold I6
  obtain⟨v,hv⟩:=sorted_some xs hn
  rw[hv]
  refine⟨v,rfl,⟨λh=>⟨λk hk=>?_,?_⟩,λh=>?_⟩⟩
  ·obtain⟨i,hi⟩:=xJ.1 hk
   have:=hp i k hi
   simpa using this
  ·subst h;exact sorted_conv hn hv
  ·rw[Za h.2 hn] at hv
   exact(zD hv).symm
structure OkS (K:Keys) (C:List Ac) (T:Int) (B:Nat):Prop where
 t0:0<=T
 t1:T<=1099511627776
 cl:C.length=K.length
 ks:∀ k∈K,kOk k=true
 pw:PW K
 cs:∀ c∈C,c.L≠[]/\OkC c.L/\Oo c.L<=T/\c.L.length<=B
theorem ssane_m {K:Keys} {C:List Ac} {T:Int} {B:Nat} (h:OkS K C T B) (hB:B<=1000) (hk:K.length<=128):Cy ⟨K,C,T⟩=some true:=by
 unfold Cy
 have h0:=h.t0
 have h1:=h.t1
 have hcl:=h.cl
 rw[if_neg (by rw[decide_eq_true_eq];dsimp only;omega),if_neg (by rw[decide_eq_true_eq];dsimp only;omega),if_neg (by rw[decide_eq_true_eq];dsimp only;omega),if_neg (by rw[decide_eq_true (by dsimp only;omega)];decide)]
 obtain⟨b,hb,hb2⟩:=R6 K omg
 have:b=true:=hb2.2 ⟨h.ks,h.pw⟩
 subst this
 show(El K).bind _=_
 rw[hb,zA,if_neg dcd]
 unfold Ob
 rcases Aq1 C (λ_ _=>false) (Hu ⟨K,C,T⟩) omg (λi x hx=>by
  have hlt:=(zB.1 hx).1
  obtain⟨c1,c2,c3,c4⟩:=h.cs x (zG hx)
  unfold Hu
  dsimp only
  rw[ifo,A3,hx,zA]
  have hne:x.L.length≠0:=λe=>c1 (z7 e)
  rw[ifq]
  rcases X6 (c:=x) omg with⟨e,_⟩|⟨_,e⟩
  ·rw[e,zA,if_neg dcd,Amc (c:=x) omg,zA,ifq,if_neg dcd,wIo]
   rfl
  ·exact absurd c2 e) (by
  unfold Hu
  dsimp only
  rw[ifq]) with⟨i,x,hx,hp,e⟩|⟨hp,e⟩
 ·cases hp
 ·rw[e];rfl
def wOk (w:Ae):Bool:=decide ((w.Val.length:Int)<=32) && !(w.Del&&decide (0<(w.Val.length:Int)))
theorem Aei (l:List Ae) (hn:l.length<=1000000):∃ b,Gv l=some b/\(b=true->(∀ w∈l,wOk w=true)/\(∀ w∈l,kOk w.Key=true)/\PW (l.map (·.Key))):=by
 unfold Gv
 obtain⟨v,hv,hr⟩:=Cr (f:=E4 l) (P:=λs=>∃ i:Nat,i<=l.length/\s=((i:Int),(l.take i).map (·.Key))/\∀ w∈l.take i,wOk w=true) (μ:=λs=>l.length-s.1.toNat)
  (R:=λv=>v=.inl false\/(v=.inr (l.map (·.Key))/\∀ w∈l,wOk w=true)) (by
   rintro _ ⟨i,hi,rfl,hw⟩
   unfold E4
   dsimp only
   rcases zU i l.length with hlt|hge
   ·have hx:=zC hlt
    rw[ifo,A3,hx,zA]
    have hk5:Di ((i:Int),(l.take i).map (·.Key)) l[i] ()=some (.cont (((i+1:Nat):Int),(l.take (i+1)).map (·.Key))):=by
     unfold Di
     dsimp only
     rw[if_pos (by rw[zY,zN,yD];omega),wIo,zV hlt,xC]
     rfl
    by_cases h1:32<(l[i].Val.length:Int)
    ·rw[ifp h1];exact .inr (.inr ⟨false,rfl,.inl rfl⟩)
    rw[ifn h1]
    have hnext:wOk l[i]=true->∀ w∈l.take (i+1),wOk w=true:=λhwi w hm=>by
     rw[zV hlt] at hm
     rcases yC.1 hm with hm|hm
     ·exact hw w hm
     ·rw[zP.1 hm];exact hwi
    cases hd:l[i].Del with
    | true =>
     rw[if_pos rfl]
     by_cases h2:0<(l[i].Val.length:Int)
     ·rw[ifp h2];exact .inr (.inr ⟨false,rfl,.inl rfl⟩)
     ·rw[ifn h2,hk5]
      refine .inl ⟨_,rfl,⟨i+1,hlt,rfl,hnext ?_⟩,by simp only[zT];omega⟩
      unfold wOk
      rw[decide_eq_true omg,hd,decide_eq_false h2]
      rfl
    | false =>
     rw[if_neg dcd,hk5]
     refine .inl ⟨_,rfl,⟨i+1,hlt,rfl,hnext ?_⟩,by simp only[zT];omega⟩
     unfold wOk
     rw[decide_eq_true omg,hd]
     rfl
   ·have e:i=l.length:=by omega
    subst e
    rw[ifq]
    rw[yJ] at hw ⊢
    exact .inr (.inl ⟨_,rfl,.inr ⟨rfl,hw⟩⟩)) fuel (0,[]) ⟨0,zZ _,rfl,λw h=>by simp at h⟩ (Bs (by show l.length-0<=_;omega))
 rw[hv,zA]
 rcases hr with rfl|⟨rfl,hw⟩
 ·exact⟨false,rfl,λh=>(by cases h)⟩
 ·show ∃ b,E3 (l.map (·.Key))=some b/\_
  unfold E3
  obtain⟨b,hb,hb2⟩:=R6 (l.map (·.Key)) (by rw[zY];omega)
  rw[hb]
  refine⟨b,rfl,λh=>?_⟩
  obtain⟨h1,h2⟩:=hb2.1 h
  exact⟨hw,λw hm=>h1 w.Key (z8.2 ⟨w,hm,rfl⟩),h2⟩
def At (K:Keys) (C:List Ac) (k:List UInt8) (c:Ac):Prop:=∃ i:Nat,K[i]? = some k/\C[i]? = some c
theorem Ad6 {K:Keys} (h:PW K) {i j:Nat} {k:List UInt8} (hi:K[i]? = some k) (hj:K[j]? = some k):i=j:=by
 obtain⟨hi1,hi2⟩:=zB.1 hi
 obtain⟨hj1,hj2⟩:=zB.1 hj
 rcases kN i j with h'|h'|h'
 ·have:=yN.1 h i j hi1 hj1 h'
  rw[hi2,hj2,cmpL_self] at this;omega
 ·exact h'
 ·have:=yN.1 h j i hj1 hi1 h'
  rw[hi2,hj2,cmpL_self] at this;omega
theorem X2 {K:Keys} {k:List UInt8} (h:hit K k=true):K[kat K k]? = some k:=by
 unfold hit at h
 exact eq_of_beq h
theorem At.uniq {K:Keys} {C:List Ac} {k:List UInt8} {c d:Ac} (h:PW K) (hc:At K C k c) (hd:At K C k d):c=d:=by
 obtain⟨i,h1,h2⟩:=hc
 obtain⟨j,h3,h4⟩:=hd
 have:=Ad6 h h1 h3
 subst this
 rw[h2] at h4
 exact zD h4
theorem At.hit {K:Keys} {C:List Ac} {k:List UInt8} {c:Ac} (h:PW K) (hc:At K C k c):Go.Proofs.YtkblaobhhoebaaaGreat.Abs.bf.hit K k=true/\C[kat K k]? = some c:=by
 obtain⟨i,h1,h2⟩:=hc
 have hh:=(Aga h).2 (zG h1)
 have:=Ad6 h h1 (X2 hh)
 subst this
 exact⟨hh,h2⟩
theorem At.of_hit {K:Keys} {C:List Ac} {k:List UInt8} (hl:C.length=K.length) (h:Go.Proofs.YtkblaobhhoebaaaGreat.Abs.bf.hit K k=true):∃ c,At K C k c/\C[kat K k]? = some c:=by
 have hlt:=Aqu h
 exact⟨C[kat K k]'omg,⟨_,X2 h,zC omg⟩,zC omg⟩
abbrev ver (ts:Int) (w:Ae):Ak:=Ak.mk ts w.Val w.Del
def Auz (K:Keys) (C:List Ac) (ts:Int) (w:Ae) (c:Ac):Prop:=(∃ c0,At K C w.Key c0/\c.L=c0.L++[ver ts w])\/((¬ ∃ c0,At K C w.Key c0)/\c.L=[ver ts w])
theorem Anj {ts:Int} {w:Ae} (h1:1<=ts) (h2:ts<=1099511627776) (hw:wOk w=true):vOk (ver ts w)=true:=by
 unfold wOk at hw
 unfold vOk ver
 dsimp only
 rw[decide_eq_true h1,decide_eq_true h2,wY,wY]
 exact hw
theorem Ake {α:Type} {by_:Nat} {xs:List α} {i:Nat} {x:α} (hi:i<=xs.length) (hb:(xs.length+1)*by_<=140737488355328):An9 by_ xs (i:Int) [x]=some (xs.take i++x::xs.drop i):=by
 unfold An9
 dsimp only
 rw[if_pos ⟨⟨by omega,by omega⟩,hb⟩,zT]
theorem Amn {α:Type} {xs:List α} {p:Nat} {x:α} (hp:p<=xs.length) (i:Nat):(xs.take p++x::xs.drop p)[i]? = if i<p then xs[i]? else if i=p then some x else xs[i-1]? := by
 rw[List.getElem?_append,zN,wV hp]
 split
 ·next h=>rw[yF,if_pos h]
 ·next h =>
  split
  ·next h2=>rw[h2,jG];rfl
  ·next h2 =>
   rw[show i-p=(i-p-1)+1 by omega,jL,yH]
   congr 1;omega
structure OkP (K:Keys) (C:List Ac) (B:Nat):Prop where
 cl:C.length=K.length
 ks:∀ k∈K,kOk k=true
 pw:PW K
 cs:∀ c∈C,OkC c.L/\c.L.length<=B
theorem Ayx {K:Keys} {C:List Ac} {B:Nat} (h:OkP K C B) (hB:B<=1000) (hK:K.length<=100000) {ts:Int} (ht:1<=ts/\ts<=1099511627776) {w:Ae} (hw:wOk w=true) (hk:kOk w.Key=true)
  (hlast:∀ c,At K C w.Key c->Oo c.L<ts) :
  ∃ K' C',Nc K C ts w=some (ts,K',C')/\PW K'/\C'.length=K'.length/\(∀ k∈K',kOk k=true)/\K'.length<=K.length+1/\(∃ c,At K' C' w.Key c) /\
   (∀ c,At K' C' w.Key c->Auz K C ts w c)/\(∀ k c,k≠w.Key->(At K' C' k c↔At K C k c)):=by
 have hcl:=h.cl
 have hv:=Anj ht.1 ht.2 hw
 unfold Nc
 rw[Ast K w.Key omg,zA]
 cases hh:hit K w.Key with
 | true =>
  rw[if_neg (λh=>Bool.noConfusion h)]
  obtain⟨c0,hat,hget⟩:=At.of_hit hcl hh
  obtain⟨hc1,hc2⟩:=h.cs c0 (zG hget)
  have hlt:kat K w.Key<C.length:=(zB.1 hget).1
  refine⟨K,C.set (kat K w.Key) ⟨c0.L++[ver ts w]⟩,?_,h.pw,by rw[yS];exact hcl,h.ks,by omega,⟨_,_,X2 hh,zI hlt⟩,?_,?_⟩
  ·unfold E2
   dsimp only
   rw[A3,hget,zA,Ag6 (c:=c0) omg hc1 hv (hlast c0 hat),zA,ifp rfl,zA,zT]
  ·rintro c ⟨i,h1,h2⟩
   have:=Ad6 h.pw h1 (X2 hh)
   subst this
   rw[zI hlt] at h2
   cases h2
   exact .inl ⟨c0,hat,rfl⟩
  ·intro k c hne
   constructor
   ·rintro⟨i,h1,h2⟩
    refine⟨i,h1,?_⟩
    rw[zM] at h2
    ·exact h2
    ·intro e;subst e;rw[X2 hh] at h1;exact hne (zD h1).symm
   ·rintro⟨i,h1,h2⟩
    refine⟨i,h1,?_⟩
    rw[zM]
    ·exact h2
    ·intro e;subst e;rw[X2 hh] at h1;exact hne (zD h1).symm
 | false =>
  have hnot:¬ ∃ c0,At K C w.Key c0:=λ⟨c0,hc0⟩=>by rw[(At.hit h.pw hc0).1] at hh;cases hh
  have hle:=An4 K w.Key
  have hK':ins K w.Key=K.take (kat K w.Key)++w.Key::K.drop (kat K w.Key):=by unfold ins;rw[hh];rfl
  rw[if_pos (show(!((kat K w.Key:Int),false).2)=true from rfl)]
  show ∃ K' C',((An9 24 K ((kat K w.Key:Nat):Int) [w.Key]).bind λv6=>(An9 24 C ((kat K w.Key:Nat):Int) [(Ac.mk ([]:List Ak))]).bind λv7=>E2 ts w ((kat K w.Key:Int),false) (v6,v7))=_/\_
  rw[Ake hle omg,zA,Ake omg omg,zA]
  have hgK:=Amn (xs:=K) (x:=w.Key) hle
  have hgC:=Amn (xs:=C) (x:=(Ac.mk ([]:List Ak))) (p:=kat K w.Key) omg
  have hlen:(C.take (kat K w.Key)++(Ac.mk ([]:List Ak))::C.drop (kat K w.Key)).length=C.length+1:=by
   rw[zH,xD,zN,yB];omega
  have hlenK:(K.take (kat K w.Key)++w.Key::K.drop (kat K w.Key)).length=K.length+1:=by
   rw[zH,xD,zN,yB];omega
  have hpl:kat K w.Key<(C.take (kat K w.Key)++(Ac.mk ([]:List Ak))::C.drop (kat K w.Key)).length:=by rw[hlen];omega
  have hgp:(C.take (kat K w.Key)++(Ac.mk ([]:List Ak))::C.drop (kat K w.Key))[kat K w.Key]? = some (Ac.mk ([]:List Ak)):=by
   rw[hgC,if_neg (wS _),if_pos rfl]
  have hgkp:(K.take (kat K w.Key)++w.Key::K.drop (kat K w.Key))[kat K w.Key]? = some w.Key:=by
   rw[hgK,if_neg (wS _),if_pos rfl]
  have hpw':PW (K.take (kat K w.Key)++w.Key::K.drop (kat K w.Key)):=by rw[<- hK'];exact Ary h.pw
  refine⟨_,(C.take (kat K w.Key)++(Ac.mk ([]:List Ak))::C.drop (kat K w.Key)).set (kat K w.Key) ⟨[]++[ver ts w]⟩,?_,hpw',by rw[yS,hlen,hlenK];omega,λk hkm=>?_,by rw[hlenK];exact zO _,
   ⟨_,_,hgkp,zI hpl⟩,?_,?_⟩
  ·unfold E2
   dsimp only
   rw[A3,hgp,zA,Ag6 (c:=⟨[]⟩) (zZ _) Akz hv (by show(0:Int)<ts;omega),zA,ifp rfl,zA,zT]
  ·rw[<- hK'] at hkm
   rcases As1.1 hkm with rfl|hm
   ·exact hk
   ·exact h.ks k hm
  ·rintro c ⟨i,h1,h2⟩
   have:=Ad6 hpw' h1 hgkp
   subst this
   rw[zI hpl] at h2
   cases h2
   exact .inr ⟨hnot,rfl⟩
  ·intro k c hne
   have hK2:∀ i,(K.take (kat K w.Key)++w.Key::K.drop (kat K w.Key))[i]? = some k->i≠kat K w.Key:=λi hi e=>by
    subst e;rw[hgkp] at hi;exact hne (zD hi).symm
   constructor
   ·rintro⟨i,h1,h2⟩
    have hip:=hK2 i h1
    rw[zM (λe=>hip e.symm),hgC] at h2
    rw[hgK] at h1
    split at h1
    ·next hlt=>rw[if_pos hlt] at h2;exact⟨i,h1,h2⟩
    ·next hlt =>
     rw[if_neg hlt,if_neg hip] at h2
     exact⟨i-1,h1,h2⟩
   ·rintro⟨i,h1,h2⟩
    rcases zU i (kat K w.Key) with hlt|hge
    ·refine⟨i,?_,?_⟩
     ·rw[hgK,if_pos hlt];exact h1
     ·rw[zM omg,hgC,if_pos hlt];exact h2
    ·refine⟨i+1,?_,?_⟩
     ·rw[hgK,if_neg omg,if_neg omg];exact h1
     ·rw[zM omg,hgC,if_neg omg,if_neg omg];exact h2
theorem At.mem {K:Keys} {C:List Ac} (hl:C.length=K.length) {c:Ac} (hc:c∈C):∃ k,At K C k c:=by
 obtain⟨i,hi⟩:=xJ.1 hc
 have hlt:=(zB.1 hi).1
 exact⟨K[i]'omg,i,zC omg,hi⟩
theorem Aeu (l:List Ak) (v:Ak):Oo (l++[v])=v.Ts:=by
 unfold Oo
 rw[zH,yD,j4,z2 (zO _),jG]
 rfl
theorem Auz.ok {K:Keys} {C:List Ac} {B:Nat} (h:∀ c∈C,OkC c.L/\c.L.length<=B) {ts:Int} (ht:1<=ts/\ts<=1099511627776) {w:Ae} (hw:wOk w=true) (hlast:∀ c,At K C w.Key c->Oo c.L<ts) {c:Ac} (g:Auz K C ts w c) :
  OkC c.L/\c.L.length<=B+1/\c.L≠[]/\Oo c.L=ts:=by
 have hv:=Anj ht.1 ht.2 hw
 rcases g with⟨c0,hat,e⟩|⟨_,e⟩
 ·obtain⟨i,_,hi⟩:=hat
  obtain⟨h1,h2⟩:=h c0 (zG hi)
  rw[e]
  exact⟨Ah0 h1 hv (hlast c0 ⟨i,‹_›,hi⟩),by rw[zH,yD];omega,by simp,Aeu _ _⟩
 ·rw[e]
  have:=Ah0 Akz hv (by show(0:Int)<ts;omega)
  exact⟨this,by show 1<=B+1;omega,by simp,Aeu [] _⟩
structure Laid (K:Keys) (C:List Ac) (ts:Int) (l:List Ae) (K':Keys) (C':List Ac):Prop where
 pw:PW K'
 cl:C'.length=K'.length
 ks:∀ k∈K',kOk k=true
 len:K'.length<=K.length+l.length
 is:∀ w∈l,∃ c,At K' C' w.Key c
 new:∀ w∈l,∀ c,At K' C' w.Key c->Auz K C ts w c
 old:∀ k c,(∀ w∈l,w.Key≠k)->(At K' C' k c↔At K C k c)
theorem Awv {K:Keys} {C:List Ac} {T:Int} {B:Nat} (h:OkS K C T B) (hB:B<1000) (hK:K.length<=128) {ts:Int} (ht:T<ts/\ts<=1099511627776) (l:List Ae) (hl:l.length<=1000)
  (hw:∀ w∈l,wOk w=true) (hk:∀ w∈l,kOk w.Key=true) (hp:PW (l.map (·.Key))) :
  ∃ K' C',B8 (Et l) fuel (0,K,C,ts)=some (K',C',ts)/\Laid K C ts l K' C':=by
 have h0:=h.t0
 have hlast0:∀ k c,At K C k c->Oo c.L<ts:=λk c ⟨i,_,hi⟩=>by
  have:=(h.cs c (zG hi)).2.2.1
  omega
 have hcs0:∀ c∈C,OkC c.L/\c.L.length<=B:=λc hc=>⟨(h.cs c hc).2.1,(h.cs c hc).2.2.2⟩
 obtain⟨v,hv,hr⟩:=Cj (f:=Et l) (P:=λs=>∃ i:Nat,i<=l.length/\s.1=(i:Int)/\s.2.2.2=ts/\Laid K C ts (l.take i) s.2.1 s.2.2.1) (μ:=λs=>l.length-s.1.toNat)
  (R:=λv=>v.2.2=ts/\Laid K C ts l v.1 v.2.1) (by
   rintro⟨_,K1,C1,t1⟩ ⟨i,hi,rfl,ht1,hL⟩
   have ht1:t1=ts:=ht1
   have hL:Laid K C ts (l.take i) K1 C1:=hL
   unfold Et
   dsimp only
   rw[ht1]
   rcases zU i l.length with hlt|hge
   ·have hx:=zC hlt
    have hxm:=xZ hlt
    rw[ifo,A3,hx,zA]
    have hfresh:∀ w∈l.take i,w.Key≠l[i].Key:=λw hm e=>by
     obtain⟨j,hj⟩:=xJ.1 hm
     rw[yF] at hj
     split at hj
     ·next hji =>
      have h1:(l.map (·.Key))[j]? = some w.Key:=by rw[zQ,hj];rfl
      have h2:(l.map (·.Key))[i]? = some l[i].Key:=by rw[zQ,hx];rfl
      have:=Ad6 hp h1 (by rw[e];exact h2)
      omega
     ·cases hj
    have hOk1:∀ c∈C1,OkC c.L/\c.L.length<=B+1:=λc hc=>by
     obtain⟨k,hat⟩:=At.mem hL.cl hc
     by_cases hex:∃ w∈l.take i,w.Key=k
     ·obtain⟨w,hwm,rfl⟩:=hex
      have:=Auz.ok hcs0 ⟨by omega,ht.2⟩ (hw w (List.mem_of_mem_take hwm)) (hlast0 _) (hL.new w hwm c hat)
      exact⟨this.1,this.2.1⟩
     ·have:=(hL.old k c (λw hwm e=>hex ⟨w,hwm,e⟩)).1 hat
      obtain⟨j,_,hj⟩:=this
      have:=hcs0 c (zG hj)
      exact⟨this.1,by omega⟩
    have hat1:∀ c,At K1 C1 l[i].Key c↔At K C l[i].Key c:=λc=>hL.old _ c hfresh
    obtain⟨K2,C2,e2,p2,c2,k2,n2,is2,new2,old2⟩:=Ayx (B:=B+1) ⟨hL.cl,hL.ks,hL.pw,hOk1⟩ omg (by have:=hL.len;rw[zN] at this;omega) (ts:=ts) ⟨by omega,ht.2⟩ (hw _ hxm) (hk _ hxm) (λc hc=>hlast0 _ c ((hat1 c).1 hc))
    rw[e2,zA]
    dsimp only
    refine .inl ⟨_,rfl,⟨i+1,hlt,by dsimp only;rw[wIo];rfl,rfl,⟨p2,c2,k2,?_,?_,?_,?_⟩⟩,by dsimp only;rw[wIo];omega⟩
    ·have:=hL.len
     rw[zN] at this ⊢
     show K2.length<=_
     omega
    ·intro w hwm
     rw[zV hlt] at hwm
     rcases yC.1 hwm with hwm|hwm
     ·obtain⟨c,hc⟩:=hL.is w hwm
      exact⟨c,(old2 _ c (hfresh w hwm)).2 hc⟩
     ·rw[zP.1 hwm];exact is2
    ·intro w hwm c hc
     rw[zV hlt] at hwm
     rcases yC.1 hwm with hwm|hwm
     ·exact hL.new w hwm c ((old2 _ c (hfresh w hwm)).1 hc)
     ·rw[zP.1 hwm] at hc ⊢
      rcases new2 c hc with⟨c0,hc0,e⟩|⟨hn,e⟩
      ·exact .inl ⟨c0,(hat1 c0).1 hc0,e⟩
      ·exact .inr ⟨λ⟨c0,hc0⟩=>hn ⟨c0,(hat1 c0).2 hc0⟩,e⟩
    ·intro k c hne
     have h1:k≠l[i].Key:=λe=>hne l[i] (by rw[zV hlt];exact wA _ (zP.2 rfl)) e.symm
     have h2:∀ w∈l.take i,w.Key≠k:=λw hwm=>hne w (by rw[zV hlt];exact xN _ hwm)
     exact(old2 k c h1).trans (hL.old k c h2)
   ·have e:i=l.length:=by omega
    subst e
    rw[yJ] at hL
    rw[ifq]
    exact .inr ⟨_,rfl,rfl,hL⟩) fuel (0,K,C,ts) ⟨0,zZ _,rfl,rfl,⟨h.pw,h.cl,h.ks,by simp,λw hw=>by simp at hw,λw hw=>by simp at hw,λk c _=>Iff.rfl⟩⟩ (Bs (by show l.length-0<=_;omega))
 obtain⟨K',C',T'⟩:=v
 obtain⟨rfl,hr⟩:=hr
 exact⟨K',C',hv,hr⟩
abbrev zstore:Bc:=Bc.mk ([]:List (List UInt8)) ([]:List Ac) 0
theorem install_m {K:Keys} {C:List Ac} {T:Int} {B:Nat} (h:OkS K C T B) (hB:B<1000) (hK:K.length<=128) (ts:Int) (l:List Ae) (hl:l.length<=1000) :
  (∃ e,(e=1\/(e=7/\¬ (T<ts/\ts<=1099511627776))\/e=8)/\Dq ⟨K,C,T⟩ ts l=some (zstore,e)) \/
  ∃ K' C',Dq ⟨K,C,T⟩ ts l=some (⟨K',C',ts⟩,0)/\(T<ts/\ts<=1099511627776)/\(∀ w∈l,wOk w=true)/\PW (l.map (·.Key))/\K'.length<=128/\Laid K C ts l K' C'/\OkS K' C' ts (B+1):=by
 unfold Dq
 show(∃ e,_/\(Cy ⟨K,C,T⟩).bind _=_)\/∃ K' C',(Cy ⟨K,C,T⟩).bind _=_/\_
 rw[ssane_m h omg hK,zA,if_neg dcd]
 obtain⟨b,hb,hb2⟩:=Aei l omg
 rw[hb,zA]
 cases b with
 | false=>exact .inl ⟨1,.inl rfl,rfl⟩
 | true =>
 obtain⟨hw,hk,hp⟩:=hb2 rfl
 rw[if_neg dcd]
 unfold Jy
 dsimp only
 by_cases h1:ts<=T
 ·rw[ifp h1];exact .inl ⟨7,.inr (.inl ⟨rfl,by omega⟩),rfl⟩
 rw[ifn h1]
 by_cases h2:1099511627776<ts
 ·rw[ifp h2];exact .inl ⟨7,.inr (.inl ⟨rfl,by omega⟩),rfl⟩
 rw[ifn h2]
 unfold J5
 have hcl:=h.cl
 have e1:Jh K=some K:=by
  unfold Jh
  rw[if_pos (by simp only[kV];omega)];rfl
 have e2:Jo C=some C:=by
  unfold Jo
  rw[if_pos (by simp only[kV];omega)];rfl
 dsimp only
 rw[e1,zA,e2,zA]
 obtain⟨K',C',e3,hL⟩:=Awv h hB hK (ts:=ts) ⟨by omega,by omega⟩ l hl hw hk hp
 rw[e3,zA]
 unfold Kd
 dsimp only
 by_cases h8:128<(K'.length:Int)
 ·rw[ifp h8];exact .inl ⟨8,.inr (.inr rfl),rfl⟩
 rw[ifn h8]
 refine .inr ⟨K',C',rfl,⟨by omega,by omega⟩,hw,hp,by omega,hL,⟨by have:=h.t0;omega,by omega,hL.cl,hL.ks,hL.pw,λc hc=>?_⟩⟩
 obtain⟨k,hat⟩:=At.mem hL.cl hc
 by_cases hex:∃ w∈l,w.Key=k
 ·obtain⟨w,hwm,rfl⟩:=hex
  have hh:=Auz.ok (B:=B) (λc hc=>⟨(h.cs c hc).2.1,(h.cs c hc).2.2.2⟩) ⟨by have:=h.t0;omega,by omega⟩ (hw w hwm) (λc ⟨i,_,hi⟩=>by have:=(h.cs c (zG hi)).2.2.1;omega) (hL.new w hwm c hat)
  exact⟨hh.2.2.1,hh.1,Int.le_of_eq hh.2.2.2,hh.2.1⟩
 ·obtain⟨i,_,hi⟩:=(hL.old k c (λw hwm e=>hex ⟨w,hwm,e⟩)).1 hat
  have:=h.cs c (zG hi)
  exact⟨this.1,this.2.1,by omega,by omega⟩
theorem OkS.mono {K:Keys} {C:List Ac} {T:Int} {B B':Nat} (h:OkS K C T B) (hb:B<=B'):OkS K C T B' :=
 ⟨h.t0,h.t1,h.cl,h.ks,h.pw,λc hc=>⟨(h.cs c hc).1,(h.cs c hc).2.1,(h.cs c hc).2.2.1,yP (h.cs c hc).2.2.2 hb⟩⟩
def Zl (l:List Ak) (t:Int):List UInt8×Bool:=match pc l t with
 | 0=>([],false)
 | n+1=>match l[n]? with
  | some v=>if v.Del then([],false) else(v.Val,true)
  | none=>([],false)
theorem Acd {c:Ac} (h:c.L.length<=1000) (t:Int):Ep c t=some (Zl c.L t):=by
 have hle:=Acs c.L t
 unfold Zl
 cases hp:pc c.L t with
 | zero =>
  rw[Rc (at0 h hp)]
  rfl
 | succ n =>
  have hx:c.L[n]? = some (c.L[n]'omg):=zC omg
  rw[Rc (at1 (t:=t) h omg (by rw[hp];exact hx))]
  dsimp only
  rw[hx]
  dsimp only
  cases (c.L[n]'omg).Del <;> rfl
theorem Xv {l:List Ak} {v:Ak} (h:OkC (l++[v])) {t:Int} (ht:t<v.Ts):Zl (l++[v]) t=Zl l t:=by
 have hl:OkC l:=by
  have:=Aqf h l.length
  rwa [List.take_left] at this
 have hle:=Acs l t
 have e:pc (l++[v]) t=pc l t:=by
  refine Aws h (by rw[zH];omega) (λi u hi hu=>?_) (λi u hi hu=>?_)
  ·rw[zK omg] at hu
   exact(Xe hl t hu).1 hi
  ·rcases zU i l.length with hlt|hge
   ·rw[zK hlt] at hu
    have:¬ u.Ts<=t:=λhh=>by have:=(Xe hl t hu).2 hh;omega
    omega
   ·rw[z2 hge] at hu
    have:i-l.length=0:=by
     have:=(zB.1 hu).1
     rw[yD] at this;omega
    rw[this] at hu
    cases hu
    exact ht
 unfold Zl
 rw[e]
 cases hp:pc l t with
 | zero=>rfl
 | succ n =>
  dsimp only
  rw[zK omg]
theorem Aeb {l:List Ak} {v:Ak} (h:OkC (l++[v])) {t:Int} (ht:v.Ts<=t):Zl (l++[v]) t=if v.Del then([],false) else(v.Val,true):=by
 have e:pc (l++[v]) t=l.length+1:=by
  have hg:(l++[v])[l.length]? = some v:=by rw[z2 (zO _),jG];rfl
  have h1:=(Xe h t hg).2 ht
  have h2:=Acs (l++[v]) t
  rw[zH,yD] at h2
  omega
 unfold Zl
 rw[e]
 dsimp only
 rw[z2 (zO _),jG]
 rfl
theorem get_m {K:Keys} {C:List Ac} {T:Int} {B:Nat} (h:OkS K C T B) (hB:B<=1000) (hK:K.length<=128) (k:List UInt8) (t:Int) :
  (∃ c,At K C k c/\Fo ⟨K,C,T⟩ k t=some (Zl c.L t))\/((¬ ∃ c,At K C k c)/\Fo ⟨K,C,T⟩ k t=some ([],false)):=by
 unfold Fo
 dsimp only
 rw[Ag4 K k omg,zA]
 cases hh:hit K k with
 | false =>
  refine .inr ⟨λ⟨c0,hc0⟩=>(by rw[(At.hit h.pw hc0).1] at hh;cases hh),?_⟩
  rfl
 | true =>
  obtain⟨c0,hat,hget⟩:=At.of_hit h.cl hh
  refine .inl ⟨c0,hat,?_⟩
  rw[if_neg (λh=>Bool.noConfusion h)]
  show(Cy ⟨K,C,T⟩).bind _=_
  rw[ssane_m h hB hK,zA,if_neg dcd]
  unfold O7
  dsimp only
  rw[A3,hget,zA,Acd (c:=c0) (by have:=(h.cs c0 (zG hget)).2.2.2;omega),zA]
def ent (r:Ar) (t:Int) (p:List UInt8×Ac):List A5:=if hasV r p.1&&(Zl p.2.L t).2 then[⟨p.1,(Zl p.2.L t).1⟩] else[]
def ents (r:Ar) (t:Int) (K:Keys) (C:List Ac):List A5:=(K.zip C).flatMap (ent r t)
theorem Amj (r:Ar) (t:Int) (p:List UInt8×Ac):(ent r t p).length<=1:=by
 unfold ent;split <;> simp
theorem Wp {α β:Type} (f:α->List β) (hf:∀ x,(f x).length<=1):∀ l:List α,(l.flatMap f).length<=l.length
 | []=>zO _
 | x::l=>by
  have:=hf x
  have:=Wp f hf l
  rw[yW,zH,xD];omega
theorem Af8 {α β:Type} {K:List α} {C:List β} {i:Nat} {k:α} {c:β} (hk:K[i]? = some k) (hc:C[i]? = some c):(K.zip C)[i]? = some (k,c):=by
 rw[List.getElem?_zip_eq_some]
 exact⟨hk,hc⟩
theorem Adu {α β:Type} {f:α->List β} {l:List α} {i:Nat} {x:α} (h:l[i]? = some x):(l.take (i+1)).flatMap f=(l.take i).flatMap f++f x:=by
 obtain⟨hlt,rfl⟩:=zB.1 h
 rw[zV hlt,w9,List.flatMap_singleton]
theorem Ao3 {α β:Type} (f:α->List β) (l:List α) (i:Nat):∃ rest,l.flatMap f=(l.take i).flatMap f++rest :=
 ⟨(l.drop i).flatMap f,by rw[<- w9,xI]⟩
theorem scan_m {K:Keys} {C:List Ac} {T:Int} {B:Nat} (h:OkS K C T B) (hB:B<=1000) (hK:K.length<=128) (r:Ar) (t most:Int) :
  Fv ⟨K,C,T⟩ r t most=some ((ents r t K C).take most.toNat):=by
 have hcl:=h.cl
 have hzl:(K.zip C).length=K.length:=by rw[zAj];omega
 unfold Fv
 rw[ssane_m h hB hK,zA,if_neg dcd]
 obtain⟨v,hv,hr⟩:=Cj (f:=Kt ⟨K,C,T⟩ r t most) (P:=λs=>∃ i:Nat,i<=K.length/\s=((i:Int),((((K.zip C).take i).flatMap (ent r t)).take most.toNat))) (μ:=λs=>K.length-s.1.toNat)
  (R:=λv=>v=(ents r t K C).take most.toNat) (by
   rintro _ ⟨i,hi,rfl⟩
   unfold Kt
   dsimp only
   rcases zU i K.length with hlt|hge
   ·have hx:=zC hlt
    have hc:C[i]? = some (C[i]'omg):=zC omg
    have hst:=Adu (f:=ent r t) (Af8 hx hc)
    have hlen:(((K.zip C).take i).flatMap (ent r t)).length<=128:=by
     refine yP (Wp _ (Amj r t) _) ?_
     rw[zN];omega
    rw[ifo,A3,hx,zA]
    by_cases hm:most<=(((((K.zip C).take i).flatMap (ent r t)).take most.toNat).length:Int)
    ·rw[ifp hm]
     refine .inr ⟨_,rfl,?_⟩
     rw[zN] at hm
     obtain⟨rest,e⟩:=Ao3 (ent r t) (K.zip C) i
     unfold ents
     rw[e,xY omg]
    ·rw[ifn hm]
     rw[zN] at hm
     have hid:(((K.zip C).take i).flatMap (ent r t)).take most.toNat=((K.zip C).take i).flatMap (ent r t):=yO omg
     have hnext:∀ x,ent r t (K[i],C[i]'omg)=x->x.length<=1->(((K.zip C).take (i+1)).flatMap (ent r t)).take most.toNat=((K.zip C).take i).flatMap (ent r t)++x:=λx hx1 hx2=>by
      rw[hst,hx1,yO (by rw[zH];omega)]
     rw[Alo,zA,hid]
     left
     cases hh:hasV r K[i] with
     | false =>
      rw[if_pos (show(!false)=true from rfl)]
      refine⟨_,rfl,⟨i+1,hlt,?_⟩,by simp only[X3 (show -9223372036854775808<=(i:Int)+1 by omega) omg];omega⟩
      rw[wIo,hnext [] (by unfold ent;dsimp only;rw[hh];rfl) dcd,List.append_nil];rfl
     | true =>
      rw[if_neg dcd,A3,hc,zA,Acd (c:=C[i]'omg) (by have:=(h.cs _ (xZ (show i<C.length by omega))).2.2.2;omega),zA]
      cases hv:(Zl (C[i]'omg).L t).2 with
      | false =>
       rw[if_neg dcd]
       refine⟨_,rfl,⟨i+1,hlt,?_⟩,by simp only[X3 (show -9223372036854775808<=(i:Int)+1 by omega) omg];omega⟩
       rw[wIo,hnext [] (by unfold ent;dsimp only;rw[hh,hv];rfl) dcd,List.append_nil];rfl
      | true =>
       rw[if_pos rfl,if_pos (by rw[yD];omega)]
       refine⟨_,rfl,⟨i+1,hlt,?_⟩,by simp only[X3 (show -9223372036854775808<=(i:Int)+1 by omega) omg];omega⟩
       rw[wIo,hnext [⟨K[i],(Zl (C[i]'omg).L t).1⟩] (by unfold ent;dsimp only;rw[hh,hv];rfl) (Nat.le_refl _)];rfl
   ·have e:i=K.length:=by omega
    subst e
    rw[ifq]
    refine .inr ⟨_,rfl,?_⟩
    unfold ents
    rw[<- hzl,yJ]) fuel (0,[]) ⟨0,zZ _,by simp⟩ (Bs (by show K.length-0<=_;omega))
 rw[hv,zA,hr]
 rfl
theorem ents_len (r:Ar) (t:Int) (K:Keys) (C:List Ac):(ents r t K C).length<=K.length:=by
 refine yP (Wp _ (Amj r t) _) ?_
 rw[zAj];omega
abbrev KC:=List UInt8×Ac
def Aiu (o:Int) (p:KC):List KC:=if 0<(p.2.L.drop (gone p.2.L o)).length then[(p.1,⟨p.2.L.drop (gone p.2.L o)⟩)] else[]
def vacP (o:Int) (K:Keys) (C:List Ac):List KC:=(K.zip C).flatMap (Aiu o)
theorem Abl {α β:Type} {f g:α->List β}:∀ {l:List α},(∀ x∈l,f x=g x)->l.flatMap f=l.flatMap g
 | [],_=>rfl
 | x::l,h=>by
  rw[yW,yW,h x (yR ..),Abl λy hy=>h y (yQ _ hy)]
theorem Ahn {α β:Type}:∀ l:List (α×β),(l.map (·.1)).zip (l.map (·.2))=l
 | []=>rfl
 | (a,b)::l=>by
  show(a,b)::(l.map (·.1)).zip (l.map (·.2))=_
  rw[Ahn l]
theorem Apb (o:Int) (p:KC):(Aiu o p).length<=1:=by
 unfold Aiu;split <;> simp
theorem vacS_m {K:Keys} {C:List Ac} {T:Int} {B:Nat} (h:OkS K C T B) (hB:B<=1000) (hK:K.length<=128) (o:Int) :
  Kp ⟨K,C,T⟩ o=some ⟨(vacP (if T<o then T else o) K C).map (·.1),(vacP (if T<o then T else o) K C).map (·.2),T⟩:=by
 have hcl:=h.cl
 have hzl:(K.zip C).length=C.length:=by rw[zAj];omega
 unfold Kp
 rw[ssane_m h hB hK,zA,if_neg dcd]
 obtain⟨v,hv,hr⟩:=Cj (f:=Hl ⟨K,C,T⟩ o) (P:=λs=>∃ i:Nat,i<=C.length/\s=((i:Int),(((K.zip C).take i).flatMap (Aiu (if T<o then T else o))).map (·.1),(((K.zip C).take i).flatMap (Aiu (if T<o then T else o))).map (·.2))) (μ:=λs=>C.length-s.1.toNat)
  (R:=λv=>v=((vacP (if T<o then T else o) K C).map (·.1),(vacP (if T<o then T else o) K C).map (·.2))) (by
   rintro _ ⟨i,hi,rfl⟩
   unfold Hl
   dsimp only
   generalize (if T<o then T else o)=o'
   rcases zU i C.length with hlt|hge
   ·left
    have hc:=zC hlt
    have hx:K[i]? = some (K[i]'omg):=zC omg
    have hst:=Adu (f:=Aiu o') (Af8 hx hc)
    have hlen:(((K.zip C).take i).flatMap (Aiu o')).length<=128:=by
     refine yP (Wp _ (Apb o') _) ?_
     rw[zN];omega
    obtain⟨h1,h2,h3,h4⟩:=h.cs _ (xZ hlt)
    rw[ifo,A3,hc,zA,Au9 omg h2,zA]
    dsimp only
    by_cases hd:0<((C[i].L.drop (gone C[i].L o')).length:Int)
    ·have e:Aiu o' (K[i]'omg,C[i])=[(K[i]'omg,⟨C[i].L.drop (gone C[i].L o')⟩)]:=if_pos (by dsimp only;omega)
     rw[ifp hd,A3,hx,zA,if_pos (by rw[zY,yD];omega),if_pos (by rw[zY,yD];omega)]
     refine⟨_,rfl,⟨i+1,hlt,?_⟩,by simp only[X3 (show -9223372036854775808<=(i:Int)+1 by omega) omg];omega⟩
     rw[wIo,hst,e,xC,xC];rfl
    ·have e:Aiu o' (K[i]'omg,C[i])=[]:=if_neg (by dsimp only;omega)
     rw[ifn hd]
     refine⟨_,rfl,⟨i+1,hlt,?_⟩,by simp only[X3 (show -9223372036854775808<=(i:Int)+1 by omega) omg];omega⟩
     rw[wIo,hst,e,xG];rfl
   ·right
    have e:i=C.length:=by omega
    subst e
    rw[ifq]
    refine⟨_,rfl,?_⟩
    unfold vacP
    rw[<- hzl,yJ]) fuel (0,[],[]) ⟨0,zZ _,by simp⟩ (Bs (by show C.length-0<=_;omega))
 rw[hv,zA,hr]
 rfl
theorem Als {l:List Ak} {n:Nat} (h:n<l.length):Oo (l.drop n)=Oo l:=by
 unfold Oo
 rw[yB,yH,show n+(l.length-n-1)=l.length-1 by omega]
theorem Apj {o:Int} {K:Keys} {C:List Ac} {q:KC} (h:q∈vacP o K C):∃ c,(q.1,c)∈K.zip C/\q.2=⟨c.L.drop (gone c.L o)⟩/\0<(c.L.drop (gone c.L o)).length:=by
 unfold vacP at h
 obtain⟨p,hp,hq⟩:=jX.1 h
 unfold Aiu at hq
 split at hq
 ·next hl =>
  rw[zP.1 hq]
  exact⟨p.2,hp,rfl,hl⟩
 ·cases hq
theorem Agt (o:Int):∀ l:List KC,((l.flatMap (Aiu o)).map (·.1)).Sublist (l.map (·.1))
 | []=>List.Sublist.slnil
 | p::l=>by
  have ih:=Agt o l
  rw[yW]
  unfold Aiu
  split
  ·exact ih.cons_cons _
  ·exact ih.cons _
theorem As2 {K:Keys} {C:List Ac} (h:C.length=K.length):(K.zip C).map (·.1)=K:=by
 rw[List.map_fst_zip];omega
theorem vac_ok {K:Keys} {C:List Ac} {T:Int} {B:Nat} (h:OkS K C T B) (o:Int):OkS ((vacP o K C).map (·.1)) ((vacP o K C).map (·.2)) T B:=by
 have hsub:=Agt o (K.zip C)
 rw[As2 h.cl] at hsub
 refine⟨h.t0,h.t1,by rw[zY,zY],λk hk=>h.ks k (hsub.subset hk),h.pw.sublist hsub,λc hc=>?_⟩
 obtain⟨q,hq,rfl⟩:=z8.1 hc
 obtain⟨d,hd,e,hl⟩:=Apj hq
 obtain⟨h1,h2,h3,h4⟩:=h.cs d (List.of_mem_zip hd).2
 rw[e]
 refine⟨λe0=>?_,Ag7 h2 _,?_,?_⟩
 ·have e0:d.L.drop (gone d.L o)=[]:=e0
  rw[e0] at hl;exact absurd hl (wS _)
 ·show Oo (d.L.drop (gone d.L o))<=T
  rw[Als (by rw[yB] at hl;omega)];exact h3
 ·show(d.L.drop (gone d.L o)).length<=B
  rw[yB];omega
theorem vac_len (o:Int) (K:Keys) (C:List Ac):((vacP o K C).map (·.1)).length<=K.length:=by
 have:=(Agt o (K.zip C)).length_le
 rw[zY,zY,zAj] at this
 show((((K.zip C).flatMap (Aiu o)).map (·.1))).length<=_
 rw[zY]
 omega
end Go.Proofs.YtkblaobhhoebaaaGreat.Abs.st
