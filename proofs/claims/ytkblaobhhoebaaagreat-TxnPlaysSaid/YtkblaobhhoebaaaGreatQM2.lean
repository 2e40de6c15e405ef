/-
 The mathematics, part 2.
-/
import Derived.Test.YtkblaobhhoebaaaGreatQM1
import Derived.Test.YtkblaobhhoebaaaGreatQAbsC
import Derived.Test.YtkblaobhhoebaaaGreatQT14
set_option linter.unusedVariables false
set_option linter.unusedSimpArgs false
namespace Go.Proofs.YtkblaobhhoebaaaGreat.Abs
namespace st
open bf
theorem sw_eq (w:Ae):swV w=(kOk w.Key&&wOk w):=by
 unfold swV Bt wOk
 rw[kSane_m]
 cases kOk w.Key <;> cases decide ((w.Val.length:Int)<=32) <;> cases w.Del <;> rfl
theorem rwr {α:Type} {y z:α} {w:Ae}:(if decide (32<(w.Val.length:Int))=true then y else(if w.Del=true then(if decide (0<(w.Val.length:Int))=true then y else z) else z))=if wOk w then z else y:=by
 unfold wOk
 have:decide (32<(w.Val.length:Int)) = !decide ((w.Val.length:Int)<=32):=by rw[<- decide_not,decide_eq_decide];omega
 rw[this]
 cases decide ((w.Val.length:Int)<=32) <;> cases w.Del <;> cases decide (0<(w.Val.length:Int)) <;> rfl
theorem Avi {b:List Ae} (hs:∀ w∈b,swV w=true) (hr:Gh wk b) (hl:b.length<=1000):D5 b=some true:=by
 have e:B7 (Fx b) fuel 0=some (.inr ()):=V4 b omg (λi w hx=>by
  have h:=hs w (zD hx)
  rw[sw_eq,zG] at h
  have hlt:=(zB.1 hx).1
  rw[show D6 w.Key=_ from kSane_m w.Key,h.1,zA,if_neg smp]
  cases i with
  | zero=>rw[ifq,rwr,if_pos h.2]
  | succ j =>
   have hy:b[j]? = some (b[j]'omg):=zC omg
   generalize b[j]'omg=y at hy
   have hc:Ce y.Key w.Key<0:=by
    obtain⟨q1,q2⟩:=zB.1 hy
    obtain⟨q3,q4⟩:=zB.1 hx
    have:=z7.1 hr j (j+1) q1 q3 (xR j)
    rw[q2,q4] at this;exact this
   have hyl:=hs y (zD hy)
   rw[sw_eq,zG] at hyl
   have:=(kOk_len hyl.1).2
   rw[ifo,show wI (((j+1:Nat):Int)-1)=(j:Int) by rw[wIo];omega,Ak,hy,zA,Adm _ _ omg,zA,ifq,rwr,if_pos h.2])
 unfold D5
 rw[e];rfl
theorem A2v (w:Ae):D5 [w]=some (swV w):=by
 have e:B7 (Fx [w]) fuel 0=some (if ([w].any λw=>!swV w)=true then .inl false else .inr ()):=App [w] (λw=>!swV w) false (by simp) (λi x hx=>by
  obtain rfl:i=0:=by have:=(zB.1 hx).1;simpa using this
  cases hx
  unfold Fx
  rw[ifp (p:=((0:Nat):Int)<([w].length:Int)) (by simp),Ak]
  show(D6 w.Key).bind _=_
  rw[show D6 w.Key=_ from kSane_m w.Key,sw_eq,zA,ifq,rwr]
  cases kOk w.Key <;> cases wOk w <;> rfl) (by
  unfold Fx
  rw[ifn (wY _)])
 unfold D5
 rw[e,zAa,j1,Bool.or_false]
 cases swV w <;> rfl
theorem A37 {b:List Ae} (hs:∀ w∈b,swV w=true) (hr:Gh wk b) (hl:b.length<=1000):Cj b=some true:=by
 obtain⟨v,hv,rfl⟩:=B9 (f:=C3 b) (P:=λs=>∃ i:Nat,i<=b.length/\s=((i:Int),(b.take i).map wk)) (μ:=λs=>b.length-s.1.toNat) (R:=λv=>v=.inr (b.map wk)) (by
  rintro _ ⟨i,hi,rfl⟩
  unfold C3 Cy
  dsimp only
  rcases zQ i b.length with hlt|hge
  ·have hx:=zC hlt
   have h:=hs _ (yW hlt)
   rw[sw_eq,zG] at h
   rw[ifo,Ak,hx,zA,rwr,if_pos h.2,if_pos (by simp;omega),wIo]
   exact .inl ⟨_,rfl,⟨i+1,hlt,by rw[List.take_succ_eq_append_getElem hlt,List.map_append];rfl⟩,by dsimp only;omega⟩
  ·rw[ifq]
   exact .inr (.inl ⟨_,rfl,by rw[yJ hge]⟩)) fuel (0,[]) ⟨0,zU _,rfl⟩ (Bb (by show b.length-0<=_;omega))
 unfold Cj
 rw[hv]
 show(Cx (b.map wk)).bind _=_
 obtain⟨v,hv,hi⟩:=Qt (b.map wk) (by rw[zP];omega)
 rw[hv,hi.2 ⟨λk hk=>?_,pw_rise.2 hr⟩];rfl
 obtain⟨w,hw,rfl⟩:=yA.1 hk
 have h:=hs w hw
 rw[sw_eq,zG] at h
 exact h.1
theorem Bag {l:List Ae} {K':Keys} {ts z:Int} {i:Nat} {k:List UInt8} (hk:K'[i]? = some k) (hl:l.length<=1000) (hp:PW (l.map (·.Key))) (acc:List Ab) {c:List Ai}
  (hc:c.length<1000) (ho:OkC c) (hts:1<=ts/\ts<=1099511627776) (hlt:Ku c<ts) (hw:∀ w∈l,wOk w=true) :
  ∃ d,Be (E7 ts l ((i:Int),K',z,acc)) fuel (0,K',z,c)=some (K',z,d)/\(((∀ w∈l,w.Key≠k)/\d=c)\/∃ w∈l,w.Key=k/\d=c++[ver ts w]):=by
 obtain⟨v,hv,d,rfl,hd⟩:=Bo (f:=E7 ts l ((i:Int),K',z,acc)) (P:=λs=>∃ j:Nat,j<=l.length/\∃ d,s=((j:Int),K',z,d)/\(((∀ w∈l.take j,w.Key≠k)/\d=c)\/∃ w∈l.take j,w.Key=k/\d=c++[ver ts w])) (μ:=λs=>l.length-s.1.toNat)
  (R:=λv=>∃ d,v=(K',z,d)/\(((∀ w∈l,w.Key≠k)/\d=c)\/∃ w∈l,w.Key=k/\d=c++[ver ts w])) (by
   rintro _ ⟨j,hj,d,rfl,hd⟩
   unfold E7
   dsimp only
   rcases zQ j l.length with hlj|hge
   ·left
    have hx:=zC hlj
    have ht:∀ w,w∈l.take (j+1)↔w∈l.take j\/w=l[j]:=λw=>by rw[zO hlj,yG,z8]
    rw[ifo,wIo]
    simp only[Ak,hx,hk,zA]
    by_cases he:l[j].Key=k
    ·rw[if_pos (by rw[he];exact beq_self_eq_true k)]
     rcases hd with⟨h1,rfl⟩|⟨w,hm,e,_⟩
     ·rw[A3x ho omg (Aon hts.1 hts.2 (hw _ (yW hlj))) hlt]
      exact⟨_,rfl,⟨j+1,hlj,_,rfl,.inr ⟨_,(ht _).2 (.inr rfl),he,rfl⟩⟩,by dsimp only;omega⟩
     ·obtain⟨m,hmm⟩:=xH.1 hm
      rw[yR] at hmm
      split at hmm
      ·next hmj =>
       have h1:(l.map (·.Key))[m]? = some k:=by rw[zK,hmm,<- e];rfl
       have h2:(l.map (·.Key))[j]? = some k:=by rw[zK,hx,<- he];rfl
       have:=Ahn hp h1 h2
       omega
      ·cases hmm
    ·rw[if_neg (by rw[beq_iff_eq];exact he)]
     refine⟨_,rfl,⟨j+1,hlj,_,rfl,?_⟩,by dsimp only;omega⟩
     rcases hd with⟨h1,h2⟩|⟨w,hm,e⟩
     ·exact .inl ⟨λw hw=>((ht w).1 hw).elim (h1 w) λe=>e ▸ he,h2⟩
     ·exact .inr ⟨w,(ht w).2 (.inl hm),e⟩
   ·rw[yJ hge] at hd
    rw[ifq]
    exact .inr ⟨_,rfl,d,rfl,hd⟩) fuel (0,K',z,c) ⟨0,zU _,c,rfl,.inl ⟨λw hw=>by simp at hw,rfl⟩⟩ (Bb (by show l.length-0<=_;omega))
 exact⟨d,hv,hd⟩
theorem rinstall08 {K:Keys} {C:List Ab} {T:Int} {B:Nat} (h:OkS K C T B) (hB:B<1000) (hK:K.length<=128) {ts:Int} (ht:T<ts/\ts<=1099511627776) {b:List Ae} (hb:bf.Good b):Mu ⟨K,C,T⟩ ts b=B5 ⟨K,C,T⟩ ts b:=by
 have hcl:=h.cl
 have h0:=h.t0
 have hbl:=hb.len
 have hok:∀ w∈b,kOk w.Key=true/\wOk w=true:=λw hw=>by
  have:=hb.sw w hw
  rwa [sw_eq,zG] at this
 have hp:PW (b.map (·.Key)):=pw_rise.2 hb.rise
 obtain⟨K',C',e3,hL⟩:=A0w h hB hK ht b omg (λw hw=>(hok w hw).2) (λw hw=>(hok w hw).1) hp
 have hKl:K'.length<=144:=by have:=hL.len;omega
 have hC':=hL.cl
 have hm:∀ x,x∈K'↔x∈K\/∃ w∈b,w.Key=x:=λx=>by
  constructor
  ·intro hx
   obtain⟨i,hi⟩:=xH.1 hx
   have hc:C'[i]? = some (C'[i]'(by have:=(zB.1 hi).1;omega)):=zC _
   by_cases hw:∃ w∈b,w.Key=x
   ·exact .inr hw
   ·obtain⟨j,hj,_⟩:=(hL.old x _ λw hm e=>hw ⟨w,hm,e⟩).1 ⟨i,hi,hc⟩
    exact .inl (zD hj)
  ·intro hx
   by_cases hw:∃ w∈b,w.Key=x
   ·obtain⟨w,hm,rfl⟩:=hw
    obtain⟨c,i,hi,_⟩:=hL.is w hm
    exact zD hi
   ·obtain⟨i,hi⟩:=xH.1 (hx.resolve_right hw)
    have hc:C[i]? = some (C[i]'(by have:=(zB.1 hi).1;omega)):=zC _
    obtain⟨j,hj,_⟩:=(hL.old x _ λw hm e=>hw ⟨w,hm,e⟩).2 ⟨i,hi,hc⟩
    exact zD hj
 have e1:Be (Dn b) fuel (0,K,ts)=some (K',ts):=by
  have e:=Arb (f:=Dn b) (λ(k:Keys) i=>((i:Int),k,ts)) b (λk w=>ins k w.Key) (λk=>(k,ts)) (λi k=>PW k/\(∀ x∈k,kOk x=true)/\k.length<=K.length+i/\∀ x,x∈k↔x∈K\/∃ w∈b.take i,w.Key=x) omg (λk i w hx ⟨p1,p2,p3,p4⟩=>by
   have hlt:=(zB.1 hx).1
   have hw:=(hok w (zD hx)).1
   unfold Dn
   dsimp only
   rw[ifo,Ak,hx,zA,Avm k w.Key omg (λx hx=>by have:=(kOk_len (p2 x hx)).2;omega),wIo]
   refine⟨rfl,Auq p1,λx hx=>(Am6.1 hx).elim (λe=>e ▸ hw) (p2 x),?_,λx=>?_⟩
   ·have:=A4a k w.Key
    split at this <;> omega
   ·obtain⟨_,e⟩:=zB.1 hx
    rw[Am6,p4,zO hlt,e]
    simp only[yG,z8,or_and_right,exists_or,exists_eq_left]
    constructor
    ·rintro(rfl|h|h)
     ·exact .inr (.inr rfl)
     ·exact .inl h
     ·exact .inr (.inl h)
    ·rintro(h|h|h)
     ·exact .inr (.inl h)
     ·exact .inr (.inr h)
     ·exact .inl h.symm) (λk _=>by unfold Dn;rw[ifq (by dsimp only;omega)]) K ⟨h.pw,h.ks,Nat.le_refl _,λx=>by simp⟩
  rw[show Be (Dn b) fuel (0,K,ts)=_ from e.1,A5f e.2.1 hL.pw λx=>by rw[e.2.2.2.2,hm,yM]]
 have e2:K'.length<=128->Be (Jd ⟨K,C,T⟩ ts b) fuel (0,K',ts,[])=some (K',ts,C'):=λ_=>by
  obtain⟨v,hv,rfl⟩:=Bo (f:=Jd ⟨K,C,T⟩ ts b) (P:=λs=>∃ i:Nat,i<=K'.length/\s=((i:Int),K',ts,C'.take i)) (μ:=λs=>K'.length-s.1.toNat) (R:=λv=>v=(K',ts,C')) (by
   rintro _ ⟨i,hi,rfl⟩
   unfold Jd
   dsimp only
   rcases zQ i K'.length with hlt|hge
   ·left
    have hlt':i<C'.length:=by omega
    have hx:=zC hlt
    have hc:=zC hlt'
    generalize K'[i]=k at hx
    have hat:At K' C' k C'[i]:=⟨i,hx,hc⟩
    rw[ifo,Ak,hx,zA]
    have key:∀ c:Ab,Ey ⟨K,C,T⟩ k=some c->OkC c.L->Ku c.L<ts->c.L.length<1000->((∀ w∈b,w.Key≠k)->C'[i].L=c.L)->(∀ w∈b,w.Key=k->C'[i].L=c.L++[ver ts w])->(Ey ⟨K,C,T⟩ k).bind (λv7=>(Be (E7 ts b ((i:Int),K',ts,C'.take i)) fuel (0,K',ts,v7.L)).bind λe16=>Mn ((i:Int),K',ts,C'.take i) e16)=some (.cont (((i+1:Nat):Int),K',ts,C'.take (i+1))):=λc e o1 o2 o3 o4 o5=>by
     obtain⟨d,hd,hd'⟩:=Bag (z:=ts) hx (show b.length<=1000 from omg) hp (C'.take i) o3 o1 ⟨omg,ht.2⟩ o2 (λw hw=>(hok w hw).2)
     rw[e,zA,hd,zA]
     unfold Mn
     dsimp only
     rw[if_pos (by simp;omega),wIo,zO hlt']
     have:(⟨d⟩:Ab)=C'[i]:=congrArg Ab.mk (hd'.elim (λ⟨q1,q2⟩=>q2.trans (o4 q1).symm) λ⟨w,hw,q1,q2⟩=>q2.trans (o5 w hw q1).symm)
     rw[this];rfl
    refine⟨_,?_,⟨i+1,hlt,rfl⟩,by dsimp only;omega⟩
    rcases A0l h omg hK k with⟨c,ha,e⟩|⟨hn,e⟩
    ·obtain⟨j,hj,hcj⟩:=ha
     obtain⟨_,q2,q3,q4⟩:=h.cs c (zD hcj)
     refine key c e q2 omg omg (λhno=>?_) (λw hw hwk=>?_)
     ·rw[At.uniq h.pw ((hL.old k _ hno).1 hat) ⟨j,hj,hcj⟩]
     ·subst hwk
      rcases hL.new w hw _ hat with⟨c0,h0,e⟩|⟨hno,_⟩
      ·rw[e,At.uniq h.pw h0 ⟨j,hj,hcj⟩]
      ·exact absurd ⟨c,j,hj,hcj⟩ hno
    ·refine key ⟨[]⟩ e Aiz (by show(0:Int)<ts;omega) (by simp) (λhno=>absurd ⟨_,(hL.old k _ hno).1 hat⟩ hn) (λw hw hwk=>?_)
     subst hwk
     rcases hL.new w hw _ hat with⟨c0,h0,_⟩|⟨_,e⟩
     ·exact absurd ⟨c0,h0⟩ hn
     ·exact e
   ·rw[ifq,yJ omg]
    exact .inr ⟨_,rfl,rfl⟩) fuel (0,K',ts,[]) ⟨0,zU _,rfl⟩ (Bb (by show K'.length-0<=_;omega))
  exact hv
 have c1:C8 K=some K:=Y3 K omg
 have c2:C6 C=some C:=Y2 C omg
 unfold Mu B5 Su F5 Sq F2 Sg Gl
 dsimp only
 rw[rsane08 h omg hK,ssane_m h omg hK,Avi hb.sw hb.rise omg,A37 hb.sw hb.rise omg,c1,c2,e1]
 simp only[e3,zA,yK,zV,↓reduceIte]
 rw[ifq (p:=ts<=T),ifq (p:=1099511627776<ts),ifq (p:=ts<=T),ifq (p:=1099511627776<ts)]
 by_cases h8:128<(K'.length:Int)
 ·rw[ifp h8,ifp h8]
 ·rw[ifn h8,ifn h8,e2 omg];rfl
end st
namespace st
open bf
theorem rsane09 {b:List Ae} (h:bf.Good b):Kr ⟨b⟩=some true:=by
 have:=h.len
 unfold Kr
 rw[ifo (by show(b.length:Int)<=16;omega),Avi h.sw h.rise omg];rfl
theorem rget09 (b:Au) (k:List UInt8):Ul b k=Gq b k:=by
 have e:Td b k=Hp b k:=by
  funext s
  unfold Td Hp Cw
  cases h:idx b.L s with
  | none=>rfl
  | some u=>rfl
 unfold Ul Gq
 rw[e];rfl
theorem Be3 {b:List Ae} (h:bf.Good b) {w:Ae} (hw:swV w=true):Bu ⟨b⟩ w=some (if hit (b.map wk) w.Key then(⟨b.set (kat (b.map wk) w.Key) w⟩,0) else if 16<=b.length then(⟨[]⟩,8) else(⟨b.take (kat (b.map wk) w.Key)++w::b.drop (kat (b.map wk) w.Key)⟩,0)):=by
 have hl:=h.len
 have hkl:=Afu (b.map wk) w.Key
 rw[zP] at hkl
 unfold Bu G9
 rw[show(⟨(Au.mk b).L⟩:Au)=⟨b⟩ from rfl,sane_m h,show(⟨w.Key,w.Val,w.Del⟩:Ae)=w from rfl,A7f,hw,keysOf_m omg]
 simp only[zA,yK,zV,↓reduceIte]
 rw[Akt _ _ (by rw[zP];omega),Kw _ omg]
 simp only[zA]
 cases hh:hit (b.map wk) w.Key with
 | true =>
  have hlt:=Aor hh
  rw[zP] at hlt
  rw[if_pos rfl,if_pos rfl,Ak,zC hlt];rfl
 | false =>
  simp only[zV,↓reduceIte]
  by_cases h16:16<=b.length
  ·rw[ifo,if_pos h16]
  ·rw[ifq,if_neg h16]
   show(Auz 56 b _ [w]).bind _=_
   rw[Am7 hkl omg];rfl
theorem rset09 {b:List Ae} (h:bf.Good b) (w:Ae):Uj ⟨b⟩ w=Bu ⟨b⟩ w:=by
 have hl:=h.len
 unfold Uj
 rw[rsane09 h,A2v]
 cases hw:swV w with
 | false =>
  unfold Bu
  rw[show(⟨(Au.mk b).L⟩:Au)=⟨b⟩ from rfl,sane_m h,show(⟨w.Key,w.Val,w.Del⟩:Ae)=w from rfl,A7f,hw];rfl
 | true =>
 rw[Be3 h hw]
 have hpl:=Afu (b.map wk) w.Key
 rw[zP] at hpl
 have hlo:∀ {i:Nat} {x:Ae},b[i]? = some x->i<kat (b.map wk) w.Key->Ce x.Key w.Key<0:=λ{i x} hx hi=>Au3 (xH.2 ⟨i,by rw[yR,if_pos hi,zK,hx];rfl⟩)
 have hat:∀ {x:Ae},b[kat (b.map wk) w.Key]? = some x->0<=Ce x.Key w.Key/\hit (b.map wk) w.Key=decide (Ce x.Key w.Key=0):=λ{x} hx=>by
  have hm:(b.map wk)[kat (b.map wk) w.Key]? = some x.Key:=by rw[zK,hx];rfl
  obtain⟨q1,q2⟩:=zB.1 hm
  refine⟨?_,?_⟩
  ·have:=Ats q1
   rwa [q2] at this
  ·unfold hit
   rw[hm,Adf];rfl
 have hhi:∀ {i:Nat} {x:Ae},b[i]? = some x->kat (b.map wk) w.Key<i->0<Ce x.Key w.Key:=λ{i x} hx hi=>by
  obtain⟨q1,q2⟩:=zB.1 hx
  have hy:b[kat (b.map wk) w.Key]? = some (b[kat (b.map wk) w.Key]'omg):=zC omg
  have h1:=(hat hy).1
  have h2:=z7.1 h.rise _ i omg q1 hi
  rw[q2] at h2
  have s1:=Lh (b[kat (b.map wk) w.Key]'omg).Key w.Key
  have s2:=Lh x.Key w.Key
  have:=(Hd (a:=w.Key) (b:=(b[kat (b.map wk) w.Key]'omg).Key) (c:=x.Key) omg (kJ h2)).2 (.inr h2)
  omega
 have hf:hit (b.map wk) w.Key=true->kat (b.map wk) w.Key<b.length:=λhh=>by
  have:=Aor hh
  rwa [zP] at this
 generalize kat (b.map wk) w.Key=p at *
 generalize hit (b.map wk) w.Key=hh at *
 obtain⟨q,hq⟩:∃ q,q=if hh then p+1 else p:=⟨_,rfl⟩
 obtain⟨v,hv,rfl⟩:=Bo (f:=Ta ⟨b⟩ w) (P:=λs=>∃ i:Nat,i<=b.length/\s=(decide (p<i),(i:Int),if p<i then b.take p++w::(b.take i).drop q else b.take i)) (μ:=λs=>b.length-s.2.1.toNat)
  (R:=λv=>v=(decide (p<b.length),if p<b.length then b.take p++w::b.drop q else b)) (by
   rintro _ ⟨i,hi,rfl⟩
   unfold Ta Om
   dsimp only
   rcases zQ i b.length with hlt|hge
   ·left
    have hx:=zC hlt
    have ht:=zO hlt
    have hlen:(if p<i then b.take p++w::(b.take i).drop q else b.take i).length<=40:=by split <;> simp <;> omega
    have hsw:=h.sw _ (yW hlt)
    rw[sw_eq,zG] at hsw
    have:=(kOk_len hsw.1).2
    rw[ifo,Ak,hx,zA,Adm _ _ omg,zA,wIo,zA]
    have hq1:p<=q/\q<=p+1:=by rw[hq];split <;> omega
    rcases kH i p with hip|rfl|hip
    ·have hc:=hlo hx hip
     have e:(if p<i then b.take p++w::(b.take i).drop q else b.take i)=b.take i:=if_neg (by omega)
     rw[e] at hlen ⊢
     simp only[decide_eq_false (show ¬ p<i from omg),decide_eq_false (show ¬ 0<=Ce b[i].Key w.Key from omg),decide_eq_false (show ¬ Ce b[i].Key w.Key=0 from omg),zA,wT,zV,↓reduceIte]
     rw[if_pos (by rw[yD];omega)]
     exact⟨_,rfl,⟨i+1,hlt,by rw[if_neg (show ¬ p<i+1 from omg),decide_eq_false (show ¬ p<i+1 from omg),ht];rfl⟩,by dsimp only;omega⟩
    ·obtain⟨h1,h2⟩:=hat hx
     have e:(if i<i then b.take i++w::(b.take i).drop q else b.take i)=b.take i:=if_neg (wF i)
     rw[e] at hlen ⊢
     rw[<- h2]
     simp only[decide_eq_false (wF i),decide_eq_true h1,zA,wT,↓reduceIte]
     rw[if_pos (by rw[yD];omega)]
     cases hh with
     | true=>exact⟨_,rfl,⟨i+1,hlt,by rw[if_pos (Nat.lt_succ_self i),decide_eq_true (Nat.lt_succ_self i),hq];simp⟩,by dsimp only;omega⟩
     | false =>
      simp only[wT,↓reduceIte]
      rw[if_pos (by rw[zI,yD,yD];omega)]
      refine⟨_,rfl,⟨i+1,hlt,?_⟩,by dsimp only;omega⟩
      rw[if_pos (xR i),decide_eq_true (xR i),hq,if_neg smp,ht,List.drop_left' (by rw[zR];omega)]
      simp
    ·have hc:=hhi hx hip
     have e:(if p<i then b.take p++w::(b.take i).drop q else b.take i)=b.take p++w::(b.take i).drop q:=if_pos hip
     rw[e] at hlen ⊢
     simp only[decide_eq_true hip,decide_eq_true (show 0<=Ce b[i].Key w.Key from omg),decide_eq_false (show ¬ Ce b[i].Key w.Key=0 from omg),zA,wT,yK,zV,↓reduceIte]
     rw[if_pos (by rw[yD];omega)]
     refine⟨_,rfl,⟨i+1,hlt,?_⟩,by dsimp only;omega⟩
     rw[if_pos (show p<i+1 from omg),decide_eq_true (show p<i+1 from omg),ht,jA,show q-(b.take i).length=0 by rw[zR];omega]
     simp
   ·obtain rfl:i=b.length:=by omega
    rw[ifq]
    exact .inr ⟨_,rfl,by rw[yM]⟩) fuel (false,0,[]) ⟨0,zU _,by simp⟩ (Bb (by show b.length-0<=_;omega))
 unfold Zg Zk S6
 rw[hv]
 simp only[zA,yK,zV,↓reduceIte]
 by_cases hp:p<b.length
 ·rw[decide_eq_true hp,if_pos hp]
  simp only[yK,zV,↓reduceIte]
  cases hh with
  | true =>
   rw[hq,if_pos rfl,if_pos rfl,ifq (by simp;omega),kP,if_pos hp]
  | false =>
   rw[hq]
   simp only[zV,↓reduceIte]
   by_cases h16:16<=b.length
   ·rw[ifo (by simp;omega),if_pos h16]
   ·rw[ifq (by simp;omega),if_neg h16]
 ·have:hh=false:=jJ.2 λe=>hp (hf e)
  subst this
  have e:p=b.length:=by omega
  rw[decide_eq_false hp,if_neg hp,e,yM,kY]
  simp only[wT,zV,↓reduceIte]
  rw[if_pos (by rw[yD];omega)]
  by_cases h16:16<=b.length
  ·rw[ifo (by simp;omega),if_pos h16]
  ·rw[ifq (by simp;omega),if_neg h16]
end st
namespace st
open bf
def emK (r:Aj) (x:As):List As:=if Pu r x.Key then[x] else[]
def emW (r:Aj) (w:Ae):List As:=if !w.Del&&Pu r w.Key then[kvw w] else[]
def mrg (r:Aj):List As->List Ae->List As
 | [],[]=>[]
 | x::l,[]=>emK r x++mrg r l []
 | [],w::b=>emW r w++mrg r [] b
 | x::l,w::b=>if Ce x.Key w.Key<0 then emK r x++mrg r l (w::b) else emW r w++(if Ce x.Key w.Key<=0 then mrg r l b else mrg r (x::l) b)
 termination_by l b=>l.length+b.length
theorem Aob {r:Aj} {x y:As}:y∈emK r x↔Pu r x.Key=true/\y=x:=by
 unfold emK;split <;> simp_all
theorem Aiv {r:Aj} {w:Ae} {y:As}:y∈emW r w↔w.Del=false/\Pu r w.Key=true/\y=kvw w:=by
 unfold emW;split <;> simp_all
theorem Aoy (r:Aj) (x:As):Gh kvk (emK r x):=by unfold emK;split <;> simp [Gh]
theorem Ai7 (r:Aj) (w:Ae):Gh kvk (emW r w):=by unfold emW;split <;> simp [Gh]
theorem Aa7 {e m:List As} {k:List UInt8} (he:∀ a∈e,kvk a=k) (hr:Gh kvk e) (hm:Gh kvk m) (hk:∀ c∈m,Ce k (kvk c)<0):Gh kvk (e++m):=wU.2 ⟨hr,hm,λa ha c hc=>by rw[he a ha];exact hk c hc⟩
theorem A61 {a b c:List UInt8} (h1:Ce a b<0) (h2:Ce b c<0):Ce a c<0:=(Hd (kJ h1) (kJ h2)).2 (.inl h1)
theorem A1s {a b:List UInt8} (h:Ce a b<0):b≠a:=λe=>by rw[e,Jp] at h;omega
theorem Azp (r:Aj) (l:List As) (b:List Ae) (hl:Gh kvk l) (hb:Gh wk b):Gh kvk (mrg r l b)/\∀ x,x∈mrg r l b↔(Pu r x.Key=true/\x∈l/\x.Key∉b.map wk)\/∃ w∈b,w.Del=false/\Pu r w.Key=true/\x=kvw w:=by
 have bel:∀ {l:List As} {b:List Ae} {k:List UInt8},(∀ x,x∈mrg r l b↔(Pu r x.Key=true/\x∈l/\x.Key∉b.map wk)\/∃ w∈b,w.Del=false/\Pu r w.Key=true/\x=kvw w)->(∀ y∈l,Ce k (kvk y)<0)->(∀ w∈b,Ce k (wk w)<0)->∀ y∈mrg r l b,Ce k (kvk y)<0:=λh h1 h2 y hy=>by
  rcases(h y).1 hy with⟨_,hy,_⟩|⟨w,hw,_,_,rfl⟩
  ·exact h1 y hy
  ·exact h2 w hw
 have ek:∀ {x:As},∀ a∈emK r x,kvk a=x.Key:=λa ha=>by rw[(Aob.1 ha).2];rfl
 have ew:∀ {w:Ae},∀ a∈emW r w,kvk a=w.Key:=λa ha=>by rw[(Aiv.1 ha).2.2];rfl
 induction l,b using mrg.induct with
 | case1=>unfold mrg;exact⟨List.Pairwise.nil,λx=>by simp⟩
 | case2 x l ih =>
  obtain⟨h1,h2⟩:=yX.1 hl
  obtain⟨i1,i2⟩:=ih h2 hb
  unfold mrg
  refine⟨Aa7 ek (Aoy r x) i1 (bel i2 h1 (λw hw=>by cases hw)),λy=>?_⟩
  rw[yG,Aob,i2]
  simp only[yB,List.map_nil,List.not_mem_nil,not_false_eq_true,and_true,false_and,exists_false,or_false]
  constructor
  ·rintro(⟨h,rfl⟩|h)
   ·exact⟨h,.inl rfl⟩
   ·exact⟨h.1,.inr h.2⟩
  ·rintro⟨h,rfl|h'⟩
   ·exact .inl ⟨h,rfl⟩
   ·exact .inr ⟨h,h'⟩
 | case3 w b ih =>
  obtain⟨h1,h2⟩:=yX.1 hb
  obtain⟨i1,i2⟩:=ih hl h2
  unfold mrg
  refine⟨Aa7 ew (Ai7 r w) i1 (bel i2 (λy hy=>by cases hy) h1),λy=>?_⟩
  rw[yG,Aiv,i2]
  simp
 | case4 x l w b hc ih =>
  obtain⟨h1,h2⟩:=yX.1 hl
  obtain⟨h3,h4⟩:=yX.1 hb
  obtain⟨i1,i2⟩:=ih h2 hb
  have hxb:∀ v∈w::b,Ce x.Key (wk v)<0:=λv hv=>(yB.1 hv).elim (λe=>e ▸ hc) λhv=>A61 hc (h3 v hv)
  unfold mrg
  rw[if_pos hc]
  refine⟨Aa7 ek (Aoy r x) i1 (bel i2 h1 hxb),λy=>?_⟩
  rw[yG,Aob,i2,yB]
  have hn:x.Key∉(w::b).map wk:=λhm=>by
   obtain⟨v,hv,e⟩:=yA.1 hm
   exact A1s (hxb v hv) e
  constructor
  ·rintro(⟨h,rfl⟩|⟨h,h',h''⟩|h)
   ·exact .inl ⟨h,.inl rfl,hn⟩
   ·exact .inl ⟨h,.inr h',h''⟩
   ·exact .inr h
  ·rintro(⟨h,rfl|h',h''⟩|h)
   ·exact .inl ⟨h,rfl⟩
   ·exact .inr (.inl ⟨h,h',h''⟩)
   ·exact .inr (.inr h)
 | case5 x l w b hc ih1 ih2 =>
  obtain⟨h1,h2⟩:=yX.1 hl
  obtain⟨h3,h4⟩:=yX.1 hb
  unfold mrg
  rw[if_neg hc]
  by_cases he:Ce x.Key w.Key<=0
  ·have e:x.Key=w.Key:=Pf (by omega)
   obtain⟨i1,i2⟩:=ih1 h2 h4
   have hwl:∀ y∈l,Ce w.Key (kvk y)<0:=λy hy=>e ▸ h1 y hy
   rw[if_pos he]
   refine⟨Aa7 ew (Ai7 r w) i1 (bel i2 hwl h3),λy=>?_⟩
   rw[yG,Aiv,i2,yB]
   simp only[xN,yB,not_or,exists_eq_or_imp]
   constructor
   ·rintro(h|⟨h,h',h''⟩|h)
    ·exact .inr (.inl h)
    ·exact .inl ⟨h,.inr h',A1s (hwl y h'),h''⟩
    ·exact .inr (.inr h)
   ·rintro(⟨h,rfl|h',h'',h3⟩|h|h)
    ·exact absurd e h''
    ·exact .inr (.inl ⟨h,h',h3⟩)
    ·exact .inl h
    ·exact .inr (.inr h)
  ·obtain⟨i1,i2⟩:=ih2 hl h4
   have hwx:Ce w.Key x.Key<0:=by have:=Lh w.Key x.Key;omega
   have hwl:∀ y∈x::l,Ce w.Key (kvk y)<0:=λy hy=>(yB.1 hy).elim (λe=>e ▸ hwx) λhy=>A61 hwx (h1 y hy)
   rw[if_neg he]
   refine⟨Aa7 ew (Ai7 r w) i1 (bel i2 hwl h3),λy=>?_⟩
   rw[yG,Aiv,i2]
   simp only[xN,yB,not_or,exists_eq_or_imp]
   constructor
   ·rintro(h|⟨h,h',h''⟩|h)
    ·exact .inr (.inl h)
    ·exact .inl ⟨h,h',A1s (hwl y (yB.2 h')),h''⟩
    ·exact .inr (.inr h)
   ·rintro(⟨h,h',h'',h3⟩|h|h)
    ·exact .inr (.inl ⟨h,h',h3⟩)
    ·exact .inl h
    ·exact .inr (.inr h)
theorem A8b {r:Aj} {l:List As} {b:List Ae} (hl:Gh kvk l) (hb:Gh wk b):mrg r l b=ovL b l r :=
 Aw3 (Azp r l b hl hb).1 (A34 r hb hl) λx=>((Azp r l b hl hb).2 x).trans (A6s hb hl).symm
theorem A1l {l:List As} (h:Gh kvk l) (hk:∀ x∈l,x.Key.length<=1000000) (hl:l.length<=1000000):Nj l=some true:=by
 obtain⟨v,hv,rfl⟩:=B9 (f:=Nb l) (P:=λs=>∃ i:Nat,1<=i/\s=(i:Int)) (μ:=λs=>l.length-s.toNat) (R:=λv=>v=.inr ()) (by
  rintro _ ⟨i,h1,rfl⟩
  unfold Nb
  rcases zQ i l.length with hlt|hge
  ·have hlt':i-1<l.length:=by omega
   have:=z7.1 h (i-1) i hlt' hlt omg
   have h2:Ce l[i-1].Key l[i].Key<0:=this
   rw[ifo,wIo,show(i:Int)-1=((i-1:Nat):Int) by omega,Ak,Ak,zC hlt,zC hlt',zA,zA,Adm _ _ (by have:=hk _ (yW hlt');omega),zA,ifq,wIo]
   exact .inl ⟨_,rfl,⟨i+1,omg,rfl⟩,by simp only[z6];omega⟩
  ·rw[ifq]
   exact .inr (.inl ⟨_,rfl,rfl⟩)) fuel 1 ⟨1,zT _,rfl⟩ (Bb (by show l.length-1<=_;omega))
 unfold Nj
 rw[hv];rfl
theorem A5s (r:Aj) {i k i' k':Int} {o:List As} (ho:o.length<=8) {d:Bool} {key val:List UInt8} (hk:key.length<=1000000):M5 r (i,k,o) (d,key,val) i' k'=some (.cont (i',k',o++if !d&&Pu r key then[⟨key,val⟩] else[])):=by
 unfold M5
 dsimp only
 rw[Ao2 _ _ omg]
 cases d
 ·simp only[wT,↓reduceIte,zA,wG]
  cases Pu r key
  ·simp
  ·simp only[↓reduceIte]
   rw[if_pos (by simp;omega)]
 ·simp
theorem rover09 {b:List Ae} {l:List As} (r:Aj) (hb:bf.Good b) (hl:Gh kvk l) (hk:∀ x∈l,x.Key.length<=1000000) (hn:l.length<=1000000):Rz ⟨b⟩ l r 8=C5 ⟨b⟩ l r 8:=by
 have hbl:=hb.len
 rw[over_m r hb hl hn (by decide),<- A8b hl hb.rise]
 have hbk:∀ w∈b,w.Key.length<=1000000:=λw hw=>by
  have:=hb.sw w hw
  rw[sw_eq,zG] at this
  have:=(kOk_len this.1).2
  omega
 obtain⟨M,hM⟩:∃ M,M=(mrg r l b).take 8:=⟨_,rfl⟩
 obtain⟨v,hv,rfl⟩:=Bo (f:=Ro ⟨b⟩ l r 8) (P:=λs=>∃ i k:Nat,i<=l.length/\k<=b.length/\s.1=(i:Int)/\s.2.1=(k:Int)/\s.2.2.length<=8/\(s.2.2++mrg r (l.drop i) (b.drop k)).take 8=M) (μ:=λs=>(l.length-s.1.toNat)+(b.length-s.2.1.toNat)) (R:=λv=>v=M) (by
  rintro⟨_,_,o⟩ ⟨i,k,hi,hk',rfl,rfl,ho,hm⟩
  dsimp only at ho hm
  unfold Ro
  dsimp only
  by_cases hfull:(o.length:Int)<8
  ·have hem:∀ {d:Bool} {key val:List UInt8},(o++if !d&&Pu r key then[(⟨key,val⟩:As)] else[]).length<=8:=λ{d key val}=>by
    rw[zI]
    have:(if !d&&Pu r key then[(⟨key,val⟩:As)] else[]).length<=1:=by split <;> simp
    omega
   rcases zQ i l.length with hil|hil
   ·have hx:=zC hil
    have hdx:=xB hil
    have hxk:=hk _ (yW hil)
    have ex:emK r l[i]=if !false&&Pu r l[i].Key then[(⟨l[i].Key,l[i].Val⟩:As)] else[]:=rfl
    rcases zQ k b.length with hkl|hkl
    ·have hw:=zC hkl
     have hdw:=xB hkl
     have hwk:=hbk _ (yW hkl)
     have ew:emW r b[k]=if !b[k].Del&&Pu r b[k].Key then[(⟨b[k].Key,b[k].Val⟩:As)] else[]:=rfl
     rw[hdx,hdw] at hm
     unfold mrg at hm
     rw[ifo,ifp hfull]
     unfold Jz Ha J4 J1
     dsimp only
     rw[ifq,ifo]
     simp only[Ak,hx,hw,zA]
     rw[Adm _ _ omg,zA]
     left
     by_cases hc:Ce l[i].Key b[k].Key<0
     ·rw[if_pos hc,ex,<- xE] at hm
      rw[ifp hc,ifo,ifq,A5s r ho hxk,wIo]
      exact⟨_,rfl,⟨i+1,k,hil,hk',rfl,rfl,hem,by rw[hdw];exact hm⟩,by dsimp only;omega⟩
     ·rw[if_neg hc,ew,<- xE] at hm
      rw[ifn hc]
      by_cases he:Ce l[i].Key b[k].Key<=0
      ·rw[if_pos he] at hm
       rw[ifp he,ifo,A5s r ho hwk,wIo,wIo]
       exact⟨_,rfl,⟨i+1,k+1,hil,hkl,rfl,rfl,hem,hm⟩,by dsimp only;omega⟩
      ·rw[if_neg he] at hm
       rw[ifn he,ifo,A5s r ho hwk,wIo]
       exact⟨_,rfl,⟨i,k+1,hi,hkl,rfl,rfl,hem,by rw[hdx];exact hm⟩,by dsimp only;omega⟩
    ·have hdk:b.drop k=[]:=wN hkl
     rw[hdx,hdk] at hm
     unfold mrg at hm
     rw[ex,<- xE] at hm
     rw[ifo,ifp hfull]
     unfold Jz Ha J4 J1
     dsimp only
     rw[ifq,ifq,ifp (by decide:(-1:Int)<0),Ak,hx,zA,ifp (by decide:(-1:Int)<=0),ifn (by decide:¬ (0:Int) <= -1),A5s r ho hxk,wIo]
     exact .inl ⟨_,rfl,⟨i+1,k,hil,hk',rfl,rfl,hem,by rw[hdk];exact hm⟩,by dsimp only;omega⟩
   ·have hdi:l.drop i=[]:=wN hil
    rcases zQ k b.length with hkl|hkl
    ·have hw:=zC hkl
     have hdw:=xB hkl
     have hwk:=hbk _ (yW hkl)
     have ew:emW r b[k]=if !b[k].Del&&Pu r b[k].Key then[(⟨b[k].Key,b[k].Val⟩:As)] else[]:=rfl
     rw[hdi,hdw] at hm
     unfold mrg at hm
     rw[ew,<- xE] at hm
     rw[ifq,ifo,ifp hfull]
     unfold Jz Ha J4 J1
     dsimp only
     rw[ifo,ifn (by decide:¬ (1:Int)<0)]
     simp only[Ak,hw,zA]
     rw[ifn (by decide:¬ (1:Int)<=0),ifp (by decide:(0:Int)<=1),A5s r ho hwk,wIo]
     exact .inl ⟨_,rfl,⟨i,k+1,hi,hkl,rfl,rfl,hem,by rw[hdi];exact hm⟩,by dsimp only;omega⟩
    ·rw[hdi,wN hkl] at hm
     unfold mrg at hm
     rw[ifq,ifq]
     exact .inr ⟨_,rfl,by rw[<- hm,xC,yJ ho]⟩
  ·have e:o.length=8:=by omega
   have:o=M:=by rw[<- hm,xG (by omega),yJ (by omega)]
   rw[ifn hfull,ite_self,ite_self]
   exact .inr ⟨_,rfl,this⟩) fuel (0,0,[]) ⟨0,0,zU _,zU _,rfl,rfl,by simp,by rw[hM];simp⟩ (Bb (by show l.length-0+(b.length-0)<=_;omega))
 unfold Rz Xm
 rw[rsane09 hb,A1l hl hk hn,hv,hM];rfl
end st
theorem A7g {e:Aa} {n:Nat} (h:EgI e n) (k:OpE e) {i:Nat} {o:Aq} (ho:e.Open[i]? = some o):R4 e i=some true:=by
 have hop:=h.op
 have hom:=zD ho
 have hil:=(zB.1 ho).1
 obtain⟨x,hx,e1,e2,e3,e4⟩:=k.ops o hom
 obtain⟨b1,b2,b3,b4,b5⟩:=h.begun hx
 have hf:F6 e.Cert o.ID=some (x,true):=by
  rcases ss.find_c e.Cert o.ID (by have:=h.sc.len;omega) with⟨hn,_⟩|⟨y,hy,ey,hf⟩
  ·exact absurd e1 (hn x hx)
  ·rw[hf,h.sc.one hy hx (ey.trans e1.symm)]
 have ek4:Nm e i o ()=some true:=by
  have e5:B7 (Xe e i o) fuel 0=some (.inr ()):=A1y e.Open (Nat.le_of_lt hil) omg (λj y hj hy=>by
   rw[ifn λht=>?_]
   obtain⟨q1,q2⟩:=zB.1 hy
   obtain⟨q3,q4⟩:=zB.1 ho
   have:=z7.1 k.toks j i q1 q3 hj
   rw[q2,q4] at this;exact this ht)
  unfold Nm
  rw[e5]
  show Ri o ()=_
  unfold Ri
  rw[show o.Buf=⟨o.Buf.L⟩ from rfl,st.rsane09 (h.bf o hom)]
  cases hr:o.RO with
  | false=>rfl
  | true=>simp [k.ro o hom hr]
 unfold R4
 rw[Ak,ho,zA,ss.rfind11 h.sc,hf]
 simp only[zA,yK,zV,↓reduceIte,e2,e3,e4,ek4,beq_self_eq_true,decide_true]
 rw[ifq,ifq]
 by_cases h0:0<(i:Int)
 ·have hy:e.Open[i-1]? = some (e.Open[i-1]'omg):=zC omg
  rw[ifp h0,wIo,show(i:Int)-1=((i-1:Nat):Int) by omega,Ak,hy,zA,ifn λhle=>?_]
  obtain⟨q3,q4⟩:=zB.1 ho
  have:=z7.1 k.ids (i-1) i omg q3 omg
  rw[q4] at this;omega
 ·rw[ifn h0]
theorem Aoq {e:Aa} {n:Nat} (h:EgI e n) (hn:n<=500) (k:OpE e):J3 e=some true:=by
 have hop:=h.op
 have hsl:=h.sc.len
 obtain⟨n1,n2⟩:=h.nx
 have e1:B7 (Mj e) fuel 0=some (.inr ()):=Axb (n:=e.Open.length) omg (λi hi=>by
  unfold Mj
  rw[ifo,A7g h k (zC hi)];rfl) (by
  unfold Mj
  rw[ifq])
 have e2:B7 (Nh e) fuel (0,0)=some (.inr (((e.Cert.Txs.filter λx=>decide (x.State=1)).length:Nat):Int)):=by
  obtain⟨v,hv,rfl⟩:=B9 (f:=Nh e) (P:=λs=>∃ i:Nat,i<=e.Cert.Txs.length/\s=((((e.Cert.Txs.take i).filter λx=>decide (x.State=1)).length:Int),(i:Int))) (μ:=λs=>e.Cert.Txs.length-s.2.toNat) (R:=λv=>v=.inr (((e.Cert.Txs.filter λx=>decide (x.State=1)).length:Nat):Int)) (by
   rintro _ ⟨i,hi,rfl⟩
   unfold Nh Q9
   dsimp only
   rcases zQ i e.Cert.Txs.length with hlt|hge
   ·have hx:=zC hlt
    have hb:=(h.begun (yW hlt)).2.2.2.2
    have ht:=zO hlt
    have hfl:=xK (λx:Ag=>decide (x.State=1)) (e.Cert.Txs.take i)
    rw[zR] at hfl
    rw[ifo,Ak,hx]
    simp only[zA]
    by_cases hs:e.Cert.Txs[i].State=1
    ·rw[ifp hs,ifq,wIo,wIo]
     exact .inl ⟨_,rfl,⟨i+1,hlt,by rw[ht,List.filter_append,List.length_append,List.filter_cons,if_pos (decide_eq_true hs)];rfl⟩,by dsimp only;omega⟩
    ·rw[ifn hs,ifq,wIo]
     exact .inl ⟨_,rfl,⟨i+1,hlt,by rw[ht,List.filter_append,List.length_append,List.filter_cons,if_neg (by rw[decide_eq_true_eq];exact hs)];rfl⟩,by dsimp only;omega⟩
   ·rw[ifq]
    exact .inr (.inl ⟨_,rfl,by rw[yJ hge]⟩)) fuel (0,0) ⟨0,zU _,rfl⟩ (Bb (by show e.Cert.Txs.length-0<=_;omega))
  exact hv
 have e3:(e.Cert.Txs.filter λx=>decide (x.State=1)).length=e.Open.length:=by
  have hm:(e.Cert.Txs.filter λx=>decide (x.State=1)).length=((e.Cert.Txs.filter λx=>decide (x.State=1)).map (·.ID)).length:=(zP ..).symm
  rw[hm,<- zP (f:=λo:Aq=>o.ID)]
  refine((k8 ?_ ?_).2 λt=>?_).length_eq
  ·exact(wH.2 h.sc.ids).sublist (List.filter_sublist.map _)
  ·exact wH.2 (k.ids.imp λh e=>by omega)
  ·rw[yA,yA]
   constructor
   ·rintro⟨x,hx,rfl⟩
    obtain⟨h1,h2⟩:=yO.1 hx
    exact k.act x h1 (of_decide_eq_true h2)
   ·rintro⟨o,ho,rfl⟩
    obtain⟨x,hx,e1,e2,_⟩:=k.ops o ho
    exact⟨x,yO.2 ⟨hx,decide_eq_true e2⟩,e1⟩
 unfold J3 Xv Xh Wa
 rw[show e.Store=⟨e.Store.Keys,e.Store.Chains,e.Store.Ts⟩ from rfl,st.rsane08 h.st omg h.kl,ss.rsane11 h.sc,show e.Toks=⟨e.Toks.L⟩ from rfl,Agh h.tk,e1,e2,e3]
 simp only[zA,yK,zV,↓reduceIte]
 rw[ifq,ifq,ifq,decide_true]
theorem A4y {e:Aa} {n:Nat} (h:EgI e n) (hn:n<=500) (k:OpE e) (id:Int) :
  (∃ (i:Nat) (o:Aq),e.Open[i]? = some o/\o.ID=id/\C0 e id=some (o,0)/\En e id=some ((i:Int),0))\/(C0 e id=some (Pg,7)/\En e id=some (0,7)):=by
 have hop:=h.op
 unfold C0 En
 rw[Xi h hn k,Aoq h hn k,show La e id=B0 e id from rfl]
 rcases X7 e id omg with⟨_,he⟩|⟨i,o,ho,hid,he⟩
 ·rw[he];exact .inr ⟨rfl,rfl⟩
 ·refine .inl ⟨i,o,ho,hid,?_,?_⟩ <;> simp only[he,zA,yK,zV,↓reduceIte,Ak,ho] <;> rw[ifq]
theorem Asx (e:Aa) (id:Int):K9 e id=E9 e id:=by
 have:Oc e id=Gd e id:=by
  funext s
  unfold Oc Gd
  cases hx:idx e.Open s.1 with
  | none=>rfl
  | some u=>rfl
 unfold K9 E9
 rw[this];rfl
structure GuE (e:Aa):Prop where
 sc:ss.SC e.Cert
 tk:OkT e.Toks.L
 op:e.Open.length<=16
 ids:e.Open.Pairwise λa b=>a.ID<b.ID
 toks:e.Open.Pairwise λa b=>a.Token≠b.Token
theorem EgI.gu {e:Aa} {n:Nat} (h:EgI e n) (k:OpE e):GuE e:=⟨h.sc,h.tk,h.op,k.ids,k.toks⟩
theorem GuE.some {e:Aa} (h:GuE e) (o:Aq):∃ e',A5 e o=Option.some e':=by
 unfold A5
 rw[Uv _ _ (by have:=h.op;omega),zA]
 dsimp only
 obtain⟨c',hc⟩:∃ c',Cb e.Cert o.ID=Option.some c':=(ss.abort_m h.sc o.ID).elim (λx=>⟨_,x.2⟩) λx=>⟨_,x.2⟩
 obtain⟨l',m,er,ht,-⟩:=Ans h.tk o.Token o.Attempt
 rw[hc,zA,show e.Toks=⟨e.Toks.L⟩ from rfl,ht,zA]
 split
 ·exact⟨_,rfl⟩
 ·exact⟨_,rfl⟩
theorem Aqo {e:Aa} (h:GuE e) {o:Aq} (ho:o∈e.Open):Fv e o.ID=A5 e o:=by
 have hop:=h.op
 have hf:Qf e o.ID=some (o,true):=by
  unfold Qf
  rw[show La e o.ID=B0 e o.ID from rfl]
  rcases X7 e o.ID omg with⟨hn,_⟩|⟨i,p,hp,hid,he⟩
  ·exact absurd rfl (hn o ho)
  ·have:p=o:=ss.pw_eq h.ids (zD hp) ho (λx=>by omega) (λx=>by omega)
   rw[he,zA,ifq,Ak,hp,this];rfl
 unfold Fv A5
 rw[hf,zA,if_neg smp,Asx,Uv _ _ omg,zA,zA]
 dsimp only
 rw[ss.rab11 h.sc,show e.Toks=⟨e.Toks.L⟩ from rfl,Apd h.tk]
theorem Azh {e:Aa} (h:GuE e) (tok att:Int):Ga e tok att=(Hg e tok).bind λv=>if v.2&&decide (v.1.Attempt<att) then A5 e v.1 else some e:=by
 have hop:=h.op
 have e1:B7 (Oz e tok att) fuel 0=some ((e.Open.find? λo=>decide (o.Token=tok)&&decide (o.Attempt<att)).elim (.inr ()) λo=>.inl ((A5 e o).getD e)):=A9q e.Open _ _ omg (λi o ho=>by
  obtain⟨e',he⟩:=h.some o
  rw[Ak,ho]
  simp only[zA]
  rw[Aqo h (zD ho),he]
  cases decide (o.Token=tok) <;> cases decide (o.Attempt<att) <;> rfl)
 unfold Ga
 rw[e1]
 obtain⟨r,hr,hc⟩:=Ae5 e tok omg
 rw[hr]
 rcases hc with⟨h1,h2,h3⟩|⟨h1,h2⟩
 ·rw[zA,zA,h1,wG]
  cases hd:decide (r.1.Attempt<att) with
  | true =>
   have:(e.Open.find? λo=>decide (o.Token=tok)&&decide (o.Attempt<att))=some r.1:=by
    cases hf:e.Open.find? λo=>decide (o.Token=tok)&&decide (o.Attempt<att) with
    | none =>
     have:=kQ.1 hf r.1 h2
     rw[decide_eq_true h3,hd] at this;exact absurd rfl this
    | some y =>
     have hy:=zAi hf
     rw[zG,decide_eq_true_eq] at hy
     rw[ss.pw_eq h.toks (k9 hf) h2 (λx=>x (hy.1.trans h3.symm)) (λx=>x (h3.trans hy.1.symm))]
   obtain⟨e',he⟩:=h.some r.1
   rw[this,if_pos rfl,he]
   show some ((A5 e r.1).getD e)=_
   rw[he];rfl
  | false =>
   rw[Abl λo ho=>?_];rfl
   cases ht:decide (o.Token=tok) with
   | false=>rfl
   | true =>
    rw[ss.pw_eq h.toks ho h2 (λx=>x ((of_decide_eq_true ht).trans h3.symm)) (λx=>x (h3.trans (of_decide_eq_true ht).symm)),hd];rfl
 ·rw[zA,zA,h1,Abl λo ho=>by rw[decide_eq_false (h2 o ho)];rfl];rfl
theorem Ayt {e:Aa} {n:Nat} (h:EgI e n) (hn:n<=400) (k:OpE e) (tok att:Int) (ro:Bool):Ql e tok att ro=Ep e tok att ro:=by
 have k3:∀ {f:Aa},EgI f n->(if decide (1099511627776<=f.Next) then(some (f,0,11)) else(if decide (16<=(f.Open.length:Int)) then(some (f,0,8)) else((Nk f.Toks tok att).bind λv3=>if (!decide (v3.2=0)) then(some (f,0,v3.2)) else((M6 f.Cert f.Next f.Store.Ts ro).bind λv4=>if (!decide (v4.2=0)) then(some (f,0,v4.2)) else(if (([]:List Aq).length+f.Open.length)*64<=140737488355328 then(if ((([]:List Aq)++f.Open).length+[(Aq.mk f.Next tok att f.Store.Ts ro (Au.mk ([]:List Ae)))].length)*64<=140737488355328 then(some ((Aa.mk f.Store v4.1 v3.1 ((([]:List Aq)++f.Open)++[(Aq.mk f.Next tok att f.Store.Ts ro (Au.mk ([]:List Ae)))]) (wI (f.Next+1))),f.Next,0)) else none) else none)))))=De tok att ro f:=λ{f} h=>by
  have hop:=h.op
  obtain⟨n1,n2⟩:=h.nx
  unfold De
  rw[show f.Toks=⟨f.Toks.L⟩ from rfl,Ayu h.tk,ss.rbegin11 h.sc f.Next f.Store.Ts ro n1 h.st.t0 h.st.t1,Rx _ (by simp;omega) (by simp)]
  simp [show(f.Open.length+1)*64<=140737488355328 from omg,show f.Open.length*64<=140737488355328 from omg]
 unfold Ql Ep
 rw[Aoq h omg k,Xi h omg k,Azh (h.gu k)]
 have hop:=h.op
 obtain⟨r,hr,hc⟩:=Ae5 e tok omg
 rw[hr]
 simp only[zA,yK,zV,↓reduceIte]
 rcases hc with⟨h1,h2,h3⟩|⟨h1,h2⟩
 ·rw[h1,wG]
  cases hd:decide (r.1.Attempt<att) with
  | true =>
   obtain⟨e',he,h',_⟩:=X1 h k h2
   simp only[he,zA,↓reduceIte]
   exact k3 h'
  | false =>
   simp only[zV,↓reduceIte,zA]
   exact k3 h
 ·rw[h1,zAj]
  simp only[zV,↓reduceIte,zA]
  exact k3 h
theorem A6a {e:Aa} {n:Nat} (h:EgI e n) (hn:n<=400) (k:OpE e) (id:Int) (key:List UInt8) (hk:key.length<=50):Um e id key=H6 e id key:=by
 unfold Um H6
 rcases A4y h omg k id with⟨i,o,ho,rfl,e1,e2⟩|⟨e1,e2⟩
 ·have hom:=zD ho
  unfold Fw
  simp only[e1,e2,zA,Ak,ho,decide_true,yK,zV,↓reduceIte]
  rw[show D6 key=Co key from rfl,st.rget09,bf.rone_m _ omg,bf.one_m _ omg]
  simp only[zA]
  rw[ss.rread11 h.sc,Aqo (h.gu k) hom,show e.Store=⟨e.Store.Keys,e.Store.Chains,e.Store.Ts⟩ from rfl,st.rget08 h.st omg h.kl]
  cases Co key with
  | none=>rfl
  | some b =>
   cases b
   ·rfl
   ·cases Gq o.Buf key with
    | none=>rfl
    | some w =>
     simp only[zA,yK,zV,↓reduceIte]
     cases w.2
     ·cases Cd e.Cert o.ID _ with
      | none=>rfl
      | some v =>
       simp only[zA,zV,↓reduceIte]
       cases hv:decide (v.2=0)
       ·cases A5 e o with
        | none=>rfl
        | some e' =>
         show _=if (!decide (v.2=0))=true then _ else _
         rw[hv];rfl
       ·rfl
     ·rfl
 ·simp only[e1,e2,zA];rfl
theorem Ayj {e:Aa} {n:Nat} (h:EgI e n) (hn:n<=400) (k:OpE e) (id:Int):Qr e id=J9 e id:=by
 unfold Qr J9
 rcases A4y h omg k id with⟨i,o,ho,rfl,e1,e2⟩|⟨e1,e2⟩
 ·simp only[e1,e2,zA,decide_true,yK,zV,↓reduceIte]
  rw[Aqo (h.gu k) (zD ho)]
 ·simp only[e1,e2,zA];rfl
theorem Aqu {e:Aa} {n:Nat} (h:EgI e n) (hn:n<=400) (k:OpE e) (tok:Int):Mf e tok=G6 e tok:=by
 unfold Mf G6
 rw[Aoq h omg k,Xi h omg k,show e.Toks=⟨e.Toks.L⟩ from rfl,A6d h.tk];rfl
theorem A56 {e:Aa} {n:Nat} (h:EgI e n) (hn:n<=400) (k:OpE e) (id:Int) (w:Ae):Uk e id w=Hw e id w:=by
 have hop:=h.op
 unfold Uk Hw
 rcases A4y h omg k id with⟨i,o,ho,rfl,e1,e2⟩|⟨e1,e2⟩
 ·have hom:=zD ho
  simp only[e1,e2,zA,Ak,ho,decide_true,yK,zV,↓reduceIte]
  rw[show o.Buf=⟨o.Buf.L⟩ from rfl,st.rset09 (h.bf o hom),Aqo (h.gu k) hom]
  cases hro:o.RO
  ·cases Bu ⟨o.Buf.L⟩ w with
   | none=>rfl
   | some v =>
    unfold Qq Ol Lq
    simp only[zA,zV,↓reduceIte]
    by_cases h0:v.2=0
    ·rw[h0,Pv _ omg]
     have hp:B0 e o.ID=some (i:Int):=by
      rcases X7 e o.ID omg with⟨hn,_⟩|⟨j,p,hp,hid,he⟩
      ·exact absurd rfl (hn o hom)
      ·obtain⟨q1,q2⟩:=zB.1 hp
       obtain⟨q3,q4⟩:=zB.1 ho
       rcases kH i j with hlt|rfl|hlt
       ·have:=z7.1 k.ids i j q3 q1 hlt
        rw[q2,q4] at this;omega
       ·exact he
       ·have:=z7.1 k.ids j i q1 q3 hlt
        rw[q2,q4] at this;omega
     rw[ifn (by decide:¬ (0:Int)=1),ifz,ifz,if_pos (by simp;omega)]
     show(idx e.Open (i:Int)).bind _=((some e.Open).bind λv1=>(B0 e o.ID).bind _).bind _
     rw[hp]
     simp only[zA,Ak,ho,hro];rfl
    ·by_cases h1:v.2=1
     ·simp [h1]
     ·rw[ifn h1,decide_eq_false h0,show(v.2==1)=false from beq_eq_false_iff_ne.2 h1]
      cases A5 e o <;> rfl
  ·rfl
 ·simp only[e1,e2,zA];rfl
theorem Asn (r:Aj) (t:Int) {K:List (List UInt8)} {C:List Ab} {T:Int} {B:Nat} (h:st.OkS K C T B):Gh kvk (st.ents r t K C)/\∀ x∈st.ents r t K C,x.Key∈K:=by
 have hs:∀ l:List (List UInt8×Ab),((l.flatMap (st.ent r t)).map kvk).Sublist (l.map (·.1)):=λl=>by
  induction l with
  | nil=>exact List.Sublist.refl _
  | cons p l ih =>
   rw[yY,xJ,xN]
   unfold st.ent
   split
   ·exact ih.cons_cons _
   ·exact ih.cons _
 have hs:=hs (K.zip C)
 rw[st.fst_zip h.cl] at hs
 exact⟨bf.pw_rise.1 (h.pw.sublist hs),λx hx=>hs.subset (yA.2 ⟨x,hx,rfl⟩)⟩
theorem A33 {e:Aa} {n:Nat} (h:EgI e n) (hn:n<=400) (k:OpE e) (id:Int) (r:Aj) (hr:r.Hi.length<=100):Sw e id r 8=Mb e id r 8:=by
 unfold Sw Mb Wz Ru
 rcases A4y h omg k id with⟨i,o,ho,rfl,e1,e2⟩|⟨e1,e2⟩
 ·have hom:=zD ho
  have hel:=st.ents_len r o.Snap e.Store.Keys e.Store.Chains
  have hkl:=h.kl
  obtain⟨hr1,hr2⟩:=Asn r o.Snap h.st
  have hsc:O3 e.Store r o.Snap 1000=some (st.ents r o.Snap e.Store.Keys e.Store.Chains):=by
   rw[show e.Store=⟨e.Store.Keys,e.Store.Chains,e.Store.Ts⟩ from rfl,st.rscan08 h.st omg h.kl,st.scan_m h.st omg h.kl]
   exact congrArg some (yJ (show _<=1000 by omega))
  have hsp:E1 e.Store r o.Snap 128=some (st.ents r o.Snap e.Store.Keys e.Store.Chains):=by
   rw[show e.Store=⟨e.Store.Keys,e.Store.Chains,e.Store.Ts⟩ from rfl,st.scan_m h.st omg h.kl]
   exact congrArg some (yJ (show _<=128 by omega))
  unfold Fw
  simp only[e1,e2,zA,Ak,ho,decide_true,yK,zV,↓reduceIte]
  rw[bf.rsaneR,bf.rempty_m _ omg,bf.empty_m,ss.rread11 h.sc,Aqo (h.gu k) hom,hsc]
  cases Br r with
  | none=>rfl
  | some b =>
   cases b
   ·rfl
   ·cases bf.emptyV r
    ·cases Cd e.Cert o.ID r with
     | none=>rfl
     | some v =>
      simp only[zA,yK,zV,↓reduceIte]
      cases hv:decide (v.2=0)
      ·cases A5 e o with
       | none=>rfl
       | some e' =>
        show _=if (!decide (v.2=0))=true then _ else _
        rw[hv];rfl
      ·show _=(E1 e.Store r o.Snap 128).bind _
       rw[hsp]
       simp only[zA,yK,zV,↓reduceIte]
       rw[show o.Buf=⟨o.Buf.L⟩ from rfl,st.rover09 r (h.bf o hom) hr1 (λx hx=>by have:=(st.kOk_len (h.st.ks _ (hr2 x hx))).2;omega) omg]
    ·rfl
 ·simp only[e1,e2,zA];rfl
theorem Av5 {e:Aa} {n:Nat} (h:EgI e n) (hn:n<=400) (k:OpE e) (tok att:Int):Oj e tok att=Iu e tok att:=by
 have hop:=h.op
 unfold Oj Iu N4 E3
 rw[Aoq h omg k,Xi h omg k,show e.Toks=⟨e.Toks.L⟩ from rfl,Apd h.tk]
 obtain⟨l',m,er,ht,ht2⟩:=Ans h.tk tok att
 rw[ht]
 simp only[zA,yK,zV,↓reduceIte]
 by_cases h0:er=0
 ·obtain⟨ok,-⟩:=ht2 h0
  have hln:=ok.n
  rw[decide_eq_true h0]
  have gu:GuE { e with Toks:=⟨l'⟩ }:=⟨h.sc,ok,hop,k.ids,k.toks⟩
  obtain⟨r,hr,-⟩:=Ae5 { e with Toks:=⟨l'⟩ } tok (by show e.Open.length<=_;omega)
  rw[Aj1 omg,Wf omg,hr]
  simp only[zA,yK,zV,↓reduceIte]
  cases hf:fnd l' tok with
  | none =>
   cases r.2 <;> rfl
  | some x =>
   have:=Ap4 (ok.e x (Jk hf).2.2)
   dsimp only
   rw[wIo,Azh gu,hr,zA,show decide (r.1.Attempt<x.Attempt+1)=decide (r.1.Attempt<=x.Attempt) from decide_eq_decide.2 (by omega)]
   cases decide (x.State=3) <;> cases r.2 <;> cases decide (r.1.Attempt<=x.Attempt) <;> rfl
 ·rw[decide_eq_false h0];rfl
theorem Bab (l:List Ae) (hl:l.length<=1000000):Sr l=some (l.map bf.wk):=by
 have e:Be (Wn l) fuel (0,[])=some ((l.filter λ_=>true).map bf.wk):=A2b l (λ_=>true) bf.wk 24 omg omg (λi x acc _=>rfl)
 unfold Sr
 rw[e,jS.2 λ_ _=>rfl];rfl
theorem Asv {e:Aa} {n:Nat} (h:EgI e n) (hn:n<=400) (k:OpE e) (id:Int):Ou e id=Dv e id:=by
 have hop:=h.op
 have hts:=h.ts
 have hst0:=h.st.t0
 unfold Ou Dv
 rcases A4y h omg k id with⟨i,o,ho,rfl,e1,e2⟩|⟨e1,e2⟩
 ·have hom:=zD ho
  have hb:=h.bf o hom
  have hbl:=hb.len
  have hK:ss.KS (o.Buf.L.map bf.wk):=⟨λx hx=>by
   obtain⟨w,hw,rfl⟩:=yA.1 hx
   have:=hb.sw w hw
   rw[st.sw_eq,zG] at this
   exact st.kOk_len this.1,bf.pw_rise.2 hb.rise⟩
  unfold Lb
  simp only[e1,e2,zA,Ak,ho,decide_true,yK,zV,↓reduceIte]
  rw[wIo,ifq,ifq,Bab _ omg,show G8 o.Buf=some (o.Buf.L.map bf.wk) from(show G8 o.Buf=Cs o.Buf from rfl).trans (bf.keysOf_m (b:=o.Buf.L) omg),Aqo (h.gu k) hom]
  simp only[zA]
  rw[ss.rcommit11 h.sc o.ID _ hK (by rw[List.length_map];omega),show e.Toks=⟨e.Toks.L⟩ from rfl,A60 h.tk,show e.Store=⟨e.Store.Keys,e.Store.Chains,e.Store.Ts⟩ from rfl,st.rinstall08 h.st omg h.kl ⟨by dsimp only;omega,by dsimp only;omega⟩ hb,Asx]
  dsimp only
  obtain⟨c',er,hc,hc2⟩:=Akl h.cert o.ID (o.Buf.L.map bf.wk) (by rw[zP];omega)
  rw[hc]
  simp only[zA]
  obtain⟨g,hg⟩:=(h.gu k).some o
  rw[hg]
  by_cases h0:er=0
  ·rw[decide_eq_true h0]
   simp only[yK,zV,↓reduceIte]
   cases Cq ⟨e.Toks.L⟩ o.Token o.Attempt (e.Store.Ts+1) with
   | none=>rfl
   | some t =>
    simp only[zA]
    cases ht:decide (t.2=0) with
    | false =>
     show _=if (!decide (t.2=0))=true then _ else _
     rw[ht];rfl
    | true =>
     simp only[yK,zV,↓reduceIte]
     rcases st.install_m h.st omg h.kl (e.Store.Ts+1) o.Buf.L omg with⟨er3,he3,hin⟩|⟨K',C',hin,hT,hwo,-,hK',hlaid,hok⟩
     ·have h3:decide (er3=0)=false:=decide_eq_false (by rcases he3 with h|⟨h,-⟩|h <;> omega)
      rw[hin]
      simp only[zA,h3,wT,↓reduceIte]
     ·obtain⟨c2,hcl,hci⟩:=Aox (hc2 h0)
      rw[hin,Uv e o.ID omg]
      simp only[zA,decide_true,yK,zV,↓reduceIte]
      have hcl4:=hci.sc.len
      rw[ss.rclean11 (hc2 h0).sc,hcl]
      simp only[zA]
      rw[ss.rold11 _ _ omg,ss.oldest_m _ _ omg]
      simp only[zA]
      rw[st.rvac08 hok omg hK',st.vacS_m hok omg hK'];rfl
  ·rw[decide_eq_false h0]
   show _=if (!decide (er=0))=true then _ else _
   rw[decide_eq_false h0];rfl
 ·simp only[e1,e2,zA];rfl
theorem Bbf {e:Aa} {n:Nat} (h:EgI e n) (hn:n<=400) (k:OpE e) (o:Ic) (id:Int) (hk:o.Key.length<=50) (hr:o.Rng.Hi.length<=100):Uu e o id=Qu e o id:=by
 unfold Uu Qu
 rw[Ayt h hn k,A6a h hn k _ _ hk,A33 h hn k _ _ hr,A56 h hn k,Asv h hn k,Ayj h hn k,Av5 h hn k,Aqu h hn k]
structure Sm (e:Aa):Prop where
 ks:e.Store.Keys.length<=1000
 cs:e.Store.Chains.length<=1000
 vs:∀ c∈e.Store.Chains,c.L.length<=1000
 ts:e.Cert.Txs.length<=1000
 rs:e.Cert.Reads.L.length<=1000
 tk:e.Toks.L.length<=1000
 op:e.Open.length<=1000
 bs:∀ o∈e.Open,o.Buf.L.length<=1000
 kt:∀ x∈e.Cert.Txs,x.Keys.length<=1000
theorem EgI.sm {e:Aa} {n:Nat} (h:EgI e n) (hn:n<=500):Sm e:=⟨by have:=h.kl;omega,by have:=h.kl;have:=h.st.cl;omega,λc hc=>by have:=(h.st.cs c hc).2.2.2;omega,by have:=h.sc.len;omega,by have:=h.sc.gr.len;omega,by have:=h.tk.n;omega,by have:=h.op;omega,λo ho=>by have:=(h.bf o ho).len;omega,λx hx=>by have:=h.sc.keys x hx;omega⟩
theorem A3f:Sm Bh:=⟨by decide,by decide,by simp,by decide,by decide,by decide,by decide,by simp,by simp⟩
theorem Aww {e:Aa} (h:Sm e):Oi e=some e:=by
 obtain⟨h1,h2,h3,h4,h5,h6,h7,h8,h9⟩:=h
 obtain⟨⟨K,C,T⟩,⟨X,⟨R⟩⟩,⟨L⟩,O,N⟩:=e
 dsimp only at *
 have ft:∀ {α:Type} (l:List α),((l.filter λ_=>true).map id)=l:=λl=>by rw[jS.2 λ_ _=>rfl,wR]
 have ap:∀ {α β:Type} {acc:List α} {x:α} {sz i n:Nat} {y:β},acc.length<=i->i<=1000->sz<=1000->(if (acc.length+[x].length)*sz<=140737488355328 then some y else none)=some y:=λ{α β acc x sz i n y} ha hi hs=>if_pos (by
  have:=Nat.mul_le_mul (show acc.length+[x].length<=1001 by rw[yD];omega) hs
  omega)
 have e1:Be (Jn ⟨⟨K,C,T⟩,⟨X,⟨R⟩⟩,⟨L⟩,O,N⟩) fuel (0,K,T,N,[])=some (K,T,N,(C.filter λ_=>true).map id):=Azk (λacc i=>((i:Int),K,T,N,acc)) C (λ_=>true) id (λacc=>(K,T,N,acc)) omg (λacc i c hc ha=>by
  have hlt:=(zB.1 hc).1
  have hcl:=h3 c (zD hc)
  have e2:Be (Jh ⟨⟨K,C,T⟩,⟨X,⟨R⟩⟩,⟨L⟩,O,N⟩ ((i:Int),K,T,N,acc)) fuel (0,K,T,N,[])=some (K,T,N,(c.L.filter λ_=>true).map id):=Azk (λb j=>((j:Int),K,T,N,b)) c.L (λ_=>true) id (λb=>(K,T,N,b)) omg (λb j v hv hb=>by
   have:=(zB.1 hv).1
   unfold Jh
   dsimp only
   rw[Ak,hc,zA,ifo,zA,Ak,hv,zA,ap (n:=0) hb omg (by decide),wIo];rfl) (λb=>by
   unfold Jh
   dsimp only
   rw[Ak,hc,zA,ifq])
  unfold Jn Sd
  dsimp only
  rw[ifo,e2,zA,ft,ap (n:=0) ha omg (by decide),wIo];rfl) (λacc=>by
  unfold Jn
  dsimp only
  rw[ifq])
 have e3:Be (I3 ⟨⟨K,C,T⟩,⟨X,⟨R⟩⟩,⟨L⟩,O,N⟩) fuel (0,K,T,N,[])=some (K,T,N,(X.filter λ_=>true).map id):=Azk (λacc i=>((i:Int),K,T,N,acc)) X (λ_=>true) id (λacc=>(K,T,N,acc)) omg (λacc i c hc ha=>by
  have hlt:=(zB.1 hc).1
  unfold I3
  dsimp only
  rw[ifo,Ak,hc,zA,ap (n:=0) ha omg (by decide),wIo];rfl) (λacc=>by
  unfold I3
  dsimp only
  rw[ifq])
 have e4:Be (Jj ⟨⟨K,C,T⟩,⟨X,⟨R⟩⟩,⟨L⟩,O,N⟩) fuel (0,K,T,N,[])=some (K,T,N,(R.filter λ_=>true).map id):=Azk (λacc i=>((i:Int),K,T,N,acc)) R (λ_=>true) id (λacc=>(K,T,N,acc)) omg (λacc i c hc ha=>by
  have hlt:=(zB.1 hc).1
  unfold Jj
  dsimp only
  rw[ifo,Ak,hc,zA,zA,ap (n:=0) ha omg (by decide),wIo];rfl) (λacc=>by
  unfold Jj
  dsimp only
  rw[ifq])
 have e5:Be (Jm ⟨⟨K,C,T⟩,⟨X,⟨R⟩⟩,⟨L⟩,O,N⟩) fuel (0,K,T,N,[])=some (K,T,N,(L.filter λ_=>true).map id):=Azk (λacc i=>((i:Int),K,T,N,acc)) L (λ_=>true) id (λacc=>(K,T,N,acc)) omg (λacc i c hc ha=>by
  have hlt:=(zB.1 hc).1
  unfold Jm
  dsimp only
  rw[ifo,Ak,hc,zA,ap (n:=0) ha omg (by decide),wIo];rfl) (λacc=>by
  unfold Jm
  dsimp only
  rw[ifq])
 have e6:Be (Ki ⟨⟨K,C,T⟩,⟨X,⟨R⟩⟩,⟨L⟩,O,N⟩) fuel (0,K,T,N,[])=some (K,T,N,(O.filter λ_=>true).map id):=Azk (λacc i=>((i:Int),K,T,N,acc)) O (λ_=>true) id (λacc=>(K,T,N,acc)) omg (λacc i c hc ha=>by
  have hlt:=(zB.1 hc).1
  unfold Ki
  dsimp only
  rw[ifo,Ak,hc,zA,ap (n:=0) ha omg (by decide),wIo];rfl) (λacc=>by
  unfold Ki
  dsimp only
  rw[ifq])
 unfold Oi Tz To Tn Ud T1
 dsimp only
 rw[e1,zA,e3,zA,e4,zA,e5,zA,e6,ft,ft,ft,ft,ft];rfl
theorem Bfe (l:List Ae) (hl:l.length<=1000):Sp l l=some true:=by
 have e:B7 (W3 l l) fuel 0=some (.inr ()):=V4 l omg (λi x hx=>by
  simp only[Ak,hx,zA,beq_self_eq_true,yK,zV,↓reduceIte])
 unfold Sp
 rw[ifz,e];rfl
theorem Beo (x:Ag) (hl:x.Keys.length<=1000):M4 x x=some true:=by
 have e:B7 (R7 x x) fuel 0=some (.inr ()):=V4 x.Keys omg (λi k hk=>by
  simp only[Ak,hk,zA,beq_self_eq_true,yK,zV,↓reduceIte])
 unfold M4 Sn
 rw[e]
 simp only[decide_true,beq_self_eq_true,yK,zV,↓reduceIte];rfl
theorem Bdf {e:Aa} (h:Sm e):R9 e e=some true:=by
 obtain⟨h1,h2,h3,h4,h5,h6,h7,h8,h9⟩:=h
 have e1:B7 (Wv e.Store e.Store) fuel 0=some (.inr ()):=V4 e.Store.Keys omg (λi k hk=>by
  simp only[Ak,hk,zA,beq_self_eq_true,yK,zV,↓reduceIte])
 have e2:B7 (Xj e.Store e.Store) fuel 0=some (.inr ()):=V4 e.Store.Chains omg (λi c hc=>by
  simp only[Ak,hc,zA]
  rw[st.rrefl07 _ (h3 c (zD hc))];rfl)
 have e3:B7 (Xc e.Cert e.Cert) fuel 0=some (.inr ()):=V4 e.Cert.Txs omg (λi x hx=>by
  simp only[Ak,hx,zA]
  rw[Beo x (h9 x (zD hx))];rfl)
 have e4:B7 (Rw e.Toks e.Toks) fuel 0=some (.inr ()):=V4 e.Toks.L omg (λi x hx=>by
  simp only[Ak,hx,zA,decide_true,Bool.and_self,yK,zV,↓reduceIte])
 have e5:B7 (V1 e e) fuel 0=some (.inr ()):=V4 e.Open omg (λi o ho=>by
  simp only[Ak,ho,zA,decide_true,beq_self_eq_true,yK,zV,↓reduceIte]
  rw[Bfe _ (h8 o (zD ho))];rfl)
 unfold R9 Xw Xp Sy W2 Wq Wb Vx
 rw[e1,e2,e3,e4,e5,show e.Cert.Reads=⟨e.Cert.Reads.L⟩ from rfl,ss.rrefl10 omg]
 simp only[decide_true,yK,zV,↓reduceIte];rfl
theorem Bap (x:B8) (hl:x.l_.length<=1000):R6 x x=some true:=by
 have e:B7 (Zm x.l_ x.l_) fuel 0=some (.inr ()):=V4 x.l_ omg (λi k hk=>by
  simp only[Ak,hk,zA,beq_self_eq_true,yK,zV,↓reduceIte])
 unfold R6 Z4
 rw[e]
 simp only[decide_true,beq_self_eq_true,yK,zV,↓reduceIte];rfl
theorem A7z (a0:List Ic):∃ v,Qo a0=some v/\(v=true->a0.length<=80/\∀ o∈a0,o.Key.length<=50/\o.Rng.Hi.length<=100):=by
 unfold Qo
 by_cases h80:80<(a0.length:Int)
 ·rw[ifp h80];exact⟨_,rfl,λh=>by cases h⟩
 rw[ifn h80]
 have e:B7 (Vm a0) fuel 0=some (if (a0.any λo=>!(decide (o.Rng.Lo.length<=100)&&decide (o.Rng.Hi.length<=100)&&decide (o.Key.length<=50)&&decide (o.Val.length<=100))) then .inl false else .inr ()):=Avd a0 _ false omg (λi o ho=>by
  unfold Uw
  simp only[Ak,ho,zA]
  have i1:∀ n m:Nat,decide ((n:Int)<=(m:Int))=decide (n<=m):=λn m=>decide_eq_decide.2 (by omega)
  have i2:∀ n m:Nat,decide ((m:Int)<(n:Int)) = !decide (n<=m):=λn m=>by rw[<- decide_not,decide_eq_decide];omega
  rw[show decide ((o.Rng.Lo.length:Int)<=100)=_ from i1 _ 100,show decide ((o.Rng.Hi.length:Int)<=100)=_ from i1 _ 100,show decide (50<(o.Key.length:Int))=_ from i2 _ 50,show decide (100<(o.Val.length:Int))=_ from i2 _ 100]
  cases decide (o.Rng.Lo.length<=100) <;> cases decide (o.Rng.Hi.length<=100) <;> cases decide (o.Key.length<=50) <;> cases decide (o.Val.length<=100) <;> rfl)
 rw[e]
 split
 ·exact⟨_,rfl,λh=>by cases h⟩
 ·rename_i hf
  refine⟨_,rfl,λ_=>⟨omg,λo ho=>?_⟩⟩
  have:=kU.1 (jJ.2 hf) o ho
  simp only[xQ,Bool.and_eq_false_iff,not_or,Bool.not_eq_false,decide_eq_true_eq] at this
  exact⟨this.1.2,this.1.1.2⟩
theorem Ajo (a0:List Ic):Rl a0=some true:=by
 unfold Rl
 rw[A1o,zA]
 obtain⟨v,hv,hs⟩:=A7z a0
 rw[hv,zA]
 cases v with
 | false=>rfl
 | true =>
 obtain⟨hl,hk⟩:=hs rfl
 rw[if_neg smp]
 obtain⟨v,hv,e,he,rfl⟩:=B9 (f:=Mx a0) (P:=λs=>∃ (i n:Nat),i<=a0.length/\n<=i/\s.1=(i:Int)/\s.2.1=s.2.2/\EgI s.2.1 n/\OpE s.2.1) (μ:=λs=>a0.length-s.1.toNat) (R:=λv=>∃ e,(∃ n:Nat,n<=80/\EgI e n/\OpE e)/\v=.inr (e,e)) (by
  rintro⟨_,e,f⟩ ⟨i,n,hi,hn,rfl,hf,hE,hO⟩
  dsimp only at hf hE hO ⊢
  subst hf
  unfold Mx
  dsimp only
  rcases zQ i a0.length with hlt|hge
  ·left
   have hx:=zC hlt
   obtain⟨k1,k2⟩:=hk _ (yW hlt)
   have key:∀ id:Int,∃ s',Jg a0 ((i:Int),e,e) id=some (.cont s')/\(∃ (i n:Nat),i<=a0.length/\n<=i/\s'.1=(i:Int)/\s'.2.1=s'.2.2/\EgI s'.2.1 n/\OpE s'.2.1)/\a0.length-s'.1.toNat<a0.length-((i:Nat):Int).toNat:=λid=>by
    obtain⟨e',x,hd,hx8,hc⟩:=Bfs hE omg hO a0[i] id k1
    have sm:Sm e':=hc.elim (λq=>q.2 ▸ A3f) λq=>q.1.sm omg
    unfold Jg
    dsimp only
    rw[Ak,hx,zA,hd,zA,zA,Bbf hE omg hO _ _ k1 k2,hd,zA,Bap x omg,zA,if_neg smp,Aww sm,zA,Bdf sm,zA,if_neg smp]
    unfold Q0 Il
    dsimp only
    rw[wIo]
    have same:∃ s',(some (.cont (((i:Int)+1),e,e)):Option (LR (Int×Aa×Aa) (Aa×Aa) Bool))=some (.cont s')/\(∃ (i n:Nat),i<=a0.length/\n<=i/\s'.1=(i:Int)/\s'.2.1=s'.2.2/\EgI s'.2.1 n/\OpE s'.2.1)/\a0.length-s'.1.toNat<a0.length-((i:Nat):Int).toNat:=⟨_,rfl,⟨i+1,n,hlt,omg,rfl,rfl,hE,hO⟩,by dsimp only;omega⟩
    rcases hc with⟨h1,rfl⟩|⟨h1,h2⟩
    ·rw[ifp h1,ifp (p:=Bh.Next=0) rfl,ifp (p:=(Bh.Open.length:Int)=0) rfl]
     exact same
    ·have next:∃ s',(some (.cont (((i:Int)+1),e',e')):Option (LR (Int×Aa×Aa) (Aa×Aa) Bool))=some (.cont s')/\(∃ (i n:Nat),i<=a0.length/\n<=i/\s'.1=(i:Int)/\s'.2.1=s'.2.2/\EgI s'.2.1 n/\OpE s'.2.1)/\a0.length-s'.1.toNat<a0.length-((i:Nat):Int).toNat:=⟨_,rfl,⟨i+1,n+1,hlt,omg,rfl,rfl,h1,h2⟩,by dsimp only;omega⟩
     split
     ·split
      ·split
       ·exact same
       ·exact next
      ·exact next
     ·exact next
   rw[ifo]
   split
   ·rename_i hp
    have hp:=of_decide_eq_true hp
    rw[Ak,hx,zA,if_pos (show e.Next≠0 from omg)]
    exact key _
   ·exact key _
  ·rw[ifq]
   exact .inr (.inl ⟨_,rfl,e,⟨n,omg,hE,hO⟩,rfl⟩)) fuel (0,Bh,Bh) ⟨0,0,zU _,zT _,rfl,rfl,Axz,Ayn⟩ (Bb (by show a0.length-0<=_;omega))
 obtain⟨n,hn,hE,hO⟩:=he
 rw[hv]
 show Mr true (e,e)=_
 unfold Mr
 rw[if_pos rfl,Xi hE omg hO];rfl
section
open Go.RowKit
def Ahg (x:Aj):Prop:=(x.Lo.length<=maxLen/\∀ xy∈x.Lo,True)/\(x.Hi.length<=maxLen/\∀ xy∈x.Hi,True)/\True
theorem Akr {ls:List Lf} (h:Am1 (.st (.pair (.sl (.int .u8)) (.pair (.sl (.int .u8)) (.pair (.bool) (.unit))))) ls):∃ x:Aj,Ahg x/\ls=Ace x:=by
 obtain⟨x0,y0,h0,⟨x1,y1,h1,⟨x2,y2,h2,hu,rfl⟩,rfl⟩,rfl⟩:=h
 obtain⟨a0,q0,rfl⟩:=(Atz (Q:=λ(x:UInt8)=>True) (λh=>Ayx h)) h0
 obtain⟨a1,q1,rfl⟩:=(Atz (Q:=λ(x:UInt8)=>True) (λh=>Ayx h)) h1
 obtain⟨a2,q2,rfl⟩:=Ani h2
 have hu:y2=[]:=hu
 subst hu
 exact⟨⟨a0,a1,a2⟩,⟨q0,q1,q2⟩,rfl⟩
def Apl (x:Ic):Prop:=(-9223372036854775808<=x.What/\x.What<=9223372036854775807)/\(-9223372036854775808<=x.N/\x.N<=9223372036854775807)/\(-9223372036854775808<=x.Token/\x.Token<=9223372036854775807)/\(-9223372036854775808<=x.Attempt/\x.Attempt<=9223372036854775807)/\True/\True/\(x.Key.length<=maxLen/\∀ xy∈x.Key,True)/\(x.Val.length<=maxLen/\∀ xy∈x.Val,True)/\Ahg x.Rng
theorem Aqq {ls:List Lf} (h:Am1 (.st (.pair (.int .i64) (.pair (.int .i64) (.pair (.int .i64) (.pair (.int .i64) (.pair (.bool) (.pair (.bool) (.pair (.sl (.int .u8)) (.pair (.sl (.int .u8)) (.pair (.st (.pair (.sl (.int .u8)) (.pair (.sl (.int .u8)) (.pair (.bool) (.unit))))) (.unit))))))))))) ls):∃ x:Ic,Apl x/\ls=Ai8 x:=by
 obtain⟨x0,y0,h0,⟨x1,y1,h1,⟨x2,y2,h2,⟨x3,y3,h3,⟨x4,y4,h4,⟨x5,y5,h5,⟨x6,y6,h6,⟨x7,y7,h7,⟨x8,y8,h8,hu,rfl⟩,rfl⟩,rfl⟩,rfl⟩,rfl⟩,rfl⟩,rfl⟩,rfl⟩,rfl⟩:=h
 obtain⟨a0,q0,rfl⟩:=Apc h0
 obtain⟨a1,q1,rfl⟩:=Apc h1
 obtain⟨a2,q2,rfl⟩:=Apc h2
 obtain⟨a3,q3,rfl⟩:=Apc h3
 obtain⟨a4,q4,rfl⟩:=Ani h4
 obtain⟨a5,q5,rfl⟩:=Ani h5
 obtain⟨a6,q6,rfl⟩:=(Atz (Q:=λ(x:UInt8)=>True) (λh=>Ayx h)) h6
 obtain⟨a7,q7,rfl⟩:=(Atz (Q:=λ(x:UInt8)=>True) (λh=>Ayx h)) h7
 obtain⟨a8,q8,rfl⟩:=Akr h8
 have hu:y8=[]:=hu
 subst hu
 exact⟨⟨a0,a1,a2,a3,a4,a5,a6,a7,a8⟩,⟨q0,q1,q2,q3,q4,q5,q6,q7,q8⟩,rfl⟩
end
end Go.Proofs.YtkblaobhhoebaaaGreat.Abs
