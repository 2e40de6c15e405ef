import Derived.Test.YtkblaobhhoebaaaGreatLSd
set_option linter.unusedVariables false
set_option linter.unusedSimpArgs false
namespace Go.Proofs.YtkblaobhhoebaaaGreat.Abs
structure UpE (e e':Ab):Prop where
 store:e'.Store=e.Store
 next:e'.Next=e.Next
 sub:∀ o∈e'.Open,o∈e.Open
 inv:∀ w:ss.WL11,ss.Inv ss.K10 w->w.c=e.Cert->ss.Inv ss.K10 { w with c:=e'.Cert }
theorem UpE.refl (e:Ab):UpE e e:=⟨rfl,rfl,λ_ h=>h,λw h hc=>by rw[<- hc];exact h⟩
structure Asl (e e':Ab) (i:Int) (r:Ar):Prop where
 store:e'.Store=e.Store
 next:e'.Next=e.Next
 opn:e'.Open=e.Open
 inv:∀ w:ss.WL11,ss.Inv ss.K10 w->w.c=e.Cert->ss.Inv ss.K10 { w with c:=e'.Cert,read:=w.read++[⟨i,r⟩] }
theorem Uu {e e':Ab} {o:Ax} (hop:e.Open.length<=1000) (h:Cd e o=some e'):UpE e e':=by
 unfold Cd at h
 rw[Uv e o.ID hop,zA] at h
 obtain⟨c',hc,h⟩:=Aa h
 obtain⟨f,-,h⟩:=Aa h
 have hc:C9 e.Cert o.ID=some c':=hc
 have hi:∀ w:ss.WL11,ss.Inv ss.K10 w->w.c=e.Cert->ss.Inv ss.K10 { w with c:=c' }:=λw hw hwc=>by
  obtain⟨c2,e2,h2,-⟩:=ss.inv_abort hw o.ID
  rw[hwc,hc] at e2
  cases e2
  exact h2
 split at h
 ·cases h;exact⟨rfl,rfl,λx hx=>(yG.1 hx).1,hi⟩
 ·cases h;exact⟨rfl,rfl,λx hx=>(yG.1 hx).1,hi⟩
theorem Aq6 {e e':Ab} {n:Nat} (h:EgI e n) {o:Ax} {r:Ar} {er:Int} (hr:G2 e o r=some (e',er)):(er≠0/\UpE e e')\/(er=0/\Asl e e' o.ID r):=by
 have hop:=h.op
 unfold G2 at hr
 obtain⟨v,hv,hr⟩:=Aa hr
 by_cases h0:v.2=0
 ·rw[if_neg (by rw[decide_eq_true h0];decide)] at hr
  simp only[zJ,Prod.mk.injEq] at hr
  obtain⟨rfl,rfl⟩:=hr
  refine .inr ⟨rfl,rfl,rfl,rfl,λw hw hc=>?_⟩
  obtain⟨c,now,begun,did,read⟩:=w
  dsimp only at hc
  subst hc
  have hsc:ss.SC e.Cert:=hw.sc
  rcases ss.read_m hsc o.ID r with⟨-,e5⟩|⟨a,ha,a1,a2,⟨x,hx,e5⟩|⟨-,e5⟩|⟨rs,hg,r1,r2,r3,r4,r5,e5⟩⟩
  ·have:=zD (hv.symm.trans e5);subst this;exact absurd h0 dcd
  ·have:=zD (hv.symm.trans e5);subst this
   dsimp only at h0
   omega
  ·have:=zD (hv.symm.trans e5);subst this;exact absurd h0 dcd
  ·have:=zD (hv.symm.trans e5);subst this
   rw[<- a1]
   exact ss.inv_read hw ha a2 r rs hg r1 r2 r3 r5
 ·rw[if_pos (by rw[decide_eq_false h0];rfl)] at hr
  obtain⟨f,hf,hr⟩:=Aa hr
  simp only[zJ,Prod.mk.injEq] at hr
  obtain⟨rfl,rfl⟩:=hr
  exact .inl ⟨h0,Uu omg hf⟩
theorem Ad7 {e:Ab} {n:Nat} (h:EgI e n) (hn:n<=400) (k:OpE e) {id:Int} {v:Ax×Int} (hv:Fq e id=some v):(v.2=0/\v.1∈e.Open/\v.1.ID=id)\/v.2=7:=by
 rcases Abb h omg k id with⟨o,ho,hid,hf⟩|⟨-,z,hf⟩
 ·rw[hf] at hv;cases hv;exact .inl ⟨rfl,ho,hid⟩
 ·rw[hf] at hv;cases hv;exact .inr rfl
theorem Aep {e e':Ab} {er:Int} (hne:er≠1) (h:Ck e er=some e'):e'=e:=by
 rw[Aou e er hne] at h
 exact(zD h).symm
theorem Avt (b:Bf) (k:List UInt8) (hl:b.L.length<=1000):I5 b k=some (match b.L.find? (λw=>bf.wk w==k) with|some w=>(w,true)|none=>(⟨[],[],false⟩,false)):=by
 unfold I5
 rw[Afv b.L (λw=>bf.wk w==k) (λw=>(w,true)) _ omg (λi x hx=>by
  have hlt:=(zB.1 hx).1
  unfold F0 Dz
  rw[ifo,A3,hx,zA,zA,wIo,show(x.Key==k)=(bf.wk x==k) from rfl]
  split <;> rfl) (by
  unfold F0
  rw[ifq])]
 cases b.L.find? (λw=>bf.wk w==k) <;> rfl
theorem Aye {e e':Ab} {n:Nat} (h:EgI e n) (hn:n<=400) (k:OpE e) {id:Int} {key v:List UInt8} {f:Bool} {er:Int} (hk:key.length<=50) (hg:Ke e id key=some (e',v,f,er)) :
  (er≠0/\UpE e e')\/(er=0/\∃ p∈e.Open,p.ID=id/\((e'=e/\∃ w∈p.Buf.L,w.Key=key/\v=w.Val/\f = !w.Del)\/(key∉p.Buf.L.map bf.wk/\Asl e e' id ⟨key,key++[0],false⟩/\Fo e.Store key p.Snap=some (v,f)))):=by
 unfold Ke at hg
 obtain⟨q,hq,hg⟩:=Aa hg
 rcases Ad7 h hn k hq with⟨q0,q1,q2⟩|q7
 ·rw[if_neg (by rw[decide_eq_true q0];decide),st.kSane_m,zA] at hg
  split at hg
  ·simp only[zJ,Prod.mk.injEq] at hg
   obtain⟨rfl,-,-,rfl⟩:=hg
   exact .inl ⟨by decide,UpE.refl _⟩
  have hlen:=(h.bf _ q1).len
  rw[Avt _ _ omg,zA] at hg
  cases hfd:q.1.Buf.L.find? (λw=>bf.wk w==key) with
  | some w =>
   rw[hfd] at hg
   dsimp only at hg
   rw[if_pos rfl] at hg
   simp only[zJ,Prod.mk.injEq] at hg
   obtain⟨rfl,rfl,rfl,rfl⟩:=hg
   exact .inr ⟨rfl,_,q1,q2,.inl ⟨rfl,w,kK hfd,by have:=jO hfd;simpa [bf.wk] using this,rfl,rfl⟩⟩
  | none =>
   rw[hfd] at hg
   dsimp only at hg
   rw[if_neg dcd,bf.one_m key omg,zA] at hg
   obtain⟨u,hu,hg⟩:=Aa hg
   obtain⟨g,er2⟩:=u
   dsimp only at hg
   rcases Aq6 h hu with⟨h1,h2⟩|⟨h1,h2⟩
   ·rw[if_pos (by rw[decide_eq_false h1];rfl)] at hg
    simp only[zJ,Prod.mk.injEq] at hg
    obtain⟨rfl,-,-,rfl⟩:=hg
    exact .inl ⟨h1,h2⟩
   ·rw[if_neg (by rw[decide_eq_true h1];decide)] at hg
    obtain⟨s,hs,hg⟩:=Aa hg
    simp only[zJ,Prod.mk.injEq] at hg
    obtain⟨rfl,rfl,rfl,rfl⟩:=hg
    rw[h2.store] at hs
    refine .inr ⟨rfl,_,q1,q2,.inr ⟨λhm=>?_,by rw[<- q2];exact h2,hs⟩⟩
    obtain⟨w,hw,hwk⟩:=z8.1 hm
    have:=w4.1 hfd w hw
    simp [hwk] at this
 ·rw[if_pos (by rw[q7];decide)] at hg
  obtain⟨g,hs,hg⟩:=Aa hg
  simp only[zJ,Prod.mk.injEq] at hg
  obtain⟨rfl,-,-,rfl⟩:=hg
  rw[Aep omg hs]
  exact .inl ⟨by omega,UpE.refl _⟩
theorem Awp {e e':Ab} {n:Nat} (h:EgI e n) (hn:n<=400) (k:OpE e) {id:Int} {r:Ar} {l:List A5} {er:Int} (hg:Mp e id r 8=some (e',l,er)) :
  (er≠0/\UpE e e')\/(er=0/\∃ p∈e.Open,p.ID=id/\Asl e e' id r/\l=(bf.ovL p.Buf.L (st.ents r p.Snap e.Store.Keys e.Store.Chains) r).take 8):=by
 unfold Mp at hg
 obtain⟨q,hq,hg⟩:=Aa hg
 rcases Ad7 h hn k hq with⟨q0,q1,q2⟩|q7
 ·rw[if_neg (by rw[decide_eq_true q0];decide)] at hg
  obtain⟨b,hb,hg⟩:=Aa hg
  split at hg
  ·simp only[zJ,Prod.mk.injEq] at hg
   obtain⟨rfl,-,rfl⟩:=hg
   exact .inl ⟨by decide,UpE.refl _⟩
  obtain⟨b2,hb2,hg⟩:=Aa hg
  split at hg
  ·simp only[zJ,Prod.mk.injEq] at hg
   obtain⟨rfl,-,rfl⟩:=hg
   exact .inl ⟨by decide,UpE.refl _⟩
  unfold Mu at hg
  obtain⟨u,hu,hg⟩:=Aa hg
  obtain⟨g,er2⟩:=u
  dsimp only at hg
  rcases Aq6 h hu with⟨h1,h2⟩|⟨h1,h2⟩
  ·rw[if_pos (by rw[decide_eq_false h1];rfl)] at hg
   simp only[zJ,Prod.mk.injEq] at hg
   obtain⟨rfl,-,rfl⟩:=hg
   exact .inl ⟨h1,h2⟩
  ·have hents:=st.ents_len r q.1.Snap e.Store.Keys e.Store.Chains
   have hkl:=h.kl
   rw[if_neg (by rw[decide_eq_true h1];decide),h2.store,show Fv e.Store r q.1.Snap 128=some ((st.ents r q.1.Snap e.Store.Keys e.Store.Chains).take (128:Int).toNat) from st.scan_m h.st omg h.kl r q.1.Snap 128,zA,yO (by show _<=128;omega),
    show Cc q.1.Buf _ r 8=_ from bf.over_m r (h.bf _ q1) (st.ents_rise h.st r q.1.Snap) omg dcd,zA] at hg
   simp only[zJ,Prod.mk.injEq] at hg
   obtain⟨rfl,rfl,rfl⟩:=hg
   exact .inr ⟨rfl,_,q1,q2,by rw[<- q2];exact h2,rfl⟩
 ·rw[if_pos (by rw[q7];decide)] at hg
  obtain⟨g,hs,hg⟩:=Aa hg
  simp only[zJ,Prod.mk.injEq] at hg
  obtain⟨rfl,-,rfl⟩:=hg
  rw[Aep omg hs]
  exact .inl ⟨by omega,UpE.refl _⟩
theorem Ayg {e e':Ab} {n:Nat} (h:EgI e n) (hn:n<=400) (k:OpE e) {id:Int} {w:Ae} {er:Int} (hg:Kl e id w=some (e',er)) :
  (er≠0/\UpE e e')\/(er=0/\∃ (i:Nat) (p:Ax),e.Open[i]? = some p/\p.ID=id/\Br p.Buf w=some (⟨bf.setR p.Buf.L w⟩,0)/\bf.Good (bf.setR p.Buf.L w) /\
   e'={ e with Open:=e.Open.set i { p with Buf:=⟨bf.setR p.Buf.L w⟩ } }):=by
 have hop:=h.op
 unfold Kl at hg
 obtain⟨q,hq,hg⟩:=Aa hg
 rcases Ad7 h hn k hq with⟨q0,q1,q2⟩|q7
 ·rw[if_neg (by rw[decide_eq_true q0];decide)] at hg
  split at hg
  ·simp only[zJ,Prod.mk.injEq] at hg
   obtain⟨rfl,rfl⟩:=hg
   exact .inl ⟨by decide,UpE.refl _⟩
  rcases bf.set_any (h.bf _ q1) w with⟨s1,s2,s3⟩|⟨er2,hne,s1⟩
  ·have s1:Br q.1.Buf w=some (⟨bf.setR q.1.Buf.L w⟩,0):=s1
   rw[s1,zA,if_neg (by show ¬ (!decide ((0:Int)=0))=true;decide)] at hg
   unfold Md at hg
   dsimp only at hg
   rw[Pv _ omg,zA] at hg
   rcases Zi e q.1.ID omg with⟨hp,-⟩|⟨i,p,hp1,hp2,hp⟩
   ·exact absurd rfl (hp _ q1)
   ·have hpq:=k.id_eq (zG hp1) q1 hp2
    subst hpq
    rw[show Dc (Ab.mk (Bc.mk e.Store.Keys e.Store.Chains e.Store.Ts) (Ay.mk e.Cert.Txs (Be.mk e.Cert.Reads.L)) (A1.mk e.Toks.L) e.Open e.Next) q.1.ID=some (i:Int) from hp,zA,A3,hp1,zA,zA] at hg
    simp only[zJ,Prod.mk.injEq] at hg
    obtain⟨rfl,rfl⟩:=hg
    exact .inr ⟨rfl,i,_,hp1,q2,s1,s2,rfl⟩
  ·rw[show Br q.1.Buf w=some (⟨[]⟩,er2) from s1,zA,if_pos (by rw[decide_eq_false hne];rfl)] at hg
   unfold P4 Ol at hg
   dsimp only at hg
   rw[zA] at hg
   split at hg
   ·simp only[zA,zJ,Prod.mk.injEq] at hg
    obtain⟨rfl,rfl⟩:=hg
    exact .inl ⟨hne,UpE.refl _⟩
   ·obtain⟨f,hf,hg⟩:=Aa hg
    obtain⟨f2,hf2,hf⟩:=Aa hf
    cases hf
    simp only[zJ,Prod.mk.injEq] at hg
    obtain⟨rfl,rfl⟩:=hg
    exact .inl ⟨hne,Uu omg hf2⟩
 ·rw[if_pos (by rw[q7];decide)] at hg
  obtain⟨g,hs,hg⟩:=Aa hg
  simp only[zJ,Prod.mk.injEq] at hg
  obtain⟨rfl,rfl⟩:=hg
  rw[Aep omg hs]
  exact .inl ⟨by omega,UpE.refl _⟩
theorem Ar4 {e e':Ab} {n:Nat} (h:EgI e n) (hn:n<=400) (k:OpE e) {id er:Int} (hg:K4 e id=some (e',er)):UpE e e':=by
 have hop:=h.op
 unfold K4 at hg
 obtain⟨q,hq,hg⟩:=Aa hg
 rcases Ad7 h hn k hq with⟨q0,q1,q2⟩|q7
 ·rw[if_neg (by rw[decide_eq_true q0];decide)] at hg
  obtain⟨f,hf,hg⟩:=Aa hg
  simp only[zJ,Prod.mk.injEq] at hg
  obtain⟨rfl,rfl⟩:=hg
  exact Uu omg hf
 ·rw[if_pos (by rw[q7];decide)] at hg
  obtain⟨g,hs,hg⟩:=Aa hg
  simp only[zJ,Prod.mk.injEq] at hg
  obtain⟨rfl,rfl⟩:=hg
  rw[Aep omg hs]
  exact UpE.refl _
theorem Ark {e e':Ab} {er:Int} (h:Ck e er=some e'):(er=1/\e'.Next=0)\/UpE e e':=by
 unfold Ck at h
 split at h
 ·rename_i h1
  cases h
  exact .inl ⟨of_decide_eq_true h1,rfl⟩
 ·cases h;exact .inr (UpE.refl _)
theorem UpE.toks {e e':Ab} {t:A1} (h:UpE { e with Toks:=t } e'):UpE e e':=⟨h.store,h.next,h.sub,h.inv⟩
theorem Amq {e e':Ab} {n:Nat} (h:EgI e n) (hn:n<=400) (k:OpE e) {tok er:Int} (hg:H6 e tok=some (e',er)):(er=1/\e'.Next=0)\/UpE e e':=by
 unfold H6 at hg
 rw[Vn h omg k,zA,if_neg dcd] at hg
 obtain⟨v,hv,hg⟩:=Aa hg
 split at hg
 ·obtain⟨g,hs,hg⟩:=Aa hg
  simp only[zJ,Prod.mk.injEq] at hg
  obtain⟨rfl,rfl⟩:=hg
  exact Ark hs
 ·simp only[zJ,Prod.mk.injEq] at hg
  obtain⟨rfl,rfl⟩:=hg
  exact .inr (UpE.refl { e with Toks:=v.1 }).toks
theorem Aoe {e e':Ab} {n:Nat} (h:EgI e n) (hn:n<=400) (k:OpE e) {tok att ts er:Int} (hg:I1 e tok att=some (e',ts,er)):(er=1/\e'.Next=0)\/UpE e e':=by
 have hop:=h.op
 unfold I1 at hg
 rw[Vn h omg k,zA,if_neg dcd] at hg
 obtain⟨v,hv,hg⟩:=Aa hg
 split at hg
 ·obtain⟨g,hs,hg⟩:=Aa hg
  simp only[zJ,Prod.mk.injEq] at hg
  obtain⟨rfl,-,rfl⟩:=hg
  exact Ark hs
 ·obtain⟨u,-,hg⟩:=Aa hg
  obtain⟨q,-,hg⟩:=Aa hg
  have stay:C3 v { e with Toks:=v.1 }=some (e',ts,er)->UpE e e':=λh=>by
   unfold C3 at h
   simp only[zJ,Prod.mk.injEq] at h
   obtain⟨rfl,-,-⟩:=h
   exact(UpE.refl { e with Toks:=v.1 }).toks
  split at hg
  ·split at hg
   ·split at hg
    ·obtain⟨g,hs,hg⟩:=Aa hg
     unfold C3 at hg
     simp only[zJ,Prod.mk.injEq] at hg
     obtain⟨rfl,-,-⟩:=hg
     exact .inr (Uu (by show e.Open.length<=_;omega) hs).toks
    ·exact .inr (stay hg)
   ·exact .inr (stay hg)
  ·exact .inr (stay hg)
theorem Aun {e e':Ab} {n:Nat} (h:EgI e n) (hn:n<=400) (k:OpE e) {tok att id er:Int} {ro:Bool} (hg:G4 e tok att ro=some (e',id,er)) :
  (er≠0/\UpE e e')\/(er=0/\id=e.Next/\e'.Store=e.Store/\e'.Next=e.Next+1/\(∀ o∈e'.Open,o∈e.Open\/o.ID=e.Next/\o.Snap=e.Store.Ts/\o.Buf.L=[]) /\
   ∀ w:ss.WL11,ss.Inv ss.K10 w->w.c=e.Cert->w.now=e.Store.Ts->(w.begun.length:Int)=e.Next->ss.Inv ss.K10 { w with c:=e'.Cert,begun:=w.begun++[w.now] }):=by
 have hop:=h.op
 have hts:=h.ts
 have hnx:=h.nx
 have key:∀ f:Ab,UpE e f->f.Open.length<=16->Db tok att ro f=some (e',id,er)->(er≠0/\UpE e e')\/(er=0/\id=e.Next/\e'.Store=e.Store/\e'.Next=e.Next+1/\(∀ o∈e'.Open,o∈e.Open\/o.ID=e.Next/\o.Snap=e.Store.Ts/\o.Buf.L=[]) /\
   ∀ w:ss.WL11,ss.Inv ss.K10 w->w.c=e.Cert->w.now=e.Store.Ts->(w.begun.length:Int)=e.Next->ss.Inv ss.K10 { w with c:=e'.Cert,begun:=w.begun++[w.now] }):=λf hu hfo hg=>by
  have out:∀ {q:Int},q≠0->(some (f,(0:Int),q):Option (Ab×Int×Int))=some (e',id,er)->(er≠0/\UpE e e'):=λhq he=>by
   simp only[zJ,Prod.mk.injEq] at he
   obtain⟨rfl,-,rfl⟩:=he
   exact⟨hq,hu⟩
  unfold Db at hg
  split at hg
  ·exact .inl (out dcd hg)
  split at hg
  ·exact .inl (out dcd hg)
  obtain⟨v,hv,hg⟩:=Aa hg
  by_cases h0:v.2=0
  ·rw[if_neg (by rw[decide_eq_true h0];decide)] at hg
   obtain⟨c,hc,hg⟩:=Aa hg
   by_cases h1:c.2=0
   ·rw[if_neg (by rw[decide_eq_true h1];decide),Qr _ (by simp;omega) smp,zA,hu.next,wIo] at hg
    simp only[zJ,Prod.mk.injEq] at hg
    obtain⟨rfl,rfl,rfl⟩:=hg
    refine .inr ⟨rfl,rfl,hu.store,rfl,λo ho=>?_,λw hw hwc hwn hwb=>?_⟩
    ·simp only[List.flatten_cons,List.flatten_nil,xG,yC,zP] at ho
     rcases ho with ho|rfl
     ·exact .inl (hu.sub o ho)
     ·exact .inr ⟨rfl,by show f.Store.Ts=_;rw[hu.store],rfl⟩
    ·have hi:=hu.inv w hw hwc
     obtain⟨wc,now,begun,did,read⟩:=w
     dsimp only at hwn hwb hi ⊢
     subst hwn
     have hsc:ss.SC f.Cert:=hi.sc
     rw[hu.next,hu.store] at hc
     have h0t:=hi.now0
     dsimp only at h0t
     have hmx:e.Store.Ts<=ss.maxTs:=by unfold ss.maxTs;omega
     rcases ss.begin_m hsc e.Next e.Store.Ts ro hnx.1 h0t hmx with⟨-,e1⟩|⟨-,⟨-,e1⟩|⟨hl,e1⟩⟩
     ·have:=zD (hc.symm.trans e1);subst this;exact absurd h1 dcd
     ·have:=zD (hc.symm.trans e1);subst this;exact absurd h1 dcd
     ·have:=zD (hc.symm.trans e1);subst this
      rw[<- hwb]
      exact ss.inv_begin hi ro hmx hl
   ·rw[if_pos (by rw[decide_eq_false h1];rfl)] at hg
    exact .inl (out h1 hg)
  ·rw[if_pos (by rw[decide_eq_false h0];rfl)] at hg
   exact .inl (out h0 hg)
 unfold G4 at hg
 rw[Vn h omg k,zA,if_neg dcd] at hg
 obtain⟨v,hv,hg⟩:=Aa hg
 split at hg
 ·split at hg
  ·obtain⟨f,hf,hg⟩:=Aa hg
   have hu:=Uu omg hf
   refine key f hu ?_ hg
   obtain⟨f2,hf2,hf3,-⟩:=Ac5 h v.1
   rw[hf] at hf2
   cases hf2
   exact hf3.op
  ·exact key e (UpE.refl _) hop hg
 ·exact key e (UpE.refl _) hop hg
theorem Aov {e e':Ab} {n:Nat} (h:EgI e n) (hn:n<=400) (k:OpE e) {id ts er:Int} (hg:Fu e id=some (e',ts,er)) :
  (er≠0/\UpE e e')\/(er=0/\ts=e.Store.Ts+1/\e'.Next=e.Next/\∃ p∈e.Open,p.ID=id /\
   ∀ w:ss.WL11,ss.Inv ss.K10 w->w.c=e.Cert->w.now=e.Store.Ts->∀ d0:ss.GR11Tx,d0.ID=p.ID->d0.Begin=p.Snap->d0.End=e.Store.Ts+1->d0.Keys=p.Buf.L.map bf.wk->ss.Inv ss.K10 { w with c:=e'.Cert,now:=w.now+1,did:=w.did++[d0] }):=by
 have hop:=h.op
 have hts:=h.ts
 have hst0:=h.st.t0
 unfold Fu at hg
 obtain⟨q,hq,hg⟩:=Aa hg
 rcases Ad7 h hn k hq with⟨q0,q1,q2⟩|q7
 ·rw[if_neg (by rw[decide_eq_true q0];decide),wIo] at hg
  obtain⟨v,hv,hg⟩:=Aa hg
  by_cases h0:v.2=0
  ·rw[if_neg (by rw[decide_eq_true h0];decide)] at hg
   simp only[zJ,Prod.mk.injEq] at hg
   obtain⟨rfl,rfl,rfl⟩:=hg
   have hbl:=(h.bf _ q1).len
   unfold Ly at hv
   rw[ifq,show H9 q.1.Buf=some (q.1.Buf.L.map bf.wk) from(show H9 q.1.Buf=Dn q.1.Buf from rfl).trans (bf.keysOf_m (b:=q.1.Buf.L) omg),zA] at hv
   obtain⟨c,hc,hv⟩:=Aa hv
   by_cases h1:c.2=0
   ·rw[if_neg (by rw[decide_eq_true h1];decide)] at hv
    obtain⟨t,ht,hv⟩:=Aa hv
    by_cases h2:t.2=0
    ·rw[if_neg (by rw[decide_eq_true h2];decide)] at hv
     obtain⟨s,hs,hv⟩:=Aa hv
     by_cases h3:s.2=0
     ·rw[if_neg (by rw[decide_eq_true h3];decide),Uv e _ omg,zA] at hv
      obtain⟨c2,hc2,hv⟩:=Aa hv
      obtain⟨o7,-,hv⟩:=Aa hv
      obtain⟨s8,-,hv⟩:=Aa hv
      cases hv
      refine .inr ⟨rfl,rfl,rfl,_,q1,q2,λw hw hwc hwn d0 d1 d2 d3 d4=>?_⟩
      obtain⟨wc,now,begun,did,read⟩:=w
      dsimp only at hwn hwc ⊢
      subst hwn
      subst hwc
      have hsc:ss.SC e.Cert:=hw.sc
      rcases ss.commit_m hsc q.1.ID (e.Store.Ts+1) (q.1.Buf.L.map bf.wk) (by rw[zY];omega) with⟨-,e1⟩|⟨a,ha,e1,a1,⟨-,e2⟩|⟨hm,⟨-,e2⟩|⟨hcf,⟨-,e2⟩|⟨hno,hpv,e2⟩⟩⟩⟩
      ·have:=zD (hc.symm.trans e1);subst this;exact absurd h1 dcd
      ·have:=zD (hc.symm.trans e2);subst this;exact absurd h1 dcd
      ·have:=zD (hc.symm.trans e2);subst this;exact absurd h1 dcd
      ·have:=zD (hc.symm.trans e2);subst this;exact absurd h1 dcd
      ·have:=zD (hc.symm.trans e2);subst this
       obtain⟨x,hx,x1,x2,x3,x4⟩:=k.ops _ q1
       have hxa:=hsc.one hx ha omg
       subst hxa
       have hid:=ss.inv_done hw ha a1 (q.1.Buf.L.map bf.wk) ⟨hm.1,hm.2.1⟩ ⟨hm.2.2.1,by rw[zY];omega⟩ hm.2.2.2.1 hcf hno hpv d0 ⟨by omega,by omega,d3,d4⟩
       obtain⟨c3,hc3,hi3,-⟩:=ss.inv_clean hid
       have:=zD (hc2.symm.trans hc3)
       subst this
       exact hi3
     ·rw[if_pos (by rw[decide_eq_false h3];rfl)] at hv
      cases hv;exact absurd h0 h3
    ·rw[if_pos (by rw[decide_eq_false h2];rfl)] at hv
     cases hv;exact absurd h0 h2
   ·rw[if_pos (by rw[decide_eq_false h1];rfl)] at hv
    cases hv;exact absurd h0 h1
  ·rw[if_pos (by rw[decide_eq_false h0];rfl)] at hg
   obtain⟨f,hf,hg⟩:=Aa hg
   simp only[zJ,Prod.mk.injEq] at hg
   obtain⟨rfl,-,rfl⟩:=hg
   exact .inl ⟨h0,Uu omg hf⟩
 ·rw[if_pos (by rw[q7];decide)] at hg
  obtain⟨g,hs,hg⟩:=Aa hg
  simp only[zJ,Prod.mk.injEq] at hg
  obtain⟨rfl,-,rfl⟩:=hg
  rw[Aep omg hs]
  exact .inl ⟨by omega,UpE.refl _⟩
end Go.Proofs.YtkblaobhhoebaaaGreat.Abs
