import Derived.Test.YtkblaobhhoebaaaGreatLSf
set_option linter.unusedVariables false
set_option linter.unusedSimpArgs false
namespace Go.Proofs.YtkblaobhhoebaaaGreat.Abs
theorem bf.sw_del {w:Ae} (h:bf.swV w=true) (hd:w.Del=true):w.Val=[]:=by
 have e:=bf.sw_m w
 rw[h] at e
 unfold Ca at e
 obtain⟨v,-,e⟩:=Aa e
 split at e
 ·split at e
  ·have:=zD e
   simp only[xS,decide_eq_false_iff_not] at this
   exact z7 omg
  ·cases e
 ·cases e
section
variable {a0:List Dl} {j:Nat} {e e':Ab} {done all:List Ai} {id:Nat} {x:Gg} {o:Dl}
theorem Api {i:Int} (ho:a0[j]? = some o) (hj:j<=1000) (hx:x.e_≠0\/10<o.What):Bv a0 ((j:Int),e,done,all) i (e',x) ()=some (.cont (((j+1:Nat):Int),e',done,all)):=by
 unfold Bv C4 Ch B7
 have hw:wI ((j:Int)+1)=((j+1:Nat):Int):=wIo
 rw[hw]
 rcases hx with hx|hx
 ·simp only[A3,ho,zA,decide_eq_false hx,wP,if_false,ite_self]
 ·simp only[A3,ho,zA,decide_eq_false (show ¬ o.What<=1 by omega),decide_eq_false (show ¬ o.What<=7 by omega),decide_eq_false (show ¬ o.What<=10 by omega),wP,if_false,ite_self]
theorem Apk {i:Int} (ho:a0[j]? = some o) (hj:j<=1000) (h1:o.What<=1) (hx:x.e_=0) (hl:all.length<=1000):Bv a0 ((j:Int),e,done,all) i (e',x) ()=some (.cont (((j+1:Nat):Int),e',done,all++[⟨x.n_,e.Store.Ts,0,[]⟩])):=by
 unfold Bv C4 Ch B7
 have hw:wI ((j:Int)+1)=((j+1:Nat):Int):=wIo
 rw[hw]
 simp only[A3,ho,zA,decide_eq_true h1,decide_eq_true hx,decide_eq_false (show ¬ 1<o.What by omega),decide_eq_false (show ¬ 7<o.What by omega),wP,if_false,if_true,yD]
 rw[if_pos omg]
theorem Ahm {b:Ai} (ho:a0[j]? = some o) (hj:j<=1000) (h1:1<o.What) (h7:o.What<=7) (hx:x.e_=0) (hb:all[id]? = some b) (hb0:b.end_=0) (hl:b.acts_.length<=1000) :
  Bv a0 ((j:Int),e,done,all) (id:Int) (e',x) ()=some (.cont (((j+1:Nat):Int),e',done,all.set id { b with acts_:=b.acts_++[⟨o,x⟩] })):=by
 have hlt:=(zB.1 hb).1
 unfold Bv C4 Ch B7
 have hw:wI ((j:Int)+1)=((j+1:Nat):Int):=wIo
 rw[hw]
 simp only[A3,ho,hb,zA,decide_eq_true h1,decide_eq_true h7,decide_eq_true hx,decide_eq_false (show ¬ o.What<=1 by omega),decide_eq_false (show ¬ 7<o.What by omega),decide_eq_true (show(id:Int)<all.length by omega),wP,if_false,if_true,yD,zT]
 rw[if_pos (by unfold maxLen;omega)]
theorem Alz {b:Ai} (ho:a0[j]? = some o) (hj:j<=1000) (h1:7<o.What) (h7:o.What<=10) (hx:x.e_=0) (hb:all[id]? = some b) (hn:x.n_≠0) (hl:done.length<=1000) :
  Bv a0 ((j:Int),e,done,all) (id:Int) (e',x) ()=some (.cont (((j+1:Nat):Int),e',done++[{ b with end_:=x.n_ }],all.set id { b with end_:=x.n_ })):=by
 have hlt:=(zB.1 hb).1
 unfold Bv C4 Ch B7
 have hw:wI ((j:Int)+1)=((j+1:Nat):Int):=wIo
 rw[hw]
 simp only[A3,ho,hb,zA,decide_eq_true h1,decide_eq_true h7,decide_eq_true hx,decide_eq_false (show ¬ o.What<=1 by omega),decide_eq_false (show ¬ o.What<=7 by omega),decide_eq_true (show(id:Int)<all.length by omega),wP,if_false,if_true,ite_self,yD,zT,zI hlt]
 rw[if_pos ⟨by omega,hn⟩]
theorem SrI.there (h:SrI e done all j) {p:Ax} (hp:p∈e.Open) (hid:p.ID=(id:Int)):∃ b,all[id]? = some b/\b.end_=0/\b.snap_=p.Snap/\p.Buf.L=B4 b.acts_:=by
 obtain⟨i,b,e1,e2⟩:=h.opn p hp
 have:i=id:=by omega
 subst this
 exact⟨b,e2⟩
theorem Awk (h:SrI e done all j) (hj:j<=80) (ho:a0[j]? = some o) (hk:o.Key.length<=50) (hx:Qd e o (id:Int)=some (e',x)) (g:EgI e' (j+1)) (k:OpE e') :
  (x.e_=1/\e'.Next=0)\/∃ done' all',SrI e' done' all' (j+1)/\Bv a0 ((j:Int),e,done,all) (id:Int) (e',x) ()=some (.cont (((j+1:Nat):Int),e',done',all')):=by
 have hnx:=h.nx
 have hnx2:=h.eg.nx
 have hld:=h.ld
 have plain:UpE e e'->(x.e_≠0\/10<o.What)->(x.e_=1/\e'.Next=0)\/∃ done' all',SrI e' done' all' (j+1)/\Bv a0 ((j:Int),e,done,all) (id:Int) (e',x) ()=some (.cont (((j+1:Nat):Int),e',done',all')):=λu hx=>.inr ⟨done,all,h.less g k u,Api ho omg hx⟩
 unfold Qd at hx
 by_cases c1:o.What<=1
 ·rw[ifp c1] at hx
  obtain⟨⟨f,i,er⟩,hv,hx⟩:=Aa hx
  simp only[zJ,Prod.mk.injEq] at hx
  obtain⟨rfl,rfl⟩:=hx
  rcases Aun h.eg omg h.op hv with⟨h1,h2⟩|⟨h1,h2,h3,h4,h5,h6⟩
  ·exact plain h2 (.inl h1)
  ·subst h2
   exact .inr ⟨_,_,h.begin g k h3 h4 h5 h6,Apk ho omg c1 h1 omg⟩
 rw[ifn c1] at hx
 by_cases c3:o.What<=3
 ·rw[ifp c3] at hx
  obtain⟨⟨f,v,fd,er⟩,hv,hx⟩:=Aa hx
  simp only[zJ,Prod.mk.injEq] at hx
  obtain⟨rfl,rfl⟩:=hx
  rcases Aye h.eg omg h.op hk hv with⟨h1,h2⟩|⟨h1,p,hp,hid,h2⟩
  ·exact plain h2 (.inl h1)
  ·obtain⟨b,hb,hb0,hbs,hbb⟩:=h.there hp hid
   have hbm:=zG hb
   have hlen:=h.len b hbm
   have hst:Ta (B4 b.acts_) ⟨o,⟨0,fd,v,[],er⟩⟩=B4 b.acts_:=if_pos (by show o.What<5;omega)
   have same:∀ q∈e.Open,(q∈e.Open/\q.ID≠(id:Int))\/(q.ID=(id:Int)/\q.Snap=b.snap_/\q.Buf.L=Ta (B4 b.acts_) ⟨o,⟨0,fd,v,[],er⟩⟩):=λq hq=>by
    by_cases e1:q.ID=(id:Int)
    ·have:=h.op.id_eq hq hp omg
     subst this
     exact .inr ⟨e1,hbs.symm,by rw[hst];exact hbb⟩
    ·exact .inl ⟨hq,e1⟩
   have hrise:=(h.eg.bf p hp).rise
   rw[hbb] at hrise
   rcases h2 with⟨h2,w,hw,hwk,hwv,hwf⟩|⟨h3,h4,h5⟩
   ·subst h2
    rw[hbb] at hw
    refine .inr ⟨_,_,h.act g k rfl rfl hb hb0 (show 1<o.What by omega) (.inl ⟨by show 1<o.What;omega,c3,?_,?_⟩) same (.inr ⟨p,hp,hbs.symm⟩) (λu hu hc=>⟨u.read,by rw[<- hc];exact hu,λ_ h=>h,⟨λ_=>.inl (z8.2 ⟨w,hw,hwk⟩),λh4=>by have h4:o.What=4:=h4;omega⟩⟩),Ahm ho omg omg omg h1 hb hb0 omg⟩
    ·show fd=(apB (B4 b.acts_) (vis done b.snap_) o.Key).isSome
     rw[<- hwk,Adq hrise hw,hwf]
     cases w.Del <;> rfl
    ·show v=(apB (B4 b.acts_) (vis done b.snap_) o.Key).getD []
     rw[<- hwk,Adq hrise hw,hwv]
     cases hd:w.Del with
     | false=>rfl
     | true=>exact bf.sw_del ((h.eg.bf p hp).sw w (by rw[hbb];exact hw)) hd
   ·rw[hbb] at h3
    obtain⟨r1,r2,r3,r4⟩:=h4
    have hgr:=st.get_rp h.eg.st omg h.eg.kl (h.sto p.Snap (.inr ⟨p,hp,rfl⟩)) o.Key
    have hgr:Fo e.Store o.Key p.Snap=some ((vis done p.Snap o.Key).getD [],(vis done p.Snap o.Key).isSome):=hgr
    have hgr:=(zD (h5.symm.trans hgr))
    simp only[Prod.mk.injEq] at hgr
    refine .inr ⟨_,_,h.act g k r1 r2 hb hb0 (show 1<o.What by omega) (.inl ⟨by show 1<o.What;omega,c3,?_,?_⟩) (by rw[r3];exact same) (.inr ⟨p,hp,hbs.symm⟩) (λu hu hc=>⟨_,r4 u hu hc,λ_ h=>xN _ h,⟨λ_=>.inr (wA _ (zP.2 rfl)),λh4=>by have h4:o.What=4:=h4;omega⟩⟩),Ahm ho omg omg omg h1 hb hb0 omg⟩
    ·show fd=(apB (B4 b.acts_) (vis done b.snap_) o.Key).isSome
     rw[V5 h3,hbs];exact hgr.2
    ·show v=(apB (B4 b.acts_) (vis done b.snap_) o.Key).getD []
     rw[V5 h3,hbs];exact hgr.1
 rw[ifn c3] at hx
 by_cases c4:o.What=4
 ·rw[ifp c4] at hx
  obtain⟨⟨f,l,er⟩,hv,hx⟩:=Aa hx
  simp only[zJ,Prod.mk.injEq] at hx
  obtain⟨rfl,rfl⟩:=hx
  rcases Awp h.eg omg h.op hv with⟨h1,h2⟩|⟨h1,p,hp,hid,h2,h3⟩
  ·exact plain h2 (.inl h1)
  ·obtain⟨b,hb,hb0,hbs,hbb⟩:=h.there hp hid
   have hbm:=zG hb
   have hlen:=h.len b hbm
   have hst:Ta (B4 b.acts_) ⟨o,⟨0,false,[],l,er⟩⟩=B4 b.acts_:=if_pos (by show o.What<5;omega)
   have same:∀ q∈e.Open,(q∈e.Open/\q.ID≠(id:Int))\/(q.ID=(id:Int)/\q.Snap=b.snap_/\q.Buf.L=Ta (B4 b.acts_) ⟨o,⟨0,false,[],l,er⟩⟩):=λq hq=>by
    by_cases e1:q.ID=(id:Int)
    ·have:=h.op.id_eq hq hp omg
     subst this
     exact .inr ⟨e1,hbs.symm,by rw[hst];exact hbb⟩
    ·exact .inl ⟨hq,e1⟩
   have hrise:=(h.eg.bf p hp).rise
   rw[hbb] at hrise
   obtain⟨r1,r2,r3,r4⟩:=h2
   have hrp:=st.rpR_of h.eg.st (h.sto p.Snap (.inr ⟨p,hp,rfl⟩)) o.Rng
   rw[hbb] at h3
   refine .inr ⟨_,_,h.act g k r1 r2 hb hb0 (show 1<o.What by omega) (.inr (.inl ⟨c4,_,?_,h3⟩)) (by rw[r3];exact same) (.inr ⟨p,hp,hbs.symm⟩) (λu hu hc=>⟨_,r4 u hu hc,λ_ h=>xN _ h,⟨λh3=>by have h3:o.What<=3:=h3;omega,λ_=>wA _ (zP.2 rfl)⟩⟩),Ahm ho omg omg omg h1 hb hb0 omg⟩
   rw[hbs]
   exact Avk hrise hrp λ_ h=>h
 rw[ifn c4] at hx
 by_cases c7:o.What<=7
 ·rw[ifp c7] at hx
  obtain⟨⟨f,er⟩,hv,hx⟩:=Aa hx
  simp only[zJ,Prod.mk.injEq] at hx
  obtain⟨rfl,rfl⟩:=hx
  rcases Ayg h.eg omg h.op hv with⟨h1,h2⟩|⟨h1,i,p,hpi,hid,hset,hgood,rfl⟩
  ·exact plain h2 (.inl h1)
  ·have hp:=zG hpi
   obtain⟨b,hb,hb0,hbs,hbb⟩:=h.there hp hid
   have hbm:=zG hb
   have hlen:=h.len b hbm
   rw[hbb] at hgood
   have hset:Br ⟨p.Buf.L⟩ ⟨o.Key,o.Val,o.Del⟩=some (⟨bf.setR p.Buf.L ⟨o.Key,o.Val,o.Del⟩⟩,0):=hset
   rw[hbb] at hset
   refine .inr ⟨_,_,h.act (x:=⟨o,⟨0,false,[],[],er⟩⟩) g k rfl rfl hb hb0 (show 1<o.What by omega) (.inr (.inr ⟨by show 4<o.What;omega,c7,hset,hgood⟩)) (λq hq=>?_) (.inr ⟨p,hp,hbs.symm⟩) (λu hu hc=>⟨u.read,by rw[<- hc];exact hu,λ_ h=>h,⟨λh3=>by have h3:o.What<=3:=h3;omega,λh4=>by have h4:o.What=4:=h4;omega⟩⟩),Ahm ho omg omg omg h1 hb hb0 omg⟩
   by_cases e1:q.ID=(id:Int)
   ·have hq2:=k.id_eq hq (Abe (a:={ p with Buf:=⟨bf.setR p.Buf.L ⟨o.Key,o.Val,o.Del⟩⟩ }) hpi) (by show q.ID=p.ID;omega)
    subst hq2
    refine .inr ⟨e1,hbs.symm,?_⟩
    show bf.setR p.Buf.L ⟨o.Key,o.Val,o.Del⟩=_
    unfold Ta
    rw[if_neg (by show ¬ o.What<5;omega),hbb];rfl
   ·rcases kT hq with hq|rfl
    ·exact .inl ⟨hq,e1⟩
    ·exact absurd hid e1
 rw[ifn c7] at hx
 by_cases c10:o.What<=10
 ·rw[ifp c10] at hx
  obtain⟨⟨f,ts,er⟩,hv,hx⟩:=Aa hx
  simp only[zJ,Prod.mk.injEq] at hx
  obtain⟨rfl,rfl⟩:=hx
  rcases Aov h.eg omg h.op hv with⟨h1,h2⟩|⟨h1,rfl,h2,p,hp,hid,hi⟩
  ·exact plain h2 (.inl h1)
  ·obtain⟨e2,ts2,er2,q1,-,-,-,-,-,q2⟩:=Aho h.eg omg h.op (id:Int)
   have q3:=zD (hv.symm.trans q1)
   simp only[Prod.mk.injEq] at q3
   obtain⟨rfl,rfl,rfl⟩:=q3
   obtain⟨p2,hp2,hid2,hop2,K',C',q,s1,s2,s3,s4,s5,s6,s7⟩:=q2 h1
   have:=h.op.id_eq hp2 hp omg
   subst this
   obtain⟨b,hb,hb0,hbs,hbb⟩:=h.there hp hid
   have hT0:=h.eg.st.t0
   exact .inr ⟨_,_,h.commit omg g k h2 hp hid hb hb0 hbs hbb (λq hq=>by
    rw[hop2,yG] at hq
    exact⟨hq.1,by simpa using hq.2⟩) s1 s2 s5 s6 s7 hi,Alz ho omg omg c10 h1 hb (by show e.Store.Ts+1≠0;omega) omg⟩
 rw[ifn c10] at hx
 by_cases c11:o.What=11
 ·rw[ifp c11] at hx
  obtain⟨⟨f,er⟩,hv,hx⟩:=Aa hx
  simp only[zJ,Prod.mk.injEq] at hx
  obtain⟨rfl,rfl⟩:=hx
  exact plain (Ar4 h.eg omg h.op hv) (.inr omg)
 rw[ifn c11] at hx
 by_cases c12:o.What=12
 ·rw[ifp c12] at hx
  obtain⟨⟨f,ts,er⟩,hv,hx⟩:=Aa hx
  simp only[zJ,Prod.mk.injEq] at hx
  obtain⟨rfl,rfl⟩:=hx
  rcases Aoe h.eg omg h.op hv with h1|h1
  ·exact .inl h1
  ·exact plain h1 (.inr omg)
 rw[ifn c12] at hx
 obtain⟨⟨f,er⟩,hv,hx⟩:=Aa hx
 simp only[zJ,Prod.mk.injEq] at hx
 obtain⟨rfl,rfl⟩:=hx
 rcases Amq h.eg omg h.op hv with h1|h1
 ·exact .inl h1
 ·exact plain h1 (.inr omg)
end
end Go.Proofs.YtkblaobhhoebaaaGreat.Abs
