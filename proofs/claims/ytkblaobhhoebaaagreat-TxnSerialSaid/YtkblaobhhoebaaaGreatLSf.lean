import Derived.Test.YtkblaobhhoebaaaGreatLSe
set_option linter.unusedVariables false
set_option linter.unusedSimpArgs false
namespace Go.Proofs.YtkblaobhhoebaaaGreat.Abs
open Go.Proofs.YtkblaobhhoebaaaGreat.Abs.ss
theorem Ans:∀ k:List UInt8,Dp k (k++[0]) = -1
 | []=>rfl
 | x::k=>by
  show(if x<x then(-1:Int) else if x<x then 1 else Dp k (k++[0])) = -1
  rw[if_neg (by exact xB x),if_neg (by exact xB x),Ans k]
theorem Asz (k:List UInt8):bf.hasV (Ayv k) k=true:=by
 unfold bf.hasV Ayv
 dsimp only
 rw[Ans,st.cmpL_self];rfl
def txH (d:Ai):ss.GR11Tx:=⟨d.id_,d.snap_,d.end_,0,false,false,false,(B4 d.acts_).map bf.wk⟩
structure RdX (rd:List ss.GR10Read) (i:Int) (B:List Ae) (x:B9):Prop where
 one:x.o_.What<=3->x.o_.Key∈B.map bf.wk\/(⟨i,Ayv x.o_.Key⟩:ss.GR10Read)∈rd
 rng:x.o_.What=4->(⟨i,x.o_.Rng⟩:ss.GR10Read)∈rd
theorem RdX.mono {rd rd':List ss.GR10Read} {i:Int} {B B':List Ae} {x:B9} (h:RdX rd i B x) (h1:∀ r∈rd,r∈rd') (h2:∀ k∈B.map bf.wk,k∈B'.map bf.wk):RdX rd' i B' x :=
 ⟨λh3=>(h.one h3).imp (h2 _) (h1 _),λh4=>h1 _ (h.rng h4)⟩
theorem Adk (B:List Ae) (x:B9):∀ k∈B.map bf.wk,k∈(Ta B x).map bf.wk:=λk hk=>by
 unfold Ta
 split
 ·exact hk
 ·obtain⟨w,hw,rfl⟩:=z8.1 hk
  by_cases e:bf.wk w=bf.wk (wOf x)
  ·rw[e]
   exact z8.2 ⟨_,bf.setR_mem.2 (.inl rfl),rfl⟩
  ·exact z8.2 ⟨_,bf.setR_mem.2 (.inr ⟨hw,e⟩),rfl⟩
def Atz (h:Ai):Nat:=if h.end_=0 then h.acts_.length else 0
def A0q (all:List Ai) (o:Ax):Prop:=∃ (i:Nat) (h:Ai),o.ID=(i:Int)/\all[i]? = some h/\h.end_=0/\h.snap_=o.Snap/\o.Buf.L=B4 h.acts_
structure SrI (e:Ab) (done all:List Ai) (n:Nat):Prop where
 eg:EgI e n
 op:OpE e
 wit:∃ w:ss.WL11,ss.Inv ss.K10 w/\w.c=e.Cert/\w.now=e.Store.Ts/\w.begun=all.map (λh=>h.snap_)/\w.did=done.map txH/\∀ h∈all,∀ x∈h.acts_,RdX w.read h.id_ (B4 h.acts_) x
 nx:e.Next=(all.length:Int)
 ids:∀ (i:Nat) (h:Ai),all[i]? = some h->h.id_=(i:Int)
 opn:∀ o∈e.Open,A0q all o
 ok:∀ h∈all,OkA (vis done h.snap_) h.acts_
 wh:∀ h∈all,∀ x∈h.acts_,1<x.o_.What
 mem:∀ d∈done,d∈all
 sto:∀ s:Int,(e.Store.Ts<=s\/∃ o∈e.Open,o.Snap=s)->Rp (st.ents aR s e.Store.Keys e.Store.Chains) (vis done s)
 sum:(done.map (λh=>h.acts_.length)).sum+(all.map Atz).sum<=n
 len:∀ h∈all,h.acts_.length<=n
 ld:done.length<=n
theorem SrI.snap {e:Ab} {done all:List Ai} {n:Nat} (h:SrI e done all n) {x:Ai} (hx:x∈all):0<=x.snap_/\x.snap_<=e.Store.Ts:=by
 obtain⟨w,hw,-,hn,hb,-⟩:=h.wit
 rw[<- hn]
 exact hw.beg _ (by rw[hb];exact z8.2 ⟨x,hx,rfl⟩)
theorem SrI.fin {e:Ab} {done all:List Ai} {n:Nat} (h:SrI e done all n) {d:Ai} (hd:d∈done):d.snap_<d.end_/\d.end_<=e.Store.Ts:=by
 obtain⟨w,hw,-,hn,-,hb,-⟩:=h.wit
 rw[<- hn]
 have:=hw.did0 (txH d) (by rw[hb];exact z8.2 ⟨d,hd,rfl⟩)
 exact⟨this.2.2.1,this.2.2.2.1⟩
theorem SrI.up {e:Ab} {done all:List Ai} {n:Nat} (h:SrI e done all n):SrI e done all (n+1) :=
 ⟨h.eg.up (xL n),h.op,h.wit,h.nx,h.ids,h.opn,h.ok,h.wh,h.mem,h.sto,wU h.sum,λx hx=>wU (h.len x hx),wU h.ld⟩
theorem SrI.less {e e':Ab} {done all:List Ai} {n:Nat} (h:SrI e done all n) (g:EgI e' (n+1)) (k:OpE e') (u:UpE e e'):SrI e' done all (n+1):=by
 obtain⟨w,hw,hc,hn,hb,hd,hr⟩:=h.wit
 refine⟨g,k,⟨{ w with c:=e'.Cert },u.inv w hw hc,rfl,by rw[u.store];exact hn,hb,hd,hr⟩,u.next.trans h.nx,h.ids,λo ho=>h.opn o (u.sub o ho),h.ok,h.wh,h.mem,λs hs=>?_,wU h.sum,λx hx=>wU (h.len x hx),wU h.ld⟩
 rw[u.store] at hs ⊢
 exact h.sto s (hs.imp_right λ⟨o,ho,e⟩=>⟨o,u.sub o ho,e⟩)
theorem SrI.begin {e e':Ab} {done all:List Ai} {n:Nat} (h:SrI e done all n) (g:EgI e' (n+1)) (k:OpE e') (hs:e'.Store=e.Store) (hx:e'.Next=e.Next+1)
  (ho:∀ o∈e'.Open,o∈e.Open\/o.ID=e.Next/\o.Snap=e.Store.Ts/\o.Buf.L=[])
  (hi:∀ w:ss.WL11,ss.Inv ss.K10 w->w.c=e.Cert->w.now=e.Store.Ts->(w.begun.length:Int)=e.Next->ss.Inv ss.K10 { w with c:=e'.Cert,begun:=w.begun++[w.now] }) :
  SrI e' done (all++[⟨e.Next,e.Store.Ts,0,[]⟩]) (n+1):=by
 obtain⟨w,hw,hc,hn,hb,hd,hr⟩:=h.wit
 have each:∀ {P:Ai->Prop},(∀ x∈all,P x)->P ⟨e.Next,e.Store.Ts,0,[]⟩->∀ x∈all++[(⟨e.Next,e.Store.Ts,0,[]⟩:Ai)],P x:=λh1 h2 x hx=>by
  rcases yC.1 hx with hx|hx
  ·exact h1 x hx
  ·rw[zP.1 hx];exact h2
 refine⟨g,k,⟨_,hi w hw hc hn (by rw[hb,zY];exact h.nx.symm),rfl,by rw[hs];exact hn,?_,hd,each hr λx hx=>by simp at hx⟩,?_,λi x hx=>?_,λo hoo=>?_,each h.ok (OkA.nil _),each h.wh (λx hx=>by simp at hx),λd hd=>xN _ (h.mem d hd),λs hss=>?_,?_,each (λx hx=>wU (h.len x hx)) (zZ _),wU h.ld⟩
 ·show w.begun++[w.now]=_
  rw[xC,hb,hn];rfl
 ·rw[hx,h.nx,zH,yD];rfl
 ·rcases zU i all.length with hlt|hge
  ·rw[zK hlt] at hx
   exact h.ids i x hx
  ·have hl:=(zB.1 hx).1
   rw[zH,yD] at hl
   have:i=all.length:=by omega
   subst this
   simp at hx
   subst hx
   exact h.nx
 ·rcases ho o hoo with ho|⟨h1,h2,h3⟩
  ·obtain⟨i,x,e1,e2,e3⟩:=h.opn o ho
   exact⟨i,x,e1,by rw[zK (zB.1 e2).1];exact e2,e3⟩
  ·exact⟨all.length,⟨e.Next,e.Store.Ts,0,[]⟩,h1.trans h.nx,by simp,rfl,h2.symm,h3⟩
 ·rw[hs] at hss ⊢
  refine h.sto s ?_
  rcases hss with hss|⟨o,hoo,rfl⟩
  ·exact .inl hss
  ·rcases ho o hoo with ho|⟨h1,h2,h3⟩
   ·exact .inr ⟨o,ho,rfl⟩
   ·exact .inl omg
 ·have:=h.sum
  rw[xC,List.sum_append]
  show _+(_+(0+0))<=_
  omega
theorem Abm {α:Type} {l:List α} {i:Nat} {a b d:α} (h:l[i]? = some b) (hd:d∈l) (hne:d≠b):d∈l.set i a:=by
 obtain⟨j,hj⟩:=xJ.1 hd
 have:i≠j:=λe=>hne (by subst e;rw[h] at hj;exact(zD hj).symm)
 exact xJ.2 ⟨j,by rw[zM this];exact hj⟩
theorem Abe {α:Type} {l:List α} {i:Nat} {a b:α} (h:l[i]? = some b):a∈l.set i a :=
 xJ.2 ⟨i,by rw[zI (zB.1 h).1]⟩
theorem Afw {α:Type} {f:α->Nat}:∀ {l:List α} {i:Nat} {a b:α},l[i]? = some b->((l.set i a).map f).sum+f b=(l.map f).sum+f a
 | [],i,a,b,h=>by simp at h
 | x::l,0,a,b,h=>by
  simp at h
  subst h
  simp only[List.set_cons_zero,xO,List.sum_cons]
  omega
 | x::l,i+1,a,b,h=>by
  have:=Afw (f:=f) (l:=l) (i:=i) (a:=a) (b:=b) (by simpa using h)
  simp only[List.set_cons_succ,xO,List.sum_cons]
  omega
theorem SrI.act {e e':Ab} {done all:List Ai} {n:Nat} (h:SrI e done all n) (g:EgI e' (n+1)) (k:OpE e') (hs:e'.Store=e.Store) (hx:e'.Next=e.Next) {i:Nat} {b:Ai} (hb:all[i]? = some b) (hb0:b.end_=0)
  {x:B9} (hwx:1<x.o_.What) (hok:Ayf (vis done b.snap_) (B4 b.acts_) x)
  (ho:∀ o∈e'.Open,(o∈e.Open/\o.ID≠(i:Int))\/(o.ID=(i:Int)/\o.Snap=b.snap_/\o.Buf.L=Ta (B4 b.acts_) x)) (hbs:e.Store.Ts<=b.snap_\/∃ o∈e.Open,o.Snap=b.snap_)
  (hi:∀ w:ss.WL11,ss.Inv ss.K10 w->w.c=e.Cert->∃ rd,ss.Inv ss.K10 { w with c:=e'.Cert,read:=rd }/\(∀ r∈w.read,r∈rd)/\RdX rd (i:Int) (B4 b.acts_) x) :
  SrI e' done (all.set i { b with acts_:=b.acts_++[x] }) (n+1):=by
 obtain⟨w,hw,hc,hn,hbg,hd,hr⟩:=h.wit
 obtain⟨rd,hi1,hi2,hi3⟩:=hi w hw hc
 have hbm:=zG hb
 have hbi:=h.ids i b hb
 have each:∀ {P:Ai->Prop},(∀ y∈all,P y)->P { b with acts_:=b.acts_++[x] }->∀ y∈all.set i { b with acts_:=b.acts_++[x] },P y:=λh1 h2 y hy=>by
  rcases kT hy with hy|rfl
  ·exact h1 y hy
  ·exact h2
 have hsp:B4 (b.acts_++[x])=Ta (B4 b.acts_) x:=Mo _ _
 refine⟨g,k,⟨{ w with c:=e'.Cert,read:=rd },hi1,rfl,by rw[hs];exact hn,?_,hd,each (λy hy z hz=>(hr y hy z hz).mono hi2 λ_ h=>h) λz hz=>?_⟩,?_,λj y hy=>?_,λo hoo=>?_,each h.ok ((h.ok b hbm).snoc hok),each h.wh (λz hz=>?_),λd hdd=>?_,λs hss=>?_,?_,each (λy hy=>wU (h.len y hy)) ?_,wU h.ld⟩
 ·show w.begun=_
  rw[hbg,Rw (f:=λh:Ai=>h.snap_) (a:={ b with acts_:=b.acts_++[x] }) hb rfl]
 ·show RdX rd b.id_ (B4 (b.acts_++[x])) z
  rw[hsp]
  rcases yC.1 hz with hz|hz
  ·exact(hr b hbm z hz).mono hi2 (Adk _ _)
  ·rw[zP.1 hz,hbi]
   exact hi3.mono (λ_ h=>h) (Adk _ _)
 ·rw[hx,h.nx,yS]
 ·by_cases e1:i=j
  ·subst e1
   rw[zI (zB.1 hb).1] at hy
   cases hy
   exact hbi
  ·rw[zM e1] at hy
   exact h.ids j y hy
 ·rcases ho o hoo with⟨h1,h2⟩|⟨h1,h2,h3⟩
  ·obtain⟨j,y,e1,e2,e3⟩:=h.opn o h1
   exact⟨j,y,e1,by rw[zM omg];exact e2,e3⟩
  ·exact⟨i,{ b with acts_:=b.acts_++[x] },h1,by rw[zI (zB.1 hb).1],hb0,h2.symm,h3.trans hsp.symm⟩
 ·rcases yC.1 hz with hz|hz
  ·exact h.wh b hbm z hz
  ·rw[zP.1 hz];exact hwx
 ·refine Abm hb (h.mem d hdd) λe1=>?_
  have h1:=h.fin hdd
  have h2:=h.snap (h.mem d hdd)
  rw[e1] at h1 h2
  omega
 ·rw[hs] at hss ⊢
  refine h.sto s ?_
  rcases hss with hss|⟨o,hoo,rfl⟩
  ·exact .inl hss
  ·rcases ho o hoo with⟨h1,h2⟩|⟨h1,h2,h3⟩
   ·exact .inr ⟨o,h1,rfl⟩
   ·rw[h2];exact hbs
 ·have h1:=h.sum
  have h2:=Afw (f:=Atz) (a:={ b with acts_:=b.acts_++[x] }) hb
  have h3:Atz b=b.acts_.length:=if_pos hb0
  have h4:Atz { b with acts_:=b.acts_++[x] }=b.acts_.length+1:=(if_pos hb0).trans (by show(b.acts_++[x]).length=_;rw[zH];rfl)
  omega
 ·show(b.acts_++[x]).length<=_
  rw[zH,yD]
  have:=h.len b hbm
  omega
theorem Aib (D:List Ai) (d:Ai) (s:Int):vis (D++[d]) s=if d.end_<=s then apB (B4 d.acts_) (vis D s) else vis D s:=by
 unfold vis
 rw[Aek]
 show(if decide (d.end_<=s) then _ else _)=_
 by_cases h:d.end_<=s
 ·rw[ifp h,if_pos h]
 ·rw[ifn h,if_neg h]
theorem SrI.commit {e e':Ab} {done all:List Ai} {n:Nat} (h:SrI e done all n) (hn4:n<=400) (g:EgI e' (n+1)) (k:OpE e') (hx:e'.Next=e.Next) {p:Ax} (hp:p∈e.Open) {i:Nat} {b:Ai} (hpi:p.ID=(i:Int)) (hb:all[i]? = some b) (hb0:b.end_=0) (hbs:b.snap_=p.Snap) (hbb:p.Buf.L=B4 b.acts_)
  (ho:∀ o∈e'.Open,o∈e.Open/\o.ID≠p.ID)
  {K':List (List UInt8)} {C':List Ac} {q:Int} (hl:st.Laid e.Store.Keys e.Store.Chains (e.Store.Ts+1) p.Buf.L K' C') (hks:st.OkS K' C' (e.Store.Ts+1) (n+1)) (hq:q<=e.Store.Ts+1) (hq2:∀ o∈e.Open,o.ID≠p.ID->q<=o.Snap)
  (hst:e'.Store=⟨(st.vacP q K' C').map (·.1),(st.vacP q K' C').map (·.2),e.Store.Ts+1⟩)
  (hi:∀ w:ss.WL11,ss.Inv ss.K10 w->w.c=e.Cert->w.now=e.Store.Ts->∀ d0:ss.GR11Tx,d0.ID=p.ID->d0.Begin=p.Snap->d0.End=e.Store.Ts+1->d0.Keys=p.Buf.L.map bf.wk->ss.Inv ss.K10 { w with c:=e'.Cert,now:=w.now+1,did:=w.did++[d0] }) :
  SrI e' (done++[{ b with end_:=e.Store.Ts+1 }]) (all.set i { b with end_:=e.Store.Ts+1 }) (n+1):=by
 obtain⟨w,hw,hc,hn,hbg,hd,hr⟩:=h.wit
 have hbm:=zG hb
 have hbi:=h.ids i b hb
 have hT0:=h.eg.st.t0
 have each:∀ {P:Ai->Prop},(∀ y∈all,P y)->P { b with end_:=e.Store.Ts+1 }->∀ y∈all.set i { b with end_:=e.Store.Ts+1 },P y:=λh1 h2 y hy=>by
  rcases kT hy with hy|rfl
  ·exact h1 y hy
  ·exact h2
 have early:∀ s,s<=e.Store.Ts->vis (done++[{ b with end_:=e.Store.Ts+1 }]) s=vis done s:=λs hs=>by
  rw[Aib,if_neg (by show ¬ e.Store.Ts+1<=s;omega)]
 have okold:∀ y∈all,OkA (vis (done++[{ b with end_:=e.Store.Ts+1 }]) y.snap_) y.acts_:=λy hy=>by
  rw[early _ (h.snap hy).2];exact h.ok y hy
 refine⟨g,k,⟨_,hi w hw hc hn (txH { b with end_:=e.Store.Ts+1 }) (hbi.trans hpi.symm) hbs rfl (by rw[hbb];rfl),rfl,by rw[hst,hn],?_,?_,each hr (hr b hbm)⟩,?_,λj y hy=>?_,λo hoo=>?_,each okold (okold b hbm),each h.wh (h.wh b hbm),λd hdd=>?_,λs hss=>?_,?_,each (λy hy=>wU (h.len y hy)) (wU (h.len b hbm)),?_⟩
 ·show w.begun=_
  rw[hbg,Rw (f:=λh:Ai=>h.snap_) (a:={ b with end_:=e.Store.Ts+1 }) hb rfl]
 ·show w.did++[_]=_
  rw[hd,xC];rfl
 ·rw[hx,h.nx,yS]
 ·by_cases e1:i=j
  ·subst e1
   rw[zI (zB.1 hb).1] at hy
   cases hy
   exact hbi
  ·rw[zM e1] at hy
   exact h.ids j y hy
 ·obtain⟨h1,h2⟩:=ho o hoo
  obtain⟨j,y,e1,e2,e3⟩:=h.opn o h1
  exact⟨j,y,e1,by rw[zM omg];exact e2,e3⟩
 ·rcases yC.1 hdd with hdd|hdd
  ·refine Abm hb (h.mem d hdd) λe1=>?_
   have h1:=h.fin hdd
   have h2:=h.snap (h.mem d hdd)
   rw[e1] at h1 h2
   omega
  ·rw[zP.1 hdd];exact Abe hb
 ·rw[hst] at hss ⊢
  dsimp only at hss ⊢
  have hqs:q<=s:=by
   rcases hss with hss|⟨o,hoo,rfl⟩
   ·omega
   ·exact hq2 o (ho o hoo).1 (ho o hoo).2
  rw[st.vac_ents9 hks omg aR hqs]
  by_cases hs:e.Store.Ts+1<=s
  ·rw[Aib,if_pos hs]
   have:=st.laid_late hks hl (h.eg.bf p hp).rise hs (h.sto s (.inl omg))
   rw[hbb] at this
   exact this
  ·rw[early s omg]
   refine st.laid_early hks hl omg h.eg.st.pw (h.sto s ?_)
   rcases hss with hss|⟨o,hoo,rfl⟩
   ·omega
   ·exact .inr ⟨o,(ho o hoo).1,rfl⟩
 ·have h1:=h.sum
  have h2:=Afw (f:=Atz) (a:={ b with end_:=e.Store.Ts+1 }) hb
  have h3:Atz b=b.acts_.length:=if_pos hb0
  have h4:Atz { b with end_:=e.Store.Ts+1 }=0:=if_neg (by show ¬ e.Store.Ts+1=0;omega)
  have h5:((done++[({ b with end_:=e.Store.Ts+1 }:Ai)]).map (λh=>h.acts_.length)).sum=(done.map (λh=>h.acts_.length)).sum+b.acts_.length:=by
   rw[xC,List.sum_append]
   show _+(b.acts_.length+0)=_
   omega
  rw[h5]
  omega
 ·have:=h.ld
  rw[zH,yD]
  omega
end Go.Proofs.YtkblaobhhoebaaaGreat.Abs
