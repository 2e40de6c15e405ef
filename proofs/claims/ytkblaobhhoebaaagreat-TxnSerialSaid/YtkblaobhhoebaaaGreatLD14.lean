/-
  What the library's functions compute.
-/
import Derived.Test.YtkblaobhhoebaaaGreatLC14
set_option linter.unusedVariables false
set_option linter.unusedSimpArgs false
namespace Go.Proofs.YtkblaobhhoebaaaGreat.Abs.ss
open Go.Proofs.YtkblaobhhoebaaaGreat.Abs.bf
structure GR10Read where
  Tx:Int
  Rng:Ar
structure GR11Tx where
  ID:Int
  Begin:Int
  End:Int
  State:Int
  In:Bool
  Out:Bool
  RO:Bool
  Keys:List (List UInt8)
structure WL11 where
  c:Ay
  now:Int
  begun:List Int
  did:List GR11Tx
  read:List GR10Read
def Ann (r:Ar) (l:Keys):Bool:=l.any (hasV r)
theorem metV_iff {r:Ar} {l:Keys}:Ann r l=true↔∃ k∈l,hasV r k=true:=yX
def Rd (rd:List GR10Read) (i:Int) (K:Keys):Prop:=∃ r∈rd,r.Tx=i/\Ann r.Rng K=true
theorem Rd.mono {rd rd':List GR10Read} {i:Int} {K:Keys} (h:Rd rd i K) (hs:∀ r∈rd,r∈rd'):Rd rd' i K:=by
  obtain⟨r,h1,h2⟩:=h;exact⟨r,hs r h1,h2⟩
theorem Rd.append {rd:List GR10Read} {r:GR10Read} {i:Int} {K:Keys} (h:Rd (rd++[r]) i K):Rd rd i K\/r.Tx=i/\Ann r.Rng K=true:=by
  obtain⟨x,h1,h2⟩:=h
  rcases yC.1 h1 with h1|h1
  · exact .inl ⟨x,h1,h2⟩
  · rw[zP.1 h1] at h2;exact .inr h2
def maxTs:Int:=1099511627776
structure Aj5 (x:Ao) (saneK:Keys->Prop):Prop where
  id:0<=x.ID
  beg:0<=x.Begin/\x.Begin<=maxTs
  st:x.State=1/\x.End=0/\x.Keys=[]\/x.State=2/\x.Begin<x.End/\x.End<=maxTs/\saneK x.Keys/\¬ (x.RO=true/\x.Keys≠[])
def RR (rd:List GR10Read) (x y:GR11Tx):Prop:=x.ID≠y.ID/\y.Begin<x.End/\x.Begin<y.End/\Rd rd x.ID y.Keys
structure Inv (saneK:Keys->Prop) (w:WL11):Prop where
  gr:Good w.c.Reads.L
  ri:∀ r∈w.c.Reads.L,∃ x∈w.c.Txs,x.ID=r.Tx
  len:w.c.Txs.length<=64
  each:∀ x∈w.c.Txs,Aj5 x saneK
  ids:w.c.Txs.Pairwise (λx y=>x.ID≠y.ID)
  now0:0<=w.now
  beg:∀ b∈w.begun,0<=b/\b<=w.now
  act:∀ x∈w.c.Txs,idx w.begun x.ID=some x.Begin
  don:∀ x∈w.c.Txs,x.State=2->∃ d∈w.did,d.ID=x.ID/\d.Begin=x.Begin/\d.End=x.End/\d.Keys=x.Keys
  did0:∀ d∈w.did,0<=d.ID/\idx w.begun d.ID=some d.Begin/\d.Begin<d.End/\d.End<=w.now/\saneK d.Keys
  didE:w.did.Pairwise (λa b=>a.End<b.End)
  didI:w.did.Pairwise (λa b=>a.ID≠b.ID)
  didA:∀ d∈w.did,∀ x∈w.c.Txs,x.State=1->x.ID≠d.ID
  cov:∀ d∈w.did,(∃ x∈w.c.Txs,x.ID=d.ID)\/∀ a∈w.c.Txs,a.State=1->d.End<=a.Begin
  rdB:∀ r∈w.read,0<=r.Tx/\r.Tx<w.begun.length
  rd:∀ r∈w.read,∀ x∈w.c.Txs,x.ID=r.Tx->(⟨r.Tx,r.Rng⟩:Ap)∈w.c.Reads.L
  out:∀ x∈w.c.Txs,∀ d∈w.did,x.ID≠d.ID->(x.State=1\/d.Begin<x.End)->x.Begin<d.End->Rd w.read x.ID d.Keys->x.Out=true
  inA:∀ y∈w.c.Txs,y.State=2->∀ x∈w.c.Txs,x.State=1->x.Begin<y.End->Rd w.read x.ID y.Keys->y.In=true
  inD:∀ y∈w.c.Txs,y.State=2->∀ d∈w.did,d.ID≠y.ID->y.Begin<d.End->d.Begin<y.End->Rd w.read d.ID y.Keys->y.In=true
  piv:∀ x∈w.c.Txs,x.State=2->¬ (x.In=true/\x.Out=true)
  nop:∀ x∈w.did,∀ y∈w.did,∀ z∈w.did,RR w.read x y->RR w.read y z->False
  ww:∀ a∈w.did,∀ b∈w.did,a.End<b.End->(∃ k,k∈a.Keys/\k∈b.Keys)->a.End<=b.Begin
variable {saneK:Keys->Prop} {w:WL11}
theorem pw_eq {α:Type} {R:α->α->Prop} {l:List α} (h:l.Pairwise R) {x y:α} (hx:x∈l) (hy:y∈l) (h1:¬ R x y) (h2:¬ R y x):x=y:=by
  induction h with
  | nil=>simp at hx
  | cons ha _ ih =>
    rcases yM.1 hx with e1|hx <;> rcases yM.1 hy with e2|hy
    · rw[e1,e2]
    · exact absurd (e1 ▸ ha _ hy) h1
    · exact absurd (e2 ▸ ha _ hx) h2
    · exact ih hx hy
theorem Inv.one (h:Inv saneK w) {x y:Ao} (hx:x∈w.c.Txs) (hy:y∈w.c.Txs) (e:x.ID=y.ID):x=y:=pw_eq h.ids hx hy (λn=>n e) (λn=>n e.symm)
theorem Inv.oneD (h:Inv saneK w) {x y:GR11Tx} (hx:x∈w.did) (hy:y∈w.did) (e:x.ID=y.ID):x=y:=pw_eq h.didI hx hy (λn=>n e) (λn=>n e.symm)
theorem Inv.st (h:Inv saneK w) {x:Ao} (hx:x∈w.c.Txs):x.State=1\/x.State=2:=by
  rcases(h.each x hx).st with h|h
  · exact .inl h.1
  · exact .inr h.1
theorem Aam {α:Type} {xs:List α} {j:Int} {u:α} (h:idx xs j=some u):0<=j/\j<xs.length/\u∈xs:=by
  unfold idx at h
  by_cases h0:0<=j
  · rw[if_pos h0] at h
    obtain⟨h1,h2⟩:=zB.1 h
    exact⟨h0,by omega,h2 ▸ xZ _⟩
  · rw[if_neg h0] at h;cases h
theorem Ala {α:Type} {xs:List α} {j:Int} {u v:α} (h:idx xs j=some u):idx (xs++[v]) j=some u:=by
  obtain⟨h0,h1,_⟩:=Aam h
  unfold idx at h ⊢
  rw[if_pos h0] at h ⊢
  rw[zK omg];exact h
theorem Aqa {α:Type} {xs:List α} {v:α}:idx (xs++[v]) (xs.length:Int)=some v:=by
  unfold idx
  rw[if_pos (xV _)]
  simp
theorem Inv.there (h:Inv saneK w) {a:Ao} (ha:a∈w.c.Txs) (h1:a.State=1) {d:GR11Tx} (hd:d∈w.did) (hb:a.Begin<d.End) :
    ∃ x∈w.c.Txs,x.State=2/\x.ID=d.ID/\x.Begin=d.Begin/\x.End=d.End/\x.Keys=d.Keys:=by
  rcases h.cov d hd with⟨x,hx,e⟩|hc
  · rcases h.st hx with hs|hs
    · exact absurd e (h.didA d hd x hx hs)
    · obtain⟨d',hd',e1,e2,e3,e4⟩:=h.don x hx hs
      have:d'=d:=h.oneD hd' hd (e1.trans e)
      subst this
      exact⟨x,hx,hs,e,e2.symm,e3.symm,e4.symm⟩
  · have:=hc a ha h1;omega
theorem inv_nil:Inv saneK ⟨⟨[],⟨[]⟩⟩,0,[],[],[]⟩:=by
  constructor <;> first|exact Good.mk (λx h=>by simp at h) dcd kJ|simp
theorem inv_begin (h:Inv saneK w) (ro:Bool) (hn:w.now<=maxTs) (hl:w.c.Txs.length<64) :
    Inv saneK ⟨⟨w.c.Txs++[⟨(w.begun.length:Int),w.now,0,1,false,false,ro,[]⟩],w.c.Reads⟩,w.now,w.begun++[w.now],w.did,w.read⟩:=by
  have hid:∀ x∈w.c.Txs,x.ID<w.begun.length:=λx hx=>(Aam (h.act x hx)).2.1
  have hdd:∀ d∈w.did,d.ID<w.begun.length:=λx hx=>(Aam (h.did0 x hx).2.1).2.1
  have key:∀ {P:Ao->Prop},(∀ x∈w.c.Txs,P x)->P ⟨(w.begun.length:Int),w.now,0,1,false,false,ro,[]⟩->∀ x∈w.c.Txs++[⟨(w.begun.length:Int),w.now,0,1,false,false,ro,[]⟩],P x:=λh1 h2 x hx=>by
    rcases yC.1 hx with hx|hx
    · exact h1 x hx
    · rw[zP.1 hx];exact h2
  constructor
  · exact h.gr
  · intro r hr
    obtain⟨x,hx,e⟩:=h.ri r hr
    exact⟨x,xN _ hx,e⟩
  · show(w.c.Txs++_).length<=64
    rw[zH,yD];omega
  · exact key h.each ⟨xV _,⟨h.now0,hn⟩,.inl ⟨rfl,rfl,rfl⟩⟩
  · refine wN.2 ⟨h.ids,wT ..,λa ha b hb=>?_⟩
    rw[zP.1 hb]
    have:=hid a ha
    show a.ID≠w.begun.length
    omega
  · exact h.now0
  · intro b hb
    rcases yC.1 hb with hb|hb
    · exact h.beg b hb
    · rw[zP.1 hb];exact⟨h.now0,xQ _⟩
  · exact key (λx hx=>Ala (h.act x hx)) Aqa
  · exact key h.don (λe=>by cases e)
  · intro d hd
    obtain⟨h1,h2,h3⟩:=h.did0 d hd
    exact⟨h1,Ala h2,h3⟩
  · exact h.didE
  · exact h.didI
  · intro d hd
    refine key (h.didA d hd) λ_=>?_
    have:=hdd d hd
    show(w.begun.length:Int)≠d.ID
    omega
  · intro d hd
    rcases h.cov d hd with⟨x,hx,e⟩|hc
    · exact .inl ⟨x,xN _ hx,e⟩
    · exact .inr (key hc λ_=>(h.did0 d hd).2.2.2.1)
  · intro r hr
    have:=h.rdB r hr
    refine⟨this.1,?_⟩
    show r.Tx<((w.begun++[w.now]).length:Nat)
    rw[zH,yD];omega
  · intro r hr
    refine key (h.rd r hr) λe=>?_
    have:=(h.rdB r hr).2
    have e:(w.begun.length:Int)=r.Tx:=e
    omega
  · refine key h.out λd hd _ _ hb=>?_
    have:=(h.did0 d hd).2.2.2.1
    have hb:w.now<d.End:=hb
    omega
  · refine key (λy hy hs=>key (h.inA y hy hs) λ_ hb=>?_) (λe=>by cases e)
    obtain⟨d,hd,_,_,e,_⟩:=h.don y hy hs
    have:=(h.did0 d hd).2.2.2.1
    have hb:w.now<y.End:=hb
    omega
  · exact key h.inD (λe=>by cases e)
  · exact key h.piv (λe=>by cases e)
  · exact h.nop
  · exact h.ww
theorem Ait (h:Inv saneK w) (p:Ao->Bool) (rs:List Ap) (hrs:rs.Sublist w.c.Reads.L) (hr:∀ r∈rs,∃ x∈w.c.Txs,p x=true/\x.ID=r.Tx)
    (hk:∀ r∈w.c.Reads.L,∀ x∈w.c.Txs,p x=true->x.ID=r.Tx->r∈rs) (hp:∀ x∈w.c.Txs,p x=false->x.State=2->∀ a∈w.c.Txs,p a=true->a.State=1->x.End<=a.Begin) :
    Inv saneK ⟨⟨w.c.Txs.filter p,⟨rs⟩⟩,w.now,w.begun,w.did,w.read⟩:=by
  have hm:∀ {x},x∈w.c.Txs.filter p->x∈w.c.Txs:=λhx=>(yG.1 hx).1
  constructor
  · exact⟨λx hx=>h.gr.sr x (hrs.subset hx),yP hrs.length_le h.gr.len,h.gr.nd.sublist hrs⟩
  · intro r hr'
    obtain⟨x,hx,h1,h2⟩:=hr r hr'
    exact⟨x,yG.2 ⟨hx,h1⟩,h2⟩
  · exact yP (wC ..) h.len
  · exact λx hx=>h.each x (hm hx)
  · exact h.ids.sublist (jK ..)
  · exact h.now0
  · exact h.beg
  · exact λx hx=>h.act x (hm hx)
  · exact λx hx=>h.don x (hm hx)
  · exact h.did0
  · exact h.didE
  · exact h.didI
  · exact λd hd x hx=>h.didA d hd x (hm hx)
  · intro d hd
    rcases h.cov d hd with⟨x,hx,e⟩|hc
    · cases hpx:p x with
      | true=>exact .inl ⟨x,yG.2 ⟨hx,hpx⟩,e⟩
      | false =>
        refine .inr λa ha h1=>?_
        obtain⟨ha',hpa⟩:=yG.1 ha
        rcases h.st hx with hs|hs
        · exact absurd e (h.didA d hd x hx hs)
        · obtain⟨d',hd',e1,e2,e3,e4⟩:=h.don x hx hs
          have:d'=d:=h.oneD hd' hd (e1.trans e)
          subst this
          rw[e3]
          exact hp x hx hpx hs a ha' hpa h1
    · exact .inr λa ha=>hc a (hm ha)
  · exact h.rdB
  · intro r hr' x hx e
    exact hk _ (h.rd r hr' x (hm hx) e) x (hm hx) (yG.1 hx).2 e
  · exact λx hx=>h.out x (hm hx)
  · exact λy hy hs x hx=>h.inA y (hm hy) hs x (hm hx)
  · exact λy hy=>h.inD y (hm hy)
  · exact λx hx=>h.piv x (hm hx)
  · exact h.nop
  · exact h.ww
def O2 (a:Ao) (r:Ar) (x:Ao):Bool:=decide (x.State=2) && !decide (x.End<=a.Begin)&&Ann r x.Keys
def Qb (l:List Ao) (a:Ao) (r:Ar) (x:Ao):Ao :=
  if x.ID=a.ID then { x with Out:=x.Out||l.any (O2 a r) } else if O2 a r x then { x with In:=true } else x
theorem readF_id (l:List Ao) (a:Ao) (r:Ar) (x:Ao):(Qb l a r x).ID=x.ID/\(Qb l a r x).Begin=x.Begin/\(Qb l a r x).End=x.End/\(Qb l a r x).State=x.State/\(Qb l a r x).RO=x.RO/\(Qb l a r x).Keys=x.Keys:=by
  unfold Qb
  split
  · exact⟨rfl,rfl,rfl,rfl,rfl,rfl⟩
  · split <;> exact⟨rfl,rfl,rfl,rfl,rfl,rfl⟩
theorem Aiq {l:List Ao} {a:Ao} {r:Ar} {x:Ao} (h:x.In=true):(Qb l a r x).In=true:=by
  unfold Qb
  split
  · exact h
  · split
    · rfl
    · exact h
theorem Am9 {l:List Ao} {a:Ao} {r:Ar} {x:Ao} (h:x.Out=true):(Qb l a r x).Out=true:=by
  unfold Qb
  split
  · show(x.Out||_)=true
    rw[h];rfl
  · split <;> exact h
theorem Aas {a:Ao} {r:Ar} {x:Ao}:O2 a r x=true↔x.State=2/\a.Begin<x.End/\Ann r x.Keys=true:=by
  unfold O2
  simp only[zS,decide_eq_true_eq,xS,decide_eq_false_iff_not]
  constructor
  · rintro⟨⟨h1,h2⟩,h3⟩;exact⟨h1,by omega,h3⟩
  · rintro⟨h1,h2,h3⟩;exact⟨⟨h1,by omega⟩,h3⟩
theorem inv_read (h:Inv saneK w) {a:Ao} (ha:a∈w.c.Txs) (h1:a.State=1) (r:Ar) (rs:List Ap) (hg:Good rs) (hsub:∀ x∈w.c.Reads.L,x∈rs) (hin:(⟨a.ID,r⟩:Ap)∈rs) (hnew:∀ x∈rs,x∈w.c.Reads.L\/x=⟨a.ID,r⟩)
    (hno:∀ x∈w.c.Txs,O2 a r x=true->x.Out=false):Inv saneK ⟨⟨w.c.Txs.map (Qb w.c.Txs a r),⟨rs⟩⟩,w.now,w.begun,w.did,w.read++[⟨a.ID,r⟩]⟩:=by
  have key:∀ {P:Ao->Prop},(∀ x∈w.c.Txs,P (Qb w.c.Txs a r x))->∀ x∈w.c.Txs.map (Qb w.c.Txs a r),P x:=λh1 x hx=>by
    obtain⟨y,hy,rfl⟩:=z8.1 hx
    exact h1 y hy
  have F:=readF_id w.c.Txs a r
  have hex:∀ {x i},x∈w.c.Txs->x.ID=i->∃ y∈w.c.Txs.map (Qb w.c.Txs a r),y.ID=i:=λ{x i} hx e=>⟨_,z8.2 ⟨x,hx,rfl⟩,by rw[(F x).1,e]⟩
  have haid:=h.act a ha
  have hda:∀ d∈w.did,a.ID≠d.ID:=λd hd=>h.didA d hd a ha h1
  constructor
  · exact hg
  · intro x hx
    rcases hnew x hx with hx|rfl
    · obtain⟨y,hy,e⟩:=h.ri x hx
      exact hex hy e
    · exact hex ha rfl
  · show(w.c.Txs.map _).length<=64
    rw[zY];exact h.len
  · refine key λx hx=>?_
    obtain⟨e1,e2,e3,e4,e5,e6⟩:=F x
    have:=h.each x hx
    exact⟨by rw[e1];exact this.id,by rw[e2];exact this.beg,by rw[e2,e3,e4,e5,e6];exact this.st⟩
  · refine wF.2 (h.ids.imp λ{x y} hne=>?_)
    rw[(F x).1,(F y).1];exact hne
  · exact h.now0
  · exact h.beg
  · refine key λx hx=>?_
    rw[(F x).1,(F x).2.1];exact h.act x hx
  · refine key λx hx=>?_
    obtain⟨e1,e2,e3,e4,e5,e6⟩:=F x
    rw[e1,e2,e3,e4,e6];exact h.don x hx
  · exact h.did0
  · exact h.didE
  · exact h.didI
  · intro d hd
    refine key λx hx=>?_
    rw[(F x).1,(F x).2.2.2.1];exact h.didA d hd x hx
  · intro d hd
    rcases h.cov d hd with⟨x,hx,e⟩|hc
    · exact .inl (hex hx e)
    · refine .inr (key λx hx=>?_)
      rw[(F x).2.1,(F x).2.2.2.1];exact hc x hx
  · intro x hx
    rcases yC.1 hx with hx|hx
    · exact h.rdB x hx
    · rw[zP.1 hx]
      exact⟨(Aam haid).1,(Aam haid).2.1⟩
  · intro x hx
    refine key λy hy e=>?_
    rw[(F y).1] at e
    rcases yC.1 hx with hx|hx
    · exact hsub _ (h.rd x hx y hy e)
    · rw[zP.1 hx];exact hin
  · refine key λx hx d hd hne hc hb hr=>?_
    obtain⟨e1,e2,e3,e4,e5,e6⟩:=F x
    rw[e1] at hne hr;rw[e3,e4] at hc;rw[e2] at hb
    rcases hr.append with hr|⟨e,hm⟩
    · exact Am9 (h.out x hx d hd hne hc hb hr)
    · have e:a.ID=x.ID:=e
      have:x=a:=h.one hx ha e.symm
      subst this
      obtain⟨y,hy,hs,_,_,ee,ek⟩:=h.there ha h1 hd hb
      unfold Qb
      rw[if_pos rfl]
      show(x.Out||w.c.Txs.any (O2 x r))=true
      rw[yX.2 ⟨y,hy,Aas.2 ⟨hs,by rw[ee];exact hb,by rw[ek];exact hm⟩⟩,zAh]
  · refine key λy hy hs=>key λx hx hx1 hb hr=>?_
    rw[(F y).2.2.2.1] at hs;rw[(F x).2.2.2.1] at hx1;rw[(F x).2.1,(F y).2.2.1] at hb;rw[(F x).1,(F y).2.2.2.2.2] at hr
    rcases hr.append with hr|⟨e,hm⟩
    · exact Aiq (h.inA y hy hs x hx hx1 hb hr)
    · have e:a.ID=x.ID:=e
      have:x=a:=h.one hx ha e.symm
      subst this
      unfold Qb
      by_cases he:y.ID=x.ID
      · have:y=x:=h.one hy hx he
        rw[this,h1] at hs;cases hs
      · rw[if_neg he,if_pos (Aas.2 ⟨hs,hb,hm⟩)]
  · refine key λy hy hs d hd hne hb1 hb2 hr=>?_
    rw[(F y).2.2.2.1] at hs;rw[(F y).1] at hne;rw[(F y).2.1] at hb1;rw[(F y).2.2.1] at hb2;rw[(F y).2.2.2.2.2] at hr
    rcases hr.append with hr|⟨e,_⟩
    · exact Aiq (h.inD y hy hs d hd hne hb1 hb2 hr)
    · exact absurd e (hda d hd)
  · refine key λx hx hs=>?_
    rw[(F x).2.2.2.1] at hs
    have hp:=h.piv x hx hs
    unfold Qb
    by_cases he:x.ID=a.ID
    · have:x=a:=h.one hx ha he
      rw[this,h1] at hs;cases hs
    · rw[if_neg he]
      cases hps:O2 a r x with
      | true =>
        rw[if_pos rfl]
        rintro⟨_,h2⟩
        have h2:x.Out=true:=h2
        rw[hno x hx hps] at h2;cases h2
      | false=>rw[if_neg dcd];exact hp
  · intro x hx y hy z hz h1 h2
    refine h.nop x hx y hy z hz ⟨h1.1,h1.2.1,h1.2.2.1,?_⟩ ⟨h2.1,h2.2.1,h2.2.2.1,?_⟩
    · rcases h1.2.2.2.append with hr|⟨e,_⟩
      · exact hr
      · exact absurd e (hda x hx)
    · rcases h2.2.2.2.append with hr|⟨e,_⟩
      · exact hr
      · exact absurd e (hda y hy)
  · exact h.ww
def To (rs:List Ap) (a:Ao) (K:Keys) (x:Ao):Bool:=!decide (x.ID=a.ID)&&rs.any (λr=>decide (r.Tx=x.ID)&&Ann r.Rng K) && !(decide (x.State=2)&&decide (x.End<=a.Begin))
theorem Ahz {rs:List Ap} {a x:Ao} {K:Keys}:To rs a K x=true↔x.ID≠a.ID/\(∃ r∈rs,r.Tx=x.ID/\Ann r.Rng K=true)/\(x.State=2->a.Begin<x.End):=by
  unfold To
  simp only[zS,yX,decide_eq_true_eq,xS,decide_eq_false_iff_not,Bool.and_eq_false_iff]
  constructor
  · rintro⟨⟨h1,h2⟩,h3⟩
    refine⟨h1,h2,λhs=>?_⟩
    rcases h3 with h3|h3
    · exact absurd hs h3
    · omega
  · rintro⟨h1,h2,h3⟩
    refine⟨⟨h1,h2⟩,?_⟩
    by_cases hs:x.State=2
    · exact .inr (by have:=h3 hs;omega)
    · exact .inl hs
def doneF (l:List Ao) (rs:List Ap) (a:Ao) (ts:Int) (K:Keys) (x:Ao):Ao :=
  if x.ID=a.ID then { x with In:=x.In||l.any (To rs a K),State:=2,End:=ts,Keys:=K } else if To rs a K x then { x with Out:=true } else x
theorem inv_done (h:Inv saneK w) {a:Ao} (ha:a∈w.c.Txs) (h1:a.State=1) (K:Keys) (hts:a.Begin<w.now+1/\w.now+1<=maxTs) (hK:saneK K) (hro:¬ (a.RO=true/\K≠[]))
    (hcf:∀ x∈w.c.Txs,x.State=2->a.Begin<x.End->∀ k∈K,k∉x.Keys) (hpass:∀ x∈w.c.Txs,To w.c.Reads.L a K x=true->x.State=2->x.In=false)
    (hpiv:¬ ((a.In||w.c.Txs.any (To w.c.Reads.L a K))=true/\a.Out=true)) (d0:GR11Tx) (e0:d0.ID=a.ID/\d0.Begin=a.Begin/\d0.End=w.now+1/\d0.Keys=K) :
    Inv saneK ⟨⟨w.c.Txs.map (doneF w.c.Txs w.c.Reads.L a (w.now+1) K),w.c.Reads⟩,w.now+1,w.begun,w.did++[d0],w.read⟩:=by
  have key:∀ {P:Ao->Prop},(∀ x∈w.c.Txs,P (doneF w.c.Txs w.c.Reads.L a (w.now+1) K x))->∀ x∈w.c.Txs.map (doneF w.c.Txs w.c.Reads.L a (w.now+1) K),P x:=λh1 x hx=>by
    obtain⟨y,hy,rfl⟩:=z8.1 hx
    exact h1 y hy
  have keyD:∀ {P:GR11Tx->Prop},(∀ x∈w.did,P x)->P d0->∀ x∈w.did++[d0],P x:=λh1 h2 x hx=>by
    rcases yC.1 hx with hx|hx
    · exact h1 x hx
    · rw[zP.1 hx];exact h2
  obtain⟨q1,q2,q3,q4⟩:=e0
  have G:∀ x,(doneF w.c.Txs w.c.Reads.L a (w.now+1) K x).ID=x.ID/\(doneF w.c.Txs w.c.Reads.L a (w.now+1) K x).Begin=x.Begin/\(doneF w.c.Txs w.c.Reads.L a (w.now+1) K x).RO=x.RO:=λx=>by
    unfold doneF
    split
    · exact⟨rfl,rfl,rfl⟩
    · split <;> exact⟨rfl,rfl,rfl⟩
  have N:∀ x∈w.c.Txs,x≠a->(doneF w.c.Txs w.c.Reads.L a (w.now+1) K x)=if To w.c.Reads.L a K x then { x with Out:=true } else x:=λx hx hne=>by
    unfold doneF
    rw[if_neg λe=>hne (h.one hx ha e)]
  have A:doneF w.c.Txs w.c.Reads.L a (w.now+1) K a={ a with In:=a.In||w.c.Txs.any (To w.c.Reads.L a K),State:=2,End:=w.now+1,Keys:=K }:=by
    unfold doneF
    rw[if_pos rfl]
  have F:∀ x∈w.c.Txs,x≠a->(doneF w.c.Txs w.c.Reads.L a (w.now+1) K x).End=x.End/\(doneF w.c.Txs w.c.Reads.L a (w.now+1) K x).State=x.State/\(doneF w.c.Txs w.c.Reads.L a (w.now+1) K x).Keys=x.Keys/\(doneF w.c.Txs w.c.Reads.L a (w.now+1) K x).In=x.In/\(x.Out=true->(doneF w.c.Txs w.c.Reads.L a (w.now+1) K x).Out=true):=λx hx hne=>by
    rw[N x hx hne]
    split
    · exact⟨rfl,rfl,rfl,rfl,λ_=>rfl⟩
    · exact⟨rfl,rfl,rfl,rfl,λh=>h⟩
  have hex:∀ {x i},x∈w.c.Txs->x.ID=i->∃ y∈w.c.Txs.map (doneF w.c.Txs w.c.Reads.L a (w.now+1) K),y.ID=i:=λ{x i} hx e=>⟨_,z8.2 ⟨x,hx,rfl⟩,by rw[(G x).1,e]⟩
  have hda:∀ d∈w.did,a.ID≠d.ID:=λd hd=>h.didA d hd a ha h1
  have hend:∀ d∈w.did,d.End<=w.now:=λd hd=>(h.did0 d hd).2.2.2.1
  have hhit:∀ x∈w.c.Txs,x≠a->(x.State=2->a.Begin<x.End)->Rd w.read x.ID K->To w.c.Reads.L a K x=true:=λx hx hne hs hr=>by
    obtain⟨r,hr1,hr2,hr3⟩:=hr
    exact Ahz.2 ⟨λe=>hne (h.one hx ha e),⟨_,h.rd r hr1 x hx hr2.symm,hr2,hr3⟩,hs⟩
  have hout:∀ x∈w.c.Txs.map (doneF w.c.Txs w.c.Reads.L a (w.now+1) K),∀ d∈w.did++[d0],x.ID≠d.ID->(x.State=1\/d.Begin<x.End)->x.Begin<d.End->Rd w.read x.ID d.Keys->x.Out=true:=by
    refine key λx hx=>keyD ?_ ?_
    · intro d hd hne hc hb hr
      rw[(G x).1] at hne hr;rw[(G x).2.1] at hb
      by_cases hxa:x=a
      · subst hxa
        rw[A]
        exact h.out x ha d hd hne (.inl h1) hb hr
      · obtain⟨f1,f2,f3,f4,f5⟩:=F x hx hxa
        rw[f1,f2] at hc
        exact f5 (h.out x hx d hd hne hc hb hr)
    · intro hne hc hb hr
      rw[(G x).1] at hne hr;rw[q4] at hr;rw[q2] at hc
      have hxa:x≠a:=λe=>hne (by rw[e,q1])
      obtain⟨f1,f2,f3,f4,f5⟩:=F x hx hxa
      rw[f1,f2] at hc
      rw[N x hx hxa,if_pos (hhit x hx hxa (λhs=>by
        rcases hc with hc|hc
        · rw[hs] at hc;cases hc
        · exact hc) hr)]
  have hinD:∀ y∈w.c.Txs.map (doneF w.c.Txs w.c.Reads.L a (w.now+1) K),y.State=2->∀ d∈w.did++[d0],d.ID≠y.ID->y.Begin<d.End->d.Begin<y.End->Rd w.read d.ID y.Keys->y.In=true:=by
    refine key λy hy hs=>keyD ?_ ?_
    · intro d hd hne hb1 hb2 hr
      rw[(G y).1] at hne;rw[(G y).2.1] at hb1
      by_cases hya:y=a
      · subst hya
        rw[A] at hr ⊢
        obtain⟨x,hx,s1,s2,s3,s4,s5⟩:=h.there ha h1 hd hb1
        show(y.In||w.c.Txs.any (To w.c.Reads.L y K))=true
        rw[yX.2 ⟨x,hx,hhit x hx (λe=>hne (by rw[<- s2,e])) (λ_=>by rw[s4];exact hb1) (by rw[s2];exact hr)⟩,zAh]
      · obtain⟨f1,f2,f3,f4,f5⟩:=F y hy hya
        rw[f2] at hs;rw[f1] at hb2;rw[f3] at hr;rw[f4]
        exact h.inD y hy hs d hd hne hb1 hb2 hr
    · intro hne hb1 hb2 hr
      rw[(G y).1,q1] at hne;rw[(G y).2.1] at hb1;rw[q2] at hb2;rw[q1] at hr
      have hya:y≠a:=λe=>hne (by rw[e])
      obtain⟨f1,f2,f3,f4,f5⟩:=F y hy hya
      rw[f2] at hs;rw[f1] at hb2;rw[f3] at hr;rw[f4]
      exact h.inA y hy hs a ha h1 hb2 hr
  have hpv:∀ x∈w.c.Txs.map (doneF w.c.Txs w.c.Reads.L a (w.now+1) K),x.State=2->¬ (x.In=true/\x.Out=true):=by
    refine key λx hx hs=>?_
    by_cases hxa:x=a
    · subst hxa
      rw[A];exact hpiv
    · obtain⟨f1,f2,f3,f4,f5⟩:=F x hx hxa
      rw[f2] at hs
      rw[f4,N x hx hxa]
      cases hh:To w.c.Reads.L a K x with
      | true=>rw[hpass x hx hh hs];exact λe=>by cases e.1
      | false=>rw[if_neg dcd];exact h.piv x hx hs
  have hcov:∀ d∈w.did++[d0],(∃ x∈w.c.Txs.map (doneF w.c.Txs w.c.Reads.L a (w.now+1) K),x.ID=d.ID)\/(d∈w.did/\d.End<=a.Begin/\∀ b∈w.c.Txs,b.State=1->d.End<=b.Begin):=by
    refine keyD (λd hd=>?_) (.inl (hex ha q1.symm))
    rcases h.cov d hd with⟨x,hx,e⟩|hc
    · exact .inl (hex hx e)
    · exact .inr ⟨hd,hc a ha h1,hc⟩
  have hdon:∀ x∈w.c.Txs.map (doneF w.c.Txs w.c.Reads.L a (w.now+1) K),x.State=2->∃ d∈w.did++[d0],d.ID=x.ID/\d.Begin=x.Begin/\d.End=x.End/\d.Keys=x.Keys:=by
    refine key λx hx hs=>?_
    by_cases hxa:x=a
    · subst hxa
      rw[A]
      exact⟨d0,wA _ (List.mem_singleton_self _),q1,q2,q3,q4⟩
    · obtain⟨f1,f2,f3,f4,f5⟩:=F x hx hxa
      rw[f2] at hs
      rw[(G x).1,(G x).2.1,f1,f3]
      obtain⟨d,hd,e⟩:=h.don x hx hs
      exact⟨d,xN _ hd,e⟩
  have hdI:(w.did++[d0]).Pairwise (λa b=>a.ID≠b.ID):=by
    refine wN.2 ⟨h.didI,wT ..,λx hx y hy=>?_⟩
    rw[zP.1 hy,q1]
    exact λe=>hda x hx e.symm
  constructor
  · exact h.gr
  · intro r hr
    obtain⟨y,hy,e⟩:=h.ri r hr
    exact hex hy e
  · show(w.c.Txs.map _).length<=64
    rw[zY];exact h.len
  · refine key λx hx=>?_
    have he:=h.each x hx
    by_cases hxa:x=a
    · subst hxa
      rw[A]
      exact⟨he.id,he.beg,.inr ⟨rfl,hts.1,hts.2,hK,hro⟩⟩
    · obtain⟨f1,f2,f3,f4,f5⟩:=F x hx hxa
      exact⟨by rw[(G x).1];exact he.id,by rw[(G x).2.1];exact he.beg,by rw[(G x).2.1,(G x).2.2,f1,f2,f3];exact he.st⟩
  · refine wF.2 (h.ids.imp λ{x y} hne=>?_)
    rw[(G x).1,(G y).1];exact hne
  · show 0<=w.now+1
    have:=h.now0;omega
  · intro b hb
    have:=h.beg b hb
    show 0<=b/\b<=w.now+1
    omega
  · refine key λx hx=>?_
    rw[(G x).1,(G x).2.1];exact h.act x hx
  · exact hdon
  · refine keyD (λd hd=>?_) ⟨by rw[q1];exact(h.each a ha).id,by rw[q1,q2];exact h.act a ha,by rw[q2,q3];exact hts.1,by rw[q3];exact xQ _,by rw[q4];exact hK⟩
    obtain⟨g1,g2,g3,g4,g5⟩:=h.did0 d hd
    exact⟨g1,g2,g3,by show d.End<=w.now+1;omega,g5⟩
  · refine wN.2 ⟨h.didE,wT ..,λx hx y hy=>?_⟩
    rw[zP.1 hy,q3]
    have:=hend x hx;omega
  · exact hdI
  · refine keyD (λd hd=>key λx hx hs=>?_) (key λx hx hs=>?_)
    · rw[(G x).1]
      by_cases hxa:x=a
      · rw[hxa];exact hda d hd
      · rw[(F x hx hxa).2.1] at hs
        exact h.didA d hd x hx hs
    · rw[(G x).1,q1]
      intro e
      have:=h.one hx ha e
      subst this
      rw[A] at hs;cases hs
  · intro d hd
    rcases hcov d hd with hc|⟨_,_,hc⟩
    · exact .inl hc
    · refine .inr (key λx hx hs=>?_)
      rw[(G x).2.1]
      by_cases hxa:x=a
      · subst hxa
        rw[A] at hs;cases hs
      · rw[(F x hx hxa).2.1] at hs
        exact hc x hx hs
  · exact h.rdB
  · intro r hr
    refine key λx hx e=>?_
    rw[(G x).1] at e
    exact h.rd r hr x hx e
  · exact hout
  · refine key λy hy hs=>key λx hx hx1 hb hr=>?_
    have hxa:x≠a:=λe=>by
      subst e
      rw[A] at hx1;cases hx1
    obtain⟨f1,f2,f3,f4,f5⟩:=F x hx hxa
    rw[f2] at hx1;rw[(G x).2.1] at hb;rw[(G x).1] at hr
    by_cases hya:y=a
    · subst hya
      rw[A] at hr ⊢
      show(y.In||w.c.Txs.any (To w.c.Reads.L y K))=true
      rw[yX.2 ⟨x,hx,hhit x hx hxa (λe=>by rw[hx1] at e;cases e) hr⟩,zAh]
    · obtain⟨g1,g2,g3,g4,g5⟩:=F y hy hya
      rw[g2] at hs;rw[g1] at hb;rw[g3] at hr;rw[g4]
      exact h.inA y hy hs x hx hx1 hb hr
  · exact hinD
  · exact hpv
  · intro x hx y hy z hz r1 r2
    rcases hcov y hy with⟨u,hu,eu⟩|⟨hy',hya,_⟩
    · have hus:u.State=2:=by
        obtain⟨v,hv,rfl⟩:=z8.1 hu
        by_cases hva:v=a
        · subst hva;rw[A]
        · rw[(F v hv hva).2.1]
          rw[(G v).1] at eu
          rcases h.st hv with hs|hs
          · rcases yC.1 hy with hy|hy
            · exact absurd eu (h.didA y hy v hv hs)
            · rw[zP.1 hy,q1] at eu
              exact absurd (h.one hv ha eu) hva
          · exact hs
      obtain⟨y',hy',s1,s2,s3,s4⟩:=hdon u hu hus
      have:y'=y:=pw_eq hdI hy' hy (λn=>n (s1.trans eu)) (λn=>n (s1.trans eu).symm)
      subst this
      refine hpv u hu hus ⟨hinD u hu hus x hx (by rw[eu];exact r1.1) (by rw[<- s2];exact r1.2.1) (by rw[<- s3];exact r1.2.2.1) (by rw[<- s4];exact r1.2.2.2),hout u hu z hz (by rw[eu];exact r2.1) (.inr (by rw[<- s3];exact r2.2.1)) (by rw[<- s2];exact r2.2.2.1) (by rw[eu];exact r2.2.2.2)⟩
    · have hx':x∈w.did:=by
        rcases yC.1 hx with hx|hx
        · exact hx
        · have:=r1.2.2.1
          rw[zP.1 hx,q2] at this;omega
      have hz':z∈w.did:=by
        rcases yC.1 hz with hz|hz
        · exact hz
        · have:=r2.2.1
          rw[zP.1 hz,q2] at this;omega
      exact h.nop x hx' y hy' z hz' r1 r2
  · refine keyD (λx hx=>keyD (h.ww x hx) ?_) (keyD (λy hy he=>?_) λhe=>?_)
    · rw[q2,q3,q4]
      rintro _ ⟨k,k1,k2⟩
      by_cases hc:x.End<=a.Begin
      · exact hc
      · obtain⟨u,hu,s1,s2,s3,s4,s5⟩:=h.there ha h1 hx omg
        exact absurd (s5 ▸ k1) (hcf u hu s1 omg k k2)
    · rw[q3] at he
      have:=hend y hy;omega
    · omega
theorem Awr (l:List Ao) (h:l.length<=1000000):O0 l=some (l.map (·.ID)):=by
  unfold O0
  rw[Ajm l (λx=>[x.ID]) (J1 l) 1 (λx=>by simp) omg (λi x acc hx ha=>by
    have hlt:=(zB.1 hx).1
    unfold J1
    dsimp only
    rw[ifo,A3,hx,zA,if_pos (by rw[yD];omega),wIo]
    rfl) (λacc=>by
    unfold J1
    dsimp only
    rw[ifq]),zA,Aqm]
  rfl
theorem Amv {xs:Keys} (hn:xs.length<=1000000000000000000) (h:B6 xs=some true):PW xs:=by
  obtain⟨v,hv,hr⟩:=Cr (f:=Ce xs) (P:=λs=>∃ i:Nat,s=(i:Int)/\1<=i/\∀ j a b,j+1<i->xs[j]? = some a->xs[j+1]? = some b->Dp a b<0) (μ:=λs=>xs.length-s.toNat)
    (R:=λv=>match v with | .inl r=>r=false | .inr _=>∀ j a b,xs[j]? = some a->xs[j+1]? = some b->Dp a b<0) (by
    rintro _ ⟨i,rfl,h1,h2⟩
    unfold Ce
    by_cases hi:i<xs.length
    · have e1:=zC hi
      have e2:=zC (show i-1<xs.length by omega)
      rw[ifo,wIo,show(i:Int)-1=((i-1:Nat):Int) from by omega,A3,A3,e1,e2]
      simp only[zA,Acl]
      by_cases hc:0<=Dp xs[i-1] xs[i]
      · right;right
        rw[ifp hc]
        exact⟨_,rfl,rfl⟩
      · left
        rw[ifq]
        refine⟨_,rfl,⟨i+1,by rw[wIo];rfl,by omega,λj a b hj ha hb=>?_⟩,by rw[wIo];omega⟩
        rcases zU (j+1) i with hlt|hge
        · exact h2 j a b hlt ha hb
        · have:j=i-1:=by omega
          subst this
          rw[show i-1+1=i from by omega] at hb
          rw[e2] at ha;rw[e1] at hb
          rw[<- zD ha,<- zD hb];omega
    · right;left
      rw[ifq]
      refine⟨_,rfl,λj a b ha hb=>h2 j a b ?_ ha hb⟩
      have:=(zB.1 hb).1
      omega) fuel 1 ⟨1,rfl,zO _,λj _ _ hj=>by omega⟩ (Bs (by show xs.length-1<=_;omega))
  unfold B6 at h
  rw[hv] at h
  cases v with
  | inl r =>
    have hr:r=false:=hr
    rw[hr] at h;cases h
  | inr u =>
    have key:∀ d i a b,xs[i]? = some a->xs[i+(d+1)]? = some b->Dp a b<0:=λd=>by
      induction d with
      | zero=>exact hr
      | succ d ih =>
        intro i a b ha hb
        have hlt:=(zB.1 hb).1
        have hm:=zC (show i+(d+1)<xs.length by omega)
        have h1:=ih i a _ ha hm
        have h2:=hr _ _ _ hm (by rw[show i+(d+1)+1=i+(d+1+1) from by omega];exact hb)
        exact(Ks (jA h1) (jA h2)).2 (.inl h1)
    refine yN.2 λi j hi hj hij=>?_
    refine key (j-i-1) i _ _ (zC hi) ?_
    rw[show i+(j-i-1+1)=j from by omega]
    exact zC hj
structure KS (K:Keys):Prop where
  each:∀ k∈K,1<=k.length/\k.length<=16
  pw:PW K
theorem Am1 (k:List UInt8):Dr k=some (decide (1<=k.length/\k.length<=16)):=by
  unfold Dr
  by_cases h1:(1:Int)<=k.length
  · rw[ifp h1]
    congr 1
    rw[decide_eq_decide];omega
  · rw[ifn h1,decide_eq_false omg]
theorem R6 (K:Keys) (hn:K.length<=1000000000000000000):∃ b,Hv K=some b/\(b=true↔KS K):=by
  unfold Hv
  rw[Ayy K (λk=>decide (1<=k.length/\k.length<=16)) false (Fa K) hn (λi x hx=>by
    have hlt:=(zB.1 hx).1
    unfold Fa
    rw[ifo,A3,hx,zA,Am1,zA,wIo]
    cases decide (1<=x.length/\x.length<=16) <;> rfl) (by
    unfold Fa
    rw[ifq])]
  cases ha:K.all (λk=>decide (1<=k.length/\k.length<=16)) with
  | false =>
    refine⟨false,rfl,(λh=>by cases h),λh=>?_⟩
    rw[zL.2 λk hk=>decide_eq_true (h.each k hk)] at ha;cases ha
  | true =>
    show ∃ b,Hk K ()=some b/\_
    unfold Hk
    obtain⟨v,hv⟩:=sorted_some K hn
    rw[hv]
    refine⟨v,rfl,?_⟩
    constructor
    · intro h
      rw[h] at hv
      exact⟨λk hk=>of_decide_eq_true (zL.1 ha k hk),Amv hn hv⟩
    · intro h
      rw[Za h.pw hn] at hv
      exact(zD hv).symm
theorem Aia {x:Ao} (h:Aj5 x KS) (hn:x.Keys.length<=1000000000000000000):J3 x=some true:=by
  unfold J3
  have h1:=h.id
  have h2:=h.beg
  have h2':x.Begin<=1099511627776:=h2.2
  rw[ifq,ifq,ifq]
  unfold M4
  rcases h.st with⟨a,b,c⟩|⟨a,b,c,d,e⟩
  · rw[ifp a,ifp b,c];rfl
  · have c':x.End<=1099511627776:=c
    rw[ifq,ifp a,ifp b,ifp c']
    obtain⟨v,hv,hi⟩:=R6 x.Keys hn
    rw[hv,zA,hi.2 d,if_pos rfl]
    cases hro:x.RO with
    | false=>rfl
    | true =>
      have:x.Keys=[]:=by
        rcases List.eq_nil_or_concat x.Keys with h|h
        · exact h
        · exact absurd ⟨hro,by rw[show x.Keys=_ from h.choose_spec.choose_spec];simp⟩ e
      rw[if_pos rfl,this];rfl
structure SC (c:Ay):Prop where
  gr:Good c.Reads.L
  ri:∀ r∈c.Reads.L,∃ x∈c.Txs,x.ID=r.Tx
  len:c.Txs.length<=64
  each:∀ x∈c.Txs,Aj5 x KS
  ids:c.Txs.Pairwise (λx y=>x.ID≠y.ID)
  ends:∀ x∈c.Txs,∀ y∈c.Txs,x.State=2->y.State=2->x.End=y.End->x.ID=y.ID
  keys:∀ x∈c.Txs,x.Keys.length<=16
theorem SC.one {c:Ay} (h:SC c) {x y:Ao} (hx:x∈c.Txs) (hy:y∈c.Txs) (e:x.ID=y.ID):x=y:=pw_eq h.ids hx hy (λn=>n e) (λn=>n e.symm)
theorem SC.st {c:Ay} (h:SC c) {x:Ao} (hx:x∈c.Txs):x.State=1\/x.State=2:=by
  rcases(h.each x hx).st with h|h
  · exact .inl h.1
  · exact .inr h.1
theorem Aum (a b:Ao) (h1:a.ID≠b.ID) (h2:¬ (a.State=2/\b.State=2/\a.End=b.End)):Oj a b=some false:=by
  have key:∀ w,Ib a b w=some false:=λw=>by
    unfold Ib
    rw[ifn h1]
    by_cases c1:a.State=2
    · rw[ifp c1]
      by_cases c2:b.State=2
      · rw[ifp c2,ifn (λc3=>h2 ⟨c1,c2,c3⟩)]
      · rw[ifn c2]
    · rw[ifn c1]
  unfold Oj
  rw[key,key]
  split <;> rfl
theorem sane_c {c:Ay} (h:SC c):Jw c=some true:=by
  unfold Jw
  have hl:=h.len
  rw[ifq,show Gd c.Reads=some true from Vn h.gr,zA,if_neg (nn (by rfl))]
  unfold Qi
  rw[Aze c.Txs (J4 c) omg (λi x hx=>by
    have hlt:=(zB.1 hx).1
    have hxm:=zG hx
    unfold J4
    rw[ifo,A3,hx,zA,Aia (h.each x hxm) (by have:=h.keys x hxm;omega),zA,if_neg (nn (by rfl)),Aaw (xQ _) (xV _) omg,zA]
    rw[show(c.Txs.drop (0:Int).toNat).take ((i:Int).toNat-(0:Int).toNat)=c.Txs.take i from rfl]
    rw[Aze (c.Txs.take i) (Ix x (c.Txs.take i)) (by rw[zN];omega) (λj y hy=>by
      have hj:=(zB.1 hy).1
      have hjl:j<i:=by rw[zN] at hj;omega
      have hy':c.Txs[j]? = some y:=by rw[List.getElem?_take_of_lt hjl] at hy;exact hy
      have hne:x.ID≠y.ID:=by
        obtain⟨p1,p2⟩:=zB.1 hy'
        obtain⟨q1,q2⟩:=zB.1 hx
        have:=yN.1 h.ids j i p1 q1 hjl
        rw[p2,q2] at this
        exact λe=>this e.symm
      unfold Ix
      rw[ifo,A3,hy,zA,Aum _ _ hne (λhc=>hne (h.ends x hxm y (zG hy') hc.1 hc.2.1 hc.2.2)),zA,if_neg (nn (by rfl)),wIo]
      rfl) (by
      unfold Ix
      rw[ifq]),zA]
    show Nq _ _=_
    unfold Nq
    rw[wIo];rfl) (by
    unfold J4
    rw[ifq]),zA]
  show Mx _ _=_
  unfold Mx
  rw[Awr _ omg,zA,Aru (l:=c.Reads.L) (by have:=h.gr.len;omega) _ (by rw[zY];omega),zA]
  have:Aa3 c.Reads.L (c.Txs.map (·.ID)) false=[]:=by
    unfold Aa3
    refine jP.2 λr hr=>?_
    obtain⟨x,hx,e⟩:=h.ri r hr
    rw[decide_eq_true (z8.2 ⟨x,hx,e⟩)];decide
  rw[this];rfl
theorem Auc (xs:List Int) (t:Int) (hl:xs.length<=1000000):(t∉xs/\Ek xs t=some (-1))\/∃ i:Nat,xs[i]? = some t/\Ek xs t=some (i:Int):=by
  unfold Ek
  obtain⟨v,hv,hr⟩:=Cr (f:=Dx xs t) (P:=λs=>∃ i:Nat,i<=xs.length/\s=(i:Int)/\t∉xs.take i) (μ:=λs=>xs.length-s.toNat)
    (R:=λx=>match x with | .inl r=>∃ i:Nat,xs[i]? = some t/\r=(i:Int) | .inr _=>t∉xs) (by
      rintro _ ⟨i,hi,rfl,hp⟩
      unfold Dx
      rcases zU i xs.length with hlt|hge
      · have hx:=zC hlt
        rw[ifo,A3,hx,zA,wIo]
        by_cases he:t=xs[i]
        · rw[ifp he]
          exact .inr (.inr ⟨_,rfl,i,by rw[hx,<- he],rfl⟩)
        · rw[ifn he]
          refine .inl ⟨_,rfl,⟨i+1,hlt,rfl,?_⟩,by simp only[zT];omega⟩
          rw[zV hlt,yC,zP]
          rintro(h|h)
          · exact hp h
          · exact he h
      · have e:i=xs.length:=by omega
        subst e
        rw[ifq]
        rw[yJ] at hp
        exact .inr (.inl ⟨_,rfl,hp⟩)) fuel 0 ⟨0,zZ _,rfl,by simp⟩ (Bs (by show xs.length-0<=_;omega))
  rw[hv]
  cases v with
  | inl r =>
    obtain⟨i,h1,h2⟩:=hr
    refine .inr ⟨i,h1,?_⟩
    rw[h2];rfl
  | inr u=>exact .inl ⟨hr,rfl⟩
theorem T5 (c:Ay) (id:Int) (hl:c.Txs.length<=1000000):((∀ x∈c.Txs,x.ID≠id)/\Hg c id=some (-1))\/∃ (i:Nat) (x:Ao),c.Txs[i]? = some x/\x.ID=id/\Hg c id=some (i:Int):=by
  unfold Hg
  rw[Awr _ hl,zA]
  rcases Auc (c.Txs.map (·.ID)) id (by rw[zY];exact hl) with⟨h,e⟩|⟨i,h,e⟩
  · left
    rw[e]
    exact⟨λx hx e'=>h (z8.2 ⟨x,hx,e'⟩),rfl⟩
  · right
    rw[zQ] at h
    cases hx:c.Txs[i]? with
    | none=>rw[hx] at h;cases h
    | some x =>
      rw[hx] at h
      refine⟨i,x,hx,zD h,?_⟩
      rw[e];rfl
theorem Acz {c:Ay} (h:SC c) (id:Int):((∀ x∈c.Txs,x.ID=id->x.State≠1)/\F6 c id=some (-1))\/∃ (i:Nat) (x:Ao),c.Txs[i]? = some x/\x.ID=id/\x.State=1/\F6 c id=some (i:Int):=by
  unfold F6
  rcases T5 c id (by have:=h.len;omega) with⟨h1,e⟩|⟨i,x,hx,e1,e⟩
  · rw[e,zA]
    exact .inl ⟨λx hx e=>absurd e (h1 x hx),rfl⟩
  · rw[e,zA,ifq,A3,hx,zA]
    by_cases hs:x.State=1
    · rw[decide_eq_true hs]
      exact .inr ⟨i,x,hx,e1,hs,rfl⟩
    · rw[decide_eq_false hs]
      refine .inl ⟨λy hy ey=>?_,rfl⟩
      rw[h.one hy (zG hx) (ey.trans e1.symm)]
      exact hs
abbrev cN:Ay:=⟨[],⟨[]⟩⟩
theorem begin_m {c:Ay} (h:SC c) (id snap:Int) (ro:Bool) (h0:0<=id) (h1:0<=snap) (h2:snap<=maxTs) :
    ((∃ x∈c.Txs,x.ID=id)/\Ik c id snap ro=some (cN,7))\/((∀ x∈c.Txs,x.ID≠id)/\(64<=c.Txs.length/\Ik c id snap ro=some (cN,8)\/c.Txs.length<64/\Ik c id snap ro=some (⟨c.Txs++[⟨id,snap,0,1,false,false,ro,[]⟩],c.Reads⟩,0))):=by
  unfold Ik
  have hl:=h.len
  rw[sane_c h,zA,if_neg (nn (by rfl)),Aia ⟨h0,⟨h1,h2⟩,.inl ⟨rfl,rfl,rfl⟩⟩ smp,zA,if_neg (nn (by rfl))]
  rcases T5 c id omg with⟨h1,e⟩|⟨i,x,hx,e1,e⟩
  · right
    refine⟨h1,?_⟩
    rw[e,zA,if_neg dcd]
    by_cases h64:64<=c.Txs.length
    · rw[ifo]
      exact .inl ⟨h64,rfl⟩
    · rw[ifq,U0 _ (by simp;omega) smp]
      refine .inr ⟨by omega,?_⟩
      simp
  · left
    refine⟨⟨x,zG hx,e1⟩,?_⟩
    rw[e,zA,ifo]
theorem Akt (x:Ao) (r:Ar) (hl:x.Keys.length<=1000000):L6 x r=some (Ann r x.Keys):=by
  unfold L6
  rw[Afv x.Keys (hasV r) (λ_=>true) (F3 x r) omg (λi k hk=>by
    have hlt:=(zB.1 hk).1
    unfold F3
    rw[ifo,A3,hk,zA,Alo,zA,wIo]
    cases hasV r k <;> rfl) (by
    unfold F3
    rw[ifq]),zA]
  unfold Ann
  cases hf:x.Keys.find? (hasV r) with
  | none =>
    rw[show x.Keys.any (hasV r)=false from kM.2 λk hk=>by have:=w4.1 hf k hk;simpa using this];rfl
  | some k=>rw[yX.2 ⟨k,kK hf,by have:=jO hf;exact this⟩]
theorem Aik (x a:Ao) (ha:a.State=1):Ey x a=some (!(decide (x.State=2)&&decide (x.End<=a.Begin))):=by
  unfold Ey L2
  rw[if_neg (show ¬ decide (a.State=2)=true by rw[ha];decide)]
  by_cases hs:x.State=2
  · rw[ifp hs,decide_eq_true hs,wY,zA]
    cases decide (x.End<=a.Begin) <;> rfl
  · rw[ifn hs,decide_eq_false hs];rfl
theorem Aqc (x a:Ao) (ha:a.State=1):Ey a x=some (!(decide (x.State=2)&&decide (x.End<=a.Begin))):=by
  unfold Ey L2
  rw[if_neg (show ¬ decide (a.State=2)=true by rw[ha];decide)]
  by_cases hs:x.State=2
  · rw[ifp hs,decide_eq_true hs,wY,zA]
    cases decide (x.End<=a.Begin) <;> rfl
  · rw[ifn hs,decide_eq_false hs];rfl
theorem Aly (l:List Ao) (h:l.length<=1000000):Dk l=some l:=by
  unfold Dk
  rw[if_pos (by simp;omega)];rfl
def T1 (l:List Ao) (at':Nat) (p:Ao->Bool) (f:Bool->Ao->Ao) (g:Ao->Ao) (i j:Nat) (x:Ao):Ao :=
  if j=at' then f ((l.take i).any p) x else if j<i/\p x=true then g x else x
theorem Aej (l:List Ao) (at':Nat) (p:Ao->Bool) (f:Bool->Ao->Ao) (g:Ao->Ao) {i:Nat} {x:Ao} (hx:l[i]? = some x) (hp:p x=false) (j:Nat) (y:Ao) (hy:l[j]? = some y) :
    T1 l at' p f g (i+1) j y=T1 l at' p f g i j y:=by
  obtain⟨hlt,rfl⟩:=zB.1 hx
  unfold T1
  rw[zV hlt,List.any_append]
  simp only[List.any_cons,zAi,hp,Bool.or_false]
  split
  · rfl
  · by_cases hji:j<i
    · simp only[show j<i+1 from by omega,hji]
    · by_cases hj:j=i
      · subst hj
        rw[hx] at hy
        rw[<- zD hy,hp];simp
      · simp only[show ¬ j<i+1 from by omega,hji]
theorem Azl (l:List Ao) (a b:Nat) {x y:Ao} (hne:a≠b) (hx:l[a]? = some x) (hy:l[b]? = some y) :
    Gb l (a:Int) (b:Int)=some ((l.set a { x with Out:=true }).set b { y with In:=true }):=by
  have ha:=(zB.1 hx).1
  unfold Gb Mf Mh
  rw[A3,hx]
  simp only[zA,zT]
  rw[A3,zM hne,hy]
  rfl
theorem Afg (x:Ao):I3 x=some (x.In&&x.Out):=by
  unfold I3
  cases x.In <;> rfl
theorem Apw {c:Ay} (h:SC c) (r:Ar) {n:Nat} {a:Ao} (ha:c.Txs[n]? = some a) (h1:a.State=1) :
    ∃ v,Gj (E6 r (n:Int) c.Txs) fuel (0,c.Txs)=some v /\
      (match v with
        | .inl q=>q=(cN,10)/\∃ x∈c.Txs,O2 a r x=true/\x.Out=true
        | .inr l=>l=c.Txs.map (Qb c.Txs a r)/\∀ x∈c.Txs,O2 a r x=true->x.Out=false):=by
  have hl:=h.len
  have ham:=zG ha
  have hpa:O2 a r a=false:=by unfold O2;rw[h1];rfl
  let F:=T1 c.Txs n (O2 a r) (λb x=>{ x with Out:=x.Out||b }) (λx=>{ x with In:=true })
  refine Cr (f:=E6 r (n:Int) c.Txs) (P:=λs=>∃ i:Nat,i<=c.Txs.length/\s.1=(i:Int)/\s.2.length=c.Txs.length/\(∀ (j:Nat) (x:Ao),c.Txs[j]? = some x->s.2[j]? = some (F i j x))/\∀ x∈c.Txs.take i,O2 a r x=true->x.Out=false) (μ:=λs=>c.Txs.length-s.1.toNat) (R:=λv=>match v with
        | .inl q=>q=(cN,10)/\∃ x∈c.Txs,O2 a r x=true/\x.Out=true
        | .inr l=>l=c.Txs.map (Qb c.Txs a r)/\∀ x∈c.Txs,O2 a r x=true->x.Out=false) ?_ fuel (0,c.Txs) ⟨0,zZ _,rfl,rfl,λj x hx=>?_,by simp⟩ (Bs (by show c.Txs.length-0<=_;omega))
  · rintro⟨_,l⟩ ⟨i,hi,rfl,hll,hF,hno⟩
    dsimp only at hll hF
    unfold E6
    dsimp only
    rcases zU i c.Txs.length with hlt|hge
    · have hx:=zC hlt
      generalize c.Txs[i]=x at hx
      have hxm:=zG hx
      have hstep:O2 a r x=false->∃ s',(some (LR.cont (wI ((i:Int)+1),l)):Option (LR (Int×List Ao) (List Ao) (Ay×Int)))=some (.cont s')/\(∃ k:Nat,k<=c.Txs.length/\s'.1=(k:Int)/\s'.2.length=c.Txs.length/\(∀ (j:Nat) (x:Ao),c.Txs[j]? = some x->s'.2[j]? = some (F k j x))/\∀ x∈c.Txs.take k,O2 a r x=true->x.Out=false)/\c.Txs.length-s'.1.toNat<c.Txs.length-(i:Int).toNat:=λhp=>by
        refine⟨_,rfl,⟨i+1,hlt,by rw[wIo];rfl,hll,λj y hy=>?_,λy hy hpy=>?_⟩,by rw[wIo];omega⟩
        · show l[j]? = some (T1 _ _ _ _ _ (i+1) j y)
          rw[Aej _ _ _ _ _ hx hp j y hy];exact hF j y hy
        · rw[zV hlt,yC,zP] at hy
          rcases hy with hy|hy
          · exact hno y hy hpy
          · rw[zC hlt] at hx
            rw[hy,zD hx,hp] at hpy;cases hpy
      rw[ifo,A3,hF i x hx,zA]
      by_cases hin:i=n
      · subst hin
        have:x=a:=by rw[ha] at hx;exact(zD hx).symm
        subst this
        left
        rw[if_pos (by
          show(!decide ((F i i x).State=2))=true
          have:(F i i x).State=x.State:=by show(T1 _ _ _ _ _ i i x).State=_;unfold T1;rw[if_pos rfl]
          rw[this,h1];rfl)]
        exact hstep hpa
      · have eF:F i i x=x:=by show T1 _ _ _ _ _ i i x=_;unfold T1;rw[if_neg hin,if_neg (λe=>by omega)]
        rw[eF]
        have hFa:F i n a={ a with Out:=a.Out||(c.Txs.take i).any (O2 a r) }:=by show T1 _ _ _ _ _ i n a=_;unfold T1;rw[if_pos rfl]
        by_cases hs:x.State=2
        · rw[if_neg (by rw[decide_eq_true hs];decide),A3,hF n a ha,zA,Aik x _ (by rw[hFa];exact h1),zA,decide_eq_true hs,wY,Bool.not_not]
          rw[show(F i n a).Begin=a.Begin from by rw[hFa]]
          by_cases he:x.End<=a.Begin
          · rw[ifp he]
            exact .inl (hstep (by unfold O2;rw[decide_eq_true he];simp))
          · rw[ifn he,Akt x r (by have:=h.keys x hxm;omega),zA]
            cases hm:Ann r x.Keys with
            | false =>
              rw[if_pos (by rfl)]
              exact .inl (hstep (by unfold O2;rw[hm];simp))
            | true =>
              have hp:O2 a r x=true:=Aas.2 ⟨hs,by omega,hm⟩
              rw[if_neg (nn (by rfl))]
              unfold Pb Hw
              dsimp only
              rw[zA,Azl l n i (λe=>hin e.symm) (hF n a ha) (by rw[hF i x hx,eF]),zA,if_pos smp,A3,zI (by rw[yS];omega),zA,Afg,zA]
              dsimp only
              rw[wY]
              cases ho:x.Out with
              | true =>
                rw[if_pos rfl]
                exact .inr (.inr ⟨_,rfl,rfl,x,hxm,hp,ho⟩)
              | false =>
                rw[if_neg (nn (by rfl))]
                refine .inl ⟨_,rfl,⟨i+1,hlt,by rw[wIo];rfl,by simp [hll],λj y hy=>?_,λy hy hpy=>?_⟩,by rw[wIo];omega⟩
                · show(List.set _ i _)[j]? = some (T1 _ _ _ _ _ (i+1) j y)
                  have hjl:=(zB.1 hy).1
                  unfold T1
                  by_cases hji:j=i
                  · subst hji
                    rw[hx] at hy
                    have:=zD hy
                    subst this
                    rw[zI (by rw[yS];omega),if_neg hin,if_pos ⟨by omega,hp⟩]
                    dsimp only
                    rw[ho]
                  · rw[zM (λe=>hji e.symm)]
                    by_cases hjn:j=n
                    · subst hjn
                      rw[ha] at hy
                      have:=zD hy
                      subst this
                      rw[zI omg,if_pos rfl,zV hlt,List.any_append,hFa]
                      have:c.Txs[i]=x:=by rw[zC hlt] at hx;exact zD hx
                      rw[this]
                      simp only[List.any_cons,zAi,hp,zAh,Bool.true_or]
                    · rw[zM (λe=>hjn e.symm),if_neg hjn,hF j y hy]
                      show some (T1 _ _ _ _ _ i j y)=_
                      unfold T1
                      rw[if_neg hjn]
                      by_cases hlt':j<i
                      · simp only[hlt',show j<i+1 from by omega]
                      · simp only[hlt',show ¬ j<i+1 from by omega]
                · rw[zV hlt,yC,zP] at hy
                  rcases hy with hy|hy
                  · exact hno y hy hpy
                  · rw[zC hlt] at hx
                    rw[hy,zD hx];exact ho
        · rw[if_pos (by rw[decide_eq_false hs];rfl)]
          exact .inl (hstep (by unfold O2;rw[decide_eq_false hs];rfl))
    · have e:i=c.Txs.length:=by omega
      subst e
      rw[ifq]
      refine .inr (.inl ⟨_,rfl,?_,by rw[yJ] at hno;exact hno⟩)
      apply wE
      intro j
      rw[zQ]
      cases hy:c.Txs[j]? with
      | none =>
        have hy:=wJ.1 hy
        exact wJ.2 omg
      | some y =>
        rw[hF j y hy]
        show some (T1 _ _ _ _ _ _ j y)=some (Qb _ _ _ y)
        have hjl:=(zB.1 hy).1
        unfold T1 Qb
        rw[yJ]
        by_cases hjn:j=n
        · subst hjn
          rw[ha] at hy
          have:=zD hy
          subst this
          rw[if_pos rfl,if_pos rfl]
        · have hne:y.ID≠a.ID:=λe=>by
            have hya:=h.one (zG hy) ham e
            obtain⟨p1,p2⟩:=zB.1 hy
            obtain⟨q1,q2⟩:=zB.1 ha
            rcases j7 hjn with hh|hh
            · have:=yN.1 h.ids j n p1 q1 hh
              rw[p2,q2] at this;exact this e
            · have:=yN.1 h.ids n j q1 p1 hh
              rw[p2,q2] at this;exact this e.symm
          rw[if_neg hjn,if_neg hne]
          simp only[hjl,true_and]
  · show c.Txs[j]? = some (T1 _ _ _ _ _ 0 j x)
    rw[hx]
    unfold T1
    rw[jE]
    simp only[zAi,Bool.or_false,zW,false_and,if_false]
    split <;> rfl
theorem read_m {c:Ay} (h:SC c) (id:Int) (r:Ar) :
    ((∀ x∈c.Txs,x.ID=id->x.State≠1)/\Fp c id r=some (cN,7)) \/
    ∃ a∈c.Txs,a.ID=id/\a.State=1 /\
      ((∃ e,(e=1\/(e=8/\128<=c.Reads.L.length))/\Fp c id r=some (cN,e)) \/
       ((∃ x∈c.Txs,O2 a r x=true/\x.Out=true)/\Fp c id r=some (cN,10)) \/
       ∃ rs,Good rs/\(∀ x∈c.Reads.L,x∈rs)/\(⟨a.ID,r⟩:Ap)∈rs/\(∀ x∈rs,x∈c.Reads.L\/x=⟨a.ID,r⟩)/\rs.length<=c.Reads.L.length+1/\(∀ x∈c.Txs,O2 a r x=true->x.Out=false) /\
         Fp c id r=some (⟨c.Txs.map (Qb c.Txs a r),⟨rs⟩⟩,0)):=by
  unfold Fp
  rw[sane_c h,zA,if_neg (nn (by rfl))]
  rcases Acz h id with⟨h1,e⟩|⟨i,a,ha,e1,e2,e⟩
  · rw[e,zA]
    exact .inl ⟨h1,rfl⟩
  · right
    refine⟨a,zG ha,e1,e2,?_⟩
    rw[e,zA,ifq]
    have hfin:∀ rs:List Ap,((Dk c.Txs).bind λv4=>(Gj (E6 r (i:Int) v4) fuel (0,v4)).bind λx=>match x with | .inl r=>some r | .inr e17=>L8 ((⟨rs⟩:Be),(0:Int)) e17)=some (cN,10)/\(∃ x∈c.Txs,O2 a r x=true/\x.Out=true)\/((Dk c.Txs).bind λv4=>(Gj (E6 r (i:Int) v4) fuel (0,v4)).bind λx=>match x with | .inl r=>some r | .inr e17=>L8 ((⟨rs⟩:Be),(0:Int)) e17)=some (⟨c.Txs.map (Qb c.Txs a r),⟨rs⟩⟩,0)/\(∀ x∈c.Txs,O2 a r x=true->x.Out=false):=λrs=>by
      rw[Aly _ (by have:=h.len;omega),zA]
      obtain⟨v,hv,hr⟩:=Apw h r ha e2
      rw[hv]
      cases v with
      | inl q=>exact .inl ⟨by rw[<- hr.1];rfl,hr.2⟩
      | inr l=>exact .inr ⟨by rw[<- hr.1];rfl,hr.2⟩
    have hg:=h.gr
    subst e1
    rcases Ay4 (l:=c.Reads.L) (by have:=hg.len;omega) a.ID r with⟨_,hs,⟨hin,e⟩|⟨hin,⟨h128,e⟩|⟨h128,e,hg'⟩⟩⟩|⟨_,e⟩
    · rw[e,zA,if_neg (by show ¬ (!decide ((0:Int)=0))=true;decide)]
      rcases hfin c.Reads.L with⟨hh,hx⟩|⟨hh,hx⟩
      · exact .inr (.inl ⟨hx,hh⟩)
      · exact .inr (.inr ⟨c.Reads.L,hg,λx hx=>hx,hin,λx hx=>.inl hx,by omega,hx,hh⟩)
    · rw[e,zA,if_pos dcd]
      exact .inl ⟨8,.inr ⟨rfl,h128⟩,rfl⟩
    · rw[e,zA,if_neg (by show ¬ (!decide ((0:Int)=0))=true;decide)]
      rcases hfin (c.Reads.L++[⟨a.ID,r⟩]) with⟨hh,hx⟩|⟨hh,hx⟩
      · exact .inr (.inl ⟨hx,hh⟩)
      · refine .inr (.inr ⟨_,hg',λx hx=>xN _ hx,wA _ (List.mem_singleton_self _),λx hx=>?_,by rw[zH];exact zO _,hx,hh⟩)
        rcases yC.1 hx with hx|hx
        · exact .inl hx
        · exact .inr (zP.1 hx)
    · rw[e,zA,if_pos dcd]
      exact .inl ⟨1,.inl rfl,rfl⟩
theorem Ap4 {c:Ay} (h:SC c) (a:Ao) (ts:Int) (K:Keys) (hK:K.length<=1000000) :
    ∃ b,My c a ts K=some b/\(b=true↔a.Begin<ts/\ts<=maxTs/\KS K/\¬ (a.RO=true/\K≠[])/\∀ y∈c.Txs,y.End<ts):=by
  have hl:=h.len
  unfold My
  by_cases h1:ts<=a.Begin
  · rw[ifp h1]
    exact⟨false,rfl,(λe=>by cases e),λe=>by omega⟩
  rw[ifn h1]
  by_cases h2:1099511627776<ts
  · rw[ifp h2]
    exact⟨false,rfl,(λe=>by cases e),λe=>by have:ts<=1099511627776:=e.2.1;omega⟩
  rw[ifn h2]
  obtain⟨v,hv,hi⟩:=R6 K omg
  rw[hv,zA]
  cases v with
  | false=>exact⟨false,rfl,(λe=>by cases e),λe=>by have:=hi.2 e.2.2.1;cases this⟩
  | true =>
  have hks:=hi.1 rfl
  rw[if_neg (nn (by rfl))]
  have hk1:∃ b,G0 c ts ()=some b/\(b=true↔∀ y∈c.Txs,y.End<ts):=by
    unfold G0
    rw[Ayy c.Txs (λy=>!decide (ts<=y.End)) false (Gz c ts) omg (λi x hx=>by
      have hlt:=(zB.1 hx).1
      unfold Gz
      rw[ifo,A3,hx,zA,wIo]
      cases decide (ts<=x.End) <;> rfl) (by
      unfold Gz
      rw[ifq])]
    cases ha:c.Txs.all (λy=>!decide (ts<=y.End)) with
    | true =>
      refine⟨true,rfl,λ_ y hy=>?_,λ_=>rfl⟩
      have:=zL.1 ha y hy
      simp only[xS,decide_eq_false_iff_not] at this
      omega
    | false =>
      refine⟨false,rfl,(λe=>by cases e),λe=>?_⟩
      rw[zL.2 λy hy=>by have:=e y hy;simp only[xS,decide_eq_false_iff_not];omega] at ha
      cases ha
  obtain⟨b,hb,hbi⟩:=hk1
  have h2':ts<=maxTs:=by show ts<=1099511627776;omega
  cases hro:a.RO with
  | false =>
    rw[if_neg dcd,hb]
    exact⟨b,rfl,hbi.trans ⟨λe=>⟨by omega,h2',hks,λe=>(by cases e.1),e⟩,λe=>e.2.2.2.2⟩⟩
  | true =>
    rw[if_pos rfl]
    by_cases hK0:(0:Int)<K.length
    · rw[ifp hK0]
      refine⟨false,rfl,(λe=>by cases e),λe=>absurd ⟨rfl,λe=>?_⟩ e.2.2.2.1⟩
      rw[e] at hK0;simp at hK0
    · rw[ifn hK0,hb]
      have:K=[]:=z7 omg
      exact⟨b,rfl,hbi.trans ⟨λe=>⟨by omega,h2',hks,λe=>e.2 this,e⟩,λe=>e.2.2.2.2⟩⟩
theorem Ajy {c:Ay} (h:SC c) (a:Ao) (h1:a.State=1) (K:Keys) (hK:K.length<=1000000) :
    ∃ b,Hr c a K=some b/\(b=false↔∀ x∈c.Txs,x.State=2->a.Begin<x.End->∀ k∈K,k∉x.Keys):=by
  have hl:=h.len
  have hpw:∀ x∈c.Txs,x.State=2->PW x.Keys:=λx hx hs=>by
    rcases(h.each x hx).st with e|e
    · rw[hs] at e;cases e.1
    · exact e.2.2.2.1.pw
  let p:Ao->Bool:=λx=>decide (x.State=2) && !decide (x.End<=a.Begin)&&K.any (λk=>hit x.Keys k)
  have hs:Hr c a K=some (c.Txs.any p):=by
    unfold Hr
    rw[Afv c.Txs p (λ_=>true) (Ff c a K) omg (λi x hx=>by
      have hlt:=(zB.1 hx).1
      have hxm:=zG hx
      unfold Ff
      rw[ifo,A3,hx,zA]
      by_cases hs:x.State=2
      · rw[if_neg (by rw[decide_eq_true hs];decide),Aqc x a h1,zA,decide_eq_true hs,wY,Bool.not_not]
        by_cases he:x.End<=a.Begin
        · rw[ifp he,wIo]
          have:p x=false:=by show(_&&_&&_)=false;rw[decide_eq_true he];simp
          rw[this];rfl
        · rw[ifn he]
          unfold Ls
          rw[Afv K (λk=>hit x.Keys k) (λ_=>true) (Fh K x) omg (λj k hk=>by
            have hjl:=(zB.1 hk).1
            unfold Fh
            rw[ifo,A3,hk,zA,Ag4 _ _ (by have:=h.keys x hxm;omega),zA,wIo]
            cases hit x.Keys k <;> rfl) (by
            unfold Fh
            rw[ifq]),zA]
          have hpx:p x=K.any (λk=>hit x.Keys k):=by show(_&&_&&_)=_;rw[decide_eq_true hs,decide_eq_false he];simp
          rw[hpx]
          cases hf:K.find? (λk=>hit x.Keys k) with
          | none =>
            rw[show K.any (λk=>hit x.Keys k)=false from kM.2 λk hk=>by have:=w4.1 hf k hk;simpa using this]
            show Hq _ _=_
            unfold Hq
            rw[wIo];rfl
          | some k=>rw[yX.2 ⟨k,kK hf,by have:=jO hf;exact this⟩];rfl
      · rw[if_pos (by rw[decide_eq_false hs];rfl),wIo]
        have:p x=false:=by show(_&&_&&_)=false;rw[decide_eq_false hs];rfl
        rw[this];rfl) (by
      unfold Ff
      rw[ifq]),zA]
    cases hf:c.Txs.find? p with
    | none=>rw[show c.Txs.any p=false from kM.2 λk hk=>by have:=w4.1 hf k hk;simpa using this];rfl
    | some k=>rw[yX.2 ⟨k,kK hf,by have:=jO hf;exact this⟩]
  refine⟨_,hs,?_⟩
  rw[kM]
  constructor
  · intro hh x hx hs he k hk hkx
    refine hh x hx ?_
    show(_&&_&&_)=true
    rw[decide_eq_true hs,decide_eq_false omg,yX.2 ⟨k,hk,(Aga (hpw x hx hs)).2 hkx⟩];rfl
  · intro hh x hx hp
    have hp:(decide (x.State=2) && !decide (x.End<=a.Begin)&&K.any (λk=>hit x.Keys k))=true:=hp
    simp only[zS,decide_eq_true_eq,xS,decide_eq_false_iff_not,yX] at hp
    obtain⟨⟨hs,he⟩,k,hk,hh'⟩:=hp
    exact hh x hx hs omg k hk (Af3 hh')
def Al2 (rs:List Ap) (K:Keys):List Int:=K.flatMap λk=>Ae7 (Aa9 rs k)
theorem Ah1 {rs:List Ap} {K:Keys} {t:Int}:t∈Al2 rs K↔∃ r∈rs,r.Tx=t/\Ann r.Rng K=true:=by
  unfold Al2
  rw[jX]
  constructor
  · rintro⟨k,hk,h⟩
    obtain⟨x,hx,h1,h2⟩:=Ahj.1 h
    exact⟨x,hx,h2,metV_iff.2 ⟨k,hk,h1⟩⟩
  · rintro⟨r,hr,h1,h2⟩
    obtain⟨k,hk,h3⟩:=metV_iff.1 h2
    exact⟨k,hk,Ahj.2 ⟨r,hr,h3,h1⟩⟩
theorem Ah4 (rs:List Ap):∀ K:Keys,(Al2 rs K).length<=K.length*rs.length
  | []=>by simp [Al2]
  | k::K=>by
    have ih:=Ah4 rs K
    have:=Aml rs k
    unfold Al2 at ih ⊢
    rw[yW,zH,xD,jH]
    omega
theorem Af6 {c:Ay} (h:SC c) (K:Keys) (hK:K.length<=1000000):Im c K=some (Al2 c.Reads.L K):=by
  have hg:=h.gr.len
  unfold Im
  rw[Ajm K (λk=>Ae7 (Aa9 c.Reads.L k)) (D9 c K) 128 (λk=>by have:=Aml c.Reads.L k;omega) omg (λi x acc hx ha=>by
    have hlt:=(zB.1 hx).1
    have:=Aml c.Reads.L x
    unfold D9
    dsimp only
    rw[ifo,A3,hx,zA,Avr (l:=c.Reads.L) omg,zA,if_pos omg,wIo]
    rfl) (λacc=>by
    unfold D9
    dsimp only
    rw[ifq]),zA]
  rfl
theorem Apq {c:Ay} (h:SC c) (K:Keys) (hK:K.length<=16) {n:Nat} {a:Ao} (ha:c.Txs[n]? = some a) (h1:a.State=1) :
    ∃ b l,L5 c.Txs (n:Int) (Al2 c.Reads.L K)=some (b,l)/\l.length=c.Txs.length /\
      (b=false->∃ x∈c.Txs,To c.Reads.L a K x=true/\x.State=2/\x.In=true) /\
      (b=true->(∀ (j:Nat) (x:Ao),c.Txs[j]? = some x->l[j]? = some (if j=n then { x with In:=x.In||c.Txs.any (To c.Reads.L a K) } else if To c.Reads.L a K x=true then { x with Out:=true } else x))/\∀ x∈c.Txs,To c.Reads.L a K x=true->x.State=2->x.In=false):=by
  have hl:=h.len
  have hg:=h.gr.len
  have hrl:=Ah4 c.Reads.L K
  have hrl':(Al2 c.Reads.L K).length<=2048:=yP hrl (yP (Nat.mul_le_mul hK hg) dcd)
  have ham:=zG ha
  have hpa:To c.Reads.L a K a=false:=by unfold To;rw[decide_eq_true rfl];rfl
  let F:=T1 c.Txs n (To c.Reads.L a K) (λb x=>{ x with In:=x.In||b }) (λx=>{ x with Out:=true })
  have key:∃ v,Gj (Ga c.Txs (n:Int) (Al2 c.Reads.L K)) fuel (0,c.Txs)=some v /\
      (match v with
        | .inl q=>q.1=false/\q.2.length=c.Txs.length/\∃ x∈c.Txs,To c.Reads.L a K x=true/\x.State=2/\x.In=true
        | .inr l=>l.length=c.Txs.length/\(∀ (j:Nat) (x:Ao),c.Txs[j]? = some x->l[j]? = some (F c.Txs.length j x))/\∀ x∈c.Txs,To c.Reads.L a K x=true->x.State=2->x.In=false):=by
    refine Cr (f:=Ga c.Txs (n:Int) (Al2 c.Reads.L K)) (P:=λs=>∃ i:Nat,i<=c.Txs.length/\s.1=(i:Int)/\s.2.length=c.Txs.length/\(∀ (j:Nat) (x:Ao),c.Txs[j]? = some x->s.2[j]? = some (F i j x))/\∀ x∈c.Txs.take i,To c.Reads.L a K x=true->x.State=2->x.In=false) (μ:=λs=>c.Txs.length-s.1.toNat) (R:=λv=>match v with
        | .inl q=>q.1=false/\q.2.length=c.Txs.length/\∃ x∈c.Txs,To c.Reads.L a K x=true/\x.State=2/\x.In=true
        | .inr l=>l.length=c.Txs.length/\(∀ (j:Nat) (x:Ao),c.Txs[j]? = some x->l[j]? = some (F c.Txs.length j x))/\∀ x∈c.Txs,To c.Reads.L a K x=true->x.State=2->x.In=false) ?_ fuel (0,c.Txs) ⟨0,zZ _,rfl,rfl,λj x hx=>?_,by simp⟩ (Bs (by show c.Txs.length-0<=_;omega))
    · rintro⟨_,l⟩ ⟨i,hi,rfl,hll,hF,hno⟩
      dsimp only at hll hF
      unfold Ga
      dsimp only
      rcases zU i c.Txs.length with hlt|hge
      · have hx:=zC hlt
        generalize c.Txs[i]=x at hx
        have hxm:=zG hx
        have htk:∀ {y},y∈c.Txs.take (i+1)->y∈c.Txs.take i\/y=x:=λ{y} hy=>by
          rw[zV hlt,yC,zP] at hy
          rcases hy with hy|hy
          · exact .inl hy
          · rw[zC hlt] at hx
            exact .inr (hy.trans (zD hx))
        have hstep:To c.Reads.L a K x=false->∃ s',(some (LR.cont (wI ((i:Int)+1),l)):Option (LR (Int×List Ao) (List Ao) (Bool×List Ao)))=some (.cont s')/\(∃ k:Nat,k<=c.Txs.length/\s'.1=(k:Int)/\s'.2.length=c.Txs.length/\(∀ (j:Nat) (x:Ao),c.Txs[j]? = some x->s'.2[j]? = some (F k j x))/\∀ x∈c.Txs.take k,To c.Reads.L a K x=true->x.State=2->x.In=false)/\c.Txs.length-s'.1.toNat<c.Txs.length-(i:Int).toNat:=λhp=>by
          refine⟨_,rfl,⟨i+1,hlt,by rw[wIo];rfl,hll,λj y hy=>?_,λy hy hpy=>?_⟩,by rw[wIo];omega⟩
          · show l[j]? = some (T1 _ _ _ _ _ (i+1) j y)
            rw[Aej _ _ _ _ _ hx hp j y hy];exact hF j y hy
          · rcases htk hy with hy|hy
            · exact hno y hy hpy
            · rw[hy,hp] at hpy;cases hpy
        rw[ifo,A3,hF i x hx,zA]
        by_cases hin:i=n
        · subst hin
          have:x=a:=by rw[ha] at hx;exact(zD hx).symm
          subst this
          left
          rw[ifp rfl]
          exact hstep hpa
        · have hid:x.ID≠a.ID:=λe=>by
            have hya:=h.one hxm ham e
            obtain⟨p1,p2⟩:=zB.1 hx
            obtain⟨q1,q2⟩:=zB.1 ha
            rcases j7 hin with hh|hh
            · have:=yN.1 h.ids i n p1 q1 hh
              rw[p2,q2] at this;exact this e
            · have:=yN.1 h.ids n i q1 p1 hh
              rw[p2,q2] at this;exact this e.symm
          have eF:F i i x=x:=by show T1 _ _ _ _ _ i i x=_;unfold T1;rw[if_neg hin,if_neg (λe=>by omega)]
          rw[eF]
          have hFa:F i n a={ a with In:=a.In||(c.Txs.take i).any (To c.Reads.L a K) }:=by show T1 _ _ _ _ _ i n a=_;unfold T1;rw[if_pos rfl]
          rw[ifq,Xw _ _ omg,zA]
          by_cases hc:x.ID∈Al2 c.Reads.L K
          · rw[decide_eq_true hc,if_neg dcd,A3,hF n a ha,zA,Aik x _ (by rw[hFa];exact h1),zA,Bool.not_not]
            rw[show(F i n a).Begin=a.Begin from by rw[hFa]]
            cases hb:(decide (x.State=2)&&decide (x.End<=a.Begin)) with
            | true =>
              rw[if_pos rfl]
              exact .inl (hstep (by unfold To;rw[hb];simp))
            | false =>
              have hp:To c.Reads.L a K x=true:=by
                unfold To
                rw[hb,decide_eq_false hid]
                obtain⟨r,hr,e1,e2⟩:=Ah1.1 hc
                rw[yX.2 ⟨r,hr,by rw[decide_eq_true e1,e2];rfl⟩];rfl
              rw[if_neg dcd]
              unfold Mj Hw
              dsimp only
              rw[zA,Azl l i n hin (by rw[hF i x hx,eF]) (hF n a ha),zA,if_pos smp]
              have hnew:∀ (j:Nat) (y:Ao),c.Txs[j]? = some y->((l.set i { x with Out:=true }).set n { (F i n a) with In:=true })[j]? = some (F (i+1) j y):=λj y hy=>by
                show(List.set _ n _)[j]? = some (T1 _ _ _ _ _ (i+1) j y)
                have hjl:=(zB.1 hy).1
                unfold T1
                by_cases hjn:j=n
                · subst hjn
                  rw[ha] at hy
                  have:=zD hy
                  subst this
                  rw[zI (by rw[yS];omega),if_pos rfl,zV hlt,List.any_append,hFa]
                  have:c.Txs[i]=x:=by rw[zC hlt] at hx;exact zD hx
                  rw[this]
                  simp only[List.any_cons,zAi,hp,zAh,Bool.true_or]
                · rw[zM (λe=>hjn e.symm)]
                  by_cases hji:j=i
                  · subst hji
                    rw[hx] at hy
                    have:=zD hy
                    subst this
                    rw[zI omg,if_neg hin,if_pos ⟨by omega,hp⟩]
                  · rw[zM (λe=>hji e.symm),if_neg hjn,hF j y hy]
                    show some (T1 _ _ _ _ _ i j y)=_
                    unfold T1
                    rw[if_neg hjn]
                    by_cases hlt':j<i
                    · simp only[hlt',show j<i+1 from by omega]
                    · simp only[hlt',show ¬ j<i+1 from by omega]
              have hgo:(x.State=2->x.In=false)->∃ s',(some (LR.cont (wI ((i:Int)+1),(l.set i { x with Out:=true }).set n { (F i n a) with In:=true })):Option (LR (Int×List Ao) (List Ao) (Bool×List Ao)))=some (.cont s')/\(∃ k:Nat,k<=c.Txs.length/\s'.1=(k:Int)/\s'.2.length=c.Txs.length/\(∀ (j:Nat) (x:Ao),c.Txs[j]? = some x->s'.2[j]? = some (F k j x))/\∀ x∈c.Txs.take k,To c.Reads.L a K x=true->x.State=2->x.In=false)/\c.Txs.length-s'.1.toNat<c.Txs.length-(i:Int).toNat:=λhxi=>by
                refine⟨_,rfl,⟨i+1,hlt,by rw[wIo];rfl,by simp [hll],hnew,λy hy hpy hsy=>?_⟩,by rw[wIo];omega⟩
                rcases htk hy with hy|hy
                · exact hno y hy hpy hsy
                · rw[hy] at hsy ⊢;exact hxi hsy
              by_cases hs:x.State=2
              · rw[ifp hs,A3,hnew i x hx,zA,Afg,zA]
                have eF':F (i+1) i x={ x with Out:=true }:=by show T1 _ _ _ _ _ (i+1) i x=_;unfold T1;rw[if_neg hin,if_pos ⟨by omega,hp⟩]
                rw[eF']
                dsimp only
                rw[Bool.and_true]
                by_cases hio:x.In=true
                · rw[if_pos hio]
                  exact .inr (.inr ⟨_,rfl,rfl,by simp [hll],x,hxm,hp,hs,hio⟩)
                · rw[if_neg hio]
                  exact .inl (hgo λ_=>by simpa using hio)
              · rw[ifn hs]
                exact .inl (hgo λe=>absurd e hs)
          · rw[decide_eq_false hc,if_pos (by rfl)]
            refine .inl (hstep ?_)
            cases hh:To c.Reads.L a K x with
            | false=>rfl
            | true =>
              obtain⟨_,⟨r,hr,e1,e2⟩,_⟩:=Ahz.1 hh
              exact absurd (Ah1.2 ⟨r,hr,e1,e2⟩) hc
      · have e:i=c.Txs.length:=by omega
        subst e
        rw[ifq]
        exact .inr (.inl ⟨_,rfl,hll,hF,by rw[yJ] at hno;exact hno⟩)
    · show c.Txs[j]? = some (T1 _ _ _ _ _ 0 j x)
      rw[hx]
      unfold T1
      rw[jE]
      simp only[zAi,Bool.or_false,zW,false_and,if_false]
      split <;> rfl
  obtain⟨v,hv,hr⟩:=key
  unfold L5
  rw[hv,zA]
  cases v with
  | inl q =>
    obtain⟨b,l⟩:=q
    obtain⟨e,h2,h3⟩:=hr
    have e:b=false:=e
    subst e
    exact⟨false,l,rfl,h2,λ_=>h3,λe=>by cases e⟩
  | inr l =>
    obtain⟨h2,h3,h4⟩:=hr
    refine⟨true,l,rfl,h2,(λe=>by cases e),λ_=>⟨λj x hx=>?_,h4⟩⟩
    rw[h3 j x hx]
    show some (T1 _ _ _ _ _ _ j x)=_
    have hjl:=(zB.1 hx).1
    unfold T1
    rw[yJ]
    simp only[hjl,true_and]
theorem commit_m {c:Ay} (h:SC c) (id ts:Int) (K:Keys) (hK:K.length<=16) :
    ((∀ x∈c.Txs,x.ID=id->x.State≠1)/\C8 c id ts K=some (cN,7)) \/
    ∃ a∈c.Txs,a.ID=id/\a.State=1 /\
      ((¬ (a.Begin<ts/\ts<=maxTs/\KS K/\¬ (a.RO=true/\K≠[])/\∀ y∈c.Txs,y.End<ts)/\C8 c id ts K=some (cN,1)) \/
       ((a.Begin<ts/\ts<=maxTs/\KS K/\¬ (a.RO=true/\K≠[])/\∀ y∈c.Txs,y.End<ts) /\
         ((¬ (∀ x∈c.Txs,x.State=2->a.Begin<x.End->∀ k∈K,k∉x.Keys)/\C8 c id ts K=some (cN,9)) \/
          ((∀ x∈c.Txs,x.State=2->a.Begin<x.End->∀ k∈K,k∉x.Keys) /\
            (((∃ x∈c.Txs,To c.Reads.L a K x=true/\x.State=2/\x.In=true)\/((a.In||c.Txs.any (To c.Reads.L a K))=true/\a.Out=true))/\C8 c id ts K=some (cN,10) \/
             (∀ x∈c.Txs,To c.Reads.L a K x=true->x.State=2->x.In=false)/\¬ ((a.In||c.Txs.any (To c.Reads.L a K))=true/\a.Out=true)/\C8 c id ts K=some (⟨c.Txs.map (doneF c.Txs c.Reads.L a ts K),c.Reads⟩,0)))))):=by
  unfold C8
  rw[sane_c h,zA,if_neg (nn (by rfl))]
  rcases Acz h id with⟨h1,e⟩|⟨n,a,ha,e1,h1,e⟩
  · rw[e,zA]
    exact .inl ⟨h1,rfl⟩
  right
  have ham:=zG ha
  have hl:=h.len
  refine⟨a,ham,e1,h1,?_⟩
  rw[e,zA,ifq,A3,ha,zA]
  obtain⟨b,hb,hbi⟩:=Ap4 h a ts K omg
  rw[hb,zA]
  cases b with
  | false=>exact .inl ⟨λhc=>(by have:=hbi.2 hc;cases this),rfl⟩
  | true =>
  right
  refine⟨hbi.1 rfl,?_⟩
  rw[if_neg dcd,zA]
  obtain⟨b,hb,hbi⟩:=Ajy h a h1 K omg
  rw[hb,zA]
  cases b with
  | true=>exact .inl ⟨λhc=>(by have:=hbi.2 hc;cases this),rfl⟩
  | false =>
  right
  refine⟨hbi.1 rfl,?_⟩
  rw[if_neg dcd,Aly _ omg,zA,Af6 h K omg,zA]
  obtain⟨b,l,hp,hll,hf,ht⟩:=Apq h K hK ha h1
  rw[hp,zA,if_pos hll]
  cases b with
  | false=>exact .inl ⟨.inl (hf rfl),rfl⟩
  | true =>
  obtain⟨hj,hno⟩:=ht rfl
  have hln:=hj n a ha
  rw[if_pos rfl] at hln
  rw[if_neg smp]
  dsimp only
  rw[A3,hln,zA,Afg,zA]
  dsimp only
  by_cases hpv:(a.In||c.Txs.any (To c.Reads.L a K))=true/\a.Out=true
  · rw[if_pos (by rw[hpv.1,hpv.2];rfl)]
    exact .inl ⟨.inr hpv,rfl⟩
  · rw[if_neg (by rw[zS];exact hpv)]
    refine .inr ⟨hno,hpv,?_⟩
    have hnl:n<l.length:=(zB.1 hln).1
    unfold Na
    rw[A3,hln,zA]
    dsimp only
    rw[A3,zT,zI hnl,zA]
    dsimp only
    rw[A3,zI (by rw[yS];exact hnl),zA,jJ,jJ]
    congr 2
    show(Ay.mk _ _)=_
    congr 1
    apply wE
    intro j
    rw[zQ]
    cases hy:c.Txs[j]? with
    | none =>
      have hy:=wJ.1 hy
      exact wJ.2 (by rw[yS];omega)
    | some y =>
      show _=some (doneF _ _ _ _ _ y)
      unfold doneF
      by_cases hjn:j=n
      · subst hjn
        rw[ha] at hy
        have:=zD hy
        subst this
        rw[zI hnl,if_pos rfl]
      · have hne:y.ID≠a.ID:=λe=>by
          have hya:=h.one (zG hy) ham e
          obtain⟨p1,p2⟩:=zB.1 hy
          obtain⟨q1,q2⟩:=zB.1 ha
          rcases j7 hjn with hh|hh
          · have:=yN.1 h.ids j n p1 q1 hh
            rw[p2,q2] at this;exact this e
          · have:=yN.1 h.ids n j q1 p1 hh
            rw[p2,q2] at this;exact this e.symm
        rw[zM (λe=>hjn e.symm),hj j y hy,if_neg hjn,if_neg hne]
theorem Adg {c:Ay} (h:SC c) (gone:List Int) (hg:gone.length<=1000000):Iy c gone=some ⟨c.Txs.filter (λx=>!decide (x.ID∈gone)),⟨Aa3 c.Reads.L gone false⟩⟩:=by
  have hl:=h.len
  unfold Iy
  rw[Ajm c.Txs (λx=>if (!decide (x.ID∈gone))=true then[x] else[]) (F4 c gone) 1 (λx=>by split <;> simp) omg (λi x acc hx ha=>by
    have hlt:=(zB.1 hx).1
    unfold F4
    dsimp only
    rw[ifo,A3,hx,zA,Xw _ _ hg,zA,wIo]
    cases decide (x.ID∈gone) with
    | true=>rw[if_neg dcd,if_neg dcd,xG];rfl
    | false=>rw[if_pos (by rfl),if_pos (by rw[yD];omega),if_pos (by rfl)];rfl) (λacc=>by
    unfold F4
    dsimp only
    rw[ifq]),zA,Y9,List.map_id']
  unfold Mk
  rw[Aru (l:=c.Reads.L) (by have:=h.gr.len;omega) _ hg];rfl
theorem abort_m {c:Ay} (h:SC c) (id:Int):((∀ x∈c.Txs,x.ID=id->x.State≠1)/\C9 c id=some c) \/
    ((∃ a∈c.Txs,a.ID=id/\a.State=1)/\C9 c id=some ⟨c.Txs.filter (λx=>!decide (x.ID∈[id])),⟨Aa3 c.Reads.L [id] false⟩⟩):=by
  unfold C9
  rcases Acz h id with⟨h1,e⟩|⟨n,a,ha,e1,h1,e⟩
  · rw[e,zA]
    exact .inl ⟨h1,rfl⟩
  · rw[e,zA,ifq,Adg h _ smp]
    exact .inr ⟨⟨a,zG ha,e1,h1⟩,rfl⟩
def oldV (l:List Ao) (now:Int):Int:=l.foldl (λm x=>if x.State=1 then(if x.Begin<m then x.Begin else m) else m) now
theorem oldest_m (c:Ay) (now:Int) (hl:c.Txs.length<=1000000):Ju c now=some (oldV c.Txs now):=by
  unfold Ju
  show(B8 _ fuel (now,((0:Nat):Int))).bind _=_
  rw[Uq (f:=G6 c) (λ(m:Int) (i:Nat)=>(m,(i:Int))) c.Txs (λm x=>if x.State=1 then(if x.Begin<m then x.Begin else m) else m) (λm=>m) omg (λacc i x hx=>by
    have hlt:=(zB.1 hx).1
    unfold G6
    dsimp only
    rw[ifo,A3,hx,zA,wIo]
    by_cases hs:x.State=1
    · rw[ifp hs,if_pos hs];rfl
    · rw[ifn hs,if_neg hs];rfl) (λacc=>by
    unfold G6
    dsimp only
    rw[ifq])]
  rfl
theorem oldV_le {l:List Ao}:∀ {now m:Int},m<=oldV l now↔m<=now/\∀ x∈l,x.State=1->m<=x.Begin:=by
  induction l with
  | nil=>intro now m;simp [oldV]
  | cons a l ih =>
    intro now m
    show m<=oldV l _↔_
    rw[ih]
    constructor
    · rintro⟨h1,h2⟩
      have h1:m<=(if a.State=1 then(if a.Begin<now then a.Begin else now) else now):=h1
      by_cases hs:a.State=1
      · rw[if_pos hs] at h1
        split at h1
        · exact⟨by omega,λx hx h=>by
            rcases yM.1 hx with e|hx
            · rw[e];omega
            · exact h2 x hx h⟩
        · exact⟨by omega,λx hx h=>by
            rcases yM.1 hx with e|hx
            · rw[e];omega
            · exact h2 x hx h⟩
      · rw[if_neg hs] at h1
        exact⟨h1,λx hx h=>by
          rcases yM.1 hx with e|hx
          · rw[e] at h;exact absurd h hs
          · exact h2 x hx h⟩
    · rintro⟨h1,h2⟩
      refine⟨?_,λx hx h=>h2 x (yQ _ hx) h⟩
      show m<=(if a.State=1 then(if a.Begin<now then a.Begin else now) else now)
      by_cases hs:a.State=1
      · have:=h2 a (yR ..) hs
        rw[if_pos hs]
        split <;> omega
      · rw[if_neg hs];exact h1
def goneV (l:List Ao) (x:Ao):Bool:=decide (x.State=2)&&decide (x.End<=oldV l x.End)
theorem Ano {l:List Ao} {x:Ao}:goneV l x=true↔x.State=2/\∀ a∈l,a.State=1->x.End<=a.Begin:=by
  unfold goneV
  rw[zS,decide_eq_true_eq,decide_eq_true_eq,oldV_le]
  exact⟨λh=>⟨h.1,h.2.2⟩,λh=>⟨h.1,xQ _,h.2⟩⟩
theorem Aty {c:Ay} (h:SC c):I2 c=some ⟨c.Txs.filter (λx=>!decide (x.ID∈(c.Txs.filter (goneV c.Txs)).map (·.ID))),⟨Aa3 c.Reads.L ((c.Txs.filter (goneV c.Txs)).map (·.ID)) false⟩⟩:=by
  have hl:=h.len
  unfold I2
  rw[Ajm c.Txs (λx=>if goneV c.Txs x=true then[x.ID] else[]) (H7 c) 1 (λx=>by split <;> simp) omg (λi x acc hx ha=>by
    have hlt:=(zB.1 hx).1
    unfold H7
    dsimp only
    rw[ifo,A3,hx,zA,oldest_m _ _ omg,zA,wIo]
    unfold goneV
    by_cases hs:x.State=2
    · rw[ifp hs,decide_eq_true hs,wY]
      by_cases he:x.End<=oldV c.Txs x.End
      · rw[ifp he,if_pos (by rw[yD];omega),ifp he];rfl
      · rw[ifn he,ifn he,xG];rfl
    · rw[ifn hs,decide_eq_false hs,Bool.false_and,if_neg dcd,xG];rfl) (λacc=>by
    unfold H7
    dsimp only
    rw[ifq]),zA,Y9]
  unfold N5
  rw[Adg h _ (by rw[zY];have:=wC (goneV c.Txs) c.Txs;omega)]
  rfl
theorem find_c (c:Ay) (id:Int) (hl:c.Txs.length<=1000000):((∀ x∈c.Txs,x.ID≠id)/\∃ z,Ni c id=some (z,false))\/∃ x∈c.Txs,x.ID=id/\Ni c id=some (x,true):=by
  unfold Ni
  rcases T5 c id hl with⟨h1,e⟩|⟨i,x,hx,e1,e⟩
  · rw[e]
    exact .inl ⟨h1,_,rfl⟩
  · rw[e,zA,ifq,A3,hx]
    exact .inr ⟨x,zG hx,e1,rfl⟩
def K10 (K:Keys):Prop:=KS K/\K.length<=16
structure Bd (w:WL11) (n:Nat):Prop where
  now:w.now<=n
  beg:w.begun.length<=n
  did:w.did.length<=n
  read:w.read.length<=n
theorem Aj5.to {x:Ao} (h:Aj5 x K10):Aj5 x KS/\x.Keys.length<=16:=by
  refine⟨⟨h.id,h.beg,?_⟩,?_⟩
  · rcases h.st with e|⟨a,b,c,d,e⟩
    · exact .inl e
    · exact .inr ⟨a,b,c,d.1,e⟩
  · rcases h.st with⟨_,_,e⟩|⟨a,b,c,d,e⟩
    · rw[e];decide
    · exact d.2
theorem Inv.sc {w:WL11} (h:Inv K10 w):SC w.c:=by
  refine⟨h.gr,h.ri,h.len,λx hx=>(h.each x hx).to.1,h.ids,λx hx y hy h1 h2 he=>?_,λx hx=>(h.each x hx).to.2⟩
  obtain⟨d,hd,a1,a2,a3,a4⟩:=h.don x hx h1
  obtain⟨d',hd',b1,b2,b3,b4⟩:=h.don y hy h2
  have:d=d':=pw_eq h.didE hd hd' omg omg
  rw[<- a1,<- b1,this]
theorem inv_abort {w:WL11} (h:Inv K10 w) (id:Int):∃ c,C9 w.c id=some c/\Inv K10 { w with c:=c }/\(∀ x∈c.Txs,x∈w.c.Txs/\¬ (x.ID=id/\x.State=1)):=by
  rcases abort_m h.sc id with⟨h1,e⟩|⟨⟨a,ha,e1,h1⟩,e⟩
  · exact⟨_,e,h,λx hx=>⟨hx,λhc=>h1 x hx hc.1 hc.2⟩⟩
  · refine⟨_,e,Ait h _ _ (jK ..) (λr hr=>?_) (λr hr x hx hp e=>?_) (λx hx hp hs=>?_),λx hx=>?_⟩
    · obtain⟨hr1,hr2⟩:=Wq.1 hr
      obtain⟨x,hx,e⟩:=h.ri r hr1
      exact⟨x,hx,by rw[e,hr2];rfl,e⟩
    · rw[e] at hp
      exact Wq.2 ⟨hr,by simpa using hp⟩
    · have:x.ID=id:=by simpa using hp
      rw[h.one hx ha (this.trans e1.symm),h1] at hs;cases hs
    · obtain⟨h1,h2⟩:=yG.1 hx
      refine⟨h1,λhc=>?_⟩
      simp [hc.1] at h2
theorem inv_clean {w:WL11} (h:Inv K10 w):∃ c,I2 w.c=some c/\Inv K10 { w with c:=c }/\c=⟨w.c.Txs.filter (λx=>!goneV w.c.Txs x),⟨Aa3 w.c.Reads.L ((w.c.Txs.filter (goneV w.c.Txs)).map (·.ID)) false⟩⟩:=by
  have hm:∀ x∈w.c.Txs,(x.ID∈(w.c.Txs.filter (goneV w.c.Txs)).map (·.ID))↔goneV w.c.Txs x=true:=λx hx=>by
    rw[z8]
    constructor
    · rintro⟨y,hy,e⟩
      obtain⟨h1,h2⟩:=yG.1 hy
      rw[<- h.one h1 hx e];exact h2
    · intro hg;exact⟨x,yG.2 ⟨hx,hg⟩,rfl⟩
  have hf:w.c.Txs.filter (λx=>!decide (x.ID∈(w.c.Txs.filter (goneV w.c.Txs)).map (·.ID)))=w.c.Txs.filter (λx=>!goneV w.c.Txs x):=by
    refine List.filter_congr λx hx=>?_
    congr 1
    cases hg:goneV w.c.Txs x with
    | true=>exact decide_eq_true ((hm x hx).2 hg)
    | false=>exact decide_eq_false λhc=>by have:=(hm x hx).1 hc;rw[hg] at this;cases this
  refine⟨_,Aty h.sc,?_,by rw[hf]⟩
  rw[hf]
  refine Ait h _ _ (jK ..) (λr hr=>?_) (λr hr x hx hp e=>?_) (λx hx hp hs a ha hpa h1=>?_)
  · obtain⟨hr1,hr2⟩:=Wq.1 hr
    obtain⟨x,hx,e⟩:=h.ri r hr1
    refine⟨x,hx,?_,e⟩
    have hn:¬ (x.ID∈(w.c.Txs.filter (goneV w.c.Txs)).map (·.ID)):=by rw[e];exact of_decide_eq_false hr2
    cases hg:goneV w.c.Txs x with
    | true=>exact absurd ((hm x hx).2 hg) hn
    | false=>rfl
  · refine Wq.2 ⟨hr,decide_eq_false λhc=>?_⟩
    rw[<- e] at hc
    rw[(hm x hx).1 hc] at hp;cases hp
  · have hg:goneV w.c.Txs x=true:=by simpa using hp
    exact(Ano.1 hg).2 a ha h1
def Aw4 (rd:List GR10Read) (a b:GR11Tx):Prop :=
  (∃ k,k∈a.Keys/\k∈b.Keys)/\a.End<b.End\/a.End<=b.Begin/\Rd rd b.ID a.Keys\/a.Begin<b.End/\Rd rd a.ID b.Keys
theorem Ayz {S:List GR11Tx} (h:S≠[]):∃ x∈S,∀ y∈S,x.End<=y.End:=by
  induction S with
  | nil=>exact absurd rfl h
  | cons a S ih =>
    by_cases hS:S=[]
    · subst hS
      exact⟨a,by simp,λy hy=>by rw[zP.1 hy];exact xQ _⟩
    · obtain⟨x,hx,hm⟩:=ih hS
      by_cases hc:a.End<=x.End
      · refine⟨a,by simp,λy hy=>?_⟩
        rcases yM.1 hy with e|hy
        · rw[e];exact xQ _
        · have:=hm y hy;omega
      · refine⟨x,by simp [hx],λy hy=>?_⟩
        rcases yM.1 hy with e|hy
        · rw[e];omega
        · exact hm y hy
theorem Inv.first {saneK:Keys->Prop} {w:WL11} (h:Inv saneK w) {S:List GR11Tx} (hS:∀ x∈S,x∈w.did) (hne:S≠[]):∃ x∈S,∀ y∈S,y.ID≠x.ID->¬ Aw4 w.read y x:=by
  obtain⟨T,hT,hmin⟩:=Ayz hne
  by_cases hP:∃ P∈S,P.ID≠T.ID/\Aw4 w.read P T
  · obtain⟨P,hPS,hne1,hA⟩:=hP
    have hT0:=h.did0 T (hS T hT)
    have hPm:=hmin P hPS
    have hRR:RR w.read P T:=by
      rcases hA with⟨_,e⟩|⟨e,_⟩|⟨e,hr⟩
      · omega
      · have:=hT0.2.2.1;omega
      · exact⟨hne1,by have:=hT0.2.2.1;omega,e,hr⟩
    refine⟨P,hPS,λQ hQ hne2 hB=>?_⟩
    have hQm:=hmin Q hQ
    have hPT:=hRR.2.2.1
    rcases hB with⟨e1,e2⟩|⟨e,_⟩|⟨e,hr⟩
    · have:=h.ww Q (hS Q hQ) P (hS P hPS) e2 e1;omega
    · omega
    · by_cases hc:P.Begin<Q.End
      · exact h.nop Q (hS Q hQ) P (hS P hPS) T (hS T hT) ⟨hne2,hc,e,hr⟩ hRR
      · omega
  · exact⟨T,hT,λy hy h1 h2=>hP ⟨y,hy,h1,h2⟩⟩
end Go.Proofs.YtkblaobhhoebaaaGreat.Abs.ss
