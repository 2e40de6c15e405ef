/-
  What the library's functions compute.
-/
import Derived.Test.YtkblaobhhoebaaaGreatSC14
set_option linter.unusedVariables false
set_option linter.unusedSimpArgs false
namespace Go.Proofs.YtkblaobhhoebaaaGreat.Abs.ss
open Go.Proofs.YtkblaobhhoebaaaGreat.Abs.bf
structure Cb where
  Tx:Int
  Rng:Bh
structure Ha where
  ID:Int
  Begin:Int
  End:Int
  State:Int
  In:Bool
  Out:Bool
  RO:Bool
  Keys:List (List UInt8)
structure WL11 where
  c:Be
  now:Int
  begun:List Int
  did:List Ha
  read:List Cb
def Aoe (r:Bh) (l:Keys):Bool:=l.any (Ah9 r)
theorem Akx {r:Bh} {l:Keys}:Aoe r l=true↔∃ k∈l,Ah9 r k=true:=w4
def Rd (rd:List Cb) (i:Int) (K:Keys):Prop:=∃ r∈rd,r.Tx=i/\Aoe r.Rng K=true
theorem Rd.mono {rd rd':List Cb} {i:Int} {K:Keys} (h:Rd rd i K) (hs:∀ r∈rd,r∈rd'):Rd rd' i K:=by
  obtain⟨r,h1,h2⟩:=h;exact⟨r,hs r h1,h2⟩
theorem Rd.append {rd:List Cb} {r:Cb} {i:Int} {K:Keys} (h:Rd (rd++[r]) i K):Rd rd i K\/r.Tx=i/\Aoe r.Rng K=true:=by
  obtain⟨x,h1,h2⟩:=h
  rcases yH.1 h1 with h1|h1
  · exact .inl ⟨x,h1,h2⟩
  · rw[zV.1 h1] at h2;exact .inr h2
def maxTs:Int:=1099511627776
structure Amm (x:A3) (saneK:Keys->Prop):Prop where
  id:0<=x.ID
  beg:0<=x.Begin/\x.Begin<=maxTs
  st:x.State=1/\x.End=0/\x.Keys=[]\/x.State=2/\x.Begin<x.End/\x.End<=maxTs/\saneK x.Keys/\¬ (x.RO=true/\x.Keys≠[])
def RR (rd:List Cb) (x y:Ha):Prop:=x.ID≠y.ID/\y.Begin<x.End/\x.Begin<y.End/\Rd rd x.ID y.Keys
structure Inv (saneK:Keys->Prop) (w:WL11):Prop where
  gr:Good w.c.Reads.L
  ri:∀ r∈w.c.Reads.L,∃ x∈w.c.Txs,x.ID=r.Tx
  len:w.c.Txs.length<=64
  each:∀ x∈w.c.Txs,Amm x saneK
  ids:w.c.Txs.Pairwise (λx y=>x.ID≠y.ID)
  now0:0<=w.now
  beg:∀ b∈w.begun,0<=b/\b<=w.now
  act:∀ x∈w.c.Txs,idx w.begun x.ID=some x.Begin
  don:∀ x∈w.c.Txs,x.State=2->∃ d∈w.did,d.ID=x.ID/\d.Begin=x.Begin/\d.End=x.End/\d.Keys=x.Keys
  did0:∀ d∈w.did,0<=d.ID/\idx w.begun d.ID=some d.Begin/\d.Begin<d.End/\d.End<=w.now/\saneK d.Keys
  didE:w.did.Pairwise (λa b=>a.End<b.End)
variable {saneK:Keys->Prop} {w:WL11}
theorem pw_eq {α:Type} {R:α->α->Prop} {l:List α} (h:l.Pairwise R) {x y:α} (hx:x∈l) (hy:y∈l) (h1:¬ R x y) (h2:¬ R y x):x=y:=by
  induction h with
  | nil=>simp at hx
  | cons ha _ ih =>
    rcases yM.1 hx with e1|hx <;> rcases yM.1 hy with e2|hy
    · rw[e1,e2]
    · exact absurd (e1 ▸ ha _ hy) h1
    · exact absurd (e2 ▸ ha _ hx) h2
    · exact ih hx hy
theorem Inv.one (h:Inv saneK w) {x y:A3} (hx:x∈w.c.Txs) (hy:y∈w.c.Txs) (e:x.ID=y.ID):x=y:=pw_eq h.ids hx hy (λn=>n e) (λn=>n e.symm)
theorem Inv.st (h:Inv saneK w) {x:A3} (hx:x∈w.c.Txs):x.State=1\/x.State=2:=by
  rcases(h.each x hx).st with h|h
  · exact .inl h.1
  · exact .inr h.1
theorem Ai1 {α:Type} {xs:List α} {j:Int} {u:α} (h:idx xs j=some u):0<=j/\j<xs.length/\u∈xs:=by
  unfold idx at h
  by_cases h0:0<=j
  · rw[if_pos h0] at h
    obtain⟨h1,h2⟩:=zC.1 h
    exact⟨h0,by omega,h2 ▸ yY _⟩
  · rw[if_neg h0] at h;cases h
theorem Ao6 {α:Type} {xs:List α} {j:Int} {u v:α} (h:idx xs j=some u):idx (xs++[v]) j=some u:=by
  obtain⟨h0,h1,_⟩:=Ai1 h
  unfold idx at h ⊢
  rw[if_pos h0] at h ⊢
  rw[zL (by omega)];exact h
theorem Asv {α:Type} {xs:List α} {v:α}:idx (xs++[v]) (xs.length:Int)=some v:=by
  unfold idx
  rw[if_pos (xL _)]
  simp
theorem inv_nil:Inv saneK ⟨⟨[],⟨[]⟩⟩,0,[],[],[]⟩:=by
  constructor <;> first|exact Good.mk (λx h=>by simp at h) (by decide) kF|simp
theorem inv_begin (h:Inv saneK w) (ro:Bool) (hn:w.now<=maxTs) (hl:w.c.Txs.length<64) :
    Inv saneK ⟨⟨w.c.Txs++[⟨(w.begun.length:Int),w.now,0,1,false,false,ro,[]⟩],w.c.Reads⟩,w.now,w.begun++[w.now],w.did,w.read⟩:=by
  have hid:∀ x∈w.c.Txs,x.ID<w.begun.length:=λx hx=>(Ai1 (h.act x hx)).2.1
  have hdd:∀ d∈w.did,d.ID<w.begun.length:=λx hx=>(Ai1 (h.did0 x hx).2.1).2.1
  have key:∀ {P:A3->Prop},(∀ x∈w.c.Txs,P x)->P ⟨(w.begun.length:Int),w.now,0,1,false,false,ro,[]⟩->∀ x∈w.c.Txs++[⟨(w.begun.length:Int),w.now,0,1,false,false,ro,[]⟩],P x:=λh1 h2 x hx=>by
    rcases yH.1 hx with hx|hx
    · exact h1 x hx
    · rw[zV.1 hx];exact h2
  constructor
  · exact h.gr
  · intro r hr
    obtain⟨x,hx,e⟩:=h.ri r hr
    exact⟨x,wR _ hx,e⟩
  · show(w.c.Txs++_).length<=64
    rw[zH,z6];omega
  · exact key h.each ⟨xL _,⟨h.now0,hn⟩,.inl ⟨rfl,rfl,rfl⟩⟩
  · refine wS.2 ⟨h.ids,wG ..,λa ha b hb=>?_⟩
    rw[zV.1 hb]
    have:=hid a ha
    show a.ID≠w.begun.length
    omega
  · exact h.now0
  · intro b hb
    rcases yH.1 hb with hb|hb
    · exact h.beg b hb
    · rw[zV.1 hb];exact⟨h.now0,xU _⟩
  · exact key (λx hx=>Ao6 (h.act x hx)) Asv
  · exact key h.don (λe=>by cases e)
  · intro d hd
    obtain⟨h1,h2,h3⟩:=h.did0 d hd
    exact⟨h1,Ao6 h2,h3⟩
  · exact h.didE
theorem Ald (h:Inv saneK w) (p:A3->Bool) (rs:List A4) (hrs:rs.Sublist w.c.Reads.L) (hr:∀ r∈rs,∃ x∈w.c.Txs,p x=true/\x.ID=r.Tx)
    (hk:∀ r∈w.c.Reads.L,∀ x∈w.c.Txs,p x=true->x.ID=r.Tx->r∈rs) (hp:∀ x∈w.c.Txs,p x=false->x.State=2->∀ a∈w.c.Txs,p a=true->a.State=1->x.End<=a.Begin) :
    Inv saneK ⟨⟨w.c.Txs.filter p,⟨rs⟩⟩,w.now,w.begun,w.did,w.read⟩:=by
  have hm:∀ {x},x∈w.c.Txs.filter p->x∈w.c.Txs:=λhx=>(xD.1 hx).1
  constructor
  · exact⟨λx hx=>h.gr.sr x (hrs.subset hx),yO hrs.length_le h.gr.len,h.gr.nd.sublist hrs⟩
  · intro r hr'
    obtain⟨x,hx,h1,h2⟩:=hr r hr'
    exact⟨x,xD.2 ⟨hx,h1⟩,h2⟩
  · exact yO (xQ ..) h.len
  · exact λx hx=>h.each x (hm hx)
  · exact h.ids.sublist (jK ..)
  · exact h.now0
  · exact h.beg
  · exact λx hx=>h.act x (hm hx)
  · exact λx hx=>h.don x (hm hx)
  · exact h.did0
  · exact h.didE
def Sg (a:A3) (r:Bh) (x:A3):Bool:=decide (x.State=2) && !decide (x.End<=a.Begin)&&Aoe r x.Keys
def T3 (l:List A3) (a:A3) (r:Bh) (x:A3):A3 :=
  if x.ID=a.ID then { x with Out:=x.Out||l.any (Sg a r) } else if Sg a r x then { x with In:=true } else x
theorem readF_id (l:List A3) (a:A3) (r:Bh) (x:A3):(T3 l a r x).ID=x.ID/\(T3 l a r x).Begin=x.Begin/\(T3 l a r x).End=x.End/\(T3 l a r x).State=x.State/\(T3 l a r x).RO=x.RO/\(T3 l a r x).Keys=x.Keys:=by
  unfold T3
  split
  · exact⟨rfl,rfl,rfl,rfl,rfl,rfl⟩
  · split <;> exact⟨rfl,rfl,rfl,rfl,rfl,rfl⟩
theorem A0s {l:List A3} {a:A3} {r:Bh} {x:A3} (h:x.In=true):(T3 l a r x).In=true:=by
  unfold T3
  split
  · exact h
  · split
    · rfl
    · exact h
theorem Azh {l:List A3} {a:A3} {r:Bh} {x:A3} (h:x.Out=true):(T3 l a r x).Out=true:=by
  unfold T3
  split
  · show(x.Out||_)=true
    rw[h];rfl
  · split <;> exact h
theorem Aod {a:A3} {r:Bh} {x:A3}:Sg a r x=true↔x.State=2/\a.Begin<x.End/\Aoe r x.Keys=true:=by
  unfold Sg
  simp only[yD,decide_eq_true_eq,wL,decide_eq_false_iff_not]
  constructor
  · rintro⟨⟨h1,h2⟩,h3⟩;exact⟨h1,by omega,h3⟩
  · rintro⟨h1,h2,h3⟩;exact⟨⟨h1,by omega⟩,h3⟩
theorem inv_read (h:Inv saneK w) {a:A3} (ha:a∈w.c.Txs) (h1:a.State=1) (r:Bh) (rs:List A4) (hg:Good rs) (hsub:∀ x∈w.c.Reads.L,x∈rs) (hin:(⟨a.ID,r⟩:A4)∈rs) (hnew:∀ x∈rs,x∈w.c.Reads.L\/x=⟨a.ID,r⟩)
    (hno:∀ x∈w.c.Txs,Sg a r x=true->x.Out=false):Inv saneK ⟨⟨w.c.Txs.map (T3 w.c.Txs a r),⟨rs⟩⟩,w.now,w.begun,w.did,w.read++[⟨a.ID,r⟩]⟩:=by
  have key:∀ {P:A3->Prop},(∀ x∈w.c.Txs,P (T3 w.c.Txs a r x))->∀ x∈w.c.Txs.map (T3 w.c.Txs a r),P x:=λh1 x hx=>by
    obtain⟨y,hy,rfl⟩:=yN.1 hx
    exact h1 y hy
  have F:=readF_id w.c.Txs a r
  have hex:∀ {x i},x∈w.c.Txs->x.ID=i->∃ y∈w.c.Txs.map (T3 w.c.Txs a r),y.ID=i:=λ{x i} hx e=>⟨_,yN.2 ⟨x,hx,rfl⟩,by rw[(F x).1,e]⟩
  have haid:=h.act a ha
  constructor
  · exact hg
  · intro x hx
    rcases hnew x hx with hx|rfl
    · obtain⟨y,hy,e⟩:=h.ri x hx
      exact hex hy e
    · exact hex ha rfl
  · show(w.c.Txs.map _).length<=64
    rw[z2];exact h.len
  · refine key λx hx=>?_
    obtain⟨e1,e2,e3,e4,e5,e6⟩:=F x
    have:=h.each x hx
    exact⟨by rw[e1];exact this.id,by rw[e2];exact this.beg,by rw[e2,e3,e4,e5,e6];exact this.st⟩
  · refine wF.2 (h.ids.imp λ{x y} hne=>?_)
    rw[(F x).1,(F y).1];exact hne
  · exact h.now0
  · exact h.beg
  · refine key λx hx=>?_
    rw[(F x).1,(F x).2.1];exact h.act x hx
  · refine key λx hx=>?_
    obtain⟨e1,e2,e3,e4,e5,e6⟩:=F x
    rw[e1,e2,e3,e4,e6];exact h.don x hx
  · exact h.did0
  · exact h.didE
def Ww (rs:List A4) (a:A3) (K:Keys) (x:A3):Bool:=!decide (x.ID=a.ID)&&rs.any (λr=>decide (r.Tx=x.ID)&&Aoe r.Rng K) && !(decide (x.State=2)&&decide (x.End<=a.Begin))
theorem Arj {rs:List A4} {a x:A3} {K:Keys}:Ww rs a K x=true↔x.ID≠a.ID/\(∃ r∈rs,r.Tx=x.ID/\Aoe r.Rng K=true)/\(x.State=2->a.Begin<x.End):=by
  unfold Ww
  simp only[yD,w4,decide_eq_true_eq,wL,decide_eq_false_iff_not,Bool.and_eq_false_iff]
  constructor
  · rintro⟨⟨h1,h2⟩,h3⟩
    refine⟨h1,h2,λhs=>?_⟩
    rcases h3 with h3|h3
    · exact absurd hs h3
    · omega
  · rintro⟨h1,h2,h3⟩
    refine⟨⟨h1,h2⟩,?_⟩
    by_cases hs:x.State=2
    · exact .inr (by have:=h3 hs;omega)
    · exact .inl hs
def doneF (l:List A3) (rs:List A4) (a:A3) (ts:Int) (K:Keys) (x:A3):A3 :=
  if x.ID=a.ID then { x with In:=x.In||l.any (Ww rs a K),State:=2,End:=ts,Keys:=K } else if Ww rs a K x then { x with Out:=true } else x
theorem inv_done (h:Inv saneK w) {a:A3} (ha:a∈w.c.Txs) (h1:a.State=1) (K:Keys) (hts:a.Begin<w.now+1/\w.now+1<=maxTs) (hK:saneK K) (hro:¬ (a.RO=true/\K≠[]))
    (hcf:∀ x∈w.c.Txs,x.State=2->a.Begin<x.End->∀ k∈K,k∉x.Keys) (hpass:∀ x∈w.c.Txs,Ww w.c.Reads.L a K x=true->x.State=2->x.In=false)
    (hpiv:¬ ((a.In||w.c.Txs.any (Ww w.c.Reads.L a K))=true/\a.Out=true)) (d0:Ha) (e0:d0.ID=a.ID/\d0.Begin=a.Begin/\d0.End=w.now+1/\d0.Keys=K) :
    Inv saneK ⟨⟨w.c.Txs.map (doneF w.c.Txs w.c.Reads.L a (w.now+1) K),w.c.Reads⟩,w.now+1,w.begun,w.did++[d0],w.read⟩:=by
  have key:∀ {P:A3->Prop},(∀ x∈w.c.Txs,P (doneF w.c.Txs w.c.Reads.L a (w.now+1) K x))->∀ x∈w.c.Txs.map (doneF w.c.Txs w.c.Reads.L a (w.now+1) K),P x:=λh1 x hx=>by
    obtain⟨y,hy,rfl⟩:=yN.1 hx
    exact h1 y hy
  have keyD:∀ {P:Ha->Prop},(∀ x∈w.did,P x)->P d0->∀ x∈w.did++[d0],P x:=λh1 h2 x hx=>by
    rcases yH.1 hx with hx|hx
    · exact h1 x hx
    · rw[zV.1 hx];exact h2
  obtain⟨q1,q2,q3,q4⟩:=e0
  have G:∀ x,(doneF w.c.Txs w.c.Reads.L a (w.now+1) K x).ID=x.ID/\(doneF w.c.Txs w.c.Reads.L a (w.now+1) K x).Begin=x.Begin/\(doneF w.c.Txs w.c.Reads.L a (w.now+1) K x).RO=x.RO:=λx=>by
    unfold doneF
    split
    · exact⟨rfl,rfl,rfl⟩
    · split <;> exact⟨rfl,rfl,rfl⟩
  have N:∀ x∈w.c.Txs,x≠a->(doneF w.c.Txs w.c.Reads.L a (w.now+1) K x)=if Ww w.c.Reads.L a K x then { x with Out:=true } else x:=λx hx hne=>by
    unfold doneF
    rw[if_neg λe=>hne (h.one hx ha e)]
  have A:doneF w.c.Txs w.c.Reads.L a (w.now+1) K a={ a with In:=a.In||w.c.Txs.any (Ww w.c.Reads.L a K),State:=2,End:=w.now+1,Keys:=K }:=by
    unfold doneF
    rw[if_pos rfl]
  have F:∀ x∈w.c.Txs,x≠a->(doneF w.c.Txs w.c.Reads.L a (w.now+1) K x).End=x.End/\(doneF w.c.Txs w.c.Reads.L a (w.now+1) K x).State=x.State/\(doneF w.c.Txs w.c.Reads.L a (w.now+1) K x).Keys=x.Keys/\(doneF w.c.Txs w.c.Reads.L a (w.now+1) K x).In=x.In/\(x.Out=true->(doneF w.c.Txs w.c.Reads.L a (w.now+1) K x).Out=true):=λx hx hne=>by
    rw[N x hx hne]
    split
    · exact⟨rfl,rfl,rfl,rfl,λ_=>rfl⟩
    · exact⟨rfl,rfl,rfl,rfl,λh=>h⟩
  have hex:∀ {x i},x∈w.c.Txs->x.ID=i->∃ y∈w.c.Txs.map (doneF w.c.Txs w.c.Reads.L a (w.now+1) K),y.ID=i:=λ{x i} hx e=>⟨_,yN.2 ⟨x,hx,rfl⟩,by rw[(G x).1,e]⟩
  have hend:∀ d∈w.did,d.End<=w.now:=λd hd=>(h.did0 d hd).2.2.2.1
  have hdon:∀ x∈w.c.Txs.map (doneF w.c.Txs w.c.Reads.L a (w.now+1) K),x.State=2->∃ d∈w.did++[d0],d.ID=x.ID/\d.Begin=x.Begin/\d.End=x.End/\d.Keys=x.Keys:=by
    refine key λx hx hs=>?_
    by_cases hxa:x=a
    · subst hxa
      rw[A]
      exact⟨d0,wN _ (List.mem_singleton_self _),q1,q2,q3,q4⟩
    · obtain⟨f1,f2,f3,f4,f5⟩:=F x hx hxa
      rw[f2] at hs
      rw[(G x).1,(G x).2.1,f1,f3]
      obtain⟨d,hd,e⟩:=h.don x hx hs
      exact⟨d,wR _ hd,e⟩
  constructor
  · exact h.gr
  · intro r hr
    obtain⟨y,hy,e⟩:=h.ri r hr
    exact hex hy e
  · show(w.c.Txs.map _).length<=64
    rw[z2];exact h.len
  · refine key λx hx=>?_
    have he:=h.each x hx
    by_cases hxa:x=a
    · subst hxa
      rw[A]
      exact⟨he.id,he.beg,.inr ⟨rfl,hts.1,hts.2,hK,hro⟩⟩
    · obtain⟨f1,f2,f3,f4,f5⟩:=F x hx hxa
      exact⟨by rw[(G x).1];exact he.id,by rw[(G x).2.1];exact he.beg,by rw[(G x).2.1,(G x).2.2,f1,f2,f3];exact he.st⟩
  · refine wF.2 (h.ids.imp λ{x y} hne=>?_)
    rw[(G x).1,(G y).1];exact hne
  · show 0<=w.now+1
    have:=h.now0;omega
  · intro b hb
    have:=h.beg b hb
    show 0<=b/\b<=w.now+1
    omega
  · refine key λx hx=>?_
    rw[(G x).1,(G x).2.1];exact h.act x hx
  · exact hdon
  · refine keyD (λd hd=>?_) ⟨by rw[q1];exact(h.each a ha).id,by rw[q1,q2];exact h.act a ha,by rw[q2,q3];exact hts.1,by rw[q3];exact xU _,by rw[q4];exact hK⟩
    obtain⟨g1,g2,g3,g4,g5⟩:=h.did0 d hd
    exact⟨g1,g2,g3,by show d.End<=w.now+1;omega,g5⟩
  · refine wS.2 ⟨h.didE,wG ..,λx hx y hy=>?_⟩
    rw[zV.1 hy,q3]
    have:=hend x hx;omega
theorem Axo (l:List A3) (h:l.length<=1000000):Pk l=some (l.map (·.ID)):=by
  unfold Pk
  rw[Ama l (λx=>[x.ID]) (Lk l) 1 (λx=>by simp) (by omega) (λi x acc hx ha=>by
    have hlt:=(zC.1 hx).1
    unfold Lk
    dsimp only
    rw[if_pos (decide_eq_true (by omega)),Bo,hx,zA,if_pos (by rw[z6];omega),Cd (by omega) (by omega)]
    rfl) (λacc=>by
    unfold Lk
    dsimp only
    rw[if_neg (by rw[decide_eq_true_eq];omega)]),zA,Atf]
  rfl
theorem Anz {xs:Keys} (hn:xs.length<=1000000000000000000) (h:Cr xs=some true):PW xs:=by
  obtain⟨v,hv,hr⟩:=D2 (f:=Cu xs) (P:=λs=>∃ i:Nat,s=(i:Int)/\1<=i/\∀ j a b,j+1<i->xs[j]? = some a->xs[j+1]? = some b->Gm a b<0) (μ:=λs=>xs.length-s.toNat)
    (R:=λv=>match v with | .inl r=>r=false | .inr _=>∀ j a b,xs[j]? = some a->xs[j+1]? = some b->Gm a b<0) (by
    rintro _ ⟨i,rfl,h1,h2⟩
    unfold Cu
    by_cases hi:i<xs.length
    · have e1:=zB hi
      have e2:=zB (show i-1<xs.length by omega)
      rw[if_pos (decide_eq_true (by omega)),Cd (by omega) (by omega),show(i:Int)-1=((i-1:Nat):Int) from by omega,Bo,Bo,e1,e2]
      simp only[zA,Aen]
      by_cases hc:0<=Gm xs[i-1] xs[i]
      · right;right
        rw[if_pos (decide_eq_true hc)]
        exact⟨_,rfl,rfl⟩
      · left
        rw[if_neg (by rw[decide_eq_true_eq];omega)]
        refine⟨_,rfl,⟨i+1,by rw[Cd (by omega) (by omega)];rfl,by omega,λj a b hj ha hb=>?_⟩,by rw[Cd (by omega) (by omega)];omega⟩
        rcases zO (j+1) i with hlt|hge
        · exact h2 j a b hlt ha hb
        · have:j=i-1:=by omega
          subst this
          rw[show i-1+1=i from by omega] at hb
          rw[e2] at ha;rw[e1] at hb
          rw[<- zD ha,<- zD hb];omega
    · right;left
      rw[if_neg (by rw[decide_eq_true_eq];omega)]
      refine⟨_,rfl,λj a b ha hb=>h2 j a b ?_ ha hb⟩
      have:=(zC.1 hb).1
      omega) fuel 1 ⟨1,rfl,zN _,λj _ _ hj=>by omega⟩ (Co (by show xs.length-1<=_;omega))
  unfold Cr at h
  rw[hv] at h
  cases v with
  | inl r =>
    have hr:r=false:=hr
    rw[hr] at h;cases h
  | inr u =>
    have key:∀ d i a b,xs[i]? = some a->xs[i+(d+1)]? = some b->Gm a b<0:=λd=>by
      induction d with
      | zero=>exact hr
      | succ d ih =>
        intro i a b ha hb
        have hlt:=(zC.1 hb).1
        have hm:=zB (show i+(d+1)<xs.length by omega)
        have h1:=ih i a _ ha hm
        have h2:=hr _ _ _ hm (by rw[show i+(d+1)+1=i+(d+1+1) from by omega];exact hb)
        exact(Of (kP h1) (kP h2)).2 (.inl h1)
    refine yI.2 λi j hi hj hij=>?_
    refine key (j-i-1) i _ _ (zB hi) ?_
    rw[show i+(j-i-1+1)=j from by omega]
    exact zB hj
structure KS (K:Keys):Prop where
  each:∀ k∈K,1<=k.length/\k.length<=16
  pw:PW K
theorem Ano (k:List UInt8):Fa k=some (decide (1<=k.length/\k.length<=16)):=by
  unfold Fa
  by_cases h1:(1:Int)<=k.length
  · rw[if_pos (decide_eq_true h1)]
    congr 1
    rw[decide_eq_decide];omega
  · rw[if_neg (by rw[decide_eq_true_eq];exact h1),decide_eq_false (by omega)]
theorem Ux (K:Keys) (hn:K.length<=1000000000000000000):∃ b,Hy K=some b/\(b=true↔KS K):=by
  unfold Hy
  rw[A3n K (λk=>decide (1<=k.length/\k.length<=16)) false (Fg K) hn (λi x hx=>by
    have hlt:=(zC.1 hx).1
    unfold Fg
    rw[if_pos (decide_eq_true (by omega)),Bo,hx,zA,Ano,zA,Cd (by omega) (by omega)]
    cases decide (1<=x.length/\x.length<=16) <;> rfl) (by
    unfold Fg
    rw[if_neg (by rw[decide_eq_true_eq];omega)])]
  cases ha:K.all (λk=>decide (1<=k.length/\k.length<=16)) with
  | false =>
    refine⟨false,rfl,(λh=>by cases h),λh=>?_⟩
    rw[zI.2 λk hk=>decide_eq_true (h.each k hk)] at ha;cases ha
  | true =>
    show ∃ b,Hd K ()=some b/\_
    unfold Hd
    obtain⟨v,hv⟩:=sorted_some K hn
    rw[hv]
    refine⟨v,rfl,?_⟩
    constructor
    · intro h
      rw[h] at hv
      exact⟨λk hk=>of_decide_eq_true (zI.1 ha k hk),Anz hn hv⟩
    · intro h
      rw[Abf h.pw hn] at hv
      exact(zD hv).symm
theorem Ak6 {x:A3} (h:Amm x KS) (hn:x.Keys.length<=1000000000000000000):K6 x=some true:=by
  unfold K6
  have h1:=h.id
  have h2:=h.beg
  have h2':x.Begin<=1099511627776:=h2.2
  rw[if_neg (by rw[decide_eq_true_eq];omega),if_neg (by rw[decide_eq_true_eq];omega),if_neg (by rw[decide_eq_true_eq];omega)]
  unfold Mp
  rcases h.st with⟨a,b,c⟩|⟨a,b,c,d,e⟩
  · rw[if_pos (decide_eq_true a),if_pos (decide_eq_true b),c];rfl
  · have c':x.End<=1099511627776:=c
    rw[if_neg (by rw[decide_eq_true_eq];omega),if_pos (decide_eq_true a),if_pos (decide_eq_true b),if_pos (decide_eq_true c')]
    obtain⟨v,hv,hi⟩:=Ux x.Keys hn
    rw[hv,zA,hi.2 d,if_pos rfl]
    cases hro:x.RO with
    | false=>rfl
    | true =>
      have:x.Keys=[]:=by
        rcases List.eq_nil_or_concat x.Keys with h|h
        · exact h
        · exact absurd ⟨hro,by rw[show x.Keys=_ from h.choose_spec.choose_spec];simp⟩ e
      rw[if_pos rfl,this];rfl
structure SC (c:Be):Prop where
  gr:Good c.Reads.L
  ri:∀ r∈c.Reads.L,∃ x∈c.Txs,x.ID=r.Tx
  len:c.Txs.length<=64
  each:∀ x∈c.Txs,Amm x KS
  ids:c.Txs.Pairwise (λx y=>x.ID≠y.ID)
  ends:∀ x∈c.Txs,∀ y∈c.Txs,x.State=2->y.State=2->x.End=y.End->x.ID=y.ID
  keys:∀ x∈c.Txs,x.Keys.length<=16
theorem SC.one {c:Be} (h:SC c) {x y:A3} (hx:x∈c.Txs) (hy:y∈c.Txs) (e:x.ID=y.ID):x=y:=pw_eq h.ids hx hy (λn=>n e) (λn=>n e.symm)
theorem SC.st {c:Be} (h:SC c) {x:A3} (hx:x∈c.Txs):x.State=1\/x.State=2:=by
  rcases(h.each x hx).st with h|h
  · exact .inl h.1
  · exact .inr h.1
theorem Avp (a b:A3) (h1:a.ID≠b.ID) (h2:¬ (a.State=2/\b.State=2/\a.End=b.End)):O1 a b=some false:=by
  have key:∀ w,Ig a b w=some false:=λw=>by
    unfold Ig
    rw[if_neg (by rw[decide_eq_true_eq];exact h1)]
    by_cases c1:a.State=2
    · rw[if_pos (decide_eq_true c1)]
      by_cases c2:b.State=2
      · rw[if_pos (decide_eq_true c2),if_neg (by rw[decide_eq_true_eq];exact λc3=>h2 ⟨c1,c2,c3⟩)]
      · rw[if_neg (by rw[decide_eq_true_eq];exact c2)]
    · rw[if_neg (by rw[decide_eq_true_eq];exact c1)]
  unfold O1
  rw[key,key]
  split <;> rfl
theorem sane_c {c:Be} (h:SC c):Lq c=some true:=by
  unfold Lq
  have hl:=h.len
  rw[if_neg (by rw[decide_eq_true_eq];omega),show Gg c.Reads=some true from Abk h.gr,zA,if_neg (nn (by rfl))]
  unfold Qk
  rw[A4k c.Txs (K4 c) (by omega) (λi x hx=>by
    have hlt:=(zC.1 hx).1
    have hxm:=zJ hx
    unfold K4
    rw[if_pos (decide_eq_true (by omega)),Bo,hx,zA,Ak6 (h.each x hxm) (by have:=h.keys x hxm;omega),zA,if_neg (nn (by rfl)),Abl (xU _) (xL _) (by omega),zA]
    rw[show(c.Txs.drop (0:Int).toNat).take ((i:Int).toNat-(0:Int).toNat)=c.Txs.take i from rfl]
    rw[A4k (c.Txs.take i) (I7 x (c.Txs.take i)) (by rw[zK];omega) (λj y hy=>by
      have hj:=(zC.1 hy).1
      have hjl:j<i:=by rw[zK] at hj;omega
      have hy':c.Txs[j]? = some y:=by rw[List.getElem?_take_of_lt hjl] at hy;exact hy
      have hne:x.ID≠y.ID:=by
        obtain⟨p1,p2⟩:=zC.1 hy'
        obtain⟨q1,q2⟩:=zC.1 hx
        have:=yI.1 h.ids j i p1 q1 hjl
        rw[p2,q2] at this
        exact λe=>this e.symm
      unfold I7
      rw[if_pos (decide_eq_true (by omega)),Bo,hy,zA,Avp _ _ hne (λhc=>hne (h.ends x hxm y (zJ hy') hc.1 hc.2.1 hc.2.2)),zA,if_neg (nn (by rfl)),Cd (by omega) (by omega)]
      rfl) (by
      unfold I7
      rw[if_neg (by rw[decide_eq_true_eq];omega)]),zA]
    show M6 _ _=_
    unfold M6
    rw[Cd (by omega) (by omega)];rfl) (by
    unfold K4
    rw[if_neg (by rw[decide_eq_true_eq];omega)]),zA]
  show Nq _ _=_
  unfold Nq
  rw[Axo _ (by omega),zA,Aua (l:=c.Reads.L) (by have:=h.gr.len;omega) _ (by rw[z2];omega),zA]
  have:Add c.Reads.L (c.Txs.map (·.ID)) false=[]:=by
    unfold Add
    refine jX.2 λr hr=>?_
    obtain⟨x,hx,e⟩:=h.ri r hr
    rw[decide_eq_true (yN.2 ⟨x,hx,e⟩)];decide
  rw[this];rfl
theorem Avw (xs:List Int) (t:Int) (hl:xs.length<=1000000):(t∉xs/\Ew xs t=some (-1))\/∃ i:Nat,xs[i]? = some t/\Ew xs t=some (i:Int):=by
  unfold Ew
  obtain⟨v,hv,hr⟩:=D2 (f:=D5 xs t) (P:=λs=>∃ i:Nat,i<=xs.length/\s=(i:Int)/\t∉xs.take i) (μ:=λs=>xs.length-s.toNat)
    (R:=λx=>match x with | .inl r=>∃ i:Nat,xs[i]? = some t/\r=(i:Int) | .inr _=>t∉xs) (by
      rintro _ ⟨i,hi,rfl,hp⟩
      unfold D5
      rcases zO i xs.length with hlt|hge
      · have hx:=zB hlt
        rw[if_pos (decide_eq_true (by omega)),Bo,hx,zA,Cd (by omega) (by omega)]
        by_cases he:t=xs[i]
        · rw[if_pos (decide_eq_true he)]
          exact .inr (.inr ⟨_,rfl,i,by rw[hx,<- he],rfl⟩)
        · rw[if_neg (by rw[decide_eq_true_eq];exact he)]
          refine .inl ⟨_,rfl,⟨i+1,hlt,rfl,?_⟩,by simp only[zT];omega⟩
          rw[zM hlt,yH,zV]
          rintro(h|h)
          · exact hp h
          · exact he h
      · have e:i=xs.length:=by omega
        subst e
        rw[if_neg (by rw[decide_eq_true_eq];omega)]
        rw[yF] at hp
        exact .inr (.inl ⟨_,rfl,hp⟩)) fuel 0 ⟨0,zX _,rfl,by simp⟩ (Co (by show xs.length-0<=_;omega))
  rw[hv]
  cases v with
  | inl r =>
    obtain⟨i,h1,h2⟩:=hr
    refine .inr ⟨i,h1,?_⟩
    rw[h2];rfl
  | inr u=>exact .inl ⟨hr,rfl⟩
theorem V7 (c:Be) (id:Int) (hl:c.Txs.length<=1000000):((∀ x∈c.Txs,x.ID≠id)/\Hr c id=some (-1))\/∃ (i:Nat) (x:A3),c.Txs[i]? = some x/\x.ID=id/\Hr c id=some (i:Int):=by
  unfold Hr
  rw[Axo _ hl,zA]
  rcases Avw (c.Txs.map (·.ID)) id (by rw[z2];exact hl) with⟨h,e⟩|⟨i,h,e⟩
  · left
    rw[e]
    exact⟨λx hx e'=>h (yN.2 ⟨x,hx,e'⟩),rfl⟩
  · right
    rw[zP] at h
    cases hx:c.Txs[i]? with
    | none=>rw[hx] at h;cases h
    | some x =>
      rw[hx] at h
      refine⟨i,x,hx,zD h,?_⟩
      rw[e];rfl
theorem Afk {c:Be} (h:SC c) (id:Int):((∀ x∈c.Txs,x.ID=id->x.State≠1)/\Gf c id=some (-1))\/∃ (i:Nat) (x:A3),c.Txs[i]? = some x/\x.ID=id/\x.State=1/\Gf c id=some (i:Int):=by
  unfold Gf
  rcases V7 c id (by have:=h.len;omega) with⟨h1,e⟩|⟨i,x,hx,e1,e⟩
  · rw[e,zA]
    exact .inl ⟨λx hx e=>absurd e (h1 x hx),rfl⟩
  · rw[e,zA,if_neg (by rw[decide_eq_true_eq];omega),Bo,hx,zA]
    by_cases hs:x.State=1
    · rw[decide_eq_true hs]
      exact .inr ⟨i,x,hx,e1,hs,rfl⟩
    · rw[decide_eq_false hs]
      refine .inl ⟨λy hy ey=>?_,rfl⟩
      rw[h.one hy (zJ hx) (ey.trans e1.symm)]
      exact hs
abbrev cN:Be:=⟨[],⟨[]⟩⟩
theorem begin_m {c:Be} (h:SC c) (id snap:Int) (ro:Bool) (h0:0<=id) (h1:0<=snap) (h2:snap<=maxTs) :
    ((∃ x∈c.Txs,x.ID=id)/\Js c id snap ro=some (cN,7))\/((∀ x∈c.Txs,x.ID≠id)/\(64<=c.Txs.length/\Js c id snap ro=some (cN,8)\/c.Txs.length<64/\Js c id snap ro=some (⟨c.Txs++[⟨id,snap,0,1,false,false,ro,[]⟩],c.Reads⟩,0))):=by
  unfold Js
  have hl:=h.len
  rw[sane_c h,zA,if_neg (nn (by rfl)),Ak6 ⟨h0,⟨h1,h2⟩,.inl ⟨rfl,rfl,rfl⟩⟩ (by simp),zA,if_neg (nn (by rfl))]
  rcases V7 c id (by omega) with⟨h1,e⟩|⟨i,x,hx,e1,e⟩
  · right
    refine⟨h1,?_⟩
    rw[e,zA,if_neg (by decide)]
    by_cases h64:64<=c.Txs.length
    · rw[if_pos (decide_eq_true (by omega))]
      exact .inl ⟨h64,rfl⟩
    · rw[if_neg (by rw[decide_eq_true_eq];omega),Wv _ (by simp;omega) (by simp)]
      refine .inr ⟨by omega,?_⟩
      simp
  · left
    refine⟨⟨x,zJ hx,e1⟩,?_⟩
    rw[e,zA,if_pos (decide_eq_true (by omega))]
theorem Aqa (x:A3) (r:Bh) (hl:x.Keys.length<=1000000):Md x r=some (Aoe r x.Keys):=by
  unfold Md
  rw[Aol x.Keys (Ah9 r) (λ_=>true) (Fy x r) (by omega) (λi k hk=>by
    have hlt:=(zC.1 hk).1
    unfold Fy
    rw[if_pos (decide_eq_true (by omega)),Bo,hk,zA,Apz,zA,Cd (by omega) (by omega)]
    cases Ah9 r k <;> rfl) (by
    unfold Fy
    rw[if_neg (by rw[decide_eq_true_eq];omega)]),zA]
  unfold Aoe
  cases hf:x.Keys.find? (Ah9 r) with
  | none =>
    rw[show x.Keys.any (Ah9 r)=false from jV.2 λk hk=>by have:=kQ.1 hf k hk;simpa using this];rfl
  | some k=>rw[w4.2 ⟨k,jO hf,by have:=List.find?_some hf;exact this⟩]
theorem Akq (x a:A3) (ha:a.State=1):Fb x a=some (!(decide (x.State=2)&&decide (x.End<=a.Begin))):=by
  unfold Fb Mi
  rw[if_neg (show ¬ decide (a.State=2)=true by rw[ha];decide)]
  by_cases hs:x.State=2
  · rw[if_pos (decide_eq_true hs),decide_eq_true hs,wM,zA]
    cases decide (x.End<=a.Begin) <;> rfl
  · rw[if_neg (by rw[decide_eq_true_eq];exact hs),decide_eq_false hs];rfl
theorem Aru (x a:A3) (ha:a.State=1):Fb a x=some (!(decide (x.State=2)&&decide (x.End<=a.Begin))):=by
  unfold Fb Mi
  rw[if_neg (show ¬ decide (a.State=2)=true by rw[ha];decide)]
  by_cases hs:x.State=2
  · rw[if_pos (decide_eq_true hs),decide_eq_true hs,wM,zA]
    cases decide (x.End<=a.Begin) <;> rfl
  · rw[if_neg (by rw[decide_eq_true_eq];exact hs),decide_eq_false hs];rfl
theorem Apd (l:List A3) (h:l.length<=1000000):Ea l=some l:=by
  unfold Ea
  rw[if_pos (by simp;omega)];rfl
def V6 (l:List A3) (at':Nat) (p:A3->Bool) (f:Bool->A3->A3) (g:A3->A3) (i j:Nat) (x:A3):A3 :=
  if j=at' then f ((l.take i).any p) x else if j<i/\p x=true then g x else x
theorem Af9 (l:List A3) (at':Nat) (p:A3->Bool) (f:Bool->A3->A3) (g:A3->A3) {i:Nat} {x:A3} (hx:l[i]? = some x) (hp:p x=false) (j:Nat) (y:A3) (hy:l[j]? = some y) :
    V6 l at' p f g (i+1) j y=V6 l at' p f g i j y:=by
  obtain⟨hlt,rfl⟩:=zC.1 hx
  unfold V6
  rw[zM hlt,List.any_append]
  simp only[List.any_cons,j3,hp,Bool.or_false]
  split
  · rfl
  · by_cases hji:j<i
    · simp only[show j<i+1 from by omega,hji]
    · by_cases hj:j=i
      · subst hj
        rw[hx] at hy
        rw[<- zD hy,hp];simp
      · simp only[show ¬ j<i+1 from by omega,hji]
theorem A40 (l:List A3) (a b:Nat) {x y:A3} (hne:a≠b) (hx:l[a]? = some x) (hy:l[b]? = some y) :
    F1 l (a:Int) (b:Int)=some ((l.set a { x with Out:=true }).set b { y with In:=true }):=by
  have ha:=(zC.1 hx).1
  unfold F1 L2 Lr
  rw[Bo,hx]
  simp only[zA,zT]
  rw[Bo,zZ hne,hy]
  rfl
theorem Aio (x:A3):J7 x=some (x.In&&x.Out):=by
  unfold J7
  cases x.In <;> rfl
theorem Ate {c:Be} (h:SC c) (r:Bh) {n:Nat} {a:A3} (ha:c.Txs[n]? = some a) (h1:a.State=1) :
    ∃ v,Iz (Fp r (n:Int) c.Txs) fuel (0,c.Txs)=some v /\
      (match v with
        | .inl q=>q=(cN,10)/\∃ x∈c.Txs,Sg a r x=true/\x.Out=true
        | .inr l=>l=c.Txs.map (T3 c.Txs a r)/\∀ x∈c.Txs,Sg a r x=true->x.Out=false):=by
  have hl:=h.len
  have ham:=zJ ha
  have hpa:Sg a r a=false:=by unfold Sg;rw[h1];rfl
  let F:=V6 c.Txs n (Sg a r) (λb x=>{ x with Out:=x.Out||b }) (λx=>{ x with In:=true })
  refine D2 (f:=Fp r (n:Int) c.Txs) (P:=λs=>∃ i:Nat,i<=c.Txs.length/\s.1=(i:Int)/\s.2.length=c.Txs.length/\(∀ (j:Nat) (x:A3),c.Txs[j]? = some x->s.2[j]? = some (F i j x))/\∀ x∈c.Txs.take i,Sg a r x=true->x.Out=false) (μ:=λs=>c.Txs.length-s.1.toNat) (R:=λv=>match v with
        | .inl q=>q=(cN,10)/\∃ x∈c.Txs,Sg a r x=true/\x.Out=true
        | .inr l=>l=c.Txs.map (T3 c.Txs a r)/\∀ x∈c.Txs,Sg a r x=true->x.Out=false) ?_ fuel (0,c.Txs) ⟨0,zX _,rfl,rfl,λj x hx=>?_,by simp⟩ (Co (by show c.Txs.length-0<=_;omega))
  · rintro⟨_,l⟩ ⟨i,hi,rfl,hll,hF,hno⟩
    dsimp only at hll hF
    unfold Fp
    dsimp only
    rcases zO i c.Txs.length with hlt|hge
    · have hx:=zB hlt
      generalize c.Txs[i]=x at hx
      have hxm:=zJ hx
      have hstep:Sg a r x=false->∃ s',(some (LR.cont (wI ((i:Int)+1),l)):Option (LR (Int×List A3) (List A3) (Be×Int)))=some (.cont s')/\(∃ k:Nat,k<=c.Txs.length/\s'.1=(k:Int)/\s'.2.length=c.Txs.length/\(∀ (j:Nat) (x:A3),c.Txs[j]? = some x->s'.2[j]? = some (F k j x))/\∀ x∈c.Txs.take k,Sg a r x=true->x.Out=false)/\c.Txs.length-s'.1.toNat<c.Txs.length-(i:Int).toNat:=λhp=>by
        refine⟨_,rfl,⟨i+1,hlt,by rw[Cd (by omega) (by omega)];rfl,hll,λj y hy=>?_,λy hy hpy=>?_⟩,by rw[Cd (by omega) (by omega)];omega⟩
        · show l[j]? = some (V6 _ _ _ _ _ (i+1) j y)
          rw[Af9 _ _ _ _ _ hx hp j y hy];exact hF j y hy
        · rw[zM hlt,yH,zV] at hy
          rcases hy with hy|hy
          · exact hno y hy hpy
          · rw[zB hlt] at hx
            rw[hy,zD hx,hp] at hpy;cases hpy
      rw[if_pos (decide_eq_true (by omega)),Bo,hF i x hx,zA]
      by_cases hin:i=n
      · subst hin
        have:x=a:=by rw[ha] at hx;exact(zD hx).symm
        subst this
        left
        rw[if_pos (by
          show(!decide ((F i i x).State=2))=true
          have:(F i i x).State=x.State:=by show(V6 _ _ _ _ _ i i x).State=_;unfold V6;rw[if_pos rfl]
          rw[this,h1];rfl)]
        exact hstep hpa
      · have eF:F i i x=x:=by show V6 _ _ _ _ _ i i x=_;unfold V6;rw[if_neg hin,if_neg (λe=>by omega)]
        rw[eF]
        have hFa:F i n a={ a with Out:=a.Out||(c.Txs.take i).any (Sg a r) }:=by show V6 _ _ _ _ _ i n a=_;unfold V6;rw[if_pos rfl]
        by_cases hs:x.State=2
        · rw[if_neg (by rw[decide_eq_true hs];decide),Bo,hF n a ha,zA,Akq x _ (by rw[hFa];exact h1),zA,decide_eq_true hs,wM,Bool.not_not]
          rw[show(F i n a).Begin=a.Begin from by rw[hFa]]
          by_cases he:x.End<=a.Begin
          · rw[if_pos (decide_eq_true he)]
            exact .inl (hstep (by unfold Sg;rw[decide_eq_true he];simp))
          · rw[if_neg (by rw[decide_eq_true_eq];exact he),Aqa x r (by have:=h.keys x hxm;omega),zA]
            cases hm:Aoe r x.Keys with
            | false =>
              rw[if_pos (by rfl)]
              exact .inl (hstep (by unfold Sg;rw[hm];simp))
            | true =>
              have hp:Sg a r x=true:=Aod.2 ⟨hs,by omega,hm⟩
              rw[if_neg (nn (by rfl))]
              unfold O8 Ib
              dsimp only
              rw[zA,A40 l n i (λe=>hin e.symm) (hF n a ha) (by rw[hF i x hx,eF]),zA,if_pos (by simp),Bo,zQ (by rw[xI];omega),zA,Aio,zA]
              dsimp only
              rw[wM]
              cases ho:x.Out with
              | true =>
                rw[if_pos rfl]
                exact .inr (.inr ⟨_,rfl,rfl,x,hxm,hp,ho⟩)
              | false =>
                rw[if_neg (nn (by rfl))]
                refine .inl ⟨_,rfl,⟨i+1,hlt,by rw[Cd (by omega) (by omega)];rfl,by simp [hll],λj y hy=>?_,λy hy hpy=>?_⟩,by rw[Cd (by omega) (by omega)];omega⟩
                · show(List.set _ i _)[j]? = some (V6 _ _ _ _ _ (i+1) j y)
                  have hjl:=(zC.1 hy).1
                  unfold V6
                  by_cases hji:j=i
                  · subst hji
                    rw[hx] at hy
                    have:=zD hy
                    subst this
                    rw[zQ (by rw[xI];omega),if_neg hin,if_pos ⟨by omega,hp⟩]
                    dsimp only
                    rw[ho]
                  · rw[zZ (λe=>hji e.symm)]
                    by_cases hjn:j=n
                    · subst hjn
                      rw[ha] at hy
                      have:=zD hy
                      subst this
                      rw[zQ (by omega),if_pos rfl,zM hlt,List.any_append,hFa]
                      have:c.Txs[i]=x:=by rw[zB hlt] at hx;exact zD hx
                      rw[this]
                      simp only[List.any_cons,j3,hp,Bool.or_true,Bool.true_or]
                    · rw[zZ (λe=>hjn e.symm),if_neg hjn,hF j y hy]
                      show some (V6 _ _ _ _ _ i j y)=_
                      unfold V6
                      rw[if_neg hjn]
                      by_cases hlt':j<i
                      · simp only[hlt',show j<i+1 from by omega]
                      · simp only[hlt',show ¬ j<i+1 from by omega]
                · rw[zM hlt,yH,zV] at hy
                  rcases hy with hy|hy
                  · exact hno y hy hpy
                  · rw[zB hlt] at hx
                    rw[hy,zD hx];exact ho
        · rw[if_pos (by rw[decide_eq_false hs];rfl)]
          exact .inl (hstep (by unfold Sg;rw[decide_eq_false hs];rfl))
    · have e:i=c.Txs.length:=by omega
      subst e
      rw[if_neg (by rw[decide_eq_true_eq];omega)]
      refine .inr (.inl ⟨_,rfl,?_,by rw[yF] at hno;exact hno⟩)
      apply xY
      intro j
      rw[zP]
      cases hy:c.Txs[j]? with
      | none =>
        have hy:=xR.1 hy
        exact xR.2 (by omega)
      | some y =>
        rw[hF j y hy]
        show some (V6 _ _ _ _ _ _ j y)=some (T3 _ _ _ y)
        have hjl:=(zC.1 hy).1
        unfold V6 T3
        rw[yF]
        by_cases hjn:j=n
        · subst hjn
          rw[ha] at hy
          have:=zD hy
          subst this
          rw[if_pos rfl,if_pos rfl]
        · have hne:y.ID≠a.ID:=λe=>by
            have hya:=h.one (zJ hy) ham e
            obtain⟨p1,p2⟩:=zC.1 hy
            obtain⟨q1,q2⟩:=zC.1 ha
            rcases Nat.lt_or_gt_of_ne hjn with hh|hh
            · have:=yI.1 h.ids j n p1 q1 hh
              rw[p2,q2] at this;exact this e
            · have:=yI.1 h.ids n j q1 p1 hh
              rw[p2,q2] at this;exact this e.symm
          rw[if_neg hjn,if_neg hne]
          simp only[hjl,true_and]
  · show c.Txs[j]? = some (V6 _ _ _ _ _ 0 j x)
    rw[hx]
    unfold V6
    rw[jS]
    simp only[j3,Bool.or_false,zR,false_and,if_false]
    split <;> rfl
theorem read_m {c:Be} (h:SC c) (id:Int) (r:Bh) :
    ((∀ x∈c.Txs,x.ID=id->x.State≠1)/\Gb c id r=some (cN,7)) \/
    ∃ a∈c.Txs,a.ID=id/\a.State=1 /\
      ((∃ e,(e=1\/(e=8/\128<=c.Reads.L.length))/\Gb c id r=some (cN,e)) \/
       ((∃ x∈c.Txs,Sg a r x=true/\x.Out=true)/\Gb c id r=some (cN,10)) \/
       ∃ rs,Good rs/\(∀ x∈c.Reads.L,x∈rs)/\(⟨a.ID,r⟩:A4)∈rs/\(∀ x∈rs,x∈c.Reads.L\/x=⟨a.ID,r⟩)/\rs.length<=c.Reads.L.length+1/\(∀ x∈c.Txs,Sg a r x=true->x.Out=false) /\
         Gb c id r=some (⟨c.Txs.map (T3 c.Txs a r),⟨rs⟩⟩,0)):=by
  unfold Gb
  rw[sane_c h,zA,if_neg (nn (by rfl))]
  rcases Afk h id with⟨h1,e⟩|⟨i,a,ha,e1,e2,e⟩
  · rw[e,zA]
    exact .inl ⟨h1,rfl⟩
  · right
    refine⟨a,zJ ha,e1,e2,?_⟩
    rw[e,zA,if_neg (by rw[decide_eq_true_eq];omega)]
    have hfin:∀ rs:List A4,((Ea c.Txs).bind λv4=>(Iz (Fp r (i:Int) v4) fuel (0,v4)).bind λx=>match x with | .inl r=>some r | .inr e17=>L8 ((⟨rs⟩:B3),(0:Int)) e17)=some (cN,10)/\(∃ x∈c.Txs,Sg a r x=true/\x.Out=true)\/((Ea c.Txs).bind λv4=>(Iz (Fp r (i:Int) v4) fuel (0,v4)).bind λx=>match x with | .inl r=>some r | .inr e17=>L8 ((⟨rs⟩:B3),(0:Int)) e17)=some (⟨c.Txs.map (T3 c.Txs a r),⟨rs⟩⟩,0)/\(∀ x∈c.Txs,Sg a r x=true->x.Out=false):=λrs=>by
      rw[Apd _ (by have:=h.len;omega),zA]
      obtain⟨v,hv,hr⟩:=Ate h r ha e2
      rw[hv]
      cases v with
      | inl q=>exact .inl ⟨by rw[<- hr.1];rfl,hr.2⟩
      | inr l=>exact .inr ⟨by rw[<- hr.1];rfl,hr.2⟩
    have hg:=h.gr
    subst e1
    rcases A2h (l:=c.Reads.L) (by have:=hg.len;omega) a.ID r with⟨_,hs,⟨hin,e⟩|⟨hin,⟨h128,e⟩|⟨h128,e,hg'⟩⟩⟩|⟨_,e⟩
    · rw[e,zA,if_neg (by show ¬ (!decide ((0:Int)=0))=true;decide)]
      rcases hfin c.Reads.L with⟨hh,hx⟩|⟨hh,hx⟩
      · exact .inr (.inl ⟨hx,hh⟩)
      · exact .inr (.inr ⟨c.Reads.L,hg,λx hx=>hx,hin,λx hx=>.inl hx,by omega,hx,hh⟩)
    · rw[e,zA,if_pos (by decide)]
      exact .inl ⟨8,.inr ⟨rfl,h128⟩,rfl⟩
    · rw[e,zA,if_neg (by show ¬ (!decide ((0:Int)=0))=true;decide)]
      rcases hfin (c.Reads.L++[⟨a.ID,r⟩]) with⟨hh,hx⟩|⟨hh,hx⟩
      · exact .inr (.inl ⟨hx,hh⟩)
      · refine .inr (.inr ⟨_,hg',λx hx=>wR _ hx,wN _ (List.mem_singleton_self _),λx hx=>?_,by rw[zH];exact zN _,hx,hh⟩)
        rcases yH.1 hx with hx|hx
        · exact .inl hx
        · exact .inr (zV.1 hx)
    · rw[e,zA,if_pos (by decide)]
      exact .inl ⟨1,.inl rfl,rfl⟩
theorem Ath {c:Be} (h:SC c) (a:A3) (ts:Int) (K:Keys) (hK:K.length<=1000000) :
    ∃ b,Nh c a ts K=some b/\(b=true↔a.Begin<ts/\ts<=maxTs/\KS K/\¬ (a.RO=true/\K≠[])/\∀ y∈c.Txs,y.End<ts):=by
  have hl:=h.len
  unfold Nh
  by_cases h1:ts<=a.Begin
  · rw[if_pos (decide_eq_true h1)]
    exact⟨false,rfl,(λe=>by cases e),λe=>by omega⟩
  rw[if_neg (by rw[decide_eq_true_eq];exact h1)]
  by_cases h2:1099511627776<ts
  · rw[if_pos (decide_eq_true h2)]
    exact⟨false,rfl,(λe=>by cases e),λe=>by have:ts<=1099511627776:=e.2.1;omega⟩
  rw[if_neg (by rw[decide_eq_true_eq];exact h2)]
  obtain⟨v,hv,hi⟩:=Ux K (by omega)
  rw[hv,zA]
  cases v with
  | false=>exact⟨false,rfl,(λe=>by cases e),λe=>by have:=hi.2 e.2.2.1;cases this⟩
  | true =>
  have hks:=hi.1 rfl
  rw[if_neg (nn (by rfl))]
  have hk1:∃ b,Gw c ts ()=some b/\(b=true↔∀ y∈c.Txs,y.End<ts):=by
    unfold Gw
    rw[A3n c.Txs (λy=>!decide (ts<=y.End)) false (Gq c ts) (by omega) (λi x hx=>by
      have hlt:=(zC.1 hx).1
      unfold Gq
      rw[if_pos (decide_eq_true (by omega)),Bo,hx,zA,Cd (by omega) (by omega)]
      cases decide (ts<=x.End) <;> rfl) (by
      unfold Gq
      rw[if_neg (by rw[decide_eq_true_eq];omega)])]
    cases ha:c.Txs.all (λy=>!decide (ts<=y.End)) with
    | true =>
      refine⟨true,rfl,λ_ y hy=>?_,λ_=>rfl⟩
      have:=zI.1 ha y hy
      simp only[wL,decide_eq_false_iff_not] at this
      omega
    | false =>
      refine⟨false,rfl,(λe=>by cases e),λe=>?_⟩
      rw[zI.2 λy hy=>by have:=e y hy;simp only[wL,decide_eq_false_iff_not];omega] at ha
      cases ha
  obtain⟨b,hb,hbi⟩:=hk1
  have h2':ts<=maxTs:=by show ts<=1099511627776;omega
  cases hro:a.RO with
  | false =>
    rw[if_neg (by decide),hb]
    exact⟨b,rfl,hbi.trans ⟨λe=>⟨by omega,h2',hks,λe=>(by cases e.1),e⟩,λe=>e.2.2.2.2⟩⟩
  | true =>
    rw[if_pos rfl]
    by_cases hK0:(0:Int)<K.length
    · rw[if_pos (decide_eq_true hK0)]
      refine⟨false,rfl,(λe=>by cases e),λe=>absurd ⟨rfl,λe=>?_⟩ e.2.2.2.1⟩
      rw[e] at hK0;simp at hK0
    · rw[if_neg (by rw[decide_eq_true_eq];exact hK0),hb]
      have:K=[]:=zY (by omega)
      exact⟨b,rfl,hbi.trans ⟨λe=>⟨by omega,h2',hks,λe=>e.2 this,e⟩,λe=>e.2.2.2.2⟩⟩
theorem Aly {c:Be} (h:SC c) (a:A3) (h1:a.State=1) (K:Keys) (hK:K.length<=1000000) :
    ∃ b,H8 c a K=some b/\(b=false↔∀ x∈c.Txs,x.State=2->a.Begin<x.End->∀ k∈K,k∉x.Keys):=by
  have hl:=h.len
  have hpw:∀ x∈c.Txs,x.State=2->PW x.Keys:=λx hx hs=>by
    rcases(h.each x hx).st with e|e
    · rw[hs] at e;cases e.1
    · exact e.2.2.2.1.pw
  let p:A3->Bool:=λx=>decide (x.State=2) && !decide (x.End<=a.Begin)&&K.any (λk=>hit x.Keys k)
  have hs:H8 c a K=some (c.Txs.any p):=by
    unfold H8
    rw[Aol c.Txs p (λ_=>true) (Fo c a K) (by omega) (λi x hx=>by
      have hlt:=(zC.1 hx).1
      have hxm:=zJ hx
      unfold Fo
      rw[if_pos (decide_eq_true (by omega)),Bo,hx,zA]
      by_cases hs:x.State=2
      · rw[if_neg (by rw[decide_eq_true hs];decide),Aru x a h1,zA,decide_eq_true hs,wM,Bool.not_not]
        by_cases he:x.End<=a.Begin
        · rw[if_pos (decide_eq_true he),Cd (by omega) (by omega)]
          have:p x=false:=by show(_&&_&&_)=false;rw[decide_eq_true he];simp
          rw[this];rfl
        · rw[if_neg (by rw[decide_eq_true_eq];exact he)]
          unfold Kg
          rw[Aol K (λk=>hit x.Keys k) (λ_=>true) (Fh K x) (by omega) (λj k hk=>by
            have hjl:=(zC.1 hk).1
            unfold Fh
            rw[if_pos (decide_eq_true (by omega)),Bo,hk,zA,Alg _ _ (by have:=h.keys x hxm;omega),zA,Cd (by omega) (by omega)]
            cases hit x.Keys k <;> rfl) (by
            unfold Fh
            rw[if_neg (by rw[decide_eq_true_eq];omega)]),zA]
          have hpx:p x=K.any (λk=>hit x.Keys k):=by show(_&&_&&_)=_;rw[decide_eq_true hs,decide_eq_false he];simp
          rw[hpx]
          cases hf:K.find? (λk=>hit x.Keys k) with
          | none =>
            rw[show K.any (λk=>hit x.Keys k)=false from jV.2 λk hk=>by have:=kQ.1 hf k hk;simpa using this]
            show Hg _ _=_
            unfold Hg
            rw[Cd (by omega) (by omega)];rfl
          | some k=>rw[w4.2 ⟨k,jO hf,by have:=List.find?_some hf;exact this⟩];rfl
      · rw[if_pos (by rw[decide_eq_false hs];rfl),Cd (by omega) (by omega)]
        have:p x=false:=by show(_&&_&&_)=false;rw[decide_eq_false hs];rfl
        rw[this];rfl) (by
      unfold Fo
      rw[if_neg (by rw[decide_eq_true_eq];omega)]),zA]
    cases hf:c.Txs.find? p with
    | none=>rw[show c.Txs.any p=false from jV.2 λk hk=>by have:=kQ.1 hf k hk;simpa using this];rfl
    | some k=>rw[w4.2 ⟨k,jO hf,by have:=List.find?_some hf;exact this⟩]
  refine⟨_,hs,?_⟩
  rw[jV]
  constructor
  · intro hh x hx hs he k hk hkx
    refine hh x hx ?_
    show(_&&_&&_)=true
    rw[decide_eq_true hs,decide_eq_false (by omega),w4.2 ⟨k,hk,(Ai0 (hpw x hx hs)).2 hkx⟩];rfl
  · intro hh x hx hp
    have hp:(decide (x.State=2) && !decide (x.End<=a.Begin)&&K.any (λk=>hit x.Keys k))=true:=hp
    simp only[yD,decide_eq_true_eq,wL,decide_eq_false_iff_not,w4] at hp
    obtain⟨⟨hs,he⟩,k,hk,hh'⟩:=hp
    exact hh x hx hs (by omega) k hk (Ajw hh')
def Api (rs:List A4) (K:Keys):List Int:=K.flatMap λk=>Aft (Ac7 rs k)
theorem Aka {rs:List A4} {K:Keys} {t:Int}:t∈Api rs K↔∃ r∈rs,r.Tx=t/\Aoe r.Rng K=true:=by
  unfold Api
  rw[List.mem_flatMap]
  constructor
  · rintro⟨k,hk,h⟩
    obtain⟨x,hx,h1,h2⟩:=Akv.1 h
    exact⟨x,hx,h2,Akx.2 ⟨k,hk,h1⟩⟩
  · rintro⟨r,hr,h1,h2⟩
    obtain⟨k,hk,h3⟩:=Akx.1 h2
    exact⟨k,hk,Akv.2 ⟨r,hr,h3,h1⟩⟩
theorem Alf (rs:List A4):∀ K:Keys,(Api rs K).length<=K.length*rs.length
  | []=>by simp [Api]
  | k::K=>by
    have ih:=Alf rs K
    have:=Am7 rs k
    unfold Api at ih ⊢
    rw[xB,zH,yW,jA]
    omega
theorem Ai5 {c:Be} (h:SC c) (K:Keys) (hK:K.length<=1000000):Ip c K=some (Api c.Reads.L K):=by
  have hg:=h.gr.len
  unfold Ip
  rw[Ama K (λk=>Aft (Ac7 c.Reads.L k)) (El c K) 128 (λk=>by have:=Am7 c.Reads.L k;omega) (by omega) (λi x acc hx ha=>by
    have hlt:=(zC.1 hx).1
    have:=Am7 c.Reads.L x
    unfold El
    dsimp only
    rw[if_pos (decide_eq_true (by omega)),Bo,hx,zA,Azg (l:=c.Reads.L) (by omega),zA,if_pos (by omega),Cd (by omega) (by omega)]
    rfl) (λacc=>by
    unfold El
    dsimp only
    rw[if_neg (by rw[decide_eq_true_eq];omega)]),zA]
  rfl
theorem Ark {c:Be} (h:SC c) (K:Keys) (hK:K.length<=16) {n:Nat} {a:A3} (ha:c.Txs[n]? = some a) (h1:a.State=1) :
    ∃ b l,Mc c.Txs (n:Int) (Api c.Reads.L K)=some (b,l)/\l.length=c.Txs.length /\
      (b=false->∃ x∈c.Txs,Ww c.Reads.L a K x=true/\x.State=2/\x.In=true) /\
      (b=true->(∀ (j:Nat) (x:A3),c.Txs[j]? = some x->l[j]? = some (if j=n then { x with In:=x.In||c.Txs.any (Ww c.Reads.L a K) } else if Ww c.Reads.L a K x=true then { x with Out:=true } else x))/\∀ x∈c.Txs,Ww c.Reads.L a K x=true->x.State=2->x.In=false):=by
  have hl:=h.len
  have hg:=h.gr.len
  have hrl:=Alf c.Reads.L K
  have hrl':(Api c.Reads.L K).length<=2048:=yO hrl (yO (Nat.mul_le_mul hK hg) (by decide))
  have ham:=zJ ha
  have hpa:Ww c.Reads.L a K a=false:=by unfold Ww;rw[decide_eq_true rfl];rfl
  let F:=V6 c.Txs n (Ww c.Reads.L a K) (λb x=>{ x with In:=x.In||b }) (λx=>{ x with Out:=true })
  have key:∃ v,Iz (F2 c.Txs (n:Int) (Api c.Reads.L K)) fuel (0,c.Txs)=some v /\
      (match v with
        | .inl q=>q.1=false/\q.2.length=c.Txs.length/\∃ x∈c.Txs,Ww c.Reads.L a K x=true/\x.State=2/\x.In=true
        | .inr l=>l.length=c.Txs.length/\(∀ (j:Nat) (x:A3),c.Txs[j]? = some x->l[j]? = some (F c.Txs.length j x))/\∀ x∈c.Txs,Ww c.Reads.L a K x=true->x.State=2->x.In=false):=by
    refine D2 (f:=F2 c.Txs (n:Int) (Api c.Reads.L K)) (P:=λs=>∃ i:Nat,i<=c.Txs.length/\s.1=(i:Int)/\s.2.length=c.Txs.length/\(∀ (j:Nat) (x:A3),c.Txs[j]? = some x->s.2[j]? = some (F i j x))/\∀ x∈c.Txs.take i,Ww c.Reads.L a K x=true->x.State=2->x.In=false) (μ:=λs=>c.Txs.length-s.1.toNat) (R:=λv=>match v with
        | .inl q=>q.1=false/\q.2.length=c.Txs.length/\∃ x∈c.Txs,Ww c.Reads.L a K x=true/\x.State=2/\x.In=true
        | .inr l=>l.length=c.Txs.length/\(∀ (j:Nat) (x:A3),c.Txs[j]? = some x->l[j]? = some (F c.Txs.length j x))/\∀ x∈c.Txs,Ww c.Reads.L a K x=true->x.State=2->x.In=false) ?_ fuel (0,c.Txs) ⟨0,zX _,rfl,rfl,λj x hx=>?_,by simp⟩ (Co (by show c.Txs.length-0<=_;omega))
    · rintro⟨_,l⟩ ⟨i,hi,rfl,hll,hF,hno⟩
      dsimp only at hll hF
      unfold F2
      dsimp only
      rcases zO i c.Txs.length with hlt|hge
      · have hx:=zB hlt
        generalize c.Txs[i]=x at hx
        have hxm:=zJ hx
        have htk:∀ {y},y∈c.Txs.take (i+1)->y∈c.Txs.take i\/y=x:=λ{y} hy=>by
          rw[zM hlt,yH,zV] at hy
          rcases hy with hy|hy
          · exact .inl hy
          · rw[zB hlt] at hx
            exact .inr (hy.trans (zD hx))
        have hstep:Ww c.Reads.L a K x=false->∃ s',(some (LR.cont (wI ((i:Int)+1),l)):Option (LR (Int×List A3) (List A3) (Bool×List A3)))=some (.cont s')/\(∃ k:Nat,k<=c.Txs.length/\s'.1=(k:Int)/\s'.2.length=c.Txs.length/\(∀ (j:Nat) (x:A3),c.Txs[j]? = some x->s'.2[j]? = some (F k j x))/\∀ x∈c.Txs.take k,Ww c.Reads.L a K x=true->x.State=2->x.In=false)/\c.Txs.length-s'.1.toNat<c.Txs.length-(i:Int).toNat:=λhp=>by
          refine⟨_,rfl,⟨i+1,hlt,by rw[Cd (by omega) (by omega)];rfl,hll,λj y hy=>?_,λy hy hpy=>?_⟩,by rw[Cd (by omega) (by omega)];omega⟩
          · show l[j]? = some (V6 _ _ _ _ _ (i+1) j y)
            rw[Af9 _ _ _ _ _ hx hp j y hy];exact hF j y hy
          · rcases htk hy with hy|hy
            · exact hno y hy hpy
            · rw[hy,hp] at hpy;cases hpy
        rw[if_pos (decide_eq_true (by omega)),Bo,hF i x hx,zA]
        by_cases hin:i=n
        · subst hin
          have:x=a:=by rw[ha] at hx;exact(zD hx).symm
          subst this
          left
          rw[if_pos (decide_eq_true rfl)]
          exact hstep hpa
        · have hid:x.ID≠a.ID:=λe=>by
            have hya:=h.one hxm ham e
            obtain⟨p1,p2⟩:=zC.1 hx
            obtain⟨q1,q2⟩:=zC.1 ha
            rcases Nat.lt_or_gt_of_ne hin with hh|hh
            · have:=yI.1 h.ids i n p1 q1 hh
              rw[p2,q2] at this;exact this e
            · have:=yI.1 h.ids n i q1 p1 hh
              rw[p2,q2] at this;exact this e.symm
          have eF:F i i x=x:=by show V6 _ _ _ _ _ i i x=_;unfold V6;rw[if_neg hin,if_neg (λe=>by omega)]
          rw[eF]
          have hFa:F i n a={ a with In:=a.In||(c.Txs.take i).any (Ww c.Reads.L a K) }:=by show V6 _ _ _ _ _ i n a=_;unfold V6;rw[if_pos rfl]
          rw[if_neg (by rw[decide_eq_true_eq];omega),Zk _ _ (by omega),zA]
          by_cases hc:x.ID∈Api c.Reads.L K
          · rw[decide_eq_true hc,if_neg (by decide),Bo,hF n a ha,zA,Akq x _ (by rw[hFa];exact h1),zA,Bool.not_not]
            rw[show(F i n a).Begin=a.Begin from by rw[hFa]]
            cases hb:(decide (x.State=2)&&decide (x.End<=a.Begin)) with
            | true =>
              rw[if_pos rfl]
              exact .inl (hstep (by unfold Ww;rw[hb];simp))
            | false =>
              have hp:Ww c.Reads.L a K x=true:=by
                unfold Ww
                rw[hb,decide_eq_false hid]
                obtain⟨r,hr,e1,e2⟩:=Aka.1 hc
                rw[w4.2 ⟨r,hr,by rw[decide_eq_true e1,e2];rfl⟩];rfl
              rw[if_neg (by decide)]
              unfold Ls Ib
              dsimp only
              rw[zA,A40 l i n hin (by rw[hF i x hx,eF]) (hF n a ha),zA,if_pos (by simp)]
              have hnew:∀ (j:Nat) (y:A3),c.Txs[j]? = some y->((l.set i { x with Out:=true }).set n { (F i n a) with In:=true })[j]? = some (F (i+1) j y):=λj y hy=>by
                show(List.set _ n _)[j]? = some (V6 _ _ _ _ _ (i+1) j y)
                have hjl:=(zC.1 hy).1
                unfold V6
                by_cases hjn:j=n
                · subst hjn
                  rw[ha] at hy
                  have:=zD hy
                  subst this
                  rw[zQ (by rw[xI];omega),if_pos rfl,zM hlt,List.any_append,hFa]
                  have:c.Txs[i]=x:=by rw[zB hlt] at hx;exact zD hx
                  rw[this]
                  simp only[List.any_cons,j3,hp,Bool.or_true,Bool.true_or]
                · rw[zZ (λe=>hjn e.symm)]
                  by_cases hji:j=i
                  · subst hji
                    rw[hx] at hy
                    have:=zD hy
                    subst this
                    rw[zQ (by omega),if_neg hin,if_pos ⟨by omega,hp⟩]
                  · rw[zZ (λe=>hji e.symm),if_neg hjn,hF j y hy]
                    show some (V6 _ _ _ _ _ i j y)=_
                    unfold V6
                    rw[if_neg hjn]
                    by_cases hlt':j<i
                    · simp only[hlt',show j<i+1 from by omega]
                    · simp only[hlt',show ¬ j<i+1 from by omega]
              have hgo:(x.State=2->x.In=false)->∃ s',(some (LR.cont (wI ((i:Int)+1),(l.set i { x with Out:=true }).set n { (F i n a) with In:=true })):Option (LR (Int×List A3) (List A3) (Bool×List A3)))=some (.cont s')/\(∃ k:Nat,k<=c.Txs.length/\s'.1=(k:Int)/\s'.2.length=c.Txs.length/\(∀ (j:Nat) (x:A3),c.Txs[j]? = some x->s'.2[j]? = some (F k j x))/\∀ x∈c.Txs.take k,Ww c.Reads.L a K x=true->x.State=2->x.In=false)/\c.Txs.length-s'.1.toNat<c.Txs.length-(i:Int).toNat:=λhxi=>by
                refine⟨_,rfl,⟨i+1,hlt,by rw[Cd (by omega) (by omega)];rfl,by simp [hll],hnew,λy hy hpy hsy=>?_⟩,by rw[Cd (by omega) (by omega)];omega⟩
                rcases htk hy with hy|hy
                · exact hno y hy hpy hsy
                · rw[hy] at hsy ⊢;exact hxi hsy
              by_cases hs:x.State=2
              · rw[if_pos (decide_eq_true hs),Bo,hnew i x hx,zA,Aio,zA]
                have eF':F (i+1) i x={ x with Out:=true }:=by show V6 _ _ _ _ _ (i+1) i x=_;unfold V6;rw[if_neg hin,if_pos ⟨by omega,hp⟩]
                rw[eF']
                dsimp only
                rw[Bool.and_true]
                by_cases hio:x.In=true
                · rw[if_pos hio]
                  exact .inr (.inr ⟨_,rfl,rfl,by simp [hll],x,hxm,hp,hs,hio⟩)
                · rw[if_neg hio]
                  exact .inl (hgo λ_=>by simpa using hio)
              · rw[if_neg (by rw[decide_eq_true_eq];exact hs)]
                exact .inl (hgo λe=>absurd e hs)
          · rw[decide_eq_false hc,if_pos (by rfl)]
            refine .inl (hstep ?_)
            cases hh:Ww c.Reads.L a K x with
            | false=>rfl
            | true =>
              obtain⟨_,⟨r,hr,e1,e2⟩,_⟩:=Arj.1 hh
              exact absurd (Aka.2 ⟨r,hr,e1,e2⟩) hc
      · have e:i=c.Txs.length:=by omega
        subst e
        rw[if_neg (by rw[decide_eq_true_eq];omega)]
        exact .inr (.inl ⟨_,rfl,hll,hF,by rw[yF] at hno;exact hno⟩)
    · show c.Txs[j]? = some (V6 _ _ _ _ _ 0 j x)
      rw[hx]
      unfold V6
      rw[jS]
      simp only[j3,Bool.or_false,zR,false_and,if_false]
      split <;> rfl
  obtain⟨v,hv,hr⟩:=key
  unfold Mc
  rw[hv,zA]
  cases v with
  | inl q =>
    obtain⟨b,l⟩:=q
    obtain⟨e,h2,h3⟩:=hr
    have e:b=false:=e
    subst e
    exact⟨false,l,rfl,h2,λ_=>h3,λe=>by cases e⟩
  | inr l =>
    obtain⟨h2,h3,h4⟩:=hr
    refine⟨true,l,rfl,h2,(λe=>by cases e),λ_=>⟨λj x hx=>?_,h4⟩⟩
    rw[h3 j x hx]
    show some (V6 _ _ _ _ _ _ j x)=_
    have hjl:=(zC.1 hx).1
    unfold V6
    rw[yF]
    simp only[hjl,true_and]
theorem commit_m {c:Be} (h:SC c) (id ts:Int) (K:Keys) (hK:K.length<=16) :
    ((∀ x∈c.Txs,x.ID=id->x.State≠1)/\Dy c id ts K=some (cN,7)) \/
    ∃ a∈c.Txs,a.ID=id/\a.State=1 /\
      ((¬ (a.Begin<ts/\ts<=maxTs/\KS K/\¬ (a.RO=true/\K≠[])/\∀ y∈c.Txs,y.End<ts)/\Dy c id ts K=some (cN,1)) \/
       ((a.Begin<ts/\ts<=maxTs/\KS K/\¬ (a.RO=true/\K≠[])/\∀ y∈c.Txs,y.End<ts) /\
         ((¬ (∀ x∈c.Txs,x.State=2->a.Begin<x.End->∀ k∈K,k∉x.Keys)/\Dy c id ts K=some (cN,9)) \/
          ((∀ x∈c.Txs,x.State=2->a.Begin<x.End->∀ k∈K,k∉x.Keys) /\
            (((∃ x∈c.Txs,Ww c.Reads.L a K x=true/\x.State=2/\x.In=true)\/((a.In||c.Txs.any (Ww c.Reads.L a K))=true/\a.Out=true))/\Dy c id ts K=some (cN,10) \/
             (∀ x∈c.Txs,Ww c.Reads.L a K x=true->x.State=2->x.In=false)/\¬ ((a.In||c.Txs.any (Ww c.Reads.L a K))=true/\a.Out=true)/\Dy c id ts K=some (⟨c.Txs.map (doneF c.Txs c.Reads.L a ts K),c.Reads⟩,0)))))):=by
  unfold Dy
  rw[sane_c h,zA,if_neg (nn (by rfl))]
  rcases Afk h id with⟨h1,e⟩|⟨n,a,ha,e1,h1,e⟩
  · rw[e,zA]
    exact .inl ⟨h1,rfl⟩
  right
  have ham:=zJ ha
  have hl:=h.len
  refine⟨a,ham,e1,h1,?_⟩
  rw[e,zA,if_neg (by rw[decide_eq_true_eq];omega),Bo,ha,zA]
  obtain⟨b,hb,hbi⟩:=Ath h a ts K (by omega)
  rw[hb,zA]
  cases b with
  | false=>exact .inl ⟨λhc=>(by have:=hbi.2 hc;cases this),rfl⟩
  | true =>
  right
  refine⟨hbi.1 rfl,?_⟩
  rw[if_neg (by decide),zA]
  obtain⟨b,hb,hbi⟩:=Aly h a h1 K (by omega)
  rw[hb,zA]
  cases b with
  | true=>exact .inl ⟨λhc=>(by have:=hbi.2 hc;cases this),rfl⟩
  | false =>
  right
  refine⟨hbi.1 rfl,?_⟩
  rw[if_neg (by decide),Apd _ (by omega),zA,Ai5 h K (by omega),zA]
  obtain⟨b,l,hp,hll,hf,ht⟩:=Ark h K hK ha h1
  rw[hp,zA,if_pos hll]
  cases b with
  | false=>exact .inl ⟨.inl (hf rfl),rfl⟩
  | true =>
  obtain⟨hj,hno⟩:=ht rfl
  have hln:=hj n a ha
  rw[if_pos rfl] at hln
  rw[if_neg (by simp)]
  dsimp only
  rw[Bo,hln,zA,Aio,zA]
  dsimp only
  by_cases hpv:(a.In||c.Txs.any (Ww c.Reads.L a K))=true/\a.Out=true
  · rw[if_pos (by rw[hpv.1,hpv.2];rfl)]
    exact .inl ⟨.inr hpv,rfl⟩
  · rw[if_neg (by rw[yD];exact hpv)]
    refine .inr ⟨hno,hpv,?_⟩
    have hnl:n<l.length:=(zC.1 hln).1
    unfold My
    rw[Bo,hln,zA]
    dsimp only
    rw[Bo,zT,zQ hnl,zA]
    dsimp only
    rw[Bo,zQ (by rw[xI];exact hnl),zA,j2,j2]
    congr 2
    show(Be.mk _ _)=_
    congr 1
    apply xY
    intro j
    rw[zP]
    cases hy:c.Txs[j]? with
    | none =>
      have hy:=xR.1 hy
      exact xR.2 (by rw[xI];omega)
    | some y =>
      show _=some (doneF _ _ _ _ _ y)
      unfold doneF
      by_cases hjn:j=n
      · subst hjn
        rw[ha] at hy
        have:=zD hy
        subst this
        rw[zQ hnl,if_pos rfl]
      · have hne:y.ID≠a.ID:=λe=>by
          have hya:=h.one (zJ hy) ham e
          obtain⟨p1,p2⟩:=zC.1 hy
          obtain⟨q1,q2⟩:=zC.1 ha
          rcases Nat.lt_or_gt_of_ne hjn with hh|hh
          · have:=yI.1 h.ids j n p1 q1 hh
            rw[p2,q2] at this;exact this e
          · have:=yI.1 h.ids n j q1 p1 hh
            rw[p2,q2] at this;exact this e.symm
        rw[zZ (λe=>hjn e.symm),hj j y hy,if_neg hjn,if_neg hne]
theorem Ahs {c:Be} (h:SC c) (gone:List Int) (hg:gone.length<=1000000):I3 c gone=some ⟨c.Txs.filter (λx=>!decide (x.ID∈gone)),⟨Add c.Reads.L gone false⟩⟩:=by
  have hl:=h.len
  unfold I3
  rw[Ama c.Txs (λx=>if (!decide (x.ID∈gone))=true then[x] else[]) (F3 c gone) 1 (λx=>by split <;> simp) (by omega) (λi x acc hx ha=>by
    have hlt:=(zC.1 hx).1
    unfold F3
    dsimp only
    rw[if_pos (decide_eq_true (by omega)),Bo,hx,zA,Zk _ _ hg,zA,Cd (by omega) (by omega)]
    cases decide (x.ID∈gone) with
    | true=>rw[if_neg (by decide),if_neg (by decide),xG];rfl
    | false=>rw[if_pos (by rfl),if_pos (by rw[z6];omega),if_pos (by rfl)];rfl) (λacc=>by
    unfold F3
    dsimp only
    rw[if_neg (by rw[decide_eq_true_eq];omega)]),zA,Abj,List.map_id']
  unfold L4
  rw[Aua (l:=c.Reads.L) (by have:=h.gr.len;omega) _ hg];rfl
theorem abort_m {c:Be} (h:SC c) (id:Int):((∀ x∈c.Txs,x.ID=id->x.State≠1)/\Ep c id=some c) \/
    ((∃ a∈c.Txs,a.ID=id/\a.State=1)/\Ep c id=some ⟨c.Txs.filter (λx=>!decide (x.ID∈[id])),⟨Add c.Reads.L [id] false⟩⟩):=by
  unfold Ep
  rcases Afk h id with⟨h1,e⟩|⟨n,a,ha,e1,h1,e⟩
  · rw[e,zA]
    exact .inl ⟨h1,rfl⟩
  · rw[e,zA,if_neg (by rw[decide_eq_true_eq];omega),Ahs h _ (by simp)]
    exact .inr ⟨⟨a,zJ ha,e1,h1⟩,rfl⟩
def Axg (l:List A3) (now:Int):Int:=l.foldl (λm x=>if x.State=1 then(if x.Begin<m then x.Begin else m) else m) now
theorem oldest_m (c:Be) (now:Int) (hl:c.Txs.length<=1000000):Ku c now=some (Axg c.Txs now):=by
  unfold Ku
  show(Cz _ fuel (now,((0:Nat):Int))).bind _=_
  rw[Z4 (f:=Gs c) (λ(m:Int) (i:Nat)=>(m,(i:Int))) c.Txs (λm x=>if x.State=1 then(if x.Begin<m then x.Begin else m) else m) (λm=>m) (by omega) (λacc i x hx=>by
    have hlt:=(zC.1 hx).1
    unfold Gs
    dsimp only
    rw[if_pos (decide_eq_true (by omega)),Bo,hx,zA,Cd (by omega) (by omega)]
    by_cases hs:x.State=1
    · rw[if_pos (decide_eq_true hs),if_pos hs];rfl
    · rw[if_neg (by rw[decide_eq_true_eq];exact hs),if_neg hs];rfl) (λacc=>by
    unfold Gs
    dsimp only
    rw[if_neg (by rw[decide_eq_true_eq];omega)])]
  rfl
theorem Au6 {l:List A3}:∀ {now m:Int},m<=Axg l now↔m<=now/\∀ x∈l,x.State=1->m<=x.Begin:=by
  induction l with
  | nil=>intro now m;simp [Axg]
  | cons a l ih =>
    intro now m
    show m<=Axg l _↔_
    rw[ih]
    constructor
    · rintro⟨h1,h2⟩
      have h1:m<=(if a.State=1 then(if a.Begin<now then a.Begin else now) else now):=h1
      by_cases hs:a.State=1
      · rw[if_pos hs] at h1
        split at h1
        · exact⟨by omega,λx hx h=>by
            rcases yM.1 hx with e|hx
            · rw[e];omega
            · exact h2 x hx h⟩
        · exact⟨by omega,λx hx h=>by
            rcases yM.1 hx with e|hx
            · rw[e];omega
            · exact h2 x hx h⟩
      · rw[if_neg hs] at h1
        exact⟨h1,λx hx h=>by
          rcases yM.1 hx with e|hx
          · rw[e] at h;exact absurd h hs
          · exact h2 x hx h⟩
    · rintro⟨h1,h2⟩
      refine⟨?_,λx hx h=>h2 x (yT _ hx) h⟩
      show m<=(if a.State=1 then(if a.Begin<now then a.Begin else now) else now)
      by_cases hs:a.State=1
      · have:=h2 a (yV ..) hs
        rw[if_pos hs]
        split <;> omega
      · rw[if_neg hs];exact h1
def goneV (l:List A3) (x:A3):Bool:=decide (x.State=2)&&decide (x.End<=Axg l x.End)
theorem An9 {l:List A3} {x:A3}:goneV l x=true↔x.State=2/\∀ a∈l,a.State=1->x.End<=a.Begin:=by
  unfold goneV
  rw[yD,decide_eq_true_eq,decide_eq_true_eq,Au6]
  exact⟨λh=>⟨h.1,h.2.2⟩,λh=>⟨h.1,xU _,h.2⟩⟩
theorem Aw2 {c:Be} (h:SC c):Kd c=some ⟨c.Txs.filter (λx=>!decide (x.ID∈(c.Txs.filter (goneV c.Txs)).map (·.ID))),⟨Add c.Reads.L ((c.Txs.filter (goneV c.Txs)).map (·.ID)) false⟩⟩:=by
  have hl:=h.len
  unfold Kd
  rw[Ama c.Txs (λx=>if goneV c.Txs x=true then[x.ID] else[]) (Ia c) 1 (λx=>by split <;> simp) (by omega) (λi x acc hx ha=>by
    have hlt:=(zC.1 hx).1
    unfold Ia
    dsimp only
    rw[if_pos (decide_eq_true (by omega)),Bo,hx,zA,oldest_m _ _ (by omega),zA,Cd (by omega) (by omega)]
    unfold goneV
    by_cases hs:x.State=2
    · rw[if_pos (decide_eq_true hs),decide_eq_true hs,wM]
      by_cases he:x.End<=Axg c.Txs x.End
      · rw[if_pos (decide_eq_true he),if_pos (by rw[z6];omega),if_pos (decide_eq_true he)];rfl
      · rw[if_neg (by rw[decide_eq_true_eq];exact he),if_neg (by rw[decide_eq_true_eq];exact he),xG];rfl
    · rw[if_neg (by rw[decide_eq_true_eq];exact hs),decide_eq_false hs,Bool.false_and,if_neg (by decide),xG];rfl) (λacc=>by
    unfold Ia
    dsimp only
    rw[if_neg (by rw[decide_eq_true_eq];omega)]),zA,Abj]
  unfold Oe
  rw[Ahs h _ (by rw[z2];have:=xQ (goneV c.Txs) c.Txs;omega)]
  rfl
theorem find_c (c:Be) (id:Int) (hl:c.Txs.length<=1000000):((∀ x∈c.Txs,x.ID≠id)/\∃ z,N3 c id=some (z,false))\/∃ x∈c.Txs,x.ID=id/\N3 c id=some (x,true):=by
  unfold N3
  rcases V7 c id hl with⟨h1,e⟩|⟨i,x,hx,e1,e⟩
  · rw[e]
    exact .inl ⟨h1,_,rfl⟩
  · rw[e,zA,if_neg (by rw[decide_eq_true_eq];omega),Bo,hx]
    exact .inr ⟨x,zJ hx,e1,rfl⟩
def K10 (K:Keys):Prop:=KS K/\K.length<=16
structure Bd (w:WL11) (n:Nat):Prop where
  now:w.now<=n
  beg:w.begun.length<=n
  did:w.did.length<=n
  read:w.read.length<=n
theorem Amm.to {x:A3} (h:Amm x K10):Amm x KS/\x.Keys.length<=16:=by
  refine⟨⟨h.id,h.beg,?_⟩,?_⟩
  · rcases h.st with e|⟨a,b,c,d,e⟩
    · exact .inl e
    · exact .inr ⟨a,b,c,d.1,e⟩
  · rcases h.st with⟨_,_,e⟩|⟨a,b,c,d,e⟩
    · rw[e];decide
    · exact d.2
theorem Inv.sc {w:WL11} (h:Inv K10 w):SC w.c:=by
  refine⟨h.gr,h.ri,h.len,λx hx=>(h.each x hx).to.1,h.ids,λx hx y hy h1 h2 he=>?_,λx hx=>(h.each x hx).to.2⟩
  obtain⟨d,hd,a1,a2,a3,a4⟩:=h.don x hx h1
  obtain⟨d',hd',b1,b2,b3,b4⟩:=h.don y hy h2
  have:d=d':=pw_eq h.didE hd hd' (by omega) (by omega)
  rw[<- a1,<- b1,this]
theorem inv_abort {w:WL11} (h:Inv K10 w) (id:Int):∃ c,Ep w.c id=some c/\Inv K10 { w with c:=c }/\(∀ x∈c.Txs,x∈w.c.Txs/\¬ (x.ID=id/\x.State=1)):=by
  rcases abort_m h.sc id with⟨h1,e⟩|⟨⟨a,ha,e1,h1⟩,e⟩
  · exact⟨_,e,h,λx hx=>⟨hx,λhc=>h1 x hx hc.1 hc.2⟩⟩
  · refine⟨_,e,Ald h _ _ (jK ..) (λr hr=>?_) (λr hr x hx hp e=>?_) (λx hx hp hs=>?_),λx hx=>?_⟩
    · obtain⟨hr1,hr2⟩:=Yp.1 hr
      obtain⟨x,hx,e⟩:=h.ri r hr1
      exact⟨x,hx,by rw[e,hr2];rfl,e⟩
    · rw[e] at hp
      exact Yp.2 ⟨hr,by simpa using hp⟩
    · have:x.ID=id:=by simpa using hp
      rw[h.one hx ha (this.trans e1.symm),h1] at hs;cases hs
    · obtain⟨h1,h2⟩:=xD.1 hx
      refine⟨h1,λhc=>?_⟩
      simp [hc.1] at h2
theorem inv_clean {w:WL11} (h:Inv K10 w):∃ c,Kd w.c=some c/\Inv K10 { w with c:=c }/\c=⟨w.c.Txs.filter (λx=>!goneV w.c.Txs x),⟨Add w.c.Reads.L ((w.c.Txs.filter (goneV w.c.Txs)).map (·.ID)) false⟩⟩:=by
  have hm:∀ x∈w.c.Txs,(x.ID∈(w.c.Txs.filter (goneV w.c.Txs)).map (·.ID))↔goneV w.c.Txs x=true:=λx hx=>by
    rw[yN]
    constructor
    · rintro⟨y,hy,e⟩
      obtain⟨h1,h2⟩:=xD.1 hy
      rw[<- h.one h1 hx e];exact h2
    · intro hg;exact⟨x,xD.2 ⟨hx,hg⟩,rfl⟩
  have hf:w.c.Txs.filter (λx=>!decide (x.ID∈(w.c.Txs.filter (goneV w.c.Txs)).map (·.ID)))=w.c.Txs.filter (λx=>!goneV w.c.Txs x):=by
    refine List.filter_congr λx hx=>?_
    congr 1
    cases hg:goneV w.c.Txs x with
    | true=>exact decide_eq_true ((hm x hx).2 hg)
    | false=>exact decide_eq_false λhc=>by have:=(hm x hx).1 hc;rw[hg] at this;cases this
  refine⟨_,Aw2 h.sc,?_,by rw[hf]⟩
  rw[hf]
  refine Ald h _ _ (jK ..) (λr hr=>?_) (λr hr x hx hp e=>?_) (λx hx hp hs a ha hpa h1=>?_)
  · obtain⟨hr1,hr2⟩:=Yp.1 hr
    obtain⟨x,hx,e⟩:=h.ri r hr1
    refine⟨x,hx,?_,e⟩
    have hn:¬ (x.ID∈(w.c.Txs.filter (goneV w.c.Txs)).map (·.ID)):=by rw[e];exact of_decide_eq_false hr2
    cases hg:goneV w.c.Txs x with
    | true=>exact absurd ((hm x hx).2 hg) hn
    | false=>rfl
  · refine Yp.2 ⟨hr,decide_eq_false λhc=>?_⟩
    rw[<- e] at hc
    rw[(hm x hx).1 hc] at hp;cases hp
  · have hg:goneV w.c.Txs x=true:=by simpa using hp
    exact(An9.1 hg).2 a ha h1
end Go.Proofs.YtkblaobhhoebaaaGreat.Abs.ss
