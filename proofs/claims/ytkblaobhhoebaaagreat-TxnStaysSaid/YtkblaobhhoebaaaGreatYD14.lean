/-
  What the library's functions compute.
-/
import Derived.Test.YtkblaobhhoebaaaGreatYC14
set_option linter.unusedVariables false
set_option linter.unusedSimpArgs false
namespace Go.Proofs.YtkblaobhhoebaaaGreat.Abs.ss
open Go.Proofs.YtkblaobhhoebaaaGreat.Abs.bf
structure Apo where
  Tx:Int
  Rng:Bg
structure Alt where
  ID:Int
  Begin:Int
  End:Int
  State:Int
  In:Bool
  Out:Bool
  RO:Bool
  Keys:List (List UInt8)
structure WL11 where
  c:Be
  now:Int
  begun:List Int
  did:List Alt
  read:List Apo
def Aoc (r:Bg) (l:Keys):Bool:=l.any (Afo r)
theorem Aid {r:Bg} {l:Keys}:Aoc r l=true ↔ ∃ k ∈ l,Afo r k=true:=wZ
def maxTs:Int:=1099511627776
structure Akn (x:A1) (saneK:Keys→Prop):Prop where
  id:0≤x.ID
  beg:0≤x.Begin∧x.Begin≤maxTs
  st:x.State=1∧x.End=0∧x.Keys=[]∨x.State=2∧x.Begin<x.End∧x.End≤maxTs∧saneK x.Keys∧¬ (x.RO=true∧x.Keys≠[])
structure Inv (saneK:Keys→Prop) (w:WL11):Prop where
  gr:Good w.c.Reads.L
  ri:∀ r ∈ w.c.Reads.L,∃ x ∈ w.c.Txs,x.ID=r.Tx
  len:w.c.Txs.length≤64
  each:∀ x ∈ w.c.Txs,Akn x saneK
  ids:w.c.Txs.Pairwise (fun x y=>x.ID≠y.ID)
  now0:0≤w.now
  beg:∀ b ∈ w.begun,0≤b∧b≤w.now
  act:∀ x ∈ w.c.Txs,idx w.begun x.ID=some x.Begin
  don:∀ x ∈ w.c.Txs,x.State=2→∃ d ∈ w.did,d.ID=x.ID∧d.Begin=x.Begin∧d.End=x.End∧d.Keys=x.Keys
  did0:∀ d ∈ w.did,0≤d.ID∧idx w.begun d.ID=some d.Begin∧d.Begin<d.End∧d.End≤w.now∧saneK d.Keys
  didE:w.did.Pairwise (fun a b=>a.End<b.End)
variable {saneK:Keys→Prop} {w:WL11}
theorem pw_eq {α:Type} {R:α→α→Prop} {l:List α} (h:l.Pairwise R) {x y:α} (hx:x ∈ l) (hy:y ∈ l) (h1:¬ R x y) (h2:¬ R y x):x=y:=by
  induction h with
  | nil=>simp at hx
  | cons ha _ ih =>
    rcases yN.1 hx with e1 | hx <;> rcases yN.1 hy with e2 | hy
    · rw [e1,e2]
    · exact absurd (e1 ▸ ha _ hy) h1
    · exact absurd (e2 ▸ ha _ hx) h2
    · exact ih hx hy
theorem Inv.one (h:Inv saneK w) {x y:A1} (hx:x ∈ w.c.Txs) (hy:y ∈ w.c.Txs) (e:x.ID=y.ID):x=y:=pw_eq h.ids hx hy (fun n=>n e) (fun n=>n e.symm)
theorem Agg {α:Type} {xs:List α} {j:Int} {u:α} (h:idx xs j=some u):0≤j∧j<xs.length∧u ∈ xs:=by
  unfold idx at h
  by_cases h0:0≤j
  · rw [if_pos h0] at h
    obtain ⟨h1,h2⟩:=zC.1 h
    exact ⟨h0,by omega,h2 ▸ xI _⟩
  · rw [if_neg h0] at h;cases h
theorem Amo {α:Type} {xs:List α} {j:Int} {u v:α} (h:idx xs j=some u):idx (xs++[v]) j=some u:=by
  obtain ⟨h0,h1,_⟩:=Agg h
  unfold idx at h ⊢
  rw [if_pos h0] at h ⊢
  rw [zK (by omega)];exact h
theorem Aom {α:Type} {xs:List α} {v:α}:idx (xs++[v]) (xs.length:Int)=some v:=by
  unfold idx
  rw [if_pos (xM _)]
  simp
theorem inv_nil:Inv saneK ⟨⟨[],⟨[]⟩⟩,0,[],[],[]⟩:=by
  constructor <;> first | exact Good.mk (fun x h=>by simp at h) (by decide) kG | simp
theorem inv_begin (h:Inv saneK w) (ro:Bool) (hn:w.now≤maxTs) (hl:w.c.Txs.length<64) :
    Inv saneK ⟨⟨w.c.Txs++[⟨(w.begun.length:Int),w.now,0,1,false,false,ro,[]⟩],w.c.Reads⟩,w.now,w.begun++[w.now],w.did,w.read⟩:=by
  have hid:∀ x ∈ w.c.Txs,x.ID<w.begun.length:=fun x hx=>(Agg (h.act x hx)).2.1
  have hdd:∀ d ∈ w.did,d.ID<w.begun.length:=fun x hx=>(Agg (h.did0 x hx).2.1).2.1
  have key:∀ {P:A1→Prop},(∀ x ∈ w.c.Txs,P x)→P ⟨(w.begun.length:Int),w.now,0,1,false,false,ro,[]⟩→∀ x ∈ w.c.Txs++[⟨(w.begun.length:Int),w.now,0,1,false,false,ro,[]⟩],P x:=fun h1 h2 x hx=>by
    rcases yH.1 hx with hx | hx
    · exact h1 x hx
    · rw [zT.1 hx];exact h2
  constructor
  · exact h.gr
  · intro r hr
    obtain ⟨x,hx,e⟩:=h.ri r hr
    exact ⟨x,wD _ hx,e⟩
  · show (w.c.Txs++_).length≤64
    rw [zG,yE];omega
  · exact key h.each ⟨xM _,⟨h.now0,hn⟩,.inl ⟨rfl,rfl,rfl⟩⟩
  · refine wR.2 ⟨h.ids,wJ ..,fun a ha b hb=>?_⟩
    rw [zT.1 hb]
    have:=hid a ha
    show a.ID≠w.begun.length
    omega
  · exact h.now0
  · intro b hb
    rcases yH.1 hb with hb | hb
    · exact h.beg b hb
    · rw [zT.1 hb];exact ⟨h.now0,xP _⟩
  · exact key (fun x hx=>Amo (h.act x hx)) Aom
  · exact key h.don (fun e=>by cases e)
  · intro d hd
    obtain ⟨h1,h2,h3⟩:=h.did0 d hd
    exact ⟨h1,Amo h2,h3⟩
  · exact h.didE
theorem Aiv (h:Inv saneK w) (p:A1→Bool) (rs:List Az) (hrs:rs.Sublist w.c.Reads.L) (hr:∀ r ∈ rs,∃ x ∈ w.c.Txs,p x=true∧x.ID=r.Tx)
    (hk:∀ r ∈ w.c.Reads.L,∀ x ∈ w.c.Txs,p x=true→x.ID=r.Tx→r ∈ rs) (hp:∀ x ∈ w.c.Txs,p x=false→x.State=2→∀ a ∈ w.c.Txs,p a=true→a.State=1→x.End≤a.Begin) :
    Inv saneK ⟨⟨w.c.Txs.filter p,⟨rs⟩⟩,w.now,w.begun,w.did,w.read⟩:=by
  have hm:∀ {x},x ∈ w.c.Txs.filter p→x ∈ w.c.Txs:=fun hx=>(yQ.1 hx).1
  constructor
  · exact ⟨fun x hx=>h.gr.sr x (hrs.subset hx),yO hrs.length_le h.gr.len,h.gr.nd.sublist hrs⟩
  · intro r hr'
    obtain ⟨x,hx,h1,h2⟩:=hr r hr'
    exact ⟨x,yQ.2 ⟨hx,h1⟩,h2⟩
  · exact yO (xS ..) h.len
  · exact fun x hx=>h.each x (hm hx)
  · exact h.ids.sublist (jH ..)
  · exact h.now0
  · exact h.beg
  · exact fun x hx=>h.act x (hm hx)
  · exact fun x hx=>h.don x (hm hx)
  · exact h.did0
  · exact h.didE
def Oy (a:A1) (r:Bg) (x:A1):Bool:=decide (x.State=2) && !decide (x.End≤a.Begin) && Aoc r x.Keys
def Sn (l:List A1) (a:A1) (r:Bg) (x:A1):A1 :=
  if x.ID=a.ID then { x with Out:=x.Out || l.any (Oy a r) } else if Oy a r x then { x with In:=true } else x
theorem readF_id (l:List A1) (a:A1) (r:Bg) (x:A1):(Sn l a r x).ID=x.ID∧(Sn l a r x).Begin=x.Begin∧(Sn l a r x).End=x.End∧(Sn l a r x).State=x.State∧(Sn l a r x).RO=x.RO∧(Sn l a r x).Keys=x.Keys:=by
  unfold Sn
  split
  · exact ⟨rfl,rfl,rfl,rfl,rfl,rfl⟩
  · split <;> exact ⟨rfl,rfl,rfl,rfl,rfl,rfl⟩
theorem Anm {a:A1} {r:Bg} {x:A1}:Oy a r x=true ↔ x.State=2∧a.Begin<x.End∧Aoc r x.Keys=true:=by
  unfold Oy
  simp only [yD,decide_eq_true_eq,wG,decide_eq_false_iff_not]
  constructor
  · rintro ⟨⟨h1,h2⟩,h3⟩;exact ⟨h1,by omega,h3⟩
  · rintro ⟨h1,h2,h3⟩;exact ⟨⟨h1,by omega⟩,h3⟩
theorem inv_read (h:Inv saneK w) {a:A1} (ha:a ∈ w.c.Txs) (h1:a.State=1) (r:Bg) (rs:List Az) (hg:Good rs) (hsub:∀ x ∈ w.c.Reads.L,x ∈ rs) (hin:(⟨a.ID,r⟩:Az) ∈ rs) (hnew:∀ x ∈ rs,x ∈ w.c.Reads.L∨x=⟨a.ID,r⟩)
    (hno:∀ x ∈ w.c.Txs,Oy a r x=true→x.Out=false):Inv saneK ⟨⟨w.c.Txs.map (Sn w.c.Txs a r),⟨rs⟩⟩,w.now,w.begun,w.did,w.read++[⟨a.ID,r⟩]⟩:=by
  have key:∀ {P:A1→Prop},(∀ x ∈ w.c.Txs,P (Sn w.c.Txs a r x))→∀ x ∈ w.c.Txs.map (Sn w.c.Txs a r),P x:=fun h1 x hx=>by
    obtain ⟨y,hy,rfl⟩:=yP.1 hx
    exact h1 y hy
  have F:=readF_id w.c.Txs a r
  have hex:∀ {x i},x ∈ w.c.Txs→x.ID=i→∃ y ∈ w.c.Txs.map (Sn w.c.Txs a r),y.ID=i:=fun {x i} hx e=>⟨_,yP.2 ⟨x,hx,rfl⟩,by rw [(F x).1,e]⟩
  have haid:=h.act a ha
  constructor
  · exact hg
  · intro x hx
    rcases hnew x hx with hx | rfl
    · obtain ⟨y,hy,e⟩:=h.ri x hx
      exact hex hy e
    · exact hex ha rfl
  · show (w.c.Txs.map _).length≤64
    rw [z6];exact h.len
  · refine key fun x hx=>?_
    obtain ⟨e1,e2,e3,e4,e5,e6⟩:=F x
    have:=h.each x hx
    exact ⟨by rw [e1];exact this.id,by rw [e2];exact this.beg,by rw [e2,e3,e4,e5,e6];exact this.st⟩
  · refine wH.2 (h.ids.imp fun {x y} hne=>?_)
    rw [(F x).1,(F y).1];exact hne
  · exact h.now0
  · exact h.beg
  · refine key fun x hx=>?_
    rw [(F x).1,(F x).2.1];exact h.act x hx
  · refine key fun x hx=>?_
    obtain ⟨e1,e2,e3,e4,e5,e6⟩:=F x
    rw [e1,e2,e3,e4,e6];exact h.don x hx
  · exact h.did0
  · exact h.didE
def Uw (rs:List Az) (a:A1) (K:Keys) (x:A1):Bool:=!decide (x.ID=a.ID) && rs.any (fun r=>decide (r.Tx=x.ID) && Aoc r.Rng K) && !(decide (x.State=2) && decide (x.End≤a.Begin))
theorem Ap1 {rs:List Az} {a x:A1} {K:Keys}:Uw rs a K x=true ↔ x.ID≠a.ID∧(∃ r ∈ rs,r.Tx=x.ID∧Aoc r.Rng K=true)∧(x.State=2→a.Begin<x.End):=by
  unfold Uw
  simp only [yD,wZ,decide_eq_true_eq,wG,decide_eq_false_iff_not,Bool.and_eq_false_iff]
  constructor
  · rintro ⟨⟨h1,h2⟩,h3⟩
    refine ⟨h1,h2,fun hs=>?_⟩
    rcases h3 with h3 | h3
    · exact absurd hs h3
    · omega
  · rintro ⟨h1,h2,h3⟩
    refine ⟨⟨h1,h2⟩,?_⟩
    by_cases hs:x.State=2
    · exact .inr (by have:=h3 hs;omega)
    · exact .inl hs
def doneF (l:List A1) (rs:List Az) (a:A1) (ts:Int) (K:Keys) (x:A1):A1 :=
  if x.ID=a.ID then { x with In:=x.In || l.any (Uw rs a K),State:=2,End:=ts,Keys:=K } else if Uw rs a K x then { x with Out:=true } else x
theorem inv_done (h:Inv saneK w) {a:A1} (ha:a ∈ w.c.Txs) (h1:a.State=1) (K:Keys) (hts:a.Begin<w.now+1∧w.now+1≤maxTs) (hK:saneK K) (hro:¬ (a.RO=true∧K≠[]))
    (hcf:∀ x ∈ w.c.Txs,x.State=2→a.Begin<x.End→∀ k ∈ K,k ∉ x.Keys) (hpass:∀ x ∈ w.c.Txs,Uw w.c.Reads.L a K x=true→x.State=2→x.In=false)
    (hpiv:¬ ((a.In || w.c.Txs.any (Uw w.c.Reads.L a K))=true∧a.Out=true)) (d0:Alt) (e0:d0.ID=a.ID∧d0.Begin=a.Begin∧d0.End=w.now+1∧d0.Keys=K) :
    Inv saneK ⟨⟨w.c.Txs.map (doneF w.c.Txs w.c.Reads.L a (w.now+1) K),w.c.Reads⟩,w.now+1,w.begun,w.did++[d0],w.read⟩:=by
  have key:∀ {P:A1→Prop},(∀ x ∈ w.c.Txs,P (doneF w.c.Txs w.c.Reads.L a (w.now+1) K x))→∀ x ∈ w.c.Txs.map (doneF w.c.Txs w.c.Reads.L a (w.now+1) K),P x:=fun h1 x hx=>by
    obtain ⟨y,hy,rfl⟩:=yP.1 hx
    exact h1 y hy
  have keyD:∀ {P:Alt→Prop},(∀ x ∈ w.did,P x)→P d0→∀ x ∈ w.did++[d0],P x:=fun h1 h2 x hx=>by
    rcases yH.1 hx with hx | hx
    · exact h1 x hx
    · rw [zT.1 hx];exact h2
  obtain ⟨q1,q2,q3,q4⟩:=e0
  have G:∀ x,(doneF w.c.Txs w.c.Reads.L a (w.now+1) K x).ID=x.ID∧(doneF w.c.Txs w.c.Reads.L a (w.now+1) K x).Begin=x.Begin∧(doneF w.c.Txs w.c.Reads.L a (w.now+1) K x).RO=x.RO:=fun x=>by
    unfold doneF
    split
    · exact ⟨rfl,rfl,rfl⟩
    · split <;> exact ⟨rfl,rfl,rfl⟩
  have N:∀ x ∈ w.c.Txs,x≠a→(doneF w.c.Txs w.c.Reads.L a (w.now+1) K x)=if Uw w.c.Reads.L a K x then { x with Out:=true } else x:=fun x hx hne=>by
    unfold doneF
    rw [if_neg fun e=>hne (h.one hx ha e)]
  have A:doneF w.c.Txs w.c.Reads.L a (w.now+1) K a={ a with In:=a.In || w.c.Txs.any (Uw w.c.Reads.L a K),State:=2,End:=w.now+1,Keys:=K }:=by
    unfold doneF
    rw [if_pos rfl]
  have F:∀ x ∈ w.c.Txs,x≠a→(doneF w.c.Txs w.c.Reads.L a (w.now+1) K x).End=x.End∧(doneF w.c.Txs w.c.Reads.L a (w.now+1) K x).State=x.State∧(doneF w.c.Txs w.c.Reads.L a (w.now+1) K x).Keys=x.Keys∧(doneF w.c.Txs w.c.Reads.L a (w.now+1) K x).In=x.In∧(x.Out=true→(doneF w.c.Txs w.c.Reads.L a (w.now+1) K x).Out=true):=fun x hx hne=>by
    rw [N x hx hne]
    split
    · exact ⟨rfl,rfl,rfl,rfl,fun _=>rfl⟩
    · exact ⟨rfl,rfl,rfl,rfl,fun h=>h⟩
  have hex:∀ {x i},x ∈ w.c.Txs→x.ID=i→∃ y ∈ w.c.Txs.map (doneF w.c.Txs w.c.Reads.L a (w.now+1) K),y.ID=i:=fun {x i} hx e=>⟨_,yP.2 ⟨x,hx,rfl⟩,by rw [(G x).1,e]⟩
  have hend:∀ d ∈ w.did,d.End≤w.now:=fun d hd=>(h.did0 d hd).2.2.2.1
  have hdon:∀ x ∈ w.c.Txs.map (doneF w.c.Txs w.c.Reads.L a (w.now+1) K),x.State=2→∃ d ∈ w.did++[d0],d.ID=x.ID∧d.Begin=x.Begin∧d.End=x.End∧d.Keys=x.Keys:=by
    refine key fun x hx hs=>?_
    by_cases hxa:x=a
    · subst hxa
      rw [A]
      exact ⟨d0,wF _ (jS _),q1,q2,q3,q4⟩
    · obtain ⟨f1,f2,f3,f4,f5⟩:=F x hx hxa
      rw [f2] at hs
      rw [(G x).1,(G x).2.1,f1,f3]
      obtain ⟨d,hd,e⟩:=h.don x hx hs
      exact ⟨d,wD _ hd,e⟩
  constructor
  · exact h.gr
  · intro r hr
    obtain ⟨y,hy,e⟩:=h.ri r hr
    exact hex hy e
  · show (w.c.Txs.map _).length≤64
    rw [z6];exact h.len
  · refine key fun x hx=>?_
    have he:=h.each x hx
    by_cases hxa:x=a
    · subst hxa
      rw [A]
      exact ⟨he.id,he.beg,.inr ⟨rfl,hts.1,hts.2,hK,hro⟩⟩
    · obtain ⟨f1,f2,f3,f4,f5⟩:=F x hx hxa
      exact ⟨by rw [(G x).1];exact he.id,by rw [(G x).2.1];exact he.beg,by rw [(G x).2.1,(G x).2.2,f1,f2,f3];exact he.st⟩
  · refine wH.2 (h.ids.imp fun {x y} hne=>?_)
    rw [(G x).1,(G y).1];exact hne
  · show 0≤w.now+1
    have:=h.now0;omega
  · intro b hb
    have:=h.beg b hb
    show 0≤b∧b≤w.now+1
    omega
  · refine key fun x hx=>?_
    rw [(G x).1,(G x).2.1];exact h.act x hx
  · exact hdon
  · refine keyD (fun d hd=>?_) ⟨by rw [q1];exact (h.each a ha).id,by rw [q1,q2];exact h.act a ha,by rw [q2,q3];exact hts.1,by rw [q3];exact xP _,by rw [q4];exact hK⟩
    obtain ⟨g1,g2,g3,g4,g5⟩:=h.did0 d hd
    exact ⟨g1,g2,g3,by show d.End≤w.now+1;omega,g5⟩
  · refine wR.2 ⟨h.didE,wJ ..,fun x hx y hy=>?_⟩
    rw [zT.1 hy,q3]
    have:=hend x hx;omega
theorem Avz (l:List A1) (h:l.length≤1000000):N1 l=some (l.map (·.ID)):=by
  unfold N1
  rw [Ajf l (fun x=>[x.ID]) (Kt l) 1 (fun x=>by simp) (by omega) (fun i x acc hx ha=>by
    have hlt:=(zC.1 hx).1
    unfold Kt
    dsimp only
    rw [if_pos (decide_eq_true (by omega)),Bp,hx,zA,if_pos (by rw [yE];omega),Cd (by omega) (by omega)]
    rfl) (fun acc=>by
    unfold Kt
    dsimp only
    rw [if_neg (by rw [decide_eq_true_eq];omega)]),zA,Aqj]
  rfl
theorem Alg {xs:Keys} (hn:xs.length≤1000000000000000000) (h:Cm xs=some true):PW xs:=by
  obtain ⟨v,hv,hr⟩:=Dt (f:=Co xs) (P:=fun s=>∃ i:Nat,s=(i:Int)∧1≤i∧∀ j a b,j+1<i→xs[j]? = some a→xs[j+1]? = some b→Gc a b<0) (μ:=fun s=>xs.length-s.toNat)
    (R:=fun v=>match v with | .inl r=>r=false | .inr _=>∀ j a b,xs[j]? = some a→xs[j+1]? = some b→Gc a b<0) (by
    rintro _ ⟨i,rfl,h1,h2⟩
    unfold Co
    by_cases hi:i<xs.length
    · have e1:=zB hi
      have e2:=zB (show i-1<xs.length by omega)
      rw [if_pos (decide_eq_true (by omega)),Cd (by omega) (by omega),show (i:Int)-1=((i-1:Nat):Int) from by omega,Bp,Bp,e1,e2]
      simp only [zA,Acl]
      by_cases hc:0≤Gc xs[i-1] xs[i]
      · right;right
        rw [if_pos (decide_eq_true hc)]
        exact ⟨_,rfl,rfl⟩
      · left
        rw [if_neg (by rw [decide_eq_true_eq];omega)]
        refine ⟨_,rfl,⟨i+1,by rw [Cd (by omega) (by omega)];rfl,by omega,fun j a b hj ha hb=>?_⟩,by rw [Cd (by omega) (by omega)];omega⟩
        rcases zP (j+1) i with hlt | hge
        · exact h2 j a b hlt ha hb
        · have:j=i-1:=by omega
          subst this
          rw [show i-1+1=i from by omega] at hb
          rw [e2] at ha;rw [e1] at hb
          rw [← zD ha,← zD hb];omega
    · right;left
      rw [if_neg (by rw [decide_eq_true_eq];omega)]
      refine ⟨_,rfl,fun j a b ha hb=>h2 j a b ?_ ha hb⟩
      have:=(zC.1 hb).1
      omega) fuel 1 ⟨1,rfl,zN _,fun j _ _ hj=>by omega⟩ (Ci (by show xs.length-1≤_;omega))
  unfold Cm at h
  rw [hv] at h
  cases v with
  | inl r =>
    have hr:r=false:=hr
    rw [hr] at h;cases h
  | inr u =>
    have key:∀ d i a b,xs[i]? = some a→xs[i+(d+1)]? = some b→Gc a b<0:=fun d=>by
      induction d with
      | zero=>exact hr
      | succ d ih =>
        intro i a b ha hb
        have hlt:=(zC.1 hb).1
        have hm:=zB (show i+(d+1)<xs.length by omega)
        have h1:=ih i a _ ha hm
        have h2:=hr _ _ _ hm (by rw [show i+(d+1)+1=i+(d+1+1) from by omega];exact hb)
        exact (My (kO h1) (kO h2)).2 (.inl h1)
    refine yK.2 fun i j hi hj hij=>?_
    refine key (j-i-1) i _ _ (zB hi) ?_
    rw [show i+(j-i-1+1)=j from by omega]
    exact zB hj
structure KS (K:Keys):Prop where
  each:∀ k ∈ K,1≤k.length∧k.length≤16
  pw:PW K
theorem Am9 (k:List UInt8):Ez k=some (decide (1≤k.length∧k.length≤16)):=by
  unfold Ez
  by_cases h1:(1:Int)≤k.length
  · rw [if_pos (decide_eq_true h1)]
    congr 1
    rw [decide_eq_decide];omega
  · rw [if_neg (by rw [decide_eq_true_eq];exact h1),decide_eq_false (by omega)]
theorem R8 (K:Keys) (hn:K.length≤1000000000000000000):∃ b,Hg K=some b∧(b=true ↔ KS K):=by
  unfold Hg
  rw [Ay2 K (fun k=>decide (1≤k.length∧k.length≤16)) false (E9 K) hn (fun i x hx=>by
    have hlt:=(zC.1 hx).1
    unfold E9
    rw [if_pos (decide_eq_true (by omega)),Bp,hx,zA,Am9,zA,Cd (by omega) (by omega)]
    cases decide (1≤x.length∧x.length≤16) <;> rfl) (by
    unfold E9
    rw [if_neg (by rw [decide_eq_true_eq];omega)])]
  cases ha:K.all (fun k=>decide (1≤k.length∧k.length≤16)) with
  | false =>
    refine ⟨false,rfl,(fun h=>by cases h),fun h=>?_⟩
    rw [zJ.2 fun k hk=>decide_eq_true (h.each k hk)] at ha;cases ha
  | true =>
    show ∃ b,Gy K ()=some b∧_
    unfold Gy
    obtain ⟨v,hv⟩:=sorted_some K hn
    rw [hv]
    refine ⟨v,rfl,?_⟩
    constructor
    · intro h
      rw [h] at hv
      exact ⟨fun k hk=>of_decide_eq_true (zJ.1 ha k hk),Alg hn hv⟩
    · intro h
      rw [Y7 h.pw hn] at hv
      exact (zD hv).symm
theorem Ah8 {x:A1} (h:Akn x KS) (hn:x.Keys.length≤1000000000000000000):Kf x=some true:=by
  unfold Kf
  have h1:=h.id
  have h2:=h.beg
  have h2':x.Begin≤1099511627776:=h2.2
  rw [if_neg (by rw [decide_eq_true_eq];omega),if_neg (by rw [decide_eq_true_eq];omega),if_neg (by rw [decide_eq_true_eq];omega)]
  unfold Lx
  rcases h.st with ⟨a,b,c⟩ | ⟨a,b,c,d,e⟩
  · rw [if_pos (decide_eq_true a),if_pos (decide_eq_true b),c];rfl
  · have c':x.End≤1099511627776:=c
    rw [if_neg (by rw [decide_eq_true_eq];omega),if_pos (decide_eq_true a),if_pos (decide_eq_true b),if_pos (decide_eq_true c')]
    obtain ⟨v,hv,hi⟩:=R8 x.Keys hn
    rw [hv,zA,hi.2 d,if_pos rfl]
    cases hro:x.RO with
    | false=>rfl
    | true =>
      have:x.Keys=[]:=by
        rcases List.eq_nil_or_concat x.Keys with h | h
        · exact h
        · exact absurd ⟨hro,by rw [show x.Keys=_ from h.choose_spec.choose_spec];simp⟩ e
      rw [if_pos rfl,this];rfl
structure SC (c:Be):Prop where
  gr:Good c.Reads.L
  ri:∀ r ∈ c.Reads.L,∃ x ∈ c.Txs,x.ID=r.Tx
  len:c.Txs.length≤64
  each:∀ x ∈ c.Txs,Akn x KS
  ids:c.Txs.Pairwise (fun x y=>x.ID≠y.ID)
  ends:∀ x ∈ c.Txs,∀ y ∈ c.Txs,x.State=2→y.State=2→x.End=y.End→x.ID=y.ID
  keys:∀ x ∈ c.Txs,x.Keys.length≤16
theorem SC.one {c:Be} (h:SC c) {x y:A1} (hx:x ∈ c.Txs) (hy:y ∈ c.Txs) (e:x.ID=y.ID):x=y:=pw_eq h.ids hx hy (fun n=>n e) (fun n=>n e.symm)
theorem SC.st {c:Be} (h:SC c) {x:A1} (hx:x ∈ c.Txs):x.State=1∨x.State=2:=by
  rcases (h.each x hx).st with h | h
  · exact .inl h.1
  · exact .inr h.1
theorem Ata (a b:A1) (h1:a.ID≠b.ID) (h2:¬ (a.State=2∧b.State=2∧a.End=b.End)):Nh a b=some false:=by
  have key:∀ w,He a b w=some false:=fun w=>by
    unfold He
    rw [if_neg (by rw [decide_eq_true_eq];exact h1)]
    by_cases c1:a.State=2
    · rw [if_pos (decide_eq_true c1)]
      by_cases c2:b.State=2
      · rw [if_pos (decide_eq_true c2),if_neg (by rw [decide_eq_true_eq];exact fun c3=>h2 ⟨c1,c2,c3⟩)]
      · rw [if_neg (by rw [decide_eq_true_eq];exact c2)]
    · rw [if_neg (by rw [decide_eq_true_eq];exact c1)]
  unfold Nh
  rw [key,key]
  split <;> rfl
theorem sane_c {c:Be} (h:SC c):Kw c=some true:=by
  unfold Kw
  have hl:=h.len
  rw [if_neg (by rw [decide_eq_true_eq];omega),show Gb c.Reads=some true from Abn h.gr,zA,if_neg (nn (by rfl))]
  unfold N7
  rw [Az4 c.Txs (Kk c) (by omega) (fun i x hx=>by
    have hlt:=(zC.1 hx).1
    have hxm:=zI hx
    unfold Kk
    rw [if_pos (decide_eq_true (by omega)),Bp,hx,zA,Ah8 (h.each x hxm) (by have:=h.keys x hxm;omega),zA,if_neg (nn (by rfl)),Zj (xP _) (xM _) (by omega),zA]
    rw [show (c.Txs.drop (0:Int).toNat).take ((i:Int).toNat-(0:Int).toNat)=c.Txs.take i from rfl]
    rw [Az4 (c.Txs.take i) (H9 x (c.Txs.take i)) (by rw [zL];omega) (fun j y hy=>by
      have hj:=(zC.1 hy).1
      have hjl:j<i:=by rw [zL] at hj;omega
      have hy':c.Txs[j]? = some y:=by rw [List.getElem?_take_of_lt hjl] at hy;exact hy
      have hne:x.ID≠y.ID:=by
        obtain ⟨p1,p2⟩:=zC.1 hy'
        obtain ⟨q1,q2⟩:=zC.1 hx
        have:=yK.1 h.ids j i p1 q1 hjl
        rw [p2,q2] at this
        exact fun e=>this e.symm
      unfold H9
      rw [if_pos (decide_eq_true (by omega)),Bp,hy,zA,Ata _ _ hne (fun hc=>hne (h.ends x hxm y (zI hy') hc.1 hc.2.1 hc.2.2)),zA,if_neg (nn (by rfl)),Cd (by omega) (by omega)]
      rfl) (by
      unfold H9
      rw [if_neg (by rw [decide_eq_true_eq];omega)]),zA]
    show Mh _ _=_
    unfold Mh
    rw [Cd (by omega) (by omega)];rfl) (by
    unfold Kk
    rw [if_neg (by rw [decide_eq_true_eq];omega)]),zA]
  show Mc _ _=_
  unfold Mc
  rw [Avz _ (by omega),zA,Aqs (l:=c.Reads.L) (by have:=h.gr.len;omega) _ (by rw [z6];omega),zA]
  have:Aay c.Reads.L (c.Txs.map (·.ID)) false=[]:=by
    unfold Aay
    refine jW.2 fun r hr=>?_
    obtain ⟨x,hx,e⟩:=h.ri r hr
    rw [decide_eq_true (yP.2 ⟨x,hx,e⟩)];decide
  rw [this];rfl
theorem Ash (xs:List Int) (t:Int) (hl:xs.length≤1000000):(t ∉ xs∧Es xs t=some (-1))∨∃ i:Nat,xs[i]? = some t∧Es xs t=some (i:Int):=by
  unfold Es
  obtain ⟨v,hv,hr⟩:=Dt (f:=Dy xs t) (P:=fun s=>∃ i:Nat,i≤xs.length∧s=(i:Int)∧t ∉ xs.take i) (μ:=fun s=>xs.length-s.toNat)
    (R:=fun x=>match x with | .inl r=>∃ i:Nat,xs[i]? = some t∧r=(i:Int) | .inr _=>t ∉ xs) (by
      rintro _ ⟨i,hi,rfl,hp⟩
      unfold Dy
      rcases zP i xs.length with hlt | hge
      · have hx:=zB hlt
        rw [if_pos (decide_eq_true (by omega)),Bp,hx,zA,Cd (by omega) (by omega)]
        by_cases he:t=xs[i]
        · rw [if_pos (decide_eq_true he)]
          exact .inr (.inr ⟨_,rfl,i,by rw [hx,← he],rfl⟩)
        · rw [if_neg (by rw [decide_eq_true_eq];exact he)]
          refine .inl ⟨_,rfl,⟨i+1,hlt,rfl,?_⟩,by simp only [zW];omega⟩
          rw [zM hlt,yH,zT]
          rintro (h | h)
          · exact hp h
          · exact he h
      · have e:i=xs.length:=by omega
        subst e
        rw [if_neg (by rw [decide_eq_true_eq];omega)]
        rw [yI] at hp
        exact .inr (.inl ⟨_,rfl,hp⟩)) fuel 0 ⟨0,zX _,rfl,by simp⟩ (Ci (by show xs.length-0≤_;omega))
  rw [hv]
  cases v with
  | inl r =>
    obtain ⟨i,h1,h2⟩:=hr
    refine .inr ⟨i,h1,?_⟩
    rw [h2];rfl
  | inr u=>exact .inl ⟨hr,rfl⟩
theorem Tk (c:Be) (id:Int) (hl:c.Txs.length≤1000000):((∀ x ∈ c.Txs,x.ID≠id)∧G8 c id=some (-1))∨∃ (i:Nat) (x:A1),c.Txs[i]? = some x∧x.ID=id∧G8 c id=some (i:Int):=by
  unfold G8
  rw [Avz _ hl,zA]
  rcases Ash (c.Txs.map (·.ID)) id (by rw [z6];exact hl) with ⟨h,e⟩ | ⟨i,h,e⟩
  · left
    rw [e]
    exact ⟨fun x hx e'=>h (yP.2 ⟨x,hx,e'⟩),rfl⟩
  · right
    rw [zO] at h
    cases hx:c.Txs[i]? with
    | none=>rw [hx] at h;cases h
    | some x =>
      rw [hx] at h
      refine ⟨i,x,hx,zD h,?_⟩
      rw [e];rfl
theorem Y3 {c:Be} (h:SC c) (id:Int):((∀ x ∈ c.Txs,x.ID=id→x.State≠1)∧F5 c id=some (-1))∨∃ (i:Nat) (x:A1),c.Txs[i]? = some x∧x.ID=id∧x.State=1∧F5 c id=some (i:Int):=by
  unfold F5
  rcases Tk c id (by have:=h.len;omega) with ⟨h1,e⟩ | ⟨i,x,hx,e1,e⟩
  · rw [e,zA]
    exact .inl ⟨fun x hx e=>absurd e (h1 x hx),rfl⟩
  · rw [e,zA,if_neg (by rw [decide_eq_true_eq];omega),Bp,hx,zA]
    by_cases hs:x.State=1
    · rw [decide_eq_true hs]
      exact .inr ⟨i,x,hx,e1,hs,rfl⟩
    · rw [decide_eq_false hs]
      refine .inl ⟨fun y hy ey=>?_,rfl⟩
      rw [h.one hy (zI hx) (ey.trans e1.symm)]
      exact hs
abbrev cN:Be:=⟨[],⟨[]⟩⟩
theorem begin_m {c:Be} (h:SC c) (id snap:Int) (ro:Bool) (h0:0≤id) (h1:0≤snap) (h2:snap≤maxTs) :
    ((∃ x ∈ c.Txs,x.ID=id)∧Ip c id snap ro=some (cN,7))∨((∀ x ∈ c.Txs,x.ID≠id)∧(64≤c.Txs.length∧Ip c id snap ro=some (cN,8)∨c.Txs.length<64∧Ip c id snap ro=some (⟨c.Txs++[⟨id,snap,0,1,false,false,ro,[]⟩],c.Reads⟩,0))):=by
  unfold Ip
  have hl:=h.len
  rw [sane_c h,zA,if_neg (nn (by rfl)),Ah8 ⟨h0,⟨h1,h2⟩,.inl ⟨rfl,rfl,rfl⟩⟩ (by simp),zA,if_neg (nn (by rfl))]
  rcases Tk c id (by omega) with ⟨h1,e⟩ | ⟨i,x,hx,e1,e⟩
  · right
    refine ⟨h1,?_⟩
    rw [e,zA,if_neg (by decide)]
    by_cases h64:64≤c.Txs.length
    · rw [if_pos (decide_eq_true (by omega))]
      exact .inl ⟨h64,rfl⟩
    · rw [if_neg (by rw [decide_eq_true_eq];omega),Uh _ (by simp;omega) (by simp)]
      refine .inr ⟨by omega,?_⟩
      simp
  · left
    refine ⟨⟨x,zI hx,e1⟩,?_⟩
    rw [e,zA,if_pos (decide_eq_true (by omega))]
theorem Amf (x:A1) (r:Bg) (hl:x.Keys.length≤1000000):Lc x r=some (Aoc r x.Keys):=by
  unfold Lc
  rw [Aln x.Keys (Afo r) (fun _=>true) (Fw x r) (by omega) (fun i k hk=>by
    have hlt:=(zC.1 hk).1
    unfold Fw
    rw [if_pos (decide_eq_true (by omega)),Bp,hk,zA,Als,zA,Cd (by omega) (by omega)]
    cases Afo r k <;> rfl) (by
    unfold Fw
    rw [if_neg (by rw [decide_eq_true_eq];omega)]),zA]
  unfold Aoc
  cases hf:x.Keys.find? (Afo r) with
  | none =>
    rw [show x.Keys.any (Afo r)=false from jU.2 fun k hk=>by have:=kP.1 hf k hk;simpa using this];rfl
  | some k=>rw [wZ.2 ⟨k,jL hf,by have:=List.find?_some hf;exact this⟩]
theorem Aja (x a:A1) (ha:a.State=1):E1 x a=some (!(decide (x.State=2) && decide (x.End≤a.Begin))):=by
  unfold E1 Li
  rw [if_neg (show ¬ decide (a.State=2)=true by rw [ha];decide)]
  by_cases hs:x.State=2
  · rw [if_pos (decide_eq_true hs),decide_eq_true hs,wN,zA]
    cases decide (x.End≤a.Begin) <;> rfl
  · rw [if_neg (by rw [decide_eq_true_eq];exact hs),decide_eq_false hs];rfl
theorem Api (x a:A1) (ha:a.State=1):E1 a x=some (!(decide (x.State=2) && decide (x.End≤a.Begin))):=by
  unfold E1 Li
  rw [if_neg (show ¬ decide (a.State=2)=true by rw [ha];decide)]
  by_cases hs:x.State=2
  · rw [if_pos (decide_eq_true hs),decide_eq_true hs,wN,zA]
    cases decide (x.End≤a.Begin) <;> rfl
  · rw [if_neg (by rw [decide_eq_true_eq];exact hs),decide_eq_false hs];rfl
theorem Ago (l:List A1) (h:l.length≤1000000):Cz l=some l:=by
  unfold Cz
  rw [if_pos (by simp;omega)];rfl
def Tw (l:List A1) (at':Nat) (p:A1→Bool) (f:Bool→A1→A1) (g:A1→A1) (i j:Nat) (x:A1):A1 :=
  if j=at' then f ((l.take i).any p) x else if j<i∧p x=true then g x else x
theorem Aes (l:List A1) (at':Nat) (p:A1→Bool) (f:Bool→A1→A1) (g:A1→A1) {i:Nat} {x:A1} (hx:l[i]? = some x) (hp:p x=false) (j:Nat) (y:A1) (hy:l[j]? = some y) :
    Tw l at' p f g (i+1) j y=Tw l at' p f g i j y:=by
  obtain ⟨hlt,rfl⟩:=zC.1 hx
  unfold Tw
  rw [zM hlt,List.any_append]
  simp only [List.any_cons,j6,hp,Bool.or_false]
  split
  · rfl
  · by_cases hji:j<i
    · simp only [show j<i+1 from by omega,hji]
    · by_cases hj:j=i
      · subst hj
        rw [hx] at hy
        rw [← zD hy,hp];simp
      · simp only [show ¬ j<i+1 from by omega,hji]
theorem Azw (l:List A1) (a b:Nat) {x y:A1} (hne:a≠b) (hx:l[a]? = some x) (hy:l[b]? = some y) :
    Fy l (a:Int) (b:Int)=some ((l.set a { x with Out:=true }).set b { y with In:=true }):=by
  have ha:=(zC.1 hx).1
  unfold Fy K6 Ky
  rw [Bp,hx]
  simp only [zA,zW]
  rw [Bp,zY hne,hy]
  rfl
theorem Af8 (x:A1):Jq x=some (x.In && x.Out):=by
  unfold Jq
  cases x.In <;> rfl
theorem Ahy {c:Be} (h:SC c) (r:Bg) {n:Nat} {a:A1} (ha:c.Txs[n]? = some a) (h1:a.State=1) :
    ∃ v,Lj (Dr r (n:Int) c.Txs) fuel (0,c.Txs)=some v ∧
      (match v with
        | .inl q=>q=(cN,10)∧∃ x ∈ c.Txs,Oy a r x=true∧x.Out=true
        | .inr l=>l=c.Txs.map (Sn c.Txs a r)∧∀ x ∈ c.Txs,Oy a r x=true→x.Out=false):=by
  have hl:=h.len
  have ham:=zI ha
  have hpa:Oy a r a=false:=by unfold Oy;rw [h1];rfl
  let F:=Tw c.Txs n (Oy a r) (fun b x=>{ x with Out:=x.Out || b }) (fun x=>{ x with In:=true })
  refine Dt (f:=Dr r (n:Int) c.Txs) (P:=fun s=>∃ i:Nat,i≤c.Txs.length∧s.1=(i:Int)∧s.2.length=c.Txs.length∧(∀ (j:Nat) (x:A1),c.Txs[j]? = some x→s.2[j]? = some (F i j x))∧∀ x ∈ c.Txs.take i,Oy a r x=true→x.Out=false) (μ:=fun s=>c.Txs.length-s.1.toNat) (R:=fun v=>match v with
        | .inl q=>q=(cN,10)∧∃ x ∈ c.Txs,Oy a r x=true∧x.Out=true
        | .inr l=>l=c.Txs.map (Sn c.Txs a r)∧∀ x ∈ c.Txs,Oy a r x=true→x.Out=false) ?_ fuel (0,c.Txs) ⟨0,zX _,rfl,rfl,fun j x hx=>?_,by simp⟩ (Ci (by show c.Txs.length-0≤_;omega))
  · rintro ⟨_,l⟩ ⟨i,hi,rfl,hll,hF,hno⟩
    dsimp only at hll hF
    unfold Dr
    dsimp only
    rcases zP i c.Txs.length with hlt | hge
    · have hx:=zB hlt
      generalize c.Txs[i]=x at hx
      have hxm:=zI hx
      have hstep:Oy a r x=false→∃ s',(some (LR.cont (wI ((i:Int)+1),l)):Option (LR (Int × List A1) (List A1) (Be × Int)))=some (.cont s')∧(∃ k:Nat,k≤c.Txs.length∧s'.1=(k:Int)∧s'.2.length=c.Txs.length∧(∀ (j:Nat) (x:A1),c.Txs[j]? = some x→s'.2[j]? = some (F k j x))∧∀ x ∈ c.Txs.take k,Oy a r x=true→x.Out=false)∧c.Txs.length-s'.1.toNat<c.Txs.length-(i:Int).toNat:=fun hp=>by
        refine ⟨_,rfl,⟨i+1,hlt,by rw [Cd (by omega) (by omega)];rfl,hll,fun j y hy=>?_,fun y hy hpy=>?_⟩,by rw [Cd (by omega) (by omega)];omega⟩
        · show l[j]? = some (Tw _ _ _ _ _ (i+1) j y)
          rw [Aes _ _ _ _ _ hx hp j y hy];exact hF j y hy
        · rw [zM hlt,yH,zT] at hy
          rcases hy with hy | hy
          · exact hno y hy hpy
          · rw [zB hlt] at hx
            rw [hy,zD hx,hp] at hpy;cases hpy
      rw [if_pos (decide_eq_true (by omega)),Bp,hF i x hx,zA]
      by_cases hin:i=n
      · subst hin
        have:x=a:=by rw [ha] at hx;exact (zD hx).symm
        subst this
        left
        rw [if_pos (by
          show (!decide ((F i i x).State=2))=true
          have:(F i i x).State=x.State:=by show (Tw _ _ _ _ _ i i x).State=_;unfold Tw;rw [if_pos rfl]
          rw [this,h1];rfl)]
        exact hstep hpa
      · have eF:F i i x=x:=by show Tw _ _ _ _ _ i i x=_;unfold Tw;rw [if_neg hin,if_neg (fun e=>by omega)]
        rw [eF]
        have hFa:F i n a={ a with Out:=a.Out || (c.Txs.take i).any (Oy a r) }:=by show Tw _ _ _ _ _ i n a=_;unfold Tw;rw [if_pos rfl]
        by_cases hs:x.State=2
        · rw [if_neg (by rw [decide_eq_true hs];decide),Bp,hF n a ha,zA,Aja x _ (by rw [hFa];exact h1),zA,decide_eq_true hs,wN,Bool.not_not]
          rw [show (F i n a).Begin=a.Begin from by rw [hFa]]
          by_cases he:x.End≤a.Begin
          · rw [if_pos (decide_eq_true he)]
            exact .inl (hstep (by unfold Oy;rw [decide_eq_true he];simp))
          · rw [if_neg (by rw [decide_eq_true_eq];exact he),Amf x r (by have:=h.keys x hxm;omega),zA]
            cases hm:Aoc r x.Keys with
            | false =>
              rw [if_pos (by rfl)]
              exact .inl (hstep (by unfold Oy;rw [hm];simp))
            | true =>
              have hp:Oy a r x=true:=Anm.2 ⟨hs,by omega,hm⟩
              rw [if_neg (nn (by rfl))]
              unfold Np Ha
              dsimp only
              rw [zA,Azw l n i (fun e=>hin e.symm) (hF n a ha) (by rw [hF i x hx,eF]),zA,if_pos (by simp),Bp,zR (by rw [xJ];omega),zA,Af8,zA]
              dsimp only
              rw [wN]
              cases ho:x.Out with
              | true =>
                rw [if_pos rfl]
                exact .inr (.inr ⟨_,rfl,rfl,x,hxm,hp,ho⟩)
              | false =>
                rw [if_neg (nn (by rfl))]
                refine .inl ⟨_,rfl,⟨i+1,hlt,by rw [Cd (by omega) (by omega)];rfl,by simp [hll],fun j y hy=>?_,fun y hy hpy=>?_⟩,by rw [Cd (by omega) (by omega)];omega⟩
                · show (List.set _ i _)[j]? = some (Tw _ _ _ _ _ (i+1) j y)
                  have hjl:=(zC.1 hy).1
                  unfold Tw
                  by_cases hji:j=i
                  · subst hji
                    rw [hx] at hy
                    have:=zD hy
                    subst this
                    rw [zR (by rw [xJ];omega),if_neg hin,if_pos ⟨by omega,hp⟩]
                    dsimp only
                    rw [ho]
                  · rw [zY (fun e=>hji e.symm)]
                    by_cases hjn:j=n
                    · subst hjn
                      rw [ha] at hy
                      have:=zD hy
                      subst this
                      rw [zR (by omega),if_pos rfl,zM hlt,List.any_append,hFa]
                      have:c.Txs[i]=x:=by rw [zB hlt] at hx;exact zD hx
                      rw [this]
                      simp only [List.any_cons,j6,hp,Bool.or_true,Bool.true_or]
                    · rw [zY (fun e=>hjn e.symm),if_neg hjn,hF j y hy]
                      show some (Tw _ _ _ _ _ i j y)=_
                      unfold Tw
                      rw [if_neg hjn]
                      by_cases hlt':j<i
                      · simp only [hlt',show j<i+1 from by omega]
                      · simp only [hlt',show ¬ j<i+1 from by omega]
                · rw [zM hlt,yH,zT] at hy
                  rcases hy with hy | hy
                  · exact hno y hy hpy
                  · rw [zB hlt] at hx
                    rw [hy,zD hx];exact ho
        · rw [if_pos (by rw [decide_eq_false hs];rfl)]
          exact .inl (hstep (by unfold Oy;rw [decide_eq_false hs];rfl))
    · have e:i=c.Txs.length:=by omega
      subst e
      rw [if_neg (by rw [decide_eq_true_eq];omega)]
      refine .inr (.inl ⟨_,rfl,?_,by rw [yI] at hno;exact hno⟩)
      apply xZ
      intro j
      rw [zO]
      cases hy:c.Txs[j]? with
      | none =>
        have hy:=xU.1 hy
        exact xU.2 (by omega)
      | some y =>
        rw [hF j y hy]
        show some (Tw _ _ _ _ _ _ j y)=some (Sn _ _ _ y)
        have hjl:=(zC.1 hy).1
        unfold Tw Sn
        rw [yI]
        by_cases hjn:j=n
        · subst hjn
          rw [ha] at hy
          have:=zD hy
          subst this
          rw [if_pos rfl,if_pos rfl]
        · have hne:y.ID≠a.ID:=fun e=>by
            have hya:=h.one (zI hy) ham e
            obtain ⟨p1,p2⟩:=zC.1 hy
            obtain ⟨q1,q2⟩:=zC.1 ha
            rcases Nat.lt_or_gt_of_ne hjn with hh | hh
            · have:=yK.1 h.ids j n p1 q1 hh
              rw [p2,q2] at this;exact this e
            · have:=yK.1 h.ids n j q1 p1 hh
              rw [p2,q2] at this;exact this e.symm
          rw [if_neg hjn,if_neg hne]
          simp only [hjl,true_and]
  · show c.Txs[j]? = some (Tw _ _ _ _ _ 0 j x)
    rw [hx]
    unfold Tw
    rw [jQ]
    simp only [j6,Bool.or_false,zS,false_and,if_false]
    split <;> rfl
theorem read_m {c:Be} (h:SC c) (id:Int) (r:Bg) :
    ((∀ x ∈ c.Txs,x.ID=id→x.State≠1)∧C5 c id r=some (cN,7)) ∨
    ∃ a ∈ c.Txs,a.ID=id∧a.State=1 ∧
      ((∃ e,(e=1∨(e=8∧128≤c.Reads.L.length))∧C5 c id r=some (cN,e)) ∨
       ((∃ x ∈ c.Txs,Oy a r x=true∧x.Out=true)∧C5 c id r=some (cN,10)) ∨
       ∃ rs,Good rs∧(∀ x ∈ c.Reads.L,x ∈ rs)∧(⟨a.ID,r⟩:Az) ∈ rs∧(∀ x ∈ rs,x ∈ c.Reads.L∨x=⟨a.ID,r⟩)∧rs.length≤c.Reads.L.length+1∧(∀ x ∈ c.Txs,Oy a r x=true→x.Out=false) ∧
         C5 c id r=some (⟨c.Txs.map (Sn c.Txs a r),⟨rs⟩⟩,0)):=by
  unfold C5
  rw [sane_c h,zA,if_neg (nn (by rfl))]
  rcases Y3 h id with ⟨h1,e⟩ | ⟨i,a,ha,e1,e2,e⟩
  · rw [e,zA]
    exact .inl ⟨h1,rfl⟩
  · right
    refine ⟨a,zI ha,e1,e2,?_⟩
    rw [e,zA,if_neg (by rw [decide_eq_true_eq];omega)]
    have hfin:∀ rs:List Az,((Cz c.Txs).bind fun v4=>(Lj (Dr r (i:Int) v4) fuel (0,v4)).bind fun x=>match x with | .inl r=>some r | .inr e17=>Gr ((⟨rs⟩:Bu),(0:Int)) e17)=some (cN,10)∧(∃ x ∈ c.Txs,Oy a r x=true∧x.Out=true)∨((Cz c.Txs).bind fun v4=>(Lj (Dr r (i:Int) v4) fuel (0,v4)).bind fun x=>match x with | .inl r=>some r | .inr e17=>Gr ((⟨rs⟩:Bu),(0:Int)) e17)=some (⟨c.Txs.map (Sn c.Txs a r),⟨rs⟩⟩,0)∧(∀ x ∈ c.Txs,Oy a r x=true→x.Out=false):=fun rs=>by
      rw [Ago _ (by have:=h.len;omega),zA]
      obtain ⟨v,hv,hr⟩:=Ahy h r ha e2
      rw [hv]
      cases v with
      | inl q=>exact .inl ⟨by rw [← hr.1];rfl,hr.2⟩
      | inr l=>exact .inr ⟨by rw [← hr.1];rfl,hr.2⟩
    have hg:=h.gr
    subst e1
    rcases Au8 (l:=c.Reads.L) (by have:=hg.len;omega) a.ID r with ⟨_,hs,⟨hin,e⟩ | ⟨hin,⟨h128,e⟩ | ⟨h128,e,hg'⟩⟩⟩ | ⟨_,e⟩
    · rw [e,zA,if_neg (by show ¬ (!decide ((0:Int)=0))=true;decide)]
      rcases hfin c.Reads.L with ⟨hh,hx⟩ | ⟨hh,hx⟩
      · exact .inr (.inl ⟨hx,hh⟩)
      · exact .inr (.inr ⟨c.Reads.L,hg,fun x hx=>hx,hin,fun x hx=>.inl hx,by omega,hx,hh⟩)
    · rw [e,zA,if_pos (by decide)]
      exact .inl ⟨8,.inr ⟨rfl,h128⟩,rfl⟩
    · rw [e,zA,if_neg (by show ¬ (!decide ((0:Int)=0))=true;decide)]
      rcases hfin (c.Reads.L++[⟨a.ID,r⟩]) with ⟨hh,hx⟩ | ⟨hh,hx⟩
      · exact .inr (.inl ⟨hx,hh⟩)
      · refine .inr (.inr ⟨_,hg',fun x hx=>wD _ hx,wF _ (jS _),fun x hx=>?_,by rw [zG];exact zN _,hx,hh⟩)
        rcases yH.1 hx with hx | hx
        · exact .inl hx
        · exact .inr (zT.1 hx)
    · rw [e,zA,if_pos (by decide)]
      exact .inl ⟨1,.inl rfl,rfl⟩
theorem An8 {c:Be} (h:SC c) (a:A1) (ts:Int) (K:Keys) (hK:K.length≤1000000) :
    ∃ b,Mi c a ts K=some b∧(b=true ↔ a.Begin<ts∧ts≤maxTs∧KS K∧¬ (a.RO=true∧K≠[])∧∀ y ∈ c.Txs,y.End<ts):=by
  have hl:=h.len
  unfold Mi
  by_cases h1:ts≤a.Begin
  · rw [if_pos (decide_eq_true h1)]
    exact ⟨false,rfl,(fun e=>by cases e),fun e=>by omega⟩
  rw [if_neg (by rw [decide_eq_true_eq];exact h1)]
  by_cases h2:1099511627776<ts
  · rw [if_pos (decide_eq_true h2)]
    exact ⟨false,rfl,(fun e=>by cases e),fun e=>by have:ts≤1099511627776:=e.2.1;omega⟩
  rw [if_neg (by rw [decide_eq_true_eq];exact h2)]
  obtain ⟨v,hv,hi⟩:=R8 K (by omega)
  rw [hv,zA]
  cases v with
  | false=>exact ⟨false,rfl,(fun e=>by cases e),fun e=>by have:=hi.2 e.2.2.1;cases this⟩
  | true =>
  have hks:=hi.1 rfl
  rw [if_neg (nn (by rfl))]
  have hk1:∃ b,Gf c ts ()=some b∧(b=true ↔ ∀ y ∈ c.Txs,y.End<ts):=by
    unfold Gf
    rw [Ay2 c.Txs (fun y=>!decide (ts≤y.End)) false (Gn c ts) (by omega) (fun i x hx=>by
      have hlt:=(zC.1 hx).1
      unfold Gn
      rw [if_pos (decide_eq_true (by omega)),Bp,hx,zA,Cd (by omega) (by omega)]
      cases decide (ts≤x.End) <;> rfl) (by
      unfold Gn
      rw [if_neg (by rw [decide_eq_true_eq];omega)])]
    cases ha:c.Txs.all (fun y=>!decide (ts≤y.End)) with
    | true =>
      refine ⟨true,rfl,fun _ y hy=>?_,fun _=>rfl⟩
      have:=zJ.1 ha y hy
      simp only [wG,decide_eq_false_iff_not] at this
      omega
    | false =>
      refine ⟨false,rfl,(fun e=>by cases e),fun e=>?_⟩
      rw [zJ.2 fun y hy=>by have:=e y hy;simp only [wG,decide_eq_false_iff_not];omega] at ha
      cases ha
  obtain ⟨b,hb,hbi⟩:=hk1
  have h2':ts≤maxTs:=by show ts≤1099511627776;omega
  cases hro:a.RO with
  | false =>
    rw [if_neg (by decide),hb]
    exact ⟨b,rfl,hbi.trans ⟨fun e=>⟨by omega,h2',hks,fun e=>(by cases e.1),e⟩,fun e=>e.2.2.2.2⟩⟩
  | true =>
    rw [if_pos rfl]
    by_cases hK0:(0:Int)<K.length
    · rw [if_pos (decide_eq_true hK0)]
      refine ⟨false,rfl,(fun e=>by cases e),fun e=>absurd ⟨rfl,fun e=>?_⟩ e.2.2.2.1⟩
      rw [e] at hK0;simp at hK0
    · rw [if_neg (by rw [decide_eq_true_eq];exact hK0),hb]
      have:K=[]:=zZ (by omega)
      exact ⟨b,rfl,hbi.trans ⟨fun e=>⟨by omega,h2',hks,fun e=>e.2 this,e⟩,fun e=>e.2.2.2.2⟩⟩
theorem Ajp {c:Be} (h:SC c) (a:A1) (h1:a.State=1) (K:Keys) (hK:K.length≤1000000) :
    ∃ b,Hh c a K=some b∧(b=false ↔ ∀ x ∈ c.Txs,x.State=2→a.Begin<x.End→∀ k ∈ K,k ∉ x.Keys):=by
  have hl:=h.len
  have hpw:∀ x ∈ c.Txs,x.State=2→PW x.Keys:=fun x hx hs=>by
    rcases (h.each x hx).st with e | e
    · rw [hs] at e;cases e.1
    · exact e.2.2.2.1.pw
  let p:A1→Bool:=fun x=>decide (x.State=2) && !decide (x.End≤a.Begin) && K.any (fun k=>hit x.Keys k)
  have hs:Hh c a K=some (c.Txs.any p):=by
    unfold Hh
    rw [Aln c.Txs p (fun _=>true) (E7 c a K) (by omega) (fun i x hx=>by
      have hlt:=(zC.1 hx).1
      have hxm:=zI hx
      unfold E7
      rw [if_pos (decide_eq_true (by omega)),Bp,hx,zA]
      by_cases hs:x.State=2
      · rw [if_neg (by rw [decide_eq_true hs];decide),Api x a h1,zA,decide_eq_true hs,wN,Bool.not_not]
        by_cases he:x.End≤a.Begin
        · rw [if_pos (decide_eq_true he),Cd (by omega) (by omega)]
          have:p x=false:=by show (_ && _ && _)=false;rw [decide_eq_true he];simp
          rw [this];rfl
        · rw [if_neg (by rw [decide_eq_true_eq];exact he)]
          unfold J0
          rw [Aln K (fun k=>hit x.Keys k) (fun _=>true) (E6 K x) (by omega) (fun j k hk=>by
            have hjl:=(zC.1 hk).1
            unfold E6
            rw [if_pos (decide_eq_true (by omega)),Bp,hk,zA,Ajb _ _ (by have:=h.keys x hxm;omega),zA,Cd (by omega) (by omega)]
            cases hit x.Keys k <;> rfl) (by
            unfold E6
            rw [if_neg (by rw [decide_eq_true_eq];omega)]),zA]
          have hpx:p x=K.any (fun k=>hit x.Keys k):=by show (_ && _ && _)=_;rw [decide_eq_true hs,decide_eq_false he];simp
          rw [hpx]
          cases hf:K.find? (fun k=>hit x.Keys k) with
          | none =>
            rw [show K.any (fun k=>hit x.Keys k)=false from jU.2 fun k hk=>by have:=kP.1 hf k hk;simpa using this]
            show Gv _ _=_
            unfold Gv
            rw [Cd (by omega) (by omega)];rfl
          | some k=>rw [wZ.2 ⟨k,jL hf,by have:=List.find?_some hf;exact this⟩];rfl
      · rw [if_pos (by rw [decide_eq_false hs];rfl),Cd (by omega) (by omega)]
        have:p x=false:=by show (_ && _ && _)=false;rw [decide_eq_false hs];rfl
        rw [this];rfl) (by
      unfold E7
      rw [if_neg (by rw [decide_eq_true_eq];omega)]),zA]
    cases hf:c.Txs.find? p with
    | none=>rw [show c.Txs.any p=false from jU.2 fun k hk=>by have:=kP.1 hf k hk;simpa using this];rfl
    | some k=>rw [wZ.2 ⟨k,jL hf,by have:=List.find?_some hf;exact this⟩]
  refine ⟨_,hs,?_⟩
  rw [jU]
  constructor
  · intro hh x hx hs he k hk hkx
    refine hh x hx ?_
    show (_ && _ && _)=true
    rw [decide_eq_true hs,decide_eq_false (by omega),wZ.2 ⟨k,hk,(Ag0 (hpw x hx hs)).2 hkx⟩];rfl
  · intro hh x hx hp
    have hp:(decide (x.State=2) && !decide (x.End≤a.Begin) && K.any (fun k=>hit x.Keys k))=true:=hp
    simp only [yD,decide_eq_true_eq,wG,decide_eq_false_iff_not,wZ] at hp
    obtain ⟨⟨hs,he⟩,k,hk,hh'⟩:=hp
    exact hh x hx hs (by omega) k hk (Agm hh')
def Al1 (rs:List Az) (K:Keys):List Int:=K.flatMap fun k=>Adq (Aam rs k)
theorem Ait {rs:List Az} {K:Keys} {t:Int}:t ∈ Al1 rs K ↔ ∃ r ∈ rs,r.Tx=t∧Aoc r.Rng K=true:=by
  unfold Al1
  rw [jX]
  constructor
  · rintro ⟨k,hk,h⟩
    obtain ⟨x,hx,h1,h2⟩:=Aib.1 h
    exact ⟨x,hx,h2,Aid.2 ⟨k,hk,h1⟩⟩
  · rintro ⟨r,hr,h1,h2⟩
    obtain ⟨k,hk,h3⟩:=Aid.1 h2
    exact ⟨k,hk,Aib.2 ⟨r,hr,h3,h1⟩⟩
theorem Ah4 (rs:List Az):∀ K:Keys,(Al1 rs K).length≤K.length*rs.length
  | []=>by simp [Al1]
  | k::K=>by
    have ih:=Ah4 rs K
    have:=Ak6 rs k
    unfold Al1 at ih ⊢
    rw [xB,zG,y9,kZ]
    omega
theorem Ag7 {c:Be} (h:SC c) (K:Keys) (hK:K.length≤1000000):Hp c K=some (Al1 c.Reads.L K):=by
  have hg:=h.gr.len
  unfold Hp
  rw [Ajf K (fun k=>Adq (Aam c.Reads.L k)) (Ec c K) 128 (fun k=>by have:=Ak6 c.Reads.L k;omega) (by omega) (fun i x acc hx ha=>by
    have hlt:=(zC.1 hx).1
    have:=Ak6 c.Reads.L x
    unfold Ec
    dsimp only
    rw [if_pos (decide_eq_true (by omega)),Bp,hx,zA,Avb (l:=c.Reads.L) (by omega),zA,if_pos (by omega),Cd (by omega) (by omega)]
    rfl) (fun acc=>by
    unfold Ec
    dsimp only
    rw [if_neg (by rw [decide_eq_true_eq];omega)]),zA]
  rfl
theorem Aoj {c:Be} (h:SC c) (K:Keys) (hK:K.length≤16) {n:Nat} {a:A1} (ha:c.Txs[n]? = some a) (h1:a.State=1) :
    ∃ b l,Lb c.Txs (n:Int) (Al1 c.Reads.L K)=some (b,l)∧l.length=c.Txs.length ∧
      (b=false→∃ x ∈ c.Txs,Uw c.Reads.L a K x=true∧x.State=2∧x.In=true) ∧
      (b=true→(∀ (j:Nat) (x:A1),c.Txs[j]? = some x→l[j]? = some (if j=n then { x with In:=x.In || c.Txs.any (Uw c.Reads.L a K) } else if Uw c.Reads.L a K x=true then { x with Out:=true } else x))∧∀ x ∈ c.Txs,Uw c.Reads.L a K x=true→x.State=2→x.In=false):=by
  have hl:=h.len
  have hg:=h.gr.len
  have hrl:=Ah4 c.Reads.L K
  have hrl':(Al1 c.Reads.L K).length≤2048:=yO hrl (yO (Nat.mul_le_mul hK hg) (by decide))
  have ham:=zI ha
  have hpa:Uw c.Reads.L a K a=false:=by unfold Uw;rw [decide_eq_true rfl];rfl
  let F:=Tw c.Txs n (Uw c.Reads.L a K) (fun b x=>{ x with In:=x.In || b }) (fun x=>{ x with Out:=true })
  have key:∃ v,Lj (F0 c.Txs (n:Int) (Al1 c.Reads.L K)) fuel (0,c.Txs)=some v ∧
      (match v with
        | .inl q=>q.1=false∧q.2.length=c.Txs.length∧∃ x ∈ c.Txs,Uw c.Reads.L a K x=true∧x.State=2∧x.In=true
        | .inr l=>l.length=c.Txs.length∧(∀ (j:Nat) (x:A1),c.Txs[j]? = some x→l[j]? = some (F c.Txs.length j x))∧∀ x ∈ c.Txs,Uw c.Reads.L a K x=true→x.State=2→x.In=false):=by
    refine Dt (f:=F0 c.Txs (n:Int) (Al1 c.Reads.L K)) (P:=fun s=>∃ i:Nat,i≤c.Txs.length∧s.1=(i:Int)∧s.2.length=c.Txs.length∧(∀ (j:Nat) (x:A1),c.Txs[j]? = some x→s.2[j]? = some (F i j x))∧∀ x ∈ c.Txs.take i,Uw c.Reads.L a K x=true→x.State=2→x.In=false) (μ:=fun s=>c.Txs.length-s.1.toNat) (R:=fun v=>match v with
        | .inl q=>q.1=false∧q.2.length=c.Txs.length∧∃ x ∈ c.Txs,Uw c.Reads.L a K x=true∧x.State=2∧x.In=true
        | .inr l=>l.length=c.Txs.length∧(∀ (j:Nat) (x:A1),c.Txs[j]? = some x→l[j]? = some (F c.Txs.length j x))∧∀ x ∈ c.Txs,Uw c.Reads.L a K x=true→x.State=2→x.In=false) ?_ fuel (0,c.Txs) ⟨0,zX _,rfl,rfl,fun j x hx=>?_,by simp⟩ (Ci (by show c.Txs.length-0≤_;omega))
    · rintro ⟨_,l⟩ ⟨i,hi,rfl,hll,hF,hno⟩
      dsimp only at hll hF
      unfold F0
      dsimp only
      rcases zP i c.Txs.length with hlt | hge
      · have hx:=zB hlt
        generalize c.Txs[i]=x at hx
        have hxm:=zI hx
        have htk:∀ {y},y ∈ c.Txs.take (i+1)→y ∈ c.Txs.take i∨y=x:=fun {y} hy=>by
          rw [zM hlt,yH,zT] at hy
          rcases hy with hy | hy
          · exact .inl hy
          · rw [zB hlt] at hx
            exact .inr (hy.trans (zD hx))
        have hstep:Uw c.Reads.L a K x=false→∃ s',(some (LR.cont (wI ((i:Int)+1),l)):Option (LR (Int × List A1) (List A1) (Bool × List A1)))=some (.cont s')∧(∃ k:Nat,k≤c.Txs.length∧s'.1=(k:Int)∧s'.2.length=c.Txs.length∧(∀ (j:Nat) (x:A1),c.Txs[j]? = some x→s'.2[j]? = some (F k j x))∧∀ x ∈ c.Txs.take k,Uw c.Reads.L a K x=true→x.State=2→x.In=false)∧c.Txs.length-s'.1.toNat<c.Txs.length-(i:Int).toNat:=fun hp=>by
          refine ⟨_,rfl,⟨i+1,hlt,by rw [Cd (by omega) (by omega)];rfl,hll,fun j y hy=>?_,fun y hy hpy=>?_⟩,by rw [Cd (by omega) (by omega)];omega⟩
          · show l[j]? = some (Tw _ _ _ _ _ (i+1) j y)
            rw [Aes _ _ _ _ _ hx hp j y hy];exact hF j y hy
          · rcases htk hy with hy | hy
            · exact hno y hy hpy
            · rw [hy,hp] at hpy;cases hpy
        rw [if_pos (decide_eq_true (by omega)),Bp,hF i x hx,zA]
        by_cases hin:i=n
        · subst hin
          have:x=a:=by rw [ha] at hx;exact (zD hx).symm
          subst this
          left
          rw [if_pos (decide_eq_true rfl)]
          exact hstep hpa
        · have hid:x.ID≠a.ID:=fun e=>by
            have hya:=h.one hxm ham e
            obtain ⟨p1,p2⟩:=zC.1 hx
            obtain ⟨q1,q2⟩:=zC.1 ha
            rcases Nat.lt_or_gt_of_ne hin with hh | hh
            · have:=yK.1 h.ids i n p1 q1 hh
              rw [p2,q2] at this;exact this e
            · have:=yK.1 h.ids n i q1 p1 hh
              rw [p2,q2] at this;exact this e.symm
          have eF:F i i x=x:=by show Tw _ _ _ _ _ i i x=_;unfold Tw;rw [if_neg hin,if_neg (fun e=>by omega)]
          rw [eF]
          have hFa:F i n a={ a with In:=a.In || (c.Txs.take i).any (Uw c.Reads.L a K) }:=by show Tw _ _ _ _ _ i n a=_;unfold Tw;rw [if_pos rfl]
          rw [if_neg (by rw [decide_eq_true_eq];omega),X1 _ _ (by omega),zA]
          by_cases hc:x.ID ∈ Al1 c.Reads.L K
          · rw [decide_eq_true hc,if_neg (by decide),Bp,hF n a ha,zA,Aja x _ (by rw [hFa];exact h1),zA,Bool.not_not]
            rw [show (F i n a).Begin=a.Begin from by rw [hFa]]
            cases hb:(decide (x.State=2) && decide (x.End≤a.Begin)) with
            | true =>
              rw [if_pos rfl]
              exact .inl (hstep (by unfold Uw;rw [hb];simp))
            | false =>
              have hp:Uw c.Reads.L a K x=true:=by
                unfold Uw
                rw [hb,decide_eq_false hid]
                obtain ⟨r,hr,e1,e2⟩:=Ait.1 hc
                rw [wZ.2 ⟨r,hr,by rw [decide_eq_true e1,e2];rfl⟩];rfl
              rw [if_neg (by decide)]
              unfold K4 Ha
              dsimp only
              rw [zA,Azw l i n hin (by rw [hF i x hx,eF]) (hF n a ha),zA,if_pos (by simp)]
              have hnew:∀ (j:Nat) (y:A1),c.Txs[j]? = some y→((l.set i { x with Out:=true }).set n { (F i n a) with In:=true })[j]? = some (F (i+1) j y):=fun j y hy=>by
                show (List.set _ n _)[j]? = some (Tw _ _ _ _ _ (i+1) j y)
                have hjl:=(zC.1 hy).1
                unfold Tw
                by_cases hjn:j=n
                · subst hjn
                  rw [ha] at hy
                  have:=zD hy
                  subst this
                  rw [zR (by rw [xJ];omega),if_pos rfl,zM hlt,List.any_append,hFa]
                  have:c.Txs[i]=x:=by rw [zB hlt] at hx;exact zD hx
                  rw [this]
                  simp only [List.any_cons,j6,hp,Bool.or_true,Bool.true_or]
                · rw [zY (fun e=>hjn e.symm)]
                  by_cases hji:j=i
                  · subst hji
                    rw [hx] at hy
                    have:=zD hy
                    subst this
                    rw [zR (by omega),if_neg hin,if_pos ⟨by omega,hp⟩]
                  · rw [zY (fun e=>hji e.symm),if_neg hjn,hF j y hy]
                    show some (Tw _ _ _ _ _ i j y)=_
                    unfold Tw
                    rw [if_neg hjn]
                    by_cases hlt':j<i
                    · simp only [hlt',show j<i+1 from by omega]
                    · simp only [hlt',show ¬ j<i+1 from by omega]
              have hgo:(x.State=2→x.In=false)→∃ s',(some (LR.cont (wI ((i:Int)+1),(l.set i { x with Out:=true }).set n { (F i n a) with In:=true })):Option (LR (Int × List A1) (List A1) (Bool × List A1)))=some (.cont s')∧(∃ k:Nat,k≤c.Txs.length∧s'.1=(k:Int)∧s'.2.length=c.Txs.length∧(∀ (j:Nat) (x:A1),c.Txs[j]? = some x→s'.2[j]? = some (F k j x))∧∀ x ∈ c.Txs.take k,Uw c.Reads.L a K x=true→x.State=2→x.In=false)∧c.Txs.length-s'.1.toNat<c.Txs.length-(i:Int).toNat:=fun hxi=>by
                refine ⟨_,rfl,⟨i+1,hlt,by rw [Cd (by omega) (by omega)];rfl,by simp [hll],hnew,fun y hy hpy hsy=>?_⟩,by rw [Cd (by omega) (by omega)];omega⟩
                rcases htk hy with hy | hy
                · exact hno y hy hpy hsy
                · rw [hy] at hsy ⊢;exact hxi hsy
              by_cases hs:x.State=2
              · rw [if_pos (decide_eq_true hs),Bp,hnew i x hx,zA,Af8,zA]
                have eF':F (i+1) i x={ x with Out:=true }:=by show Tw _ _ _ _ _ (i+1) i x=_;unfold Tw;rw [if_neg hin,if_pos ⟨by omega,hp⟩]
                rw [eF']
                dsimp only
                rw [Bool.and_true]
                by_cases hio:x.In=true
                · rw [if_pos hio]
                  exact .inr (.inr ⟨_,rfl,rfl,by simp [hll],x,hxm,hp,hs,hio⟩)
                · rw [if_neg hio]
                  exact .inl (hgo fun _=>by simpa using hio)
              · rw [if_neg (by rw [decide_eq_true_eq];exact hs)]
                exact .inl (hgo fun e=>absurd e hs)
          · rw [decide_eq_false hc,if_pos (by rfl)]
            refine .inl (hstep ?_)
            cases hh:Uw c.Reads.L a K x with
            | false=>rfl
            | true =>
              obtain ⟨_,⟨r,hr,e1,e2⟩,_⟩:=Ap1.1 hh
              exact absurd (Ait.2 ⟨r,hr,e1,e2⟩) hc
      · have e:i=c.Txs.length:=by omega
        subst e
        rw [if_neg (by rw [decide_eq_true_eq];omega)]
        exact .inr (.inl ⟨_,rfl,hll,hF,by rw [yI] at hno;exact hno⟩)
    · show c.Txs[j]? = some (Tw _ _ _ _ _ 0 j x)
      rw [hx]
      unfold Tw
      rw [jQ]
      simp only [j6,Bool.or_false,zS,false_and,if_false]
      split <;> rfl
  obtain ⟨v,hv,hr⟩:=key
  unfold Lb
  rw [hv,zA]
  cases v with
  | inl q =>
    obtain ⟨b,l⟩:=q
    obtain ⟨e,h2,h3⟩:=hr
    have e:b=false:=e
    subst e
    exact ⟨false,l,rfl,h2,fun _=>h3,fun e=>by cases e⟩
  | inr l =>
    obtain ⟨h2,h3,h4⟩:=hr
    refine ⟨true,l,rfl,h2,(fun e=>by cases e),fun _=>⟨fun j x hx=>?_,h4⟩⟩
    rw [h3 j x hx]
    show some (Tw _ _ _ _ _ _ j x)=_
    have hjl:=(zC.1 hx).1
    unfold Tw
    rw [yI]
    simp only [hjl,true_and]
theorem commit_m {c:Be} (h:SC c) (id ts:Int) (K:Keys) (hK:K.length≤16) :
    ((∀ x ∈ c.Txs,x.ID=id→x.State≠1)∧Dp c id ts K=some (cN,7)) ∨
    ∃ a ∈ c.Txs,a.ID=id∧a.State=1 ∧
      ((¬ (a.Begin<ts∧ts≤maxTs∧KS K∧¬ (a.RO=true∧K≠[])∧∀ y ∈ c.Txs,y.End<ts)∧Dp c id ts K=some (cN,1)) ∨
       ((a.Begin<ts∧ts≤maxTs∧KS K∧¬ (a.RO=true∧K≠[])∧∀ y ∈ c.Txs,y.End<ts) ∧
         ((¬ (∀ x ∈ c.Txs,x.State=2→a.Begin<x.End→∀ k ∈ K,k ∉ x.Keys)∧Dp c id ts K=some (cN,9)) ∨
          ((∀ x ∈ c.Txs,x.State=2→a.Begin<x.End→∀ k ∈ K,k ∉ x.Keys) ∧
            (((∃ x ∈ c.Txs,Uw c.Reads.L a K x=true∧x.State=2∧x.In=true)∨((a.In || c.Txs.any (Uw c.Reads.L a K))=true∧a.Out=true))∧Dp c id ts K=some (cN,10) ∨
             (∀ x ∈ c.Txs,Uw c.Reads.L a K x=true→x.State=2→x.In=false)∧¬ ((a.In || c.Txs.any (Uw c.Reads.L a K))=true∧a.Out=true)∧Dp c id ts K=some (⟨c.Txs.map (doneF c.Txs c.Reads.L a ts K),c.Reads⟩,0)))))):=by
  unfold Dp
  rw [sane_c h,zA,if_neg (nn (by rfl))]
  rcases Y3 h id with ⟨h1,e⟩ | ⟨n,a,ha,e1,h1,e⟩
  · rw [e,zA]
    exact .inl ⟨h1,rfl⟩
  right
  have ham:=zI ha
  have hl:=h.len
  refine ⟨a,ham,e1,h1,?_⟩
  rw [e,zA,if_neg (by rw [decide_eq_true_eq];omega),Bp,ha,zA]
  obtain ⟨b,hb,hbi⟩:=An8 h a ts K (by omega)
  rw [hb,zA]
  cases b with
  | false=>exact .inl ⟨fun hc=>(by have:=hbi.2 hc;cases this),rfl⟩
  | true =>
  right
  refine ⟨hbi.1 rfl,?_⟩
  rw [if_neg (by decide),zA]
  obtain ⟨b,hb,hbi⟩:=Ajp h a h1 K (by omega)
  rw [hb,zA]
  cases b with
  | true=>exact .inl ⟨fun hc=>(by have:=hbi.2 hc;cases this),rfl⟩
  | false =>
  right
  refine ⟨hbi.1 rfl,?_⟩
  rw [if_neg (by decide),Ago _ (by omega),zA,Ag7 h K (by omega),zA]
  obtain ⟨b,l,hp,hll,hf,ht⟩:=Aoj h K hK ha h1
  rw [hp,zA,if_pos hll]
  cases b with
  | false=>exact .inl ⟨.inl (hf rfl),rfl⟩
  | true =>
  obtain ⟨hj,hno⟩:=ht rfl
  have hln:=hj n a ha
  rw [if_pos rfl] at hln
  rw [if_neg (by simp)]
  dsimp only
  rw [Bp,hln,zA,Af8,zA]
  dsimp only
  by_cases hpv:(a.In || c.Txs.any (Uw c.Reads.L a K))=true∧a.Out=true
  · rw [if_pos (by rw [hpv.1,hpv.2];rfl)]
    exact .inl ⟨.inr hpv,rfl⟩
  · rw [if_neg (by rw [yD];exact hpv)]
    refine .inr ⟨hno,hpv,?_⟩
    have hnl:n<l.length:=(zC.1 hln).1
    unfold L3
    rw [Bp,hln,zA]
    dsimp only
    rw [Bp,zW,zR hnl,zA]
    dsimp only
    rw [Bp,zR (by rw [xJ];exact hnl),zA,j5,j5]
    congr 2
    show (Be.mk _ _)=_
    congr 1
    apply xZ
    intro j
    rw [zO]
    cases hy:c.Txs[j]? with
    | none =>
      have hy:=xU.1 hy
      exact xU.2 (by rw [xJ];omega)
    | some y =>
      show _=some (doneF _ _ _ _ _ y)
      unfold doneF
      by_cases hjn:j=n
      · subst hjn
        rw [ha] at hy
        have:=zD hy
        subst this
        rw [zR hnl,if_pos rfl]
      · have hne:y.ID≠a.ID:=fun e=>by
          have hya:=h.one (zI hy) ham e
          obtain ⟨p1,p2⟩:=zC.1 hy
          obtain ⟨q1,q2⟩:=zC.1 ha
          rcases Nat.lt_or_gt_of_ne hjn with hh | hh
          · have:=yK.1 h.ids j n p1 q1 hh
            rw [p2,q2] at this;exact this e
          · have:=yK.1 h.ids n j q1 p1 hh
            rw [p2,q2] at this;exact this e.symm
        rw [zY (fun e=>hjn e.symm),hj j y hy,if_neg hjn,if_neg hne]
theorem Aep {c:Be} (h:SC c) (gone:List Int) (hg:gone.length≤1000000):Ia c gone=some ⟨c.Txs.filter (fun x=>!decide (x.ID ∈ gone)),⟨Aay c.Reads.L gone false⟩⟩:=by
  have hl:=h.len
  unfold Ia
  rw [Ajf c.Txs (fun x=>if (!decide (x.ID ∈ gone))=true then [x] else []) (Fj c gone) 1 (fun x=>by split <;> simp) (by omega) (fun i x acc hx ha=>by
    have hlt:=(zC.1 hx).1
    unfold Fj
    dsimp only
    rw [if_pos (decide_eq_true (by omega)),Bp,hx,zA,X1 _ _ hg,zA,Cd (by omega) (by omega)]
    cases decide (x.ID ∈ gone) with
    | true=>rw [if_neg (by decide),if_neg (by decide),xF];rfl
    | false=>rw [if_pos (by rfl),if_pos (by rw [yE];omega),if_pos (by rfl)];rfl) (fun acc=>by
    unfold Fj
    dsimp only
    rw [if_neg (by rw [decide_eq_true_eq];omega)]),zA,Y8,List.map_id']
  unfold Kx
  rw [Aqs (l:=c.Reads.L) (by have:=h.gr.len;omega) _ hg];rfl
theorem abort_m {c:Be} (h:SC c) (id:Int):((∀ x ∈ c.Txs,x.ID=id→x.State≠1)∧Ef c id=some c) ∨
    ((∃ a ∈ c.Txs,a.ID=id∧a.State=1)∧Ef c id=some ⟨c.Txs.filter (fun x=>!decide (x.ID ∈ [id])),⟨Aay c.Reads.L [id] false⟩⟩):=by
  unfold Ef
  rcases Y3 h id with ⟨h1,e⟩ | ⟨n,a,ha,e1,h1,e⟩
  · rw [e,zA]
    exact .inl ⟨h1,rfl⟩
  · rw [e,zA,if_neg (by rw [decide_eq_true_eq];omega),Aep h _ (by simp)]
    exact .inr ⟨⟨a,zI ha,e1,h1⟩,rfl⟩
def oldV (l:List A1) (now:Int):Int:=l.foldl (fun m x=>if x.State=1 then (if x.Begin<m then x.Begin else m) else m) now
theorem oldest_m (c:Be) (now:Int) (hl:c.Txs.length≤1000000):Ka c now=some (oldV c.Txs now):=by
  unfold Ka
  show (Cw _ fuel (now,((0:Nat):Int))).bind _=_
  rw [W9 (f:=Gh c) (fun (m:Int) (i:Nat)=>(m,(i:Int))) c.Txs (fun m x=>if x.State=1 then (if x.Begin<m then x.Begin else m) else m) (fun m=>m) (by omega) (fun acc i x hx=>by
    have hlt:=(zC.1 hx).1
    unfold Gh
    dsimp only
    rw [if_pos (decide_eq_true (by omega)),Bp,hx,zA,Cd (by omega) (by omega)]
    by_cases hs:x.State=1
    · rw [if_pos (decide_eq_true hs),if_pos hs];rfl
    · rw [if_neg (by rw [decide_eq_true_eq];exact hs),if_neg hs];rfl) (fun acc=>by
    unfold Gh
    dsimp only
    rw [if_neg (by rw [decide_eq_true_eq];omega)])]
  rfl
theorem oldV_le {l:List A1}:∀ {now m:Int},m≤oldV l now ↔ m≤now∧∀ x ∈ l,x.State=1→m≤x.Begin:=by
  induction l with
  | nil=>intro now m;simp [oldV]
  | cons a l ih =>
    intro now m
    show m≤oldV l _ ↔ _
    rw [ih]
    constructor
    · rintro ⟨h1,h2⟩
      have h1:m≤(if a.State=1 then (if a.Begin<now then a.Begin else now) else now):=h1
      by_cases hs:a.State=1
      · rw [if_pos hs] at h1
        split at h1
        · exact ⟨by omega,fun x hx h=>by
            rcases yN.1 hx with e | hx
            · rw [e];omega
            · exact h2 x hx h⟩
        · exact ⟨by omega,fun x hx h=>by
            rcases yN.1 hx with e | hx
            · rw [e];omega
            · exact h2 x hx h⟩
      · rw [if_neg hs] at h1
        exact ⟨h1,fun x hx h=>by
          rcases yN.1 hx with e | hx
          · rw [e] at h;exact absurd h hs
          · exact h2 x hx h⟩
    · rintro ⟨h1,h2⟩
      refine ⟨?_,fun x hx h=>h2 x (yV _ hx) h⟩
      show m≤(if a.State=1 then (if a.Begin<now then a.Begin else now) else now)
      by_cases hs:a.State=1
      · have:=h2 a (yX ..) hs
        rw [if_pos hs]
        split <;> omega
      · rw [if_neg hs];exact h1
def goneV (l:List A1) (x:A1):Bool:=decide (x.State=2) && decide (x.End≤oldV l x.End)
theorem Al7 {l:List A1} {x:A1}:goneV l x=true ↔ x.State=2∧∀ a ∈ l,a.State=1→x.End≤a.Begin:=by
  unfold goneV
  rw [yD,decide_eq_true_eq,decide_eq_true_eq,oldV_le]
  exact ⟨fun h=>⟨h.1,h.2.2⟩,fun h=>⟨h.1,xP _,h.2⟩⟩
theorem Ath {c:Be} (h:SC c):Jm c=some ⟨c.Txs.filter (fun x=>!decide (x.ID ∈ (c.Txs.filter (goneV c.Txs)).map (·.ID))),⟨Aay c.Reads.L ((c.Txs.filter (goneV c.Txs)).map (·.ID)) false⟩⟩:=by
  have hl:=h.len
  unfold Jm
  rw [Ajf c.Txs (fun x=>if goneV c.Txs x=true then [x.ID] else []) (Hf c) 1 (fun x=>by split <;> simp) (by omega) (fun i x acc hx ha=>by
    have hlt:=(zC.1 hx).1
    unfold Hf
    dsimp only
    rw [if_pos (decide_eq_true (by omega)),Bp,hx,zA,oldest_m _ _ (by omega),zA,Cd (by omega) (by omega)]
    unfold goneV
    by_cases hs:x.State=2
    · rw [if_pos (decide_eq_true hs),decide_eq_true hs,wN]
      by_cases he:x.End≤oldV c.Txs x.End
      · rw [if_pos (decide_eq_true he),if_pos (by rw [yE];omega),if_pos (decide_eq_true he)];rfl
      · rw [if_neg (by rw [decide_eq_true_eq];exact he),if_neg (by rw [decide_eq_true_eq];exact he),xF];rfl
    · rw [if_neg (by rw [decide_eq_true_eq];exact hs),decide_eq_false hs,Bool.false_and,if_neg (by decide),xF];rfl) (fun acc=>by
    unfold Hf
    dsimp only
    rw [if_neg (by rw [decide_eq_true_eq];omega)]),zA,Y8]
  unfold M3
  rw [Aep h _ (by rw [z6];have:=xS (goneV c.Txs) c.Txs;omega)]
  rfl
theorem find_c (c:Be) (id:Int) (hl:c.Txs.length≤1000000):((∀ x ∈ c.Txs,x.ID≠id)∧∃ z,M2 c id=some (z,false))∨∃ x ∈ c.Txs,x.ID=id∧M2 c id=some (x,true):=by
  unfold M2
  rcases Tk c id hl with ⟨h1,e⟩ | ⟨i,x,hx,e1,e⟩
  · rw [e]
    exact .inl ⟨h1,_,rfl⟩
  · rw [e,zA,if_neg (by rw [decide_eq_true_eq];omega),Bp,hx]
    exact .inr ⟨x,zI hx,e1,rfl⟩
def K10 (K:Keys):Prop:=KS K∧K.length≤16
structure Bd (w:WL11) (n:Nat):Prop where
  now:w.now≤n
  beg:w.begun.length≤n
  did:w.did.length≤n
  read:w.read.length≤n
theorem Akn.to {x:A1} (h:Akn x K10):Akn x KS∧x.Keys.length≤16:=by
  refine ⟨⟨h.id,h.beg,?_⟩,?_⟩
  · rcases h.st with e | ⟨a,b,c,d,e⟩
    · exact .inl e
    · exact .inr ⟨a,b,c,d.1,e⟩
  · rcases h.st with ⟨_,_,e⟩ | ⟨a,b,c,d,e⟩
    · rw [e];decide
    · exact d.2
theorem Inv.sc {w:WL11} (h:Inv K10 w):SC w.c:=by
  refine ⟨h.gr,h.ri,h.len,fun x hx=>(h.each x hx).to.1,h.ids,fun x hx y hy h1 h2 he=>?_,fun x hx=>(h.each x hx).to.2⟩
  obtain ⟨d,hd,a1,a2,a3,a4⟩:=h.don x hx h1
  obtain ⟨d',hd',b1,b2,b3,b4⟩:=h.don y hy h2
  have:d=d':=pw_eq h.didE hd hd' (by omega) (by omega)
  rw [← a1,← b1,this]
theorem inv_abort {w:WL11} (h:Inv K10 w) (id:Int):∃ c,Ef w.c id=some c∧Inv K10 { w with c:=c }∧(∀ x ∈ c.Txs,x ∈ w.c.Txs∧¬ (x.ID=id∧x.State=1)):=by
  rcases abort_m h.sc id with ⟨h1,e⟩ | ⟨⟨a,ha,e1,h1⟩,e⟩
  · exact ⟨_,e,h,fun x hx=>⟨hx,fun hc=>h1 x hx hc.1 hc.2⟩⟩
  · refine ⟨_,e,Aiv h _ _ (jH ..) (fun r hr=>?_) (fun r hr x hx hp e=>?_) (fun x hx hp hs=>?_),fun x hx=>?_⟩
    · obtain ⟨hr1,hr2⟩:=Wh.1 hr
      obtain ⟨x,hx,e⟩:=h.ri r hr1
      exact ⟨x,hx,by rw [e,hr2];rfl,e⟩
    · rw [e] at hp
      exact Wh.2 ⟨hr,by simpa using hp⟩
    · have:x.ID=id:=by simpa using hp
      rw [h.one hx ha (this.trans e1.symm),h1] at hs;cases hs
    · obtain ⟨h1,h2⟩:=yQ.1 hx
      refine ⟨h1,fun hc=>?_⟩
      simp [hc.1] at h2
theorem inv_clean {w:WL11} (h:Inv K10 w):∃ c,Jm w.c=some c∧Inv K10 { w with c:=c }∧c=⟨w.c.Txs.filter (fun x=>!goneV w.c.Txs x),⟨Aay w.c.Reads.L ((w.c.Txs.filter (goneV w.c.Txs)).map (·.ID)) false⟩⟩:=by
  have hm:∀ x ∈ w.c.Txs,(x.ID ∈ (w.c.Txs.filter (goneV w.c.Txs)).map (·.ID)) ↔ goneV w.c.Txs x=true:=fun x hx=>by
    rw [yP]
    constructor
    · rintro ⟨y,hy,e⟩
      obtain ⟨h1,h2⟩:=yQ.1 hy
      rw [← h.one h1 hx e];exact h2
    · intro hg;exact ⟨x,yQ.2 ⟨hx,hg⟩,rfl⟩
  have hf:w.c.Txs.filter (fun x=>!decide (x.ID ∈ (w.c.Txs.filter (goneV w.c.Txs)).map (·.ID)))=w.c.Txs.filter (fun x=>!goneV w.c.Txs x):=by
    refine List.filter_congr fun x hx=>?_
    congr 1
    cases hg:goneV w.c.Txs x with
    | true=>exact decide_eq_true ((hm x hx).2 hg)
    | false=>exact decide_eq_false fun hc=>by have:=(hm x hx).1 hc;rw [hg] at this;cases this
  refine ⟨_,Ath h.sc,?_,by rw [hf]⟩
  rw [hf]
  refine Aiv h _ _ (jH ..) (fun r hr=>?_) (fun r hr x hx hp e=>?_) (fun x hx hp hs a ha hpa h1=>?_)
  · obtain ⟨hr1,hr2⟩:=Wh.1 hr
    obtain ⟨x,hx,e⟩:=h.ri r hr1
    refine ⟨x,hx,?_,e⟩
    have hn:¬ (x.ID ∈ (w.c.Txs.filter (goneV w.c.Txs)).map (·.ID)):=by rw [e];exact of_decide_eq_false hr2
    cases hg:goneV w.c.Txs x with
    | true=>exact absurd ((hm x hx).2 hg) hn
    | false=>rfl
  · refine Wh.2 ⟨hr,decide_eq_false fun hc=>?_⟩
    rw [← e] at hc
    rw [(hm x hx).1 hc] at hp;cases hp
  · have hg:goneV w.c.Txs x=true:=by simpa using hp
    exact (Al7.1 hg).2 a ha h1
end Go.Proofs.YtkblaobhhoebaaaGreat.Abs.ss
