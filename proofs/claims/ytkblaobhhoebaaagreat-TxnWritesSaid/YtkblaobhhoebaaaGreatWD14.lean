/-
  What the library's functions compute.
-/
import Derived.Test.YtkblaobhhoebaaaGreatWC14
set_option linter.unusedVariables false
set_option linter.unusedSimpArgs false
namespace Go.Proofs.YtkblaobhhoebaaaGreat.Abs.ss
open Go.Proofs.YtkblaobhhoebaaaGreat.Abs.bf
structure Uo where
  Tx:Int
  Rng:Bg
structure Ah0 where
  ID:Int
  Begin:Int
  End:Int
  State:Int
  In:Bool
  Out:Bool
  RO:Bool
  Keys:List (List UInt8)
structure WL11 where
  c:Bc
  now:Int
  begun:List Int
  did:List Ah0
  read:List Uo
def Amk (r:Bg) (l:Keys):Bool:=l.any (Af6 r)
theorem Aii {r:Bg} {l:Keys}:Amk r l=true ↔ ∃ k ∈ l,Af6 r k=true:=w4
def Rd (rd:List Uo) (i:Int) (K:Keys):Prop:=∃ r ∈ rd,r.Tx=i∧Amk r.Rng K=true
theorem Rd.mono {rd rd':List Uo} {i:Int} {K:Keys} (h:Rd rd i K) (hs:∀ r ∈ rd,r ∈ rd'):Rd rd' i K:=by
  obtain ⟨r,h1,h2⟩:=h;exact ⟨r,hs r h1,h2⟩
theorem Rd.append {rd:List Uo} {r:Uo} {i:Int} {K:Keys} (h:Rd (rd++[r]) i K):Rd rd i K∨r.Tx=i∧Amk r.Rng K=true:=by
  obtain ⟨x,h1,h2⟩:=h
  rcases yL.1 h1 with h1 | h1
  · exact .inl ⟨x,h1,h2⟩
  · rw [zW.1 h1] at h2;exact .inr h2
def maxTs:Int:=1099511627776
structure Ajy (x:A2) (saneK:Keys→Prop):Prop where
  id:0≤x.ID
  beg:0≤x.Begin∧x.Begin≤maxTs
  st:x.State=1∧x.End=0∧x.Keys=[]∨x.State=2∧x.Begin<x.End∧x.End≤maxTs∧saneK x.Keys∧¬ (x.RO=true∧x.Keys≠[])
def RR (rd:List Uo) (x y:Ah0):Prop:=x.ID≠y.ID∧y.Begin<x.End∧x.Begin<y.End∧Rd rd x.ID y.Keys
structure Inv (saneK:Keys→Prop) (w:WL11):Prop where
  gr:Good w.c.Reads.L
  ri:∀ r ∈ w.c.Reads.L,∃ x ∈ w.c.Txs,x.ID=r.Tx
  len:w.c.Txs.length≤64
  each:∀ x ∈ w.c.Txs,Ajy x saneK
  ids:w.c.Txs.Pairwise (fun x y=>x.ID≠y.ID)
  now0:0≤w.now
  beg:∀ b ∈ w.begun,0≤b∧b≤w.now
  act:∀ x ∈ w.c.Txs,idx w.begun x.ID=some x.Begin
  don:∀ x ∈ w.c.Txs,x.State=2→∃ d ∈ w.did,d.ID=x.ID∧d.Begin=x.Begin∧d.End=x.End∧d.Keys=x.Keys
  did0:∀ d ∈ w.did,0≤d.ID∧idx w.begun d.ID=some d.Begin∧d.Begin<d.End∧d.End≤w.now∧saneK d.Keys
  didE:w.did.Pairwise (fun a b=>a.End<b.End)
variable {saneK:Keys→Prop} {w:WL11}
theorem pw_eq {α:Type} {R:α→α→Prop} {l:List α} (h:l.Pairwise R) {x y:α} (hx:x ∈ l) (hy:y ∈ l) (h1:¬ R x y) (h2:¬ R y x):x=y:=by
  induction h with
  | nil=>simp at hx
  | cons ha _ ih =>
    rcases yM.1 hx with e1 | hx <;> rcases yM.1 hy with e2 | hy
    · rw [e1,e2]
    · exact absurd (e1 ▸ ha _ hy) h1
    · exact absurd (e2 ▸ ha _ hx) h2
    · exact ih hx hy
theorem Inv.one (h:Inv saneK w) {x y:A2} (hx:x ∈ w.c.Txs) (hy:y ∈ w.c.Txs) (e:x.ID=y.ID):x=y:=pw_eq h.ids hx hy (fun n=>n e) (fun n=>n e.symm)
theorem Inv.st (h:Inv saneK w) {x:A2} (hx:x ∈ w.c.Txs):x.State=1∨x.State=2:=by
  rcases (h.each x hx).st with h | h
  · exact .inl h.1
  · exact .inr h.1
theorem Ahj {α:Type} {xs:List α} {j:Int} {u:α} (h:idx xs j=some u):0≤j∧j<xs.length∧u ∈ xs:=by
  unfold idx at h
  by_cases h0:0≤j
  · rw [if_pos h0] at h
    obtain ⟨h1,h2⟩:=zC.1 h
    exact ⟨h0,by omega,h2 ▸ xN _⟩
  · rw [if_neg h0] at h;cases h
theorem An9 {α:Type} {xs:List α} {j:Int} {u v:α} (h:idx xs j=some u):idx (xs++[v]) j=some u:=by
  obtain ⟨h0,h1,_⟩:=Ahj h
  unfold idx at h ⊢
  rw [if_pos h0] at h ⊢
  rw [zK (by omega)];exact h
theorem Aqk {α:Type} {xs:List α} {v:α}:idx (xs++[v]) (xs.length:Int)=some v:=by
  unfold idx
  rw [if_pos (xK _)]
  simp
theorem inv_nil:Inv saneK ⟨⟨[],⟨[]⟩⟩,0,[],[],[]⟩:=by
  constructor <;> first | exact Good.mk (fun x h=>by simp at h) (by decide) w6 | simp
theorem inv_begin (h:Inv saneK w) (ro:Bool) (hn:w.now≤maxTs) (hl:w.c.Txs.length<64) :
    Inv saneK ⟨⟨w.c.Txs++[⟨(w.begun.length:Int),w.now,0,1,false,false,ro,[]⟩],w.c.Reads⟩,w.now,w.begun++[w.now],w.did,w.read⟩:=by
  have hid:∀ x ∈ w.c.Txs,x.ID<w.begun.length:=fun x hx=>(Ahj (h.act x hx)).2.1
  have hdd:∀ d ∈ w.did,d.ID<w.begun.length:=fun x hx=>(Ahj (h.did0 x hx).2.1).2.1
  have key:∀ {P:A2→Prop},(∀ x ∈ w.c.Txs,P x)→P ⟨(w.begun.length:Int),w.now,0,1,false,false,ro,[]⟩→∀ x ∈ w.c.Txs++[⟨(w.begun.length:Int),w.now,0,1,false,false,ro,[]⟩],P x:=fun h1 h2 x hx=>by
    rcases yL.1 hx with hx | hx
    · exact h1 x hx
    · rw [zW.1 hx];exact h2
  constructor
  · exact h.gr
  · intro r hr
    obtain ⟨x,hx,e⟩:=h.ri r hr
    exact ⟨x,wS _ hx,e⟩
  · show (w.c.Txs++_).length≤64
    rw [zH,yE];omega
  · exact key h.each ⟨xK _,⟨h.now0,hn⟩,.inl ⟨rfl,rfl,rfl⟩⟩
  · refine wT.2 ⟨h.ids,wL ..,fun a ha b hb=>?_⟩
    rw [zW.1 hb]
    have:=hid a ha
    show a.ID≠w.begun.length
    omega
  · exact h.now0
  · intro b hb
    rcases yL.1 hb with hb | hb
    · exact h.beg b hb
    · rw [zW.1 hb];exact ⟨h.now0,xU _⟩
  · exact key (fun x hx=>An9 (h.act x hx)) Aqk
  · exact key h.don (fun e=>by cases e)
  · intro d hd
    obtain ⟨h1,h2,h3⟩:=h.did0 d hd
    exact ⟨h1,An9 h2,h3⟩
  · exact h.didE
theorem Ajd (h:Inv saneK w) (p:A2→Bool) (rs:List A3) (hrs:rs.Sublist w.c.Reads.L) (hr:∀ r ∈ rs,∃ x ∈ w.c.Txs,p x=true∧x.ID=r.Tx)
    (hk:∀ r ∈ w.c.Reads.L,∀ x ∈ w.c.Txs,p x=true→x.ID=r.Tx→r ∈ rs) (hp:∀ x ∈ w.c.Txs,p x=false→x.State=2→∀ a ∈ w.c.Txs,p a=true→a.State=1→x.End≤a.Begin) :
    Inv saneK ⟨⟨w.c.Txs.filter p,⟨rs⟩⟩,w.now,w.begun,w.did,w.read⟩:=by
  have hm:∀ {x},x ∈ w.c.Txs.filter p→x ∈ w.c.Txs:=fun hx=>(yZ.1 hx).1
  constructor
  · exact ⟨fun x hx=>h.gr.sr x (hrs.subset hx),yO hrs.length_le h.gr.len,h.gr.nd.sublist hrs⟩
  · intro r hr'
    obtain ⟨x,hx,h1,h2⟩:=hr r hr'
    exact ⟨x,yZ.2 ⟨hx,h1⟩,h2⟩
  · exact yO (xQ ..) h.len
  · exact fun x hx=>h.each x (hm hx)
  · exact h.ids.sublist (jM ..)
  · exact h.now0
  · exact h.beg
  · exact fun x hx=>h.act x (hm hx)
  · exact fun x hx=>h.don x (hm hx)
  · exact h.did0
  · exact h.didE
def Qk (a:A2) (r:Bg) (x:A2):Bool:=decide (x.State=2) && !decide (x.End≤a.Begin) && Amk r x.Keys
def Rv (l:List A2) (a:A2) (r:Bg) (x:A2):A2 :=
  if x.ID=a.ID then { x with Out:=x.Out || l.any (Qk a r) } else if Qk a r x then { x with In:=true } else x
theorem readF_id (l:List A2) (a:A2) (r:Bg) (x:A2):(Rv l a r x).ID=x.ID∧(Rv l a r x).Begin=x.Begin∧(Rv l a r x).End=x.End∧(Rv l a r x).State=x.State∧(Rv l a r x).RO=x.RO∧(Rv l a r x).Keys=x.Keys:=by
  unfold Rv
  split
  · exact ⟨rfl,rfl,rfl,rfl,rfl,rfl⟩
  · split <;> exact ⟨rfl,rfl,rfl,rfl,rfl,rfl⟩
theorem Axg {l:List A2} {a:A2} {r:Bg} {x:A2} (h:x.In=true):(Rv l a r x).In=true:=by
  unfold Rv
  split
  · exact h
  · split
    · rfl
    · exact h
theorem Awc {l:List A2} {a:A2} {r:Bg} {x:A2} (h:x.Out=true):(Rv l a r x).Out=true:=by
  unfold Rv
  split
  · show (x.Out || _)=true
    rw [h];rfl
  · split <;> exact h
theorem Amg {a:A2} {r:Bg} {x:A2}:Qk a r x=true ↔ x.State=2∧a.Begin<x.End∧Amk r x.Keys=true:=by
  unfold Qk
  simp only [yA,decide_eq_true_eq,xW,decide_eq_false_iff_not]
  constructor
  · rintro ⟨⟨h1,h2⟩,h3⟩;exact ⟨h1,by omega,h3⟩
  · rintro ⟨h1,h2,h3⟩;exact ⟨⟨h1,by omega⟩,h3⟩
theorem inv_read (h:Inv saneK w) {a:A2} (ha:a ∈ w.c.Txs) (h1:a.State=1) (r:Bg) (rs:List A3) (hg:Good rs) (hsub:∀ x ∈ w.c.Reads.L,x ∈ rs) (hin:(⟨a.ID,r⟩:A3) ∈ rs) (hnew:∀ x ∈ rs,x ∈ w.c.Reads.L∨x=⟨a.ID,r⟩)
    (hno:∀ x ∈ w.c.Txs,Qk a r x=true→x.Out=false):Inv saneK ⟨⟨w.c.Txs.map (Rv w.c.Txs a r),⟨rs⟩⟩,w.now,w.begun,w.did,w.read++[⟨a.ID,r⟩]⟩:=by
  have key:∀ {P:A2→Prop},(∀ x ∈ w.c.Txs,P (Rv w.c.Txs a r x))→∀ x ∈ w.c.Txs.map (Rv w.c.Txs a r),P x:=fun h1 x hx=>by
    obtain ⟨y,hy,rfl⟩:=yP.1 hx
    exact h1 y hy
  have F:=readF_id w.c.Txs a r
  have hex:∀ {x i},x ∈ w.c.Txs→x.ID=i→∃ y ∈ w.c.Txs.map (Rv w.c.Txs a r),y.ID=i:=fun {x i} hx e=>⟨_,yP.2 ⟨x,hx,rfl⟩,by rw [(F x).1,e]⟩
  have haid:=h.act a ha
  constructor
  · exact hg
  · intro x hx
    rcases hnew x hx with hx | rfl
    · obtain ⟨y,hy,e⟩:=h.ri x hx
      exact hex hy e
    · exact hex ha rfl
  · show (w.c.Txs.map _).length≤64
    rw [z8];exact h.len
  · refine key fun x hx=>?_
    obtain ⟨e1,e2,e3,e4,e5,e6⟩:=F x
    have:=h.each x hx
    exact ⟨by rw [e1];exact this.id,by rw [e2];exact this.beg,by rw [e2,e3,e4,e5,e6];exact this.st⟩
  · refine wK.2 (h.ids.imp fun {x y} hne=>?_)
    rw [(F x).1,(F y).1];exact hne
  · exact h.now0
  · exact h.beg
  · refine key fun x hx=>?_
    rw [(F x).1,(F x).2.1];exact h.act x hx
  · refine key fun x hx=>?_
    obtain ⟨e1,e2,e3,e4,e5,e6⟩:=F x
    rw [e1,e2,e3,e4,e6];exact h.don x hx
  · exact h.did0
  · exact h.didE
def U1 (rs:List A3) (a:A2) (K:Keys) (x:A2):Bool:=!decide (x.ID=a.ID) && rs.any (fun r=>decide (r.Tx=x.ID) && Amk r.Rng K) && !(decide (x.State=2) && decide (x.End≤a.Begin))
theorem Aoq {rs:List A3} {a x:A2} {K:Keys}:U1 rs a K x=true ↔ x.ID≠a.ID∧(∃ r ∈ rs,r.Tx=x.ID∧Amk r.Rng K=true)∧(x.State=2→a.Begin<x.End):=by
  unfold U1
  simp only [yA,w4,decide_eq_true_eq,xW,decide_eq_false_iff_not,Bool.and_eq_false_iff]
  constructor
  · rintro ⟨⟨h1,h2⟩,h3⟩
    refine ⟨h1,h2,fun hs=>?_⟩
    rcases h3 with h3 | h3
    · exact absurd hs h3
    · omega
  · rintro ⟨h1,h2,h3⟩
    refine ⟨⟨h1,h2⟩,?_⟩
    by_cases hs:x.State=2
    · exact .inr (by have:=h3 hs;omega)
    · exact .inl hs
def doneF (l:List A2) (rs:List A3) (a:A2) (ts:Int) (K:Keys) (x:A2):A2 :=
  if x.ID=a.ID then { x with In:=x.In || l.any (U1 rs a K),State:=2,End:=ts,Keys:=K } else if U1 rs a K x then { x with Out:=true } else x
theorem inv_done (h:Inv saneK w) {a:A2} (ha:a ∈ w.c.Txs) (h1:a.State=1) (K:Keys) (hts:a.Begin<w.now+1∧w.now+1≤maxTs) (hK:saneK K) (hro:¬ (a.RO=true∧K≠[]))
    (hcf:∀ x ∈ w.c.Txs,x.State=2→a.Begin<x.End→∀ k ∈ K,k ∉ x.Keys) (hpass:∀ x ∈ w.c.Txs,U1 w.c.Reads.L a K x=true→x.State=2→x.In=false)
    (hpiv:¬ ((a.In || w.c.Txs.any (U1 w.c.Reads.L a K))=true∧a.Out=true)) (d0:Ah0) (e0:d0.ID=a.ID∧d0.Begin=a.Begin∧d0.End=w.now+1∧d0.Keys=K) :
    Inv saneK ⟨⟨w.c.Txs.map (doneF w.c.Txs w.c.Reads.L a (w.now+1) K),w.c.Reads⟩,w.now+1,w.begun,w.did++[d0],w.read⟩:=by
  have key:∀ {P:A2→Prop},(∀ x ∈ w.c.Txs,P (doneF w.c.Txs w.c.Reads.L a (w.now+1) K x))→∀ x ∈ w.c.Txs.map (doneF w.c.Txs w.c.Reads.L a (w.now+1) K),P x:=fun h1 x hx=>by
    obtain ⟨y,hy,rfl⟩:=yP.1 hx
    exact h1 y hy
  have keyD:∀ {P:Ah0→Prop},(∀ x ∈ w.did,P x)→P d0→∀ x ∈ w.did++[d0],P x:=fun h1 h2 x hx=>by
    rcases yL.1 hx with hx | hx
    · exact h1 x hx
    · rw [zW.1 hx];exact h2
  obtain ⟨q1,q2,q3,q4⟩:=e0
  have G:∀ x,(doneF w.c.Txs w.c.Reads.L a (w.now+1) K x).ID=x.ID∧(doneF w.c.Txs w.c.Reads.L a (w.now+1) K x).Begin=x.Begin∧(doneF w.c.Txs w.c.Reads.L a (w.now+1) K x).RO=x.RO:=fun x=>by
    unfold doneF
    split
    · exact ⟨rfl,rfl,rfl⟩
    · split <;> exact ⟨rfl,rfl,rfl⟩
  have N:∀ x ∈ w.c.Txs,x≠a→(doneF w.c.Txs w.c.Reads.L a (w.now+1) K x)=if U1 w.c.Reads.L a K x then { x with Out:=true } else x:=fun x hx hne=>by
    unfold doneF
    rw [if_neg fun e=>hne (h.one hx ha e)]
  have A:doneF w.c.Txs w.c.Reads.L a (w.now+1) K a={ a with In:=a.In || w.c.Txs.any (U1 w.c.Reads.L a K),State:=2,End:=w.now+1,Keys:=K }:=by
    unfold doneF
    rw [if_pos rfl]
  have F:∀ x ∈ w.c.Txs,x≠a→(doneF w.c.Txs w.c.Reads.L a (w.now+1) K x).End=x.End∧(doneF w.c.Txs w.c.Reads.L a (w.now+1) K x).State=x.State∧(doneF w.c.Txs w.c.Reads.L a (w.now+1) K x).Keys=x.Keys∧(doneF w.c.Txs w.c.Reads.L a (w.now+1) K x).In=x.In∧(x.Out=true→(doneF w.c.Txs w.c.Reads.L a (w.now+1) K x).Out=true):=fun x hx hne=>by
    rw [N x hx hne]
    split
    · exact ⟨rfl,rfl,rfl,rfl,fun _=>rfl⟩
    · exact ⟨rfl,rfl,rfl,rfl,fun h=>h⟩
  have hex:∀ {x i},x ∈ w.c.Txs→x.ID=i→∃ y ∈ w.c.Txs.map (doneF w.c.Txs w.c.Reads.L a (w.now+1) K),y.ID=i:=fun {x i} hx e=>⟨_,yP.2 ⟨x,hx,rfl⟩,by rw [(G x).1,e]⟩
  have hend:∀ d ∈ w.did,d.End≤w.now:=fun d hd=>(h.did0 d hd).2.2.2.1
  have hdon:∀ x ∈ w.c.Txs.map (doneF w.c.Txs w.c.Reads.L a (w.now+1) K),x.State=2→∃ d ∈ w.did++[d0],d.ID=x.ID∧d.Begin=x.Begin∧d.End=x.End∧d.Keys=x.Keys:=by
    refine key fun x hx hs=>?_
    by_cases hxa:x=a
    · subst hxa
      rw [A]
      exact ⟨d0,wP _ (List.mem_singleton_self _),q1,q2,q3,q4⟩
    · obtain ⟨f1,f2,f3,f4,f5⟩:=F x hx hxa
      rw [f2] at hs
      rw [(G x).1,(G x).2.1,f1,f3]
      obtain ⟨d,hd,e⟩:=h.don x hx hs
      exact ⟨d,wS _ hd,e⟩
  constructor
  · exact h.gr
  · intro r hr
    obtain ⟨y,hy,e⟩:=h.ri r hr
    exact hex hy e
  · show (w.c.Txs.map _).length≤64
    rw [z8];exact h.len
  · refine key fun x hx=>?_
    have he:=h.each x hx
    by_cases hxa:x=a
    · subst hxa
      rw [A]
      exact ⟨he.id,he.beg,.inr ⟨rfl,hts.1,hts.2,hK,hro⟩⟩
    · obtain ⟨f1,f2,f3,f4,f5⟩:=F x hx hxa
      exact ⟨by rw [(G x).1];exact he.id,by rw [(G x).2.1];exact he.beg,by rw [(G x).2.1,(G x).2.2,f1,f2,f3];exact he.st⟩
  · refine wK.2 (h.ids.imp fun {x y} hne=>?_)
    rw [(G x).1,(G y).1];exact hne
  · show 0≤w.now+1
    have:=h.now0;omega
  · intro b hb
    have:=h.beg b hb
    show 0≤b∧b≤w.now+1
    omega
  · refine key fun x hx=>?_
    rw [(G x).1,(G x).2.1];exact h.act x hx
  · exact hdon
  · refine keyD (fun d hd=>?_) ⟨by rw [q1];exact (h.each a ha).id,by rw [q1,q2];exact h.act a ha,by rw [q2,q3];exact hts.1,by rw [q3];exact xU _,by rw [q4];exact hK⟩
    obtain ⟨g1,g2,g3,g4,g5⟩:=h.did0 d hd
    exact ⟨g1,g2,g3,by show d.End≤w.now+1;omega,g5⟩
  · refine wT.2 ⟨h.didE,wL ..,fun x hx y hy=>?_⟩
    rw [zW.1 hy,q3]
    have:=hend x hx;omega
theorem Avr (l:List A2) (h:l.length≤1000000):N7 l=some (l.map (·.ID)):=by
  unfold N7
  rw [Ako l (fun x=>[x.ID]) (Kw l) 1 (fun x=>by simp) (by omega) (fun i x acc hx ha=>by
    have hlt:=(zC.1 hx).1
    unfold Kw
    dsimp only
    rw [if_pos (decide_eq_true (by omega)),Bn,hx,zA,if_pos (by rw [yE];omega),Cb (by omega) (by omega)]
    rfl) (fun acc=>by
    unfold Kw
    dsimp only
    rw [if_neg (by rw [decide_eq_true_eq];omega)]),zA,Aos]
  rfl
theorem Am7 {xs:Keys} (hn:xs.length≤1000000000000000000) (h:Ck xs=some true):PW xs:=by
  obtain ⟨v,hv,hr⟩:=Dh (f:=Cl xs) (P:=fun s=>∃ i:Nat,s=(i:Int)∧1≤i∧∀ j a b,j+1<i→xs[j]? = some a→xs[j+1]? = some b→Gg a b<0) (μ:=fun s=>xs.length-s.toNat)
    (R:=fun v=>match v with | .inl r=>r=false | .inr _=>∀ j a b,xs[j]? = some a→xs[j+1]? = some b→Gg a b<0) (by
    rintro _ ⟨i,rfl,h1,h2⟩
    unfold Cl
    by_cases hi:i<xs.length
    · have e1:=zB hi
      have e2:=zB (show i-1<xs.length by omega)
      rw [if_pos (decide_eq_true (by omega)),Cb (by omega) (by omega),show (i:Int)-1=((i-1:Nat):Int) from by omega,Bn,Bn,e1,e2]
      simp only [zA,Acd]
      by_cases hc:0≤Gg xs[i-1] xs[i]
      · right;right
        rw [if_pos (decide_eq_true hc)]
        exact ⟨_,rfl,rfl⟩
      · left
        rw [if_neg (by rw [decide_eq_true_eq];omega)]
        refine ⟨_,rfl,⟨i+1,by rw [Cb (by omega) (by omega)];rfl,by omega,fun j a b hj ha hb=>?_⟩,by rw [Cb (by omega) (by omega)];omega⟩
        rcases zO (j+1) i with hlt | hge
        · exact h2 j a b hlt ha hb
        · have:j=i-1:=by omega
          subst this
          rw [show i-1+1=i from by omega] at hb
          rw [e2] at ha;rw [e1] at hb
          rw [← zD ha,← zD hb];omega
    · right;left
      rw [if_neg (by rw [decide_eq_true_eq];omega)]
      refine ⟨_,rfl,fun j a b ha hb=>h2 j a b ?_ ha hb⟩
      have:=(zC.1 hb).1
      omega) fuel 1 ⟨1,rfl,zN _,fun j _ _ hj=>by omega⟩ (Ce (by show xs.length-1≤_;omega))
  unfold Ck at h
  rw [hv] at h
  cases v with
  | inl r =>
    have hr:r=false:=hr
    rw [hr] at h;cases h
  | inr u =>
    have key:∀ d i a b,xs[i]? = some a→xs[i+(d+1)]? = some b→Gg a b<0:=fun d=>by
      induction d with
      | zero=>exact hr
      | succ d ih =>
        intro i a b ha hb
        have hlt:=(zC.1 hb).1
        have hm:=zB (show i+(d+1)<xs.length by omega)
        have h1:=ih i a _ ha hm
        have h2:=hr _ _ _ hm (by rw [show i+(d+1)+1=i+(d+1+1) from by omega];exact hb)
        exact (M8 (kP h1) (kP h2)).2 (.inl h1)
    refine yK.2 fun i j hi hj hij=>?_
    refine key (j-i-1) i _ _ (zB hi) ?_
    rw [show i+(j-i-1+1)=j from by omega]
    exact zB hj
structure KS (K:Keys):Prop where
  each:∀ k ∈ K,1≤k.length∧k.length≤16
  pw:PW K
theorem Amf (k:List UInt8):E1 k=some (decide (1≤k.length∧k.length≤16)):=by
  unfold E1
  by_cases h1:(1:Int)≤k.length
  · rw [if_pos (decide_eq_true h1)]
    congr 1
    rw [decide_eq_decide];omega
  · rw [if_neg (by rw [decide_eq_true_eq];exact h1),decide_eq_false (by omega)]
theorem Sf (K:Keys) (hn:K.length≤1000000000000000000):∃ b,Ht K=some b∧(b=true ↔ KS K):=by
  unfold Ht
  rw [Ayd K (fun k=>decide (1≤k.length∧k.length≤16)) false (Fa K) hn (fun i x hx=>by
    have hlt:=(zC.1 hx).1
    unfold Fa
    rw [if_pos (decide_eq_true (by omega)),Bn,hx,zA,Amf,zA,Cb (by omega) (by omega)]
    cases decide (1≤x.length∧x.length≤16) <;> rfl) (by
    unfold Fa
    rw [if_neg (by rw [decide_eq_true_eq];omega)])]
  cases ha:K.all (fun k=>decide (1≤k.length∧k.length≤16)) with
  | false =>
    refine ⟨false,rfl,(fun h=>by cases h),fun h=>?_⟩
    rw [zJ.2 fun k hk=>decide_eq_true (h.each k hk)] at ha;cases ha
  | true =>
    show ∃ b,G1 K ()=some b∧_
    unfold G1
    obtain ⟨v,hv⟩:=sorted_some K hn
    rw [hv]
    refine ⟨v,rfl,?_⟩
    constructor
    · intro h
      rw [h] at hv
      exact ⟨fun k hk=>of_decide_eq_true (zJ.1 ha k hk),Am7 hn hv⟩
    · intro h
      rw [Zi h.pw hn] at hv
      exact (zD hv).symm
theorem Aje {x:A2} (h:Ajy x KS) (hn:x.Keys.length≤1000000000000000000):J8 x=some true:=by
  unfold J8
  have h1:=h.id
  have h2:=h.beg
  have h2':x.Begin≤1099511627776:=h2.2
  rw [if_neg (by rw [decide_eq_true_eq];omega),if_neg (by rw [decide_eq_true_eq];omega),if_neg (by rw [decide_eq_true_eq];omega)]
  unfold L6
  rcases h.st with ⟨a,b,c⟩ | ⟨a,b,c,d,e⟩
  · rw [if_pos (decide_eq_true a),if_pos (decide_eq_true b),c];rfl
  · have c':x.End≤1099511627776:=c
    rw [if_neg (by rw [decide_eq_true_eq];omega),if_pos (decide_eq_true a),if_pos (decide_eq_true b),if_pos (decide_eq_true c')]
    obtain ⟨v,hv,hi⟩:=Sf x.Keys hn
    rw [hv,zA,hi.2 d,if_pos rfl]
    cases hro:x.RO with
    | false=>rfl
    | true =>
      have:x.Keys=[]:=by
        rcases j4 x.Keys with h | h
        · exact h
        · exact absurd ⟨hro,by rw [show x.Keys=_ from h.choose_spec.choose_spec];simp⟩ e
      rw [if_pos rfl,this];rfl
structure SC (c:Bc):Prop where
  gr:Good c.Reads.L
  ri:∀ r ∈ c.Reads.L,∃ x ∈ c.Txs,x.ID=r.Tx
  len:c.Txs.length≤64
  each:∀ x ∈ c.Txs,Ajy x KS
  ids:c.Txs.Pairwise (fun x y=>x.ID≠y.ID)
  ends:∀ x ∈ c.Txs,∀ y ∈ c.Txs,x.State=2→y.State=2→x.End=y.End→x.ID=y.ID
  keys:∀ x ∈ c.Txs,x.Keys.length≤16
theorem SC.one {c:Bc} (h:SC c) {x y:A2} (hx:x ∈ c.Txs) (hy:y ∈ c.Txs) (e:x.ID=y.ID):x=y:=pw_eq h.ids hx hy (fun n=>n e) (fun n=>n e.symm)
theorem SC.st {c:Bc} (h:SC c) {x:A2} (hx:x ∈ c.Txs):x.State=1∨x.State=2:=by
  rcases (h.each x hx).st with h | h
  · exact .inl h.1
  · exact .inr h.1
theorem Atq (a b:A2) (h1:a.ID≠b.ID) (h2:¬ (a.State=2∧b.State=2∧a.End=b.End)):Np a b=some false:=by
  have key:∀ w,Hs a b w=some false:=fun w=>by
    unfold Hs
    rw [if_neg (by rw [decide_eq_true_eq];exact h1)]
    by_cases c1:a.State=2
    · rw [if_pos (decide_eq_true c1)]
      by_cases c2:b.State=2
      · rw [if_pos (decide_eq_true c2),if_neg (by rw [decide_eq_true_eq];exact fun c3=>h2 ⟨c1,c2,c3⟩)]
      · rw [if_neg (by rw [decide_eq_true_eq];exact c2)]
    · rw [if_neg (by rw [decide_eq_true_eq];exact c1)]
  unfold Np
  rw [key,key]
  split <;> rfl
theorem sane_c {c:Bc} (h:SC c):K4 c=some true:=by
  unfold K4
  have hl:=h.len
  rw [if_neg (by rw [decide_eq_true_eq];omega),show F9 c.Reads=some true from Abp h.gr,zA,if_neg (nn (by rfl))]
  unfold Ow
  rw [Az8 c.Txs (Ka c) (by omega) (fun i x hx=>by
    have hlt:=(zC.1 hx).1
    have hxm:=zI hx
    unfold Ka
    rw [if_pos (decide_eq_true (by omega)),Bn,hx,zA,Aje (h.each x hxm) (by have:=h.keys x hxm;omega),zA,if_neg (nn (by rfl)),Aaq (xU _) (xK _) (by omega),zA]
    rw [show (c.Txs.drop (0:Int).toNat).take ((i:Int).toNat-(0:Int).toNat)=c.Txs.take i from rfl]
    rw [Az8 (c.Txs.take i) (Il x (c.Txs.take i)) (by rw [zL];omega) (fun j y hy=>by
      have hj:=(zC.1 hy).1
      have hjl:j<i:=by rw [zL] at hj;omega
      have hy':c.Txs[j]? = some y:=by rw [List.getElem?_take_of_lt hjl] at hy;exact hy
      have hne:x.ID≠y.ID:=by
        obtain ⟨p1,p2⟩:=zC.1 hy'
        obtain ⟨q1,q2⟩:=zC.1 hx
        have:=yK.1 h.ids j i p1 q1 hjl
        rw [p2,q2] at this
        exact fun e=>this e.symm
      unfold Il
      rw [if_pos (decide_eq_true (by omega)),Bn,hy,zA,Atq _ _ hne (fun hc=>hne (h.ends x hxm y (zI hy') hc.1 hc.2.1 hc.2.2)),zA,if_neg (nn (by rfl)),Cb (by omega) (by omega)]
      rfl) (by
      unfold Il
      rw [if_neg (by rw [decide_eq_true_eq];omega)]),zA]
    show Mp _ _=_
    unfold Mp
    rw [Cb (by omega) (by omega)];rfl) (by
    unfold Ka
    rw [if_neg (by rw [decide_eq_true_eq];omega)]),zA]
  show Mw _ _=_
  unfold Mw
  rw [Avr _ (by omega),zA,Aqz (l:=c.Reads.L) (by have:=h.gr.len;omega) _ (by rw [z8];omega),zA]
  have:Aa3 c.Reads.L (c.Txs.map (·.ID)) false=[]:=by
    unfold Aa3
    refine jA.2 fun r hr=>?_
    obtain ⟨x,hx,e⟩:=h.ri r hr
    rw [decide_eq_true (yP.2 ⟨x,hx,e⟩)];decide
  rw [this];rfl
theorem Asf (xs:List Int) (t:Int) (hl:xs.length≤1000000):(t ∉ xs∧Ep xs t=some (-1))∨∃ i:Nat,xs[i]? = some t∧Ep xs t=some (i:Int):=by
  unfold Ep
  obtain ⟨v,hv,hr⟩:=Dh (f:=Dq xs t) (P:=fun s=>∃ i:Nat,i≤xs.length∧s=(i:Int)∧t ∉ xs.take i) (μ:=fun s=>xs.length-s.toNat)
    (R:=fun x=>match x with | .inl r=>∃ i:Nat,xs[i]? = some t∧r=(i:Int) | .inr _=>t ∉ xs) (by
      rintro _ ⟨i,hi,rfl,hp⟩
      unfold Dq
      rcases zO i xs.length with hlt | hge
      · have hx:=zB hlt
        rw [if_pos (decide_eq_true (by omega)),Bn,hx,zA,Cb (by omega) (by omega)]
        by_cases he:t=xs[i]
        · rw [if_pos (decide_eq_true he)]
          exact .inr (.inr ⟨_,rfl,i,by rw [hx,← he],rfl⟩)
        · rw [if_neg (by rw [decide_eq_true_eq];exact he)]
          refine .inl ⟨_,rfl,⟨i+1,hlt,rfl,?_⟩,by simp only [zR];omega⟩
          rw [zM hlt,yL,zW]
          rintro (h | h)
          · exact hp h
          · exact he h
      · have e:i=xs.length:=by omega
        subst e
        rw [if_neg (by rw [decide_eq_true_eq];omega)]
        rw [yI] at hp
        exact .inr (.inl ⟨_,rfl,hp⟩)) fuel 0 ⟨0,zY _,rfl,by simp⟩ (Ce (by show xs.length-0≤_;omega))
  rw [hv]
  cases v with
  | inl r =>
    obtain ⟨i,h1,h2⟩:=hr
    refine .inr ⟨i,h1,?_⟩
    rw [h2];rfl
  | inr u=>exact .inl ⟨hr,rfl⟩
theorem Tw (c:Bc) (id:Int) (hl:c.Txs.length≤1000000):((∀ x ∈ c.Txs,x.ID≠id)∧Hd c id=some (-1))∨∃ (i:Nat) (x:A2),c.Txs[i]? = some x∧x.ID=id∧Hd c id=some (i:Int):=by
  unfold Hd
  rw [Avr _ hl,zA]
  rcases Asf (c.Txs.map (·.ID)) id (by rw [z8];exact hl) with ⟨h,e⟩ | ⟨i,h,e⟩
  · left
    rw [e]
    exact ⟨fun x hx e'=>h (yP.2 ⟨x,hx,e'⟩),rfl⟩
  · right
    rw [zQ] at h
    cases hx:c.Txs[i]? with
    | none=>rw [hx] at h;cases h
    | some x =>
      rw [hx] at h
      refine ⟨i,x,hx,zD h,?_⟩
      rw [e];rfl
theorem Acg {c:Bc} (h:SC c) (id:Int):((∀ x ∈ c.Txs,x.ID=id→x.State≠1)∧Gc c id=some (-1))∨∃ (i:Nat) (x:A2),c.Txs[i]? = some x∧x.ID=id∧x.State=1∧Gc c id=some (i:Int):=by
  unfold Gc
  rcases Tw c id (by have:=h.len;omega) with ⟨h1,e⟩ | ⟨i,x,hx,e1,e⟩
  · rw [e,zA]
    exact .inl ⟨fun x hx e=>absurd e (h1 x hx),rfl⟩
  · rw [e,zA,if_neg (by rw [decide_eq_true_eq];omega),Bn,hx,zA]
    by_cases hs:x.State=1
    · rw [decide_eq_true hs]
      exact .inr ⟨i,x,hx,e1,hs,rfl⟩
    · rw [decide_eq_false hs]
      refine .inl ⟨fun y hy ey=>?_,rfl⟩
      rw [h.one hy (zI hx) (ey.trans e1.symm)]
      exact hs
abbrev cN:Bc:=⟨[],⟨[]⟩⟩
theorem begin_m {c:Bc} (h:SC c) (id snap:Int) (ro:Bool) (h0:0≤id) (h1:0≤snap) (h2:snap≤maxTs) :
    ((∃ x ∈ c.Txs,x.ID=id)∧Jg c id snap ro=some (cN,7))∨((∀ x ∈ c.Txs,x.ID≠id)∧(64≤c.Txs.length∧Jg c id snap ro=some (cN,8)∨c.Txs.length<64∧Jg c id snap ro=some (⟨c.Txs++[⟨id,snap,0,1,false,false,ro,[]⟩],c.Reads⟩,0))):=by
  unfold Jg
  have hl:=h.len
  rw [sane_c h,zA,if_neg (nn (by rfl)),Aje ⟨h0,⟨h1,h2⟩,.inl ⟨rfl,rfl,rfl⟩⟩ (by simp),zA,if_neg (nn (by rfl))]
  rcases Tw c id (by omega) with ⟨h1,e⟩ | ⟨i,x,hx,e1,e⟩
  · right
    refine ⟨h1,?_⟩
    rw [e,zA,if_neg (by decide)]
    by_cases h64:64≤c.Txs.length
    · rw [if_pos (decide_eq_true (by omega))]
      exact .inl ⟨h64,rfl⟩
    · rw [if_neg (by rw [decide_eq_true_eq];omega),U9 _ (by simp;omega) (by simp)]
      refine .inr ⟨by omega,?_⟩
      simp
  · left
    refine ⟨⟨x,zI hx,e1⟩,?_⟩
    rw [e,zA,if_pos (decide_eq_true (by omega))]
theorem Ak3 (x:A2) (r:Bg) (hl:x.Keys.length≤1000000):Ll x r=some (Amk r x.Keys):=by
  unfold Ll
  rw [Ann x.Keys (Af6 r) (fun _=>true) (F3 x r) (by omega) (fun i k hk=>by
    have hlt:=(zC.1 hk).1
    unfold F3
    rw [if_pos (decide_eq_true (by omega)),Bn,hk,zA,Anx,zA,Cb (by omega) (by omega)]
    cases Af6 r k <;> rfl) (by
    unfold F3
    rw [if_neg (by rw [decide_eq_true_eq];omega)]),zA]
  unfold Amk
  cases hf:x.Keys.find? (Af6 r) with
  | none =>
    rw [show x.Keys.any (Af6 r)=false from j0.2 fun k hk=>by have:=kQ.1 hf k hk;simpa using this];rfl
  | some k=>rw [w4.2 ⟨k,jQ hf,by have:=List.find?_some hf;exact this⟩]
theorem Ajb (x a:A2) (ha:a.State=1):E2 x a=some (!(decide (x.State=2) && decide (x.End≤a.Begin))):=by
  unfold E2 Lr
  rw [if_neg (show ¬ decide (a.State=2)=true by rw [ha];decide)]
  by_cases hs:x.State=2
  · rw [if_pos (decide_eq_true hs),decide_eq_true hs,wM,zA]
    cases decide (x.End≤a.Begin) <;> rfl
  · rw [if_neg (by rw [decide_eq_true_eq];exact hs),decide_eq_false hs];rfl
theorem Apf (x a:A2) (ha:a.State=1):E2 a x=some (!(decide (x.State=2) && decide (x.End≤a.Begin))):=by
  unfold E2 Lr
  rw [if_neg (show ¬ decide (a.State=2)=true by rw [ha];decide)]
  by_cases hs:x.State=2
  · rw [if_pos (decide_eq_true hs),decide_eq_true hs,wM,zA]
    cases decide (x.End≤a.Begin) <;> rfl
  · rw [if_neg (by rw [decide_eq_true_eq];exact hs),decide_eq_false hs];rfl
theorem Anu (l:List A2) (h:l.length≤1000000):Dw l=some l:=by
  unfold Dw
  rw [if_pos (by simp;omega)];rfl
def Ty (l:List A2) (at':Nat) (p:A2→Bool) (f:Bool→A2→A2) (g:A2→A2) (i j:Nat) (x:A2):A2 :=
  if j=at' then f ((l.take i).any p) x else if j<i∧p x=true then g x else x
theorem Afy (l:List A2) (at':Nat) (p:A2→Bool) (f:Bool→A2→A2) (g:A2→A2) {i:Nat} {x:A2} (hx:l[i]? = some x) (hp:p x=false) (j:Nat) (y:A2) (hy:l[j]? = some y) :
    Ty l at' p f g (i+1) j y=Ty l at' p f g i j y:=by
  obtain ⟨hlt,rfl⟩:=zC.1 hx
  unfold Ty
  rw [zM hlt,List.any_append]
  simp only [List.any_cons,j7,hp,Bool.or_false]
  split
  · rfl
  · by_cases hji:j<i
    · simp only [show j<i+1 from by omega,hji]
    · by_cases hj:j=i
      · subst hj
        rw [hx] at hy
        rw [← zD hy,hp];simp
      · simp only [show ¬ j<i+1 from by omega,hji]
theorem A0b (l:List A2) (a b:Nat) {x y:A2} (hne:a≠b) (hx:l[a]? = some x) (hy:l[b]? = some y) :
    Fx l (a:Int) (b:Int)=some ((l.set a { x with Out:=true }).set b { y with In:=true }):=by
  have ha:=(zC.1 hx).1
  unfold Fx Lg Li
  rw [Bn,hx]
  simp only [zA,zR]
  rw [Bn,z6 hne,hy]
  rfl
theorem Ahk (x:A2):Jt x=some (x.In && x.Out):=by
  unfold Jt
  cases x.In <;> rfl
theorem Ap8 {c:Bc} (h:SC c) (r:Bg) {n:Nat} {a:A2} (ha:c.Txs[n]? = some a) (h1:a.State=1) :
    ∃ v,Lj (Fi r (n:Int) c.Txs) fuel (0,c.Txs)=some v ∧
      (match v with
        | .inl q=>q=(cN,10)∧∃ x ∈ c.Txs,Qk a r x=true∧x.Out=true
        | .inr l=>l=c.Txs.map (Rv c.Txs a r)∧∀ x ∈ c.Txs,Qk a r x=true→x.Out=false):=by
  have hl:=h.len
  have ham:=zI ha
  have hpa:Qk a r a=false:=by unfold Qk;rw [h1];rfl
  let F:=Ty c.Txs n (Qk a r) (fun b x=>{ x with Out:=x.Out || b }) (fun x=>{ x with In:=true })
  refine Dh (f:=Fi r (n:Int) c.Txs) (P:=fun s=>∃ i:Nat,i≤c.Txs.length∧s.1=(i:Int)∧s.2.length=c.Txs.length∧(∀ (j:Nat) (x:A2),c.Txs[j]? = some x→s.2[j]? = some (F i j x))∧∀ x ∈ c.Txs.take i,Qk a r x=true→x.Out=false) (μ:=fun s=>c.Txs.length-s.1.toNat) (R:=fun v=>match v with
        | .inl q=>q=(cN,10)∧∃ x ∈ c.Txs,Qk a r x=true∧x.Out=true
        | .inr l=>l=c.Txs.map (Rv c.Txs a r)∧∀ x ∈ c.Txs,Qk a r x=true→x.Out=false) ?_ fuel (0,c.Txs) ⟨0,zY _,rfl,rfl,fun j x hx=>?_,by simp⟩ (Ce (by show c.Txs.length-0≤_;omega))
  · rintro ⟨_,l⟩ ⟨i,hi,rfl,hll,hF,hno⟩
    dsimp only at hll hF
    unfold Fi
    dsimp only
    rcases zO i c.Txs.length with hlt | hge
    · have hx:=zB hlt
      generalize c.Txs[i]=x at hx
      have hxm:=zI hx
      have hstep:Qk a r x=false→∃ s',(some (LR.cont (wI ((i:Int)+1),l)):Option (LR (Int × List A2) (List A2) (Bc × Int)))=some (.cont s')∧(∃ k:Nat,k≤c.Txs.length∧s'.1=(k:Int)∧s'.2.length=c.Txs.length∧(∀ (j:Nat) (x:A2),c.Txs[j]? = some x→s'.2[j]? = some (F k j x))∧∀ x ∈ c.Txs.take k,Qk a r x=true→x.Out=false)∧c.Txs.length-s'.1.toNat<c.Txs.length-(i:Int).toNat:=fun hp=>by
        refine ⟨_,rfl,⟨i+1,hlt,by rw [Cb (by omega) (by omega)];rfl,hll,fun j y hy=>?_,fun y hy hpy=>?_⟩,by rw [Cb (by omega) (by omega)];omega⟩
        · show l[j]? = some (Ty _ _ _ _ _ (i+1) j y)
          rw [Afy _ _ _ _ _ hx hp j y hy];exact hF j y hy
        · rw [zM hlt,yL,zW] at hy
          rcases hy with hy | hy
          · exact hno y hy hpy
          · rw [zB hlt] at hx
            rw [hy,zD hx,hp] at hpy;cases hpy
      rw [if_pos (decide_eq_true (by omega)),Bn,hF i x hx,zA]
      by_cases hin:i=n
      · subst hin
        have:x=a:=by rw [ha] at hx;exact (zD hx).symm
        subst this
        left
        rw [if_pos (by
          show (!decide ((F i i x).State=2))=true
          have:(F i i x).State=x.State:=by show (Ty _ _ _ _ _ i i x).State=_;unfold Ty;rw [if_pos rfl]
          rw [this,h1];rfl)]
        exact hstep hpa
      · have eF:F i i x=x:=by show Ty _ _ _ _ _ i i x=_;unfold Ty;rw [if_neg hin,if_neg (fun e=>by omega)]
        rw [eF]
        have hFa:F i n a={ a with Out:=a.Out || (c.Txs.take i).any (Qk a r) }:=by show Ty _ _ _ _ _ i n a=_;unfold Ty;rw [if_pos rfl]
        by_cases hs:x.State=2
        · rw [if_neg (by rw [decide_eq_true hs];decide),Bn,hF n a ha,zA,Ajb x _ (by rw [hFa];exact h1),zA,decide_eq_true hs,wM,Bool.not_not]
          rw [show (F i n a).Begin=a.Begin from by rw [hFa]]
          by_cases he:x.End≤a.Begin
          · rw [if_pos (decide_eq_true he)]
            exact .inl (hstep (by unfold Qk;rw [decide_eq_true he];simp))
          · rw [if_neg (by rw [decide_eq_true_eq];exact he),Ak3 x r (by have:=h.keys x hxm;omega),zA]
            cases hm:Amk r x.Keys with
            | false =>
              rw [if_pos (by rfl)]
              exact .inl (hstep (by unfold Qk;rw [hm];simp))
            | true =>
              have hp:Qk a r x=true:=Amg.2 ⟨hs,by omega,hm⟩
              rw [if_neg (nn (by rfl))]
              unfold Nx Hj
              dsimp only
              rw [zA,A0b l n i (fun e=>hin e.symm) (hF n a ha) (by rw [hF i x hx,eF]),zA,if_pos (by simp),Bn,zS (by rw [xH];omega),zA,Ahk,zA]
              dsimp only
              rw [wM]
              cases ho:x.Out with
              | true =>
                rw [if_pos rfl]
                exact .inr (.inr ⟨_,rfl,rfl,x,hxm,hp,ho⟩)
              | false =>
                rw [if_neg (nn (by rfl))]
                refine .inl ⟨_,rfl,⟨i+1,hlt,by rw [Cb (by omega) (by omega)];rfl,by simp [hll],fun j y hy=>?_,fun y hy hpy=>?_⟩,by rw [Cb (by omega) (by omega)];omega⟩
                · show (List.set _ i _)[j]? = some (Ty _ _ _ _ _ (i+1) j y)
                  have hjl:=(zC.1 hy).1
                  unfold Ty
                  by_cases hji:j=i
                  · subst hji
                    rw [hx] at hy
                    have:=zD hy
                    subst this
                    rw [zS (by rw [xH];omega),if_neg hin,if_pos ⟨by omega,hp⟩]
                    dsimp only
                    rw [ho]
                  · rw [z6 (fun e=>hji e.symm)]
                    by_cases hjn:j=n
                    · subst hjn
                      rw [ha] at hy
                      have:=zD hy
                      subst this
                      rw [zS (by omega),if_pos rfl,zM hlt,List.any_append,hFa]
                      have:c.Txs[i]=x:=by rw [zB hlt] at hx;exact zD hx
                      rw [this]
                      simp only [List.any_cons,j7,hp,Bool.or_true,Bool.true_or]
                    · rw [z6 (fun e=>hjn e.symm),if_neg hjn,hF j y hy]
                      show some (Ty _ _ _ _ _ i j y)=_
                      unfold Ty
                      rw [if_neg hjn]
                      by_cases hlt':j<i
                      · simp only [hlt',show j<i+1 from by omega]
                      · simp only [hlt',show ¬ j<i+1 from by omega]
                · rw [zM hlt,yL,zW] at hy
                  rcases hy with hy | hy
                  · exact hno y hy hpy
                  · rw [zB hlt] at hx
                    rw [hy,zD hx];exact ho
        · rw [if_pos (by rw [decide_eq_false hs];rfl)]
          exact .inl (hstep (by unfold Qk;rw [decide_eq_false hs];rfl))
    · have e:i=c.Txs.length:=by omega
      subst e
      rw [if_neg (by rw [decide_eq_true_eq];omega)]
      refine .inr (.inl ⟨_,rfl,?_,by rw [yI] at hno;exact hno⟩)
      apply wB
      intro j
      rw [zQ]
      cases hy:c.Txs[j]? with
      | none =>
        have hy:=xR.1 hy
        exact xR.2 (by omega)
      | some y =>
        rw [hF j y hy]
        show some (Ty _ _ _ _ _ _ j y)=some (Rv _ _ _ y)
        have hjl:=(zC.1 hy).1
        unfold Ty Rv
        rw [yI]
        by_cases hjn:j=n
        · subst hjn
          rw [ha] at hy
          have:=zD hy
          subst this
          rw [if_pos rfl,if_pos rfl]
        · have hne:y.ID≠a.ID:=fun e=>by
            have hya:=h.one (zI hy) ham e
            obtain ⟨p1,p2⟩:=zC.1 hy
            obtain ⟨q1,q2⟩:=zC.1 ha
            rcases Nat.lt_or_gt_of_ne hjn with hh | hh
            · have:=yK.1 h.ids j n p1 q1 hh
              rw [p2,q2] at this;exact this e
            · have:=yK.1 h.ids n j q1 p1 hh
              rw [p2,q2] at this;exact this e.symm
          rw [if_neg hjn,if_neg hne]
          simp only [hjl,true_and]
  · show c.Txs[j]? = some (Ty _ _ _ _ _ 0 j x)
    rw [hx]
    unfold Ty
    rw [jV]
    simp only [j7,Bool.or_false,zT,false_and,if_false]
    split <;> rfl
theorem read_m {c:Bc} (h:SC c) (id:Int) (r:Bg) :
    ((∀ x ∈ c.Txs,x.ID=id→x.State≠1)∧F6 c id r=some (cN,7)) ∨
    ∃ a ∈ c.Txs,a.ID=id∧a.State=1 ∧
      ((∃ e,(e=1∨(e=8∧128≤c.Reads.L.length))∧F6 c id r=some (cN,e)) ∨
       ((∃ x ∈ c.Txs,Qk a r x=true∧x.Out=true)∧F6 c id r=some (cN,10)) ∨
       ∃ rs,Good rs∧(∀ x ∈ c.Reads.L,x ∈ rs)∧(⟨a.ID,r⟩:A3) ∈ rs∧(∀ x ∈ rs,x ∈ c.Reads.L∨x=⟨a.ID,r⟩)∧rs.length≤c.Reads.L.length+1∧(∀ x ∈ c.Txs,Qk a r x=true→x.Out=false) ∧
         F6 c id r=some (⟨c.Txs.map (Rv c.Txs a r),⟨rs⟩⟩,0)):=by
  unfold F6
  rw [sane_c h,zA,if_neg (nn (by rfl))]
  rcases Acg h id with ⟨h1,e⟩ | ⟨i,a,ha,e1,e2,e⟩
  · rw [e,zA]
    exact .inl ⟨h1,rfl⟩
  · right
    refine ⟨a,zI ha,e1,e2,?_⟩
    rw [e,zA,if_neg (by rw [decide_eq_true_eq];omega)]
    have hfin:∀ rs:List A3,((Dw c.Txs).bind fun v4=>(Lj (Fi r (i:Int) v4) fuel (0,v4)).bind fun x=>match x with | .inl r=>some r | .inr e17=>Ln ((⟨rs⟩:Bv),(0:Int)) e17)=some (cN,10)∧(∃ x ∈ c.Txs,Qk a r x=true∧x.Out=true)∨((Dw c.Txs).bind fun v4=>(Lj (Fi r (i:Int) v4) fuel (0,v4)).bind fun x=>match x with | .inl r=>some r | .inr e17=>Ln ((⟨rs⟩:Bv),(0:Int)) e17)=some (⟨c.Txs.map (Rv c.Txs a r),⟨rs⟩⟩,0)∧(∀ x ∈ c.Txs,Qk a r x=true→x.Out=false):=fun rs=>by
      rw [Anu _ (by have:=h.len;omega),zA]
      obtain ⟨v,hv,hr⟩:=Ap8 h r ha e2
      rw [hv]
      cases v with
      | inl q=>exact .inl ⟨by rw [← hr.1];rfl,hr.2⟩
      | inr l=>exact .inr ⟨by rw [← hr.1];rfl,hr.2⟩
    have hg:=h.gr
    subst e1
    rcases Az3 (l:=c.Reads.L) (by have:=hg.len;omega) a.ID r with ⟨_,hs,⟨hin,e⟩ | ⟨hin,⟨h128,e⟩ | ⟨h128,e,hg'⟩⟩⟩ | ⟨_,e⟩
    · rw [e,zA,if_neg (by show ¬ (!decide ((0:Int)=0))=true;decide)]
      rcases hfin c.Reads.L with ⟨hh,hx⟩ | ⟨hh,hx⟩
      · exact .inr (.inl ⟨hx,hh⟩)
      · exact .inr (.inr ⟨c.Reads.L,hg,fun x hx=>hx,hin,fun x hx=>.inl hx,by omega,hx,hh⟩)
    · rw [e,zA,if_pos (by decide)]
      exact .inl ⟨8,.inr ⟨rfl,h128⟩,rfl⟩
    · rw [e,zA,if_neg (by show ¬ (!decide ((0:Int)=0))=true;decide)]
      rcases hfin (c.Reads.L++[⟨a.ID,r⟩]) with ⟨hh,hx⟩ | ⟨hh,hx⟩
      · exact .inr (.inl ⟨hx,hh⟩)
      · refine .inr (.inr ⟨_,hg',fun x hx=>wS _ hx,wP _ (List.mem_singleton_self _),fun x hx=>?_,by rw [zH];exact zN _,hx,hh⟩)
        rcases yL.1 hx with hx | hx
        · exact .inl hx
        · exact .inr (zW.1 hx)
    · rw [e,zA,if_pos (by decide)]
      exact .inl ⟨1,.inl rfl,rfl⟩
theorem Aqn {c:Bc} (h:SC c) (a:A2) (ts:Int) (K:Keys) (hK:K.length≤1000000) :
    ∃ b,Me c a ts K=some b∧(b=true ↔ a.Begin<ts∧ts≤maxTs∧KS K∧¬ (a.RO=true∧K≠[])∧∀ y ∈ c.Txs,y.End<ts):=by
  have hl:=h.len
  unfold Me
  by_cases h1:ts≤a.Begin
  · rw [if_pos (decide_eq_true h1)]
    exact ⟨false,rfl,(fun e=>by cases e),fun e=>by omega⟩
  rw [if_neg (by rw [decide_eq_true_eq];exact h1)]
  by_cases h2:1099511627776<ts
  · rw [if_pos (decide_eq_true h2)]
    exact ⟨false,rfl,(fun e=>by cases e),fun e=>by have:ts≤1099511627776:=e.2.1;omega⟩
  rw [if_neg (by rw [decide_eq_true_eq];exact h2)]
  obtain ⟨v,hv,hi⟩:=Sf K (by omega)
  rw [hv,zA]
  cases v with
  | false=>exact ⟨false,rfl,(fun e=>by cases e),fun e=>by have:=hi.2 e.2.2.1;cases this⟩
  | true =>
  have hks:=hi.1 rfl
  rw [if_neg (nn (by rfl))]
  have hk1:∃ b,Gs c ts ()=some b∧(b=true ↔ ∀ y ∈ c.Txs,y.End<ts):=by
    unfold Gs
    rw [Ayd c.Txs (fun y=>!decide (ts≤y.End)) false (Gp c ts) (by omega) (fun i x hx=>by
      have hlt:=(zC.1 hx).1
      unfold Gp
      rw [if_pos (decide_eq_true (by omega)),Bn,hx,zA,Cb (by omega) (by omega)]
      cases decide (ts≤x.End) <;> rfl) (by
      unfold Gp
      rw [if_neg (by rw [decide_eq_true_eq];omega)])]
    cases ha:c.Txs.all (fun y=>!decide (ts≤y.End)) with
    | true =>
      refine ⟨true,rfl,fun _ y hy=>?_,fun _=>rfl⟩
      have:=zJ.1 ha y hy
      simp only [xW,decide_eq_false_iff_not] at this
      omega
    | false =>
      refine ⟨false,rfl,(fun e=>by cases e),fun e=>?_⟩
      rw [zJ.2 fun y hy=>by have:=e y hy;simp only [xW,decide_eq_false_iff_not];omega] at ha
      cases ha
  obtain ⟨b,hb,hbi⟩:=hk1
  have h2':ts≤maxTs:=by show ts≤1099511627776;omega
  cases hro:a.RO with
  | false =>
    rw [if_neg (by decide),hb]
    exact ⟨b,rfl,hbi.trans ⟨fun e=>⟨by omega,h2',hks,fun e=>(by cases e.1),e⟩,fun e=>e.2.2.2.2⟩⟩
  | true =>
    rw [if_pos rfl]
    by_cases hK0:(0:Int)<K.length
    · rw [if_pos (decide_eq_true hK0)]
      refine ⟨false,rfl,(fun e=>by cases e),fun e=>absurd ⟨rfl,fun e=>?_⟩ e.2.2.2.1⟩
      rw [e] at hK0;simp at hK0
    · rw [if_neg (by rw [decide_eq_true_eq];exact hK0),hb]
      have:K=[]:=zZ (by omega)
      exact ⟨b,rfl,hbi.trans ⟨fun e=>⟨by omega,h2',hks,fun e=>e.2 this,e⟩,fun e=>e.2.2.2.2⟩⟩
theorem Aju {c:Bc} (h:SC c) (a:A2) (h1:a.State=1) (K:Keys) (hK:K.length≤1000000) :
    ∃ b,Hp c a K=some b∧(b=false ↔ ∀ x ∈ c.Txs,x.State=2→a.Begin<x.End→∀ k ∈ K,k ∉ x.Keys):=by
  have hl:=h.len
  have hpw:∀ x ∈ c.Txs,x.State=2→PW x.Keys:=fun x hx hs=>by
    rcases (h.each x hx).st with e | e
    · rw [hs] at e;cases e.1
    · exact e.2.2.2.1.pw
  let p:A2→Bool:=fun x=>decide (x.State=2) && !decide (x.End≤a.Begin) && K.any (fun k=>hit x.Keys k)
  have hs:Hp c a K=some (c.Txs.any p):=by
    unfold Hp
    rw [Ann c.Txs p (fun _=>true) (Fb c a K) (by omega) (fun i x hx=>by
      have hlt:=(zC.1 hx).1
      have hxm:=zI hx
      unfold Fb
      rw [if_pos (decide_eq_true (by omega)),Bn,hx,zA]
      by_cases hs:x.State=2
      · rw [if_neg (by rw [decide_eq_true hs];decide),Apf x a h1,zA,decide_eq_true hs,wM,Bool.not_not]
        by_cases he:x.End≤a.Begin
        · rw [if_pos (decide_eq_true he),Cb (by omega) (by omega)]
          have:p x=false:=by show (_ && _ && _)=false;rw [decide_eq_true he];simp
          rw [this];rfl
        · rw [if_neg (by rw [decide_eq_true_eq];exact he)]
          unfold J2
          rw [Ann K (fun k=>hit x.Keys k) (fun _=>true) (E9 K x) (by omega) (fun j k hk=>by
            have hjl:=(zC.1 hk).1
            unfold E9
            rw [if_pos (decide_eq_true (by omega)),Bn,hk,zA,Aid _ _ (by have:=h.keys x hxm;omega),zA,Cb (by omega) (by omega)]
            cases hit x.Keys k <;> rfl) (by
            unfold E9
            rw [if_neg (by rw [decide_eq_true_eq];omega)]),zA]
          have hpx:p x=K.any (fun k=>hit x.Keys k):=by show (_ && _ && _)=_;rw [decide_eq_true hs,decide_eq_false he];simp
          rw [hpx]
          cases hf:K.find? (fun k=>hit x.Keys k) with
          | none =>
            rw [show K.any (fun k=>hit x.Keys k)=false from j0.2 fun k hk=>by have:=kQ.1 hf k hk;simpa using this]
            show Gx _ _=_
            unfold Gx
            rw [Cb (by omega) (by omega)];rfl
          | some k=>rw [w4.2 ⟨k,jQ hf,by have:=List.find?_some hf;exact this⟩];rfl
      · rw [if_pos (by rw [decide_eq_false hs];rfl),Cb (by omega) (by omega)]
        have:p x=false:=by show (_ && _ && _)=false;rw [decide_eq_false hs];rfl
        rw [this];rfl) (by
      unfold Fb
      rw [if_neg (by rw [decide_eq_true_eq];omega)]),zA]
    cases hf:c.Txs.find? p with
    | none=>rw [show c.Txs.any p=false from j0.2 fun k hk=>by have:=kQ.1 hf k hk;simpa using this];rfl
    | some k=>rw [w4.2 ⟨k,jQ hf,by have:=List.find?_some hf;exact this⟩]
  refine ⟨_,hs,?_⟩
  rw [j0]
  constructor
  · intro hh x hx hs he k hk hkx
    refine hh x hx ?_
    show (_ && _ && _)=true
    rw [decide_eq_true hs,decide_eq_false (by omega),w4.2 ⟨k,hk,(Agm (hpw x hx hs)).2 hkx⟩];rfl
  · intro hh x hx hp
    have hp:(decide (x.State=2) && !decide (x.End≤a.Begin) && K.any (fun k=>hit x.Keys k))=true:=hp
    simp only [yA,decide_eq_true_eq,xW,decide_eq_false_iff_not,w4] at hp
    obtain ⟨⟨hs,he⟩,k,hk,hh'⟩:=hp
    exact hh x hx hs (by omega) k hk (Ag0 hh')
def Ana (rs:List A3) (K:Keys):List Int:=K.flatMap fun k=>Afe (Aa4 rs k)
theorem Aiw {rs:List A3} {K:Keys} {t:Int}:t ∈ Ana rs K ↔ ∃ r ∈ rs,r.Tx=t∧Amk r.Rng K=true:=by
  unfold Ana
  rw [j2]
  constructor
  · rintro ⟨k,hk,h⟩
    obtain ⟨x,hx,h1,h2⟩:=Aic.1 h
    exact ⟨x,hx,h2,Aii.2 ⟨k,hk,h1⟩⟩
  · rintro ⟨r,hr,h1,h2⟩
    obtain ⟨k,hk,h3⟩:=Aii.1 h2
    exact ⟨k,hk,Aic.2 ⟨r,hr,h3,h1⟩⟩
theorem Ai5 (rs:List A3):∀ K:Keys,(Ana rs K).length≤K.length*rs.length
  | []=>by simp [Ana]
  | k::K=>by
    have ih:=Ai5 rs K
    have:=Anr rs k
    unfold Ana at ih ⊢
    rw [xD,zH,yT,jD]
    omega
theorem Age {c:Bc} (h:SC c) (K:Keys) (hK:K.length≤1000000):Hu c K=some (Ana c.Reads.L K):=by
  have hg:=h.gr.len
  unfold Hu
  rw [Ako K (fun k=>Afe (Aa4 c.Reads.L k)) (D9 c K) 128 (fun k=>by have:=Anr c.Reads.L k;omega) (by omega) (fun i x acc hx ha=>by
    have hlt:=(zC.1 hx).1
    have:=Anr c.Reads.L x
    unfold D9
    dsimp only
    rw [if_pos (decide_eq_true (by omega)),Bn,hx,zA,Awj (l:=c.Reads.L) (by omega),zA,if_pos (by omega),Cb (by omega) (by omega)]
    rfl) (fun acc=>by
    unfold D9
    dsimp only
    rw [if_neg (by rw [decide_eq_true_eq];omega)]),zA]
  rfl
theorem Ap9 {c:Bc} (h:SC c) (K:Keys) (hK:K.length≤16) {n:Nat} {a:A2} (ha:c.Txs[n]? = some a) (h1:a.State=1) :
    ∃ b l,Lm c.Txs (n:Int) (Ana c.Reads.L K)=some (b,l)∧l.length=c.Txs.length ∧
      (b=false→∃ x ∈ c.Txs,U1 c.Reads.L a K x=true∧x.State=2∧x.In=true) ∧
      (b=true→(∀ (j:Nat) (x:A2),c.Txs[j]? = some x→l[j]? = some (if j=n then { x with In:=x.In || c.Txs.any (U1 c.Reads.L a K) } else if U1 c.Reads.L a K x=true then { x with Out:=true } else x))∧∀ x ∈ c.Txs,U1 c.Reads.L a K x=true→x.State=2→x.In=false):=by
  have hl:=h.len
  have hg:=h.gr.len
  have hrl:=Ai5 c.Reads.L K
  have hrl':(Ana c.Reads.L K).length≤2048:=yO hrl (yO (Nat.mul_le_mul hK hg) (by decide))
  have ham:=zI ha
  have hpa:U1 c.Reads.L a K a=false:=by unfold U1;rw [decide_eq_true rfl];rfl
  let F:=Ty c.Txs n (U1 c.Reads.L a K) (fun b x=>{ x with In:=x.In || b }) (fun x=>{ x with Out:=true })
  have key:∃ v,Lj (Fy c.Txs (n:Int) (Ana c.Reads.L K)) fuel (0,c.Txs)=some v ∧
      (match v with
        | .inl q=>q.1=false∧q.2.length=c.Txs.length∧∃ x ∈ c.Txs,U1 c.Reads.L a K x=true∧x.State=2∧x.In=true
        | .inr l=>l.length=c.Txs.length∧(∀ (j:Nat) (x:A2),c.Txs[j]? = some x→l[j]? = some (F c.Txs.length j x))∧∀ x ∈ c.Txs,U1 c.Reads.L a K x=true→x.State=2→x.In=false):=by
    refine Dh (f:=Fy c.Txs (n:Int) (Ana c.Reads.L K)) (P:=fun s=>∃ i:Nat,i≤c.Txs.length∧s.1=(i:Int)∧s.2.length=c.Txs.length∧(∀ (j:Nat) (x:A2),c.Txs[j]? = some x→s.2[j]? = some (F i j x))∧∀ x ∈ c.Txs.take i,U1 c.Reads.L a K x=true→x.State=2→x.In=false) (μ:=fun s=>c.Txs.length-s.1.toNat) (R:=fun v=>match v with
        | .inl q=>q.1=false∧q.2.length=c.Txs.length∧∃ x ∈ c.Txs,U1 c.Reads.L a K x=true∧x.State=2∧x.In=true
        | .inr l=>l.length=c.Txs.length∧(∀ (j:Nat) (x:A2),c.Txs[j]? = some x→l[j]? = some (F c.Txs.length j x))∧∀ x ∈ c.Txs,U1 c.Reads.L a K x=true→x.State=2→x.In=false) ?_ fuel (0,c.Txs) ⟨0,zY _,rfl,rfl,fun j x hx=>?_,by simp⟩ (Ce (by show c.Txs.length-0≤_;omega))
    · rintro ⟨_,l⟩ ⟨i,hi,rfl,hll,hF,hno⟩
      dsimp only at hll hF
      unfold Fy
      dsimp only
      rcases zO i c.Txs.length with hlt | hge
      · have hx:=zB hlt
        generalize c.Txs[i]=x at hx
        have hxm:=zI hx
        have htk:∀ {y},y ∈ c.Txs.take (i+1)→y ∈ c.Txs.take i∨y=x:=fun {y} hy=>by
          rw [zM hlt,yL,zW] at hy
          rcases hy with hy | hy
          · exact .inl hy
          · rw [zB hlt] at hx
            exact .inr (hy.trans (zD hx))
        have hstep:U1 c.Reads.L a K x=false→∃ s',(some (LR.cont (wI ((i:Int)+1),l)):Option (LR (Int × List A2) (List A2) (Bool × List A2)))=some (.cont s')∧(∃ k:Nat,k≤c.Txs.length∧s'.1=(k:Int)∧s'.2.length=c.Txs.length∧(∀ (j:Nat) (x:A2),c.Txs[j]? = some x→s'.2[j]? = some (F k j x))∧∀ x ∈ c.Txs.take k,U1 c.Reads.L a K x=true→x.State=2→x.In=false)∧c.Txs.length-s'.1.toNat<c.Txs.length-(i:Int).toNat:=fun hp=>by
          refine ⟨_,rfl,⟨i+1,hlt,by rw [Cb (by omega) (by omega)];rfl,hll,fun j y hy=>?_,fun y hy hpy=>?_⟩,by rw [Cb (by omega) (by omega)];omega⟩
          · show l[j]? = some (Ty _ _ _ _ _ (i+1) j y)
            rw [Afy _ _ _ _ _ hx hp j y hy];exact hF j y hy
          · rcases htk hy with hy | hy
            · exact hno y hy hpy
            · rw [hy,hp] at hpy;cases hpy
        rw [if_pos (decide_eq_true (by omega)),Bn,hF i x hx,zA]
        by_cases hin:i=n
        · subst hin
          have:x=a:=by rw [ha] at hx;exact (zD hx).symm
          subst this
          left
          rw [if_pos (decide_eq_true rfl)]
          exact hstep hpa
        · have hid:x.ID≠a.ID:=fun e=>by
            have hya:=h.one hxm ham e
            obtain ⟨p1,p2⟩:=zC.1 hx
            obtain ⟨q1,q2⟩:=zC.1 ha
            rcases Nat.lt_or_gt_of_ne hin with hh | hh
            · have:=yK.1 h.ids i n p1 q1 hh
              rw [p2,q2] at this;exact this e
            · have:=yK.1 h.ids n i q1 p1 hh
              rw [p2,q2] at this;exact this e.symm
          have eF:F i i x=x:=by show Ty _ _ _ _ _ i i x=_;unfold Ty;rw [if_neg hin,if_neg (fun e=>by omega)]
          rw [eF]
          have hFa:F i n a={ a with In:=a.In || (c.Txs.take i).any (U1 c.Reads.L a K) }:=by show Ty _ _ _ _ _ i n a=_;unfold Ty;rw [if_pos rfl]
          rw [if_neg (by rw [decide_eq_true_eq];omega),Yd _ _ (by omega),zA]
          by_cases hc:x.ID ∈ Ana c.Reads.L K
          · rw [decide_eq_true hc,if_neg (by decide),Bn,hF n a ha,zA,Ajb x _ (by rw [hFa];exact h1),zA,Bool.not_not]
            rw [show (F i n a).Begin=a.Begin from by rw [hFa]]
            cases hb:(decide (x.State=2) && decide (x.End≤a.Begin)) with
            | true =>
              rw [if_pos rfl]
              exact .inl (hstep (by unfold U1;rw [hb];simp))
            | false =>
              have hp:U1 c.Reads.L a K x=true:=by
                unfold U1
                rw [hb,decide_eq_false hid]
                obtain ⟨r,hr,e1,e2⟩:=Aiw.1 hc
                rw [w4.2 ⟨r,hr,by rw [decide_eq_true e1,e2];rfl⟩];rfl
              rw [if_neg (by decide)]
              unfold Lc Hj
              dsimp only
              rw [zA,A0b l i n hin (by rw [hF i x hx,eF]) (hF n a ha),zA,if_pos (by simp)]
              have hnew:∀ (j:Nat) (y:A2),c.Txs[j]? = some y→((l.set i { x with Out:=true }).set n { (F i n a) with In:=true })[j]? = some (F (i+1) j y):=fun j y hy=>by
                show (List.set _ n _)[j]? = some (Ty _ _ _ _ _ (i+1) j y)
                have hjl:=(zC.1 hy).1
                unfold Ty
                by_cases hjn:j=n
                · subst hjn
                  rw [ha] at hy
                  have:=zD hy
                  subst this
                  rw [zS (by rw [xH];omega),if_pos rfl,zM hlt,List.any_append,hFa]
                  have:c.Txs[i]=x:=by rw [zB hlt] at hx;exact zD hx
                  rw [this]
                  simp only [List.any_cons,j7,hp,Bool.or_true,Bool.true_or]
                · rw [z6 (fun e=>hjn e.symm)]
                  by_cases hji:j=i
                  · subst hji
                    rw [hx] at hy
                    have:=zD hy
                    subst this
                    rw [zS (by omega),if_neg hin,if_pos ⟨by omega,hp⟩]
                  · rw [z6 (fun e=>hji e.symm),if_neg hjn,hF j y hy]
                    show some (Ty _ _ _ _ _ i j y)=_
                    unfold Ty
                    rw [if_neg hjn]
                    by_cases hlt':j<i
                    · simp only [hlt',show j<i+1 from by omega]
                    · simp only [hlt',show ¬ j<i+1 from by omega]
              have hgo:(x.State=2→x.In=false)→∃ s',(some (LR.cont (wI ((i:Int)+1),(l.set i { x with Out:=true }).set n { (F i n a) with In:=true })):Option (LR (Int × List A2) (List A2) (Bool × List A2)))=some (.cont s')∧(∃ k:Nat,k≤c.Txs.length∧s'.1=(k:Int)∧s'.2.length=c.Txs.length∧(∀ (j:Nat) (x:A2),c.Txs[j]? = some x→s'.2[j]? = some (F k j x))∧∀ x ∈ c.Txs.take k,U1 c.Reads.L a K x=true→x.State=2→x.In=false)∧c.Txs.length-s'.1.toNat<c.Txs.length-(i:Int).toNat:=fun hxi=>by
                refine ⟨_,rfl,⟨i+1,hlt,by rw [Cb (by omega) (by omega)];rfl,by simp [hll],hnew,fun y hy hpy hsy=>?_⟩,by rw [Cb (by omega) (by omega)];omega⟩
                rcases htk hy with hy | hy
                · exact hno y hy hpy hsy
                · rw [hy] at hsy ⊢;exact hxi hsy
              by_cases hs:x.State=2
              · rw [if_pos (decide_eq_true hs),Bn,hnew i x hx,zA,Ahk,zA]
                have eF':F (i+1) i x={ x with Out:=true }:=by show Ty _ _ _ _ _ (i+1) i x=_;unfold Ty;rw [if_neg hin,if_pos ⟨by omega,hp⟩]
                rw [eF']
                dsimp only
                rw [Bool.and_true]
                by_cases hio:x.In=true
                · rw [if_pos hio]
                  exact .inr (.inr ⟨_,rfl,rfl,by simp [hll],x,hxm,hp,hs,hio⟩)
                · rw [if_neg hio]
                  exact .inl (hgo fun _=>by simpa using hio)
              · rw [if_neg (by rw [decide_eq_true_eq];exact hs)]
                exact .inl (hgo fun e=>absurd e hs)
          · rw [decide_eq_false hc,if_pos (by rfl)]
            refine .inl (hstep ?_)
            cases hh:U1 c.Reads.L a K x with
            | false=>rfl
            | true =>
              obtain ⟨_,⟨r,hr,e1,e2⟩,_⟩:=Aoq.1 hh
              exact absurd (Aiw.2 ⟨r,hr,e1,e2⟩) hc
      · have e:i=c.Txs.length:=by omega
        subst e
        rw [if_neg (by rw [decide_eq_true_eq];omega)]
        exact .inr (.inl ⟨_,rfl,hll,hF,by rw [yI] at hno;exact hno⟩)
    · show c.Txs[j]? = some (Ty _ _ _ _ _ 0 j x)
      rw [hx]
      unfold Ty
      rw [jV]
      simp only [j7,Bool.or_false,zT,false_and,if_false]
      split <;> rfl
  obtain ⟨v,hv,hr⟩:=key
  unfold Lm
  rw [hv,zA]
  cases v with
  | inl q =>
    obtain ⟨b,l⟩:=q
    obtain ⟨e,h2,h3⟩:=hr
    have e:b=false:=e
    subst e
    exact ⟨false,l,rfl,h2,fun _=>h3,fun e=>by cases e⟩
  | inr l =>
    obtain ⟨h2,h3,h4⟩:=hr
    refine ⟨true,l,rfl,h2,(fun e=>by cases e),fun _=>⟨fun j x hx=>?_,h4⟩⟩
    rw [h3 j x hx]
    show some (Ty _ _ _ _ _ _ j x)=_
    have hjl:=(zC.1 hx).1
    unfold Ty
    rw [yI]
    simp only [hjl,true_and]
theorem commit_m {c:Bc} (h:SC c) (id ts:Int) (K:Keys) (hK:K.length≤16) :
    ((∀ x ∈ c.Txs,x.ID=id→x.State≠1)∧Dj c id ts K=some (cN,7)) ∨
    ∃ a ∈ c.Txs,a.ID=id∧a.State=1 ∧
      ((¬ (a.Begin<ts∧ts≤maxTs∧KS K∧¬ (a.RO=true∧K≠[])∧∀ y ∈ c.Txs,y.End<ts)∧Dj c id ts K=some (cN,1)) ∨
       ((a.Begin<ts∧ts≤maxTs∧KS K∧¬ (a.RO=true∧K≠[])∧∀ y ∈ c.Txs,y.End<ts) ∧
         ((¬ (∀ x ∈ c.Txs,x.State=2→a.Begin<x.End→∀ k ∈ K,k ∉ x.Keys)∧Dj c id ts K=some (cN,9)) ∨
          ((∀ x ∈ c.Txs,x.State=2→a.Begin<x.End→∀ k ∈ K,k ∉ x.Keys) ∧
            (((∃ x ∈ c.Txs,U1 c.Reads.L a K x=true∧x.State=2∧x.In=true)∨((a.In || c.Txs.any (U1 c.Reads.L a K))=true∧a.Out=true))∧Dj c id ts K=some (cN,10) ∨
             (∀ x ∈ c.Txs,U1 c.Reads.L a K x=true→x.State=2→x.In=false)∧¬ ((a.In || c.Txs.any (U1 c.Reads.L a K))=true∧a.Out=true)∧Dj c id ts K=some (⟨c.Txs.map (doneF c.Txs c.Reads.L a ts K),c.Reads⟩,0)))))):=by
  unfold Dj
  rw [sane_c h,zA,if_neg (nn (by rfl))]
  rcases Acg h id with ⟨h1,e⟩ | ⟨n,a,ha,e1,h1,e⟩
  · rw [e,zA]
    exact .inl ⟨h1,rfl⟩
  right
  have ham:=zI ha
  have hl:=h.len
  refine ⟨a,ham,e1,h1,?_⟩
  rw [e,zA,if_neg (by rw [decide_eq_true_eq];omega),Bn,ha,zA]
  obtain ⟨b,hb,hbi⟩:=Aqn h a ts K (by omega)
  rw [hb,zA]
  cases b with
  | false=>exact .inl ⟨fun hc=>(by have:=hbi.2 hc;cases this),rfl⟩
  | true =>
  right
  refine ⟨hbi.1 rfl,?_⟩
  rw [if_neg (by decide),zA]
  obtain ⟨b,hb,hbi⟩:=Aju h a h1 K (by omega)
  rw [hb,zA]
  cases b with
  | true=>exact .inl ⟨fun hc=>(by have:=hbi.2 hc;cases this),rfl⟩
  | false =>
  right
  refine ⟨hbi.1 rfl,?_⟩
  rw [if_neg (by decide),Anu _ (by omega),zA,Age h K (by omega),zA]
  obtain ⟨b,l,hp,hll,hf,ht⟩:=Ap9 h K hK ha h1
  rw [hp,zA,if_pos hll]
  cases b with
  | false=>exact .inl ⟨.inl (hf rfl),rfl⟩
  | true =>
  obtain ⟨hj,hno⟩:=ht rfl
  have hln:=hj n a ha
  rw [if_pos rfl] at hln
  rw [if_neg (by simp)]
  dsimp only
  rw [Bn,hln,zA,Ahk,zA]
  dsimp only
  by_cases hpv:(a.In || c.Txs.any (U1 c.Reads.L a K))=true∧a.Out=true
  · rw [if_pos (by rw [hpv.1,hpv.2];rfl)]
    exact .inl ⟨.inr hpv,rfl⟩
  · rw [if_neg (by rw [yA];exact hpv)]
    refine .inr ⟨hno,hpv,?_⟩
    have hnl:n<l.length:=(zC.1 hln).1
    unfold L3
    rw [Bn,hln,zA]
    dsimp only
    rw [Bn,zR,zS hnl,zA]
    dsimp only
    rw [Bn,zS (by rw [xH];exact hnl),zA,j6,j6]
    congr 2
    show (Bc.mk _ _)=_
    congr 1
    apply wB
    intro j
    rw [zQ]
    cases hy:c.Txs[j]? with
    | none =>
      have hy:=xR.1 hy
      exact xR.2 (by rw [xH];omega)
    | some y =>
      show _=some (doneF _ _ _ _ _ y)
      unfold doneF
      by_cases hjn:j=n
      · subst hjn
        rw [ha] at hy
        have:=zD hy
        subst this
        rw [zS hnl,if_pos rfl]
      · have hne:y.ID≠a.ID:=fun e=>by
          have hya:=h.one (zI hy) ham e
          obtain ⟨p1,p2⟩:=zC.1 hy
          obtain ⟨q1,q2⟩:=zC.1 ha
          rcases Nat.lt_or_gt_of_ne hjn with hh | hh
          · have:=yK.1 h.ids j n p1 q1 hh
            rw [p2,q2] at this;exact this e
          · have:=yK.1 h.ids n j q1 p1 hh
            rw [p2,q2] at this;exact this e.symm
        rw [z6 (fun e=>hjn e.symm),hj j y hy,if_neg hjn,if_neg hne]
theorem Afa {c:Bc} (h:SC c) (gone:List Int) (hg:gone.length≤1000000):Im c gone=some ⟨c.Txs.filter (fun x=>!decide (x.ID ∈ gone)),⟨Aa3 c.Reads.L gone false⟩⟩:=by
  have hl:=h.len
  unfold Im
  rw [Ako c.Txs (fun x=>if (!decide (x.ID ∈ gone))=true then [x] else []) (Fw c gone) 1 (fun x=>by split <;> simp) (by omega) (fun i x acc hx ha=>by
    have hlt:=(zC.1 hx).1
    unfold Fw
    dsimp only
    rw [if_pos (decide_eq_true (by omega)),Bn,hx,zA,Yd _ _ hg,zA,Cb (by omega) (by omega)]
    cases decide (x.ID ∈ gone) with
    | true=>rw [if_neg (by decide),if_neg (by decide),xF];rfl
    | false=>rw [if_pos (by rfl),if_pos (by rw [yE];omega),if_pos (by rfl)];rfl) (fun acc=>by
    unfold Fw
    dsimp only
    rw [if_neg (by rw [decide_eq_true_eq];omega)]),zA,Zh,List.map_id']
  unfold K8
  rw [Aqz (l:=c.Reads.L) (by have:=h.gr.len;omega) _ hg];rfl
theorem abort_m {c:Bc} (h:SC c) (id:Int):((∀ x ∈ c.Txs,x.ID=id→x.State≠1)∧Ea c id=some c) ∨
    ((∃ a ∈ c.Txs,a.ID=id∧a.State=1)∧Ea c id=some ⟨c.Txs.filter (fun x=>!decide (x.ID ∈ [id])),⟨Aa3 c.Reads.L [id] false⟩⟩):=by
  unfold Ea
  rcases Acg h id with ⟨h1,e⟩ | ⟨n,a,ha,e1,h1,e⟩
  · rw [e,zA]
    exact .inl ⟨h1,rfl⟩
  · rw [e,zA,if_neg (by rw [decide_eq_true_eq];omega),Afa h _ (by simp)]
    exact .inr ⟨⟨a,zI ha,e1,h1⟩,rfl⟩
def At9 (l:List A2) (now:Int):Int:=l.foldl (fun m x=>if x.State=1 then (if x.Begin<m then x.Begin else m) else m) now
theorem oldest_m (c:Bc) (now:Int) (hl:c.Txs.length≤1000000):Kh c now=some (At9 c.Txs now):=by
  unfold Kh
  show (Ct _ fuel (now,((0:Nat):Int))).bind _=_
  rw [Xz (f:=Gj c) (fun (m:Int) (i:Nat)=>(m,(i:Int))) c.Txs (fun m x=>if x.State=1 then (if x.Begin<m then x.Begin else m) else m) (fun m=>m) (by omega) (fun acc i x hx=>by
    have hlt:=(zC.1 hx).1
    unfold Gj
    dsimp only
    rw [if_pos (decide_eq_true (by omega)),Bn,hx,zA,Cb (by omega) (by omega)]
    by_cases hs:x.State=1
    · rw [if_pos (decide_eq_true hs),if_pos hs];rfl
    · rw [if_neg (by rw [decide_eq_true_eq];exact hs),if_neg hs];rfl) (fun acc=>by
    unfold Gj
    dsimp only
    rw [if_neg (by rw [decide_eq_true_eq];omega)])]
  rfl
theorem Asy {l:List A2}:∀ {now m:Int},m≤At9 l now ↔ m≤now∧∀ x ∈ l,x.State=1→m≤x.Begin:=by
  induction l with
  | nil=>intro now m;simp [At9]
  | cons a l ih =>
    intro now m
    show m≤At9 l _ ↔ _
    rw [ih]
    constructor
    · rintro ⟨h1,h2⟩
      have h1:m≤(if a.State=1 then (if a.Begin<now then a.Begin else now) else now):=h1
      by_cases hs:a.State=1
      · rw [if_pos hs] at h1
        split at h1
        · exact ⟨by omega,fun x hx h=>by
            rcases yM.1 hx with e | hx
            · rw [e];omega
            · exact h2 x hx h⟩
        · exact ⟨by omega,fun x hx h=>by
            rcases yM.1 hx with e | hx
            · rw [e];omega
            · exact h2 x hx h⟩
      · rw [if_neg hs] at h1
        exact ⟨h1,fun x hx h=>by
          rcases yM.1 hx with e | hx
          · rw [e] at h;exact absurd h hs
          · exact h2 x hx h⟩
    · rintro ⟨h1,h2⟩
      refine ⟨?_,fun x hx h=>h2 x (yV _ hx) h⟩
      show m≤(if a.State=1 then (if a.Begin<now then a.Begin else now) else now)
      by_cases hs:a.State=1
      · have:=h2 a (yX ..) hs
        rw [if_pos hs]
        split <;> omega
      · rw [if_neg hs];exact h1
def goneV (l:List A2) (x:A2):Bool:=decide (x.State=2) && decide (x.End≤At9 l x.End)
theorem Aly {l:List A2} {x:A2}:goneV l x=true ↔ x.State=2∧∀ a ∈ l,a.State=1→x.End≤a.Begin:=by
  unfold goneV
  rw [yA,decide_eq_true_eq,decide_eq_true_eq,Asy]
  exact ⟨fun h=>⟨h.1,h.2.2⟩,fun h=>⟨h.1,xU _,h.2⟩⟩
theorem Ast {c:Bc} (h:SC c):Jp c=some ⟨c.Txs.filter (fun x=>!decide (x.ID ∈ (c.Txs.filter (goneV c.Txs)).map (·.ID))),⟨Aa3 c.Reads.L ((c.Txs.filter (goneV c.Txs)).map (·.ID)) false⟩⟩:=by
  have hl:=h.len
  unfold Jp
  rw [Ako c.Txs (fun x=>if goneV c.Txs x=true then [x.ID] else []) (Ho c) 1 (fun x=>by split <;> simp) (by omega) (fun i x acc hx ha=>by
    have hlt:=(zC.1 hx).1
    unfold Ho
    dsimp only
    rw [if_pos (decide_eq_true (by omega)),Bn,hx,zA,oldest_m _ _ (by omega),zA,Cb (by omega) (by omega)]
    unfold goneV
    by_cases hs:x.State=2
    · rw [if_pos (decide_eq_true hs),decide_eq_true hs,wM]
      by_cases he:x.End≤At9 c.Txs x.End
      · rw [if_pos (decide_eq_true he),if_pos (by rw [yE];omega),if_pos (decide_eq_true he)];rfl
      · rw [if_neg (by rw [decide_eq_true_eq];exact he),if_neg (by rw [decide_eq_true_eq];exact he),xF];rfl
    · rw [if_neg (by rw [decide_eq_true_eq];exact hs),decide_eq_false hs,Bool.false_and,if_neg (by decide),xF];rfl) (fun acc=>by
    unfold Ho
    dsimp only
    rw [if_neg (by rw [decide_eq_true_eq];omega)]),zA,Zh]
  unfold M9
  rw [Afa h _ (by rw [z8];have:=xQ (goneV c.Txs) c.Txs;omega)]
  rfl
theorem find_c (c:Bc) (id:Int) (hl:c.Txs.length≤1000000):((∀ x ∈ c.Txs,x.ID≠id)∧∃ z,M3 c id=some (z,false))∨∃ x ∈ c.Txs,x.ID=id∧M3 c id=some (x,true):=by
  unfold M3
  rcases Tw c id hl with ⟨h1,e⟩ | ⟨i,x,hx,e1,e⟩
  · rw [e]
    exact .inl ⟨h1,_,rfl⟩
  · rw [e,zA,if_neg (by rw [decide_eq_true_eq];omega),Bn,hx]
    exact .inr ⟨x,zI hx,e1,rfl⟩
def K10 (K:Keys):Prop:=KS K∧K.length≤16
structure Bd (w:WL11) (n:Nat):Prop where
  now:w.now≤n
  beg:w.begun.length≤n
  did:w.did.length≤n
  read:w.read.length≤n
theorem Ajy.to {x:A2} (h:Ajy x K10):Ajy x KS∧x.Keys.length≤16:=by
  refine ⟨⟨h.id,h.beg,?_⟩,?_⟩
  · rcases h.st with e | ⟨a,b,c,d,e⟩
    · exact .inl e
    · exact .inr ⟨a,b,c,d.1,e⟩
  · rcases h.st with ⟨_,_,e⟩ | ⟨a,b,c,d,e⟩
    · rw [e];decide
    · exact d.2
theorem Inv.sc {w:WL11} (h:Inv K10 w):SC w.c:=by
  refine ⟨h.gr,h.ri,h.len,fun x hx=>(h.each x hx).to.1,h.ids,fun x hx y hy h1 h2 he=>?_,fun x hx=>(h.each x hx).to.2⟩
  obtain ⟨d,hd,a1,a2,a3,a4⟩:=h.don x hx h1
  obtain ⟨d',hd',b1,b2,b3,b4⟩:=h.don y hy h2
  have:d=d':=pw_eq h.didE hd hd' (by omega) (by omega)
  rw [← a1,← b1,this]
theorem inv_abort {w:WL11} (h:Inv K10 w) (id:Int):∃ c,Ea w.c id=some c∧Inv K10 { w with c:=c }∧(∀ x ∈ c.Txs,x ∈ w.c.Txs∧¬ (x.ID=id∧x.State=1)):=by
  rcases abort_m h.sc id with ⟨h1,e⟩ | ⟨⟨a,ha,e1,h1⟩,e⟩
  · exact ⟨_,e,h,fun x hx=>⟨hx,fun hc=>h1 x hx hc.1 hc.2⟩⟩
  · refine ⟨_,e,Ajd h _ _ (jM ..) (fun r hr=>?_) (fun r hr x hx hp e=>?_) (fun x hx hp hs=>?_),fun x hx=>?_⟩
    · obtain ⟨hr1,hr2⟩:=Wl.1 hr
      obtain ⟨x,hx,e⟩:=h.ri r hr1
      exact ⟨x,hx,by rw [e,hr2];rfl,e⟩
    · rw [e] at hp
      exact Wl.2 ⟨hr,by simpa using hp⟩
    · have:x.ID=id:=by simpa using hp
      rw [h.one hx ha (this.trans e1.symm),h1] at hs;cases hs
    · obtain ⟨h1,h2⟩:=yZ.1 hx
      refine ⟨h1,fun hc=>?_⟩
      simp [hc.1] at h2
theorem inv_clean {w:WL11} (h:Inv K10 w):∃ c,Jp w.c=some c∧Inv K10 { w with c:=c }∧c=⟨w.c.Txs.filter (fun x=>!goneV w.c.Txs x),⟨Aa3 w.c.Reads.L ((w.c.Txs.filter (goneV w.c.Txs)).map (·.ID)) false⟩⟩:=by
  have hm:∀ x ∈ w.c.Txs,(x.ID ∈ (w.c.Txs.filter (goneV w.c.Txs)).map (·.ID)) ↔ goneV w.c.Txs x=true:=fun x hx=>by
    rw [yP]
    constructor
    · rintro ⟨y,hy,e⟩
      obtain ⟨h1,h2⟩:=yZ.1 hy
      rw [← h.one h1 hx e];exact h2
    · intro hg;exact ⟨x,yZ.2 ⟨hx,hg⟩,rfl⟩
  have hf:w.c.Txs.filter (fun x=>!decide (x.ID ∈ (w.c.Txs.filter (goneV w.c.Txs)).map (·.ID)))=w.c.Txs.filter (fun x=>!goneV w.c.Txs x):=by
    refine List.filter_congr fun x hx=>?_
    congr 1
    cases hg:goneV w.c.Txs x with
    | true=>exact decide_eq_true ((hm x hx).2 hg)
    | false=>exact decide_eq_false fun hc=>by have:=(hm x hx).1 hc;rw [hg] at this;cases this
  refine ⟨_,Ast h.sc,?_,by rw [hf]⟩
  rw [hf]
  refine Ajd h _ _ (jM ..) (fun r hr=>?_) (fun r hr x hx hp e=>?_) (fun x hx hp hs a ha hpa h1=>?_)
  · obtain ⟨hr1,hr2⟩:=Wl.1 hr
    obtain ⟨x,hx,e⟩:=h.ri r hr1
    refine ⟨x,hx,?_,e⟩
    have hn:¬ (x.ID ∈ (w.c.Txs.filter (goneV w.c.Txs)).map (·.ID)):=by rw [e];exact of_decide_eq_false hr2
    cases hg:goneV w.c.Txs x with
    | true=>exact absurd ((hm x hx).2 hg) hn
    | false=>rfl
  · refine Wl.2 ⟨hr,decide_eq_false fun hc=>?_⟩
    rw [← e] at hc
    rw [(hm x hx).1 hc] at hp;cases hp
  · have hg:goneV w.c.Txs x=true:=by simpa using hp
    exact (Aly.1 hg).2 a ha h1
end Go.Proofs.YtkblaobhhoebaaaGreat.Abs.ss
