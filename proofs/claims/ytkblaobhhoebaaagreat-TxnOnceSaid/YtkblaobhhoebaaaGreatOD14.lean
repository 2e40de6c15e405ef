/-
  What the library's functions compute.
-/
import Derived.Test.YtkblaobhhoebaaaGreatOC14
set_option linter.unusedVariables false
set_option linter.unusedSimpArgs false
namespace Go.Proofs.YtkblaobhhoebaaaGreat.Abs.ss
structure Tu where
  Tx:Int
  Rng:Bi
structure Aam where
  ID:Int
  Begin:Int
  End:Int
  State:Int
  In:Bool
  Out:Bool
  RO:Bool
  Keys:List (List UInt8)
structure WL11 where
  c:Bh
  now:Int
  begun:List Int
  did:List Aam
  read:List Tu
def Alk (r:Bi) (l:Keys):Bool:=l.any (Zw r)
theorem Agi {r:Bi} {l:Keys}:Alk r l=true ↔ ∃ k ∈ l,Zw r k=true:=List.any_eq_true
def Rd (rd:List Tu) (i:Int) (K:Keys):Prop:=∃ r ∈ rd,r.Tx=i∧Alk r.Rng K=true
theorem Rd.mono {rd rd':List Tu} {i:Int} {K:Keys} (h:Rd rd i K) (hs:∀ r ∈ rd,r ∈ rd'):Rd rd' i K:=by
  obtain ⟨r,h1,h2⟩:=h;exact ⟨r,hs r h1,h2⟩
theorem Rd.append {rd:List Tu} {r:Tu} {i:Int} {K:Keys} (h:Rd (rd++[r]) i K):Rd rd i K∨r.Tx=i∧Alk r.Rng K=true:=by
  obtain ⟨x,h1,h2⟩:=h
  rcases List.mem_append.1 h1 with h1 | h1
  · exact .inl ⟨x,h1,h2⟩
  · rw [List.mem_singleton.1 h1] at h2;exact .inr h2
def maxTs:Int:=1099511627776
structure Ahy (x:A2) (saneK:Keys→Prop):Prop where
  id:0≤x.ID
  beg:0≤x.Begin∧x.Begin≤maxTs
  st:x.State=1∧x.End=0∧x.Keys=[]∨x.State=2∧x.Begin<x.End∧x.End≤maxTs∧saneK x.Keys∧¬ (x.RO=true∧x.Keys≠[])
def RR (rd:List Tu) (x y:Aam):Prop:=x.ID≠y.ID∧y.Begin<x.End∧x.Begin<y.End∧Rd rd x.ID y.Keys
structure Inv (saneK:Keys→Prop) (w:WL11):Prop where
  gr:Good w.c.Reads.L
  ri:∀ r ∈ w.c.Reads.L,∃ x ∈ w.c.Txs,x.ID=r.Tx
  len:w.c.Txs.length≤64
  each:∀ x ∈ w.c.Txs,Ahy x saneK
  ids:w.c.Txs.Pairwise (fun x y=>x.ID≠y.ID)
  now0:0≤w.now
  beg:∀ b ∈ w.begun,0≤b∧b≤w.now
  act:∀ x ∈ w.c.Txs,idx w.begun x.ID=some x.Begin
  don:∀ x ∈ w.c.Txs,x.State=2→∃ d ∈ w.did,d.ID=x.ID∧d.Begin=x.Begin∧d.End=x.End∧d.Keys=x.Keys
  did0:∀ d ∈ w.did,0≤d.ID∧idx w.begun d.ID=some d.Begin∧d.Begin<d.End∧d.End≤w.now∧saneK d.Keys
  didE:w.did.Pairwise (fun a b=>a.End<b.End)
  didI:w.did.Pairwise (fun a b=>a.ID≠b.ID)
  didA:∀ d ∈ w.did,∀ x ∈ w.c.Txs,x.State=1→x.ID≠d.ID
  cov:∀ d ∈ w.did,(∃ x ∈ w.c.Txs,x.ID=d.ID)∨∀ a ∈ w.c.Txs,a.State=1→d.End≤a.Begin
  rdB:∀ r ∈ w.read,0≤r.Tx∧r.Tx<w.begun.length
  rd:∀ r ∈ w.read,∀ x ∈ w.c.Txs,x.ID=r.Tx→(⟨r.Tx,r.Rng⟩:A0) ∈ w.c.Reads.L
  out:∀ x ∈ w.c.Txs,∀ d ∈ w.did,x.ID≠d.ID→(x.State=1∨d.Begin<x.End)→x.Begin<d.End→Rd w.read x.ID d.Keys→x.Out=true
  inA:∀ y ∈ w.c.Txs,y.State=2→∀ x ∈ w.c.Txs,x.State=1→x.Begin<y.End→Rd w.read x.ID y.Keys→y.In=true
  inD:∀ y ∈ w.c.Txs,y.State=2→∀ d ∈ w.did,d.ID≠y.ID→y.Begin<d.End→d.Begin<y.End→Rd w.read d.ID y.Keys→y.In=true
  piv:∀ x ∈ w.c.Txs,x.State=2→¬ (x.In=true∧x.Out=true)
  nop:∀ x ∈ w.did,∀ y ∈ w.did,∀ z ∈ w.did,RR w.read x y→RR w.read y z→False
  ww:∀ a ∈ w.did,∀ b ∈ w.did,a.End<b.End→(∃ k,k ∈ a.Keys∧k ∈ b.Keys)→a.End≤b.Begin
variable {saneK:Keys→Prop} {w:WL11}
theorem Aj4 {α:Type} {R:α→α→Prop} {l:List α} (h:l.Pairwise R) {x y:α} (hx:x ∈ l) (hy:y ∈ l) (h1:¬ R x y) (h2:¬ R y x):x=y:=by
  induction h with
  | nil=>simp at hx
  | cons ha _ ih =>
    rcases List.mem_cons.1 hx with e1 | hx <;> rcases List.mem_cons.1 hy with e2 | hy
    · rw [e1,e2]
    · exact absurd (e1 ▸ ha _ hy) h1
    · exact absurd (e2 ▸ ha _ hx) h2
    · exact ih hx hy
theorem Inv.one (h:Inv saneK w) {x y:A2} (hx:x ∈ w.c.Txs) (hy:y ∈ w.c.Txs) (e:x.ID=y.ID):x=y:=Aj4 h.ids hx hy (fun n=>n e) (fun n=>n e.symm)
theorem Inv.oneD (h:Inv saneK w) {x y:Aam} (hx:x ∈ w.did) (hy:y ∈ w.did) (e:x.ID=y.ID):x=y:=Aj4 h.didI hx hy (fun n=>n e) (fun n=>n e.symm)
theorem Inv.st (h:Inv saneK w) {x:A2} (hx:x ∈ w.c.Txs):x.State=1∨x.State=2:=by
  rcases (h.each x hx).st with h | h
  · exact .inl h.1
  · exact .inr h.1
theorem Yo {α:Type} {xs:List α} {j:Int} {u:α} (h:idx xs j=some u):0≤j∧j<xs.length∧u ∈ xs:=by
  unfold idx at h
  by_cases h0:0≤j
  · rw [if_pos h0] at h
    obtain ⟨h1,h2⟩:=List.getElem?_eq_some_iff.1 h
    exact ⟨h0,by omega,h2 ▸ List.getElem_mem _⟩
  · rw [if_neg h0] at h;cases h
theorem Amn {α:Type} {xs:List α} {j:Int} {u v:α} (h:idx xs j=some u):idx (xs++[v]) j=some u:=by
  obtain ⟨h0,h1,_⟩:=Yo h
  unfold idx at h ⊢
  rw [if_pos h0] at h ⊢
  rw [List.getElem?_append_left (by omega)];exact h
theorem Aob {α:Type} {xs:List α} {v:α}:idx (xs++[v]) (xs.length:Int)=some v:=by
  unfold idx
  rw [if_pos (Int.natCast_nonneg _)]
  simp
theorem Inv.there (h:Inv saneK w) {a:A2} (ha:a ∈ w.c.Txs) (h1:a.State=1) {d:Aam} (hd:d ∈ w.did) (hb:a.Begin<d.End) :
    ∃ x ∈ w.c.Txs,x.State=2∧x.ID=d.ID∧x.Begin=d.Begin∧x.End=d.End∧x.Keys=d.Keys:=by
  rcases h.cov d hd with ⟨x,hx,e⟩ | hc
  · rcases h.st hx with hs | hs
    · exact absurd e (h.didA d hd x hx hs)
    · obtain ⟨d',hd',e1,e2,e3,e4⟩:=h.don x hx hs
      have:d'=d:=h.oneD hd' hd (e1.trans e)
      subst this
      exact ⟨x,hx,hs,e,e2.symm,e3.symm,e4.symm⟩
  · have:=hc a ha h1;omega
theorem inv_nil:Inv saneK ⟨⟨[],⟨[]⟩⟩,0,[],[],[]⟩:=by
  constructor <;> first | exact Good.mk (fun x h=>by simp at h) (by decide) List.nodup_nil | simp
theorem inv_begin (h:Inv saneK w) (ro:Bool) (hn:w.now≤maxTs) (hl:w.c.Txs.length<64) :
    Inv saneK ⟨⟨w.c.Txs++[⟨(w.begun.length:Int),w.now,0,1,false,false,ro,[]⟩],w.c.Reads⟩,w.now,w.begun++[w.now],w.did,w.read⟩:=by
  have hid:∀ x ∈ w.c.Txs,x.ID<w.begun.length:=fun x hx=>(Yo (h.act x hx)).2.1
  have hdd:∀ d ∈ w.did,d.ID<w.begun.length:=fun x hx=>(Yo (h.did0 x hx).2.1).2.1
  have key:∀ {P:A2→Prop},(∀ x ∈ w.c.Txs,P x)→P ⟨(w.begun.length:Int),w.now,0,1,false,false,ro,[]⟩→∀ x ∈ w.c.Txs++[⟨(w.begun.length:Int),w.now,0,1,false,false,ro,[]⟩],P x:=fun h1 h2 x hx=>by
    rcases List.mem_append.1 hx with hx | hx
    · exact h1 x hx
    · rw [List.mem_singleton.1 hx];exact h2
  constructor
  · exact h.gr
  · intro r hr
    obtain ⟨x,hx,e⟩:=h.ri r hr
    exact ⟨x,List.mem_append_left _ hx,e⟩
  · show (w.c.Txs++_).length≤64
    rw [List.length_append,List.length_singleton];omega
  · exact key h.each ⟨Int.natCast_nonneg _,⟨h.now0,hn⟩,.inl ⟨rfl,rfl,rfl⟩⟩
  · refine List.pairwise_append.2 ⟨h.ids,List.pairwise_singleton ..,fun a ha b hb=>?_⟩
    rw [List.mem_singleton.1 hb]
    have:=hid a ha
    show a.ID≠w.begun.length
    omega
  · exact h.now0
  · intro b hb
    rcases List.mem_append.1 hb with hb | hb
    · exact h.beg b hb
    · rw [List.mem_singleton.1 hb];exact ⟨h.now0,Int.le_refl _⟩
  · exact key (fun x hx=>Amn (h.act x hx)) Aob
  · exact key h.don (fun e=>by cases e)
  · intro d hd
    obtain ⟨h1,h2,h3⟩:=h.did0 d hd
    exact ⟨h1,Amn h2,h3⟩
  · exact h.didE
  · exact h.didI
  · intro d hd
    refine key (h.didA d hd) fun _=>?_
    have:=hdd d hd
    show (w.begun.length:Int)≠d.ID
    omega
  · intro d hd
    rcases h.cov d hd with ⟨x,hx,e⟩ | hc
    · exact .inl ⟨x,List.mem_append_left _ hx,e⟩
    · exact .inr (key hc fun _=>(h.did0 d hd).2.2.2.1)
  · intro r hr
    have:=h.rdB r hr
    refine ⟨this.1,?_⟩
    show r.Tx<((w.begun++[w.now]).length:Nat)
    rw [List.length_append,List.length_singleton];omega
  · intro r hr
    refine key (h.rd r hr) fun e=>?_
    have:=(h.rdB r hr).2
    have e:(w.begun.length:Int)=r.Tx:=e
    omega
  · refine key h.out fun d hd _ _ hb=>?_
    have:=(h.did0 d hd).2.2.2.1
    have hb:w.now<d.End:=hb
    omega
  · refine key (fun y hy hs=>key (h.inA y hy hs) fun _ hb=>?_) (fun e=>by cases e)
    obtain ⟨d,hd,_,_,e,_⟩:=h.don y hy hs
    have:=(h.did0 d hd).2.2.2.1
    have hb:w.now<y.End:=hb
    omega
  · exact key h.inD (fun e=>by cases e)
  · exact key h.piv (fun e=>by cases e)
  · exact h.nop
  · exact h.ww
theorem Ag0 (h:Inv saneK w) (p:A2→Bool) (rs:List A0) (hrs:rs.Sublist w.c.Reads.L) (hr:∀ r ∈ rs,∃ x ∈ w.c.Txs,p x=true∧x.ID=r.Tx)
    (hk:∀ r ∈ w.c.Reads.L,∀ x ∈ w.c.Txs,p x=true→x.ID=r.Tx→r ∈ rs) (hp:∀ x ∈ w.c.Txs,p x=false→x.State=2→∀ a ∈ w.c.Txs,p a=true→a.State=1→x.End≤a.Begin) :
    Inv saneK ⟨⟨w.c.Txs.filter p,⟨rs⟩⟩,w.now,w.begun,w.did,w.read⟩:=by
  have hm:∀ {x},x ∈ w.c.Txs.filter p→x ∈ w.c.Txs:=fun hx=>(List.mem_filter.1 hx).1
  constructor
  · exact ⟨fun x hx=>h.gr.sr x (hrs.subset hx),Nat.le_trans hrs.length_le h.gr.len,h.gr.nd.sublist hrs⟩
  · intro r hr'
    obtain ⟨x,hx,h1,h2⟩:=hr r hr'
    exact ⟨x,List.mem_filter.2 ⟨hx,h1⟩,h2⟩
  · exact Nat.le_trans (List.length_filter_le ..) h.len
  · exact fun x hx=>h.each x (hm hx)
  · exact h.ids.sublist (List.filter_sublist ..)
  · exact h.now0
  · exact h.beg
  · exact fun x hx=>h.act x (hm hx)
  · exact fun x hx=>h.don x (hm hx)
  · exact h.did0
  · exact h.didE
  · exact h.didI
  · exact fun d hd x hx=>h.didA d hd x (hm hx)
  · intro d hd
    rcases h.cov d hd with ⟨x,hx,e⟩ | hc
    · cases hpx:p x with
      | true=>exact .inl ⟨x,List.mem_filter.2 ⟨hx,hpx⟩,e⟩
      | false =>
        refine .inr fun a ha h1=>?_
        obtain ⟨ha',hpa⟩:=List.mem_filter.1 ha
        rcases h.st hx with hs | hs
        · exact absurd e (h.didA d hd x hx hs)
        · obtain ⟨d',hd',e1,e2,e3,e4⟩:=h.don x hx hs
          have:d'=d:=h.oneD hd' hd (e1.trans e)
          subst this
          rw [e3]
          exact hp x hx hpx hs a ha' hpa h1
    · exact .inr fun a ha=>hc a (hm ha)
  · exact h.rdB
  · intro r hr' x hx e
    exact hk _ (h.rd r hr' x (hm hx) e) x (hm hx) (List.mem_filter.1 hx).2 e
  · exact fun x hx=>h.out x (hm hx)
  · exact fun y hy hs x hx=>h.inA y (hm hy) hs x (hm hx)
  · exact fun y hy=>h.inD y (hm hy)
  · exact fun x hx=>h.piv x (hm hx)
  · exact h.nop
  · exact h.ww
def Pd (a:A2) (r:Bi) (x:A2):Bool:=decide (x.State=2) && !decide (x.End≤a.Begin) && Alk r x.Keys
def P1 (l:List A2) (a:A2) (r:Bi) (x:A2):A2 :=
  if x.ID=a.ID then { x with Out:=x.Out || l.any (Pd a r) } else if Pd a r x then { x with In:=true } else x
theorem Anj (l:List A2) (a:A2) (r:Bi) (x:A2):(P1 l a r x).ID=x.ID∧(P1 l a r x).Begin=x.Begin∧(P1 l a r x).End=x.End∧(P1 l a r x).State=x.State∧(P1 l a r x).RO=x.RO∧(P1 l a r x).Keys=x.Keys:=by
  unfold P1
  split
  · exact ⟨rfl,rfl,rfl,rfl,rfl,rfl⟩
  · split <;> exact ⟨rfl,rfl,rfl,rfl,rfl,rfl⟩
theorem Ahr {l:List A2} {a:A2} {r:Bi} {x:A2} (h:x.In=true):(P1 l a r x).In=true:=by
  unfold P1
  split
  · exact h
  · split
    · rfl
    · exact h
theorem Ald {l:List A2} {a:A2} {r:Bi} {x:A2} (h:x.Out=true):(P1 l a r x).Out=true:=by
  unfold P1
  split
  · show (x.Out || _)=true
    rw [h];rfl
  · split <;> exact h
theorem Yk {a:A2} {r:Bi} {x:A2}:Pd a r x=true ↔ x.State=2∧a.Begin<x.End∧Alk r x.Keys=true:=by
  unfold Pd
  simp only [Bool.and_eq_true,decide_eq_true_eq,Bool.not_eq_true',decide_eq_false_iff_not]
  constructor
  · rintro ⟨⟨h1,h2⟩,h3⟩;exact ⟨h1,by omega,h3⟩
  · rintro ⟨h1,h2,h3⟩;exact ⟨⟨h1,by omega⟩,h3⟩
theorem inv_read (h:Inv saneK w) {a:A2} (ha:a ∈ w.c.Txs) (h1:a.State=1) (r:Bi) (rs:List A0) (hg:Good rs) (hsub:∀ x ∈ w.c.Reads.L,x ∈ rs) (hin:(⟨a.ID,r⟩:A0) ∈ rs) (hnew:∀ x ∈ rs,x ∈ w.c.Reads.L∨x=⟨a.ID,r⟩)
    (hno:∀ x ∈ w.c.Txs,Pd a r x=true→x.Out=false):Inv saneK ⟨⟨w.c.Txs.map (P1 w.c.Txs a r),⟨rs⟩⟩,w.now,w.begun,w.did,w.read++[⟨a.ID,r⟩]⟩:=by
  have key:∀ {P:A2→Prop},(∀ x ∈ w.c.Txs,P (P1 w.c.Txs a r x))→∀ x ∈ w.c.Txs.map (P1 w.c.Txs a r),P x:=fun h1 x hx=>by
    obtain ⟨y,hy,rfl⟩:=List.mem_map.1 hx
    exact h1 y hy
  have F:=Anj w.c.Txs a r
  have hex:∀ {x i},x ∈ w.c.Txs→x.ID=i→∃ y ∈ w.c.Txs.map (P1 w.c.Txs a r),y.ID=i:=fun {x i} hx e=>⟨_,List.mem_map.2 ⟨x,hx,rfl⟩,by rw [(F x).1,e]⟩
  have haid:=h.act a ha
  have hda:∀ d ∈ w.did,a.ID≠d.ID:=fun d hd=>h.didA d hd a ha h1
  constructor
  · exact hg
  · intro x hx
    rcases hnew x hx with hx | rfl
    · obtain ⟨y,hy,e⟩:=h.ri x hx
      exact hex hy e
    · exact hex ha rfl
  · show (w.c.Txs.map _).length≤64
    rw [List.length_map];exact h.len
  · refine key fun x hx=>?_
    obtain ⟨e1,e2,e3,e4,e5,e6⟩:=F x
    have:=h.each x hx
    exact ⟨by rw [e1];exact this.id,by rw [e2];exact this.beg,by rw [e2,e3,e4,e5,e6];exact this.st⟩
  · refine List.pairwise_map.2 (h.ids.imp fun {x y} hne=>?_)
    rw [(F x).1,(F y).1];exact hne
  · exact h.now0
  · exact h.beg
  · refine key fun x hx=>?_
    rw [(F x).1,(F x).2.1];exact h.act x hx
  · refine key fun x hx=>?_
    obtain ⟨e1,e2,e3,e4,e5,e6⟩:=F x
    rw [e1,e2,e3,e4,e6];exact h.don x hx
  · exact h.did0
  · exact h.didE
  · exact h.didI
  · intro d hd
    refine key fun x hx=>?_
    rw [(F x).1,(F x).2.2.2.1];exact h.didA d hd x hx
  · intro d hd
    rcases h.cov d hd with ⟨x,hx,e⟩ | hc
    · exact .inl (hex hx e)
    · refine .inr (key fun x hx=>?_)
      rw [(F x).2.1,(F x).2.2.2.1];exact hc x hx
  · intro x hx
    rcases List.mem_append.1 hx with hx | hx
    · exact h.rdB x hx
    · rw [List.mem_singleton.1 hx]
      exact ⟨(Yo haid).1,(Yo haid).2.1⟩
  · intro x hx
    refine key fun y hy e=>?_
    rw [(F y).1] at e
    rcases List.mem_append.1 hx with hx | hx
    · exact hsub _ (h.rd x hx y hy e)
    · rw [List.mem_singleton.1 hx];exact hin
  · refine key fun x hx d hd hne hc hb hr=>?_
    obtain ⟨e1,e2,e3,e4,e5,e6⟩:=F x
    rw [e1] at hne hr;rw [e3,e4] at hc;rw [e2] at hb
    rcases hr.append with hr | ⟨e,hm⟩
    · exact Ald (h.out x hx d hd hne hc hb hr)
    · have e:a.ID=x.ID:=e
      have:x=a:=h.one hx ha e.symm
      subst this
      obtain ⟨y,hy,hs,_,_,ee,ek⟩:=h.there ha h1 hd hb
      unfold P1
      rw [if_pos rfl]
      show (x.Out || w.c.Txs.any (Pd x r))=true
      rw [List.any_eq_true.2 ⟨y,hy,Yk.2 ⟨hs,by rw [ee];exact hb,by rw [ek];exact hm⟩⟩,Bool.or_true]
  · refine key fun y hy hs=>key fun x hx hx1 hb hr=>?_
    rw [(F y).2.2.2.1] at hs;rw [(F x).2.2.2.1] at hx1;rw [(F x).2.1,(F y).2.2.1] at hb;rw [(F x).1,(F y).2.2.2.2.2] at hr
    rcases hr.append with hr | ⟨e,hm⟩
    · exact Ahr (h.inA y hy hs x hx hx1 hb hr)
    · have e:a.ID=x.ID:=e
      have:x=a:=h.one hx ha e.symm
      subst this
      unfold P1
      by_cases he:y.ID=x.ID
      · have:y=x:=h.one hy hx he
        rw [this,h1] at hs;cases hs
      · rw [if_neg he,if_pos (Yk.2 ⟨hs,hb,hm⟩)]
  · refine key fun y hy hs d hd hne hb1 hb2 hr=>?_
    rw [(F y).2.2.2.1] at hs;rw [(F y).1] at hne;rw [(F y).2.1] at hb1;rw [(F y).2.2.1] at hb2;rw [(F y).2.2.2.2.2] at hr
    rcases hr.append with hr | ⟨e,_⟩
    · exact Ahr (h.inD y hy hs d hd hne hb1 hb2 hr)
    · exact absurd e (hda d hd)
  · refine key fun x hx hs=>?_
    rw [(F x).2.2.2.1] at hs
    have hp:=h.piv x hx hs
    unfold P1
    by_cases he:x.ID=a.ID
    · have:x=a:=h.one hx ha he
      rw [this,h1] at hs;cases hs
    · rw [if_neg he]
      cases hps:Pd a r x with
      | true =>
        rw [if_pos rfl]
        rintro ⟨_,h2⟩
        have h2:x.Out=true:=h2
        rw [hno x hx hps] at h2;cases h2
      | false=>rw [if_neg (by decide)];exact hp
  · intro x hx y hy z hz h1 h2
    refine h.nop x hx y hy z hz ⟨h1.1,h1.2.1,h1.2.2.1,?_⟩ ⟨h2.1,h2.2.1,h2.2.2.1,?_⟩
    · rcases h1.2.2.2.append with hr | ⟨e,_⟩
      · exact hr
      · exact absurd e (hda x hx)
    · rcases h2.2.2.2.append with hr | ⟨e,_⟩
      · exact hr
      · exact absurd e (hda y hy)
  · exact h.ww
def Sg (rs:List A0) (a:A2) (K:Keys) (x:A2):Bool:=!decide (x.ID=a.ID) && rs.any (fun r=>decide (r.Tx=x.ID) && Alk r.Rng K) && !(decide (x.State=2) && decide (x.End≤a.Begin))
theorem Ahh {rs:List A0} {a x:A2} {K:Keys}:Sg rs a K x=true ↔ x.ID≠a.ID∧(∃ r ∈ rs,r.Tx=x.ID∧Alk r.Rng K=true)∧(x.State=2→a.Begin<x.End):=by
  unfold Sg
  simp only [Bool.and_eq_true,List.any_eq_true,decide_eq_true_eq,Bool.not_eq_true',decide_eq_false_iff_not,Bool.and_eq_false_iff]
  constructor
  · rintro ⟨⟨h1,h2⟩,h3⟩
    refine ⟨h1,h2,fun hs=>?_⟩
    rcases h3 with h3 | h3
    · exact absurd hs h3
    · omega
  · rintro ⟨h1,h2,h3⟩
    refine ⟨⟨h1,h2⟩,?_⟩
    by_cases hs:x.State=2
    · exact .inr (by have:=h3 hs;omega)
    · exact .inl hs
def Pk (l:List A2) (rs:List A0) (a:A2) (ts:Int) (K:Keys) (x:A2):A2 :=
  if x.ID=a.ID then { x with In:=x.In || l.any (Sg rs a K),State:=2,End:=ts,Keys:=K } else if Sg rs a K x then { x with Out:=true } else x
theorem inv_done (h:Inv saneK w) {a:A2} (ha:a ∈ w.c.Txs) (h1:a.State=1) (K:Keys) (hts:a.Begin<w.now+1∧w.now+1≤maxTs) (hK:saneK K) (hro:¬ (a.RO=true∧K≠[]))
    (hcf:∀ x ∈ w.c.Txs,x.State=2→a.Begin<x.End→∀ k ∈ K,k ∉ x.Keys) (hpass:∀ x ∈ w.c.Txs,Sg w.c.Reads.L a K x=true→x.State=2→x.In=false)
    (hpiv:¬ ((a.In || w.c.Txs.any (Sg w.c.Reads.L a K))=true∧a.Out=true)) (d0:Aam) (e0:d0.ID=a.ID∧d0.Begin=a.Begin∧d0.End=w.now+1∧d0.Keys=K) :
    Inv saneK ⟨⟨w.c.Txs.map (Pk w.c.Txs w.c.Reads.L a (w.now+1) K),w.c.Reads⟩,w.now+1,w.begun,w.did++[d0],w.read⟩:=by
  have key:∀ {P:A2→Prop},(∀ x ∈ w.c.Txs,P (Pk w.c.Txs w.c.Reads.L a (w.now+1) K x))→∀ x ∈ w.c.Txs.map (Pk w.c.Txs w.c.Reads.L a (w.now+1) K),P x:=fun h1 x hx=>by
    obtain ⟨y,hy,rfl⟩:=List.mem_map.1 hx
    exact h1 y hy
  have keyD:∀ {P:Aam→Prop},(∀ x ∈ w.did,P x)→P d0→∀ x ∈ w.did++[d0],P x:=fun h1 h2 x hx=>by
    rcases List.mem_append.1 hx with hx | hx
    · exact h1 x hx
    · rw [List.mem_singleton.1 hx];exact h2
  obtain ⟨q1,q2,q3,q4⟩:=e0
  have G:∀ x,(Pk w.c.Txs w.c.Reads.L a (w.now+1) K x).ID=x.ID∧(Pk w.c.Txs w.c.Reads.L a (w.now+1) K x).Begin=x.Begin∧(Pk w.c.Txs w.c.Reads.L a (w.now+1) K x).RO=x.RO:=fun x=>by
    unfold Pk
    split
    · exact ⟨rfl,rfl,rfl⟩
    · split <;> exact ⟨rfl,rfl,rfl⟩
  have N:∀ x ∈ w.c.Txs,x≠a→(Pk w.c.Txs w.c.Reads.L a (w.now+1) K x)=if Sg w.c.Reads.L a K x then { x with Out:=true } else x:=fun x hx hne=>by
    unfold Pk
    rw [if_neg fun e=>hne (h.one hx ha e)]
  have A:Pk w.c.Txs w.c.Reads.L a (w.now+1) K a={ a with In:=a.In || w.c.Txs.any (Sg w.c.Reads.L a K),State:=2,End:=w.now+1,Keys:=K }:=by
    unfold Pk
    rw [if_pos rfl]
  have F:∀ x ∈ w.c.Txs,x≠a→(Pk w.c.Txs w.c.Reads.L a (w.now+1) K x).End=x.End∧(Pk w.c.Txs w.c.Reads.L a (w.now+1) K x).State=x.State∧(Pk w.c.Txs w.c.Reads.L a (w.now+1) K x).Keys=x.Keys∧(Pk w.c.Txs w.c.Reads.L a (w.now+1) K x).In=x.In∧(x.Out=true→(Pk w.c.Txs w.c.Reads.L a (w.now+1) K x).Out=true):=fun x hx hne=>by
    rw [N x hx hne]
    split
    · exact ⟨rfl,rfl,rfl,rfl,fun _=>rfl⟩
    · exact ⟨rfl,rfl,rfl,rfl,fun h=>h⟩
  have hex:∀ {x i},x ∈ w.c.Txs→x.ID=i→∃ y ∈ w.c.Txs.map (Pk w.c.Txs w.c.Reads.L a (w.now+1) K),y.ID=i:=fun {x i} hx e=>⟨_,List.mem_map.2 ⟨x,hx,rfl⟩,by rw [(G x).1,e]⟩
  have hda:∀ d ∈ w.did,a.ID≠d.ID:=fun d hd=>h.didA d hd a ha h1
  have hend:∀ d ∈ w.did,d.End≤w.now:=fun d hd=>(h.did0 d hd).2.2.2.1
  have hhit:∀ x ∈ w.c.Txs,x≠a→(x.State=2→a.Begin<x.End)→Rd w.read x.ID K→Sg w.c.Reads.L a K x=true:=fun x hx hne hs hr=>by
    obtain ⟨r,hr1,hr2,hr3⟩:=hr
    exact Ahh.2 ⟨fun e=>hne (h.one hx ha e),⟨_,h.rd r hr1 x hx hr2.symm,hr2,hr3⟩,hs⟩
  have hout:∀ x ∈ w.c.Txs.map (Pk w.c.Txs w.c.Reads.L a (w.now+1) K),∀ d ∈ w.did++[d0],x.ID≠d.ID→(x.State=1∨d.Begin<x.End)→x.Begin<d.End→Rd w.read x.ID d.Keys→x.Out=true:=by
    refine key fun x hx=>keyD ?_ ?_
    · intro d hd hne hc hb hr
      rw [(G x).1] at hne hr;rw [(G x).2.1] at hb
      by_cases hxa:x=a
      · subst hxa
        rw [A]
        exact h.out x ha d hd hne (.inl h1) hb hr
      · obtain ⟨f1,f2,f3,f4,f5⟩:=F x hx hxa
        rw [f1,f2] at hc
        exact f5 (h.out x hx d hd hne hc hb hr)
    · intro hne hc hb hr
      rw [(G x).1] at hne hr;rw [q4] at hr;rw [q2] at hc
      have hxa:x≠a:=fun e=>hne (by rw [e,q1])
      obtain ⟨f1,f2,f3,f4,f5⟩:=F x hx hxa
      rw [f1,f2] at hc
      rw [N x hx hxa,if_pos (hhit x hx hxa (fun hs=>by
        rcases hc with hc | hc
        · rw [hs] at hc;cases hc
        · exact hc) hr)]
  have hinD:∀ y ∈ w.c.Txs.map (Pk w.c.Txs w.c.Reads.L a (w.now+1) K),y.State=2→∀ d ∈ w.did++[d0],d.ID≠y.ID→y.Begin<d.End→d.Begin<y.End→Rd w.read d.ID y.Keys→y.In=true:=by
    refine key fun y hy hs=>keyD ?_ ?_
    · intro d hd hne hb1 hb2 hr
      rw [(G y).1] at hne;rw [(G y).2.1] at hb1
      by_cases hya:y=a
      · subst hya
        rw [A] at hr ⊢
        obtain ⟨x,hx,s1,s2,s3,s4,s5⟩:=h.there ha h1 hd hb1
        show (y.In || w.c.Txs.any (Sg w.c.Reads.L y K))=true
        rw [List.any_eq_true.2 ⟨x,hx,hhit x hx (fun e=>hne (by rw [← s2,e])) (fun _=>by rw [s4];exact hb1) (by rw [s2];exact hr)⟩,Bool.or_true]
      · obtain ⟨f1,f2,f3,f4,f5⟩:=F y hy hya
        rw [f2] at hs;rw [f1] at hb2;rw [f3] at hr;rw [f4]
        exact h.inD y hy hs d hd hne hb1 hb2 hr
    · intro hne hb1 hb2 hr
      rw [(G y).1,q1] at hne;rw [(G y).2.1] at hb1;rw [q2] at hb2;rw [q1] at hr
      have hya:y≠a:=fun e=>hne (by rw [e])
      obtain ⟨f1,f2,f3,f4,f5⟩:=F y hy hya
      rw [f2] at hs;rw [f1] at hb2;rw [f3] at hr;rw [f4]
      exact h.inA y hy hs a ha h1 hb2 hr
  have hpv:∀ x ∈ w.c.Txs.map (Pk w.c.Txs w.c.Reads.L a (w.now+1) K),x.State=2→¬ (x.In=true∧x.Out=true):=by
    refine key fun x hx hs=>?_
    by_cases hxa:x=a
    · subst hxa
      rw [A];exact hpiv
    · obtain ⟨f1,f2,f3,f4,f5⟩:=F x hx hxa
      rw [f2] at hs
      rw [f4,N x hx hxa]
      cases hh:Sg w.c.Reads.L a K x with
      | true=>rw [hpass x hx hh hs];exact fun e=>by cases e.1
      | false=>rw [if_neg (by decide)];exact h.piv x hx hs
  have hcov:∀ d ∈ w.did++[d0],(∃ x ∈ w.c.Txs.map (Pk w.c.Txs w.c.Reads.L a (w.now+1) K),x.ID=d.ID)∨(d ∈ w.did∧d.End≤a.Begin∧∀ b ∈ w.c.Txs,b.State=1→d.End≤b.Begin):=by
    refine keyD (fun d hd=>?_) (.inl (hex ha q1.symm))
    rcases h.cov d hd with ⟨x,hx,e⟩ | hc
    · exact .inl (hex hx e)
    · exact .inr ⟨hd,hc a ha h1,hc⟩
  have hdon:∀ x ∈ w.c.Txs.map (Pk w.c.Txs w.c.Reads.L a (w.now+1) K),x.State=2→∃ d ∈ w.did++[d0],d.ID=x.ID∧d.Begin=x.Begin∧d.End=x.End∧d.Keys=x.Keys:=by
    refine key fun x hx hs=>?_
    by_cases hxa:x=a
    · subst hxa
      rw [A]
      exact ⟨d0,List.mem_append_right _ (List.mem_singleton_self _),q1,q2,q3,q4⟩
    · obtain ⟨f1,f2,f3,f4,f5⟩:=F x hx hxa
      rw [f2] at hs
      rw [(G x).1,(G x).2.1,f1,f3]
      obtain ⟨d,hd,e⟩:=h.don x hx hs
      exact ⟨d,List.mem_append_left _ hd,e⟩
  have hdI:(w.did++[d0]).Pairwise (fun a b=>a.ID≠b.ID):=by
    refine List.pairwise_append.2 ⟨h.didI,List.pairwise_singleton ..,fun x hx y hy=>?_⟩
    rw [List.mem_singleton.1 hy,q1]
    exact fun e=>hda x hx e.symm
  constructor
  · exact h.gr
  · intro r hr
    obtain ⟨y,hy,e⟩:=h.ri r hr
    exact hex hy e
  · show (w.c.Txs.map _).length≤64
    rw [List.length_map];exact h.len
  · refine key fun x hx=>?_
    have he:=h.each x hx
    by_cases hxa:x=a
    · subst hxa
      rw [A]
      exact ⟨he.id,he.beg,.inr ⟨rfl,hts.1,hts.2,hK,hro⟩⟩
    · obtain ⟨f1,f2,f3,f4,f5⟩:=F x hx hxa
      exact ⟨by rw [(G x).1];exact he.id,by rw [(G x).2.1];exact he.beg,by rw [(G x).2.1,(G x).2.2,f1,f2,f3];exact he.st⟩
  · refine List.pairwise_map.2 (h.ids.imp fun {x y} hne=>?_)
    rw [(G x).1,(G y).1];exact hne
  · show 0≤w.now+1
    have:=h.now0;omega
  · intro b hb
    have:=h.beg b hb
    show 0≤b∧b≤w.now+1
    omega
  · refine key fun x hx=>?_
    rw [(G x).1,(G x).2.1];exact h.act x hx
  · exact hdon
  · refine keyD (fun d hd=>?_) ⟨by rw [q1];exact (h.each a ha).id,by rw [q1,q2];exact h.act a ha,by rw [q2,q3];exact hts.1,by rw [q3];exact Int.le_refl _,by rw [q4];exact hK⟩
    obtain ⟨g1,g2,g3,g4,g5⟩:=h.did0 d hd
    exact ⟨g1,g2,g3,by show d.End≤w.now+1;omega,g5⟩
  · refine List.pairwise_append.2 ⟨h.didE,List.pairwise_singleton ..,fun x hx y hy=>?_⟩
    rw [List.mem_singleton.1 hy,q3]
    have:=hend x hx;omega
  · exact hdI
  · refine keyD (fun d hd=>key fun x hx hs=>?_) (key fun x hx hs=>?_)
    · rw [(G x).1]
      by_cases hxa:x=a
      · rw [hxa];exact hda d hd
      · rw [(F x hx hxa).2.1] at hs
        exact h.didA d hd x hx hs
    · rw [(G x).1,q1]
      intro e
      have:=h.one hx ha e
      subst this
      rw [A] at hs;cases hs
  · intro d hd
    rcases hcov d hd with hc | ⟨_,_,hc⟩
    · exact .inl hc
    · refine .inr (key fun x hx hs=>?_)
      rw [(G x).2.1]
      by_cases hxa:x=a
      · subst hxa
        rw [A] at hs;cases hs
      · rw [(F x hx hxa).2.1] at hs
        exact hc x hx hs
  · exact h.rdB
  · intro r hr
    refine key fun x hx e=>?_
    rw [(G x).1] at e
    exact h.rd r hr x hx e
  · exact hout
  · refine key fun y hy hs=>key fun x hx hx1 hb hr=>?_
    have hxa:x≠a:=fun e=>by
      subst e
      rw [A] at hx1;cases hx1
    obtain ⟨f1,f2,f3,f4,f5⟩:=F x hx hxa
    rw [f2] at hx1;rw [(G x).2.1] at hb;rw [(G x).1] at hr
    by_cases hya:y=a
    · subst hya
      rw [A] at hr ⊢
      show (y.In || w.c.Txs.any (Sg w.c.Reads.L y K))=true
      rw [List.any_eq_true.2 ⟨x,hx,hhit x hx hxa (fun e=>by rw [hx1] at e;cases e) hr⟩,Bool.or_true]
    · obtain ⟨g1,g2,g3,g4,g5⟩:=F y hy hya
      rw [g2] at hs;rw [g1] at hb;rw [g3] at hr;rw [g4]
      exact h.inA y hy hs x hx hx1 hb hr
  · exact hinD
  · exact hpv
  · intro x hx y hy z hz r1 r2
    rcases hcov y hy with ⟨u,hu,eu⟩ | ⟨hy',hya,_⟩
    · have hus:u.State=2:=by
        obtain ⟨v,hv,rfl⟩:=List.mem_map.1 hu
        by_cases hva:v=a
        · subst hva;rw [A]
        · rw [(F v hv hva).2.1]
          rw [(G v).1] at eu
          rcases h.st hv with hs | hs
          · rcases List.mem_append.1 hy with hy | hy
            · exact absurd eu (h.didA y hy v hv hs)
            · rw [List.mem_singleton.1 hy,q1] at eu
              exact absurd (h.one hv ha eu) hva
          · exact hs
      obtain ⟨y',hy',s1,s2,s3,s4⟩:=hdon u hu hus
      have:y'=y:=Aj4 hdI hy' hy (fun n=>n (s1.trans eu)) (fun n=>n (s1.trans eu).symm)
      subst this
      refine hpv u hu hus ⟨hinD u hu hus x hx (by rw [eu];exact r1.1) (by rw [← s2];exact r1.2.1) (by rw [← s3];exact r1.2.2.1) (by rw [← s4];exact r1.2.2.2),hout u hu z hz (by rw [eu];exact r2.1) (.inr (by rw [← s3];exact r2.2.1)) (by rw [← s2];exact r2.2.2.1) (by rw [eu];exact r2.2.2.2)⟩
    · have hx':x ∈ w.did:=by
        rcases List.mem_append.1 hx with hx | hx
        · exact hx
        · have:=r1.2.2.1
          rw [List.mem_singleton.1 hx,q2] at this;omega
      have hz':z ∈ w.did:=by
        rcases List.mem_append.1 hz with hz | hz
        · exact hz
        · have:=r2.2.1
          rw [List.mem_singleton.1 hz,q2] at this;omega
      exact h.nop x hx' y hy' z hz' r1 r2
  · refine keyD (fun x hx=>keyD (h.ww x hx) ?_) (keyD (fun y hy he=>?_) fun he=>?_)
    · rw [q2,q3,q4]
      rintro _ ⟨k,k1,k2⟩
      by_cases hc:x.End≤a.Begin
      · exact hc
      · obtain ⟨u,hu,s1,s2,s3,s4,s5⟩:=h.there ha h1 hx (by omega)
        exact absurd (s5 ▸ k1) (hcf u hu s1 (by omega) k k2)
    · rw [q3] at he
      have:=hend y hy;omega
    · omega
theorem Asy (l:List A2) (h:l.length≤1000000):Nn l=some (l.map (·.ID)):=by
  unfold Nn
  rw [Ajd l (fun x=>[x.ID]) (Jj l) 1 (fun x=>by simp) (by omega) (fun i x acc hx ha=>by
    have hlt:=(List.getElem?_eq_some_iff.1 hx).1
    unfold Jj
    dsimp only
    rw [if_pos (decide_eq_true (by omega)),Bp,hx,Option.bind_some,if_pos (by rw [List.length_singleton];omega),Cc (by omega) (by omega)]
    rfl) (fun acc=>by
    unfold Jj
    dsimp only
    rw [if_neg (by rw [decide_eq_true_eq];omega)]),Option.bind_some,Aoz]
  rfl
theorem Al9 {xs:Keys} (hn:xs.length≤1000000000000000000) (h:B9 xs=some true):PW xs:=by
  obtain ⟨v,hv,hr⟩:=Cx (f:=B7 xs) (P:=fun s=>∃ i:Nat,s=(i:Int)∧1≤i∧∀ j a b,j+1<i→xs[j]? = some a→xs[j+1]? = some b→Dc a b<0) (μ:=fun s=>xs.length-s.toNat)
    (R:=fun v=>match v with | .inl r=>r=false | .inr _=>∀ j a b,xs[j]? = some a→xs[j+1]? = some b→Dc a b<0) (by
    rintro _ ⟨i,rfl,h1,h2⟩
    unfold B7
    by_cases hi:i<xs.length
    · have e1:=List.getElem?_eq_getElem hi
      have e2:=List.getElem?_eq_getElem (show i-1<xs.length by omega)
      rw [if_pos (decide_eq_true (by omega)),Cc (by omega) (by omega),show (i:Int)-1=((i-1:Nat):Int) from by omega,Bp,Bp,e1,e2]
      simp only [Option.bind_some,Si]
      by_cases hc:0≤Dc xs[i-1] xs[i]
      · right;right
        rw [if_pos (decide_eq_true hc)]
        exact ⟨_,rfl,rfl⟩
      · left
        rw [if_neg (by rw [decide_eq_true_eq];omega)]
        refine ⟨_,rfl,⟨i+1,by rw [Cc (by omega) (by omega)];rfl,by omega,fun j a b hj ha hb=>?_⟩,by rw [Cc (by omega) (by omega)];omega⟩
        rcases Nat.lt_or_ge (j+1) i with hlt | hge
        · exact h2 j a b hlt ha hb
        · have:j=i-1:=by omega
          subst this
          rw [show i-1+1=i from by omega] at hb
          rw [e2] at ha;rw [e1] at hb
          rw [← Option.some.inj ha,← Option.some.inj hb];omega
    · right;left
      rw [if_neg (by rw [decide_eq_true_eq];omega)]
      refine ⟨_,rfl,fun j a b ha hb=>h2 j a b ?_ ha hb⟩
      have:=(List.getElem?_eq_some_iff.1 hb).1
      omega) fuel 1 ⟨1,rfl,Nat.le_refl _,fun j _ _ hj=>by omega⟩ (Ck (by show xs.length-1≤_;omega))
  unfold B9 at h
  rw [hv] at h
  cases v with
  | inl r =>
    have hr:r=false:=hr
    rw [hr] at h;cases h
  | inr u =>
    have key:∀ d i a b,xs[i]? = some a→xs[i+(d+1)]? = some b→Dc a b<0:=fun d=>by
      induction d with
      | zero=>exact hr
      | succ d ih =>
        intro i a b ha hb
        have hlt:=(List.getElem?_eq_some_iff.1 hb).1
        have hm:=List.getElem?_eq_getElem (show i+(d+1)<xs.length by omega)
        have h1:=ih i a _ ha hm
        have h2:=hr _ _ _ hm (by rw [show i+(d+1)+1=i+(d+1+1) from by omega];exact hb)
        exact (Ky (Int.le_of_lt h1) (Int.le_of_lt h2)).2 (.inl h1)
    refine List.pairwise_iff_getElem.2 fun i j hi hj hij=>?_
    refine key (j-i-1) i _ _ (List.getElem?_eq_getElem hi) ?_
    rw [show i+(j-i-1+1)=j from by omega]
    exact List.getElem?_eq_getElem hj
structure KS (K:Keys):Prop where
  each:∀ k ∈ K,1≤k.length∧k.length≤16
  pw:PW K
theorem Al1 (k:List UInt8):Dp k=some (decide (1≤k.length∧k.length≤16)):=by
  unfold Dp
  by_cases h1:(1:Int)≤k.length
  · rw [if_pos (decide_eq_true h1)]
    congr 1
    rw [decide_eq_decide];omega
  · rw [if_neg (by rw [decide_eq_true_eq];exact h1),decide_eq_false (by omega)]
theorem Rb (K:Keys) (hn:K.length≤1000000000000000000):∃ b,G9 K=some b∧(b=true ↔ KS K):=by
  unfold G9
  rw [Aw5 K (fun k=>decide (1≤k.length∧k.length≤16)) false (E8 K) hn (fun i x hx=>by
    have hlt:=(List.getElem?_eq_some_iff.1 hx).1
    unfold E8
    rw [if_pos (decide_eq_true (by omega)),Bp,hx,Option.bind_some,Al1,Option.bind_some,Cc (by omega) (by omega)]
    cases decide (1≤x.length∧x.length≤16) <;> rfl) (by
    unfold E8
    rw [if_neg (by rw [decide_eq_true_eq];omega)])]
  cases ha:K.all (fun k=>decide (1≤k.length∧k.length≤16)) with
  | false =>
    refine ⟨false,rfl,(fun h=>by cases h),fun h=>?_⟩
    rw [List.all_eq_true.2 fun k hk=>decide_eq_true (h.each k hk)] at ha;cases ha
  | true =>
    show ∃ b,Gs K ()=some b∧_
    unfold Gs
    obtain ⟨v,hv⟩:=sorted_some K hn
    rw [hv]
    refine ⟨v,rfl,?_⟩
    constructor
    · intro h
      rw [h] at hv
      exact ⟨fun k hk=>of_decide_eq_true (List.all_eq_true.1 ha k hk),Al9 hn hv⟩
    · intro h
      rw [Tw h.pw hn] at hv
      exact (Option.some.inj hv).symm
theorem Age {x:A2} (h:Ahy x KS) (hn:x.Keys.length≤1000000000000000000):Ju x=some true:=by
  unfold Ju
  have h1:=h.id
  have h2:=h.beg
  have h2':x.Begin≤1099511627776:=h2.2
  rw [if_neg (by rw [decide_eq_true_eq];omega),if_neg (by rw [decide_eq_true_eq];omega),if_neg (by rw [decide_eq_true_eq];omega)]
  unfold Lk
  rcases h.st with ⟨a,b,c⟩ | ⟨a,b,c,d,e⟩
  · rw [if_pos (decide_eq_true a),if_pos (decide_eq_true b),c];rfl
  · have c':x.End≤1099511627776:=c
    rw [if_neg (by rw [decide_eq_true_eq];omega),if_pos (decide_eq_true a),if_pos (decide_eq_true b),if_pos (decide_eq_true c')]
    obtain ⟨v,hv,hi⟩:=Rb x.Keys hn
    rw [hv,Option.bind_some,hi.2 d,if_pos rfl]
    cases hro:x.RO with
    | false=>rfl
    | true =>
      have:x.Keys=[]:=by
        rcases List.eq_nil_or_concat x.Keys with h | h
        · exact h
        · exact absurd ⟨hro,by rw [show x.Keys=_ from h.choose_spec.choose_spec];simp⟩ e
      rw [if_pos rfl,this];rfl
structure SC (c:Bh):Prop where
  gr:Good c.Reads.L
  ri:∀ r ∈ c.Reads.L,∃ x ∈ c.Txs,x.ID=r.Tx
  len:c.Txs.length≤64
  each:∀ x ∈ c.Txs,Ahy x KS
  ids:c.Txs.Pairwise (fun x y=>x.ID≠y.ID)
  ends:∀ x ∈ c.Txs,∀ y ∈ c.Txs,x.State=2→y.State=2→x.End=y.End→x.ID=y.ID
  keys:∀ x ∈ c.Txs,x.Keys.length≤16
theorem SC.one {c:Bh} (h:SC c) {x y:A2} (hx:x ∈ c.Txs) (hy:y ∈ c.Txs) (e:x.ID=y.ID):x=y:=Aj4 h.ids hx hy (fun n=>n e) (fun n=>n e.symm)
theorem Arc (a b:A2) (h1:a.ID≠b.ID) (h2:¬ (a.State=2∧b.State=2∧a.End=b.End)):M7 a b=some false:=by
  have key:∀ w,Ha a b w=some false:=fun w=>by
    unfold Ha
    rw [if_neg (by rw [decide_eq_true_eq];exact h1)]
    by_cases c1:a.State=2
    · rw [if_pos (decide_eq_true c1)]
      by_cases c2:b.State=2
      · rw [if_pos (decide_eq_true c2),if_neg (by rw [decide_eq_true_eq];exact fun c3=>h2 ⟨c1,c2,c3⟩)]
      · rw [if_neg (by rw [decide_eq_true_eq];exact c2)]
    · rw [if_neg (by rw [decide_eq_true_eq];exact c1)]
  unfold M7
  rw [key,key]
  split <;> rfl
theorem sane_c {c:Bh} (h:SC c):J9 c=some true:=by
  unfold J9
  have hl:=h.len
  rw [if_neg (by rw [decide_eq_true_eq];omega),show F1 c.Reads=some true from Asp h.gr,Option.bind_some,if_neg (nn (by rfl))]
  unfold N1
  rw [Ax2 c.Txs (Jo c) (by omega) (fun i x hx=>by
    have hlt:=(List.getElem?_eq_some_iff.1 hx).1
    have hxm:=List.mem_of_getElem? hx
    unfold Jo
    rw [if_pos (decide_eq_true (by omega)),Bp,hx,Option.bind_some,Age (h.each x hxm) (by have:=h.keys x hxm;omega),Option.bind_some,if_neg (nn (by rfl)),Acs (Int.le_refl _) (Int.natCast_nonneg _) (by omega),Option.bind_some]
    rw [show (c.Txs.drop (0:Int).toNat).take ((i:Int).toNat-(0:Int).toNat)=c.Txs.take i from rfl]
    rw [Ax2 (c.Txs.take i) (Hr x (c.Txs.take i)) (by rw [List.length_take];omega) (fun j y hy=>by
      have hj:=(List.getElem?_eq_some_iff.1 hy).1
      have hjl:j<i:=by rw [List.length_take] at hj;omega
      have hy':c.Txs[j]? = some y:=by rw [List.getElem?_take_of_lt hjl] at hy;exact hy
      have hne:x.ID≠y.ID:=by
        obtain ⟨p1,p2⟩:=List.getElem?_eq_some_iff.1 hy'
        obtain ⟨q1,q2⟩:=List.getElem?_eq_some_iff.1 hx
        have:=List.pairwise_iff_getElem.1 h.ids j i p1 q1 hjl
        rw [p2,q2] at this
        exact fun e=>this e.symm
      unfold Hr
      rw [if_pos (decide_eq_true (by omega)),Bp,hy,Option.bind_some,Arc _ _ hne (fun hc=>hne (h.ends x hxm y (List.mem_of_getElem? hy') hc.1 hc.2.1 hc.2.2)),Option.bind_some,if_neg (nn (by rfl)),Cc (by omega) (by omega)]
      rfl) (by
      unfold Hr
      rw [if_neg (by rw [decide_eq_true_eq];omega)]),Option.bind_some]
    show L9 _ _=_
    unfold L9
    rw [Cc (by omega) (by omega)];rfl) (by
    unfold Jo
    rw [if_neg (by rw [decide_eq_true_eq];omega)]),Option.bind_some]
  show L4 _ _=_
  unfold L4
  rw [Asy _ (by omega),Option.bind_some,Aph (l:=c.Reads.L) (by have:=h.gr.len;omega) _ (by rw [List.length_map];omega),Option.bind_some]
  have:Z3 c.Reads.L (c.Txs.map (·.ID)) false=[]:=by
    unfold Z3
    refine List.filter_eq_nil_iff.2 fun r hr=>?_
    obtain ⟨x,hx,e⟩:=h.ri r hr
    rw [decide_eq_true (List.mem_map.2 ⟨x,hx,e⟩)];decide
  rw [this];rfl
theorem Aqk (xs:List Int) (t:Int) (hl:xs.length≤1000000):(t ∉ xs∧En xs t=some (-1))∨∃ i:Nat,xs[i]? = some t∧En xs t=some (i:Int):=by
  unfold En
  obtain ⟨v,hv,hr⟩:=Cx (f:=Du xs t) (P:=fun s=>∃ i:Nat,i≤xs.length∧s=(i:Int)∧t ∉ xs.take i) (μ:=fun s=>xs.length-s.toNat)
    (R:=fun x=>match x with | .inl r=>∃ i:Nat,xs[i]? = some t∧r=(i:Int) | .inr _=>t ∉ xs) (by
      rintro _ ⟨i,hi,rfl,hp⟩
      unfold Du
      rcases Nat.lt_or_ge i xs.length with hlt | hge
      · have hx:=List.getElem?_eq_getElem hlt
        rw [if_pos (decide_eq_true (by omega)),Bp,hx,Option.bind_some,Cc (by omega) (by omega)]
        by_cases he:t=xs[i]
        · rw [if_pos (decide_eq_true he)]
          exact .inr (.inr ⟨_,rfl,i,by rw [hx,← he],rfl⟩)
        · rw [if_neg (by rw [decide_eq_true_eq];exact he)]
          refine .inl ⟨_,rfl,⟨i+1,hlt,rfl,?_⟩,by simp only [Int.toNat_natCast];omega⟩
          rw [List.take_succ_eq_append_getElem hlt,List.mem_append,List.mem_singleton]
          rintro (h | h)
          · exact hp h
          · exact he h
      · have e:i=xs.length:=by omega
        subst e
        rw [if_neg (by rw [decide_eq_true_eq];omega)]
        rw [List.take_length] at hp
        exact .inr (.inl ⟨_,rfl,hp⟩)) fuel 0 ⟨0,Nat.zero_le _,rfl,by simp⟩ (Ck (by show xs.length-0≤_;omega))
  rw [hv]
  cases v with
  | inl r =>
    obtain ⟨i,h1,h2⟩:=hr
    refine .inr ⟨i,h1,?_⟩
    rw [h2];rfl
  | inr u=>exact .inl ⟨hr,rfl⟩
theorem Vm (c:Bh) (id:Int) (hl:c.Txs.length≤1000000):((∀ x ∈ c.Txs,x.ID≠id)∧Gz c id=some (-1))∨∃ (i:Nat) (x:A2),c.Txs[i]? = some x∧x.ID=id∧Gz c id=some (i:Int):=by
  unfold Gz
  rw [Asy _ hl,Option.bind_some]
  rcases Aqk (c.Txs.map (·.ID)) id (by rw [List.length_map];exact hl) with ⟨h,e⟩ | ⟨i,h,e⟩
  · left
    rw [e]
    exact ⟨fun x hx e'=>h (List.mem_map.2 ⟨x,hx,e'⟩),rfl⟩
  · right
    rw [List.getElem?_map] at h
    cases hx:c.Txs[i]? with
    | none=>rw [hx] at h;cases h
    | some x =>
      rw [hx] at h
      refine ⟨i,x,hx,Option.some.inj h,?_⟩
      rw [e];rfl
theorem Abr {c:Bh} (h:SC c) (id:Int):((∀ x ∈ c.Txs,x.ID=id→x.State≠1)∧F5 c id=some (-1))∨∃ (i:Nat) (x:A2),c.Txs[i]? = some x∧x.ID=id∧x.State=1∧F5 c id=some (i:Int):=by
  unfold F5
  rcases Vm c id (by have:=h.len;omega) with ⟨h1,e⟩ | ⟨i,x,hx,e1,e⟩
  · rw [e,Option.bind_some]
    exact .inl ⟨fun x hx e=>absurd e (h1 x hx),rfl⟩
  · rw [e,Option.bind_some,if_neg (by rw [decide_eq_true_eq];omega),Bp,hx,Option.bind_some]
    by_cases hs:x.State=1
    · rw [decide_eq_true hs]
      exact .inr ⟨i,x,hx,e1,hs,rfl⟩
    · rw [decide_eq_false hs]
      refine .inl ⟨fun y hy ey=>?_,rfl⟩
      rw [h.one hy (List.mem_of_getElem? hx) (ey.trans e1.symm)]
      exact hs
abbrev cN:Bh:=⟨[],⟨[]⟩⟩
theorem begin_m {c:Bh} (h:SC c) (id snap:Int) (ro:Bool) (h0:0≤id) (h1:0≤snap) (h2:snap≤maxTs) :
    ((∃ x ∈ c.Txs,x.ID=id)∧H2 c id snap ro=some (cN,7))∨((∀ x ∈ c.Txs,x.ID≠id)∧(64≤c.Txs.length∧H2 c id snap ro=some (cN,8)∨c.Txs.length<64∧H2 c id snap ro=some (⟨c.Txs++[⟨id,snap,0,1,false,false,ro,[]⟩],c.Reads⟩,0))):=by
  unfold H2
  have hl:=h.len
  rw [sane_c h,Option.bind_some,if_neg (nn (by rfl)),Age ⟨h0,⟨h1,h2⟩,.inl ⟨rfl,rfl,rfl⟩⟩ (by simp),Option.bind_some,if_neg (nn (by rfl))]
  rcases Vm c id (by omega) with ⟨h1,e⟩ | ⟨i,x,hx,e1,e⟩
  · right
    refine ⟨h1,?_⟩
    rw [e,Option.bind_some,if_neg (by decide)]
    by_cases h64:64≤c.Txs.length
    · rw [if_pos (decide_eq_true (by omega))]
      exact .inl ⟨h64,rfl⟩
    · rw [if_neg (by rw [decide_eq_true_eq];omega),Ty _ (by simp;omega) (by simp)]
      refine .inr ⟨by omega,?_⟩
      simp
  · left
    refine ⟨⟨x,List.mem_of_getElem? hx,e1⟩,?_⟩
    rw [e,Option.bind_some,if_pos (decide_eq_true (by omega))]
theorem Als (x:A2) (r:Bi) (hl:x.Keys.length≤1000000):Kr x r=some (Alk r x.Keys):=by
  unfold Kr
  rw [Alt x.Keys (Zw r) (fun _=>true) (Fq x r) (by omega) (fun i k hk=>by
    have hlt:=(List.getElem?_eq_some_iff.1 hk).1
    unfold Fq
    rw [if_pos (decide_eq_true (by omega)),Bp,hk,Option.bind_some,Ae5,Option.bind_some,Cc (by omega) (by omega)]
    cases Zw r k <;> rfl) (by
    unfold Fq
    rw [if_neg (by rw [decide_eq_true_eq];omega)]),Option.bind_some]
  unfold Alk
  cases hf:x.Keys.find? (Zw r) with
  | none =>
    rw [show x.Keys.any (Zw r)=false from List.any_eq_false.2 fun k hk=>by have:=List.find?_eq_none.1 hf k hk;simpa using this];rfl
  | some k=>rw [List.any_eq_true.2 ⟨k,List.mem_of_find?_eq_some hf,by have:=List.find?_some hf;exact this⟩]
theorem Agt (x a:A2) (ha:a.State=1):Ez x a=some (!(decide (x.State=2) && decide (x.End≤a.Begin))):=by
  unfold Ez Kw
  rw [if_neg (show ¬ decide (a.State=2)=true by rw [ha];decide)]
  by_cases hs:x.State=2
  · rw [if_pos (decide_eq_true hs),decide_eq_true hs,Bool.true_and,Option.bind_some]
    cases decide (x.End≤a.Begin) <;> rfl
  · rw [if_neg (by rw [decide_eq_true_eq];exact hs),decide_eq_false hs];rfl
theorem Aop (x a:A2) (ha:a.State=1):Ez a x=some (!(decide (x.State=2) && decide (x.End≤a.Begin))):=by
  unfold Ez Kw
  rw [if_neg (show ¬ decide (a.State=2)=true by rw [ha];decide)]
  by_cases hs:x.State=2
  · rw [if_pos (decide_eq_true hs),decide_eq_true hs,Bool.true_and,Option.bind_some]
    cases decide (x.End≤a.Begin) <;> rfl
  · rw [if_neg (by rw [decide_eq_true_eq];exact hs),decide_eq_false hs];rfl
theorem Ajs (l:List A2) (h:l.length≤1000000):D4 l=some l:=by
  unfold D4
  rw [if_pos (by simp;omega)];rfl
def Ti (l:List A2) (at':Nat) (p:A2→Bool) (f:Bool→A2→A2) (g:A2→A2) (i j:Nat) (x:A2):A2 :=
  if j=at' then f ((l.take i).any p) x else if j<i∧p x=true then g x else x
theorem Adl (l:List A2) (at':Nat) (p:A2→Bool) (f:Bool→A2→A2) (g:A2→A2) {i:Nat} {x:A2} (hx:l[i]? = some x) (hp:p x=false) (j:Nat) (y:A2) (hy:l[j]? = some y) :
    Ti l at' p f g (i+1) j y=Ti l at' p f g i j y:=by
  obtain ⟨hlt,rfl⟩:=List.getElem?_eq_some_iff.1 hx
  unfold Ti
  rw [List.take_succ_eq_append_getElem hlt,List.any_append]
  simp only [List.any_cons,List.any_nil,hp,Bool.or_false]
  split
  · rfl
  · by_cases hji:j<i
    · simp only [show j<i+1 from by omega,hji]
    · by_cases hj:j=i
      · subst hj
        rw [hx] at hy
        rw [← Option.some.inj hy,hp];simp
      · simp only [show ¬ j<i+1 from by omega,hji]
theorem Ax1 (l:List A2) (a b:Nat) {x y:A2} (hne:a≠b) (hx:l[a]? = some x) (hy:l[b]? = some y) :
    Fj l (a:Int) (b:Int)=some ((l.set a { x with Out:=true }).set b { y with In:=true }):=by
  have ha:=(List.getElem?_eq_some_iff.1 hx).1
  unfold Fj Ka Kf
  rw [Bp,hx]
  simp only [Option.bind_some,Int.toNat_natCast]
  rw [Bp,List.getElem?_set_ne hne,hy]
  rfl
theorem Afn (x:A2):I2 x=some (x.In && x.Out):=by
  unfold I2
  cases x.In <;> rfl
theorem An9 {c:Bh} (h:SC c) (r:Bi) {n:Nat} {a:A2} (ha:c.Txs[n]? = some a) (h1:a.State=1) :
    ∃ v,Lj (Fb r (n:Int) c.Txs) fuel (0,c.Txs)=some v ∧
      (match v with
        | .inl q=>q=(cN,10)∧∃ x ∈ c.Txs,Pd a r x=true∧x.Out=true
        | .inr l=>l=c.Txs.map (P1 c.Txs a r)∧∀ x ∈ c.Txs,Pd a r x=true→x.Out=false):=by
  have hl:=h.len
  have ham:=List.mem_of_getElem? ha
  have hpa:Pd a r a=false:=by unfold Pd;rw [h1];rfl
  let F:=Ti c.Txs n (Pd a r) (fun b x=>{ x with Out:=x.Out || b }) (fun x=>{ x with In:=true })
  refine Cx (f:=Fb r (n:Int) c.Txs) (P:=fun s=>∃ i:Nat,i≤c.Txs.length∧s.1=(i:Int)∧s.2.length=c.Txs.length∧(∀ (j:Nat) (x:A2),c.Txs[j]? = some x→s.2[j]? = some (F i j x))∧∀ x ∈ c.Txs.take i,Pd a r x=true→x.Out=false) (μ:=fun s=>c.Txs.length-s.1.toNat) (R:=fun v=>match v with
        | .inl q=>q=(cN,10)∧∃ x ∈ c.Txs,Pd a r x=true∧x.Out=true
        | .inr l=>l=c.Txs.map (P1 c.Txs a r)∧∀ x ∈ c.Txs,Pd a r x=true→x.Out=false) ?_ fuel (0,c.Txs) ⟨0,Nat.zero_le _,rfl,rfl,fun j x hx=>?_,by simp⟩ (Ck (by show c.Txs.length-0≤_;omega))
  · rintro ⟨_,l⟩ ⟨i,hi,rfl,hll,hF,hno⟩
    dsimp only at hll hF
    unfold Fb
    dsimp only
    rcases Nat.lt_or_ge i c.Txs.length with hlt | hge
    · have hx:=List.getElem?_eq_getElem hlt
      generalize c.Txs[i]=x at hx
      have hxm:=List.mem_of_getElem? hx
      have hstep:Pd a r x=false→∃ s',(some (LR.cont (wI ((i:Int)+1),l)):Option (LR (Int × List A2) (List A2) (Bh × Int)))=some (.cont s')∧(∃ k:Nat,k≤c.Txs.length∧s'.1=(k:Int)∧s'.2.length=c.Txs.length∧(∀ (j:Nat) (x:A2),c.Txs[j]? = some x→s'.2[j]? = some (F k j x))∧∀ x ∈ c.Txs.take k,Pd a r x=true→x.Out=false)∧c.Txs.length-s'.1.toNat<c.Txs.length-(i:Int).toNat:=fun hp=>by
        refine ⟨_,rfl,⟨i+1,hlt,by rw [Cc (by omega) (by omega)];rfl,hll,fun j y hy=>?_,fun y hy hpy=>?_⟩,by rw [Cc (by omega) (by omega)];omega⟩
        · show l[j]? = some (Ti _ _ _ _ _ (i+1) j y)
          rw [Adl _ _ _ _ _ hx hp j y hy];exact hF j y hy
        · rw [List.take_succ_eq_append_getElem hlt,List.mem_append,List.mem_singleton] at hy
          rcases hy with hy | hy
          · exact hno y hy hpy
          · rw [List.getElem?_eq_getElem hlt] at hx
            rw [hy,Option.some.inj hx,hp] at hpy;cases hpy
      rw [if_pos (decide_eq_true (by omega)),Bp,hF i x hx,Option.bind_some]
      by_cases hin:i=n
      · subst hin
        have:x=a:=by rw [ha] at hx;exact (Option.some.inj hx).symm
        subst this
        left
        rw [if_pos (by
          show (!decide ((F i i x).State=2))=true
          have:(F i i x).State=x.State:=by show (Ti _ _ _ _ _ i i x).State=_;unfold Ti;rw [if_pos rfl]
          rw [this,h1];rfl)]
        exact hstep hpa
      · have eF:F i i x=x:=by show Ti _ _ _ _ _ i i x=_;unfold Ti;rw [if_neg hin,if_neg (fun e=>by omega)]
        rw [eF]
        have hFa:F i n a={ a with Out:=a.Out || (c.Txs.take i).any (Pd a r) }:=by show Ti _ _ _ _ _ i n a=_;unfold Ti;rw [if_pos rfl]
        by_cases hs:x.State=2
        · rw [if_neg (by rw [decide_eq_true hs];decide),Bp,hF n a ha,Option.bind_some,Agt x _ (by rw [hFa];exact h1),Option.bind_some,decide_eq_true hs,Bool.true_and,Bool.not_not]
          rw [show (F i n a).Begin=a.Begin from by rw [hFa]]
          by_cases he:x.End≤a.Begin
          · rw [if_pos (decide_eq_true he)]
            exact .inl (hstep (by unfold Pd;rw [decide_eq_true he];simp))
          · rw [if_neg (by rw [decide_eq_true_eq];exact he),Als x r (by have:=h.keys x hxm;omega),Option.bind_some]
            cases hm:Alk r x.Keys with
            | false =>
              rw [if_pos (by rfl)]
              exact .inl (hstep (by unfold Pd;rw [hm];simp))
            | true =>
              have hp:Pd a r x=true:=Yk.2 ⟨hs,by omega,hm⟩
              rw [if_neg (nn (by rfl))]
              unfold Nc G6
              dsimp only
              rw [Option.bind_some,Ax1 l n i (fun e=>hin e.symm) (hF n a ha) (by rw [hF i x hx,eF]),Option.bind_some,if_pos (by simp),Bp,List.getElem?_set_self (by rw [List.length_set];omega),Option.bind_some,Afn,Option.bind_some]
              dsimp only
              rw [Bool.true_and]
              cases ho:x.Out with
              | true =>
                rw [if_pos rfl]
                exact .inr (.inr ⟨_,rfl,rfl,x,hxm,hp,ho⟩)
              | false =>
                rw [if_neg (nn (by rfl))]
                refine .inl ⟨_,rfl,⟨i+1,hlt,by rw [Cc (by omega) (by omega)];rfl,by simp [hll],fun j y hy=>?_,fun y hy hpy=>?_⟩,by rw [Cc (by omega) (by omega)];omega⟩
                · show (List.set _ i _)[j]? = some (Ti _ _ _ _ _ (i+1) j y)
                  have hjl:=(List.getElem?_eq_some_iff.1 hy).1
                  unfold Ti
                  by_cases hji:j=i
                  · subst hji
                    rw [hx] at hy
                    have:=Option.some.inj hy
                    subst this
                    rw [List.getElem?_set_self (by rw [List.length_set];omega),if_neg hin,if_pos ⟨by omega,hp⟩]
                    dsimp only
                    rw [ho]
                  · rw [List.getElem?_set_ne (fun e=>hji e.symm)]
                    by_cases hjn:j=n
                    · subst hjn
                      rw [ha] at hy
                      have:=Option.some.inj hy
                      subst this
                      rw [List.getElem?_set_self (by omega),if_pos rfl,List.take_succ_eq_append_getElem hlt,List.any_append,hFa]
                      have:c.Txs[i]=x:=by rw [List.getElem?_eq_getElem hlt] at hx;exact Option.some.inj hx
                      rw [this]
                      simp only [List.any_cons,List.any_nil,hp,Bool.or_true,Bool.true_or]
                    · rw [List.getElem?_set_ne (fun e=>hjn e.symm),if_neg hjn,hF j y hy]
                      show some (Ti _ _ _ _ _ i j y)=_
                      unfold Ti
                      rw [if_neg hjn]
                      by_cases hlt':j<i
                      · simp only [hlt',show j<i+1 from by omega]
                      · simp only [hlt',show ¬ j<i+1 from by omega]
                · rw [List.take_succ_eq_append_getElem hlt,List.mem_append,List.mem_singleton] at hy
                  rcases hy with hy | hy
                  · exact hno y hy hpy
                  · rw [List.getElem?_eq_getElem hlt] at hx
                    rw [hy,Option.some.inj hx];exact ho
        · rw [if_pos (by rw [decide_eq_false hs];rfl)]
          exact .inl (hstep (by unfold Pd;rw [decide_eq_false hs];rfl))
    · have e:i=c.Txs.length:=by omega
      subst e
      rw [if_neg (by rw [decide_eq_true_eq];omega)]
      refine .inr (.inl ⟨_,rfl,?_,by rw [List.take_length] at hno;exact hno⟩)
      apply List.ext_getElem?
      intro j
      rw [List.getElem?_map]
      cases hy:c.Txs[j]? with
      | none =>
        have hy:=List.getElem?_eq_none_iff.1 hy
        exact List.getElem?_eq_none_iff.2 (by omega)
      | some y =>
        rw [hF j y hy]
        show some (Ti _ _ _ _ _ _ j y)=some (P1 _ _ _ y)
        have hjl:=(List.getElem?_eq_some_iff.1 hy).1
        unfold Ti P1
        rw [List.take_length]
        by_cases hjn:j=n
        · subst hjn
          rw [ha] at hy
          have:=Option.some.inj hy
          subst this
          rw [if_pos rfl,if_pos rfl]
        · have hne:y.ID≠a.ID:=fun e=>by
            have hya:=h.one (List.mem_of_getElem? hy) ham e
            obtain ⟨p1,p2⟩:=List.getElem?_eq_some_iff.1 hy
            obtain ⟨q1,q2⟩:=List.getElem?_eq_some_iff.1 ha
            rcases Nat.lt_or_gt_of_ne hjn with hh | hh
            · have:=List.pairwise_iff_getElem.1 h.ids j n p1 q1 hh
              rw [p2,q2] at this;exact this e
            · have:=List.pairwise_iff_getElem.1 h.ids n j q1 p1 hh
              rw [p2,q2] at this;exact this e.symm
          rw [if_neg hjn,if_neg hne]
          simp only [hjl,true_and]
  · show c.Txs[j]? = some (Ti _ _ _ _ _ 0 j x)
    rw [hx]
    unfold Ti
    rw [List.take_zero]
    simp only [List.any_nil,Bool.or_false,Nat.not_lt_zero,false_and,if_false]
    split <;> rfl
theorem read_m {c:Bh} (h:SC c) (id:Int) (r:Bi) :
    ((∀ x ∈ c.Txs,x.ID=id→x.State≠1)∧Gy c id r=some (cN,7)) ∨
    ∃ a ∈ c.Txs,a.ID=id∧a.State=1 ∧
      ((∃ e,(e=1∨(e=8∧128≤c.Reads.L.length))∧Gy c id r=some (cN,e)) ∨
       ((∃ x ∈ c.Txs,Pd a r x=true∧x.Out=true)∧Gy c id r=some (cN,10)) ∨
       ∃ rs,Good rs∧(∀ x ∈ c.Reads.L,x ∈ rs)∧(⟨a.ID,r⟩:A0) ∈ rs∧(∀ x ∈ rs,x ∈ c.Reads.L∨x=⟨a.ID,r⟩)∧rs.length≤c.Reads.L.length+1∧(∀ x ∈ c.Txs,Pd a r x=true→x.Out=false) ∧
         Gy c id r=some (⟨c.Txs.map (P1 c.Txs a r),⟨rs⟩⟩,0)):=by
  unfold Gy
  rw [sane_c h,Option.bind_some,if_neg (nn (by rfl))]
  rcases Abr h id with ⟨h1,e⟩ | ⟨i,a,ha,e1,e2,e⟩
  · rw [e,Option.bind_some]
    exact .inl ⟨h1,rfl⟩
  · right
    refine ⟨a,List.mem_of_getElem? ha,e1,e2,?_⟩
    rw [e,Option.bind_some,if_neg (by rw [decide_eq_true_eq];omega)]
    have hfin:∀ rs:List A0,((D4 c.Txs).bind fun v4=>(Lj (Fb r (i:Int) v4) fuel (0,v4)).bind fun x=>match x with | .inl r=>some r | .inr e17=>Ku ((⟨rs⟩:Bz),(0:Int)) e17)=some (cN,10)∧(∃ x ∈ c.Txs,Pd a r x=true∧x.Out=true)∨((D4 c.Txs).bind fun v4=>(Lj (Fb r (i:Int) v4) fuel (0,v4)).bind fun x=>match x with | .inl r=>some r | .inr e17=>Ku ((⟨rs⟩:Bz),(0:Int)) e17)=some (⟨c.Txs.map (P1 c.Txs a r),⟨rs⟩⟩,0)∧(∀ x ∈ c.Txs,Pd a r x=true→x.Out=false):=fun rs=>by
      rw [Ajs _ (by have:=h.len;omega),Option.bind_some]
      obtain ⟨v,hv,hr⟩:=An9 h r ha e2
      rw [hv]
      cases v with
      | inl q=>exact .inl ⟨by rw [← hr.1];rfl,hr.2⟩
      | inr l=>exact .inr ⟨by rw [← hr.1];rfl,hr.2⟩
    have hg:=h.gr
    subst e1
    rcases Avw (l:=c.Reads.L) (by have:=hg.len;omega) a.ID r with ⟨_,hs,⟨hin,e⟩ | ⟨hin,⟨h128,e⟩ | ⟨h128,e,hg'⟩⟩⟩ | ⟨_,e⟩
    · rw [e,Option.bind_some,if_neg (by show ¬ (!decide ((0:Int)=0))=true;decide)]
      rcases hfin c.Reads.L with ⟨hh,hx⟩ | ⟨hh,hx⟩
      · exact .inr (.inl ⟨hx,hh⟩)
      · exact .inr (.inr ⟨c.Reads.L,hg,fun x hx=>hx,hin,fun x hx=>.inl hx,by omega,hx,hh⟩)
    · rw [e,Option.bind_some,if_pos (by decide)]
      exact .inl ⟨8,.inr ⟨rfl,h128⟩,rfl⟩
    · rw [e,Option.bind_some,if_neg (by show ¬ (!decide ((0:Int)=0))=true;decide)]
      rcases hfin (c.Reads.L++[⟨a.ID,r⟩]) with ⟨hh,hx⟩ | ⟨hh,hx⟩
      · exact .inr (.inl ⟨hx,hh⟩)
      · refine .inr (.inr ⟨_,hg',fun x hx=>List.mem_append_left _ hx,List.mem_append_right _ (List.mem_singleton_self _),fun x hx=>?_,by rw [List.length_append];exact Nat.le_refl _,hx,hh⟩)
        rcases List.mem_append.1 hx with hx | hx
        · exact .inl hx
        · exact .inr (List.mem_singleton.1 hx)
    · rw [e,Option.bind_some,if_pos (by decide)]
      exact .inl ⟨1,.inl rfl,rfl⟩
theorem Anc {c:Bh} (h:SC c) (a:A2) (ts:Int) (K:Keys) (hK:K.length≤1000000) :
    ∃ b,Lp c a ts K=some b∧(b=true ↔ a.Begin<ts∧ts≤maxTs∧KS K∧¬ (a.RO=true∧K≠[])∧∀ y ∈ c.Txs,y.End<ts):=by
  have hl:=h.len
  unfold Lp
  by_cases h1:ts≤a.Begin
  · rw [if_pos (decide_eq_true h1)]
    exact ⟨false,rfl,(fun e=>by cases e),fun e=>by omega⟩
  rw [if_neg (by rw [decide_eq_true_eq];exact h1)]
  by_cases h2:1099511627776<ts
  · rw [if_pos (decide_eq_true h2)]
    exact ⟨false,rfl,(fun e=>by cases e),fun e=>by have:ts≤1099511627776:=e.2.1;omega⟩
  rw [if_neg (by rw [decide_eq_true_eq];exact h2)]
  obtain ⟨v,hv,hi⟩:=Rb K (by omega)
  rw [hv,Option.bind_some]
  cases v with
  | false=>exact ⟨false,rfl,(fun e=>by cases e),fun e=>by have:=hi.2 e.2.2.1;cases this⟩
  | true =>
  have hks:=hi.1 rfl
  rw [if_neg (nn (by rfl))]
  have hk1:∃ b,Gh c ts ()=some b∧(b=true ↔ ∀ y ∈ c.Txs,y.End<ts):=by
    unfold Gh
    rw [Aw5 c.Txs (fun y=>!decide (ts≤y.End)) false (Gc c ts) (by omega) (fun i x hx=>by
      have hlt:=(List.getElem?_eq_some_iff.1 hx).1
      unfold Gc
      rw [if_pos (decide_eq_true (by omega)),Bp,hx,Option.bind_some,Cc (by omega) (by omega)]
      cases decide (ts≤x.End) <;> rfl) (by
      unfold Gc
      rw [if_neg (by rw [decide_eq_true_eq];omega)])]
    cases ha:c.Txs.all (fun y=>!decide (ts≤y.End)) with
    | true =>
      refine ⟨true,rfl,fun _ y hy=>?_,fun _=>rfl⟩
      have:=List.all_eq_true.1 ha y hy
      simp only [Bool.not_eq_true',decide_eq_false_iff_not] at this
      omega
    | false =>
      refine ⟨false,rfl,(fun e=>by cases e),fun e=>?_⟩
      rw [List.all_eq_true.2 fun y hy=>by have:=e y hy;simp only [Bool.not_eq_true',decide_eq_false_iff_not];omega] at ha
      cases ha
  obtain ⟨b,hb,hbi⟩:=hk1
  have h2':ts≤maxTs:=by show ts≤1099511627776;omega
  cases hro:a.RO with
  | false =>
    rw [if_neg (by decide),hb]
    exact ⟨b,rfl,hbi.trans ⟨fun e=>⟨by omega,h2',hks,fun e=>(by cases e.1),e⟩,fun e=>e.2.2.2.2⟩⟩
  | true =>
    rw [if_pos rfl]
    by_cases hK0:(0:Int)<K.length
    · rw [if_pos (decide_eq_true hK0)]
      refine ⟨false,rfl,(fun e=>by cases e),fun e=>absurd ⟨rfl,fun e=>?_⟩ e.2.2.2.1⟩
      rw [e] at hK0;simp at hK0
    · rw [if_neg (by rw [decide_eq_true_eq];exact hK0),hb]
      have:K=[]:=List.eq_nil_of_length_eq_zero (by omega)
      exact ⟨b,rfl,hbi.trans ⟨fun e=>⟨by omega,h2',hks,fun e=>e.2 this,e⟩,fun e=>e.2.2.2.2⟩⟩
theorem Ajc {c:Bh} (h:SC c) (a:A2) (h1:a.State=1) (K:Keys) (hK:K.length≤1000000) :
    ∃ b,G3 c a K=some b∧(b=false ↔ ∀ x ∈ c.Txs,x.State=2→a.Begin<x.End→∀ k ∈ K,k ∉ x.Keys):=by
  have hl:=h.len
  have hpw:∀ x ∈ c.Txs,x.State=2→PW x.Keys:=fun x hx hs=>by
    rcases (h.each x hx).st with e | e
    · rw [hs] at e;cases e.1
    · exact e.2.2.2.1.pw
  let p:A2→Bool:=fun x=>decide (x.State=2) && !decide (x.End≤a.Begin) && K.any (fun k=>hit x.Keys k)
  have hs:G3 c a K=some (c.Txs.any p):=by
    unfold G3
    rw [Alt c.Txs p (fun _=>true) (E5 c a K) (by omega) (fun i x hx=>by
      have hlt:=(List.getElem?_eq_some_iff.1 hx).1
      have hxm:=List.mem_of_getElem? hx
      unfold E5
      rw [if_pos (decide_eq_true (by omega)),Bp,hx,Option.bind_some]
      by_cases hs:x.State=2
      · rw [if_neg (by rw [decide_eq_true hs];decide),Aop x a h1,Option.bind_some,decide_eq_true hs,Bool.true_and,Bool.not_not]
        by_cases he:x.End≤a.Begin
        · rw [if_pos (decide_eq_true he),Cc (by omega) (by omega)]
          have:p x=false:=by show (_ && _ && _)=false;rw [decide_eq_true he];simp
          rw [this];rfl
        · rw [if_neg (by rw [decide_eq_true_eq];exact he)]
          unfold Jd
          rw [Alt K (fun k=>hit x.Keys k) (fun _=>true) (E9 K x) (by omega) (fun j k hk=>by
            have hjl:=(List.getElem?_eq_some_iff.1 hk).1
            unfold E9
            rw [if_pos (decide_eq_true (by omega)),Bp,hk,Option.bind_some,Aa0 _ _ (by have:=h.keys x hxm;omega),Option.bind_some,Cc (by omega) (by omega)]
            cases hit x.Keys k <;> rfl) (by
            unfold E9
            rw [if_neg (by rw [decide_eq_true_eq];omega)]),Option.bind_some]
          have hpx:p x=K.any (fun k=>hit x.Keys k):=by show (_ && _ && _)=_;rw [decide_eq_true hs,decide_eq_false he];simp
          rw [hpx]
          cases hf:K.find? (fun k=>hit x.Keys k) with
          | none =>
            rw [show K.any (fun k=>hit x.Keys k)=false from List.any_eq_false.2 fun k hk=>by have:=List.find?_eq_none.1 hf k hk;simpa using this]
            show Gr _ _=_
            unfold Gr
            rw [Cc (by omega) (by omega)];rfl
          | some k=>rw [List.any_eq_true.2 ⟨k,List.mem_of_find?_eq_some hf,by have:=List.find?_some hf;exact this⟩];rfl
      · rw [if_pos (by rw [decide_eq_false hs];rfl),Cc (by omega) (by omega)]
        have:p x=false:=by show (_ && _ && _)=false;rw [decide_eq_false hs];rfl
        rw [this];rfl) (by
      unfold E5
      rw [if_neg (by rw [decide_eq_true_eq];omega)]),Option.bind_some]
    cases hf:c.Txs.find? p with
    | none=>rw [show c.Txs.any p=false from List.any_eq_false.2 fun k hk=>by have:=List.find?_eq_none.1 hf k hk;simpa using this];rfl
    | some k=>rw [List.any_eq_true.2 ⟨k,List.mem_of_find?_eq_some hf,by have:=List.find?_some hf;exact this⟩]
  refine ⟨_,hs,?_⟩
  rw [List.any_eq_false]
  constructor
  · intro hh x hx hs he k hk hkx
    refine hh x hx ?_
    show (_ && _ && _)=true
    rw [decide_eq_true hs,decide_eq_false (by omega),List.any_eq_true.2 ⟨k,hk,(Zk (hpw x hx hs)).2 hkx⟩];rfl
  · intro hh x hx hp
    have hp:(decide (x.State=2) && !decide (x.End≤a.Begin) && K.any (fun k=>hit x.Keys k))=true:=hp
    simp only [Bool.and_eq_true,decide_eq_true_eq,Bool.not_eq_true',decide_eq_false_iff_not,List.any_eq_true] at hp
    obtain ⟨⟨hs,he⟩,k,hk,hh'⟩:=hp
    exact hh x hx hs (by omega) k hk (U1 hh')
def Amd (rs:List A0) (K:Keys):List Int:=K.flatMap fun k=>Acl (Z6 rs k)
theorem Agv {rs:List A0} {K:Keys} {t:Int}:t ∈ Amd rs K ↔ ∃ r ∈ rs,r.Tx=t∧Alk r.Rng K=true:=by
  unfold Amd
  rw [List.mem_flatMap]
  constructor
  · rintro ⟨k,hk,h⟩
    obtain ⟨x,hx,h1,h2⟩:=Agg.1 h
    exact ⟨x,hx,h2,Agi.2 ⟨k,hk,h1⟩⟩
  · rintro ⟨r,hr,h1,h2⟩
    obtain ⟨k,hk,h3⟩:=Agi.1 h2
    exact ⟨k,hk,Agg.2 ⟨r,hr,h3,h1⟩⟩
theorem Agz (rs:List A0):∀ K:Keys,(Amd rs K).length≤K.length*rs.length
  | []=>by simp [Amd]
  | k::K=>by
    have ih:=Agz rs K
    have:=Alv rs k
    unfold Amd at ih ⊢
    rw [List.flatMap_cons,List.length_append,List.length_cons,Nat.succ_mul]
    omega
theorem Aec {c:Bh} (h:SC c) (K:Keys) (hK:K.length≤1000000):Hh c K=some (Amd c.Reads.L K):=by
  have hg:=h.gr.len
  unfold Hh
  rw [Ajd K (fun k=>Acl (Z6 c.Reads.L k)) (Eb c K) 128 (fun k=>by have:=Alv c.Reads.L k;omega) (by omega) (fun i x acc hx ha=>by
    have hlt:=(List.getElem?_eq_some_iff.1 hx).1
    have:=Alv c.Reads.L x
    unfold Eb
    dsimp only
    rw [if_pos (decide_eq_true (by omega)),Bp,hx,Option.bind_some,Asm (l:=c.Reads.L) (by omega),Option.bind_some,if_pos (by omega),Cc (by omega) (by omega)]
    rfl) (fun acc=>by
    unfold Eb
    dsimp only
    rw [if_neg (by rw [decide_eq_true_eq];omega)]),Option.bind_some]
  rfl
theorem Aoy {c:Bh} (h:SC c) (K:Keys) (hK:K.length≤16) {n:Nat} {a:A2} (ha:c.Txs[n]? = some a) (h1:a.State=1) :
    ∃ b l,Km c.Txs (n:Int) (Amd c.Reads.L K)=some (b,l)∧l.length=c.Txs.length ∧
      (b=false→∃ x ∈ c.Txs,Sg c.Reads.L a K x=true∧x.State=2∧x.In=true) ∧
      (b=true→(∀ (j:Nat) (x:A2),c.Txs[j]? = some x→l[j]? = some (if j=n then { x with In:=x.In || c.Txs.any (Sg c.Reads.L a K) } else if Sg c.Reads.L a K x=true then { x with Out:=true } else x))∧∀ x ∈ c.Txs,Sg c.Reads.L a K x=true→x.State=2→x.In=false):=by
  have hl:=h.len
  have hg:=h.gr.len
  have hrl:=Agz c.Reads.L K
  have hrl':(Amd c.Reads.L K).length≤2048:=Nat.le_trans hrl (Nat.le_trans (Nat.mul_le_mul hK hg) (by decide))
  have ham:=List.mem_of_getElem? ha
  have hpa:Sg c.Reads.L a K a=false:=by unfold Sg;rw [decide_eq_true rfl];rfl
  let F:=Ti c.Txs n (Sg c.Reads.L a K) (fun b x=>{ x with In:=x.In || b }) (fun x=>{ x with Out:=true })
  have key:∃ v,Lj (Fs c.Txs (n:Int) (Amd c.Reads.L K)) fuel (0,c.Txs)=some v ∧
      (match v with
        | .inl q=>q.1=false∧q.2.length=c.Txs.length∧∃ x ∈ c.Txs,Sg c.Reads.L a K x=true∧x.State=2∧x.In=true
        | .inr l=>l.length=c.Txs.length∧(∀ (j:Nat) (x:A2),c.Txs[j]? = some x→l[j]? = some (F c.Txs.length j x))∧∀ x ∈ c.Txs,Sg c.Reads.L a K x=true→x.State=2→x.In=false):=by
    refine Cx (f:=Fs c.Txs (n:Int) (Amd c.Reads.L K)) (P:=fun s=>∃ i:Nat,i≤c.Txs.length∧s.1=(i:Int)∧s.2.length=c.Txs.length∧(∀ (j:Nat) (x:A2),c.Txs[j]? = some x→s.2[j]? = some (F i j x))∧∀ x ∈ c.Txs.take i,Sg c.Reads.L a K x=true→x.State=2→x.In=false) (μ:=fun s=>c.Txs.length-s.1.toNat) (R:=fun v=>match v with
        | .inl q=>q.1=false∧q.2.length=c.Txs.length∧∃ x ∈ c.Txs,Sg c.Reads.L a K x=true∧x.State=2∧x.In=true
        | .inr l=>l.length=c.Txs.length∧(∀ (j:Nat) (x:A2),c.Txs[j]? = some x→l[j]? = some (F c.Txs.length j x))∧∀ x ∈ c.Txs,Sg c.Reads.L a K x=true→x.State=2→x.In=false) ?_ fuel (0,c.Txs) ⟨0,Nat.zero_le _,rfl,rfl,fun j x hx=>?_,by simp⟩ (Ck (by show c.Txs.length-0≤_;omega))
    · rintro ⟨_,l⟩ ⟨i,hi,rfl,hll,hF,hno⟩
      dsimp only at hll hF
      unfold Fs
      dsimp only
      rcases Nat.lt_or_ge i c.Txs.length with hlt | hge
      · have hx:=List.getElem?_eq_getElem hlt
        generalize c.Txs[i]=x at hx
        have hxm:=List.mem_of_getElem? hx
        have htk:∀ {y},y ∈ c.Txs.take (i+1)→y ∈ c.Txs.take i∨y=x:=fun {y} hy=>by
          rw [List.take_succ_eq_append_getElem hlt,List.mem_append,List.mem_singleton] at hy
          rcases hy with hy | hy
          · exact .inl hy
          · rw [List.getElem?_eq_getElem hlt] at hx
            exact .inr (hy.trans (Option.some.inj hx))
        have hstep:Sg c.Reads.L a K x=false→∃ s',(some (LR.cont (wI ((i:Int)+1),l)):Option (LR (Int × List A2) (List A2) (Bool × List A2)))=some (.cont s')∧(∃ k:Nat,k≤c.Txs.length∧s'.1=(k:Int)∧s'.2.length=c.Txs.length∧(∀ (j:Nat) (x:A2),c.Txs[j]? = some x→s'.2[j]? = some (F k j x))∧∀ x ∈ c.Txs.take k,Sg c.Reads.L a K x=true→x.State=2→x.In=false)∧c.Txs.length-s'.1.toNat<c.Txs.length-(i:Int).toNat:=fun hp=>by
          refine ⟨_,rfl,⟨i+1,hlt,by rw [Cc (by omega) (by omega)];rfl,hll,fun j y hy=>?_,fun y hy hpy=>?_⟩,by rw [Cc (by omega) (by omega)];omega⟩
          · show l[j]? = some (Ti _ _ _ _ _ (i+1) j y)
            rw [Adl _ _ _ _ _ hx hp j y hy];exact hF j y hy
          · rcases htk hy with hy | hy
            · exact hno y hy hpy
            · rw [hy,hp] at hpy;cases hpy
        rw [if_pos (decide_eq_true (by omega)),Bp,hF i x hx,Option.bind_some]
        by_cases hin:i=n
        · subst hin
          have:x=a:=by rw [ha] at hx;exact (Option.some.inj hx).symm
          subst this
          left
          rw [if_pos (decide_eq_true rfl)]
          exact hstep hpa
        · have hid:x.ID≠a.ID:=fun e=>by
            have hya:=h.one hxm ham e
            obtain ⟨p1,p2⟩:=List.getElem?_eq_some_iff.1 hx
            obtain ⟨q1,q2⟩:=List.getElem?_eq_some_iff.1 ha
            rcases Nat.lt_or_gt_of_ne hin with hh | hh
            · have:=List.pairwise_iff_getElem.1 h.ids i n p1 q1 hh
              rw [p2,q2] at this;exact this e
            · have:=List.pairwise_iff_getElem.1 h.ids n i q1 p1 hh
              rw [p2,q2] at this;exact this e.symm
          have eF:F i i x=x:=by show Ti _ _ _ _ _ i i x=_;unfold Ti;rw [if_neg hin,if_neg (fun e=>by omega)]
          rw [eF]
          have hFa:F i n a={ a with In:=a.In || (c.Txs.take i).any (Sg c.Reads.L a K) }:=by show Ti _ _ _ _ _ i n a=_;unfold Ti;rw [if_pos rfl]
          rw [if_neg (by rw [decide_eq_true_eq];omega),Xb _ _ (by omega),Option.bind_some]
          by_cases hc:x.ID ∈ Amd c.Reads.L K
          · rw [decide_eq_true hc,if_neg (by decide),Bp,hF n a ha,Option.bind_some,Agt x _ (by rw [hFa];exact h1),Option.bind_some,Bool.not_not]
            rw [show (F i n a).Begin=a.Begin from by rw [hFa]]
            cases hb:(decide (x.State=2) && decide (x.End≤a.Begin)) with
            | true =>
              rw [if_pos rfl]
              exact .inl (hstep (by unfold Sg;rw [hb];simp))
            | false =>
              have hp:Sg c.Reads.L a K x=true:=by
                unfold Sg
                rw [hb,decide_eq_false hid]
                obtain ⟨r,hr,e1,e2⟩:=Agv.1 hc
                rw [List.any_eq_true.2 ⟨r,hr,by rw [decide_eq_true e1,e2];rfl⟩];rfl
              rw [if_neg (by decide)]
              unfold Kj G6
              dsimp only
              rw [Option.bind_some,Ax1 l i n hin (by rw [hF i x hx,eF]) (hF n a ha),Option.bind_some,if_pos (by simp)]
              have hnew:∀ (j:Nat) (y:A2),c.Txs[j]? = some y→((l.set i { x with Out:=true }).set n { (F i n a) with In:=true })[j]? = some (F (i+1) j y):=fun j y hy=>by
                show (List.set _ n _)[j]? = some (Ti _ _ _ _ _ (i+1) j y)
                have hjl:=(List.getElem?_eq_some_iff.1 hy).1
                unfold Ti
                by_cases hjn:j=n
                · subst hjn
                  rw [ha] at hy
                  have:=Option.some.inj hy
                  subst this
                  rw [List.getElem?_set_self (by rw [List.length_set];omega),if_pos rfl,List.take_succ_eq_append_getElem hlt,List.any_append,hFa]
                  have:c.Txs[i]=x:=by rw [List.getElem?_eq_getElem hlt] at hx;exact Option.some.inj hx
                  rw [this]
                  simp only [List.any_cons,List.any_nil,hp,Bool.or_true,Bool.true_or]
                · rw [List.getElem?_set_ne (fun e=>hjn e.symm)]
                  by_cases hji:j=i
                  · subst hji
                    rw [hx] at hy
                    have:=Option.some.inj hy
                    subst this
                    rw [List.getElem?_set_self (by omega),if_neg hin,if_pos ⟨by omega,hp⟩]
                  · rw [List.getElem?_set_ne (fun e=>hji e.symm),if_neg hjn,hF j y hy]
                    show some (Ti _ _ _ _ _ i j y)=_
                    unfold Ti
                    rw [if_neg hjn]
                    by_cases hlt':j<i
                    · simp only [hlt',show j<i+1 from by omega]
                    · simp only [hlt',show ¬ j<i+1 from by omega]
              have hgo:(x.State=2→x.In=false)→∃ s',(some (LR.cont (wI ((i:Int)+1),(l.set i { x with Out:=true }).set n { (F i n a) with In:=true })):Option (LR (Int × List A2) (List A2) (Bool × List A2)))=some (.cont s')∧(∃ k:Nat,k≤c.Txs.length∧s'.1=(k:Int)∧s'.2.length=c.Txs.length∧(∀ (j:Nat) (x:A2),c.Txs[j]? = some x→s'.2[j]? = some (F k j x))∧∀ x ∈ c.Txs.take k,Sg c.Reads.L a K x=true→x.State=2→x.In=false)∧c.Txs.length-s'.1.toNat<c.Txs.length-(i:Int).toNat:=fun hxi=>by
                refine ⟨_,rfl,⟨i+1,hlt,by rw [Cc (by omega) (by omega)];rfl,by simp [hll],hnew,fun y hy hpy hsy=>?_⟩,by rw [Cc (by omega) (by omega)];omega⟩
                rcases htk hy with hy | hy
                · exact hno y hy hpy hsy
                · rw [hy] at hsy ⊢;exact hxi hsy
              by_cases hs:x.State=2
              · rw [if_pos (decide_eq_true hs),Bp,hnew i x hx,Option.bind_some,Afn,Option.bind_some]
                have eF':F (i+1) i x={ x with Out:=true }:=by show Ti _ _ _ _ _ (i+1) i x=_;unfold Ti;rw [if_neg hin,if_pos ⟨by omega,hp⟩]
                rw [eF']
                dsimp only
                rw [Bool.and_true]
                by_cases hio:x.In=true
                · rw [if_pos hio]
                  exact .inr (.inr ⟨_,rfl,rfl,by simp [hll],x,hxm,hp,hs,hio⟩)
                · rw [if_neg hio]
                  exact .inl (hgo fun _=>by simpa using hio)
              · rw [if_neg (by rw [decide_eq_true_eq];exact hs)]
                exact .inl (hgo fun e=>absurd e hs)
          · rw [decide_eq_false hc,if_pos (by rfl)]
            refine .inl (hstep ?_)
            cases hh:Sg c.Reads.L a K x with
            | false=>rfl
            | true =>
              obtain ⟨_,⟨r,hr,e1,e2⟩,_⟩:=Ahh.1 hh
              exact absurd (Agv.2 ⟨r,hr,e1,e2⟩) hc
      · have e:i=c.Txs.length:=by omega
        subst e
        rw [if_neg (by rw [decide_eq_true_eq];omega)]
        exact .inr (.inl ⟨_,rfl,hll,hF,by rw [List.take_length] at hno;exact hno⟩)
    · show c.Txs[j]? = some (Ti _ _ _ _ _ 0 j x)
      rw [hx]
      unfold Ti
      rw [List.take_zero]
      simp only [List.any_nil,Bool.or_false,Nat.not_lt_zero,false_and,if_false]
      split <;> rfl
  obtain ⟨v,hv,hr⟩:=key
  unfold Km
  rw [hv,Option.bind_some]
  cases v with
  | inl q =>
    obtain ⟨b,l⟩:=q
    obtain ⟨e,h2,h3⟩:=hr
    have e:b=false:=e
    subst e
    exact ⟨false,l,rfl,h2,fun _=>h3,fun e=>by cases e⟩
  | inr l =>
    obtain ⟨h2,h3,h4⟩:=hr
    refine ⟨true,l,rfl,h2,(fun e=>by cases e),fun _=>⟨fun j x hx=>?_,h4⟩⟩
    rw [h3 j x hx]
    show some (Ti _ _ _ _ _ _ j x)=_
    have hjl:=(List.getElem?_eq_some_iff.1 hx).1
    unfold Ti
    rw [List.take_length]
    simp only [hjl,true_and]
theorem commit_m {c:Bh} (h:SC c) (id ts:Int) (K:Keys) (hK:K.length≤16) :
    ((∀ x ∈ c.Txs,x.ID=id→x.State≠1)∧Eh c id ts K=some (cN,7)) ∨
    ∃ a ∈ c.Txs,a.ID=id∧a.State=1 ∧
      ((¬ (a.Begin<ts∧ts≤maxTs∧KS K∧¬ (a.RO=true∧K≠[])∧∀ y ∈ c.Txs,y.End<ts)∧Eh c id ts K=some (cN,1)) ∨
       ((a.Begin<ts∧ts≤maxTs∧KS K∧¬ (a.RO=true∧K≠[])∧∀ y ∈ c.Txs,y.End<ts) ∧
         ((¬ (∀ x ∈ c.Txs,x.State=2→a.Begin<x.End→∀ k ∈ K,k ∉ x.Keys)∧Eh c id ts K=some (cN,9)) ∨
          ((∀ x ∈ c.Txs,x.State=2→a.Begin<x.End→∀ k ∈ K,k ∉ x.Keys) ∧
            (((∃ x ∈ c.Txs,Sg c.Reads.L a K x=true∧x.State=2∧x.In=true)∨((a.In || c.Txs.any (Sg c.Reads.L a K))=true∧a.Out=true))∧Eh c id ts K=some (cN,10) ∨
             (∀ x ∈ c.Txs,Sg c.Reads.L a K x=true→x.State=2→x.In=false)∧¬ ((a.In || c.Txs.any (Sg c.Reads.L a K))=true∧a.Out=true)∧Eh c id ts K=some (⟨c.Txs.map (Pk c.Txs c.Reads.L a ts K),c.Reads⟩,0)))))):=by
  unfold Eh
  rw [sane_c h,Option.bind_some,if_neg (nn (by rfl))]
  rcases Abr h id with ⟨h1,e⟩ | ⟨n,a,ha,e1,h1,e⟩
  · rw [e,Option.bind_some]
    exact .inl ⟨h1,rfl⟩
  right
  have ham:=List.mem_of_getElem? ha
  have hl:=h.len
  refine ⟨a,ham,e1,h1,?_⟩
  rw [e,Option.bind_some,if_neg (by rw [decide_eq_true_eq];omega),Bp,ha,Option.bind_some]
  obtain ⟨b,hb,hbi⟩:=Anc h a ts K (by omega)
  rw [hb,Option.bind_some]
  cases b with
  | false=>exact .inl ⟨fun hc=>(by have:=hbi.2 hc;cases this),rfl⟩
  | true =>
  right
  refine ⟨hbi.1 rfl,?_⟩
  rw [if_neg (by decide),Option.bind_some]
  obtain ⟨b,hb,hbi⟩:=Ajc h a h1 K (by omega)
  rw [hb,Option.bind_some]
  cases b with
  | true=>exact .inl ⟨fun hc=>(by have:=hbi.2 hc;cases this),rfl⟩
  | false =>
  right
  refine ⟨hbi.1 rfl,?_⟩
  rw [if_neg (by decide),Ajs _ (by omega),Option.bind_some,Aec h K (by omega),Option.bind_some]
  obtain ⟨b,l,hp,hll,hf,ht⟩:=Aoy h K hK ha h1
  rw [hp,Option.bind_some,if_pos hll]
  cases b with
  | false=>exact .inl ⟨.inl (hf rfl),rfl⟩
  | true =>
  obtain ⟨hj,hno⟩:=ht rfl
  have hln:=hj n a ha
  rw [if_pos rfl] at hln
  rw [if_neg (by simp)]
  dsimp only
  rw [Bp,hln,Option.bind_some,Afn,Option.bind_some]
  dsimp only
  by_cases hpv:(a.In || c.Txs.any (Sg c.Reads.L a K))=true∧a.Out=true
  · rw [if_pos (by rw [hpv.1,hpv.2];rfl)]
    exact .inl ⟨.inr hpv,rfl⟩
  · rw [if_neg (by rw [Bool.and_eq_true];exact hpv)]
    refine .inr ⟨hno,hpv,?_⟩
    have hnl:n<l.length:=(List.getElem?_eq_some_iff.1 hln).1
    unfold Li
    rw [Bp,hln,Option.bind_some]
    dsimp only
    rw [Bp,Int.toNat_natCast,List.getElem?_set_self hnl,Option.bind_some]
    dsimp only
    rw [Bp,List.getElem?_set_self (by rw [List.length_set];exact hnl),Option.bind_some,List.set_set,List.set_set]
    congr 2
    show (Bh.mk _ _)=_
    congr 1
    apply List.ext_getElem?
    intro j
    rw [List.getElem?_map]
    cases hy:c.Txs[j]? with
    | none =>
      have hy:=List.getElem?_eq_none_iff.1 hy
      exact List.getElem?_eq_none_iff.2 (by rw [List.length_set];omega)
    | some y =>
      show _=some (Pk _ _ _ _ _ y)
      unfold Pk
      by_cases hjn:j=n
      · subst hjn
        rw [ha] at hy
        have:=Option.some.inj hy
        subst this
        rw [List.getElem?_set_self hnl,if_pos rfl]
      · have hne:y.ID≠a.ID:=fun e=>by
          have hya:=h.one (List.mem_of_getElem? hy) ham e
          obtain ⟨p1,p2⟩:=List.getElem?_eq_some_iff.1 hy
          obtain ⟨q1,q2⟩:=List.getElem?_eq_some_iff.1 ha
          rcases Nat.lt_or_gt_of_ne hjn with hh | hh
          · have:=List.pairwise_iff_getElem.1 h.ids j n p1 q1 hh
            rw [p2,q2] at this;exact this e
          · have:=List.pairwise_iff_getElem.1 h.ids n j q1 p1 hh
            rw [p2,q2] at this;exact this e.symm
        rw [List.getElem?_set_ne (fun e=>hjn e.symm),hj j y hy,if_neg hjn,if_neg hne]
theorem Acz {c:Bh} (h:SC c) (gone:List Int) (hg:gone.length≤1000000):Hs c gone=some ⟨c.Txs.filter (fun x=>!decide (x.ID ∈ gone)),⟨Z3 c.Reads.L gone false⟩⟩:=by
  have hl:=h.len
  unfold Hs
  rw [Ajd c.Txs (fun x=>if (!decide (x.ID ∈ gone))=true then [x] else []) (Ft c gone) 1 (fun x=>by split <;> simp) (by omega) (fun i x acc hx ha=>by
    have hlt:=(List.getElem?_eq_some_iff.1 hx).1
    unfold Ft
    dsimp only
    rw [if_pos (decide_eq_true (by omega)),Bp,hx,Option.bind_some,Xb _ _ hg,Option.bind_some,Cc (by omega) (by omega)]
    cases decide (x.ID ∈ gone) with
    | true=>rw [if_neg (by decide),if_neg (by decide),List.append_nil];rfl
    | false=>rw [if_pos (by rfl),if_pos (by rw [List.length_singleton];omega),if_pos (by rfl)];rfl) (fun acc=>by
    unfold Ft
    dsimp only
    rw [if_neg (by rw [decide_eq_true_eq];omega)]),Option.bind_some,Yc,List.map_id']
  unfold Kg
  rw [Aph (l:=c.Reads.L) (by have:=h.gr.len;omega) _ hg];rfl
theorem Ar5 {c:Bh} (h:SC c) (id:Int):((∀ x ∈ c.Txs,x.ID=id→x.State≠1)∧Fz c id=some c) ∨
    ((∃ a ∈ c.Txs,a.ID=id∧a.State=1)∧Fz c id=some ⟨c.Txs.filter (fun x=>!decide (x.ID ∈ [id])),⟨Z3 c.Reads.L [id] false⟩⟩):=by
  unfold Fz
  rcases Abr h id with ⟨h1,e⟩ | ⟨n,a,ha,e1,h1,e⟩
  · rw [e,Option.bind_some]
    exact .inl ⟨h1,rfl⟩
  · rw [e,Option.bind_some,if_neg (by rw [decide_eq_true_eq];omega),Acz h _ (by simp)]
    exact .inr ⟨⟨a,List.mem_of_getElem? ha,e1,h1⟩,rfl⟩
def Ar8 (l:List A2) (now:Int):Int:=l.foldl (fun m x=>if x.State=1 then (if x.Begin<m then x.Begin else m) else m) now
theorem oldest_m (c:Bh) (now:Int) (hl:c.Txs.length≤1000000):J0 c now=some (Ar8 c.Txs now):=by
  unfold J0
  show (C5 _ fuel (now,((0:Nat):Int))).bind _=_
  rw [W7 (f:=Gd c) (fun (m:Int) (i:Nat)=>(m,(i:Int))) c.Txs (fun m x=>if x.State=1 then (if x.Begin<m then x.Begin else m) else m) (fun m=>m) (by omega) (fun acc i x hx=>by
    have hlt:=(List.getElem?_eq_some_iff.1 hx).1
    unfold Gd
    dsimp only
    rw [if_pos (decide_eq_true (by omega)),Bp,hx,Option.bind_some,Cc (by omega) (by omega)]
    by_cases hs:x.State=1
    · rw [if_pos (decide_eq_true hs),if_pos hs];rfl
    · rw [if_neg (by rw [decide_eq_true_eq];exact hs),if_neg hs];rfl) (fun acc=>by
    unfold Gd
    dsimp only
    rw [if_neg (by rw [decide_eq_true_eq];omega)])]
  rfl
theorem Are {l:List A2}:∀ {now m:Int},m≤Ar8 l now ↔ m≤now∧∀ x ∈ l,x.State=1→m≤x.Begin:=by
  induction l with
  | nil=>intro now m;simp [Ar8]
  | cons a l ih =>
    intro now m
    show m≤Ar8 l _ ↔ _
    rw [ih]
    constructor
    · rintro ⟨h1,h2⟩
      have h1:m≤(if a.State=1 then (if a.Begin<now then a.Begin else now) else now):=h1
      by_cases hs:a.State=1
      · rw [if_pos hs] at h1
        split at h1
        · exact ⟨by omega,fun x hx h=>by
            rcases List.mem_cons.1 hx with e | hx
            · rw [e];omega
            · exact h2 x hx h⟩
        · exact ⟨by omega,fun x hx h=>by
            rcases List.mem_cons.1 hx with e | hx
            · rw [e];omega
            · exact h2 x hx h⟩
      · rw [if_neg hs] at h1
        exact ⟨h1,fun x hx h=>by
          rcases List.mem_cons.1 hx with e | hx
          · rw [e] at h;exact absurd h hs
          · exact h2 x hx h⟩
    · rintro ⟨h1,h2⟩
      refine ⟨?_,fun x hx h=>h2 x (List.mem_cons_of_mem _ hx) h⟩
      show m≤(if a.State=1 then (if a.Begin<now then a.Begin else now) else now)
      by_cases hs:a.State=1
      · have:=h2 a (List.mem_cons_self ..) hs
        rw [if_pos hs]
        split <;> omega
      · rw [if_neg hs];exact h1
def S4 (l:List A2) (x:A2):Bool:=decide (x.State=2) && decide (x.End≤Ar8 l x.End)
theorem Akz {l:List A2} {x:A2}:S4 l x=true ↔ x.State=2∧∀ a ∈ l,a.State=1→x.End≤a.Begin:=by
  unfold S4
  rw [Bool.and_eq_true,decide_eq_true_eq,decide_eq_true_eq,Are]
  exact ⟨fun h=>⟨h.1,h.2.2⟩,fun h=>⟨h.1,Int.le_refl _,h.2⟩⟩
theorem Aro {c:Bh} (h:SC c):Ix c=some ⟨c.Txs.filter (fun x=>!decide (x.ID ∈ (c.Txs.filter (S4 c.Txs)).map (·.ID))),⟨Z3 c.Reads.L ((c.Txs.filter (S4 c.Txs)).map (·.ID)) false⟩⟩:=by
  have hl:=h.len
  unfold Ix
  rw [Ajd c.Txs (fun x=>if S4 c.Txs x=true then [x.ID] else []) (G8 c) 1 (fun x=>by split <;> simp) (by omega) (fun i x acc hx ha=>by
    have hlt:=(List.getElem?_eq_some_iff.1 hx).1
    unfold G8
    dsimp only
    rw [if_pos (decide_eq_true (by omega)),Bp,hx,Option.bind_some,oldest_m _ _ (by omega),Option.bind_some,Cc (by omega) (by omega)]
    unfold S4
    by_cases hs:x.State=2
    · rw [if_pos (decide_eq_true hs),decide_eq_true hs,Bool.true_and]
      by_cases he:x.End≤Ar8 c.Txs x.End
      · rw [if_pos (decide_eq_true he),if_pos (by rw [List.length_singleton];omega),if_pos (decide_eq_true he)];rfl
      · rw [if_neg (by rw [decide_eq_true_eq];exact he),if_neg (by rw [decide_eq_true_eq];exact he),List.append_nil];rfl
    · rw [if_neg (by rw [decide_eq_true_eq];exact hs),decide_eq_false hs,Bool.false_and,if_neg (by decide),List.append_nil];rfl) (fun acc=>by
    unfold G8
    dsimp only
    rw [if_neg (by rw [decide_eq_true_eq];omega)]),Option.bind_some,Yc]
  unfold Mm
  rw [Acz h _ (by rw [List.length_map];have:=List.length_filter_le (S4 c.Txs) c.Txs;omega)]
  rfl
theorem find_c (c:Bh) (id:Int) (hl:c.Txs.length≤1000000):((∀ x ∈ c.Txs,x.ID≠id)∧∃ z,Kh c id=some (z,false))∨∃ x ∈ c.Txs,x.ID=id∧Kh c id=some (x,true):=by
  unfold Kh
  rcases Vm c id hl with ⟨h1,e⟩ | ⟨i,x,hx,e1,e⟩
  · rw [e]
    exact .inl ⟨h1,_,rfl⟩
  · rw [e,Option.bind_some,if_neg (by rw [decide_eq_true_eq];omega),Bp,hx]
    exact .inr ⟨x,List.mem_of_getElem? hx,e1,rfl⟩
def K10 (K:Keys):Prop:=KS K∧K.length≤16
structure Bd (w:WL11) (n:Nat):Prop where
  now:w.now≤n
  beg:w.begun.length≤n
  did:w.did.length≤n
  read:w.read.length≤n
theorem Ahy.to {x:A2} (h:Ahy x K10):Ahy x KS∧x.Keys.length≤16:=by
  refine ⟨⟨h.id,h.beg,?_⟩,?_⟩
  · rcases h.st with e | ⟨a,b,c,d,e⟩
    · exact .inl e
    · exact .inr ⟨a,b,c,d.1,e⟩
  · rcases h.st with ⟨_,_,e⟩ | ⟨a,b,c,d,e⟩
    · rw [e];decide
    · exact d.2
theorem Inv.sc {w:WL11} (h:Inv K10 w):SC w.c:=by
  refine ⟨h.gr,h.ri,h.len,fun x hx=>(h.each x hx).to.1,h.ids,fun x hx y hy h1 h2 he=>?_,fun x hx=>(h.each x hx).to.2⟩
  obtain ⟨d,hd,a1,a2,a3,a4⟩:=h.don x hx h1
  obtain ⟨d',hd',b1,b2,b3,b4⟩:=h.don y hy h2
  have:d=d':=Aj4 h.didE hd hd' (by omega) (by omega)
  rw [← a1,← b1,this]
theorem inv_abort {w:WL11} (h:Inv K10 w) (id:Int):∃ c,Fz w.c id=some c∧Inv K10 { w with c:=c }∧(∀ x ∈ c.Txs,x ∈ w.c.Txs∧¬ (x.ID=id∧x.State=1)):=by
  rcases Ar5 h.sc id with ⟨h1,e⟩ | ⟨⟨a,ha,e1,h1⟩,e⟩
  · exact ⟨_,e,h,fun x hx=>⟨hx,fun hc=>h1 x hx hc.1 hc.2⟩⟩
  · refine ⟨_,e,Ag0 h _ _ (List.filter_sublist ..) (fun r hr=>?_) (fun r hr x hx hp e=>?_) (fun x hx hp hs=>?_),fun x hx=>?_⟩
    · obtain ⟨hr1,hr2⟩:=Vu.1 hr
      obtain ⟨x,hx,e⟩:=h.ri r hr1
      exact ⟨x,hx,by rw [e,hr2];rfl,e⟩
    · rw [e] at hp
      exact Vu.2 ⟨hr,by simpa using hp⟩
    · have:x.ID=id:=by simpa using hp
      rw [h.one hx ha (this.trans e1.symm),h1] at hs;cases hs
    · obtain ⟨h1,h2⟩:=List.mem_filter.1 hx
      refine ⟨h1,fun hc=>?_⟩
      simp [hc.1] at h2
theorem inv_clean {w:WL11} (h:Inv K10 w):∃ c,Ix w.c=some c∧Inv K10 { w with c:=c }∧c=⟨w.c.Txs.filter (fun x=>!S4 w.c.Txs x),⟨Z3 w.c.Reads.L ((w.c.Txs.filter (S4 w.c.Txs)).map (·.ID)) false⟩⟩:=by
  have hm:∀ x ∈ w.c.Txs,(x.ID ∈ (w.c.Txs.filter (S4 w.c.Txs)).map (·.ID)) ↔ S4 w.c.Txs x=true:=fun x hx=>by
    rw [List.mem_map]
    constructor
    · rintro ⟨y,hy,e⟩
      obtain ⟨h1,h2⟩:=List.mem_filter.1 hy
      rw [← h.one h1 hx e];exact h2
    · intro hg;exact ⟨x,List.mem_filter.2 ⟨hx,hg⟩,rfl⟩
  have hf:w.c.Txs.filter (fun x=>!decide (x.ID ∈ (w.c.Txs.filter (S4 w.c.Txs)).map (·.ID)))=w.c.Txs.filter (fun x=>!S4 w.c.Txs x):=by
    refine List.filter_congr fun x hx=>?_
    congr 1
    cases hg:S4 w.c.Txs x with
    | true=>exact decide_eq_true ((hm x hx).2 hg)
    | false=>exact decide_eq_false fun hc=>by have:=(hm x hx).1 hc;rw [hg] at this;cases this
  refine ⟨_,Aro h.sc,?_,by rw [hf]⟩
  rw [hf]
  refine Ag0 h _ _ (List.filter_sublist ..) (fun r hr=>?_) (fun r hr x hx hp e=>?_) (fun x hx hp hs a ha hpa h1=>?_)
  · obtain ⟨hr1,hr2⟩:=Vu.1 hr
    obtain ⟨x,hx,e⟩:=h.ri r hr1
    refine ⟨x,hx,?_,e⟩
    have hn:¬ (x.ID ∈ (w.c.Txs.filter (S4 w.c.Txs)).map (·.ID)):=by rw [e];exact of_decide_eq_false hr2
    cases hg:S4 w.c.Txs x with
    | true=>exact absurd ((hm x hx).2 hg) hn
    | false=>rfl
  · refine Vu.2 ⟨hr,decide_eq_false fun hc=>?_⟩
    rw [← e] at hc
    rw [(hm x hx).1 hc] at hp;cases hp
  · have hg:S4 w.c.Txs x=true:=by simpa using hp
    exact (Akz.1 hg).2 a ha h1
end Go.Proofs.YtkblaobhhoebaaaGreat.Abs.ss
