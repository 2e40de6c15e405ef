/-
  A walk over abstract states: its rules, part C.
-/
import Derived.Test.YtkblaobhhoebaaaGreatQAbsB
import Derived.WalkKit
import Derived.Lib.Walk
import Derived.Lib.SliceRun
import Derived.Lib.JoinLaws
import Derived.Lib.AppendZeros
import Derived.Lib.AppendZerosOnto
import Derived.Lib.Overlaps
import Derived.Laws.Externs
import Derived.Laws.IdiomCopy
import Derived.Laws.NewBlocks
import Derived.Shelf.RegionOpenPlain
import Derived.Shelf.Spec.SlicesInsert
import Derived.Lib.ConvBytes
import Derived.Maps.Range
import Derived.Shelf.SlSortCmp.WholeK
import Derived.Shelf.SlSortCmp.NoneTotal
import Derived.Shelf.SortM.Plain
import Derived.Shelf.SortM.SortNone
import Derived.Shelf.SlicesE.Compact
import Derived.Conc.LoneSelect
import Derived.Test.YtkblaobhhoebaaaGreatQAbsA
import Derived.SizedLaws
import Derived.OpenShut
import Derived.ChangeKeysEq
import Derived.LaidEql
import Derived.Stop.Asserts
import Derived.Stop.IfaceNil
import Derived.RowKitTokens
import Derived.Lib.IfaceEq
import Derived.ProofKit
set_option linter.unusedVariables false
set_option linter.unusedSimpArgs false
namespace Go.Proofs.YtkblaobhhoebaaaGreat.Abs
open Go.RowKit
section
variable {σ:Type} {r rr:σ ⊕ (Nat×σ)}
def R1 {α:Type} (f:σ->α->Option (σ ⊕ (Nat×σ))):List α->σ->Option (σ ⊕ (Nat×σ))
 | [],s=>some (.inl s)
 | x::xs,s=>match f s x with
  | none=>none
  | some (.inl s')=>R1 f xs s'
  | some (.inr j)=>some (.inr j)
def Amc {ρ:Type} (k kr:σ->Option ρ) (ke:Nat->σ->Option ρ):σ ⊕ (Nat×σ)->Option ρ
 | .inl s=>k s
 | .inr (0,s)=>kr s
 | .inr (n+1,s)=>ke n s
def A6u:Code->Nat
 | .exit id=>id+1
 | _=>0
theorem Ant {α:Type} {f:σ->α->Option (σ ⊕ (Nat×σ))} {x:α} {xs:List α} {s:σ} (h:R1 f (x::xs) s=some r) :
  ∃ y,f s x=some y/\(∀ s',y=.inl s'->R1 f xs s'=some r)/\∀ j,y=.inr j->r=.inr j:=by
 unfold R1 at h
 cases hf:f s x with
 | none=>rw[hf] at h;cases h
 | some y =>
  rw[hf] at h
  refine⟨y,rfl,λs' e=>?_,λj e=>?_⟩
  ·subst e;exact h
  ·subst e;exact(zF h).symm
section
variable {P:Program} {c:Ctx} {Q:Exit->AS->Prop} {t:Nat->AV} {m:List Blk}
theorem RQ.mono {G:Type} {mm:G->List Blk} {p p':G->Prop} {j j':Code->G->Prop} (hp:∀ g,p g->p' g) (hj:∀ c g,j c g->j' c g):∀ e st,RQ mm p j e st->RQ mm p' j' e st:=by
 intro e st h
 cases e with
 | normal=>obtain⟨g,ex,h1,h2⟩:=h;exact⟨g,ex,hp g h1,h2⟩
 | ret=>obtain⟨g,ex,h1,h2⟩:=h;exact⟨g,ex,hj _ g h1,h2⟩
 | exit id=>obtain⟨g,ex,h1,h2⟩:=h;exact⟨g,ex,hj _ g h1,h2⟩
 | _=>exact h
theorem Aof {go:Operand} {p1 p2:Tmp} {assign body:Code} {fc:FuncId} {cap:List Lf} {α:Type} (f:σ->α->Option (σ ⊕ (Nat×σ))) (Lst:List α) (sx sy:α->SV) (mm:σ->List Blk) (s0:σ) (hr:R1 f Lst s0=some rr)
  (hg:Bg ⟨t,m⟩ go=.s (.one (.fn fc [] cap))) (hfc:FnI P fc) (hcap:cap.all Lf.pubd0=true) (hit:Aw2 P fc cap (Lst.map λx=>(sx x,sy x))) (hp1:decide (p1<c.nt)=true) (hp2:decide (p2<c.nt)=true)
  (hm:m=mm s0) (hlen:∀ g,(mm g).length=m.length) (hmin:∀ g,∀ b∈mm g,b.inb (mm g).length)
  (round:∀ x s y l,f s x=some y->∀ w0 S0 X H0,AWI (some l) P ⟨w0,S0,c.nt,X,mm s,H0⟩ okB assign
   (Gx (λst1=>∀ w0 S0 X H0,AWI (some l) P ⟨w0,S0,c.nt,X,st1.m,H0⟩ okB body (RQ mm (λs'=>y=.inl s') (λjc s'=>y=.inr (A6u jc,s'))) st1) (λ_ _=>False)) ⟨upd (upd t p1 (.s (sx x))) p2 (.s (sy x)),mm s⟩)
  (done:∀ s,rr=.inl s->Q .normal ⟨t,mm s⟩) (hret:∀ s,rr=.inr (0,s)->Q .ret ⟨t,mm s⟩) (hex:∀ id s,rr=.inr (id+1,s)->Q (.exit id) ⟨t,mm s⟩) :
  AWI none P c (okO c) (.rangeFunc go #[p1,p2] assign body) Q ⟨t,m⟩:=by
 refine A50 (L:=Lst.map λx=>(sx x,sy x)) mm (λk s=>R1 f (Lst.drop k) s=some rr) (λjc s=>rr=.inr (A6u jc,s)) s0 hg hfc hcap hit hp1 hp2 hr hm hlen hmin ?_ (λg h=>?_) (λg h=>hret g h) (λid g h=>hex id g h)
 ·intro k X Y s l hk hp w0 S0 X0 H0
  rw[zK] at hk
  cases hx:Lst[k]? with
  | none=>rw[hx] at hk;cases hk
  | some x =>
   rw[hx] at hk
   simp only[xM,z2,Prod.mk.injEq] at hk
   obtain⟨rfl,rfl⟩:=hk
   have hlt:=(zB.1 hx).1
   have hd:Lst.drop k=x::Lst.drop (k+1):=by
    rw[xB hlt,(zB.1 hx).2]
   rw[hd] at hp
   obtain⟨y,hy,h1,h2⟩:=Ant hp
   refine(round x s y l hy w0 S0 X0 H0).mono λe st h=>?_
   cases e with
   | normal =>
    exact λw0 S0 X0 H0=>AWI.mono (h w0 S0 X0 H0) (RQ.mono (λs' h=>h1 s' h) (λjc s' h=>h2 _ h))
   | _=>exact h
 ·have h':R1 f (Lst.drop (Lst.map λx=>(sx x,sy x)).length) g=some rr:=h
  rw[zP,kY] at h'
  exact done g (zF h').symm
end
end
open Go.RowKit
section
variable {P:Program} {c:Ctx} {t:Nat->AV} {m:List Blk} {Q:Exit->AS->Prop}
theorem AWL.go {ops:Array Oper} {l:List Oper} {st:AS} (h:AWL P c ops Q l st) (a:Act) (w:World) (S:Dx) (H:Nat->Value) (r:Rel c st a w S H):wpList P ops (QR c Q) l a w:=h a w S H r
end
open Go.RowKit
section
variable {st:AS} {c:Ctx} {P:Program} {ty:TypeId}
theorem Adc {op:Op} {e sz n:Nat} {cs:List Lf} (h:Ahc P c st op ty e sz n cs):Ahc P c st op ty e sz n (cs.map Lf.canon):=by
 intro a w S H r
 obtain⟨v,w',vals,hrun,hext,hin,hown,hls⟩:=h a w S H r
 exact⟨v,w',vals,hrun,hext,hin,hown,Af5 hls⟩
theorem Aya {t e sz bytes len:Nat} {zl out out':List Lf} {parts:Array (Nat×Operand)} {xs:List (Nat×SV)} (si:P.underlying t=some (.slice e)) (ei:EI P e sz bytes zl) (hp:Aci st parts.toList xs)
  (hb:Yk (λi:Nat=>some (i*sz,sz)) (Agy zl (len*sz)) xs out) (hout:out.all Lf.pubd=true) (hlen:len*sz<=16777216) (he:out.map Lf.canon=out'):OpD P c st (.buildSlice t len parts) ty (.s (.one (.sl len out'))) :=
 he ▸ Aht ei.p (Adc (Pb si ei hp hb (zJ.1 hout) hlen))
end
open Go.RowKit Go.Proofs Go.Lib
section
variable {cur row:Array Value} {cs:List Lf} {vs:List Value} {E n sz:Nat} {t:Nat->AV} {P:Program} {α:Type} {w:World} {f g:α->List Lf}
theorem Yc (w:World) (dT sT ty elem:TypeId) (b o dLen dCap:Nat) (a:Addr) (sLen sCap sz q:Nat) (cs:List Value)
  (hu:P.underlying dT=some (.slice elem)) (hs:(P.info? elem).map (·.size)=some sz) (hq:Nat.min sLen dLen=q) (hn:cs.length=q*sz)
  (hsrc:∀ j v,cs[j]? = some v->w.cell? (a.add j)=some v) (hc:∀ j,j<cs.length->(w.cell? ⟨b,o+j,none⟩).isSome=true) (hf:∀ j,j<cs.length->w.frozen? ⟨b,o+j,none⟩=false) (h1:∀ v∈cs,v.oneCell'=true) :
  (Builtin.copy_ #[dT,sT] ty #[.slice (some ⟨b,o,none⟩) dLen dCap,.slice (some a) sLen sCap]).run P w=.ok (goInt q) (w.setCells b o cs):=by
 have ld:=run_loadCells_list (P:=P) w a cs hsrc
 have sd:=run_storeCells_cells (P:=P) b o cs 0 w (by simpa using hc) (by simpa using hf) h1
 rw[hn] at ld
 cases hi:P.info? elem with
 | none=>simp [hi] at hs
 | some i =>
  have e:i.size=sz:=by simpa [hi] using hs
  simp [Builtin.copy_,run_underlying hu,Builtin.lenOf,Builtin.firstCells,sizeOf,typeInfo,hi,e,hq,ld,sd]
def Am2 (o:Nat) (vs L:List α):List α:=L.take o++vs++L.drop (o+vs.length)
theorem Ab0 {o:Nat} {vs L:List α} (h:o+vs.length<=L.length):(Am2 o vs L).length=L.length:=by
 simp only[Am2,zI,zR,yF];omega
theorem Axc (L:List α) (o:Nat) (v:α) (h:o<L.length):L.set o v=L.take o++v::L.drop (o+1):=by
 rw[kP,if_pos h]
theorem Kc (b:Nat) (t:TypeId):∀ (vs:List Value) (o:Nat) (w:World) (cur:Array Value),w.heap[b]? = some (.cells cur t (0,0))->o+vs.length<=cur.size ->
  (w.setCells b o vs).heap[b]? = some (.cells (Am2 o vs cur.toList).toArray t (0,0))/\(w.setCells b o vs).heap.size=w.heap.size/\(∀ g,g≠b->(w.setCells b o vs).heap[g]? = w.heap[g]?) /\
   (w.setCells b o vs).os=w.os/\(w.setCells b o vs).tape=w.tape/\(w.setCells b o vs).output=w.output
 | [],o,w,cur,h,hl=>by
  refine⟨?_,rfl,λ_ _=>rfl,rfl,rfl,rfl⟩
  show w.heap[b]? = _
  rw[h]
  simp [Am2,xP]
 | v::vs,o,w,cur,h,hl=>by
  rw[yZ] at hl
  have hb:=yC.1 h
  have h1:(w.setCell ⟨b,o,none⟩ v).heap[b]? = some (.cells (cur.setIfInBounds o v) t (0,0)):=by
   simp only[World.setCell,w7,if_true,h,xM]
   rfl
  obtain⟨h2,h3,h4,h5,h6,h7⟩:=Kc b t vs (o+1) (w.setCell ⟨b,o,none⟩ v) (cur.setIfInBounds o v) h1 (by rw[Array.size_setIfInBounds];omega)
  have e0:w.setCells b o (v::vs)=(w.setCell ⟨b,o,none⟩ v).setCells b (o+1) vs:=rfl
  rw[e0]
  refine⟨?_,by rw[h3];simp [World.setCell],λg hg=>by rw[h4 g hg];simp only[World.setCell,w7];rw[if_neg (λe=>hg e.symm)],h5,h6,h7⟩
  rw[h2]
  congr 3
  have ho:o<cur.toList.length:=by rw[yL];omega
  have es:(cur.setIfInBounds o v).toList=cur.toList.take o++v::cur.toList.drop (o+1):=by
   rw[Array.toList_setIfInBounds,Axc _ _ _ ho]
  unfold Am2
  rw[es,yZ]
  have hto:(cur.toList.take o).length=o:=by rw[zR];omega
  have e1:(cur.toList.take o++v::cur.toList.drop (o+1)).take (o+1)=cur.toList.take o++[v]:=by
   rw[List.take_append,yJ (by omega),hto,show o+1-o=1 by omega];rfl
  have e2:(cur.toList.take o++v::cur.toList.drop (o+1)).drop (o+1+vs.length)=cur.toList.drop (o+(vs.length+1)):=by
   rw[jA,wN (by omega),hto,show o+1+vs.length-o=vs.length+1 by omega,List.drop_succ_cons,kL,wO]
   congr 1;omega
  rw[e1,e2]
  simp
theorem Ay0 (L vs D:List α) (a s m:Nat) (hv:vs.length=s) (hD:D.length=m) (hL:a+s+m<=L.length) :
  (Am2 a vs (Am2 (a+s) D L)).take (a+s+m)=L.take a++vs++D:=by
 unfold Am2
 have h1:(L.take (a+s)++D++L.drop (a+s+D.length)).take a=L.take a:=by
  rw[xE,xG (by rw[zR];omega),List.take_take,kN (by omega)]
 have h2:(L.take (a+s)++D++L.drop (a+s+D.length)).drop (a+vs.length)=D++L.drop (a+s+D.length):=by
  rw[xE,hv,List.drop_left' (by rw[zR];omega)]
 rw[h1,h2,<- xE,kT (by simp only[zI,zR];omega)]
theorem Ap0 (L vs:List α) (a s:Nat) (hv:vs.length=s) (hL:a+s<=L.length):(Am2 a vs L).take (a+s)=L.take a++vs:=by
 unfold Am2
 rw[kT (by simp only[zI,zR];omega)]
structure Af2 (E sz b n:Nat) (w w':World) (v:Value) (vals:List Value):Prop where
 os:w'.os=w.os
 tape:w'.tape=w.tape
 output:w'.output=w.output
 size:w.heap.size<=w'.heap.size
 blk:∀ g,g<w.heap.size->g≠b->w'.heap[g]? = w.heap[g]?
 row:∃ G cap cur,(G=b\/w.heap.size<=G)/\v=.slice (some ⟨G,0,none⟩) n cap/\w'.heap[G]? = some (.cells cur E (0,0))/\n<=cap/\cap<=maxLen/\cur.size=cap*sz/\cur.toList.take (n*sz)=vals
theorem An8 {b c:Nat} (hg:w.heap[b]? = some (.cells cur E (0,0))) (hc:n+1<=c) (hm:c<=maxLen) (hs:cur.size=c*sz) (hv:vs.length=sz) :
  Af2 E sz b (n+1) w (w.setCells b (n*sz) vs) (.slice (some ⟨b,0,none⟩) (n+1) c) (cur.toList.take (n*sz)++vs):=by
 have hfit:n*sz+vs.length<=cur.size:=by
  rw[hs,hv]
  have:=xV sz hc
  rw[wJ,wW] at this
  exact this
 obtain⟨h1,h2,h3,h4,h5,h6⟩:=Kc b E vs (n*sz) w cur hg hfit
 refine⟨h4,h5,h6,by rw[h2];exact zT _,λg _ hne=>h3 g hne,b,c,_,.inl rfl,rfl,h1,hc,hm,?_,?_⟩
 ·rw[yI,Ab0 (by rw[yL];exact hfit),yL,hs]
 ·rw[xY,wJ,wW]
  exact Ap0 _ _ _ _ hv (by rw[yL];omega)
theorem Ajn {b c i:Nat} (hg:w.heap[b]? = some (.cells cur E (0,0))) (hi:i<n) (hc:n+1<=c) (hm:c<=maxLen) (hs:cur.size=c*sz) (hv:vs.length=sz) :
  Af2 E sz b (n+1) w ((w.drew.setCells b ((i+1)*sz) ((cur.toList.take (n*sz)).drop (i*sz))).setCells b (i*sz) vs) (.slice (some ⟨b,0,none⟩) (n+1) c)
   ((cur.toList.take (n*sz)).take (i*sz)++vs++(cur.toList.take (n*sz)).drop (i*sz)):=by
 have hle:(n+1)*sz<=cur.size:=by rw[hs];exact xV sz hc
 have hin:i*sz<=n*sz:=xV sz (Nat.le_of_lt hi)
 have ei:(i+1)*sz=i*sz+sz:=by rw[wJ,wW]
 have en:(n+1)*sz=n*sz+sz:=by rw[wJ,wW]
 have hdl:((cur.toList.take (n*sz)).drop (i*sz)).length=n*sz-i*sz:=by rw[yF,zR,yL];omega
 have hl0:cur.toList.length=cur.size:=yL
 obtain⟨h1,h2,h3,h4,h5,h6⟩:=Kc b E ((cur.toList.take (n*sz)).drop (i*sz)) ((i+1)*sz) w.drew cur hg (by omega)
 have hp1:=Ab0 (o:=(i+1)*sz) (vs:=(cur.toList.take (n*sz)).drop (i*sz)) (L:=cur.toList) (by omega)
 obtain⟨k1,k2,k3,k4,k5,k6⟩:=Kc b E vs (i*sz) _ _ h1 (by rw[yI,hp1];omega)
 rw[xY] at k1
 have hp2:=Ab0 (o:=i*sz) (vs:=vs) (L:=Am2 ((i+1)*sz) ((cur.toList.take (n*sz)).drop (i*sz)) cur.toList) (by rw[hp1];omega)
 refine⟨k4.trans h4,k5.trans h5,k6.trans h6,by rw[k2,h2];exact zT _,λg _ hne=>(k3 g hne).trans (h3 g hne),b,c,_,.inl rfl,rfl,k1,hc,hm,?_,?_⟩
 ·rw[yI,hp2,hp1,hl0,hs]
 ·rw[xY,List.take_take,kN hin]
  have:=Ay0 cur.toList vs ((cur.toList.take (n*sz)).drop (i*sz)) (i*sz) sz (n*sz-i*sz) hv hdl (by omega)
  rw[<- ei,show(i+1)*sz+(n*sz-i*sz)=(n+1)*sz by omega] at this
  exact this
theorem Af6 {b c:Nat} {vals:List Value} (hc:n<=c) (hm:c<=maxLen) (hs:row.size=c*sz) (hv:row.toList.take (n*sz)=vals) :
  Af2 E sz b n w (w.drew.alloc (.cells row E)) (.slice (some ⟨w.heap.size,0,none⟩) n c) vals:=by
 refine⟨rfl,rfl,rfl,by simp,λg hg _=>Below.heap_alloc w.drew _ g hg,w.heap.size,c,row,.inr (zT _),rfl,?_,hc,hm,hs,hv⟩
 show(w.heap.push (.cells row E))[w.heap.size]? = _
 simp
theorem Atx (L vs D:List α) (a s m:Nat) (hv:vs.length=s) (hD:D.length=m) (hL:a+s+m<=L.length) :
  (Am2 (a+s) D (Am2 a vs L)).take (a+s+m)=L.take a++vs++D:=by
 have h1:(Am2 a vs L).take (a+s)=L.take a++vs:=Ap0 _ _ _ _ hv (by omega)
 show((Am2 a vs L).take (a+s)++D++_).take (a+s+m)=_
 rw[h1,kT (by simp only[zI,zR];omega)]
theorem Alf {c i:Nat} {xs D:List Value} (hi:i<n) (hc:n+1<=c) (hm:c<=maxLen) (hs:row.size=c*sz) (hv:vs.length=sz) (hD:D.length=(n-i)*sz) (ht:row.toList.take (i*sz)=xs) :
  Af2 E sz w.heap.size (n+1) w ((((w.alloc (.cells row E)).drew.setCells w.heap.size (i*sz) vs).drew).setCells w.heap.size ((i+1)*sz) D) (.slice (some ⟨w.heap.size,0,none⟩) (n+1) c) (xs++vs++D):=by
 have hle:(n+1)*sz<=row.size:=by rw[hs];exact xV sz hc
 have ei:(i+1)*sz=i*sz+sz:=by rw[wJ,wW]
 have e3:(i+1)*sz+(n-i)*sz=(n+1)*sz:=by rw[<- wJ];congr 1;omega
 have hl0:row.toList.length=row.size:=yL
 have hg:(w.alloc (.cells row E)).drew.heap[w.heap.size]? = some (.cells row E (0,0)):=by
  show(w.heap.push (.cells row E))[w.heap.size]? = _
  simp
 obtain⟨h1,h2,h3,h4,h5,h6⟩:=Kc w.heap.size E vs (i*sz) _ row hg (by omega)
 have hp1:=Ab0 (o:=i*sz) (vs:=vs) (L:=row.toList) (by omega)
 obtain⟨k1,k2,k3,k4,k5,k6⟩:=Kc w.heap.size E D ((i+1)*sz) (((w.alloc (.cells row E)).drew.setCells w.heap.size (i*sz) vs).drew) _ h1 (by rw[yI,hp1];omega)
 rw[xY] at k1
 have hp2:=Ab0 (o:=(i+1)*sz) (vs:=D) (L:=Am2 (i*sz) vs row.toList) (by rw[hp1];omega)
 refine⟨k4.trans h4,k5.trans h5,k6.trans h6,?_,λg hg2 hne=>((k3 g hne).trans (h3 g hne)).trans (Below.heap_alloc w _ g hg2),w.heap.size,c,_,.inl rfl,rfl,k1,hc,hm,?_,?_⟩
 ·rw[k2]
  show w.heap.size<=((w.alloc (.cells row E)).drew.setCells w.heap.size (i*sz) vs).heap.size
  rw[h2]
  show w.heap.size<=(w.heap.push _).size
  rw[Array.size_push];omega
 ·rw[yI,hp2,hp1,hl0,hs]
 ·rw[xY,<- ht,<- e3,ei]
  exact Atx row.toList vs D (i*sz) sz ((n-i)*sz) hv hD (by omega)
theorem Arj {F:Nat} {vs:List Lf} {i:Nat} (hsz:0<sz) (hcl:cs.length=n*sz) (hvl:vs.length=sz)
  (hmain:∀ (w:World) (v1:Value) (vb vc:Nat) (cur2:Array Value) (xs ys:List Value),w.ownsRow 0 E sz v1 n xs->w.heap[vb]? = some (.cells cur2 E (0,0))->(∀ j y,ys[j]? = some y->w.cell? ⟨vb,j,none⟩=some y)->ys.length=sz->Cz v1≠some vb ->
   (∀ x∈xs,x.oneCell'=true)->(∀ y∈ys,y.oneCell'=true) ->
   Calls P F #[v1,.int .i64 i,.slice (some ⟨vb,0,none⟩) 1 vc] w λe w'=>∃ v b,e=.returned v/\Af2 E sz b (n+1) w w' v (xs.take (i*sz)++ys++xs.drop (i*sz))/\(Cz v1=some b\/w.heap.size<=b)) :
  Dk P F [.arr E sz 0 cs,.arr E sz 0 vs] [.one (.ls 0 n),.one (.i .i64 (i:Int)),.one (.ls 1 1)] (λy m'=>y=.s (.one (.ls 0 (n+1)))/\m'=[.arr E sz 0 (cs.take (i*sz)++vs++cs.drop (i*sz)),.dead]):=by
 intro w S H args hS hm hv
 obtain⟨hl,hv⟩:=hv
 obtain⟨v1,v2,v3,rfl⟩:∃ a b c,args = #[a,b,c]:=by
  obtain⟨l⟩:=args
  have h3:l.length=3:=hl.symm
  match l,h3 with
  | [a,b,c],_=>exact⟨a,b,c,rfl⟩
 have g0:=hv 0 _ v1 rfl rfl
 have g1:=hv 1 _ v2 rfl rfl
 have g2:=hv 2 _ v3 rfl rfl
 obtain⟨_,_,h0⟩:=(show Bf w S _ H (.ls 0 n) v1 from g0)
 have hv1:v1=H 0:=(h0 E sz 0 cs rfl).2 hcl.symm
 obtain⟨_,_,h2⟩:=(show Bf w S _ H (.ls 1 1) v3 from g2)
 have hv3:v3=H 1:=(h2 E sz 0 vs rfl).2 (by rw[wW];exact hvl.symm)
 have hv2:v2=.int .i64 i:=by
  cases (show Rep w S (.i .i64 i) v2 from g1)
  rfl
 subst hv1 hv3 hv2
 obtain⟨_,_,n0,xs,hown,hxs,_⟩:=hm.bl 0 _ rfl
 obtain⟨_,_,m0,ys,hown2,hys,_⟩:=hm.bl 1 _ rfl
 have hn0:n0=n:=O2 hown hsz (by rw[<- hxs.1];exact hcl.symm)
 have hm0:m0=1:=O2 hown2 hsz (by rw[<- hys.1,wW];exact hvl.symm)
 subst hn0 hm0
 rcases hown2.2 with⟨_,h⟩|⟨vb,vc,cur2,e2,_,hg2,hc2,_,hs2,ht2⟩
 ·omega
 have hyl:ys.length=sz:=by rw[<- hys.1];exact hvl
 have hlsO:∀ {ls:List Lf} {us:List Value},LsR (Rep w S) ls us->∀ u∈us,u.oneCell'=true:=λ{ls us} h u hu=>by
  obtain⟨j,hj⟩:=xH.1 hu
  have hjl:j<ls.length:=by rw[h.1];exact(zB.1 hj).1
  exact(h.2 j _ u (zC hjl) hj).oneCell
 have hcell:∀ j y,ys[j]? = some y->w.cell? ⟨vb,j,none⟩=some y:=λj y hj=>by
  unfold World.cell?
  rw[hg2]
  have hjl:=(zB.1 hj).1
  rw[<- ht2,yR] at hj
  split at hj
  ·simpa using hj
  ·cases hj
 have hown0:Cz (H 0)≠some vb:=λh=>by
  have h1:Blk.own (.arr E sz 0 vs) (H 1)=some vb:=by rw[e2];rfl
  have:=hm.inj 0 1 _ _ vb rfl rfl h h1
  cases this
 have hpk:∀ p g,p<2->H p≠.pointer (some ⟨g,0,none⟩):=λp g hp e=>by
  match p,hp with
  | 0,_=>rcases hown.2 with⟨h,_⟩ | ⟨_,_,_,h,_⟩ <;> (rw[h] at e;cases e)
  | 1,_=>rw[e2] at e;cases e
 rw[e2] at hown2 ⊢
 refine(hmain w (H 0) vb vc cur2 xs ys hown hg2 hcell hyl hown0 (hlsO hxs) (hlsO hys)).mono ?_
 rintro e w' ⟨v,b,rfl,r,hb⟩
 obtain⟨G,cap,cur,hG,hve,hrow,hcn,hcm,hcs,hct⟩:=r.row
 have hSb:∀ g j,S g j->g<w.heap.size/\g≠b:=λg j hs=>by
  refine⟨hS.1 g j hs,λe=>?_⟩
  subst e
  rcases hb with h|h
  ·have:=hm.sb 0 _ g j rfl h hs
   exact zW _ this
  ·have:=hS.1 g j hs;omega
 have hkeep:∀ g j,S g j->S g j/\w'.cell? ⟨g,j,none⟩=w.cell? ⟨g,j,none⟩:=λg j hs=>⟨hs,World.cell?_of_block (w:=w) (r.blk g (hSb g j hs).1 (hSb g j hs).2)⟩
 have hGS:∀ j,¬ S G j:=λj hs=>by
  rcases hG with rfl|h
  ·exact(hSb _ j hs).2 rfl
  ·have:=hS.1 G j hs;omega
 have hbX:∀ g,g=b->g<w.heap.size->Aj9 [.arr E sz 0 cs,.arr E sz 0 vs] H g:=λg e hlt=>by
  subst e
  rcases hb with h|h
  ·exact⟨0,_,rfl,h⟩
  ·omega
 have hexists:∃ o,w'.heap[G]? = some o:=⟨_,hrow⟩
 have hnl:(cs.take (i*sz)++vs++cs.drop (i*sz)).length=(n0+1)*sz:=by
  simp only[zI,zR,yF,hvl,hcl,wJ,wW]
  omega
 refine⟨v,_,_,S,λp=>if p=0 then v else H p,rfl,⟨rfl,rfl⟩,⟨r.os,r.tape,r.output,r.size,λg hlt hx=>r.blk g hlt (λe=>hx (hbX g e hlt)),λ_ _ h=>h,λg j hs=>(hkeep g j hs).2,λ_ _ _ _ h=>h⟩,
  hS.turn (·=b) (λg j e hs=>absurd e (hSb g j hs).2) (λg hg hne=>r.blk g hg hne) r.size (λg j hs=>(hkeep g j hs).2),⟨?_,?_,?_,?_⟩,?_,⟨show 2<=2 by decide,λp g hp h=>absurd h (hpk p g hp),λp e' sz' k cs' hp h=>?_,λp hp hne=>?_⟩,?_⟩
 ·intro p bb hbb
  match p,hbb with
  | 1,hbb=>cases hbb;trivial
  | 0,hbb =>
   cases hbb
   refine⟨hsz,zU _,n0+1,xs.take (i*sz)++ys++xs.drop (i*sz),⟨?_,.inr ⟨G,cap,cur,hve,zU _,hrow,hcn,hcm,hcs,hct⟩⟩,?_,λ_ _ _ h=>absurd h (zW _)⟩
   ·have:xs.length=n0*sz:=by rw[<- hxs.1];exact hcl
    simp only[zI,zR,yF,hyl,this,wJ,wW]
    omega
   ·have key:∀ {l1 l2:List Lf} {u1 u2:List Value},LsR (Rep w' S) l1 u1->LsR (Rep w' S) l2 u2->LsR (Rep w' S) (l1++l2) (u1++u2):=λ{l1 l2 u1 u2} h1 h2=>by
     refine⟨by rw[zI,zI,h1.1,h2.1],λj l u hl hu=>?_⟩
     rw[List.getElem?_append] at hl hu
     rw[h1.1] at hl
     split at hl
     ·next hj=>rw[if_pos hj] at hu;exact h1.2 j l u hl hu
     ·next hj=>rw[if_neg hj] at hu;exact h2.2 _ l u hl hu
    have hx':LsR (Rep w' S) cs xs:=hxs.mono λ_ _=>Rep.mono hkeep
    have hy':LsR (Rep w' S) vs ys:=hys.mono λ_ _=>Rep.mono hkeep
    refine key (key ⟨by rw[zR,zR,hx'.1],λj l u hl hu=>?_⟩ hy') ⟨by rw[yF,yF,hx'.1],λj l u hl hu=>?_⟩
    ·rw[yR] at hl hu
     split at hl
     ·next hj=>rw[if_pos hj] at hu;exact hx'.2 j l u hl hu
     ·cases hl
    ·rw[yP] at hl hu
     exact hx'.2 _ l u hl hu
  | p+2,hbb=>cases hbb
 ·intro p bb g hbb ho
  match p,hbb with
  | 1,hbb=>cases hbb;cases ho
  | 0,hbb =>
   cases hbb
   have:some G=some g:=by rw[<- ho];show _=Cz v;rw[hve];rfl
   cases this
   exact(yC.1 hrow).1
  | p+2,hbb=>cases hbb
 ·intro p q b1 b2 g h1 h2 o1 o2
  match p,q,h1,h2 with
  | 1,_,h1,_=>cases h1;cases o1
  | 0,1,_,h2=>cases h2;cases o2
  | 0,0,_,_=>rfl
  | 0,q+2,_,h2=>cases h2
  | p+2,_,h1,_=>cases h1
 ·intro p bb g j hbb ho hs
  match p,hbb with
  | 1,hbb=>cases hbb;cases ho
  | 0,hbb =>
   cases hbb
   have:some G=some g:=by rw[<- ho];show _=Cz v;rw[hve];rfl
   cases this
   exact absurd hs (hGS j)
  | p+2,hbb=>cases hbb
 ·intro p bb g hbb ho
  match p,hbb with
  | 1,hbb=>cases hbb;cases ho
  | 0,hbb =>
   cases hbb
   have:some G=some g:=by rw[<- ho];show _=Cz v;rw[hve];rfl
   cases this
   rcases hG with h|h
   ·by_cases hlt:G<w.heap.size
    ·exact .inr (hbX G h hlt)
    ·exact .inl (by omega)
   ·exact .inl h
  | p+2,hbb=>cases hbb
 ·match p,hp,h with
  | 0,_,h =>
   cases h
   exact⟨0,cs,rfl,.inr (by rw[hnl,hcl];exact Nat.mul_lt_mul_of_pos_right (xR _) hsz)⟩
  | 1,_,h=>cases h
 ·match p,hp,hne with
  | 0,_,_=>show v≠undef;rw[hve];exact λh=>by cases h
  | 1,_,hne=>exact hne
 ·show Dy w' S [.arr E sz 0 (cs.take (i*sz)++vs++cs.drop (i*sz)),.dead] (λp=>if p=0 then v else H p) (.ls 0 (n0+1)) v
  refine⟨show 0<2 by decide,⟨by rw[hve];rfl,by show v≠undef;rw[hve];exact λh=>by cases h⟩,λe' sz' k cs' h=>?_⟩
  cases h
  exact⟨kF hnl.symm,λ_=>rfl⟩
section
variable {P:Program} {c:Ctx} {Q:Exit->AS->Prop} {t:Nat->AV} {m:List Blk}
theorem A6c {l:Nat} (h:Q .normal ⟨t,m⟩):AWC P c (.label l) Q ⟨t,m⟩:=λ_ _ S H r=>wp_label ⟨⟨t,m⟩,S,H,r,h⟩
theorem A5j {x:Code} (hg:∀ l st,¬ Q (.goto l) st) (h:AWC P c x Q ⟨t,m⟩):AWC P c (.scope x) Q ⟨t,m⟩:=λa w S H r =>
 wp_scope_straight (wp_mono (h a w S H r) λe a' w' hq=>by
  cases e with
  | goto l =>
   obtain⟨st,S',H',hr,hq⟩:=hq
   exact absurd hq (hg l _)
  | _=>exact hq)
end
def Auz (by_:Nat) (xs:List α) (i:Int) (vs:List α):Option (List α):=match vs with
 | [x]=>if (0<=i/\i<=(xs.length:Int))/\(xs.length+1)*by_<=140737488355328 then some (xs.take i.toNat++x::xs.drop i.toNat) else none
 | _=>none
theorem Ast {F by_:Nat} (hf:∀ x,(f x).length=sz) (hB:∀ {cs vs:List Lf} {n i:Nat},cs.length=n*sz->vs.length=sz->i<=n->(n+1)*by_<=140737488355328 ->
   Dk P F [.arr E sz 0 cs,.arr E sz 0 vs] [.one (.ls 0 n),.one (.i .i64 (i:Int)),.one (.ls 1 1)] (λy m'=>y=.s (.one (.ls 0 (n+1)))/\m'=[.arr E sz 0 (cs.take (i*sz)++vs++cs.drop (i*sz)),.dead]))
  {xs:List α} {i:Int} {vs r:List α} (h:Auz by_ xs i vs=some r) :
  Dk P F [.arr E sz 0 (xs.flatMap f),.arr E sz 0 (vs.flatMap f)] [.one (.ls 0 xs.length),.one (.i .i64 i),.one (.ls 1 vs.length)] (λy m'=>y=.s (.one (.ls 0 r.length))/\m'=[.arr E sz 0 (r.flatMap f),.dead]):=by
 unfold Auz at h
 match vs,h with
 | [x],h =>
  obtain⟨⟨⟨h0,h1⟩,h2⟩,h⟩:=Ht h
  obtain rfl:=zF h
  have hb:=hB (cs:=xs.flatMap f) (vs:=[x].flatMap f) (n:=xs.length) (i:=i.toNat) (A4 hf xs) (by rw[A4 hf,yD,wW]) (by omega) h2
  rw[Int.toNat_of_nonneg h0] at hb
  refine hb.mono ?_
  rintro y m' ⟨rfl,rfl⟩
  have e1:(xs.take i.toNat++x::xs.drop i.toNat).length=xs.length+1:=by
   rw[zI,yZ,zR,yF];omega
  rw[e1]
  refine⟨rfl,?_⟩
  rw[kW,Abp hf,yY,Abg hf,<- xE]
  simp
theorem Rel.fillRow {c:Ctx} {m:List Blk} {a:Act} {w':World} {S S':Dx} {H H':Nat->Value} (r:Rel c ⟨t,m⟩ a w S H) {p:Nat} (hm:m[p]? = some .hole) (hp0:c.m0.length<=p) {e:Nat}
  (hx:Ext w S w' S') (hin:InH w' S') (mem:Mem w' S' [.arr e sz 0 cs] H') (hown:∀ g,Cz (H' 0)=some g->w.heap.size<=g) :
  Rel c ⟨t,m.set p (.arr e sz 0 cs)⟩ a w' S' (Te H p (H' 0)):=by
 have hp:p<m.length:=(zB.1 hm).1
 have hH:H p=undef:=r.bl p _ hm
 obtain⟨hsz,hk,n,vals,h1,h2,h3⟩:=mem.bl 0 _ rfl
 refine r.changeM (p:=p) (b':=.arr e sz 0 cs) (v:=H' 0) (by simp) (zN hp) (λq hq=>zS (λe=>hq e.symm)) (hx.keeps r.sl) (λg _ h=>(Aep (hH.symm.trans h)).elim)
  (λe sz k cs _ h _=>by rcases h with h|h;exact absurd hH h;omega) (λg hg _=>hx.blk g hg) ⟨hsz,zU _,n,vals,h1,h2,λ_ _ _ h=>absurd h (zW _)⟩ (λg hg=>?_)
  (λq b g i _ hb ho hs=>hx.back g i (r.lo q b g hb ho).2 hs) (λg i hg _ hs=>hx.back g i (zY hg r.ex.size) hs) hin hx.size hx.os hx.tape hx.output
 have hge:=hown g hg
 refine⟨.inl (yU r.ex.size hge),mem.hp 0 _ g rfl hg,λq b _ hb ho=>?_,λi hs=>mem.sb 0 _ g i rfl hg hs⟩
 have:=(r.lo q b g hb ho).2
 omega
section
variable {P:Program} {c:Ctx} {t:Nat->AV} {M:List Blk} {ops:Array Oper} {Q:Exit->AS->Prop} {rest:List Oper} {ty:TypeId} {pos:String} {af:Array Edge} {d:Tmp}
theorem Afe {callee:Operand} {f:FuncId} {args:Array Operand} {ats:Array TypeId} {xs:List SV} {e:Nat} {ys:List α} (p:Nat) (hd:decide (d<c.nt)=true) (hf:FnI P f) (hcal:Cal ⟨t,M⟩ callee f [] []) (ho:Xy ⟨t,M⟩ args.toList xs)
  (hc:Dk P f [] xs (λy m'=>y=.s (.one (.ls 0 n))/\m'=[.arr e sz 0 cs])) (hpub:xs.all (λx=>x.inbB 0)=true) (hg:∀ x,(g x).length=sz) (hcs:cs=ys.flatMap g) (hn:n=ys.length) (hm:M[p]? = some .hole) (hp0:Nat.ble c.m0.length p=true)
  (k:AWL P c ops Q rest ⟨upd t d (.s (.one (.ls p n))),M.set p (.arr e sz 0 cs)⟩):AWL P c ops Q (⟨some d,.call { callee:=.value callee,args:=args,argTypes:=ats },ty,pos,af,none⟩::rest) ⟨t,M⟩:=by
 subst hcs hn
 intro a w S H r
 obtain⟨vs,hvs,hrun⟩:=Afh (pos:=pos) (af:=af) (ty:=ty) (ats:=ats) r hf hcal ho (some d)
 refine wpList_plain rfl λK hK=>?_
 unfold Oper.wp
 rw[hrun]
 have hvs':Abx (Bf w S [] H) xs vs.toList:=by
  have tie:Tie [] M H H (λj=>j):=⟨λp h=>absurd h (zW _),λ_ _=>rfl,λp b h=>by cases h⟩
  have e:xs.map (SV.ren (λj=>j))=xs:=by
   have hl:∀ l:Lf,l.ren0 (λj=>j)=l:=λl=>by cases l <;> rfl
   have hl2:∀ l:Lf,l.ren (λj=>j)=l:=λl=>by
    cases l with
    | fn f a b =>
     show Lf.fn f (a.map _) (b.map _)=_
     rw[show(Lf.ren0 λj=>j)=id from funext hl,wR,wR]
    | _=>rfl
   have hs:∀ x:SV,x.ren (λj=>j)=x:=λx=>by
    cases x with
    | one l=>show SV.one _=_;rw[hl2]
    | agg ls=>show SV.agg _=_;rw[show(Lf.ren λj=>j)=id from funext hl2,wR]
   rw[show(SV.ren λj=>j)=id from funext hs,wR]
  exact tie.svsDown hpub (by rw[e];simpa using hvs)
 refine(hc w S H vs r.sl ⟨λp b h=>by simp at h,λp b g h=>by simp at h,λp q b b' g h=>by simp at h,λp b g i h=>by simp at h⟩ hvs').mono ?_
 rintro e' w' ⟨v,y,m',S',H',rfl,⟨rfl,rfl⟩,ext,hin,mem',hown',_,hav⟩
 have hx:Ext w S w' S':=ext.toExt (λb ⟨q,bb,h,_⟩=>by simp at h)
 have r':=r.fillRow hm (yN hp0) hx hin mem' (λg hg=>by
  rcases hown' 0 _ g rfl hg with h|⟨q,bb,h,_⟩
  ·exact h
  ·simp at h)
 have hp:p<M.length:=(zB.1 hm).1
 obtain⟨_,ho1,hv⟩:=(show Dy w' S' [.arr e sz 0 (ys.flatMap g)] H' (.ls 0 ys.length) v from hav)
 have hvH:=(hv e sz 0 _ rfl).2 (A4 hg ys).symm
 refine hK _ _ (k _ _ _ _ (r'.put (of_decide_eq_true hd) ?_))
 show Dy w' S' (M.set p (.arr e sz 0 (ys.flatMap g))) (Te H p (H' 0)) (.ls p ys.length) v
 refine⟨by simpa using hp,⟨ho1.1,by rw[Ba];exact ho1.2⟩,λe2 sz2 k2 cs2 h2=>?_⟩
 rw[zN hp] at h2
 cases h2
 exact⟨kF (A4 hg ys).symm,λ_=>by rw[Ba];exact hvH⟩
end
end
open Go.RowKit Go.Lib
open Go.RowKit Go.MapKept
open Go.ChangeMaps (setBlock)
section
variable {st:AS} {a:Act} {es:Array MapEntry} {seen:Array Nat} {s:ByteArray} {c:Ctx} {css:List (List Lf)} {vss:List (List Value)} {mk:List (List Value)->Obj->Prop} {ss:List ByteArray} {vof:List Value->Value} {e:MapEntry} {clock g j p:Nat} {H:Nat->Value} {o:Obj} {x:Operand} {S:Dx} {α:Type} {tm:TypeId} {w:World}
def J0 (vof:List Value->Value) (ks:List Value):List (List Value)->Obj->Prop:=λvss o =>
 ∃ es clock,o=.map es clock/\Stamped es clock/\es.toList.map (·.key)=ks/\es.toList.map (·.val)=vss.map vof
def Aml (vof:List Value->Value) (es:Array MapEntry) (clock:Nat):List (List Value)->Obj->Prop:=λvss o=>o=.map es clock/\es.toList.map (·.val)=vss.map vof
def Ar7 (g since:Nat) (seen:Array Nat) (c0:Nat):List (List Value)->Obj->Prop:=λ_ o=>o=.mapIter (some g) since seen c0
def Zj (vs:List Value):Value:=.agg vs.toArray
def Ang (vs:List Value):Value:=vs.headD undef
theorem Rel.newObj (r:Rel c st a w S H) (ho:Aqr o=true) (hmk:mk vss o)
  (hl:Auy (Rep w S) css vss):Rel c ⟨st.t,st.m++[.obj w.heap.size mk css]⟩ a (w.alloc o) S (Te H st.m.length (.pointer (some ⟨w.heap.size,0,none⟩))):=by
 have hx:Ext w S (w.alloc o) S:=Ext.alloc w S _
 have hk:=hx.keeps r.sl
 have hf:=r.fresh (zT w.heap.size)
 refine r.change (b':=.obj w.heap.size mk css) (by simp) (by simp) (λq hq=>?_) hk (λg h=>absurd h (wF _)) (λe sz k cs h=>absurd h (wF _))
  (λg hg _=>Below.heap_alloc w o g hg) ⟨rfl,vss,o,heap_alloc_new w o,ho,hmk,hl.mono (λl v=>Rep.mono hk)⟩ (λg hg=>?_) (λq b g i _ _ _ h=>h) (λg i _ _ h=>h) (r.sl.ext hx).two hx.size rfl rfl rfl
 ·rcases zQ q st.m.length with h|h
  ·rw[zL h]
  ·rw[zZ (by simp;omega),zZ h]
 ·have:w.heap.size=g:=by simpa [Blk.own,Cz] using hg
  subst this
  exact⟨.inl r.ex.size,by simp,λq b _ hb=>hf.1 q b hb,λi hi=>absurd hi (hf.2 i)⟩
theorem Uo (w:World) (g:Nat) (o:Obj):(setBlock w g o).heap.size=w.heap.size:=by simp [setBlock]
theorem Rel.setObj (r:Rel c st a w S H) {mk':List (List Value)->Obj->Prop} {css':List (List Lf)}
  (hm:st.m[p]? = some (.obj g mk css)) (ho:Aqr o=true) (hmk:mk' vss o) (hl:Auy (Rep w S) css' vss):∃ H',Rel c ⟨st.t,st.m.set p (.obj g mk' css')⟩ a (setBlock w g o) S H'/\∀ b i,S b i->S b i/\(setBlock w g o).cell? ⟨b,i,none⟩=w.cell? ⟨b,i,none⟩:=by
 have hp:p<st.m.length:=(zB.1 hm).1
 obtain⟨h1,vs0,o0,h2,h3,h4,h5⟩:=r.bl p _ hm
 have hlo:=r.lo p _ g hm (by rw[h1];rfl)
 have hset:=heap_set (o':=o) h2
 have hcell:∀ b i,S b i->(setBlock w g o).cell? ⟨b,i,none⟩=w.cell? ⟨b,i,none⟩:=λb i hs=>by
  refine World.cell?_of_block (w:=w) (hset.2 b λe=>?_)
  subst e
  have:=r.sb p _ b i hm (by rw[h1];rfl) hs
  exact absurd this (zW _)
 have hk:∀ b i,S b i->S b i/\(setBlock w g o).cell? ⟨b,i,none⟩=w.cell? ⟨b,i,none⟩:=λb i hs=>⟨hs,hcell b i hs⟩
 refine⟨_,r.change (m':=st.m.set p (.obj g mk' css')) (b':=.obj g mk' css') (v:=H p) (by simp) (by rw[zN hp]) (λq hq=>by rw[zS (Ne.symm hq)]) hk (λ_ _ _=>rfl) (λe sz k cs _ h=>by cases h)
  (λg' _ hg'=>hset.2 g' λe=>?_) ⟨h1,vss,o,hset.1,ho,hmk,hl.mono (λl v=>Rep.mono hk)⟩ (λg' hg'=>?_) (λq b g i _ _ _ h=>h) (λg i _ _ h=>h) (r.sl.turn2 (kF (Uo w g o).symm) hcell) (kF (Uo w g o).symm) rfl rfl rfl,hk⟩
 ·subst e
  exact hg' _ hm (by rw[h1];rfl)
 ·have hg2:g=g':=by
   rw[h1] at hg'
   simpa [Blk.own,Cz] using hg'
  subst hg2
  exact⟨hlo.1,by rw[Uo];exact hlo.2,λq b hq hb ho'=>hq (r.inj q p b _ g hb hm ho' (by rw[h1];rfl)),λi hi=>absurd (r.sb p _ g i hm (by rw[h1];rfl) hi) (zW _)⟩
section
variable {P:Program} {c:Ctx} {ops:Array Oper} {Q:Exit->AS->Prop} {rest:List Oper} {ty:TypeId} {pos:String} {af:Array Edge} {d:Tmp} {t:Nat->AV} {m:List Blk}
theorem Ay8 (vof:List Value->Value) (hd:decide (d<c.nt)=true)
  (k:∀ g,AWL P c ops Q rest ⟨upd t d (.s (.one (.raw (.map (some g))))),m++[.obj g (J0 vof []) []]⟩):AWL P c ops Q (⟨some d,.makeMap tm none,ty,pos,af,none⟩::rest) ⟨t,m⟩:=by
 intro a w S H r
 refine wpList_plain rfl λK hK=>?_
 unfold Oper.wp
 have hrun:(execOp a.eval ⟨some d,.makeMap tm none,ty,pos,af,none⟩).run P w=.ok (.value (.map (some w.heap.size))) (w.alloc (.map #[] 0)):=by
  simp [execOp,Instr.makeMap]
 rw[hrun]
 have r':=r.newObj (o:=.map #[] 0) (mk:=J0 vof []) (vss:=[]) (css:=[]) rfl ⟨#[],0,rfl,stamped_empty 0,rfl,rfl⟩ ⟨rfl,λj cs vs h=>by simp at h⟩
 exact hK _ _ (k w.heap.size _ _ _ _ (r'.put (d:=d) (x:=.s (.one (.raw (.map (some w.heap.size))))) (of_decide_eq_true hd) (D4 (.raw _ rfl))))
theorem Aio (r:Rel c st a w S H) (hx:Bg st x=.s (.one (.raw (.map (some g))))):a.eval x=.map (some g):=by
 have h:=Ax r x
 rw[hx] at h
 exact Ix h
theorem Ap5 (r:Rel c st a w S H) (hx:Bg st x=.s (.one (.s s))):a.eval x=.string s:=by
 have h:=Ax r x
 rw[hx] at h
 exact Aqt h
theorem Ao8 (h:es.toList.map (·.key)=ss.map .string):∀ x∈es.toList,IsKey .string x.key:=λx hx=>by
 have:x.key∈ss.map Value.string:=by rw[<- h];exact yA.2 ⟨x,hx,rfl⟩
 obtain⟨s,_,hs⟩:=yA.1 this
 rw[<- hs];trivial
theorem Tp {β:Type} (f:α->α) (g:α->β) (h:β->β) (hgh:∀ x,g (f x)=h (g x)):∀ (l:List α) (i:Nat),(l.modify i f).map g=(l.map g).modify i h
 | [],i=>by cases i <;> rfl
 | x::l,0=>by simp [List.modify,hgh]
 | x::l,i+1=>by
  have:=Tp f g h hgh l i
  simp [List.modify] at this ⊢
  exact this
theorem Pd (v:α):∀ (l:List α) (i:Nat),l.modify i (λ_=>v)=l.set i v
 | [],i=>by cases i <;> rfl
 | x::l,0=>rfl
 | x::l,i+1=>by
  have:=Pd v l i
  simp [List.modify] at this ⊢
  exact this
theorem As6 {kt et:TypeId} {y z:Operand} {ls:List Lf} (hu:P.underlying tm=some (.map kt et)) (hkt:P.underlying kt=some .string)
  (hx:Bg ⟨t,m⟩ x=.s (.one (.raw (.map (some g))))) (hy:Bg ⟨t,m⟩ y=.s (.one (.s s))) (hz:Bg ⟨t,m⟩ z=.s (.agg ls)) (hpub:ls.all Lf.pubd=true) (hm:m[p]? = some (.obj g (J0 Zj (ss.map .string)) css))
  (k1:∀ j,ss[j]? = some s->AWL P c ops Q rest ⟨t,m.set p (.obj g (J0 Zj (ss.map .string)) (css.set j ls))⟩)
  (k2:s∉ss->AWL P c ops Q rest ⟨t,m.set p (.obj g (J0 Zj ((ss++[s]).map .string)) (css++[ls]))⟩) :
  AWL P c ops Q (⟨none,.mapUpdate tm x y z,ty,pos,af,none⟩::rest) ⟨t,m⟩:=by
 intro a w S H r
 obtain⟨h1,vss,o,h2,h3,⟨es,clock,rfl,hst,hks,hvs⟩,h5⟩:=r.bl p _ hm
 have ex:=Aio r hx
 have ey:=Ap5 r hy
 have hzr:=Ax r z
 rw[hz] at hzr
 obtain⟨vz,ez,hzl⟩:=hzr
 have hzl':LsR (Rep w S) ls vz.toList:=⟨hzl.1,λj l v e1 e2=>(hzl.2 j l v e1 e2).rep (zJ.1 hpub l (zD e1))⟩
 have hkey:=Ao8 hks
 have hlen:css.length=vss.length:=h5.1
 have hev:es.size=vss.length:=by
  have:=congrArg List.length hvs
  simpa using this
 have hes:es.size=ss.length:=by
  have:=congrArg List.length hks
  simpa using this
 refine wpList_plain rfl λK hK=>?_
 unfold Oper.wp
 rcases findNow_spec (d:=.string) (k:=.string s) trivial es.toList 0 hkey with⟨f1,f2⟩|⟨j,e,f1,f2,f3⟩
 ·have hns:s∉ss:=λhs=>by
   have:Value.string s∈es.toList.map (·.key):=by rw[hks];exact yA.2 ⟨s,hs,rfl⟩
   obtain⟨e,he,hek⟩:=yA.1 this
   exact f2 e he hek
  have hrun:(execOp a.eval ⟨none,.mapUpdate tm x y z,ty,pos,af,none⟩).run P w=.ok .skip (setBlock w g (.map (es.push { key:=.string s,val:=.agg vz,born:=clock }) (clock+1))):=by
   simp [execOp,ex,ey,ez,Instr.mapUpdate,run_underlying hu,MapKept.run_getObj_map h2,run_checkKey (k:=.string s) hkt trivial,run_findKey hkt f1,run_setObj_map _ h2,Result.andThen,setBlock]
  rw[hrun]
  have hl2:Auy (Rep w S) (css++[ls]) (vss++[vz.toList]):=⟨by simp [hlen],λi cs vs e1 e2=>by
   rcases zQ i css.length with hi|hi
   ·rw[zL hi] at e1
    rw[zL (by omega)] at e2
    exact h5.2 i cs vs e1 e2
   ·rw[zX hi] at e1
    rw[zX (by omega),<- hlen] at e2
    rcases jF (i-css.length) with h0|h0
    ·rw[h0] at e1 e2
     obtain rfl:=zF e1
     obtain rfl:=zF e2
     exact hzl'
    ·rw[zZ (by rw[yD];omega)] at e1;cases e1⟩
  obtain⟨H',r',_⟩:=r.setObj (mk':=J0 Zj ((ss++[s]).map .string)) (css':=css++[ls]) (vss:=vss++[vz.toList]) (o:=.map (es.push { key:=.string s,val:=.agg vz,born:=clock }) (clock+1)) hm rfl
   ⟨_,_,rfl,stamped_push hst f2,by simp [hks],by simp [hvs,Zj]⟩ hl2
  exact hK _ _ (k2 hns _ _ _ _ r')
 ·rw[yT] at f1
  have hj:j<es.size:=by
   have:=(zB.1 f2).1
   simpa using this
  have hsj:ss[j]? = some s:=by
   have:(es.toList.map (·.key))[j]? = some (.string s):=by rw[zK,f2];simp [f3]
   rw[hks,zK] at this
   cases hsj:ss[j]? with
   | none=>rw[hsj] at this;cases this
   | some s'=>rw[hsj] at this;simpa using this
  have hej:es[j]? = some e:=by rw[<- wC];exact f2
  have hrun:(execOp a.eval ⟨none,.mapUpdate tm x y z,ty,pos,af,none⟩).run P w=.ok .skip (setBlock w g (.map (es.modify j λe=>{ e with key:=.string s,val:=.agg vz }) clock)):=by
   simp [execOp,ex,ey,ez,Instr.mapUpdate,run_underlying hu,MapKept.run_getObj_map h2,run_checkKey (k:=.string s) hkt trivial,run_findKey hkt f1,run_setObj_map _ h2,Result.andThen,setBlock,hej,f3,run_keyThatStays (d:=.string) (k:=.string s) trivial]
  rw[hrun]
  have hmk:(es.modify j λe=>{ e with key:=.string s,val:=.agg vz }).toList.map (·.key)=ss.map .string:=by
   rw[jR,Tp (λe:MapEntry=>{ e with key:=.string s,val:=.agg vz }) (λe:MapEntry=>e.key) (λ_=>Value.string s) (λ_=>rfl),Pd,hks,<- x9]
   congr 1
   apply wA
   intro i
   rw[kG]
   by_cases hij:j=i
   ·subst hij;rw[if_pos rfl,if_pos (by omega),hsj]
   ·rw[if_neg hij]
  have hmv:(es.modify j λe=>{ e with key:=.string s,val:=.agg vz }).toList.map (·.val)=(vss.set j vz.toList).map Zj:=by
   rw[jR,Tp (λe:MapEntry=>{ e with key:=.string s,val:=.agg vz }) (λe:MapEntry=>e.val) (λ_=>Value.agg vz) (λ_=>rfl),Pd,hvs,x9]
   simp [Zj]
  have hl2:Auy (Rep w S) (css.set j ls) (vss.set j vz.toList):=⟨by simp [hlen],λi cs vs e1 e2=>by
   rw[kG] at e1 e2
   by_cases hij:j=i
   ·subst hij
    rw[if_pos rfl,if_pos (by omega)] at e1 e2
    obtain rfl:=zF e1
    obtain rfl:=zF e2
    exact hzl'
   ·rw[if_neg hij] at e1 e2
    exact h5.2 i cs vs e1 e2⟩
  obtain⟨H',r',_⟩:=r.setObj (mk':=J0 Zj (ss.map .string)) (css':=css.set j ls) (vss:=vss.set j vz.toList) (o:=.map (es.modify j λe=>{ e with key:=.string s,val:=.agg vz }) clock) hm rfl
   ⟨_,_,rfl,stamped_modify hst j _ (λ_ _=>rfl) (λe' _ he'=>by rw[hej] at he';cases he';exact f3.symm),hmk,hmv⟩ hl2
  exact hK _ _ (k1 j hsj _ _ _ _ r')
theorem A20 {kt et:TypeId} {y:Operand} (hu:P.underlying tm=some (.map kt et)) (hkt:P.underlying kt=some .string)
  (hx:Bg ⟨t,m⟩ x=.s (.one (.raw (.map (some g))))) (hy:Bg ⟨t,m⟩ y=.s (.one (.s s))) (hm:m[p]? = some (.obj g (J0 Zj (ss.map .string)) css))
  (k1:∀ j,ss[j]? = some s->AWL P c ops Q rest ⟨t,m.set p (.obj g (J0 Zj ((ss.eraseIdx j).map .string)) (css.eraseIdx j))⟩)
  (k2:s∉ss->AWL P c ops Q rest ⟨t,m.set p (.obj g (J0 Zj (ss.map .string)) css)⟩) {ats:Array TypeId} (hat:ats = #[tm,kt]) :
  AWL P c ops Q (⟨none,.call { callee:=.builtin .delete,args:=#[x,y],argTypes:=ats },ty,pos,af,none⟩::rest) ⟨t,m⟩:=by
 subst hat
 intro a w S H r
 obtain⟨h1,vss,o,h2,h3,⟨es,clock,rfl,hst,hks,hvs⟩,h5⟩:=r.bl p _ hm
 have ex:=Aio r hx
 have ey:=Ap5 r hy
 have hkey:=Ao8 hks
 have hlen:css.length=vss.length:=h5.1
 refine wpList_plain rfl λK hK=>?_
 unfold Oper.wp
 rcases findNow_spec (d:=.string) (k:=.string s) trivial es.toList 0 hkey with⟨f1,f2⟩|⟨j,e,f1,f2,f3⟩
 ·have hns:s∉ss:=λhs=>by
   have:Value.string s∈es.toList.map (·.key):=by rw[hks];exact yA.2 ⟨s,hs,rfl⟩
   obtain⟨e,he,hek⟩:=yA.1 this
   exact f2 e he hek
  have hrun:(execOp a.eval ⟨none,.call { callee:=.builtin .delete,args:=#[x,y],argTypes:=#[tm,kt] },ty,pos,af,none⟩).run P w=.ok (.value (.tuple #[])) (setBlock w g (.map es clock)):=by
   simp [execOp,resolve,invoke,builtin,ex,ey,Builtin.delete_,run_underlying hu,MapKept.run_getObj_map h2,run_checkKey (k:=.string s) hkt trivial,run_findKey hkt f1,run_setObj_map _ h2,Result.andThen,setBlock]
  rw[hrun]
  obtain⟨H',r',_⟩:=r.setObj (mk':=J0 Zj (ss.map .string)) (css':=css) (vss:=vss) (o:=.map es clock) hm rfl ⟨_,_,rfl,hst,hks,hvs⟩ h5
  exact hK _ _ (k2 hns _ _ _ _ r')
 ·rw[yT] at f1
  have hj:j<es.size:=by
   have:=(zB.1 f2).1
   simpa using this
  have hsj:ss[j]? = some s:=by
   have:(es.toList.map (·.key))[j]? = some (.string s):=by rw[zK,f2];simp [f3]
   rw[hks,zK] at this
   cases hsj:ss[j]? with
   | none=>rw[hsj] at this;cases this
   | some s'=>rw[hsj] at this;simpa using this
  have hrun:(execOp a.eval ⟨none,.call { callee:=.builtin .delete,args:=#[x,y],argTypes:=#[tm,kt] },ty,pos,af,none⟩).run P w=.ok (.value (.tuple #[])) (setBlock w g (.map (es.eraseIdxIfInBounds j) clock)):=by
   simp [execOp,resolve,invoke,builtin,ex,ey,Builtin.delete_,run_underlying hu,MapKept.run_getObj_map h2,run_checkKey (k:=.string s) hkt trivial,run_findKey hkt f1,run_setObj_map _ h2,Result.andThen,setBlock]
  rw[hrun]
  have herase:(es.eraseIdxIfInBounds j).toList=es.toList.eraseIdx j:=by
   unfold Array.eraseIdxIfInBounds
   rw[dif_pos hj,Array.toList_eraseIdx]
  obtain⟨H',r',_⟩:=r.setObj (mk':=J0 Zj ((ss.eraseIdx j).map .string)) (css':=css.eraseIdx j) (vss:=vss.eraseIdx j) (o:=.map (es.eraseIdxIfInBounds j) clock) hm rfl
   ⟨_,_,rfl,stamped_erase hst j,by rw[herase,Go.ChangeMaps.map_eraseIdx,hks,Go.ChangeMaps.map_eraseIdx],by rw[herase,Go.ChangeMaps.map_eraseIdx,hvs,Go.ChangeMaps.map_eraseIdx]⟩
   ⟨by rw[List.length_eraseIdx,List.length_eraseIdx,hlen],λi cs vs e1 e2=>by
    rw[List.getElem?_eraseIdx] at e1 e2
    by_cases hij:i<j
    ·rw[if_pos hij] at e1 e2;exact h5.2 i cs vs e1 e2
    ·rw[if_neg hij] at e1 e2;exact h5.2 (i+1) cs vs e1 e2⟩
  exact hK _ _ (k1 j hsj _ _ _ _ r')
theorem Atn {kt et:TypeId} {ks:List Value} (hd:decide (d<c.nt)=true) (hu:P.underlying tm=some (.map kt et))
  (hx:Bg ⟨t,m⟩ x=.s (.one (.raw (.map (some g))))) (hm:m[p]? = some (.obj g (J0 vof ks) css))
  (k:∀ es clock q,Stamped es clock->es.toList.map (·.key)=ks->es.size=css.length ->
   AWL P c ops Q rest ⟨upd t d (.s (.one (.raw (.pointer (some ⟨q,0,none⟩))))),m.set p (.obj g (Aml vof es clock) css)++[.obj q (Ar7 g clock #[] clock) []]⟩) :
  AWL P c ops Q (⟨some d,.range tm x,ty,pos,af,none⟩::rest) ⟨t,m⟩:=by
 intro a w S H r
 obtain⟨h1,vss,o,h2,h3,⟨es,clock,rfl,hst,hks,hvs⟩,h5⟩:=r.bl p _ hm
 have ex:=Aio r hx
 refine wpList_plain rfl λK hK=>?_
 unfold Oper.wp
 have hrun:(execOp a.eval ⟨some d,.range tm x,ty,pos,af,none⟩).run P w=.ok (.value (.pointer (some ⟨w.heap.size,0,none⟩))) (w.alloc (.mapIter (some g) clock #[] clock)):=by
  simp [execOp,ex,run_range_map w tm kt et g es clock hu h2]
 rw[hrun]
 have hb:setBlock w g (.map es clock)=w:=by
  unfold setBlock
  have hlt:=(yC.1 h2).1
  have:w.heap.setIfInBounds g (.map es clock)=w.heap:=by
   apply Array.ext_getElem?
   intro i
   rw[kX]
   by_cases e:g=i
   ·subst e;rw[if_pos rfl,if_pos hlt,h2]
   ·rw[if_neg e]
  rw[this]
 obtain⟨H1,r1,_⟩:=r.setObj (mk':=Aml vof es clock) (css':=css) (vss:=vss) (o:=.map es clock) hm rfl ⟨rfl,hvs⟩ h5
 rw[hb] at r1
 have r2:=r1.newObj (o:=.mapIter (some g) clock #[] clock) (mk:=Ar7 g clock #[] clock) (vss:=[]) (css:=[]) rfl rfl ⟨rfl,λj cs vs h=>by simp at h⟩
 have hsz:es.size=css.length:=by
  have:=congrArg List.length hvs
  rw[h5.1];simpa using this
 exact hK _ _ (k es clock w.heap.size hst hks hsz _ _ _ _ (r2.put (d:=d) (x:=.s (.one (.raw (.pointer (some ⟨w.heap.size,0,none⟩))))) (of_decide_eq_true hd) (D4 (.raw _ rfl))))
theorem A0b (hks:es.toList.map (·.key)=ss.map .string) (hvs:es.toList.map (·.val)=vss.map Zj) (h5:Auy (Rep w S) css vss) (hj:es[j]? = some e) :
  ∃ s cs vs,ss[j]? = some s/\css[j]? = some cs/\LsR (Rep w S) cs vs/\e.key=.string s/\e.val=.agg vs.toArray:=by
 have hj':es.toList[j]? = some e:=by rw[wC];exact hj
 have h1:(ss.map Value.string)[j]? = some e.key:=by rw[<- hks,zK,hj'];rfl
 have h2:(vss.map Zj)[j]? = some e.val:=by rw[<- hvs,zK,hj'];rfl
 rw[zK] at h1 h2
 cases hs:ss[j]? with
 | none=>rw[hs] at h1;cases h1
 | some s =>
 cases hv:vss[j]? with
 | none=>rw[hv] at h2;cases h2
 | some vs =>
 have hlt:j<css.length:=by rw[h5.1];exact(zB.1 hv).1
 rw[hs] at h1;rw[hv] at h2
 exact⟨s,_,vs,rfl,zC hlt,h5.2 j _ vs (zC hlt) hv,(zF h1).symm,(zF h2).symm⟩
theorem Axn {q pi since c0:Nat} (hd:decide (d<c.nt)=true)
  (hx:Bg ⟨t,m⟩ x=.s (.one (.raw (.pointer (some ⟨q,0,none⟩))))) (hm:m[p]? = some (.obj g (Aml Zj es clock) css)) (hi:m[pi]? = some (.obj q (Ar7 g since seen c0) [])) (hold:∀ x∈es.toList,x.born<since) (hsc:since<=c0)
  (hks:es.toList.map (·.key)=ss.map .string)
  (k0:(leftOf es seen).size=0->AWL P c ops Q rest ⟨upd t d (.tup [.one (.b false)]),m⟩)
  (k1:∀ (j:Nat) e s cs,es[j]? = some e->e∈(leftOf es seen).toList->ss[j]? = some s->css[j]? = some cs->AWL P c ops Q rest ⟨upd t d (.tup [.one (.b true),.one (.s s),.agg cs]),m.set pi (.obj q (Ar7 g since (seen.push e.born) clock) [])⟩) :
  AWL P c ops Q (⟨some d,.next x false,ty,pos,af,none⟩::rest) ⟨t,m⟩:=by
 intro a w S H r
 obtain⟨g1,vss,o,g2,g3,⟨rfl,hvs⟩,g5⟩:=r.bl p _ hm
 obtain⟨i1,vss2,o2,i2,i3,rfl,i5⟩:=r.bl pi _ hi
 have ex:a.eval x=.pointer (some ⟨q,0,none⟩):=by
  have h:=Ax r x
  rw[hx] at h
  exact Ix h
 have hrw:(execOp a.eval ⟨some d,.next x false,ty,pos,af,none⟩).run P w=((Instr.next (.pointer (some ⟨q,0,none⟩)) false ty).run P w).andThen λv w'=>.ok (.value v) w':=by
  simp [execOp,ex]
 refine wpList_plain rfl λK hK=>?_
 unfold Oper.wp
 rw[hrw]
 rcases run_next_at (P:=P) w ty q g since c0 seen es clock i2 g2 hold hsc with⟨h0,hr⟩|⟨e,he,w1,hw1,hr⟩
 ·rw[hr]
  exact hK _ _ (k0 h0 _ _ _ _ (r.put (d:=d) (x:=.tup [.one (.b false)]) (of_decide_eq_true hd) ⟨_,rfl,rfl,λj x u h1 h2=>by
   cases j with
   | zero=>obtain rfl:=zF h1;obtain rfl:=zF h2;exact Bf.of_rep (m:=m) (H:=H) (.b _)
   | succ j=>simp at h1⟩))
 ·rw[hr]
  have hmem:e∈es.toList:=by unfold leftOf at he;simp at he ⊢;exact he.1
  obtain⟨j,hj⟩:=xH.1 hmem
  have hj':es[j]? = some e:=by rw[<- wC];exact hj
  have r1:Rel c ⟨t,m⟩ a w1 S H:=by
   rcases hw1 with rfl|rfl
   ·exact r
   ·exact r.ext (Ext.drew w S) (r.sl.ext (Ext.drew w S))
  obtain⟨g1',vss',o',g2',g3',⟨ho',hvs'⟩,g5'⟩:=r1.bl p _ hm
  obtain⟨s,cs,vs,e1,e2,e3,e4,e5⟩:=A0b hks hvs' g5' hj'
  obtain⟨H',r2,hk2⟩:=r1.setObj (mk':=Ar7 g since (seen.push e.born) clock) (css':=[]) (vss:=[]) (o:=.mapIter (some g) since (seen.push e.born) clock) hi rfl rfl ⟨rfl,λj cs vs h=>by simp at h⟩
  refine hK _ _ (k1 j e s cs hj' he e1 e2 _ _ _ _ (r2.put (d:=d) (x:=.tup [.one (.b true),.one (.s s),.agg cs]) (of_decide_eq_true hd) ⟨_,rfl,rfl,λi x u h1 h2=>?_⟩))
  match i with
  | 0=>obtain rfl:=zF h1;obtain rfl:=zF h2;exact Bf.of_rep (m:=m.set pi (.obj q (Ar7 g since (seen.push e.born) clock) [])) (H:=H') (.b _)
  | 1=>obtain rfl:=zF h1;obtain rfl:=zF h2;rw[e4];exact Bf.of_rep (m:=m.set pi (.obj q (Ar7 g since (seen.push e.born) clock) [])) (H:=H') (.s _)
  | 2=>obtain rfl:=zF h1;obtain rfl:=zF h2;rw[e5];exact⟨_,rfl,show LsR _ _ vs.toArray.toList from by rw[xY];exact e3.mono λl v h=>Bf.of_rep (Rep.mono hk2 h)⟩
  | i+3=>simp at h1
theorem Aul {q pi since:Nat} {cs:List Lf} (hd:decide (d<c.nt)=true)
  (hx:Bg ⟨t,m⟩ x=.s (.one (.raw (.pointer (some ⟨q,0,none⟩))))) (hm:m[p]? = some (.obj g (Aml Zj es clock) css)) (hi:m[pi]? = some (.obj q (Ar7 g since (seen.push e.born) clock) [])) (hn:(es.toList.map (·.born)).Nodup)
  (hks:es.toList.map (·.key)=ss.map .string) (hj:es[j]? = some e) (hs:ss[j]? = some s) (hcs:css[j]? = some cs)
  (k:AWL P c ops Q rest ⟨upd t d (.tup [.one (.s s),.agg cs]),m⟩) :
  AWL P c ops Q (⟨some d,.entry x,ty,pos,af,none⟩::rest) ⟨t,m⟩:=by
 intro a w S H r
 obtain⟨g1,vss,o,g2,g3,⟨rfl,hvs⟩,g5⟩:=r.bl p _ hm
 obtain⟨i1,vss2,o2,i2,i3,rfl,i5⟩:=r.bl pi _ hi
 have ex:a.eval x=.pointer (some ⟨q,0,none⟩):=by
  have h:=Ax r x
  rw[hx] at h
  exact Ix h
 obtain⟨s',cs',vs,e1,e2,e3,e4,e5⟩:=A0b hks hvs g5 hj
 rw[hs] at e1;rw[hcs] at e2
 obtain rfl:=zF e1
 obtain rfl:=zF e2
 have hmem:e∈es.toList:=zD (i:=j) (by rw[wC];exact hj)
 have hrw:(execOp a.eval ⟨some d,.entry x,ty,pos,af,none⟩).run P w=.ok (.value (.tuple #[e.key,e.val])) w:=by
  simp [execOp,ex,run_entry_at w q g since seen es clock e i2 g2 hmem hn]
 refine wpList_plain rfl λK hK=>?_
 unfold Oper.wp
 rw[hrw]
 refine hK _ _ (k _ _ _ _ (r.put (d:=d) (x:=.tup [.one (.s s),.agg cs]) (of_decide_eq_true hd) ⟨_,rfl,rfl,λi x u h1 h2=>?_⟩))
 match i with
 | 0=>obtain rfl:=zF h1;obtain rfl:=zF h2;rw[e4];exact Bf.of_rep (m:=m) (H:=H) (.s _)
 | 1=>obtain rfl:=zF h1;obtain rfl:=zF h2;rw[e5];exact⟨_,rfl,show LsR _ _ vs.toArray.toList from by rw[xY];exact e3.mono λl v h=>Bf.of_rep h⟩
 | i+2=>simp at h1
end
end
open Go.RowKit Go.Shelf Go.Sort
open Go.Proofs (sortWorldK)
section
variable {R:Lf->Value->Prop} {i k:Nat} {α β:Type} {f:α->List Lf} {enc:β->List Value}
theorem As1:∀ {a b:List Lf} {vs:List Value},LsR R (a++b) vs->LsR R a (vs.take a.length)/\LsR R b (vs.drop a.length):=λ{a b vs} h=>by
 obtain⟨h1,h2⟩:=h
 rw[zI] at h1
 refine⟨⟨by rw[zR];omega,λj l v e1 e2=>?_⟩,⟨by rw[yF];omega,λj l v e1 e2=>?_⟩⟩
 ·have hj:=(zB.1 e1).1
  rw[yR,if_pos hj] at e2
  exact h2 j l v (by rw[zL hj];exact e1) e2
 ·rw[yP] at e2
  exact h2 (a.length+j) l v (by rw[zX (by omega)];simpa using e1) e2
theorem Axe {a b:List Lf} {va vb:List Value} (ha:LsR R a va) (hb:LsR R b vb):LsR R (a++b) (va++vb):=by
 refine⟨by rw[zI,zI,ha.1,hb.1],λj l v e1 e2=>?_⟩
 rcases zQ j a.length with hj|hj
 ·rw[zL hj] at e1
  rw[zL (by rw[<- ha.1];exact hj)] at e2
  exact ha.2 j l v e1 e2
 ·rw[zX hj] at e1
  rw[zX (by rw[<- ha.1];exact hj),<- ha.1] at e2
  exact hb.2 _ l v e1 e2
theorem Azd:∀ {xs:List α} {vals:List Value},LsR R (xs.flatMap f) vals->∃ d:List { p:α×List Value // LsR R (f p.1) p.2 },d.map (λp=>p.1.1)=xs/\d.flatMap (λp=>p.1.2)=vals
 | [],vals,h=>by
  have:vals=[]:=yE h.1.symm
  exact⟨[],rfl,this.symm⟩
 | x::xs,vals,h=>by
  rw[yY] at h
  obtain⟨h1,h2⟩:=As1 h
  obtain⟨d,e1,e2⟩:=Azd h2
  refine⟨⟨(x,vals.take (f x).length),h1⟩::d,by rw[xN,e1],?_⟩
  rw[yY,e2]
  exact xP ..
theorem As5:∀ d:List { p:α×List Value // LsR R (f p.1) p.2 },LsR R ((d.map (λp=>p.1.1)).flatMap f) (d.flatMap (λp=>p.1.2))
 | []=>⟨rfl,λj l v h=>by simp at h⟩
 | p::d=>by
  rw[xN,yY,yY]
  exact Axe p.2 (As5 d)
theorem Axv {γ:Type} {g:β->List γ} (hk:∀ x,(g x).length=k) (xs:List β) {j:Nat} (hi:i<k) (hj:j<xs.length):(xs.flatMap g)[j*k+i]? = (g xs[j])[i]? := by
 have e:(xs.flatMap g)[j*k+i]? = ((xs.flatMap g).drop (j*k))[i]? := by rw[yP]
 have h2:(xs.flatMap g).drop (j*k)=(xs.drop j).flatMap g:=by
  clear e hj
  induction xs generalizing j with
  | nil=>simp
  | cons a l ih =>
   cases j with
   | zero=>simp
   | succ j =>
    rw[yY,jA,List.drop_succ_cons,<- ih,hk]
    rw[List.drop_eq_nil_of_le (by rw[hk,kS];omega),wO]
    congr 1
    rw[kS];omega
 rw[e,h2,xB hj,yY,zL (by rw[hk];exact hi)]
theorem Ait [Inhabited β] (hk:∀ x,(enc x).length=k) (d:Array β):(flatK enc k d).toList=d.toList.flatMap enc:=by
 have hlen:(d.toList.flatMap enc).length=d.size*k:=by
  have:∀ l:List β,(l.flatMap enc).length=l.length*k:=λl=>by
   induction l with
   | nil=>simp
   | cons a l ih=>rw[yY,zI,ih,hk,yZ,kS,zAe]
  rw[this];simp
 apply List.ext_getElem
 ·rw[hlen];simp
 ·intro t h1 h2
  rw[hlen] at h2
  have k0:0<k:=by
   rcases jF k with h|h
   ·rw[h] at h2;simp at h2
   ·exact h
  have hj:t / k<d.size:=Nat.div_lt_of_lt_mul (by rw[Nat.mul_comm];exact h2)
  have hi:t % k<k:=Nat.mod_lt _ k0
  have ht:(flatK enc k d)[t]! = (flatK enc k d)[t]'(by simpa using h2):=getElem!_pos _ t _
  have e1:(flatK enc k d).toList[t]=(enc d[t / k])[t % k]'(by rw[hk];exact hi):=by
   rw[jM,<- ht,get_flatK enc k d t h2,getElem!_pos d _ hj,getElem!_pos _ _ (by rw[hk];exact hi)]
  have e2:=Axv hk d.toList (j:=t / k) hi (by simpa using hj)
  have e3:t / k*k+t % k=t:=by rw[Nat.mul_comm];exact Nat.div_add_mod t k
  have e4:d.toList[t / k]'(by simpa using hj)=d[t / k]:=jM ..
  rw[e3,zC (by rw[hlen];exact h2),e4,zC (by rw[hk];exact hi)] at e2
  rw[e1,zF e2]
section
variable {β:Type} [Inhabited β] {enc:β->List Value} {k:Nat} {w:World} {b n:Nat} {d:Array β} {os:Array Obj} {cur:Array Value} {e:TypeId}
theorem A3h (hb:w.heap[b]? = some (.cells cur e (0,0))) (hd:d.size*k<=cur.size):(sortWorldK enc k w b 0 n d os).heap[b]? = some (.cells ((flatK enc k d).toList++cur.toList.drop (d.size*k)).toArray e (0,0)):=by
 have hlt:=(yC.1 hb).1
 have h1:(sortWorldK enc k w b 0 n d os).heap[b]? = (putRowK enc k (Sort.ahead w n) b 0 d).heap[b]? := by
  show((putRowK enc k (Sort.ahead w n) b 0 d).heap++os)[b]? = _
  rw[k7 (by simp [putRowK,Sort.ahead];exact hlt)]
 rw[h1]
 show((Sort.ahead w n).heap.modify b _)[b]? = _
 rw[w7,if_pos rfl]
 show(w.heap[b]?).map _=_
 rw[hb]
 show some (Obj.cells (putCells id 0 (flatK enc k d) cur) e (0,0))=_
 congr 2
 apply Array.ext_getElem?
 intro i
 rw[putCells,Array.getElem?_mapIdx]
 simp only[size_flatK,zU,true_and,yT,Nat.sub_zero,id]
 have hto:((flatK enc k d).toList++cur.toList.drop (d.size*k)).toArray[i]? = ((flatK enc k d).toList++cur.toList.drop (d.size*k))[i]? := List.getElem?_toArray ..
 rw[hto]
 rcases zQ i (d.size*k) with hi|hi
 ·rw[zL (by simpa using hi),wC,z9 (show i<cur.size by omega),z9 (show i<(flatK enc k d).size by simpa using hi),xM,if_pos hi,getElem!_pos]
 ·rw[zX (by simpa using hi),yP,wC,yL,size_flatK,show d.size*k+(i-d.size*k)=i by omega]
  cases cur[i]? with
  | none=>rfl
  | some v=>rw[xM,if_neg (by omega)]
theorem Aen (hi:i<w.heap.size) (hne:i≠b):(sortWorldK enc k w b 0 n d os).heap[i]? = w.heap[i]? := by
 have h1:(sortWorldK enc k w b 0 n d os).heap[i]? = (putRowK enc k (Sort.ahead w n) b 0 d).heap[i]? := by
  show((putRowK enc k (Sort.ahead w n) b 0 d).heap++os)[i]? = _
  rw[k7 (by simp [putRowK,Sort.ahead];exact hi)]
 rw[h1]
 show((Sort.ahead w n).heap.modify b _)[i]? = _
 rw[w7,if_neg (λh=>hne h.symm)]
 rfl
theorem Ajp:w.heap.size<=(sortWorldK enc k w b 0 n d os).heap.size:=by
 show _<=((putRowK enc k (Sort.ahead w n) b 0 d).heap++os).size
 rw[wQ]
 simp [putRowK,Sort.ahead]
end
theorem A6i {P:Program} {ρ:Ren} (L:Go.Proofs.SlLaysF0.n6 P ρ) {e sz g:Nat} (cf:α->α->Int) (hf:∀ x,(f x).length=sz) (hsz:0<sz)
  (aE:∀ w,(isAgg (ρ.t 24)).run P w=.ok true w) (zE:∀ w,(Go.sizeOf (ρ.t 24)).run P w=.ok sz w) (hO:SWO (Go.Proofs.ltOf cf)) (eg:∀ args w,(callFunc g args).run P w=.ok (.enter g args) w)
  (hg:∀ (W:World) (S:Dx) (x y:α) (vx vy:List Value),(∀ b i,S b i->b<W.heap.size)->LsR (Rep W S) (f x) vx->LsR (Rep W S) (f y) vy->Calls P g #[.agg vx.toArray,.agg vy.toArray] W λe w'=>e=.returned (.int .i64 (cf x y))/\∃ q os',w'=grow (W.drewN q) os')
  {xs ys:List α} (hn:xs.length<=1000000000000000000) (hys:∀ zs:List α,zs.Perm xs->zs.Pairwise (λa b=>Go.Proofs.ltOf cf b a=false)->zs=ys) :
  Dk P (ρ.f 6) [.arr e sz 0 (xs.flatMap f)] [.one (.ls 0 xs.length),.one (.raw (.func (.func g) #[] #[]))] (λy m'=>y=.tup []/\m'=[.arr e sz 0 (ys.flatMap f)]):=by
 intro w S H vs hin mem hvs
 obtain⟨hvl,hvr⟩:=hvs
 obtain⟨v0,v1,rfl⟩:∃ v0 v1,vs = #[v0,v1]:=by
  obtain⟨l⟩:=vs
  match l,hvl with
  | [a,b],_=>exact⟨a,b,rfl⟩
 have hv1:v1=.func (.func g) #[] #[]:=Ix (hvr 1 _ v1 rfl rfl)
 obtain⟨_,_,hv0⟩:=(show Dy w S [.arr e sz 0 (xs.flatMap f)] H (.ls 0 xs.length) v0 from hvr 0 _ v0 rfl rfl)
 have hv0:=(hv0 e sz 0 _ rfl).2 (A4 hf xs).symm
 obtain⟨_,_,n',vals,hown,hls,_⟩:=mem.bl 0 _ rfl
 have hn':n'=xs.length:=O2 hown hsz (by rw[<- hls.1,A4 hf])
 subst hn'
 have hin':=hin
 subst hv1
 have none0:xs.length=0->(∃ p cap,v0=.slice p 0 cap)->Calls P (ρ.f 6) #[v0,.func (.func g) #[] #[]] w λe' w'=>∃ v x m' S' H',e'=.returned v/\(x=.tup []/\m'=[.arr e sz 0 (ys.flatMap f)])/\Aam (Aj9 [.arr e sz 0 (xs.flatMap f)] H) w S w' S'/\InH w' S'/\Mem w' S' m' H' /\
   (∀ (p:Nat) (b:Blk) (g:Nat),m'[p]? = some b->b.own (H' p)=some g->w.heap.size<=g\/Aj9 [.arr e sz 0 (xs.flatMap f)] H g)/\A8n [.arr e sz 0 (xs.flatMap f)] H m' H'/\AVR (Bf w' S' m' H') x v:=λh0 ⟨p,cap,hp⟩=>by
  have hx:xs=[]:=yE h0
  have hy:ys=xs:=(hys xs (List.Perm.refl _) (by rw[hx];exact List.Pairwise.nil)).symm
  subst hp
  refine(Go.Proofs.AnyF.slices_SortFunc_none { L with } p cap _ w).mono ?_
  rintro e' w' ⟨rfl,rfl⟩
  rw[hy]
  exact⟨_,.tup [],_,S,H,rfl,⟨rfl,rfl⟩,Aam.refl _ _ _,hin,mem,λp b g hb ho=>.inr ⟨p,b,hb,ho⟩,⟨zT _,λ_ _ _ _=>rfl,λp e' sz' k cs _ hm=>⟨k,cs,hm,.inl ⟨rfl,rfl⟩⟩,λ_ _ h=>h⟩,Hn⟩
 rcases hown.2 with⟨hH,h0⟩|⟨blk,cap,cur,hH,_,hheap,hcap,hmax,hcs,hvals⟩
 ·exact none0 h0 ⟨none,0,hv0.trans hH⟩
 rcases jF xs.length with h0|hpos
 ·exact none0 h0 ⟨_,_,by rw[hv0,hH,h0]⟩
 obtain⟨d,hd1,hd2⟩:=Azd hls
 have hdl:d.length=xs.length:=by rw[<- hd1,zP]
 obtain⟨p0,hp0⟩:∃ p0,d[0]? = some p0:=⟨_,zC (by omega)⟩
 let β:={ p:α×List Value // LsR (Rep w S) (f p.1) p.2 }
 let _:Inhabited β:=⟨p0⟩
 let enc:β->List Value:=λp=>p.1.2
 have hk:∀ x:β,(enc x).length=sz:=λx=>by rw[<- x.2.1,hf]
 have h1:∀ x:β,∀ v∈enc x,v.oneCell'=true:=λx v hv=>by
  obtain⟨j,hj⟩:=xH.1 hv
  have hjl:j<(f x.1.1).length:=by rw[x.2.1];exact(zB.1 hj).1
  exact Rep.oneCell (x.2.2 j _ v (zC hjl) hj)
 have hblk:blk<w.heap.size:=(yC.1 hheap).1
 have hnoS:∀ i,¬ S blk i:=λi hi=>absurd (mem.sb 0 _ blk i rfl (by show Cz (H 0)=_;rw[hH];rfl) hi) (zW _)
 have hflat:(flatK enc sz d.toArray).toList=vals:=by rw[Ait hk];exact hd2
 have hcurlen:d.toArray.size*sz<=cur.size:=by
  rw[hcs];simp only[yI,hdl];exact xV _ hcap
 have hH':HoldsK enc sz w blk 0 d.toArray:=λj hj=>by
  rw[size_flatK,yI] at hj
  have hjv:j<vals.length:=by rw[<- hls.1,A4 hf,<- hdl];exact hj
  have hval:(flatK enc sz d.toArray)[j]! = vals[j]:=by
   rw[getElem!_pos _ _ (by rw[size_flatK,yI];exact hj),<- jM]
   simp only[hflat]
  have hcur:cur.toList[j]? = some vals[j]:=by
   have:(cur.toList.take (xs.length*sz))[j]? = some vals[j]:=by rw[hvals,zC hjv]
   rw[yR] at this
   split at this
   ·exact this
   ·cases this
  refine⟨?_,?_⟩
  ·rw[yT,cell_of_row w _ _ cur e (0,0) hheap,hval]
   simpa using hcur
  ·rw[yT]
   unfold World.frozen?
   rw[hheap]
   simp
 have hcmp:Go.Proofs.CmpLays P g #[] enc sz (λx y:β=>cf x.1.1 y.1.1) blk 0 d.toArray.size w:=λm os dk hdk x y=>by
  have hkeep:∀ b i,S b i->S b i/\(sortWorldK enc sz w blk 0 m dk os).cell? ⟨b,i,none⟩=w.cell? ⟨b,i,none⟩:=λb i hs =>
   ⟨hs,World.cell?_of_block (w:=w) (Aen (hin.1 b i hs) λe=>hnoS i (e ▸ hs))⟩
  have:=hg (sortWorldK enc sz w blk 0 m dk os) S x.1.1 y.1.1 x.1.2 y.1.2 (λb i hs=>zY (hin.1 b i hs) Ajp) (x.2.mono λl v=>Rep.mono hkeep) (y.2.mono λl v=>Rep.mono hkeep)
  simpa using this
 have hO':SWO (Go.Proofs.ltOf (λx y:β=>cf x.1.1 y.1.1)):=⟨λx=>hO.irrefl x.1.1,λx y z=>hO.trans x.1.1 y.1.1 z.1.1,λx y z=>hO.ntrans x.1.1 y.1.1 z.1.1⟩
 have hcon:=Go.Proofs.AnyQ.slices_SortFunc L sz aE zE enc hk h1 (λx y:β=>cf x.1.1 y.1.1) hO' g #[] blk 0 cap d.toArray w eg hcmp hH' hblk (by rw[yI,hdl];omega)
 rw[hv0,hH]
 rw[yI,hdl] at hcon
 refine hcon.mono ?_
 rintro e' w' ⟨rfl,d',n2,os,hperm,hsort,rfl⟩
 obtain⟨hps,_,hpp⟩:=hperm
 have hds:d'.size=xs.length:=by rw[hps,yI,hdl]
 have hpl:d'.toList.Perm d:=by
  have e1:d'.extract 0 xs.length=d':=by rw[<- hds];simp
  have e2:d.toArray.extract 0 xs.length=d.toArray:=by rw[<- hdl];simp
  rw[e1,e2] at hpp
  simpa using hpp
 have hz:d'.toList.map (λp=>p.1.1)=ys:=by
  refine hys _ ?_ ?_
  ·rw[<- hd1];exact hpl.map _
  ·rw[wH]
   refine z7.2 λi j hi hj hij=>?_
   rw[yL] at hi hj
   have:=hsort i j (zU _) hij (by omega)
   rw[getElem!_pos d' j (by omega),getElem!_pos d' i (by omega)] at this
   exact this
 have hyl:ys.length=xs.length:=by rw[<- hz,zP,yL,hds]
 have hsame:=A3h (enc:=enc) (k:=sz) (n:=n2) (d:=d') (os:=os) hheap (by rw[hds];rw[yI,hdl] at hcurlen;exact hcurlen)
 have hkeep:∀ b i,S b i->S b i/\(sortWorldK enc sz w blk 0 n2 d' os).cell? ⟨b,i,none⟩=w.cell? ⟨b,i,none⟩:=λb i hs =>
  ⟨hs,World.cell?_of_block (w:=w) (Aen (hin.1 b i hs) λe=>hnoS i (e ▸ hs))⟩
 have hin2:InH (sortWorldK enc sz w blk 0 n2 d' os) S:=hin.turn (·=blk) (λg i e hs=>absurd (e ▸ hs) (hnoS i)) (λq hq hne=>Aen hq hne) Ajp λb i hs=>(hkeep b i hs).2
 have hlenv:(d'.toList.flatMap enc).length=xs.length*sz:=by rw[<- Ait hk,yL,size_flatK,hds]
 have hownX:Aj9 [.arr e sz 0 (xs.flatMap f)] H blk:=⟨0,_,rfl,by show Cz (H 0)=_;rw[hH];rfl⟩
 refine⟨_,.tup [],[.arr e sz 0 (ys.flatMap f)],S,H,rfl,⟨rfl,rfl⟩,⟨rfl,rfl,rfl,Ajp,λb hb hx=>Aen hb λe=>hx (e ▸ hownX),λb i hs=>hs,λb i hs=>(hkeep b i hs).2,λb i _ _ hs=>hs⟩,hin2,⟨λp b hb=>?_,λp b g' hb ho=>?_,λp q b b' g' hb hb' _ _=>?_,λp b g' i hb ho hs=>?_⟩,λp b g' hb ho=>?_,⟨zT _,λ_ _ _ _=>rfl,λp e' sz' k' cs' hp hm=>?_,λ_ _ h=>h⟩,Hn⟩
 ·match p with
  | 0 =>
   obtain rfl:=zF hb
   refine⟨hsz,zU _,xs.length,d'.toList.flatMap enc,⟨hlenv,.inr ⟨blk,cap,_,hH,zU _,hsame,hcap,hmax,?_,?_⟩⟩,?_,λg' _ i hi=>absurd hi (zW _)⟩
   ·rw[yI,zI,yL,size_flatK,yF,yL,hds,hcs]
    have:=xV sz hcap
    omega
   ·rw[Ait hk,xY,xG (by rw[hlenv];exact zT _),<- hlenv,yM]
   ·rw[<- hz]
    exact(As5 d'.toList).mono λl v=>Rep.mono hkeep
  | p+1=>simp at hb
 ·match p with
  | 0 =>
   obtain rfl:=zF hb
   have hg':Cz (H 0)=some g':=ho
   rw[hH] at hg'
   obtain rfl:blk=g':=by simpa [Cz] using hg'
   exact zY hblk Ajp
  | p+1=>simp at hb
 ·match p,q with
  | 0,0=>rfl
  | 0,q+1=>simp at hb'
  | p+1,_=>simp at hb
 ·match p with
  | 0 =>
   obtain rfl:=zF hb
   have hg':Cz (H 0)=some g':=ho
   rw[hH] at hg'
   obtain rfl:blk=g':=by simpa [Cz] using hg'
   exact absurd hs (hnoS i)
  | p+1=>simp at hb
 ·match p with
  | 0 =>
   obtain rfl:=zF hb
   exact .inr ⟨0,_,rfl,ho⟩
  | p+1=>simp at hb
 ·match p with
  | 0 =>
   obtain⟨rfl,rfl,rfl,rfl⟩:e=e'/\sz=sz'/\0=k'/\ys.flatMap f=cs':=by simpa using hm
   exact⟨0,_,rfl,.inl ⟨by rw[A4 hf,A4 hf,hyl],rfl⟩⟩
  | p+1=>simp at hp
end
open Go.RowKit
section
variable {ls:List Lf}
theorem Apc (h:Am1 (.int .i64) ls):∃ n:Int,(-9223372036854775808<=n/\n<=9223372036854775807)/\ls=eI n:=by
 obtain⟨n,hw,rfl⟩:=h
 exact⟨n,A21 hw,rfl⟩
theorem A71 {k:IntKind} {n:Int} (h:(Lit.int k n).wf=true):k.min<=n/\n<=k.max:=by
 simp only[Lit.wf,zG,decide_eq_true_eq] at h
 exact h
theorem Ayx (h:Am1 (.int .u8) ls):∃ a:UInt8,True/\ls=eU8 a:=by
 obtain⟨n,hw,rfl⟩:=h
 obtain⟨h1,h2⟩:=A71 hw
 simp [IntKind.min,IntKind.max,IntKind.bits,IntKind.signed] at h1 h2
 refine⟨UInt8.ofNat n.toNat,trivial,?_⟩
 show _=[Lf.i .u8 _]
 rw[show((UInt8.ofNat n.toNat).toNat:Int)=n by rw[UInt8.toNat_ofNat'];omega]
theorem Ani (h:Am1 .bool ls):∃ b:Bool,True/\ls=eB b:=by
 obtain⟨b,rfl⟩:=h
 exact⟨b,trivial,rfl⟩
theorem Atz {α:Type} {e:Sh} {f:α->List Lf} {Q:α->Prop} (he:∀ {r},Am1 e r->∃ x,Q x/\r=f x) (h:Am1 (.sl e) ls):∃ xs:List α,(xs.length<=maxLen/\∀ x∈xs,Q x)/\ls=eL f xs:=by
 obtain⟨rows,hl,hr,rfl⟩:=h
 have:∃ xs:List α,(∀ x∈xs,Q x)/\rows=xs.map f:=by
  clear hl
  induction rows with
  | nil=>exact⟨[],λ_ h=>by simp at h,rfl⟩
  | cons r rs ih =>
   obtain⟨x,hq,hx⟩:=he (hr r (yQ ..))
   obtain⟨xs,hqs,hxs⟩:=ih (λr h=>hr r (yH _ h))
   exact⟨x::xs,λy hy=>by rcases yB.1 hy with rfl|hy;exact hq;exact hqs y hy,by rw[hx,hxs];rfl⟩
 obtain⟨xs,hq,rfl⟩:=this
 exact⟨xs,⟨by simpa using hl,hq⟩,by rw[eL,List.flatMap,zP]⟩
end
section
variable {j:Int} {α:Type} {xs:List α}
theorem Zc {n:Int} (h1:-9223372036854775808<=n) (h2:n<=9223372036854775807):wI n=n:=by
 unfold wI IntKind.wrap
 simp [IntKind.bits,IntKind.signed]
 omega
theorem Bb {n:Nat} (h:n<=1000000000000000000):n<fuel:=by unfold fuel;omega
theorem Ak (xs:List α) (i:Nat):idx xs (i:Int)=xs[i]? := by
 unfold idx
 rw[if_pos (xZ i),z6]
theorem A02 (h0:0<=j) (h1:j<xs.length):∃ x,idx xs j=some x/\xs[j.toNat]? = some x:=by
 have h:j.toNat<xs.length:=by omega
 exact⟨xs[j.toNat],by unfold idx;rw[if_pos h0,zC h],zC h⟩
theorem A7v {x:α} (h0:0<=j) (h:xs[j.toNat]? = some x):idx xs j=some x:=by
 unfold idx
 rw[if_pos h0,h]
theorem Tq {lo hi:Int} (h0:0<=lo) (h1:lo<=hi) (h2:hi<=xs.length):cut xs lo hi=some ((xs.drop lo.toNat).take (hi.toNat-lo.toNat)):=by
 unfold cut
 rw[if_pos ⟨h0,h1,h2⟩]
theorem Bo {σ β:Type} {f:σ->Option (LB σ β)} {P:σ->Prop} {μ:σ->Nat} {R:β->Prop}
  (h:∀ s,P s->(∃ s',f s=some (.cont s')/\P s'/\μ s'<μ s)\/∃ b,f s=some (.brk b)/\R b):∀ (n:Nat) (s:σ),P s->μ s<n->∃ b,Be f n s=some b/\R b
 | 0,s,_,hm=>by omega
 | n+1,s,hp,hm=>by
  rcases h s hp with⟨s',hf,hp',hlt⟩|⟨b,hf,hr⟩
  ·obtain⟨b,hb,hr⟩:=Bo h n s' hp' (by omega)
   exact⟨b,by rw[Be,hf];exact hb,hr⟩
  ·exact⟨b,by rw[Be,hf],hr⟩
theorem B9 {σ β ρ:Type} {f:σ->Option (LR σ β ρ)} {P:σ->Prop} {μ:σ->Nat} {R:Sum ρ β->Prop}
  (h:∀ s,P s->(∃ s',f s=some (.cont s')/\P s'/\μ s'<μ s)\/(∃ b,f s=some (.brk b)/\R (.inr b))\/∃ r,f s=some (.ret r)/\R (.inl r)):∀ (n:Nat) (s:σ),P s->μ s<n->∃ b,B7 f n s=some b/\R b
 | 0,s,_,hm=>by omega
 | n+1,s,hp,hm=>by
  rcases h s hp with⟨s',hf,hp',hlt⟩|⟨b,hf,hr⟩|⟨b,hf,hr⟩
  ·obtain⟨b,hb,hr⟩:=B9 h n s' hp' (by omega)
   exact⟨b,by rw[B7,hf];exact hb,hr⟩
  ·exact⟨.inr b,by rw[B7,hf],hr⟩
  ·exact⟨.inl b,by rw[B7,hf],hr⟩
theorem Ab9 {σ β τ:Type} {f:τ->Option (LB τ β)} (st:σ->Nat->τ) (xs:List α) (g:σ->α->σ) (out:σ->β) (hl:xs.length<1000000000000000000000000)
  (h1:∀ acc i x,xs[i]? = some x->f (st acc i)=some (.cont (st (g acc x) (i+1)))) (h2:∀ acc,f (st acc xs.length)=some (.brk (out acc))) (a0:σ):Be f fuel (st a0 0)=some (out (xs.foldl g a0)):=by
 have key:∀ (k i:Nat) (acc:σ) (n:Nat),k+i=xs.length->k<n->Be f n (st acc i)=some (out ((xs.drop i).foldl g acc)):=by
  intro k
  induction k with
  | zero =>
   intro i acc n hi hn
   obtain⟨m,rfl⟩:∃ m,n=m+1:=⟨n-1,by omega⟩
   have:i=xs.length:=by omega
   subst this
   rw[Be,h2,kY]
   rfl
  | succ k ih =>
   intro i acc n hi hn
   obtain⟨m,rfl⟩:∃ m,n=m+1:=⟨n-1,by omega⟩
   have hlt:i<xs.length:=by omega
   rw[Be,h1 acc i xs[i] (zC hlt),xB hlt,w8]
   exact ih (i+1) _ m (by omega) (by omega)
 have:=key xs.length 0 a0 fuel (by omega) hl
 rwa [List.drop_zero] at this
end
section
variable {α:Type}
theorem W0 (x y:UInt8):x<y\/x=y\/y<x:=by
 rcases kH x.toNat y.toNat with h|h|h
 ·exact .inl (xI.2 h)
 ·exact .inr (.inl (UInt8.toNat_inj.1 h))
 ·exact .inr (.inr (xI.2 h))
theorem Km {x y:UInt8} (h:x<y):¬ y<x:=λh'=>by
 have:=xI.1 h
 have:=xI.1 h'
 omega
theorem Ai9 {x y z:UInt8} (h:x<y) (h':y<z):x<z:=by
 have h1:=xI.1 h
 have h2:=xI.1 h'
 exact xI.2 (by omega)
theorem Jp:∀ a:List UInt8,Ce a a=0
 | []=>rfl
 | x::xs=>by unfold Ce;rw[if_neg (xD x),if_neg (xD x)];exact Jp xs
theorem Lh:∀ a b:List UInt8,Ce a b = -Ce b a
 | [],[]=>rfl
 | [],_::_=>rfl
 | _::_,[]=>rfl
 | x::xs,y::ys=>by
  unfold Ce
  rcases W0 x y with h|h|h
  ·rw[if_pos h,if_neg (Km h),if_pos h]
  ·subst h
   rw[if_neg (xD x),if_neg (xD x),if_neg (xD x),if_neg (xD x)];exact Lh xs ys
  ·rw[if_neg (Km h),if_pos h,if_pos h];rfl
theorem Pf:∀ {a b:List UInt8},Ce a b=0->a=b
 | [],[],_=>rfl
 | [],_::_,h=>by cases h
 | _::_,[],h=>by cases h
 | x::xs,y::ys,h=>by
  unfold Ce at h
  rcases W0 x y with h1|h1|h1
  ·rw[if_pos h1] at h;cases h
  ·subst h1
   rw[if_neg (xD x),if_neg (xD x)] at h
   rw[Pf h]
  ·rw[if_neg (Km h1),if_pos h1] at h;cases h
theorem Hd:∀ {a b c:List UInt8},Ce a b<=0->Ce b c<=0->Ce a c<=0/\(Ce a b<0\/Ce b c<0->Ce a c<0)
 | [],b,[],h1,h2=>⟨xS _,λh=>by
   cases b with
   | nil=>rcases h with h | h <;> simp [Ce] at h
   | cons y ys=>simp [Ce] at h2⟩
 | [],_,_::_,_,_=>⟨by simp [Ce],λ_=>by simp [Ce]⟩
 | _::_,[],_,h1,_=>by simp [Ce] at h1
 | _::_,_::_,[],_,h2=>by simp [Ce] at h2
 | x::xs,y::ys,z::zs,h1,h2=>by
  unfold Ce at h1 h2 ⊢
  rcases W0 x y with e1|e1|e1
  ·rcases W0 y z with e2|e2|e2
   ·rw[if_pos (Ai9 e1 e2)];exact⟨by decide,λ_=>by decide⟩
   ·subst e2;rw[if_pos e1];exact⟨by decide,λ_=>by decide⟩
   ·rw[if_neg (Km e2),if_pos e2] at h2;exact absurd h2 (by decide)
  ·subst e1
   rw[if_neg (xD x),if_neg (xD x)] at h1 ⊢
   rcases W0 x z with e2|e2|e2
   ·rw[if_pos e2];exact⟨by decide,λ_=>by decide⟩
   ·subst e2
    simp only[xD,if_false] at h2 ⊢
    exact Hd h1 h2
   ·rw[if_neg (Km e2),if_pos e2] at h2;exact absurd h2 (by decide)
  ·rw[if_neg (Km e1),if_pos e1] at h1;exact absurd h1 (by decide)
theorem Agf {a b:List UInt8}:0<=Ce a b↔Ce b a<=0:=by rw[Lh a b];omega
open Go.Sort
def A4m (kf:α->List UInt8) (x:α):List α->List α
 | []=>[x]
 | y::l=>if Ce (kf x) (kf y)<0 then x::y::l else y::A4m kf x l
def Ajw (kf:α->List UInt8):List α->List α
 | []=>[]
 | x::l=>A4m kf x (Ajw kf l)
def Gh (kf:α->List UInt8) (l:List α):Prop:=l.Pairwise (λa b=>Ce (kf a) (kf b)<0)
def Ib (kf:α->List UInt8) (l:List α):Prop:=l.Pairwise (λa b=>kf a≠kf b)
section
variable {α:Type} {kf:α->List UInt8}
theorem Agi (x:α):∀ l:List α,(A4m kf x l).Perm (x::l)
 | []=>List.Perm.refl _
 | y::l=>by
  unfold A4m
  split
  ·exact List.Perm.refl _
  ·exact((Agi x l).cons y).trans (List.Perm.swap x y l)
theorem Jo:∀ l:List α,(Ajw kf l).Perm l
 | []=>List.Perm.refl _
 | x::l=>(Agi x (Ajw kf l)).trans ((Jo l).cons x)
theorem Akq {x:α}:∀ {l:List α},Gh kf l->(∀ y∈l,kf x≠kf y)->Gh kf (A4m kf x l)
 | [],_,_=>wS _ _
 | y::l,h,hd=>by
  obtain⟨h1,h2⟩:=yX.1 h
  unfold A4m
  split
  ·rename_i hlt
   refine yX.2 ⟨λz hz=>?_,h⟩
   rcases yB.1 hz with rfl|hz
   ·exact hlt
   ·exact(Hd (by omega) (kJ (h1 z hz))).2 (.inl hlt)
  ·rename_i hge
   refine yX.2 ⟨λz hz=>?_,Akq h2 λz hz=>hd z (yH _ hz)⟩
   rcases yB.1 ((Agi x l).mem_iff.1 hz) with rfl|hz
   ·have h3:=Agf.1 (show 0<=Ce (kf z) (kf y) by omega)
    rcases Int.lt_or_eq_of_le h3 with h|h
    ·exact h
    ·exact absurd (Pf h).symm (hd y (yQ ..))
   ·exact h1 z hz
theorem Ib.perm {a b:List α} (h:a.Perm b):Ib kf a↔Ib kf b:=h.pairwise_iff λh=>Ne.symm h
theorem Tg:∀ {l:List α},Ib kf l->Gh kf (Ajw kf l)
 | [],_=>List.Pairwise.nil
 | x::l,h=>by
  obtain⟨h1,h2⟩:=yX.1 h
  exact Akq (Tg h2) λy hy=>h1 y ((Jo l).mem_iff.1 hy)
theorem Gh.dist {l:List α} (h:Gh kf l):Ib kf l:=h.imp λh e=>by rw[e,Jp] at h;exact absurd h (by decide)
theorem Agm {a b:List α} (ha:Gh kf a) (hb:Gh kf b) (h:a.Perm b):a=b :=
 List.Perm.eq_of_pairwise (le:=λa b=>Ce (kf a) (kf b)<0) (λa b _ _ h1 h2=>by rw[Lh] at h2;omega) ha hb h
theorem Abo {l:List α} (h:Ib kf l):l.Nodup:=h.imp λh e=>h (by rw[e])
theorem Aw3 {a b:List α} (ha:Gh kf a) (hb:Gh kf b) (h:∀ x,x∈a↔x∈b):a=b :=
 Agm ha hb ((k8 (Abo ha.dist) (Abo hb.dist)).2 h)
theorem Ap3 {l:List α} {x:α}:x∈Ajw kf l↔x∈l:=(Jo l).mem_iff
theorem Arq {a b:List α} (h:a.Perm b) (hd:Ib kf a):Ajw kf a=Ajw kf b:=Agm (Tg hd) (Tg ((Ib.perm h).1 hd)) (((Jo a).trans h).trans (Jo b).symm)
theorem Bgd:SWO (Go.Proofs.ltOf λa b:α=>Ce (kf a) (kf b)):=by
 refine⟨λx=>?_,λx y z h1 h2=>?_,λx y z h1 h2=>?_⟩
 ·unfold Go.Proofs.ltOf;rw[decide_eq_false_iff_not];dsimp only;rw[Jp];decide
 ·unfold Go.Proofs.ltOf at *
  dsimp only at *
  rw[decide_eq_true_eq] at *
  exact(Hd (kJ h1) (kJ h2)).2 (.inl h1)
 ·unfold Go.Proofs.ltOf at *
  dsimp only at *
  rw[decide_eq_false_iff_not] at *
  have h3:=Agf.1 (show 0<=Ce (kf x) (kf y) by omega)
  have h4:=Agf.1 (show 0<=Ce (kf y) (kf z) by omega)
  have:=Agf.2 (Hd h4 h3).1
  omega
theorem Arx {xs:List α} (hd:Ib kf xs) (zs:List α) (hp:zs.Perm xs) (hs:zs.Pairwise (λa b=>Go.Proofs.ltOf (λa b:α=>Ce (kf a) (kf b)) b a=false)):zs=Ajw kf xs:=by
 have hdz:Ib kf zs:=(Ib.perm hp).2 hd
 refine Agm ?_ (Tg hd) (hp.trans (Jo xs).symm)
 refine(List.Pairwise.and hs hdz).imp λ⟨h1,h2⟩=>?_
 unfold Go.Proofs.ltOf at h1
 rw[decide_eq_false_iff_not] at h1
 have h3:=Agf.1 (Int.not_lt.1 h1)
 rcases Int.lt_or_eq_of_le h3 with h|h
 ·exact h
 ·exact absurd (Pf h) h2
def Tj (kf:α->List UInt8) (t:List α) (x:α):List α:=x::t.filter (λy=>!(kf y==kf x))
def Ad5 (kf:α->List UInt8) (t:List α) (k:List UInt8):List α:=t.filter (λy=>!(kf y==k))
theorem Aso {t:List α} (hd:Ib kf t) {j:Nat} {k:List UInt8} (hj:(t.map kf)[j]? = some k):t.filter (λy=>!(kf y==k))=t.eraseIdx j:=by
 induction t generalizing j with
 | nil=>simp at hj
 | cons y l ih =>
  obtain⟨h1,h2⟩:=yX.1 hd
  cases j with
  | zero =>
   have hk:kf y=k:=by simpa using hj
   rw[kK,if_neg (by simp [hk]),List.eraseIdx_cons_zero,jS]
   intro z hz
   have:=h1 z hz
   rw[hk] at this
   simp [Ne.symm this]
  | succ j =>
   rw[xN,kD] at hj
   have hm:k∈l.map kf:=zD hj
   obtain⟨z,hz,hzk⟩:=yA.1 hm
   have hne:kf y≠k:=by rw[<- hzk];exact h1 z hz
   rw[kK,if_pos (by simp [hne]),ih h2 hj,List.eraseIdx_cons_succ]
theorem Afd {t:List α} {k:List UInt8} (hk:k∉t.map kf):t.filter (λy=>!(kf y==k))=t:=by
 rw[jS]
 intro y hy
 have:kf y≠k:=λe=>hk (yA.2 ⟨y,hy,e⟩)
 simp [this]
theorem Axt {t:List α} {j:Nat} (x:α) (hj:j<t.length):(t.set j x).Perm (x::t.eraseIdx j):=by
 rw[kP,if_pos hj,List.eraseIdx_eq_take_drop_succ]
 exact List.perm_middle
theorem Ajf {t t':List α} (hp:t'.Perm t) (hd:Ib kf t') {j:Nat} {x:α} (hj:(t'.map kf)[j]? = some (kf x)):(t'.set j x).Perm (Tj kf t x)/\(t'.set j x).map kf=t'.map kf/\Ib kf (t'.set j x):=by
 have hlt:j<t'.length:=by simpa using(zB.1 hj).1
 have e:(t'.set j x).map kf=t'.map kf:=by
  rw[x9]
  apply wA
  intro i
  rw[kG]
  by_cases h:j=i
  ·subst h;rw[if_pos rfl,if_pos (by simpa using hlt),hj]
  ·rw[if_neg h]
 refine⟨(Axt x hlt).trans ?_,e,?_⟩
 ·unfold Tj
  rw[<- Aso hd hj]
  exact(hp.filter _).cons x
 ·unfold Ib at *
  have:=(wH (f:=kf) (R:=(·≠·)) (l:=t')).2 hd
  rw[<- e] at this
  exact wH.1 this
theorem Aqc {t t':List α} (hp:t'.Perm t) (hd:Ib kf t') {x:α} (hx:kf x∉t'.map kf):(t'++[x]).Perm (Tj kf t x)/\Ib kf (t'++[x]):=by
 have hx':kf x∉t.map kf:=λh=>hx ((hp.map kf).mem_iff.2 h)
 refine⟨?_,?_⟩
 ·unfold Tj
  rw[Afd hx']
  exact(List.perm_append_comm.trans (List.Perm.refl _)).trans (hp.cons x)
 ·refine wU.2 ⟨hd,wS _ _,λa ha b hb=>?_⟩
  rw[z8.1 hb]
  exact λe=>hx (yA.2 ⟨a,ha,e⟩)
theorem A3e {t t':List α} (hp:t'.Perm t) (hd:Ib kf t') {j:Nat} {k:List UInt8} (hj:(t'.map kf)[j]? = some k):(t'.eraseIdx j).Perm (Ad5 kf t k)/\Ib kf (t'.eraseIdx j):=by
 refine⟨?_,hd.sublist (List.eraseIdx_sublist ..)⟩
 unfold Ad5
 rw[<- Aso hd hj]
 exact hp.filter _
theorem At0 {t t':List α} (hp:t'.Perm t) {k:List UInt8} (hk:k∉t'.map kf):t'.Perm (Ad5 kf t k):=by
 unfold Ad5
 rw[Afd λh=>hk ((hp.map kf).mem_iff.2 h)]
 exact hp
end
theorem Ay7 {α:Type} (l:List α):(List.range l.length).filterMap (l[·]?)=l:=by
 have key:∀ n,n<=l.length->(List.range n).filterMap (l[·]?)=l.take n:=λn=>by
  induction n with
  | zero=>intro _;simp
  | succ n ih =>
   intro h
   rw[List.range_succ,List.filterMap_append,ih (by omega),zO (by omega)]
   simp [zC (show n<l.length by omega)]
 rw[key _ (zT _),yM]
theorem Ard {α:Type} {l:List α} {ps:List Nat} (hn:ps.Nodup) (hl:∀ j∈ps,j<l.length) (ha:∀ j,j<l.length->j∈ps):(ps.filterMap (l[·]?)).Perm l:=by
 have hp:ps.Perm (List.range l.length):=(k8 hn List.nodup_range).2 λj=>⟨λh=>w6.2 (hl j h),λh=>ha j (w6.1 h)⟩
 have:=hp.filterMap (l[·]?)
 rwa [Ay7] at this
theorem A1x {es:Array MapEntry} (hn:(es.toList.map (·.born)).Nodup) {i j:Nat} {e e':MapEntry} (hi:es[i]? = some e') (hj:es[j]? = some e):(e'.born=e.born\/i∈([]:List Nat))↔i=j:=by
 have hi':es.toList[i]? = some e':=by rw[wC];exact hi
 have hj':es.toList[j]? = some e:=by rw[wC];exact hj
 constructor
 ·rintro(h|h)
  ·have h1:=(zB.1 hi').1
   have h2:=(zB.1 hj').1
   rcases kH i j with hlt|heq|hgt
   ·exact absurd (by rw[wX,wX,(zB.1 hi').2,(zB.1 hj').2];exact h) ((z7.1 hn) i j (by simpa using h1) (by simpa using h2) hlt)
   ·exact heq
   ·exact absurd (by rw[wX,wX,(zB.1 hi').2,(zB.1 hj').2];exact h.symm) ((z7.1 hn) j i (by simpa using h2) (by simpa using h1) hgt)
  ·simp at h
 ·rintro rfl
  rw[hi'] at hj'
  cases hj'
  exact .inl rfl
end
open Go.RowKit Go.MapKept
open Go.ChangeMaps (setBlock)
section
variable {kq:(Nat->AV)->Prop} {st:AS} {a:Act} {c:Ctx} {i:Int} {cs:List (List Lf)} {mk:List (List Value)->Obj->Prop} {m:List Blk} {ls:List Lf} {j p:Nat} {t:Nat->AV} {H:Nat->Value} {op:Op} {x y:Operand} {S:Dx} {α:Type} {tm:TypeId} {w:World}
theorem Av9 (H:Nat->Value) (p:Nat):Te H p (H p)=H:=by
 funext q
 by_cases h:q=p
 ·subst h;rw[Ba]
 ·rw[Bv _ _ h]
theorem Sf {β:Type} (f:α->β):∀ {l:List α},(l.map f).Nodup->l.Nodup
 | [],_=>kM
 | x::l,h=>by
  rw[xN,wE] at h
  exact wE.2 ⟨λhx=>h.1 (yA.2 ⟨x,hx,rfl⟩),Sf f h.2⟩
theorem Rel.retab (r:Rel c ⟨t,m⟩ a w S H) {g:Nat} {b b':Blk}
  (hm:m[p]? = some b) (hbb:b=.obj g mk cs\/b=.tab mk cs) (hbb':b'=.obj g mk cs\/b'=.tab mk cs) (hH:H p=.pointer (some ⟨g,0,none⟩)):Rel c ⟨t,m.set p b'⟩ a w S H:=by
 have hp:p<m.length:=(zB.1 hm).1
 have hob:b.own (H p)=some g:=by rcases hbb with rfl|rfl <;> rw[hH] <;> rfl
 have hlo:=r.lo p _ g hm hob
 have hbl:=r.bl p _ hm
 have hcont:∃ vs o,w.heap[g]? = some o/\Aqr o=true/\mk vs o/\Auy (Rep w S) cs vs:=by
  rcases hbb with rfl|rfl
  ·obtain⟨_,h⟩:=hbl;exact h
  ·obtain⟨g',h1,h⟩:=hbl
   rw[hH] at h1;cases h1
   exact h
 have hst:b'.stab=0:=by rcases hbb' with rfl|rfl <;> rfl
 have hst0:b.stab=0:=by rcases hbb with rfl|rfl <;> rfl
 have:=r.change (m':=m.set p b') (b':=b') (v:=H p) (w':=w) (S':=S) (by simp) (by rw[zN hp]) (λq hq=>by rw[zS (Ne.symm hq)]) (λb i hs=>⟨hs,rfl⟩) (λ_ _ _=>rfl) (λe sz k cs _ h=>by rcases hbb' with rfl|rfl <;> cases h)
  (λg' _ hg'=>rfl) (by rcases hbb' with rfl|rfl;exact⟨hH,hcont⟩;exact⟨g,hH,hcont⟩) (λg' hg'=>?_) (λq b g i _ _ _ h=>h) (λg i _ _ h=>h) r.sl.two (zT _) rfl rfl rfl (λh=>by rcases h with h|h <;> rcases hbb' with rfl|rfl <;> cases h)
 ·rw[Av9] at this
  exact this
 ·have hg2:g=g':=by
   have:b'.own (H p)=some g:=by rcases hbb' with rfl|rfl <;> rw[hH] <;> rfl
   rw[this] at hg'
   exact zF hg'
  subst hg2
  exact⟨hlo.1,hlo.2,λq b2 hq hb ho'=>hq (r.inj q p b2 _ g hb hm ho' hob),λi hi=>absurd (r.sb p _ g i hm hob hi) (by rw[hst0];exact zW _)⟩
theorem Rel.toTab (r:Rel c ⟨t,m⟩ a w S H) {g:Nat} (hm:m[p]? = some (.obj g mk cs)):Rel c ⟨t,m.set p (.tab mk cs)⟩ a w S H :=
 r.retab hm (.inl rfl) (.inr rfl) (r.bl p _ hm).1
theorem Rel.ofTab (r:Rel c ⟨t,m⟩ a w S H) (hm:m[p]? = some (.tab mk cs)):∃ g,H p=.pointer (some ⟨g,0,none⟩)/\Rel c ⟨t,m.set p (.obj g mk cs)⟩ a w S H:=by
 obtain⟨g,h1,_⟩:=r.bl p _ hm
 exact⟨g,h1,r.retab hm (.inr rfl) (.inl rfl) h1⟩
def Aua:Lf->Value
 | .i k n=>.int k n
 | .b x=>.bool x
 | .s x=>.string x
 | _=>undef
def Vp (l:List Lf):Value:=.agg (l.map Aua).toArray
theorem A2h {l:Lf} {v:Value} (h:Bf w S m H l v) (ht:l.tag<3):v=Aua l:=by
 cases l <;> simp [Lf.tag] at ht
 ·exact T4 h
 ·exact Aai h
 ·exact Aqt h
theorem Awk {vs:List Value} (h:LsR (Bf w S m H) ls vs) (ht:∀ l∈ls,l.tag<3):vs=ls.map Aua:=by
 apply wA
 intro j
 rw[zK]
 rcases zQ j ls.length with hj|hj
 ·have hv:j<vs.length:=by rw[<- h.1];exact hj
  rw[zC hj,zC hv]
  exact congrArg some (A2h (h.2 j _ _ (zC hj) (zC hv)) (ht _ (yW hj)))
 ·rw[zZ hj,zZ (by rw[<- h.1];exact hj)];rfl
theorem Ame {l:Lf} (ht:l.tag<3):Bf w S m H l (Aua l):=by
 cases l <;> simp [Lf.tag] at ht
 ·exact .i _ _
 ·exact .b _
 ·exact .s _
section
variable {P:Program} {kt:TypeId} {n:List Nat}
theorem Aaz {w:World} {em:Bool} {d:Nat} {xs:Array Value}:∀ (fs:List Field) (i:Nat) (n:List Nat),Arc P i fs n=true->(∀ k∈n,k<3)->(∀ j,j<n.length->∃ v,xs[i+j]? = some v) ->
  (forIn fs PUnit.unit (fun f (_ : PUnit) => if f.name ≠ "_" then (do
       let v <- part f.type xs f.offset
       Instr.checkKey em (d+1) f.type v
       pure (ForInStep.yield PUnit.unit):Sem (ForInStep PUnit))
      else pure (ForInStep.yield PUnit.unit))).run P w=.ok PUnit.unit w
 | [],_,_,_,_,_=>by simp
 | f::fs,i,[],h,_,_=>by cases h
 | f::fs,i,k::ks,h,ht,hx=>by
  simp only[Arc,zG,bne_iff_ne,ne_eq,beq_iff_eq] at h
  obtain⟨⟨⟨h1,h2⟩,h3⟩,h4⟩:=h
  obtain⟨v,hv⟩:=hx 0 (by simp)
  have hk:=ht k (yQ ..)
  have ht4:Ad8 (P.underlying f.type)<4:=by rw[h3];omega
  have hc:(Instr.checkKey em (d+1) f.type v).run P w=.ok () w:=by
   cases hu:P.underlying f.type with
   | none=>rw[hu] at ht4;simp [Ad8] at ht4
   | some dd =>
    rw[hu] at h3 ht4
    cases dd <;> simp [Ad8] at ht4 <;> simp [Instr.checkKey,run_underlying hu]
  have ih:=Aaz (w:=w) (em:=em) (d:=d) fs (i+1) ks h4 (λx hx=>ht x (yH _ hx)) (λj hj=>by
   obtain⟨v,hv⟩:=hx (j+1) (by simpa using hj)
   exact⟨v,by rw[show i+1+j=i+(j+1) by omega];exact hv⟩)
  rw[kR] at hv
  rw[List.forIn_cons]
  simp only[Sem.run_bind,h2,h1,ne_eq,not_false_eq_true,if_true,Agn ht4 hv,Result.andThen_ok,hc,Sem.run_pure]
  exact ih
theorem Yb {em:Bool} (et:EqT P kt n) (hn:ls.map Lf.tag=n) (ht:∀ l∈ls,l.tag<3):(Instr.checkKey em 10000 kt (Vp ls)).run P w=.ok () w:=by
 show(Instr.checkKey em (9998+1+1) kt (.agg _)).run P w=_
 rw[Instr.checkKey]
 simp only[Sem.run_bind,run_underlying et.u,Result.andThen_ok]
 rw[<- Array.forIn_toList]
 have:=Aaz (w:=w) (em:=em) (d:=9998) (xs:=(ls.map Aua).toArray) _ 0 n et.f (λk hk=>by
  rw[<- hn] at hk
  obtain⟨l,hl,rfl⟩:=yA.1 hk
  exact ht l hl) (λj hj=>by
  have hl:j<ls.length:=by rw[<- hn] at hj;simpa using hj
  exact⟨Aua ls[j],by simp [hl]⟩)
 rw[this]
 simp
structure Am4 (κ:Type) [DecidableEq κ] (P:Program) (kt:TypeId) (e:κ->List Lf) (n:List Nat):Prop where
 et:EqT P kt n
 tag:∀ k,(e k).map Lf.tag=n
 low:∀ x∈n,x<3
 eq:∀ k k',A0e (e k) (e k')=some (decide (k=k'))
variable {κ:Type} [DecidableEq κ] {e:κ->List Lf}
theorem Am4.lt (h:Am4 κ P kt e n) (k:κ):∀ l∈e k,l.tag<3:=λl hl=>h.low _ (by rw[<- h.tag k];exact yA.2 ⟨l,hl,rfl⟩)
theorem Am4.equal (h:Am4 κ P kt e n) (w:World) (k k':κ):(Op.equal kt (Vp (e k)) (Vp (e k'))).run P w=.ok (decide (k=k')) w:=by
 show(Op.equalIn (9999+1) kt (.agg _) (.agg _)).run P w=_
 rw[run_equalIn_struct w 9999 kt _ _ h.et.u h.et.h]
 refine Uh (d:=9998) (S:=λ_ _=>False) (m:=[]) (H:=λ_=>undef) _ 0 (e k) (e k') _ (by rw[h.tag];exact h.et.f) ((h.tag k).trans (h.tag k').symm) (h.eq k k') (λj l hl=>?_) (λj l hl=>?_)
 ·exact⟨Aua l,by simp [hl],Ame (h.lt k l (zD hl))⟩
 ·exact⟨Aua l,by simp [hl],Ame (h.lt k' l (zD hl))⟩
theorem Am4.inj (h:Am4 κ P kt e n) {k k':κ} (hk:Vp (e k)=Vp (e k')):k=k':=by
 have h1:=h.equal default k k'
 rw[hk,h.equal default k' k'] at h1
 have:decide (k'=k')=decide (k=k'):=by injection h1
 rw[decide_eq_true rfl] at this
 exact of_decide_eq_true this.symm
theorem Am4.asking (h:Am4 κ P kt e n) (w:World) (k:κ):∀ (es:List MapEntry) (ks:List κ) (i:Nat),es.map (·.key)=ks.map (λk=>Vp (e k)) ->
  ((Instr.findAsking kt (Vp (e k)) es i).run P w=.ok none w/\k∉ks)\/∃ j x,(Instr.findAsking kt (Vp (e k)) es i).run P w=.ok (some (i+j,x.val)) w/\es[j]? = some x/\ks[j]? = some k
 | [],[],i,_=>.inl ⟨by simp [Instr.findAsking],by simp⟩
 | [],_::_,i,h=>by cases h
 | _::_,[],i,h=>by cases h
 | x::es,k'::ks,i,hk=>by
  simp only[xN,List.cons.injEq] at hk
  obtain⟨hk1,hk2⟩:=hk
  by_cases hkk:k=k'
  ·subst hkk
   refine .inr ⟨0,x,?_,rfl,rfl⟩
   simp [Instr.findAsking,hk1,h.equal]
  ·rcases h.asking w k es ks (i+1) hk2 with⟨h1,h2⟩|⟨j,y,h1,h2,h3⟩
   ·refine .inl ⟨by simp [Instr.findAsking,hk1,h.equal,hkk,h1],?_⟩
    rw[yB];rintro(h|h);exact hkk h;exact h2 h
   ·refine .inr ⟨j+1,y,?_,by simpa using h2,by simpa using h3⟩
    simp [Instr.findAsking,hk1,h.equal,hkk,h1,jD,zAe 1 j]
theorem Am4.find (h:Am4 κ P kt e n) (w:World) (k:κ) {es:List MapEntry} {ks:List κ} (hk:es.map (·.key)=ks.map (λk=>Vp (e k))) :
  ((Instr.findKey kt (Vp (e k)) es).run P w=.ok none w/\k∉ks)\/∃ j x,(Instr.findKey kt (Vp (e k)) es).run P w=.ok (some (j,x.val)) w/\es[j]? = some x/\ks[j]? = some k:=by
 have hf:(Instr.findKey kt (Vp (e k)) es).run P w=(Instr.findAsking kt (Vp (e k)) es).run P w:=by
  cases es with
  | nil=>simp [Instr.findKey,run_underlying h.et.u,Result.andThen,Instr.findNow,Instr.findAsking]
  | cons x es =>
   have:Instr.findNow (.struct (P.fieldsOf kt)) (Vp (e k)) (x::es) 0=none:=by simp [Instr.findNow,Instr.sameNow]
   simp [Instr.findKey,run_underlying h.et.u,Result.andThen,this]
 rw[hf]
 rcases h.asking w k es ks 0 hk with h|⟨j,x,h1,h2,h3⟩
 ·exact .inl h
 ·rw[yT] at h1
  exact .inr ⟨j,x,h1,h2,h3⟩
theorem Ajv (l:Lf) (h:l.tag<3) (d:Nat):Instr.sameBits d (Aua l) (Aua l)=true:=by
 cases l <;> simp [Lf.tag] at h <;> cases d <;> simp [Aua,Instr.sameBits] <;> exact(bytes_beq _ _).2 rfl
theorem Am4.stays (h:Am4 κ P kt e n) (w:World) (k:κ):(Instr.keyThatStays (Vp (e k)) (Vp (e k))).run P w=.ok (Vp (e k)) w:=by
 have hs:Instr.sameBits 10000 (Vp (e k)) (Vp (e k))=true:=by
  show Instr.sameBits (9999+1) (.agg _) (.agg _)=true
  simp only[Instr.sameBits,beq_self_eq_true,wG,zJ]
  intro p hp
  obtain⟨i,hi,hpe⟩:=y9 hp
  rw[List.getElem_zip] at hpe
  rw[<- hpe]
  simp only[wX]
  exact Ajv _ (h.lt k _ (yW _)) 9999
 simp [Instr.keyThatStays,hs]
end
section
variable {κ:Type} [DecidableEq κ]
def Aac (M:List (κ×Int)) (k:κ) (i:Int):List (κ×Int):=if M.any (λx=>decide (x.1=k)) then M.map (λx=>if x.1=k then(x.1,i) else x) else M++[(k,i)]
def Aln (M:List (κ×Int)) (k:κ):Bool:=M.any (λx=>decide (x.1=k))
def Aq7 (M:List (κ×Int)) (k:κ):Int:=match M.find? (λx=>decide (x.1=k)) with|some x=>x.2|none=>0
def P4 (e:κ->List Lf) (M:List (κ×Int)):List Value:=(M.map (·.1)).map (λk=>Vp (e k))
def Gv (M:List (κ×Int)):List (List Lf):=M.map λx=>[.i .i64 x.2]
abbrev Ze (e:κ->List Lf) (M:List (κ×Int)):Blk:=.tab (J0 Ang (P4 e M)) (Gv M)
theorem Tu {M:List (κ×Int)} {k:κ}:Aln M k=true↔k∈M.map (·.1):=by
 unfold Aln
 rw[xF,yA]
 constructor
 ·rintro⟨x,h1,h2⟩;exact⟨x,h1,of_decide_eq_true h2⟩
 ·rintro⟨x,h1,h2⟩;exact⟨x,h1,decide_eq_true h2⟩
theorem Akz {M:List (κ×Int)} {k:κ} (h:k∉M.map (·.1)):Aac M k i=M++[(k,i)]:=by
 unfold Aac
 rw[if_neg]
 intro hh
 exact h (Tu.1 hh)
theorem Ayh {M:List (κ×Int)} {k:κ} (hd:(M.map (·.1)).Nodup) (hj:(M.map (·.1))[j]? = some k):Aac M k i=M.set j (k,i):=by
 have hj':=zB.1 hj
 obtain⟨hlt,hk⟩:=hj'
 have hlt':j<M.length:=by simpa using hlt
 rw[wX] at hk
 unfold Aac
 rw[if_pos (show(M.any λx=>decide (x.1=k))=true from Tu.2 (zD hj))]
 apply List.ext_getElem (by simp)
 intro q h1 h2
 rw[wX,List.getElem_set]
 by_cases hq:j=q
 ·subst hq;rw[if_pos rfl,if_pos hk,hk]
 ·rw[if_neg hq,if_neg]
  intro he
  have h3:q<M.length:=by simpa using h2
  have h4:q<(M.map (·.1)).length:=by simpa using h3
  rcases kH j q with h5|h5|h5
  ·exact(z7.1 hd) j q hlt h4 h5 (by rw[wX,wX,hk];exact he.symm)
  ·exact hq h5
  ·exact(z7.1 hd) q j h4 hlt h5 (by rw[wX,wX,hk];exact he)
theorem Ayi {M:List (κ×Int)} {k:κ} (hd:(M.map (·.1)).Nodup) (hj:(M.map (·.1))[j]? = some k):∃ x,M[j]? = some x/\Aq7 M k=x.2:=by
 induction M generalizing j with
 | nil=>simp at hj
 | cons y M ih =>
  rw[xN,wE] at hd
  cases j with
  | zero =>
   have:y.1=k:=by simpa using hj
   refine⟨y,rfl,?_⟩
   unfold Aq7
   rw[jE,decide_eq_true this]
  | succ j =>
   have hj':(M.map (·.1))[j]? = some k:=by simpa using hj
   obtain⟨x,h1,h2⟩:=ih hd.2 hj'
   refine⟨x,by simpa using h1,?_⟩
   have hne:y.1≠k:=λhe=>hd.1 (by rw[he];exact zD hj')
   unfold Aq7 at h2 ⊢
   rw[jE,decide_eq_false hne]
   exact h2
theorem Awo {M:List (κ×Int)} {k:κ} (h:k∉M.map (·.1)):Aq7 M k=0:=by
 unfold Aq7
 rw[kQ.2 λx hx=>by
  intro hh
  exact h (yA.2 ⟨x,hx,of_decide_eq_true hh⟩)]
end
section
variable {P:Program} {c:Ctx} {ops:Array Oper} {Q:Exit->AS->Prop} {rest:List Oper} {ty:TypeId} {pos:String} {af:Array Edge} {d:Tmp} {t:Nat->AV} {m:List Blk}
variable {κ:Type} [DecidableEq κ] {e:κ->List Lf} {n:List Nat} {kt:TypeId}
omit [DecidableEq κ] in
theorem Ax6 (e:κ->List Lf) (hd:decide (d<c.nt)=true)
  (k:AWL P c ops Q rest ⟨upd t d (.s (.one (.mp 0 m.length))),m++[Ze e []]⟩):AWL P c ops Q (⟨some d,.makeMap tm none,ty,pos,af,none⟩::rest) ⟨t,m⟩:=by
 intro a w S H r
 refine wpList_plain rfl λK hK=>?_
 unfold Oper.wp
 have hrun:(execOp a.eval ⟨some d,.makeMap tm none,ty,pos,af,none⟩).run P w=.ok (.value (.map (some w.heap.size))) (w.alloc (.map #[] 0)):=by
  simp [execOp,Instr.makeMap]
 rw[hrun]
 have r1:=r.newObj (o:=.map #[] 0) (mk:=J0 Ang (P4 e [])) (vss:=[]) (css:=[]) rfl ⟨#[],0,rfl,stamped_empty 0,rfl,rfl⟩ ⟨rfl,λj cs vs h=>by simp at h⟩
 have r2:=r1.toTab (p:=m.length) (g:=w.heap.size) (mk:=J0 Ang (P4 e [])) (cs:=[]) (by simp)
 have e2:(m++[Blk.obj w.heap.size (J0 Ang (P4 e [])) []]).set m.length (.tab (J0 Ang (P4 e [])) [])=m++[Ze e []]:=by simp [Gv]
 rw[e2] at r2
 exact hK _ _ (k _ _ _ _ (r2.put (d:=d) (x:=.s (.one (.mp 0 m.length))) (of_decide_eq_true hd) ⟨by simp,w.heap.size,Ba _ _ _,rfl⟩))
theorem Ajc (r:Rel c st a w S H) {k g:Nat} (hx:Bg st x=.s (.one (.mp k p))) (hH:H p=.pointer (some ⟨g,0,none⟩)):a.eval x=Adk k g:=by
 have h:=Ax r x
 rw[hx] at h
 obtain⟨_,g',h1,h2⟩:=h
 rw[hH] at h1;cases h1
 exact h2
theorem Apq (K:Am4 κ P kt e n) (r:Rel c st a w S H) {k:κ} (hy:Bg st y=.s (.agg (e k))):a.eval y=Vp (e k):=by
 have h:=Ax r y
 rw[hy] at h
 obtain⟨vs,h1,h2⟩:=h
 rw[h1]
 unfold Vp
 rw[<- Awk h2 (K.lt k)]
theorem A1j {et:TypeId} (K:Am4 κ P kt e n) {z:Operand} {M:List (κ×Int)} {k:κ} (hu:P.underlying tm=some (.map kt et))
  (hx:Bg ⟨t,m⟩ x=.s (.one (.mp 0 p))) (hy:Bg ⟨t,m⟩ y=.s (.agg (e k))) (hz:Bg ⟨t,m⟩ z=.s (.one (.i .i64 i))) (hm:m[p]? = some (Ze e M))
  (kk:AWL P c ops Q rest ⟨t,m.set p (Ze e (Aac M k i))⟩) :
  AWL P c ops Q (⟨none,.mapUpdate tm x y z,ty,pos,af,none⟩::rest) ⟨t,m⟩:=by
 intro a w S H r0
 have ey0:=Apq K r0 hy
 obtain⟨g,hH,r⟩:=r0.ofTab hm
 have hp:p<m.length:=(zB.1 hm).1
 have ex:=Ajc r0 hx hH
 have ez:a.eval z=.int .i64 i:=by
  have h:=Ax r0 z
  rw[hz] at h
  exact T4 h
 have hmo:(m.set p (Blk.obj g (J0 Ang (P4 e M)) (Gv M)))[p]? = some (.obj g (J0 Ang (P4 e M)) (Gv M)):=zN hp
 obtain⟨h1,vss,o,h2,h3,⟨es,clock,rfl,hst,hks,hvs⟩,h5⟩:=r.bl p _ hmo
 have hkeys:es.toList.map (·.key)=(M.map (·.1)).map (λk=>Vp (e k)):=hks
 have hlen:(Gv M).length=vss.length:=h5.1
 have hlM:M.length=vss.length:=by rw[<- hlen];simp [Gv]
 have hesM:es.size=M.length:=by
  have:=congrArg List.length hkeys
  simpa using this
 have hnd:(M.map (·.1)).Nodup:=by
  have h:=hst.2.2
  rw[hkeys] at h
  exact Sf _ h
 have fin:∀ {w':World} {H':Nat->Value} {o:Obj} {M':List (κ×Int)},Rel c ⟨t,(m.set p (Blk.obj g (J0 Ang (P4 e M)) (Gv M))).set p (.obj g (J0 Ang (P4 e M')) (Gv M'))⟩ a w' S H'->Rel c ⟨t,m.set p (Ze e M')⟩ a w' S H':=λ{w' H' o M'} r'=>by
  have r'':=r'.toTab (p:=p) (g:=g) (mk:=J0 Ang (P4 e M')) (cs:=Gv M') (by rw[jY,zN hp])
  rw[jY,jY] at r''
  exact r''
 refine wpList_plain rfl λKK hK=>?_
 unfold Oper.wp
 rcases K.find w k hkeys with⟨f1,f2⟩|⟨j,x',f1,f2,f3⟩
 ·have hrun:(execOp a.eval ⟨none,.mapUpdate tm x y z,ty,pos,af,none⟩).run P w=.ok .skip (setBlock w g (.map (es.push { key:=Vp (e k),val:=.int .i64 i,born:=clock }) (clock+1))):=by
   simp [execOp,ex,ey0,ez,Adk,Instr.mapUpdate,run_underlying hu,MapKept.run_getObj_map h2,Yb K.et (K.tag k) (K.lt k),f1,run_setObj_map _ h2,Result.andThen,setBlock]
  rw[hrun]
  have hput:=Akz (i:=i) f2
  have hne:∀ x∈es.toList,x.key≠Vp (e k):=λx hx he=>by
   have:Vp (e k)∈(M.map (·.1)).map (λk=>Vp (e k)):=by rw[<- hkeys,<- he];exact yA.2 ⟨x,hx,rfl⟩
   obtain⟨k',hk',he'⟩:=yA.1 this
   rw[K.inj he'] at hk'
   exact f2 hk'
  obtain⟨H',r',_⟩:=r.setObj (mk':=J0 Ang (P4 e (Aac M k i))) (css':=Gv (Aac M k i)) (vss:=vss++[[.int .i64 i]]) (o:=.map (es.push { key:=Vp (e k),val:=.int .i64 i,born:=clock }) (clock+1)) hmo rfl
   ⟨_,_,rfl,stamped_push hst hne,by rw[hput];simp [hkeys,P4],by simp [hvs,Ang]⟩ (by
    rw[hput]
    refine⟨by simp [Gv,hlM],λq cs vs e1 e2=>?_⟩
    rcases zQ q M.length with hq|hq
    ·refine h5.2 q cs vs ?_ (by rw[zL (by omega)] at e2;exact e2)
     have:(Gv (M++[(k,i)]))[q]? = (Gv M)[q]? := by unfold Gv;rw[xJ,zL (by simpa using hq)]
     rw[<- this];exact e1
    ·rw[zX (by omega),<- hlM] at e2
     have:(Gv (M++[(k,i)]))[q]? = ([[Lf.i .i64 i]]:List (List Lf))[q-M.length]? := by unfold Gv;rw[xJ,zX (by simpa using hq)];simp
     rw[this] at e1
     rcases jF (q-M.length) with h0|h0
     ·rw[h0] at e1 e2
      obtain rfl:=zF e1
      obtain rfl:=zF e2
      exact⟨rfl,λj l v a b=>by
       cases j with
       | zero=>obtain rfl:=zF a;obtain rfl:=zF b;exact .i _ _
       | succ j=>simp at a⟩
     ·rw[zZ (by rw[yD];omega)] at e1;cases e1)
  exact hK _ _ (kk _ _ _ _ (fin (o:=.map #[] 0) r'))
 ·have hj:j<es.size:=by
   have:=(zB.1 f2).1
   simpa using this
  have hjM:j<M.length:=by omega
  have hkj:x'.key=Vp (e k):=by
   have h6:(es.toList.map (·.key))[j]? = some x'.key:=by rw[zK,f2];rfl
   rw[hkeys,zK,f3] at h6
   exact(zF h6).symm
  have hej:es[j]? = some x':=by rw[<- wC];exact f2
  have hrun:(execOp a.eval ⟨none,.mapUpdate tm x y z,ty,pos,af,none⟩).run P w=.ok .skip (setBlock w g (.map (es.modify j λE=>{ E with key:=Vp (e k),val:=.int .i64 i }) clock)):=by
   simp [execOp,ex,ey0,ez,Adk,Instr.mapUpdate,run_underlying hu,MapKept.run_getObj_map h2,Yb K.et (K.tag k) (K.lt k),f1,run_setObj_map _ h2,Result.andThen,setBlock,hej,hkj,K.stays]
  rw[hrun]
  have hput:=Ayh (i:=i) hnd f3
  have hmk:(es.modify j λE=>{ E with key:=Vp (e k),val:=.int .i64 i }).toList.map (·.key)=P4 e (M.set j (k,i)):=by
   rw[jR,Tp (λE:MapEntry=>{ E with key:=Vp (e k),val:=.int .i64 i }) (λE:MapEntry=>E.key) (λ_=>Vp (e k)) (λ_=>rfl),Pd,hkeys]
   unfold P4
   rw[x9,x9]
  have hmv:(es.modify j λE=>{ E with key:=Vp (e k),val:=.int .i64 i }).toList.map (·.val)=(vss.set j [.int .i64 i]).map Ang:=by
   rw[jR,Tp (λE:MapEntry=>{ E with key:=Vp (e k),val:=.int .i64 i }) (λE:MapEntry=>E.val) (λ_=>Value.int .i64 i) (λ_=>rfl),Pd,hvs,x9]
   rfl
  obtain⟨H',r',_⟩:=r.setObj (mk':=J0 Ang (P4 e (Aac M k i))) (css':=Gv (Aac M k i)) (vss:=vss.set j [.int .i64 i]) (o:=.map (es.modify j λE=>{ E with key:=Vp (e k),val:=.int .i64 i }) clock) hmo rfl
   ⟨_,_,rfl,stamped_modify hst j _ (λ_ _=>rfl) (λe' _ he'=>by rw[hej] at he';cases he';exact hkj.symm),by rw[hput];exact hmk,hmv⟩ (by
    rw[hput]
    refine⟨by simp [Gv,hlM],λq cs vs e1 e2=>?_⟩
    have e1':((Gv M).set j [.i .i64 i])[q]? = some cs:=by rw[<- e1];unfold Gv;rw[x9]
    rw[kG] at e1' e2
    by_cases hq:j=q
    ·subst hq
     rw[if_pos rfl,if_pos (by omega)] at e1' e2
     obtain rfl:=zF e1'
     obtain rfl:=zF e2
     exact⟨rfl,λj l v a b=>by
       cases j with
       | zero=>obtain rfl:=zF a;obtain rfl:=zF b;exact .i _ _
       | succ j=>simp at a⟩
    ·rw[if_neg hq] at e1' e2
     exact h5.2 q cs vs e1' e2)
  exact hK _ _ (kk _ _ _ _ (fin (o:=.map #[] 0) r'))
omit [DecidableEq κ] in
theorem Art {et:TypeId} {M:List (κ×Int)} (hu:P.underlying tm=some (.map kt et)) (hx:Bg ⟨t,m⟩ x=.s (.one (.mp 0 p))) (hm:m[p]? = some (Ze e M)) :
  OpV P c ⟨t,m⟩ (.call { callee:=.builtin .len,args:=#[x],argTypes:=#[tm] }) ty (.s (.one (.i .i64 (M.length:Int)))):=by
 intro a w S H r
 obtain⟨g,hH,vss,o,h2,h3,⟨es,clock,rfl,hst,hks,hvs⟩,h5⟩:=r.bl p _ hm
 have ex:=Ajc r hx hH
 have hesM:es.size=M.length:=by
  have:=congrArg List.length hks
  simpa [P4] using this
 refine⟨.int .i64 M.length,D4 (.i _ _),λ_ _ _ _=>?_⟩
 simp [execOp,resolve,invoke,builtin,Builtin.len_,run_underlying hu,ex,Adk,MapKept.run_getObj_map h2,Result.andThen,goInt,hesM]
theorem Ar2 {et:TypeId} (K:Am4 κ P kt e n) {M:List (κ×Int)} {k:κ} (hu:P.underlying tm=some (.map kt et)) (zi:(P.info? et).bind (·.zero)=some (.int .i64 0)) (hx:Bg ⟨t,m⟩ x=.s (.one (.mp 0 p))) (hy:Bg ⟨t,m⟩ y=.s (.agg (e k))) (hm:m[p]? = some (Ze e M)) :
  OpV P c ⟨t,m⟩ (.lookup tm x y true) ty (.tup [.one (.i .i64 (Aq7 M k)),.one (.b (Aln M k))]):=by
 intro a w S H r
 have ey0:=Apq K r hy
 obtain⟨g,hH,vss,o,h2,h3,⟨es,clock,rfl,hst,hks,hvs⟩,h5⟩:=r.bl p _ hm
 have ex:=Ajc r hx hH
 have hkeys:es.toList.map (·.key)=(M.map (·.1)).map (λk=>Vp (e k)):=hks
 have hnd:(M.map (·.1)).Nodup:=by
  have h:=hst.2.2
  rw[hkeys] at h
  exact Sf _ h
 have tup:∀ (n:Int) (b:Bool),AVR (Bf w S m H) (.tup [.one (.i .i64 n),.one (.b b)]) (.tuple #[.int .i64 n,.bool b]):=λn b=>⟨_,rfl,rfl,λi x u h1 h2=>by
  match i with
  | 0=>obtain rfl:=zF h1;obtain rfl:=zF h2;exact Bf.of_rep (m:=m) (H:=H) (.i _ _)
  | 1=>obtain rfl:=zF h1;obtain rfl:=zF h2;exact Bf.of_rep (m:=m) (H:=H) (.b _)
  | i+2=>simp at h1⟩
 rcases K.find w k hkeys with⟨f1,f2⟩|⟨j,x',f1,f2,f3⟩
 ·have e1:Aln M k=false:=by
   cases hh:Aln M k with
   | false=>rfl
   | true=>exact absurd (Tu.1 hh) f2
  rw[e1,Awo f2]
  have hz:(zeroValue et).run P w=.ok (.int .i64 0) w:=by
   cases hi:P.info? et with
   | none=>rw[hi] at zi;cases zi
   | some inf =>
    rw[hi] at zi
    have hz0:inf.zero=some (.int .i64 0):=zi
    simp [zeroValue,typeInfo,hi,hz0,Result.andThen]
  refine⟨_,tup 0 false,λ_ _ _ _=>?_⟩
  simp [execOp,ex,ey0,Adk,Instr.lookup,run_underlying hu,MapKept.run_getObj_map h2,Yb K.et (K.tag k) (K.lt k),f1,Result.andThen,hz]
 ·obtain⟨y',h6,h7⟩:=Ayi hnd f3
  have e1:Aln M k=true:=Tu.2 (zD f3)
  rw[e1,h7]
  have hv:x'.val=.int .i64 y'.2:=by
   have h8:(es.toList.map (·.val))[j]? = some x'.val:=by rw[zK,f2];rfl
   rw[hvs,zK] at h8
   cases hvj:vss[j]? with
   | none=>rw[hvj] at h8;cases h8
   | some vs =>
    rw[hvj] at h8
    have h9:=h5.2 j [.i .i64 y'.2] vs (by unfold Gv;rw[zK,h6];rfl) hvj
    have h10:Ang vs=x'.val:=zF h8
    rw[<- h10]
    match vs,h9 with
    | [v],h9=>exact T4 (Bf.of_rep (m:=m) (H:=H) (h9.2 0 _ v rfl rfl))
    | [],h9=>have:=h9.1;cases this
    | _::_::_,h9=>have:=h9.1;simp at this
  refine⟨_,tup y'.2 true,λ_ _ _ _=>?_⟩
  simp [execOp,ex,ey0,Adk,Instr.lookup,run_underlying hu,MapKept.run_getObj_map h2,Yb K.et (K.tag k) (K.lt k),f1,Result.andThen,hv]
theorem Rel.fillTab {w':World} {S':Dx} {H':Nat->Value} (r:Rel c ⟨t,m⟩ a w S H) (hm:m[p]? = some .hole)
  (hx:Ext w S w' S') (hin:InH w' S') (mem:Mem w' S' [.tab mk cs] H') (hown:∀ g,Cz (H' 0)=some g->w.heap.size<=g) :
  Rel c ⟨t,m.set p (.tab mk cs)⟩ a w' S' (Te H p (H' 0)):=by
 have hp:p<m.length:=(zB.1 hm).1
 have hH:H p=undef:=r.bl p _ hm
 refine r.changeM (p:=p) (b':=.tab mk cs) (v:=H' 0) (by simp) (zN hp) (λq hq=>zS (λe=>hq e.symm)) (hx.keeps r.sl) (λg _ h=>(Aep (hH.symm.trans h)).elim)
  (λe sz k cs _ h he=>by cases he) (λg hg _=>hx.blk g hg) (mem.bl 0 _ rfl) (λg hg=>?_)
  (λq b g i _ hb ho hs=>hx.back g i (r.lo q b g hb ho).2 hs) (λg i hg _ hs=>hx.back g i (zY hg r.ex.size) hs) hin hx.size hx.os hx.tape hx.output
 have hge:=hown g hg
 refine⟨.inl (yU r.ex.size hge),mem.hp 0 _ g rfl hg,λq b _ hb ho=>?_,λi hs=>mem.sb 0 _ g i rfl hg hs⟩
 have:=(r.lo q b g hb ho).2
 omega
theorem Alv {M:List Blk} {callee:Operand} {f:FuncId} {args:Array Operand} {ats:Array TypeId} {xs:List SV} {kd:Nat} (p:Nat) (hd:decide (d<c.nt)=true) (hf:FnI P f) (hcal:Cal ⟨t,M⟩ callee f [] []) (ho:Xy ⟨t,M⟩ args.toList xs)
  (hc:Dk P f [] xs (λy m'=>y=.s (.one (.mp kd 0))/\m'=[.tab mk cs])) (hpub:xs.all (λx=>x.inbB 0)=true) (hm:M[p]? = some .hole) (hp0:Nat.ble c.m0.length p=true)
  (k:AWL P c ops Q rest ⟨upd t d (.s (.one (.mp kd p))),M.set p (.tab mk cs)⟩):AWL P c ops Q (⟨some d,.call { callee:=.value callee,args:=args,argTypes:=ats },ty,pos,af,none⟩::rest) ⟨t,M⟩:=by
 intro a w S H r
 obtain⟨vs,hvs,hrun⟩:=Afh (pos:=pos) (af:=af) (ty:=ty) (ats:=ats) r hf hcal ho (some d)
 refine wpList_plain rfl λK hK=>?_
 unfold Oper.wp
 rw[hrun]
 have hvs':Abx (Bf w S [] H) xs vs.toList:=by
  have tie:Tie [] M H H (λj=>j):=⟨λp h=>absurd h (zW _),λ_ _=>rfl,λp b h=>by cases h⟩
  have e:xs.map (SV.ren (λj=>j))=xs:=by
   have hl:∀ l:Lf,l.ren0 (λj=>j)=l:=λl=>by cases l <;> rfl
   have hl2:∀ l:Lf,l.ren (λj=>j)=l:=λl=>by
    cases l with
    | fn f a b =>
     show Lf.fn f (a.map _) (b.map _)=_
     rw[show(Lf.ren0 λj=>j)=id from funext hl,wR,wR]
    | _=>rfl
   have hs:∀ x:SV,x.ren (λj=>j)=x:=λx=>by
    cases x with
    | one l=>show SV.one _=_;rw[hl2]
    | agg ls=>show SV.agg _=_;rw[show(Lf.ren λj=>j)=id from funext hl2,wR]
   rw[show(SV.ren λj=>j)=id from funext hs,wR]
  exact tie.svsDown hpub (by rw[e];simpa using hvs)
 refine(hc w S H vs r.sl ⟨λp b h=>by simp at h,λp b g h=>by simp at h,λp q b b' g h=>by simp at h,λp b g i h=>by simp at h⟩ hvs').mono ?_
 rintro e' w' ⟨v,y,m',S',H',rfl,⟨rfl,rfl⟩,ext,hin,mem',hown',_,hav⟩
 have hx:Ext w S w' S':=ext.toExt (λb ⟨q,bb,h,_⟩=>by simp at h)
 have r':=r.fillTab hm hx hin mem' (λg hg=>by
  rcases hown' 0 _ g rfl hg with h|⟨q,bb,h,_⟩
  ·exact h
  ·simp at h)
 have hp:p<M.length:=(zB.1 hm).1
 obtain⟨_,g,hg,hv⟩:=(show Dy w' S' [.tab mk cs] H' (.mp kd 0) v from hav)
 refine hK _ _ (k _ _ _ _ (r'.put (of_decide_eq_true hd) ?_))
 exact⟨by simpa using hp,g,by rw[Ba];exact hg,hv⟩
theorem Bfo (a b:List UInt8):((⟨a.toArray⟩:ByteArray).toList==(⟨b.toArray⟩:ByteArray).toList)=decide (a=b):=by
 have h:∀ l:List UInt8,(⟨l.toArray⟩:ByteArray).toList=l:=λl=>by rw[ByteArray.toList_eq]
 rw[h,h]
 by_cases e:a=b
 ·subst e;simp
 ·simp [e]
theorem Ajk {e sz:Nat} {cs:List Lf} {n:Nat} (p:Nat) (hsz:0<sz) (hd:d<c.nt) (hm:m[p]? = some .hole) (hp0:c.m0.length<=p) (hn:n*sz=cs.length)
  (h:Ahc P c ⟨t,m⟩ op ty e sz n cs)
  (k:AWL P c ops Q rest ⟨upd t d (.s (.one (.ls p n))),m.set p (.arr e sz 0 cs)⟩):AWL P c ops Q (⟨some d,op,ty,pos,af,none⟩::rest) ⟨t,m⟩:=by
 intro a w S H r
 obtain⟨v,w',vals,hrun,hext,hin,hown,hls⟩:=h a w S H r
 refine wpList_plain rfl λK hK=>?_
 unfold Oper.wp
 rw[hrun]
 have hv1:=Qy hown
 have hge:∀ g,Cz v=some g->w.heap.size<=g/\g<w'.heap.size:=λg hg=>by
  rcases hown.2 with⟨hv,_⟩|⟨g',cap,cur,hv,hb,hh,_⟩
  ·rw[hv] at hg;cases hg
  ·rw[hv] at hg;cases hg;exact⟨hb,(yC.1 hh).1⟩
 have mem:Mem w' S [.arr e sz 0 cs] (λ_=>v):=by
  refine⟨λq b hb=>?_,λq b g hb ho=>?_,λq q' b b' g hb hb' _ _=>?_,λq b g i hb ho hs=>?_⟩
  ·match q with
   | 0=>obtain rfl:=zF hb;exact⟨hsz,zU _,n,vals,Adi (zU _) hown,hls,λg _ i hi=>absurd hi (zW _)⟩
   | q+1=>simp at hb
  ·match q with
   | 0=>obtain rfl:=zF hb;exact(hge g ho).2
   | q+1=>simp at hb
  ·match q,q' with
   | 0,0=>rfl
   | 0,q+1=>simp at hb'
   | q+1,_=>simp at hb
  ·match q with
   | 0=>obtain rfl:=zF hb;have:=(hge g ho).1;have:=r.sl.1 g i hs;omega
   | q+1=>simp at hb
 have r':=r.fillRow hm hp0 hext hin mem (λg hg=>(hge g hg).1)
 have hp:p<m.length:=(zB.1 hm).1
 refine hK _ _ (k _ _ _ _ (r'.put (d:=d) (x:=.s (.one (.ls p n))) hd ?_))
 refine⟨by simpa using hp,⟨hv1.1,by rw[Ba];exact hv1.2⟩,λe2 sz2 k2 cs2 h2=>?_⟩
 rw[zN hp] at h2
 cases h2
 exact⟨kF hn,λ_=>by rw[Ba]⟩
theorem Aqx {t' e sz bytes:Nat} {zl:List Lf} (p:Nat) (hd:decide (d<c.nt)=true) (si:P.underlying t'=some (.slice e)) (ei:EI P e sz bytes zl) (hm:m[p]? = some .hole) (hp0:Nat.ble c.m0.length p=true)
  (k:AWL P c ops Q rest ⟨upd t d (.s (.one (.ls p 0))),m.set p (.arr e sz 0 [])⟩):AWL P c ops Q (⟨some d,.buildSlice t' 0 #[],ty,pos,af,none⟩::rest) ⟨t,m⟩ :=
 Ajk p ei.p (of_decide_eq_true hd) hm (yN hp0) (wZ _) (Pb si ei Li (by rw[wZ];exact .nil _) (λl h=>by cases h) (by omega)) k
theorem Bdw [BEq α] [LawfulBEq α] [DecidableEq α] (a b:α):(a==b)=decide (a=b):=by
 by_cases h:a=b
 ·subst h;simp
 ·simp [h]
theorem Ajt {Q:List Blk->Prop}:∀ M∈([]:List (List Blk)),Q M:=λ_ h=>by cases h
theorem all_cons {Q:List Blk->Prop} {M:List Blk} {l:List (List Blk)} (h:Q M) (h':∀ x∈l,Q x):∀ x∈M::l,Q x:=λx hx=>by
 rcases yB.1 hx with rfl|hx
 ·exact h
 ·exact h' x hx
theorem evA {ws es:List Nat} {all:List (List Blk)} {Ms:List (List Blk)} {x:AV} {i:Nat} (hi:es.contains i=false) (hd:decide (d<c.nt)=true) (h:∀ M∈all,OpV P c ⟨Ob t (Oper.looksAt ops ⟨some d,op,ty,pos,af,none⟩),M⟩ op ty x) (kk:DE P c ops ws es all kq (i+1) Ms rest (upd t d x)):DE P c ops ws es all kq i Ms (⟨some d,op,ty,pos,af,none⟩::rest) t :=
 .inl ⟨hi,x,d,rfl,of_decide_eq_true hd,.inr λM hM=>.inl ⟨.inl rfl,(h M hM).opD⟩,kk⟩
end
end
open Go.RowKit Go.Shelf Go.Sort
section
variable {xs:List Int} {e:Nat} {H:Nat->Value} {P:Program} {ρ:Ren} {S:Dx} {w:World}
def Z2:Int->Value:=Value.int .i64
theorem Ass (xs:List Int):xs.flatMap eI=xs.map λn=>.i .i64 n:=by
 induction xs with
 | nil=>rfl
 | cons x xs ih=>rw[yY,xN,ih];rfl
theorem A3t {vals:List Value} (h:LsR (Rep w S) (xs.flatMap eI) vals):vals=xs.map Z2:=by
 rw[Ass] at h
 apply wA
 intro j
 rw[zK]
 rcases zQ j xs.length with hj|hj
 ·have hv:j<vals.length:=by rw[<- h.1];simpa using hj
  rw[zC hj,zC hv]
  exact congrArg some (T4 (Bf.of_rep (m:=[]) (H:=λ_=>undef) (h.2 j (.i .i64 xs[j]) vals[j] (by rw[zK,zC hj];rfl) (zC hv))))
 ·rw[zZ hj,zZ (by rw[<- h.1];simpa using hj)];rfl
theorem Api (xs:List Int):LsR (Rep w S) (xs.flatMap eI) (xs.map Z2):=by
 rw[Ass]
 refine⟨by simp,λj l v h1 h2=>?_⟩
 rw[zK] at h1 h2
 cases hx:xs[j]? with
 | none=>rw[hx] at h1;cases h1
 | some x=>rw[hx] at h1 h2;cases h1;cases h2;exact .i _ _
section
variable {w:World} {b n:Nat} {d:Array Int} {os:Array Obj} {cur:Array Value} {e:TypeId}
theorem As4 (hb:w.heap[b]? = some (.cells cur e (0,0))) (hd:d.size<=cur.size):(grow (putRow Z2 (Sort.ahead w n) b 0 d) os).heap[b]? = some (.cells (d.toList.map Z2++cur.toList.drop d.size).toArray e (0,0)):=by
 have hlt:=(yC.1 hb).1
 have h1:(grow (putRow Z2 (Sort.ahead w n) b 0 d) os).heap[b]? = (putRow Z2 (Sort.ahead w n) b 0 d).heap[b]? := by
  show((putRow Z2 (Sort.ahead w n) b 0 d).heap++os)[b]? = _
  rw[k7 (by simp [putRow,Sort.ahead,mapBlock];exact hlt)]
 rw[h1]
 show((Sort.ahead w n).heap.modify b _)[b]? = _
 rw[w7,if_pos rfl]
 show(w.heap[b]?).map _=_
 rw[hb]
 show some (Obj.cells (putCells Z2 0 d cur) e (0,0))=_
 congr 2
 apply Array.ext_getElem?
 intro i
 rw[putCells,Array.getElem?_mapIdx]
 simp only[zU,true_and,yT,Nat.sub_zero]
 have hto:(d.toList.map Z2++cur.toList.drop d.size).toArray[i]? = (d.toList.map Z2++cur.toList.drop d.size)[i]? := List.getElem?_toArray ..
 rw[hto]
 rcases zQ i d.size with hi|hi
 ·rw[zL (by simpa using hi),z9 (show i<cur.size by omega),zK,wC,z9 hi,xM,if_pos hi,getElem!_pos d i hi]
  rfl
 ·rw[zX (by simpa using hi),yP,wC,zP,yL,show d.size+(i-d.size)=i by omega]
  cases cur[i]? with
  | none=>rfl
  | some v=>rw[xM,if_neg (by omega)]
theorem X8 {i:Nat} (hi:i<w.heap.size) (hne:i≠b):(grow (putRow Z2 (Sort.ahead w n) b 0 d) os).heap[i]? = w.heap[i]? := by
 have h1:(grow (putRow Z2 (Sort.ahead w n) b 0 d) os).heap[i]? = (putRow Z2 (Sort.ahead w n) b 0 d).heap[i]? := by
  show((putRow Z2 (Sort.ahead w n) b 0 d).heap++os)[i]? = _
  rw[k7 (by simp [putRow,Sort.ahead,mapBlock];exact hi)]
 rw[h1]
 show((Sort.ahead w n).heap.modify b _)[i]? = _
 rw[w7,if_neg (λh=>hne h.symm)]
 rfl
theorem Ac2:w.heap.size<=(grow (putRow Z2 (Sort.ahead w n) b 0 d) os).heap.size:=by
 show _<=((putRow Z2 (Sort.ahead w n) b 0 d).heap++os).size
 rw[wQ]
 simp [putRow,Sort.ahead,mapBlock]
end
structure Ba9 (P:Program) (e:TypeId) (w:World) (S:Dx) (H:Nat->Value) (xs:List Int) (blk cap:Nat) (cur:Array Value):Prop where
 h:H 0=.slice (some ⟨blk,0,none⟩) xs.length cap
 heap:w.heap[blk]? = some (.cells cur e (0,0))
 fits:xs.length<=cap
 most:cap<=maxLen
 cs:cur.size=cap*1
 vals:cur.toList.take xs.length=xs.map Z2
 lt:blk<w.heap.size
 noS:∀ i,¬ S blk i
theorem Ba9.holds {e:TypeId} {blk cap:Nat} {cur:Array Value} (h:Ba9 P e w S H xs blk cap cur):Holds (Value.int .i64) w blk 0 xs.toArray:=λj hj=>by
 rw[yI] at hj
 have hcur:cur.toList[j]? = some (.int .i64 xs[j]):=by
  have:(cur.toList.take xs.length)[j]? = some (Z2 xs[j]):=by rw[h.vals,zK,zC hj];rfl
  rw[yR,if_pos hj] at this
  exact this
 refine⟨?_,?_⟩
 ·rw[yT,cell_of_row w _ _ cur e (0,0) h.heap,getElem!_pos _ _ (by simpa using hj)]
  simpa using hcur
 ·rw[yT]
  unfold World.frozen?
  rw[h.heap]
  simp
theorem Avo {e:TypeId} (mem:Mem w S [.arr e 1 0 (xs.flatMap eI)] H):(H 0=.slice none 0 0/\xs=[])\/∃ blk cap cur,Ba9 P e w S H xs blk cap cur:=by
 have hf:∀ x:Int,(eI x).length=1:=λ_=>rfl
 obtain⟨_,_,n',vals,hown,hls,_⟩:=mem.bl 0 _ rfl
 have hn':n'=xs.length:=O2 hown (by decide) (by rw[<- hls.1,A4 hf])
 subst hn'
 have hv:=A3t hls
 rcases hown.2 with⟨hH,h0⟩|⟨blk,cap,cur,hH,_,hheap,hcap,hmax,hcs,hvals⟩
 ·exact .inl ⟨hH,yE h0⟩
 ·refine .inr ⟨blk,cap,cur,hH,hheap,hcap,hmax,hcs,?_,(yC.1 hheap).1,λi hi=>absurd (mem.sb 0 _ blk i rfl (by show Cz (H 0)=_;rw[hH];rfl) hi) (zW _)⟩
  rw[jH] at hvals
  rw[hvals,hv]
theorem A1n (L:Go.Proofs.SlLaysM.n5 P ρ) (hn:xs.length<=1000000000000000000) :
  Dk P (ρ.f 5) [.arr e 1 0 (xs.flatMap eI)] [.one (.ls 0 xs.length)] (λy m'=>y=.tup []/\m'=[.arr e 1 0 ((xs.mergeSort λx y=>decide (x<=y)).flatMap eI)]):=by
 have hf:∀ x:Int,(eI x).length=1:=λ_=>rfl
 intro w S H vs hin mem hvs
 obtain⟨hvl,hvr⟩:=hvs
 obtain⟨v0,rfl⟩:∃ v0,vs = #[v0]:=by
  obtain⟨l⟩:=vs
  match l,hvl with
  | [a],_=>exact⟨a,rfl⟩
 obtain⟨_,_,hv0⟩:=(show Dy w S [.arr e 1 0 (xs.flatMap eI)] H (.ls 0 xs.length) v0 from hvr 0 _ v0 rfl rfl)
 have hv0':=(hv0 e 1 0 _ rfl).2 (A4 hf xs).symm
 rcases Avo (P:=P) mem with⟨hH,rfl⟩|⟨blk,cap,cur,R⟩
 ·rw[hv0',hH]
  refine(Go.Proofs.AnyM.slices_Sort_int_none L none 0 w).mono ?_
  rintro e' w' ⟨rfl,rfl⟩
  have hy:([]:List Int).mergeSort (λx y=>decide (x<=y))=[]:=by simp
  rw[hy]
  exact⟨_,.tup [],_,S,H,rfl,⟨rfl,rfl⟩,Aam.refl _ _ _,hin,mem,λp b g hb ho=>.inr ⟨p,b,hb,ho⟩,⟨zT _,λ_ _ _ _=>rfl,λp e' sz' k cs _ hm=>⟨k,cs,hm,.inl ⟨rfl,rfl⟩⟩,λ_ _ h=>h⟩,Hn⟩
 have hH:=R.h
 have hcon:=Go.Proofs.AnyM.slices_Sort_int L blk 0 cap xs w R.holds R.lt (by omega)
 rw[hv0',hH]
 refine hcon.mono ?_
 rintro e' w' ⟨rfl,n2,os,rfl⟩
 generalize hys:xs.mergeSort (λx y=>decide (x<=y))=ys
 have hyl:ys.length=xs.length:=by rw[<- hys,jL]
 have hsame:(grow (putRow Z2 (Sort.ahead w n2) blk 0 ys.toArray) os).heap[blk]? = _:=As4 (n:=n2) (os:=os) (d:=ys.toArray) R.heap (by rw[yI,hyl,R.cs];have:=R.fits;omega)
 have hkeep:∀ b i,S b i->S b i/\(grow (putRow Z2 (Sort.ahead w n2) blk 0 ys.toArray) os).cell? ⟨b,i,none⟩=w.cell? ⟨b,i,none⟩:=λb i hs =>
  ⟨hs,World.cell?_of_block (w:=w) (X8 (hin.1 b i hs) λe=>R.noS i (e ▸ hs))⟩
 have hin2:InH (grow (putRow Z2 (Sort.ahead w n2) blk 0 ys.toArray) os) S:=hin.turn (·=blk) (λg i e hs=>absurd (e ▸ hs) (R.noS i)) (λq hq hne=>X8 hq hne) Ac2 λb i hs=>(hkeep b i hs).2
 have hownX:Aj9 [.arr e 1 0 (xs.flatMap eI)] H blk:=⟨0,_,rfl,by show Cz (H 0)=_;rw[hH];rfl⟩
 refine⟨_,.tup [],[.arr e 1 0 (ys.flatMap eI)],S,H,rfl,⟨rfl,rfl⟩,⟨rfl,rfl,rfl,Ac2,λb hb hx=>X8 hb λe=>hx (e ▸ hownX),λb i hs=>hs,λb i hs=>(hkeep b i hs).2,λb i _ _ hs=>hs⟩,hin2,⟨λp b hb=>?_,λp b g' hb ho=>?_,λp q b b' g' hb hb' _ _=>?_,λp b g' i hb ho hs=>?_⟩,λp b g' hb ho=>?_,⟨zT _,λ_ _ _ _=>rfl,λp e' sz' k' cs' hp hm=>?_,λ_ _ h=>h⟩,Hn⟩
 ·match p with
  | 0 =>
   obtain rfl:=zF hb
   refine⟨by decide,zU _,xs.length,ys.map Z2,⟨by rw[zP,hyl];omega,.inr ⟨blk,cap,_,hH,zU _,hsame,R.fits,R.most,?_,?_⟩⟩,Api ys,λg' _ i hi=>absurd hi (zW _)⟩
   ·rw[yI,zI,zP,yF,yL,yL,yI,hyl,R.cs]
    have:=R.fits
    omega
   ·rw[xY,jH,xG (by rw[zP];simp [hyl]),<- hyl]
    have:ys.toArray.toList.map Z2=ys.map Z2:=by simp
    rw[this,<- zP (f:=Z2),yM]
  | p+1=>simp at hb
 ·match p with
  | 0 =>
   obtain rfl:=zF hb
   have hg':Cz (H 0)=some g':=ho
   rw[hH] at hg'
   obtain rfl:blk=g':=by simpa [Cz] using hg'
   exact zY R.lt Ac2
  | p+1=>simp at hb
 ·match p,q with
  | 0,0=>rfl
  | 0,q+1=>simp at hb'
  | p+1,_=>simp at hb
 ·match p with
  | 0 =>
   obtain rfl:=zF hb
   have hg':Cz (H 0)=some g':=ho
   rw[hH] at hg'
   obtain rfl:blk=g':=by simpa [Cz] using hg'
   exact absurd hs (R.noS i)
  | p+1=>simp at hb
 ·match p with
  | 0 =>
   obtain rfl:=zF hb
   exact .inr ⟨0,_,rfl,ho⟩
  | p+1=>simp at hb
 ·match p with
  | 0 =>
   obtain⟨rfl,rfl,rfl,rfl⟩:e=e'/\1=sz'/\0=k'/\ys.flatMap eI=cs':=by simpa using hm
   exact⟨0,_,rfl,.inl ⟨by rw[A4 hf,A4 hf,hyl],rfl⟩⟩
  | p+1=>simp at hp
def Aqp (xs:List Int):List Int:=Go.Lib.compactUpTo xs.toArray xs.toArray.size
theorem Bcm {w':World} {S':Dx} {zs:List Int} {v:Value} (hx:Aam (Aj9 [.arr e 1 0 (xs.flatMap eI)] H) w S w' S') (hin:InH w' S') (hown:w'.ownsRow 0 e 1 v zs.length (zs.map Z2))
  (hv:∀ g,Cz v=some g->g<w'.heap.size/\(w.heap.size<=g\/Aj9 [.arr e 1 0 (xs.flatMap eI)] H g)/\∀ i,¬ S' g i) :
  ∃ v' x m' S'' H',Ending.returned v=.returned v'/\(x=.s (.one (.ls 1 zs.length))/\m'=[.dead,.arr e 1 0 (zs.flatMap eI)])/\Aam (Aj9 [.arr e 1 0 (xs.flatMap eI)] H) w S w' S''/\InH w' S''/\Mem w' S'' m' H' /\
   (∀ (p:Nat) (b:Blk) (g:Nat),m'[p]? = some b->b.own (H' p)=some g->w.heap.size<=g\/Aj9 [.arr e 1 0 (xs.flatMap eI)] H g)/\A8n [.arr e 1 0 (xs.flatMap eI)] H m' H'/\AVR (Bf w' S'' m' H') x v':=by
 have hf:∀ x:Int,(eI x).length=1:=λ_=>rfl
 have h01:Te H 1 v 0=H 0:=Bv _ _ (by decide)
 obtain⟨ho1,ho2⟩:=Qy hown
 refine⟨v,_,_,S',Te H 1 v,rfl,⟨rfl,rfl⟩,hx,hin,⟨λp b hb=>?_,λp b g' hb ho=>?_,λp q b b' g' hb hb' ho ho'=>?_,λp b g' i hb ho hs=>?_⟩,λp b g' hb ho=>?_,⟨by simp,λp g hp hh=>?_,λp e' sz' k' cs' hp hm=>?_,λp hp h=>?_⟩,?_⟩
 ·match p with
  | 0=>obtain rfl:=zF hb;trivial
  | 1 =>
   obtain rfl:=zF hb
   rw[Ba]
   exact⟨by decide,zU _,_,_,hown,Api zs,λg' _ i hi=>absurd hi (zW _)⟩
  | p+2=>simp at hb
 ·match p with
  | 0=>obtain rfl:=zF hb;cases ho
  | 1=>obtain rfl:=zF hb;rw[Ba] at ho;exact(hv g' ho).1
  | p+2=>simp at hb
 ·match p,q with
  | 0,_=>obtain rfl:=zF hb;cases ho
  | _,0=>obtain rfl:=zF hb';cases ho'
  | 1,1=>rfl
  | p+2,_=>simp at hb
  | _,q+2=>simp at hb'
 ·match p with
  | 0=>obtain rfl:=zF hb;cases ho
  | 1=>obtain rfl:=zF hb;rw[Ba] at ho;exact absurd hs ((hv g' ho).2.2 i)
  | p+2=>simp at hb
 ·match p with
  | 0=>obtain rfl:=zF hb;cases ho
  | 1=>obtain rfl:=zF hb;rw[Ba] at ho;exact(hv g' ho).2.1
  | p+2=>simp at hb
 ·match p with
  | 0=>exact h01
  | p+1=>simp at hp
 ·match p with
  | 0=>cases hm
  | p+1=>simp at hp
 ·match p with
  | 0=>rw[h01];exact h
  | p+1=>simp at hp
 ·refine⟨by simp,⟨ho1,by rw[Ba];exact ho2⟩,λe' sz k cs hm=>?_⟩
  obtain⟨rfl,rfl,rfl,rfl⟩:e=e'/\1=sz/\0=k/\zs.flatMap eI=cs:=by simpa using hm
  exact⟨by rw[A4 hf];omega,λ_=>(Ba _ _ _).symm⟩
theorem A2d (L:Go.Proofs.SlLaysE.n43 P ρ) (hn:xs.length<=1000000000000000000) (heq:Go.Proofs.EqlAt P (ρ.t 23) (Value.int .i64) (λx y=>decide (x=y))) (hne:Go.Proofs.NeqAt P (ρ.t 23) (Value.int .i64) (λx y=>decide (x=y))) (v23:∀ w,(zeroValue (ρ.t 23)).run P w=.ok (.int .i64 0) w)
  (hnil:Bc P (ρ.f 43) [.one (.raw (.slice none 0 0))] (·=.s (.one (.raw (.slice none 0 0))))) :
  Dk P (ρ.f 43) [.arr e 1 0 (xs.flatMap eI)] [.one (.ls 0 xs.length)] (λy m'=>y=.s (.one (.ls 1 (Aqp xs).length))/\m'=[.dead,.arr e 1 0 ((Aqp xs).flatMap eI)]):=by
 have hf:∀ x:Int,(eI x).length=1:=λ_=>rfl
 intro w S H vs hin mem hvs
 obtain⟨hvl,hvr⟩:=hvs
 obtain⟨v0,rfl⟩:∃ v0,vs = #[v0]:=by
  obtain⟨l⟩:=vs
  match l,hvl with
  | [a],_=>exact⟨a,rfl⟩
 obtain⟨_,_,hv0⟩:=(show Dy w S [.arr e 1 0 (xs.flatMap eI)] H (.ls 0 xs.length) v0 from hvr 0 _ v0 rfl rfl)
 have hv0':=(hv0 e 1 0 _ rfl).2 (A4 hf xs).symm
 rcases Avo (P:=P) mem with⟨hH,rfl⟩|⟨blk,cap,cur,R⟩
 ·rw[hv0',hH]
  refine(hnil w S #[.slice none 0 0] hin ⟨rfl,λj x u h1 h2=>?_⟩).mono ?_
  ·cases j with
   | zero=>obtain rfl:=zF h1;obtain rfl:=zF h2;exact .raw _ rfl
   | succ j=>simp at h1
  rintro e' w' ⟨v,x,S',rfl,rfl,ext,hin',hav⟩
  have hvn:v=.slice none 0 0:=Ix (Bf.of_rep (m:=[]) (H:=H) hav)
  subst hvn
  have hx:Aam (Aj9 [.arr e 1 0 (([]:List Int).flatMap eI)] H) w S w' S':=⟨ext.os,ext.tape,ext.output,ext.size,λb hb _=>ext.blk b hb,ext.sub,λb i hs=>(ext.keeps hin b i hs).2,λb i hb _ hs=>ext.back b i hb hs⟩
  exact Bcm (zs:=[]) hx hin' ⟨rfl,.inl ⟨rfl,rfl⟩⟩ (λg hg=>by cases hg)
 have hH:=R.h
 have hO:Go.Proofs.OneCell (Value.int .i64):=λ_=>rfl
 have hcon:=Go.Proofs.AnyE.slices_Compact L (Value.int .i64) hO heq hne 0 v23 blk 0 cap xs.toArray w R.holds (by rw[yI];omega) (by rw[yI];exact R.fits)
 rw[hv0',hH]
 rw[yI] at hcon
 refine hcon.mono ?_
 rintro e' w' ⟨rfl,n2,rfl⟩
 have hcz:Go.Lib.compactUpTo xs.toArray xs.length=Aqp xs:=by unfold Aqp;rw[yI]
 rw[hcz]
 have hzl:(Aqp xs).length<=xs.length:=by
  unfold Aqp Go.Lib.compactUpTo
  rw[zP]
  refine yU (xK _ _) ?_
  rw[List.length_range,yI]
  exact zT _
 generalize Aqp xs=zs at hzl
 generalize hds:(zs++List.replicate (xs.length-zs.length) (0:Int)).toArray=ds
 have hdsz:ds.size=xs.length:=by rw[<- hds,yI,zI,List.length_replicate];omega
 have hdt:ds.toList.take zs.length=zs:=by rw[<- hds,xY,kT];rfl
 have hw:putRow (Value.int .i64) (Sort.ahead w n2) blk 0 ds=grow (putRow Z2 (Sort.ahead w n2) blk 0 ds) #[]:=(grow_empty _).symm
 rw[hw]
 have hsame:(grow (putRow Z2 (Sort.ahead w n2) blk 0 ds) #[]).heap[blk]? = _:=As4 (n:=n2) (os:=#[]) (d:=ds) R.heap (by rw[hdsz,R.cs];have:=R.fits;omega)
 have hkeep:∀ b i,S b i->S b i/\(grow (putRow Z2 (Sort.ahead w n2) blk 0 ds) #[]).cell? ⟨b,i,none⟩=w.cell? ⟨b,i,none⟩:=λb i hs =>
  ⟨hs,World.cell?_of_block (w:=w) (X8 (hin.1 b i hs) λe=>R.noS i (e ▸ hs))⟩
 have hin2:InH (grow (putRow Z2 (Sort.ahead w n2) blk 0 ds) #[]) S:=hin.turn (·=blk) (λg i e hs=>absurd (e ▸ hs) (R.noS i)) (λq hq hne=>X8 hq hne) Ac2 λb i hs=>(hkeep b i hs).2
 have hownX:Aj9 [.arr e 1 0 (xs.flatMap eI)] H blk:=⟨0,_,rfl,by show Cz (H 0)=_;rw[hH];rfl⟩
 refine Bcm ⟨rfl,rfl,rfl,Ac2,λb hb hx=>X8 hb λe=>hx (e ▸ hownX),λb i hs=>hs,λb i hs=>(hkeep b i hs).2,λb i _ _ hs=>hs⟩ hin2 ⟨by rw[zP,jH],.inr ⟨blk,cap,_,rfl,zU _,hsame,by have:=R.fits;omega,R.most,?_,?_⟩⟩ (λg hg=>?_)
 ·rw[yI,zI,zP,yF,yL,yL,hdsz,R.cs]
  have:=R.fits
  omega
 ·rw[xY,jH,xG (by simpa [hdsz] using hzl),<- jO]
  exact congrArg (List.map Z2) hdt
 ·obtain rfl:blk=g:=by simpa [Cz] using hg
  exact⟨zY R.lt Ac2,.inr hownX,R.noS⟩
end
section
variable {α:Type} {p:α->Bool}
theorem nn {b:Bool} (h:b=false):¬ b=true:=λh'=>by rw[h] at h';cases h'
theorem Abl {xs:List α} (h:∀ x∈xs,p x=false):xs.find? p=none:=kQ.2 λx hx=>by rw[h x hx];decide
theorem Auo {ρ:Type} (xs:List α) (p:α->Bool) (g:α->ρ) (f:Int->Option (LR Int Unit ρ)) (hl:xs.length<=1000000000000000000)
  (h:∀ (i:Nat) x,xs[i]? = some x->f (i:Int)=some (if p x then .ret (g x) else .cont ((i+1:Nat):Int))) (hend:f (xs.length:Int)=some (.brk ())) :
  B7 f fuel 0=some (match xs.find? p with|some x=>.inl (g x)|none=>.inr ()):=by
 obtain⟨v,hv,hr⟩:=B9 (f:=f) (P:=λs=>∃ i:Nat,i<=xs.length/\s=(i:Int)/\xs.find? p=(xs.drop i).find? p) (μ:=λs=>xs.length-s.toNat)
  (R:=λr=>r=(match xs.find? p with|some x=>Sum.inl (g x)|none=>Sum.inr ())) (by
   rintro _ ⟨i,hi,rfl,hp⟩
   rcases zQ i xs.length with hlt|hge
   ·have hx:=zC hlt
    have hf:=h i _ hx
    have hd:xs.drop i=xs[i]::xs.drop (i+1):=xB hlt
    cases hpx:p xs[i] with
    | true =>
     rw[hpx,if_pos rfl] at hf
     refine .inr (.inr ⟨_,hf,?_⟩)
     rw[hp,hd,jE,hpx]
    | false =>
     rw[hpx,if_neg (by decide)] at hf
     refine .inl ⟨_,hf,⟨i+1,hlt,rfl,?_⟩,by simp only[z6];omega⟩
     rw[hp,hd,jE,hpx]
   ·have e:i=xs.length:=by omega
    subst e
    refine .inr (.inl ⟨(),hend,?_⟩)
    rw[hp,kY];rfl) fuel 0 ⟨0,zU _,rfl,rfl⟩ (Bb (by show xs.length-0<=_;omega))
 rw[hv,hr]
theorem Bah {ρ:Type} (xs:List α) (p:α->Bool) (no:ρ) (f:Int->Option (LR Int Unit ρ)) (hl:xs.length<=1000000000000000000)
  (h:∀ (i:Nat) x,xs[i]? = some x->f (i:Int)=some (if p x then .cont ((i+1:Nat):Int) else .ret no)) (hend:f (xs.length:Int)=some (.brk ())) :
  B7 f fuel 0=some (if xs.all p then .inr () else .inl no):=by
 rw[Auo xs (λx=>!p x) (λ_=>no) f hl (λi x hx=>by
  rw[h i x hx]
  cases p x <;> rfl) hend]
 cases ha:xs.all p with
 | true =>
  rw[Abl λx hx=>by rw[zJ.1 ha x hx];rfl];rfl
 | false =>
  obtain⟨x,hx,hp⟩:=List.all_eq_false.1 ha
  cases hf:xs.find? (λx=>!p x) with
  | none=>exact absurd (kQ.1 hf x hx) (by simpa using hp)
  | some y=>rfl
theorem Arw {β:Type} (xs:List α) (g:α->List β) (f:Int×List β->Option (LB (Int×List β) (List β))) (k:Nat) (hg:∀ x,(g x).length<=k) (hl:xs.length<=1000000000000000000)
  (h:∀ (i:Nat) x acc,xs[i]? = some x->acc.length<=i*k->f ((i:Int),acc)=some (.cont (((i+1:Nat):Int),acc++g x))) (hend:∀ acc,f ((xs.length:Int),acc)=some (.brk acc)) :
  Be f fuel (0,[])=some (xs.flatMap g):=by
 obtain⟨v,hv,hr⟩:=Bo (f:=f) (P:=λs=>∃ i:Nat,i<=xs.length/\s=((i:Int),(xs.take i).flatMap g)) (μ:=λs=>xs.length-s.1.toNat) (R:=λv=>v=xs.flatMap g) (by
  rintro _ ⟨i,hi,rfl⟩
  rcases zQ i xs.length with hlt|hge
  ·left
   have hlen:((xs.take i).flatMap g).length<=i*k:=by
    have key:∀ l:List α,(l.flatMap g).length<=l.length*k:=λl=>by
     induction l with
     | nil=>simp
     | cons a l ih =>
      rw[yY,zI,yZ,kS]
      have:=hg a
      omega
    have:=key (xs.take i)
    rwa [zR,kN hi] at this
   refine⟨_,h i _ _ (zC hlt) hlen,⟨i+1,hlt,?_⟩,by simp only[z6];omega⟩
   rw[zO hlt,kW];simp
  ·right
   have e:i=xs.length:=by omega
   subst e
   exact⟨_,hend _,by rw[yM]⟩) fuel (0,[]) ⟨0,zU _,by simp⟩ (Bb (by show xs.length-0<=_;omega))
 rw[hv,hr]
theorem Aej {β:Type} (xs:List α) (p:α->Bool) (g:α->β):xs.flatMap (λx=>if p x then[g x] else[])=(xs.filter p).map g:=by
 induction xs with
 | nil=>rfl
 | cons x xs ih =>
  rw[yY,ih,kK]
  cases p x <;> rfl
theorem Ayz {β:Type} (xs:List α) (g:α->β):xs.flatMap (λx=>[g x])=xs.map g:=by
 induction xs with
 | nil=>rfl
 | cons x xs ih=>rw[yY,ih];rfl
def Ayq (l:List Int):Prop:=l.Pairwise (· < ·)
theorem Asa {xs:List Int} (hs:xs.Pairwise (·<=·)):Ayq (Aqp xs)/\∀ x,x∈Aqp xs↔x∈xs:=by
 have key:∀ m,m<=xs.length->Ayq (Go.Lib.compactUpTo xs.toArray m)/\(∀ x,x∈Go.Lib.compactUpTo xs.toArray m↔x∈xs.take m):=λm=>by
  induction m with
  | zero=>intro _;exact⟨by simp [Go.Lib.compactUpTo,Ayq],λx=>by simp [Go.Lib.compactUpTo]⟩
  | succ m ih =>
   intro hm
   obtain⟨h1,h2⟩:=ih (by omega)
   have hlt:m<xs.length:=by omega
   have hU:Go.Lib.compactUpTo xs.toArray (m+1)=Go.Lib.compactUpTo xs.toArray m++(if Go.Lib.keeps xs.toArray m then[xs[m]] else[]):=by
    unfold Go.Lib.compactUpTo
    rw[List.range_succ,jZ,xJ]
    congr 1
    rw[kK]
    cases Go.Lib.keeps xs.toArray m with
    | true =>
     rw[if_pos rfl,if_pos rfl]
     simp [zC hlt]
    | false=>rfl
   rw[hU,zO hlt]
   have hle:∀ x∈xs.take m,x<=xs[m]:=λx hx=>by
    obtain⟨j,hj,rfl⟩:=y9 hx
    rw[jI]
    have hjm:j<m:=by rw[zR] at hj;omega
    exact(z7.1 hs) j m (by omega) hlt hjm
   by_cases h0:m=0
   ·subst h0
    have hk:Go.Lib.keeps xs.toArray 0=true:=by unfold Go.Lib.keeps;simp
    rw[hk,if_pos rfl]
    refine⟨?_,λx=>by simp [Go.Lib.compactUpTo]⟩
    simp [Go.Lib.compactUpTo,Ayq]
   have hm1:m-1<xs.length:=by omega
   have hkk:Go.Lib.keeps xs.toArray m=decide (xs[m]≠xs[m-1]):=by
    unfold Go.Lib.keeps
    rw[getElem!_pos xs.toArray m (by simpa using hlt),getElem!_pos xs.toArray (m-1) (by simpa using hm1)]
    simp [h0]
   rw[hkk]
   have hlast:xs[m-1]∈xs.take m:=List.mem_iff_getElem.2 ⟨m-1,by rw[zR];omega,by rw[jI]⟩
   by_cases he:xs[m]=xs[m-1]
   ·rw[if_neg (by simp [he]),xC]
    refine⟨h1,λx=>?_⟩
    rw[h2,yG,z8]
    constructor
    ·exact .inl
    ·rintro(h|rfl)
     ·exact h
     ·rw[he];exact hlast
   ·rw[if_pos (by simp [he])]
    have hll:xs[m-1]<=xs[m]:=hle _ hlast
    have hlt2:∀ x∈xs.take m,x<xs[m]:=λx hx=>by
     obtain⟨j,hj,rfl⟩:=y9 hx
     rw[jI]
     have hjm:j<m:=by rw[zR] at hj;omega
     have:xs[j]<=xs[m-1]:=by
      rcases zQ j (m-1) with h|h
      ·exact(z7.1 hs) j (m-1) (by omega) hm1 h
      ·have:j=m-1:=by omega
       subst this;exact xS _
     omega
    refine⟨wU.2 ⟨h1,wS _ _,λa ha b hb=>?_⟩,λx=>?_⟩
    ·rw[z8.1 hb];exact hlt2 a ((h2 a).1 ha)
    ·rw[yG,yG,h2]
 have:=key xs.length (zT _)
 unfold Aqp
 rw[yI]
 rw[yM] at this
 exact this
def Adz (l:List Int):List Int:=Aqp (l.mergeSort λx y=>decide (x<=y))
theorem A2x (l:List Int):(l.mergeSort λx y=>decide (x<=y)).Pairwise (·<=·):=by
 have:=List.pairwise_mergeSort (le:=λx y:Int=>decide (x<=y)) (λa b c h1 h2=>by rw[decide_eq_true_eq] at *;omega) (λa b=>by simp;omega) l
 exact this.imp λh=>of_decide_eq_true h
theorem Amo {l:List Int} {x:Int}:x∈Adz l↔x∈l:=((Asa (A2x l)).2 x).trans (List.mem_mergeSort ..)
theorem Asu (l:List Int):(Adz l).length<=l.length:=by
 unfold Adz Aqp Go.Lib.compactUpTo
 rw[zP]
 refine yU (xK _ _) ?_
 rw[List.length_range,yI,jL]
 exact zT _
end
open Go.RowKit Go.MapKept Go.Conc
open Go.ChangeMaps (setBlock)
open Go.RowKit
section
variable {P:Program} {c:Ctx} {st:AS} {ty:TypeId}
theorem Apz {xt:TypeId} {x:Operand} {n:Int} (hu:P.underlying xt=some (.int .i64)) (hx:Bg st x=.s (.one (.i .i64 n))):OpV P c st (.makeInterface xt x) ty (.s (.one (.raw (.iface xt (.int .i64 n))))):=by
 intro a w S H r
 have h1:=Ax r x
 rw[hx] at h1
 have e1:a.eval x=.int .i64 n:=T4 h1
 exact⟨.iface xt (.int .i64 n),D4 (.raw _ rfl),λ_ _ _ _=>by simp [execOp,e1,Instr.makeInterface,run_underlying hu]⟩
end
theorem ccI {P:Program} {c:Ctx} {x y:Code} {o:Operand} {t:Nat->AV} {m:List Blk} {Q:Exit->AS->Prop} {b:Bool} {α:Type} {u v:Option α} {r:α} (h:(if b then u else v)=some r) (ho:Bg ⟨t,m⟩ o=.s (.one (.b b)))
  (h1:u=some r->AWC P c x Q ⟨t,m⟩) (h0:v=some r->AWC P c y Q ⟨t,m⟩):AWC P c (.cond o x y) Q ⟨t,m⟩:=S8 ho (λhc=>h1 (Adq hc h)) (λhc=>h0 (Adw hc h))
theorem An0 {P:Program} {f:FuncId} {x y:Value} {r:Lf} {v:Value} (hr:∀ w S,Rep w S r v) (h:∀ w,Calls P f #[x,y] w λe w'=>e=.returned v/\w'=w):Bc P f [.one (.raw x),.one (.raw y)] (·=.s (.one r)):=by
 intro w S vs hS hv
 have hvs:vs = #[x,y]:=by
  obtain⟨l⟩:=vs
  obtain⟨hl,hg⟩:=hv
  match l,hl with
  | [v1,v2],_ =>
   have g1:Rep w S (.raw x) v1:=hg 0 _ v1 rfl rfl
   have g2:Rep w S (.raw y) v2:=hg 1 _ v2 rfl rfl
   cases g1;cases g2;rfl
 subst hvs
 refine(h w).mono ?_
 rintro e w' ⟨rfl,rfl⟩
 exact⟨v,_,S,rfl,rfl,Ext.refl _ _,hS,hr _ _⟩
open Go.RowKit
section
variable {st:AS} {R:AV->Prop} {c:Ctx} {Q:Exit->AS->Prop} {fn:Func} {cs:List Lf} {l:List Oper} {P:Program} {t:Tmp} {ty:TypeId}
def A9a (st:AS):Op->Option SV
 | .move x=>match Bg st x with
  | .s v=>some v
  | _=>none
 | .assign x=>match Bg st x with
  | .s v=>some v
  | _=>none
 | .pick b x y=>match Bg st b with
  | .s (.one (.b true))=>match Bg st x with
   | .s v=>some v
   | _=>none
  | .s (.one (.b false))=>match Bg st y with
   | .s v=>some v
   | _=>none
  | _=>none
 | _=>none
theorem Asq {op:Op} {v:SV} (h:A9a st op=some v):OpV P c st op ty (.s v):=by
 unfold A9a at h
 split at h
 ·split at h
  ·rename_i hx;cases h;exact Du hx
  ·cases h
 ·split at h
  ·rename_i hx;cases h;exact Vk hx
  ·cases h
 ·split at h
  ·rename_i hb
   split at h
   ·rename_i hx;cases h;exact Iv hb hx
   ·cases h
  ·rename_i hb
   split at h
   ·rename_i hx;cases h;exact Ma hb hx
   ·cases h
  ·cases h
 ·cases h
def Asj (nt:Nat) (m:List Blk) (ops:Array Oper):Nat->List Oper->(Nat->AV)->Option (List Oper×(Nat->AV))
 | 0,l,t=>some (l,t)
 | n+1,l,t=>match l with
  | []=>none
  | o::rest=>match o with
   | ⟨some d,op,_,_,_,g⟩=>match decide (d<nt) with
    | true=>match g with
     | none=>match A9a ⟨t,m⟩ op with
      | some v=>Asj nt m ops n rest (upd t d (.s v))
      | none=>none
     | some (j,want)=>match (ops[j]?).bind (·.dst) with
      | some dj=>match t dj with
       | .s (.one (.b b))=>match b==want with
        | false=>Asj nt m ops n rest (upd t d (.tup []))
        | true=>match decide (dj<nt) with
         | true=>match A9a ⟨t,m⟩ op with
          | some v=>Asj nt m ops n rest (upd t d (.s v))
          | none=>none
         | false=>none
       | _=>none
      | none=>none
    | false=>none
   | _=>none
theorem rm {m:List Blk} {ops:Array Oper} (n:Nat) {l':List Oper} {t t':Nat->AV} (h:Asj c.nt m ops n l t=some (l',t')) (k:AWL P c ops Q l' ⟨t',m⟩):AWL P c ops Q l ⟨t,m⟩:=by
 induction n generalizing l t with
 | zero=>cases h;exact k
 | succ n ih =>
  unfold Asj at h
  split at h
  ·cases h
  split at h
  ·rename_i rest d op ty pos af g
   split at h
   ·rename_i hd
    split at h
    ·split at h
     ·rename_i v hv
      exact sv hd (Asq hv) (ih h)
     ·cases h
    ·rename_i j want
     split at h
     ·rename_i dj hj
      split at h
      ·rename_i b ht
       split at h
       ·rename_i hb
        exact Bb9 hd hj ht hb (ih h)
       ·rename_i hb
        split at h
        ·rename_i hn
         split at h
         ·rename_i v hv
          have hb:b=want:=by simpa using hb
          subst hb
          exact son hn hj ht (sv hd (Asq hv) (ih h))
         ·cases h
        ·cases h
      ·cases h
     ·cases h
   ·cases h
  ·cases h
theorem dnT {x:SV} (hr:fn.results.toList=[.tmp t]) (hx:st.t t=.s x) (hp:x.cells.all Lf.pubd=true) (hR:R (.s x)):A0r P fn R .ret st :=
 ⟨Or.inr rfl,[x],[x],st.m,by rw[hr];exact A3 (.tmp _ _ hx) Bj,G5 (by simpa using hp),hR⟩
theorem dnA {sz:Nat} {l:Lf} (hr:fn.results.toList=[.cell t ty]) (ti:TI P ty true sz) (ht:st.t t=.s (.one l)) (hp:Ady st l cs) (hy:sz<=cs.length) (hb:(cs.take sz).all Lf.pubd=true) (hR:R (.s (.agg (cs.take sz)))):A0r P fn R .ret st :=
 ⟨Or.inr rfl,[.agg (cs.take sz)],[.agg (cs.take sz)],st.m,by rw[hr];exact A3 (.agg _ _ _ _ _ ti ht hp hy) Bj,G5 (by simpa [SV.cells] using hb),hR⟩
theorem evs {α:Prop} {md:List Blk} {all:List (List Blk)} (k:Agp md all->α) (h:Agp md all):α:=k h
section
variable {P:Program} {c:Ctx} {t:Nat->AV} {m:List Blk} {ops:Array Oper} {Q:Exit->AS->Prop} {rest:List Oper} {ty ty':TypeId} {pos pos':String} {af af':Array Edge} {d e:Tmp}
theorem csr {id:Nat} {y:Code} (h:AWL P c l.toArray (Gx (AWC P c y Q) Q) l ⟨t,m⟩):AWC P c (.seq (.region id l.toArray false) y) Q ⟨t,m⟩:=Fs (Fc h)
theorem fl {s f off:Nat} {x y:Operand} {p o q:Nat} {T:TypeId} {z:Lf} (fi:FI P s f off) (ti:TI P T false 1) (h1:decide (d<c.nt)=true) (hx:Bg ⟨t,m⟩ x=.s (.one (.lp p o))) (h2:decide (e<c.nt)=true) (hy:Bg ⟨upd t d (.s (.one (.lp p (o+off)))),m⟩ y=.s (.one (.lp p q))) (hm:m[p]? = some (.box cs)) (hz:(cs.drop q)[0]? = some z)
  (k:AWL P c ops Q rest ⟨upd (upd t d (.s (.one (.lp p (o+off))))) e (.s (.one z)),m⟩):AWL P c ops Q (⟨some d,.fieldAddr s x f,ty,pos,af,none⟩::⟨some e,.load T y,ty',pos',af',none⟩::rest) ⟨t,m⟩ :=
 sv h1 (Aw fi hx) (sv h2 (T0 ti hy (.lp _ _ _ hm) hz) k)
end
end
open Go.RowKit
section
variable {k:(Nat->AV)->Prop} {st:AS} {R':AV->Prop} {cs:List Lf} {l:List Oper} {sz:Nat} {x:Operand}
theorem R.{u} {α:Sort u} {a:α}:a=a:=rfl
section
variable {P:Program} {c:Ctx} {t:Nat->AV} {m:List Blk} {ops:Array Oper} {Q:Exit->AS->Prop} {rest:List Oper} {ty:TypeId} {pos:String} {af:Array Edge} {d:Tmp}
theorem ld {T:TypeId} {p off:Nat} (ti:TI P T true sz) (h1:decide (d<c.nt)=true) (hx:Bg ⟨t,m⟩ x=.s (.one (.lp p off))) (hm:m[p]? = some (.box cs)) (hy:Nat.ble sz (cs.drop off).length=true)
  (k:AWL P c ops Q rest ⟨upd t d (.s (.agg ((cs.drop off).take sz))),m⟩):AWL P c ops Q (⟨some d,.load T x,ty,pos,af,none⟩::rest) ⟨t,m⟩ :=
 sv h1 (Rb ti hx (.lp _ _ _ hm) (yN hy)) k
theorem sst {t':TypeId} {y:Operand} {p off:Nat} {v:SV} (hi:(P.info? t').map (·.size)=some sz) (hx:Bg ⟨t,m⟩ x=.s (.one (.lp p off))) (hy:Bg ⟨t,m⟩ y=.s v) (hm:m[p]? = some (.box cs))
  (hv:v.cells.length=sz) (hfit:Nat.ble (off+sz) cs.length=true)
  (k:AWL P c ops Q rest ⟨t,m.set p (.box (Eu cs off v.cells))⟩):AWL P c ops Q (⟨none,.store t' x y,ty,pos,af,none⟩::rest) ⟨t,m⟩ :=
 A5a hi hx hy hm hv (yN hfit) k
theorem ssI (dj:Tmp) {b:Bool} {α:Type} {u v:Option α} {r:α} (h:(if b then u else v)=some r) (ht:t dj=.s (.one (.b b))) (k1:u=some r->AWL P c ops Q l ⟨upd t dj (.s (.one (.b true))),m⟩) (k0:v=some r->AWL P c ops Q l ⟨upd t dj (.s (.one (.b false))),m⟩):AWL P c ops Q l ⟨t,m⟩ :=
 Atg dj ht (λhc=>k1 (Adq hc h)) (λhc=>k0 (Adw hc h))
theorem ra {t:Tmp} {ty:TypeId} {p off:Nat} (ti:TI P ty true sz) (h:st.t t=.s (.one (.lp p off))) (hm:st.m[p]? = some (.box cs)) (hy:Nat.ble sz (cs.drop off).length=true):Awh P st (.cell t ty) (.agg ((cs.drop off).take sz)) :=
 .agg _ _ _ _ _ ti h (.lp _ _ _ hm) (yN hy)
theorem rt {t:Tmp} {x:SV} (h:st.t t=.s x):Awh P st (.tmp t) x:=.tmp _ _ h
theorem dn {fn:Func} {xs ys:List SV} {m':List Blk} (hr:Aay P st fn.results.toList xs) (hp:Ag1 st.m xs ys m') (h:R' (Y1 ys)):A0r P fn R' .ret st:=⟨Or.inr rfl,xs,ys,m',hr,hp,h⟩
theorem Bex {ws es:List Nat} {all:List (List Blk)} {i:Nat} {Ms:List (List Blk)} (dj:Tmp) {y:AV} (z:AV) (ht:t dj=y) (e:y=z) (kk:DE P c ops ws es all k i Ms l (upd t dj z)):DE P c ops ws es all k i Ms l t:=by
 subst e
 have:upd t dj y=t:=by
  funext j
  rw[Et]
  split
  ·rename_i h;rw[h,ht]
  ·rfl
 rwa [this] at kk
end
end
open Go.RowKit
section
variable {cs:List Lf} {x:Operand}
def cjB (n:Nat) (sl:List (Nat×AV)) (mm:List Blk):Bool:=(sl.all λp=>p.2.inbB mm.length)&&mm.all (Blk.inbB mm.length)&&Nat.ble n mm.length
theorem Ay9 {n:Nat} {sl:List (Nat×AV)} {mm:List Blk} (h:cjB n sl mm=true):Awn mm.length sl/\(∀ b∈mm,b.inb mm.length)/\n<=mm.length:=by
 unfold cjB at h
 simp only[zG] at h
 exact⟨An6 h.1.1,Aa8 h.1.2,yN h.2⟩
section
variable {P:Program} {c:Ctx} {Q Q' Q'':Exit->AS->Prop} {st:AS}
theorem cj {x y:Code} (G:Type) (sl:G->List (Nat×AV)) (mm:G->List Blk) (pre:G->Prop) (hb:∀ g,cjB c.m0.length (sl g) (mm g)=true)
  (hy:∀ g,pre g->AWC P c y Q ⟨Aj5 (λ_=>.top) (sl g),mm g⟩) (hx:AWC P c x (Gx (A76 sl mm pre) Q') st):AWC P c x (Gx (AWC P c y Q) Q') st :=
 Bbh G sl mm pre (λg _=>(Ay9 (hb g)).1) (λg _=>(Ay9 (hb g)).2.1) (λg _=>(Ay9 (hb g)).2.2) hy hx
theorem cj3 {x y z:Code} (G:Type) (sl:G->List (Nat×AV)) (mm:G->List Blk) (pre:G->Prop) (hb:∀ g,cjB c.m0.length (sl g) (mm g)=true)
  (hy:∀ g,pre g->AWC P c z Q ⟨Aj5 (λ_=>.top) (sl g),mm g⟩) (hx:AWC P c x (Gx (AWC P c y (Gx (A76 sl mm pre) Q'')) Q') st):AWC P c x (Gx (AWC P c y (Gx (AWC P c z Q) Q'')) Q') st :=
 A48 G sl mm pre (λg _=>(Ay9 (hb g)).1) (λg _=>(Ay9 (hb g)).2.1) (λg _=>(Ay9 (hb g)).2.2) hy hx
theorem lpo {body:Code} {G:Type} (sl:G->List (Nat×AV)) (mm:G->List Blk) (pre:G->Prop) (μ:G->Nat) (g0:G) (p0:pre g0) (s0:Vd st.t (sl g0)) (ex:List Blk) (m0:st.m=mm g0++ex) (hb:∀ g,cjB c.m0.length (sl g) (mm g)=true)
  (round:∀ g,pre g->AWC P c body (Gx (λst'=>∃ g' ex',pre g'/\Vd st'.t (sl g')/\st'.m=mm g'++ex'/\μ g'<μ g) Q) ⟨Aj5 (λ_=>.top) (sl g),mm g⟩):AWC P c (.loop body) Q st :=
 Awt sl mm pre μ g0 p0 s0 ex m0 (λg _=>(Ay9 (hb g)).1) (λg _=>(Ay9 (hb g)).2.1) (λg _=>(Ay9 (hb g)).2.2) round
theorem lo {ty t:TypeId} {sz:Nat} {p off:Nat} (ti:TI P t true sz) (hx:Bg st x=.s (.one (.lp p off))) (hm:st.m[p]? = some (.box cs)) (hy:Nat.ble sz (cs.drop off).length=true):OpV P c st (.load t x) ty (.s (.agg ((cs.drop off).take sz))) :=
 Rb ti hx (.lp _ _ _ hm) (yN hy)
theorem l1 {ty t:TypeId} {p off:Nat} {y:Lf} (ti:TI P t false 1) (hx:Bg st x=.s (.one (.lp p off))) (hm:st.m[p]? = some (.box cs)) (hy:(cs.drop off)[0]? = some y):OpV P c st (.load t x) ty (.s (.one y)) :=
 T0 ti hx (.lp _ _ _ hm) hy
end
end
open Go.RowKit
section
variable {st:AS} {R':AV->Prop} {ops:Array Oper} {a:Bool} {c:Ctx} {Q:Exit->AS->Prop} {n:Int} {pl:List (Nat×Nat)} {m':List Blk} {T:Nat} {t:Nat->AV} {op:Op} {P:Program} {p:Prop} {α:Sort _} {ty:TypeId}
class TB (P:Program) where
 t:Nat->Option (Bool×Nat)
 tok:∀ {T a s},t T=some (a,s)->TI P T a s
 z:Nat->Option (List Lf)
 zok:∀ {T zl},z T=some zl->ZI P T zl
 f:Nat->Nat->Option Nat
 fok:∀ {s g o},f s g=some o->FI P s g o
 s:Nat->Option (Nat×Nat)
 sok:∀ {T e k},s T=some (e,k)->SI P T e k
 p:Nat->Option (List (Nat×Nat))
 pok:∀ {T l},p T=some l->PI P T l
def A8p (P:Program) (T:Nat) (a:Bool) (s:Nat):Bool:=match P.underlying T with
 | some d=>((match d with | .struct _ | .array _ _=>true | _=>false)==a)&&(match (P.info? T).map (·.size) with | some k=>Nat.beq k s | none=>false)
 | none=>false
theorem Ba8 {s:Nat} (h:A8p P T a s=true):TI P T a s:=by
 unfold A8p at h
 split at h
 ·rename_i d hd
  rw[zG] at h
  refine⟨⟨d,hd,by have h1:=h.1;revert h1;cases d <;> cases a <;> simp⟩,?_⟩
  have h2:=h.2
  split at h2
  ·rename_i k hk;rw[hk,zM h2]
  ·cases h2
 ·cases h
def A84 (P:Program) (s f o:Nat):Bool:=match P.underlying s with
 | some (.struct fs)=>match fs[f]? with
  | some fld=>Nat.beq fld.offset o&&(match (P.info? fld.type).map (·.size) with | some k=>Nat.ble 1 k | none=>false)
  | none=>false
 | _=>false
theorem A9o {s f o:Nat} (h:A84 P s f o=true):FI P s f o:=by
 unfold A84 at h
 split at h
 ·rename_i fs hs
  split at h
  ·rename_i fld hf
   rw[zG] at h
   have h2:=h.2
   split at h2
   ·rename_i k hk
    exact⟨⟨fs,fld,k,hs,hf,zM h.1,hk,by have:=yN h2;omega⟩⟩
   ·cases h2
  ·cases h
 ·cases h
def A8r (P:Program) (T e k:Nat):Bool:=match P.underlying T with
 | some (.slice e')=>Nat.beq e' e&&(match (P.info? e).map (·.size) with | some k'=>Nat.beq k' k&&Nat.ble 1 k | none=>false)
 | _=>false
theorem A9h {e k:Nat} (h:A8r P T e k=true):SI P T e k:=by
 unfold A8r at h
 split at h
 ·rename_i e' hs
  rw[zG] at h
  have h2:=h.2
  split at h2
  ·rename_i k' hk
   rw[zG] at h2
   exact⟨by rw[hs,zM h.1],by rw[hk,zM h2.1],yN h2.2⟩
  ·cases h2
 ·cases h
def A80 (P:Program) (T:Nat) (pl:List (Nat×Nat)):Bool:=match P.underlying T with
 | some (.struct fs)=>Nat.beq fs.size pl.length&&((List.range pl.length).all λj=>match fs[j]?,pl[j]? with | some f,some q=>f.offset==q.1&&((P.info? f.type).map (·.size)==some q.2) | _,_=>false)
 | _=>false
theorem A7p (h:A80 P T pl=true):PI P T pl:=by
 unfold A80 at h
 split at h
 ·rename_i fs hs
  rw[zG] at h
  exact Axp hs (zM h.1) h.2
 ·cases h
structure ZE (P:Program) where
 T:Nat
 l:List Lf
 h:ZI P T l
abbrev zy (T:Nat) (l:List Lf) (h:ZI P T l:=by exact Avv (by kernel_rfl)):ZE P:=⟨T,l,h⟩
section
variable {P:Program}
def lkT:List (Nat×Bool×Nat)->Nat->Option (Bool×Nat)
 | [],_=>none
 | x::l,T=>cond (Nat.beq x.1 T) (some x.2) (lkT l T)
def lkZ:List (ZE P)->Nat->Option (List Lf)
 | [],_=>none
 | x::l,T=>cond (Nat.beq x.T T) (some x.l) (lkZ l T)
def lkP:List (Nat×List (Nat×Nat))->Nat->Option (List (Nat×Nat))
 | [],_=>none
 | x::l,T=>cond (Nat.beq x.1 T) (some x.2) (lkP l T)
theorem A0q {k:List (Nat×Nat)}:∀ {l:List (Nat×List (Nat×Nat))},(l.all λx=>A80 P x.1 x.2)=true->lkP l T=some k->PI P T k
 | x::l,c,h=>by
  unfold lkP at h
  rw[wL,zG] at c
  cases e1:Nat.beq x.1 T with
  | true =>
   rw[e1] at h
   have h:some x.2=some k:=h
   have h2:=A7p c.1
   rw[zF h,zM e1] at h2
   exact h2
  | false=>rw[e1] at h;exact A0q c.2 h
def lkF:List (Nat×Nat×Nat)->Nat->Nat->Option Nat
 | [],_,_=>none
 | x::l,T,f=>cond (Nat.beq x.1 T) (cond (Nat.beq x.2.1 f) (some x.2.2) (lkF l T f)) (lkF l T f)
def lkS:List (Nat×Nat×Nat)->Nat->Option (Nat×Nat)
 | [],_=>none
 | x::l,T=>cond (Nat.beq x.1 T) (some x.2) (lkS l T)
theorem Az5 {s:Nat}:∀ {l:List (Nat×Bool×Nat)},(l.all λx=>A8p P x.1 x.2.1 x.2.2)=true->lkT l T=some (a,s)->TI P T a s
 | x::l,c,h=>by
  unfold lkT at h
  rw[wL,zG] at c
  cases e:Nat.beq x.1 T with
  | true =>
   rw[e] at h
   have h:some x.2=some (a,s):=h
   have h2:=Ba8 c.1
   rw[zF h,zM e] at h2
   exact h2
  | false=>rw[e] at h;exact Az5 c.2 h
theorem Az9 {zl:List Lf}:∀ {l:List (ZE P)},lkZ l T=some zl->ZI P T zl
 | x::l,h=>by
  unfold lkZ at h
  cases e:Nat.beq x.T T with
  | true=>rw[e] at h;cases h;rw[<- zM e];exact x.h
  | false=>rw[e] at h;exact Az9 h
theorem As8 {f o:Nat}:∀ {l:List (Nat×Nat×Nat)},(l.all λx=>A84 P x.1 x.2.1 x.2.2)=true->lkF l T f=some o->FI P T f o
 | x::l,c,h=>by
  unfold lkF at h
  rw[wL,zG] at c
  cases e:Nat.beq x.1 T with
  | true =>
   rw[e] at h
   cases e2:Nat.beq x.2.1 f with
   | true =>
    rw[e2] at h
    have h:some x.2.2=some o:=h
    have h2:=A9o c.1
    rw[zF h,zM e,zM e2] at h2
    exact h2
   | false=>rw[e2] at h;exact As8 c.2 h
  | false=>rw[e] at h;exact As8 c.2 h
theorem Az3 {e k:Nat}:∀ {l:List (Nat×Nat×Nat)},(l.all λx=>A8r P x.1 x.2.1 x.2.2)=true->lkS l T=some (e,k)->SI P T e k
 | x::l,c,h=>by
  unfold lkS at h
  rw[wL,zG] at c
  cases e1:Nat.beq x.1 T with
  | true =>
   rw[e1] at h
   have h:some x.2=some (e,k):=h
   have h2:=A9h c.1
   rw[zF h,zM e1] at h2
   exact h2
  | false=>rw[e1] at h;exact Az3 c.2 h
abbrev TB.of (lt:List (Nat×Bool×Nat)) (lz:List (ZE P)) (lf ls:List (Nat×Nat×Nat)) (lp:List (Nat×List (Nat×Nat))) (h1:(lt.all λx=>A8p P x.1 x.2.1 x.2.2)=true) (h2:(lf.all λx=>A84 P x.1 x.2.1 x.2.2)=true) (h3:(ls.all λx=>A8r P x.1 x.2.1 x.2.2)=true) (h4:(lp.all λx=>A80 P x.1 x.2)=true):TB P:=⟨lkT lt,Az5 h1,lkZ lz,Az9,lkF lf,As8 h2,lkS ls,Az3 h3,lkP lp,A0q h4⟩
end
def Bbb:BinOp->Int->Int->Option Lf
 | .add,n,m=>some (.i .i64 (IntKind.wrap .i64 (n+m)))
 | .sub,n,m=>some (.i .i64 (IntKind.wrap .i64 (n-m)))
 | .lss,n,m=>some (.b (decide (n<m)))
 | .leq,n,m=>some (.b (decide (n<=m)))
 | .gtr,n,m=>some (.b (decide (m<n)))
 | .geq,n,m=>some (.b (decide (m<=n)))
 | .eql,n,m=>some (.b (decide (n=m)))
 | .neq,n,m=>some (.b (!decide (n=m)))
 | _,_,_=>none
theorem A3n {o:BinOp} {xt yt:TypeId} {x y:Operand} {m:Int} {v:Lf} (hx:Bg st x=.s (.one (.i .i64 n))) (hy:Bg st y=.s (.one (.i .i64 m))) (h:Bbb o n m=some v):OpV P c st (.binOp o xt x y yt) ty (.s (.one v)):=by
 cases o <;> first
  | (cases h;first | exact Asw hx hy | exact Av4 hx hy | exact Asd hx hy | exact Aiu hx hy | exact Att hx hy | exact Atf hx hy | exact Aem hx hy | exact Aid hx hy)
  | (unfold Bbb at h;cases h)
def prE (st:AS):List (Nat×Operand)->Option (List (Nat×SV))
 | []=>some []
 | (i,o)::os=>match Bg st o with
  | .s x=>match prE st os with
   | some r=>some ((i,x)::r)
   | none=>none
  | _=>none
theorem A0f:∀ {os:List (Nat×Operand)} {xs:List (Nat×SV)},prE st os=some xs->Aci st os xs
 | [],xs,h=>by cases h;exact Li
 | (i,o)::os,xs,h=>by
  unfold prE at h
  split at h
  ·rename_i hx
   split at h
   ·rename_i hr;cases h;exact Ed hx (A0f hr)
   ·cases h
  ·cases h
def buE (pl:List (Nat×Nat)):List Lf->List (Nat×SV)->Option (List Lf)
 | cs,[]=>some cs
 | cs,(i,x)::rest=>match pl[i]? with
  | some (off,s)=>match Nat.beq x.cells.length s with
   | true=>match Nat.ble (off+s) cs.length with
    | true=>buE pl (Eu cs off x.cells) rest
    | false=>none
   | false=>none
  | none=>none
theorem Az1:∀ {xs:List (Nat×SV)} {cs out:List Lf},buE pl cs xs=some out->Yk (λi:Nat=>pl[i]?) cs xs out
 | [],cs,out,h=>by
  unfold buE at h
  cases h;exact .nil _
 | (i,x)::rest,cs,out,h=>by
  unfold buE at h
  split at h
  ·rename_i hp
   split at h
   ·rename_i hl
    split at h
    ·rename_i hb;exact .cons _ _ _ _ _ _ _ hp (zM hl) (yN hb) (Az1 h)
    ·cases h
   ·cases h
  ·cases h
variable {P:Program} [TB P] {c:Ctx}
variable (P) in
def evW (st:AS):Op->Option AV
 | .move x=>match Bg st x with
  | .s v=>some (.s v)
  | .tup xs=>some (.tup xs)
  | .top=>none
 | .assign x=>match Bg st x with
  | .s v=>some (.s v)
  | _=>none
 | .pick b x y=>match Bg st b with
  | .s (.one (.b true))=>match Bg st x with
   | .s v=>some (.s v)
   | _=>none
  | .s (.one (.b false))=>match Bg st y with
   | .s v=>some (.s v)
   | _=>none
  | _=>none
 | .binOp o _ x y _=>match Bg st x with
  | .s (.one (.i .i64 n))=>match Bg st y with
   | .s (.one (.i .i64 m))=>(Bbb o n m).map (λv=>.s (.one v))
   | _=>none
  | _=>none
 | .unOp .not _ x=>match Bg st x with
  | .s (.one (.b p))=>some (.s (.one (.b (!p))))
  | _=>none
 | .extract x ix=>match Bg st x with
  | .tup xs=>match xs[ix]? with
   | some y=>some (.s y)
   | none=>none
  | _=>none
 | .fieldAddr s x f=>match Bg st x with
  | .s (.one (.lp p o))=>match TB.f P s f with
   | some off=>some (.s (.one (.lp p (o+off))))
   | none=>none
  | _=>none
 | .load T x=>match Bg st x with
  | .s (.one (.lp p off))=>match st.m[p]? with
   | some (.box cs)=>match TB.t P T with
    | some (true,sz)=>match Nat.ble sz (cs.drop off).length with
     | true=>some (.s (.agg ((cs.drop off).take sz)))
     | false=>none
    | some (false,1)=>match (cs.drop off)[0]? with
     | some y=>some (.s (.one y))
     | none=>none
    | _=>none
   | _=>none
  | .s (.one (.cp cs))=>match TB.t P T with
   | some (false,1)=>match cs[0]? with
    | some y=>some (.s (.one y))
    | none=>none
   | _=>none
  | _=>none
 | .build T ps=>match prE st ps.toList with
  | some xs=>match TB.z P T with
   | some zl=>match TB.p P T with
    | some pl=>match buE pl zl xs with
     | some out=>some (.s (.agg out))
     | none=>none
    | none=>none
   | none=>none
  | none=>none
 | .call ⟨.builtin .len,⟨[x]⟩,⟨[T]⟩⟩=>match Bg st x with
  | .s (.one (.sl n _))=>match TB.s P T with
   | some _=>some (.s (.one (.i .i64 n)))
   | none=>none
  | _=>none
 | _=>none
theorem A4q {v:AV} (h:evW P st op=some v):OpV P c st op ty v:=by
 unfold evW at h
 split at h
 ·split at h
  ·rename_i hx;cases h;exact Du hx
  ·rename_i hx;cases h;exact Ae3 hx
  ·cases h
 ·split at h
  ·rename_i hx;cases h;exact Vk hx
  ·cases h
 ·split at h
  ·rename_i hb
   split at h
   ·rename_i hx;cases h;exact Iv hb hx
   ·cases h
  ·rename_i hb
   split at h
   ·rename_i hx;cases h;exact Ma hb hx
   ·cases h
  ·cases h
 ·split at h
  ·rename_i hx
   split at h
   ·rename_i hy
    rw[wK] at h
    obtain⟨w,hw,rfl⟩:=h
    exact A3n hx hy hw
   ·cases h
  ·cases h
 ·split at h
  ·rename_i hx;cases h;exact Zx hx
  ·cases h
 ·split at h
  ·rename_i hx
   split at h
   ·rename_i hy;cases h;exact Jw hx hy
   ·cases h
  ·cases h
 ·split at h
  ·rename_i hx
   split at h
   ·rename_i hf;cases h;exact Aw (TB.fok hf) hx
   ·cases h
  ·cases h
 ·split at h
  ·rename_i hx
   split at h
   ·rename_i hm
    split at h
    ·rename_i ht
     split at h
     ·rename_i hy;cases h;exact lo (TB.tok ht) hx hm hy
     ·cases h
    ·rename_i ht
     split at h
     ·rename_i hy;cases h;exact l1 (TB.tok ht) hx hm hy
     ·cases h
    ·cases h
   ·cases h
  ·rename_i hx
   split at h
   ·rename_i ht
    split at h
    ·rename_i hy;cases h;exact T0 (TB.tok ht) hx (.cp _) hy
    ·cases h
   ·cases h
  ·cases h
 ·split at h
  ·rename_i hx
   split at h
   ·rename_i hz
    split at h
    ·rename_i hp
     split at h
     ·rename_i hb;cases h;exact Vy (TB.zok hz) (TB.pok hp) (A0f hx) (Az1 hb)
     ·cases h
    ·cases h
   ·cases h
  ·cases h
 ·split at h
  ·rename_i hx
   split at h
   ·rename_i hs;cases h;exact Qv (TB.sok hs) hx
   ·cases h
  ·cases h
 ·cases h
variable (P) in
def exW (nt:Nat) (t:Nat->AV) (m:List Blk):Option Tmp->Op->Option ((Nat->AV)×List Blk)
 | some d,op=>match decide (d<nt) with
  | true=>match op with
   | .alloc T=>match TB.z P T with
    | some zl=>some (upd t d (.s (.one (.lp m.length 0))),m++[.box zl])
    | none=>none
   | .box _ y=>match Bg ⟨t,m⟩ y with
    | .s x=>some (upd t d (.s (.one (.lp m.length 0))),m++[.box x.cells])
    | _=>none
   | op=>match evW P ⟨t,m⟩ op with
    | some v=>some (upd t d v,m)
    | none=>none
  | false=>none
 | none,.store T x y=>match TB.t P T with
  | some (_,sz)=>match Bg ⟨t,m⟩ x with
   | .s (.one (.lp p off))=>match Bg ⟨t,m⟩ y with
    | .s v=>match m[p]? with
     | some (.box cs)=>match Nat.beq v.cells.length sz with
      | true=>match Nat.ble (off+sz) cs.length with
       | true=>some (t,m.set p (.box (Eu cs off v.cells)))
       | false=>none
      | false=>none
     | _=>none
    | _=>none
   | _=>none
  | none=>none
 | _,_=>none
theorem A0m {t':Nat->AV} {m:List Blk} {rest:List Oper} {dst:Option Tmp} {pos:String} {af:Array Edge} (h:exW P c.nt t m dst op=some (t',m')) (k:AWL P c ops Q rest ⟨t',m'⟩):AWL P c ops Q (⟨dst,op,ty,pos,af,none⟩::rest) ⟨t,m⟩:=by
 unfold exW at h
 split at h
 ·rename_i d op
  split at h
  ·rename_i hd
   split at h
   ·split at h
    ·rename_i hz;cases h;exact A4v hd (TB.zok hz) k
    ·cases h
   ·split at h
    ·rename_i hx;cases h;exact Be5 hd hx k
    ·cases h
   ·split at h
    ·rename_i hv;cases h;exact sv hd (A4q hv) k
    ·cases h
  ·cases h
 ·split at h
  ·rename_i ht
   split at h
   ·rename_i hx
    split at h
    ·rename_i hy
     split at h
     ·rename_i hm
      split at h
      ·rename_i hl
       split at h
       ·rename_i hb;cases h;exact sst (TB.tok ht).i hx hy hm (zM hl) hb k
       ·cases h
      ·cases h
     ·cases h
    ·cases h
   ·cases h
  ·cases h
 ·cases h
variable (P) in
def ruW (nt:Nat) (ops:Array Oper):Nat->List Oper->(Nat->AV)->List Blk->Option (List Oper×(Nat->AV)×List Blk)
 | 0,l,t,m=>some (l,t,m)
 | n+1,l,t,m=>match l with
  | []=>none
  | o::rest=>match o with
   | ⟨dst,op,_,_,_,none⟩=>match exW P nt t m dst op with
    | some (t',m')=>ruW nt ops n rest t' m'
    | none=>none
   | ⟨dst,op,_,_,_,some (j,want)⟩=>match (ops[j]?).bind (·.dst) with
    | some dj=>match t dj with
     | .s (.one (.b b))=>match b==want with
      | false=>match dst with
       | some d=>match decide (d<nt) with
        | true=>ruW nt ops n rest (upd t d (.tup [])) m
        | false=>none
       | none=>ruW nt ops n rest t m
      | true=>match decide (dj<nt) with
       | true=>match exW P nt t m dst op with
        | some (t',m')=>ruW nt ops n rest t' m'
        | none=>none
       | false=>none
     | .tup []=>match dst with
      | some d=>match decide (d<nt) with
       | true=>ruW nt ops n rest (upd t d (.tup [])) m
       | false=>none
      | none=>ruW nt ops n rest t m
     | _=>none
    | none=>none
theorem rx (n:Nat) {l l':List Oper} {t':Nat->AV} {m:List Blk} (h:ruW P c.nt ops n l t m=some (l',t',m')) (k:AWL P c ops Q l' ⟨t',m'⟩):AWL P c ops Q l ⟨t,m⟩:=by
 induction n generalizing l t m with
 | zero=>cases h;exact k
 | succ n ih =>
  unfold ruW at h
  split at h
  ·cases h
  split at h
  ·split at h
   ·rename_i hv;exact A0m hv (ih h)
   ·cases h
  ·rename_i dst op ty pos af j want
   split at h
   ·rename_i dj hj
    split at h
    ·rename_i b ht
     split at h
     ·rename_i hb
      split at h
      ·split at h
       ·rename_i hd;exact Bb9 hd hj ht hb (ih h)
       ·cases h
      ·exact Bbc hj ht hb (ih h)
     ·rename_i hb
      have hb:b=want:=by simpa using hb
      subst hb
      split at h
      ·rename_i hn
       split at h
       ·rename_i hv;exact son hn hj ht (A0m hv (ih h))
       ·cases h
      ·cases h
    ·rename_i ht
     split at h
     ·split at h
      ·rename_i hd;exact A9e hd hj ht (ih h)
      ·cases h
     ·exact A7b hj ht (ih h)
    ·cases h
   ·cases h
def opE (st:AS):List Operand->Option (List SV)
 | []=>some []
 | o::os=>match Bg st o with
  | .s x=>match opE st os with
   | some r=>some (x::r)
   | none=>none
  | _=>none
theorem Avl {st:AS}:∀ {os:List Operand} {xs:List SV},opE st os=some xs->Xy st os xs
 | [],xs,h=>by cases h;exact A7
 | o::os,xs,h=>by
  unfold opE at h
  split at h
  ·rename_i hx
   split at h
   ·rename_i hr;cases h;exact Ar hx (Avl hr)
   ·cases h
  ·cases h
variable (P) in
def reE (st:AS):List ResultVar->Option (List SV)
 | []=>some []
 | .tmp t::vs=>match st.t t with
  | .s x=>match reE st vs with
   | some r=>some (x::r)
   | none=>none
  | _=>none
 | .cell t ty::vs=>match st.t t with
  | .s (.one (.lp p off))=>match st.m[p]? with
   | some (.box cs)=>match TB.t P ty with
    | some (true,sz)=>match Nat.ble sz (cs.drop off).length with
     | true=>match reE st vs with
      | some r=>some (.agg ((cs.drop off).take sz)::r)
      | none=>none
     | false=>none
    | some (false,1)=>match (cs.drop off)[0]? with
     | some y=>match reE st vs with
      | some r=>some (.one y::r)
      | none=>none
     | none=>none
    | _=>none
   | _=>none
  | _=>none
theorem Aph:∀ {vs:List ResultVar} {xs:List SV},reE P st vs=some xs->Aay P st vs xs
 | [],xs,h=>by cases h;exact Bj
 | .tmp t::vs,xs,h=>by
  unfold reE at h
  split at h
  ·rename_i hx
   split at h
   ·rename_i hr;cases h;exact A3 (.tmp _ _ hx) (Aph hr)
   ·cases h
  ·cases h
 | .cell t ty::vs,xs,h=>by
  unfold reE at h
  split at h
  ·rename_i hx
   split at h
   ·rename_i hm
    split at h
    ·rename_i ht
     split at h
     ·rename_i hy
      split at h
      ·rename_i hr;cases h;exact A3 (ra (TB.tok ht) hx hm hy) (Aph hr)
      ·cases h
     ·cases h
    ·rename_i ht
     split at h
     ·rename_i hy
      split at h
      ·rename_i hr;cases h;exact A3 (.one _ _ _ _ _ (TB.tok ht) hx (.lp _ _ _ hm) hy) (Aph hr)
      ·cases h
     ·cases h
    ·cases h
   ·cases h
  ·cases h
theorem dE {fn:Func} {xs ys:List SV} (hr:reE P st fn.results.toList=some xs) (hp:Ag1 st.m xs ys m') (h:R' (Y1 ys)):A0r P fn R' .ret st:=⟨Or.inr rfl,xs,ys,m',Aph hr,hp,h⟩
def A5t (P:Program) (f:Nat):Bool:=match P.funcs[f]? with
 | some fn => (!(fn.name == "runtime.NumGoroutine")) && !fn.body.isNone
 | none=>false
class FB (P:Program) where
 l:List Nat
 ok:(l.all λf=>A5t P f)=true
theorem fk {P:Program} [FB P] {f:Nat} (h:(FB.l P).elem f=true):FnI P f:=by
 have:=zJ.1 (FB.ok (P:=P)) f (List.elem_iff.1 h)
 unfold A5t at this
 split at this
 ·rename_i fn hf
  rw[zG,xQ,xQ] at this
  exact⟨⟨fn,hf,this.1,this.2⟩⟩
 ·cases this
section
variable {P:Program} [FB P] {c:Ctx} {t:Nat->AV} {m:List Blk} {ops:Array Oper} {Q:Exit->AS->Prop} {rest:List Oper} {ty:TypeId} {pos:String} {af:Array Edge} {d:Tmp}
theorem scE {f:FuncId} {args:Array Operand} {ats:Array TypeId} {xs ys:List SV} {m':List Blk} {r:AV} (hd:(decide (d<c.nt)&&(FB.l P).elem f)=true) (ho:opE ⟨t,m⟩ args.toList=some xs) (hp:Ag1 m xs ys m') (hc:Bc P f ys (·=r))
  (k:AWL P c ops Q rest ⟨upd t d r,m'⟩):AWL P c ops Q (⟨some d,.call { callee:=.value (.func f),args:=args,argTypes:=ats },ty,pos,af,none⟩::rest) ⟨t,m⟩:=by
 rw[zG] at hd
 exact Az8 hd.1 (fk hd.2) (Avl ho) hp hc k
theorem scI {f:FuncId} {args:Array Operand} {ats:Array TypeId} {xs:List SV} {r:AV} (ho:opE ⟨t,m⟩ args.toList=some xs) (hd:(decide (d<c.nt)&&(FB.l P).elem f&&xs.all (λx=>x.cells.all Lf.pubd))=true) (hc:Bc P f xs (·=r))
  (k:AWL P c ops Q rest ⟨upd t d r,m⟩):AWL P c ops Q (⟨some d,.call { callee:=.value (.func f),args:=args,argTypes:=ats },ty,pos,af,none⟩::rest) ⟨t,m⟩:=by
 rw[zG,zG] at hd
 exact Az8 hd.1.1 (fk hd.1.2) (Avl ho) (G5 hd.2) hc k
end
def mtL (t:Nat->AV):List (Nat×AV)->List AV
 | []=>[]
 | p::l=>t p.1::mtL t l
def msL:List (Nat×AV)->List AV
 | []=>[]
 | p::l=>p.2::msL l
theorem ml:∀ {l:List (Nat×AV)},mtL t l=msL l->Vd t l
 | [],_=>trivial
 | (i,x)::l,h=>by
  obtain⟨h1,h2⟩:=List.cons.inj h
  exact⟨h1,ml h2⟩
theorem fls {α:Type} {f:α->List Lf} {sz:Nat} {xs:List α} (hf:∀ x,(f x).length=sz):xs.length*sz=(xs.flatMap f).length:=(A4 hf xs).symm
theorem pb (h:p:=by repeat' first|exact Ag1.nil _|apply Ag1.cons|apply Aif.one|apply Aif.agg|exact Ab1.nil|exact Ab1.ls _ _ _ _ _ _ R (fls λ_=>R)|exact Ab1.id _ R|exact Aby.nil _|apply Aby.cons):p:=h
theorem omg (h:p:=by omega):p:=h
theorem dcd (h:p:=by decide):p:=h
theorem smp (h:p:=by simp):p:=h
theorem ifo [Decidable p] {a b:α} (h:p:=by omega):(if decide p=true then a else b)=a:=if_pos (decide_eq_true h)
theorem ifp [Decidable p] {a b:α} (h:p):(if decide p=true then a else b)=a:=if_pos (decide_eq_true h)
theorem ifq [Decidable p] {a b:α} (h:¬ p:=by omega):(if decide p=true then a else b)=b:=if_neg (by rw[decide_eq_true_eq];exact h)
theorem ifn [Decidable p] {a b:α} (h:¬ p):(if decide p=true then a else b)=b:=if_neg (by rw[decide_eq_true_eq];exact h)
theorem wIo (h:-9223372036854775808<=n:=by omega) (k:n<=9223372036854775807:=by omega):wI n=n:=Zc h k
theorem lx {α:Type} {sl:Nat×α->List (Nat×AV)} {mm:Nat×α->List Blk} {pre:Nat×α->Prop} {n:Nat} (g':Nat×α) {ex:List Blk} (h1:pre g') (h2:mtL st.t (sl g')=msL (sl g')) (h3:st.m=mm g'++ex) (h4:n=g'.1+1:=by rfl):∃ g' ex',pre g'/\Vd st.t (sl g')/\st.m=mm g'++ex'/\g'.1<n :=
 ⟨g',ex,h1,ml h2,h3,by omega⟩
section
variable {P:Program} {c:Ctx} {t t':Nat->AV} {m m':List Blk} {ops:Array Oper} {Q:Exit->AS->Prop} {n a b:AS->Prop} {id i j:Nat} {l:List Oper} {y z:Code} {st:AS}
theorem crs [TB P] (h:ruW P c.nt l.toArray l.length l t m=some ([],t',m')) (k:AWC P c y Q ⟨t',m'⟩):AWC P c (.seq (.region id l.toArray false) y) Q ⟨t,m⟩:=csr (rx _ h (Agg k))
theorem cgs [TB P] (h:ruW P c.nt l.toArray l.length l t m=some ([],t',m')) (k:n ⟨t',m'⟩):AWC P c (.region id l.toArray false) (Gx n Q) ⟨t,m⟩:=Fc (rx _ h (Agg k))
theorem rsn [TB P] (h:ruW P c.nt ops l.length l t m=some ([],t',m')) (k:n ⟨t',m'⟩):AWL P c ops (Gx n Q) l ⟨t,m⟩:=rx _ h (Agg k)
theorem cx5 (h:n ⟨t,m⟩):AWC P c (.exit id) (Gx a (Gx b (Gy id (Gx n Q)))) ⟨t,m⟩:=An2 (O5 (O5 (Q4 (A1 h))))
theorem csn (h:n ⟨t,m⟩):AWC P c .skip (Gx n Q) ⟨t,m⟩:=A4p (A1 h)
theorem cbn (h:n ⟨t,m⟩):AWC P c .skip (Gy id (Gx n Q)) ⟨t,m⟩:=A4p (Bz (A1 h))
theorem csb (h:AWL P c l.toArray (Gx (AWC P c y (Gy id (Gx (AWC P c z Q) Q))) (Gy id (Gx (AWC P c z Q) Q))) l ⟨t,m⟩):AWC P c (.seq (.block id (.seq (.region i l.toArray false) y)) z) Q ⟨t,m⟩:=Fs (Jf (Fs (Fc h)))
theorem br2 (h:Q .ret st):Gy id (Gx n Q) .ret st:=Q6 (Up h)
theorem br5 (h:Q .ret st):Gy i (Gx n (Gx a (Gy j (Gx b Q)))) .ret st:=Q6 (Up (Up (Q6 (Up h))))
theorem crt (h:Q .ret ⟨t,m⟩):AWC P c .ret (Gx n Q) ⟨t,m⟩:=Pj (Up h)
end
theorem fR {p:α->Prop} (h:∀ x,p x:=by intro _;exact R):∀ x,p x:=h
omit [TB P] in
theorem lpn {body:Code} {α:Type} (sl:Nat×α->List (Nat×AV)) (mm:Nat×α->List Blk) (pre:Nat×α->Prop) (g0:Nat×α) (p0:pre g0) (s0:mtL st.t (sl g0)=msL (sl g0)) (m0:st.m=mm g0++[]) (hb:∀ g,cjB c.m0.length (sl g) (mm g)=true)
  (round:∀ g,pre g->AWC P c body (Gx (λst'=>∃ g' ex',pre g'/\Vd st'.t (sl g')/\st'.m=mm g'++ex'/\g'.1<g.1) Q) ⟨Aj5 (λ_=>.top) (sl g),mm g⟩):AWC P c (.loop body) Q st :=
 lpo sl mm pre (λg=>g.1) g0 p0 (ml s0) [] m0 hb round
end
open Go.RowKit
inductive Tc where
 | int (k:IntKind)
 | u8
 | bool
 | str
 | st (n:Nat)
 | sl (t:Tc)
def Tc.cast? : (a b:Tc)->(F:Tc->Type)->F a->Option (F b)
 | .int k,.int k',_,x=>if h:k=k' then some (h ▸ x) else none
 | .u8,.u8,_,x=>some x
 | .bool,.bool,_,x=>some x
 | .str,.str,_,x=>some x
 | .st n,.st m,_,x=>if h:n=m then some (h ▸ x) else none
 | .sl a,.sl b,F,x=>Tc.cast? a b (λt=>F (.sl t)) x
 | _,_,_,_=>none
theorem Tc.cast?_some:∀ {a b:Tc} {F:Tc->Type} {x:F a} {y:F b},Tc.cast? a b F x=some y->∃ e:a=b,e ▸ x=y
 | .int k,b,F,x,y,h=>by
  cases b <;> simp only[Tc.cast?] at h <;> first|(cases h;done)|skip
  split at h
  ·rename_i e;subst e;cases h;exact⟨rfl,rfl⟩
  ·cases h
 | .st k,b,F,x,y,h=>by
  cases b <;> simp only[Tc.cast?] at h <;> first|(cases h;done)|skip
  split at h
  ·rename_i e;subst e;cases h;exact⟨rfl,rfl⟩
  ·cases h
 | .u8,b,F,x,y,h=>by cases b <;> simp only[Tc.cast?] at h <;> cases h;exact⟨rfl,rfl⟩
 | .bool,b,F,x,y,h=>by cases b <;> simp only[Tc.cast?] at h <;> cases h;exact⟨rfl,rfl⟩
 | .str,b,F,x,y,h=>by cases b <;> simp only[Tc.cast?] at h <;> cases h;exact⟨rfl,rfl⟩
 | .sl a,b,F,x,y,h=>by
  cases b <;> simp only[Tc.cast?] at h <;> first|(cases h;done)|skip
  obtain⟨e,rfl⟩:=Tc.cast?_some h
  subst e
  exact⟨rfl,rfl⟩
structure TT where
 D:Nat->Type
 enc:(n:Nat)->D n->List Lf
 sz:Nat->Nat
 len:∀ n v,(enc n v).length=sz n
def den (T:TT):Tc->Type
 | .int _=>Int
 | .u8=>UInt8
 | .bool=>Bool
 | .str=>ByteArray
 | .st n=>T.D n
 | .sl t=>List (den T t)
def Oy (T:TT):(t:Tc)->den T t->List Lf
 | .int k,v=>[.i k v]
 | .u8,v=>eU8 v
 | .bool,v=>[.b v]
 | .str,v=>[.s v]
 | .st n,v=>T.enc n v
 | .sl t,v=>eL (Oy T t) v
def Tc.size (T:TT):Tc->Nat
 | .st n=>T.sz n
 | _=>1
theorem Lz (T:TT) (t:Tc) (v:den T t):(Oy T t v).length=t.size T:=by
 cases t <;> first|rfl|exact T.len _ _
inductive X (T:TT) where
 | lf (l:Lf)
 | u8 (v:UInt8)
 | row (t:Tc) (v:List (den T t))
 | el (t:Tc) (v:den T t) (rest:List Lf) (off:Nat)
 | own (p:Nat)
 | old (p:Nat)
section
variable {c:Ctx} {Q:Exit->AS->Prop} {m:List Blk} {p q:Nat} {H:Nat->Value} {o:Operand} {P:Program} {S:Dx} {T:TT} {α:Type} {v:Value} {w:World} {x:X T}
def X.toLf (L:Nat->Nat):X T->Lf
 | .lf l=>l
 | .u8 v=>.i .u8 (v.toNat:Int)
 | .row t v=>.sl v.length (v.flatMap (Oy T t))
 | .el t v rest off=>.cp ((Oy T t v++rest).drop off)
 | .own p=>.ls p (L p)
 | .old p=>.ls p 0
inductive Yj:Lf->Lf->Prop
 | refl (l:Lf):Yj l l
 | nil:Yj (.raw (.slice none 0 0)) (.sl 0 [])
inductive Tv:List Lf->List Lf->Prop
 | nil:Tv [] []
 | cons {l l':Lf} {ls ls':List Lf} (h:Yj l l') (t:Tv ls ls'):Tv (l::ls) (l'::ls')
theorem Yj.rep {l l':Lf} (h:Yj l l') (r:Rep w S l v):Rep w S l' v:=by
 cases h with
 | refl=>exact r
 | nil=>cases r;exact .sl0 _ _
theorem Yj.pubd {l l':Lf} (h:Yj l l'):l'.pubd=l.pubd:=by cases h <;> rfl
theorem Tv.rep {ls ls':List Lf} {vs:List Value} (h:Tv ls ls') (r:LsR (Rep w S) ls vs):LsR (Rep w S) ls' vs:=by
 induction h generalizing vs with
 | nil=>exact r
 | @cons l l' ls ls' h t ih =>
  cases vs with
  | nil=>have:=r.1;simp at this
  | cons v vs =>
   have:=ih (vs:=vs) ⟨by have:=r.1;simpa using this,λj l v h1 h2=>r.2 (j+1) l v (by simpa using h1) (by simpa using h2)⟩
   refine⟨by simp [this.1],λj l v h1 h2=>?_⟩
   cases j with
   | zero=>simp at h1 h2;subst h1;subst h2;exact h.rep (r.2 0 _ _ rfl rfl)
   | succ j=>exact this.2 j l v (by simpa using h1) (by simpa using h2)
section
variable {T:TT}
def Ar1:Lf->Bool
 | .raw v=>match v with
  | .slice a n c=>a.isNone&&Nat.beq n 0&&Nat.beq c 0
  | _=>false
 | _=>false
theorem Aca {l:Lf} (h:Ar1 l=true):l=.raw (.slice none 0 0):=by
 cases l with
 | raw v =>
  cases v with
  | slice a n c =>
   simp only[Ar1,zG] at h
   obtain⟨⟨h1,h2⟩,h3⟩:=h
   cases zM h2
   cases zM h3
   cases a with
   | none=>rfl
   | some a=>cases h1
  | _=>cases h
 | _=>cases h
def asI (k:IntKind):X T->Option Int
 | .lf (.i k' n)=>if _h:k'=k then some n else none
 | _=>none
def asB:X T->Option Bool
 | .lf (.b y)=>some y
 | _=>none
def Al0:X T->Option ByteArray
 | .lf (.s y)=>some y
 | _=>none
def Az7:X T->Option UInt8
 | .u8 v=>some v
 | _=>none
def A5d (t:Tc):X T->Option (List (den T t))
 | .row t' v=>Tc.cast? t' t (λt=>List (den T t)) v
 | .lf l=>cond (Ar1 l) (some []) none
 | _=>none
theorem Azn {k:IntKind} {v:Int} (L:Nat->Nat) (h:asI k x=some v):x.toLf L=.i k v:=by
 unfold asI at h
 split at h
 ·split at h
  ·rename_i e;subst e;cases h;rfl
  ·cases h
 ·cases h
theorem Aoz {t:Tc} {x:X T} {v:List (den T t)} (L:Nat->Nat) (h:A5d t x=some v):Yj (x.toLf L) (.sl v.length (v.flatMap (Oy T t))):=by
 cases x with
 | row t' w =>
  obtain⟨e,h⟩:=Tc.cast?_some (F:=λt=>List (den T t)) h
  subst e
  subst h
  exact .refl _
 | lf l =>
  change cond (Ar1 l) (some []) none=some v at h
  cases e:Ar1 l with
  | true=>rw[e] at h;cases h;cases Aca e;exact .nil
  | false=>rw[e] at h;cases h
 | _=>cases h
end
class TX (T:TT) where
 cells:(n:Nat)->T.D n->List (X T)
 cells_ok:∀ n v L,(cells n v).map (X.toLf L)=T.enc n v
 dec:(n:Nat)->List (X T)->Option (T.D n)
 dec_ok:∀ {n xs v} (L),dec n xs=some v->Tv (xs.map (X.toLf L)) (T.enc n v)
 pub:∀ n v,(T.enc n v).all Lf.pubd=true
 can:∀ n v,(T.enc n v).map Lf.canon=T.enc n v
inductive SX (T:TT) where
 | one (x:X T)
 | agg (xs:List (X T))
inductive VX (T:TT) where
 | s (x:SX T)
 | tup (xs:List (SX T))
 | top
 | oel (p:Nat) (j:Int) (sz off:Nat) (t:Tc) (u:den T t)
def SX.toSV (L:Nat->Nat):SX T->SV
 | .one x=>.one (x.toLf L)
 | .agg xs=>.agg (xs.map (X.toLf L))
inductive BX (T:TT) where
 | box (cs:List (X T))
 | arr (e sz k:Nat) (t:Tc) (v:List (den T t))
 | dead
 | hole
def E6:Option (BX T)->Option ((t:Tc)×List (den T t))
 | some (.arr _ _ _ t v)=>some ⟨t,v⟩
 | _=>none
def Agx:Option ((t:Tc)×List (den T t))->Nat
 | some r=>r.2.length
 | none=>0
def Pi (M:List (BX T)) (p:Nat):Nat:=Agx (E6 M[p]?)
def Azf (r:(t:Tc)×List (den T t)) (j:Int) (t:Tc) (u:den T t):Prop:=∃ e:t=r.1,idx r.2 j=some (e ▸ u)
def A0g:AV:=.s (.one (.raw (.agg #[])))
theorem Anm (h:AVR (Bf w S m H) A0g v):False:=by
 have h1:Rep w S (.raw (.agg #[])) v:=h
 have h2:v.oneCell'=true:=h1.oneCell
 cases h1
 exact absurd h2 (by decide)
open Classical in
noncomputable def Aj7 (p:Nat) (j:Int) (o:Nat) (t:Tc) (u:den T t):Option ((t:Tc)×List (den T t))->AV
 | some r=>if Azf r j t u then .s (.one (.ap p r.2.length o)) else A0g
 | none=>.top
noncomputable def VX.toAV (M:List (BX T)):VX T->AV
 | .s x=>.s (x.toSV (Pi M))
 | .tup xs=>.tup (xs.map (SX.toSV (Pi M)))
 | .top=>.top
 | .oel p j sz off t u=>Aj7 p j (j.toNat*sz+off) t u (E6 M[p]?)
theorem Ae9 {M M':List (BX T)} (h:∀ q:Nat,E6 M'[q]? = E6 M[q]?):Pi M'=Pi M:=by
 funext p
 unfold Pi
 rw[h]
theorem Axu {M M':List (BX T)} (h:∀ q:Nat,E6 M'[q]? = E6 M[q]?) (x:VX T):x.toAV M'=x.toAV M:=by
 cases x with
 | s x=>show AV.s (x.toSV (Pi M'))=_;rw[Ae9 h];rfl
 | tup xs=>show AV.tup (xs.map (SX.toSV (Pi M')))=_;rw[Ae9 h];rfl
 | oel p j sz off t u=>show Aj7 p j (j.toNat*sz+off) t u (E6 M'[p]?)=_;rw[h];rfl
 | top=>rfl
theorem Apg (M:List (BX T)) (b:BX T) (hb:E6 (some b)=none) (q:Nat):E6 (M++[b])[q]? = E6 M[q]? := by
 rcases kH q M.length with h|h|h
 ·rw[zL h]
 ·subst h
  rw[zX (zT _),kZ,zZ (zT _)]
  exact hb
 ·rw[zZ (by simp;omega),zZ (by omega)]
theorem Aeo (M:List (BX T)) (p:Nat) (b:BX T) (hb:E6 (some b)=E6 M[p]?) (q:Nat):E6 (M.set p b)[q]? = E6 M[q]? := by
 by_cases h:q=p
 ·subst h
  by_cases hq:q<M.length
  ·rw[zN hq,hb]
  ·rw[zZ (by simp;omega),zZ (by omega)]
 ·rw[zS (λe=>h e.symm)]
theorem Ah0 (M:List (BX T)) (p:Nat) (b:BX T) (h:q≠p):E6 (M.set p b)[q]? = E6 M[q]? := by rw[zS (λe=>h e.symm)]
theorem Ako (M:List (BX T)) (b:BX T) (h:q≠M.length):E6 (M++[b])[q]? = E6 M[q]? := by
 rcases zQ q M.length with h1|h1
 ·rw[zL h1]
 ·rw[zZ (by simp;omega),zZ h1]
def BX.toBlk (L:Nat->Nat):BX T->Blk
 | .box cs=>.box (cs.map (X.toLf L))
 | .arr e sz k t v=>.arr e sz k (v.flatMap (Oy T t))
 | .dead=>.dead
 | .hole=>.hole
def M8 (M:List (BX T)):List Blk:=M.map (BX.toBlk (Pi M))
structure Fr (T:TT) where
 t:List (Nat×VX T)
 m:List (BX T)
structure XS (T:TT) where
 t:List (Nat×VX T)
 m:List (Option (BX T))
def C4 (z:α) (i:Nat):List (Nat×α)->α
 | []=>z
 | (j,x)::r=>cond (Nat.beq i j) x (C4 z i r)
theorem Js (z:α) (i:Nat):∀ (l r:List (Nat×α)),C4 z i (l++r)=C4 (C4 z i r) i l
 | [],r=>rfl
 | (j,x)::l,r=>by show cond _ _ (C4 z i (l++r))=cond _ _ _;rw[Js z i l r]
def A8:List (BX T)->List (Option (BX T))->List (BX T)
 | _,[]=>[]
 | [],none::m=>.dead::A8 [] m
 | [],some b::m=>b::A8 [] m
 | b::f,none::m=>b::A8 f m
 | _::f,some b::m=>b::A8 f m
theorem D8:∀ (f:List (BX T)) (m:List (Option (BX T))),(A8 f m).length=m.length
 | _,[]=>by unfold A8;rfl
 | [],none::m=>congrArg (·+1) (D8 [] m)
 | [],some b::m=>congrArg (·+1) (D8 [] m)
 | b::f,none::m=>congrArg (·+1) (D8 f m)
 | _::f,some b::m=>congrArg (·+1) (D8 f m)
theorem Nc (b:BX T):∀ (f:List (BX T)) (m:List (Option (BX T))),A8 f (m++[some b])=A8 f m++[b]
 | [],[]=>rfl
 | _::_,[]=>rfl
 | [],none::m=>congrArg (_::·) (Nc b [] m)
 | [],some _::m=>congrArg (_::·) (Nc b [] m)
 | _::f,none::m=>congrArg (_::·) (Nc b f m)
 | _::f,some _::m=>congrArg (_::·) (Nc b f m)
theorem I9 (b:BX T):∀ (f:List (BX T)) (m:List (Option (BX T))) (p:Nat),A8 f (m.set p (some b))=(A8 f m).set p b
 | [],[],p=>rfl
 | _::_,[],p=>rfl
 | [],none::m,0=>rfl
 | [],some _::m,0=>rfl
 | _::f,none::m,0=>rfl
 | _::f,some _::m,0=>rfl
 | [],none::m,p+1=>congrArg (_::·) (I9 b [] m p)
 | [],some _::m,p+1=>congrArg (_::·) (I9 b [] m p)
 | _::f,none::m,p+1=>congrArg (_::·) (I9 b f m p)
 | _::f,some _::m,p+1=>congrArg (_::·) (I9 b f m p)
def XS.get (fr:Fr T) (st:XS T) (i:Nat):VX T:=C4 (C4 .top i fr.t) i st.t
def XS.upd (st:XS T) (d:Nat) (x:VX T):XS T:=⟨(d,x)::st.t,st.m⟩
def XS.M (fr:Fr T) (st:XS T):List (BX T):=A8 fr.m st.m
def XS.L (fr:Fr T) (st:XS T):Nat->Nat:=Pi (st.M fr)
noncomputable def XS.toAS (fr:Fr T) (st:XS T):AS:=⟨λi=>(st.get fr i).toAV (st.M fr),M8 (st.M fr)⟩
theorem XS.toAS_upd (fr:Fr T) (st:XS T) (d:Nat) (x:VX T):(st.upd d x).toAS fr=⟨Go.Proofs.YtkblaobhhoebaaaGreat.Abs.upd (st.toAS fr).t d (x.toAV (st.M fr)),(st.toAS fr).m⟩:=by
 have:(λi=>((st.upd d x).get fr i).toAV (st.M fr))=Go.Proofs.YtkblaobhhoebaaaGreat.Abs.upd (λi=>(st.get fr i).toAV (st.M fr)) d (x.toAV (st.M fr)):=by
  funext i
  show(cond (Nat.beq i d) x (C4 (C4 .top i fr.t) i st.t)).toAV _=cond (Nat.beq i d) (x.toAV _) ((C4 (C4 .top i fr.t) i st.t).toAV _)
  cases Nat.beq i d <;> rfl
 unfold XS.toAS
 rw[<- this]
 rfl
theorem XS.toAS_mem (fr:Fr T) (st:XS T) (m':List (Option (BX T))) (h:∀ q:Nat,E6 (A8 fr.m m')[q]? = E6 (st.M fr)[q]?):(⟨st.t,m'⟩:XS T).toAS fr=⟨(st.toAS fr).t,(A8 fr.m m').map (BX.toBlk (st.L fr))⟩:=by
 have:(λi=>(XS.get fr ⟨st.t,m'⟩ i).toAV (A8 fr.m m'))=λi=>(st.get fr i).toAV (st.M fr):=by
  funext i
  exact Axu h _
 have h2:M8 (A8 fr.m m')=(A8 fr.m m').map (BX.toBlk (st.L fr)):=by
  unfold M8 XS.L
  rw[Ae9 h]
 show AS.mk _ _=AS.mk _ _
 rw[<- h2]
 congr 1
theorem Ot (z:α) (i:Nat):∀ (l:List (Nat×α)),(∃ p∈l,p.1=i/\C4 z i l=p.2)\/(C4 z i l=z/\∀ p∈l,p.1≠i)
 | []=>.inr ⟨rfl,λp h=>by cases h⟩
 | (j,x)::l=>by
  show(∃ p∈((j,x)::l),p.1=i/\cond (Nat.beq i j) x (C4 z i l)=p.2)\/(cond (Nat.beq i j) x (C4 z i l)=z/\∀ p∈((j,x)::l),p.1≠i)
  cases e:Nat.beq i j with
  | true=>exact .inl ⟨(j,x),by simp,(zM e).symm,rfl⟩
  | false =>
   have hne:j≠i:=λh=>by subst h;rw[show Nat.beq j j=true from by simp] at e;cases e
   rcases Ot z i l with⟨p,h1,h2,h3⟩|⟨h1,h2⟩
   ·exact .inl ⟨p,yH _ h1,h2,h3⟩
   ·refine .inr ⟨h1,λp hp=>?_⟩
    cases hp with
    | head=>exact hne
    | tail _ hp=>exact h2 p hp
def Ax8 (p:Nat):X T->Bool
 | .own q=>Nat.beq q p
 | _=>false
def A68 (p:Nat):SX T->Bool
 | .one x=>Ax8 p x
 | .agg xs=>xs.any (Ax8 p)
def A95 (p:Nat):VX T->Bool
 | .s x=>A68 p x
 | .tup xs=>xs.any (A68 p)
 | .oel q _ _ _ _ _=>Nat.beq q p
 | .top=>false
def Bez (p:Nat):X T->X T
 | .own q=>cond (Nat.beq q p) (.old p) (.own q)
 | x=>x
def A8y (p:Nat):BX T->Bool
 | .box cs=>cs.any (Ax8 p)
 | _=>false
def Aj4 (p:Nat):BX T->BX T
 | .box cs=>.box (cs.map (Bez p))
 | b=>b
def Aer (p:Nat):List (BX T)->List (Option (BX T))->List (Option (BX T))
 | b::M,o::m=>cond (A8y p b) (some (Aj4 p b)) o::Aer p M m
 | _,m=>m
def Aeh (g:Nat->VX T) (pr:VX T->Bool):List (Nat×VX T)->List (Nat×VX T)
 | []=>[]
 | (i,_)::l=>cond (pr (g i)) ((i,.top)::Aeh g pr l) (Aeh g pr l)
def XS.dropP (fr:Fr T) (st:XS T) (pr:VX T->Bool):List (Nat×VX T):=Aeh (st.get fr) pr (st.t++fr.t)++st.t
abbrev XS.drop (fr:Fr T) (st:XS T) (p:Nat):List (Nat×VX T):=st.dropP fr (A95 p)
def A6x (p:Nat):VX T->Bool
 | .oel q _ _ _ _ _=>Nat.beq q p
 | _=>false
theorem Ac1 (g:Nat->VX T) (pr:VX T->Bool) (z:VX T) (i:Nat):∀ l:List (Nat×VX T),(C4 z i (Aeh g pr l)=.top)\/(C4 z i (Aeh g pr l)=z/\((∃ q∈l,q.1=i)->pr (g i)=false))
 | []=>.inr ⟨rfl,λh=>by obtain⟨q,h,_⟩:=h;cases h⟩
 | (j,x)::l=>by
  unfold Aeh
  cases e:pr (g j) with
  | true =>
   show cond (Nat.beq i j) .top (C4 z i (Aeh g pr l))=.top\/(cond (Nat.beq i j) .top (C4 z i (Aeh g pr l))=z/\_)
   cases e2:Nat.beq i j with
   | true=>exact .inl rfl
   | false =>
    have hne:j≠i:=λh=>by subst h;rw[show Nat.beq j j=true from by simp] at e2;cases e2
    rcases Ac1 g pr z i l with h|⟨h1,h2⟩
    ·exact .inl h
    ·refine .inr ⟨h1,λ⟨q,hq,hi⟩=>?_⟩
     cases hq with
     | head=>exact absurd hi hne
     | tail _ hq=>exact h2 ⟨q,hq,hi⟩
  | false =>
   show C4 z i (Aeh g pr l)=.top\/(C4 z i (Aeh g pr l)=z/\_)
   rcases Ac1 g pr z i l with h|⟨h1,h2⟩
   ·exact .inl h
   ·refine .inr ⟨h1,λ⟨q,hq,hi⟩=>?_⟩
    cases hq with
    | head=>rw[<- hi];exact e
    | tail _ hq=>exact h2 ⟨q,hq,hi⟩
theorem XS.drop_get (fr:Fr T) (st:XS T) {pr:VX T->Bool} (hpr:pr .top=false) (m':List (Option (BX T))) (i:Nat):XS.get fr ⟨st.dropP fr pr,m'⟩ i=.top\/(XS.get fr ⟨st.dropP fr pr,m'⟩ i=st.get fr i/\pr (st.get fr i)=false):=by
 have e:XS.get fr ⟨st.dropP fr pr,m'⟩ i=C4 (st.get fr i) i (Aeh (st.get fr) pr (st.t++fr.t)):=by
  show C4 (C4 .top i fr.t) i (Aeh (st.get fr) pr (st.t++fr.t)++st.t)=_
  rw[Js];rfl
 rw[e]
 rcases Ac1 (st.get fr) pr (st.get fr i) i (st.t++fr.t) with h|⟨h1,h2⟩
 ·exact .inl h
 ·refine .inr ⟨h1,?_⟩
  by_cases hin:∃ q∈st.t++fr.t,q.1=i
  ·exact h2 hin
  ·have:st.get fr i=.top:=by
    show C4 (C4 .top i fr.t) i st.t=.top
    rw[<- Js]
    rcases Ot (.top:VX T) i (st.t++fr.t) with⟨q,hq,h3,_⟩|⟨h3,_⟩
    ·exact absurd ⟨q,hq,h3⟩ hin
    ·exact h3
   rw[this];exact hpr
theorem Aqd {a b:Nat} (h:Nat.beq a b=false):a≠b:=λe=>by subst e;rw[show Nat.beq a a=true from by simp] at h;cases h
theorem Az2 {L L':Nat->Nat} (hL:∀ q,q≠p->L' q=L q) (h:Ax8 p x=false):x.toLf L'=x.toLf L:=by
 cases x with
 | own q=>show Lf.ls q (L' q)=.ls q (L q);rw[hL q (Aqd h)]
 | _=>rfl
theorem A3m {L L':Nat->Nat} (hL:∀ q,q≠p->L' q=L q) {xs:List (X T)} (h:xs.any (Ax8 p)=false):xs.map (X.toLf L')=xs.map (X.toLf L) :=
 xU λx hx=>Az2 hL (by
  cases e:Ax8 p x with
  | false=>rfl
  | true=>rw[xF.2 ⟨x,hx,e⟩] at h;cases h)
theorem Azq {L L':Nat->Nat} (hL:∀ q,q≠p->L' q=L q) {x:SX T} (h:A68 p x=false):x.toSV L'=x.toSV L:=by
 cases x with
 | one x=>exact congrArg SV.one (Az2 hL h)
 | agg xs=>exact congrArg SV.agg (A3m hL h)
theorem A7l {M M':List (BX T)} (hL:∀ q,q≠p->E6 M'[q]? = E6 M[q]?) {x:VX T} (h:A95 p x=false):x.toAV M'=x.toAV M:=by
 have hL':∀ q,q≠p->Pi M' q=Pi M q:=λq hq=>by unfold Pi;rw[hL q hq]
 cases x with
 | s x=>exact congrArg AV.s (Azq hL' h)
 | tup xs =>
  refine congrArg AV.tup (xU λx hx=>Azq hL' ?_)
  cases e:A68 p x with
  | false=>rfl
  | true=>have h:xs.any (A68 p)=false:=h;rw[xF.2 ⟨x,hx,e⟩] at h;cases h
 | top=>rfl
 | oel q j sz o t u =>
  show Aj7 q j (j.toNat*sz+o) t u (E6 M'[q]?)=_
  rw[hL q (Aqd h)]
  rfl
theorem XS.drop_t (fr:Fr T) (st:XS T) (p:Nat) (m':List (Option (BX T))) (h:∀ q:Nat,q≠p->E6 (A8 fr.m m')[q]? = E6 (st.M fr)[q]?) (i:Nat):((⟨st.drop fr p,m'⟩:XS T).toAS fr).t i=.top\/((⟨st.drop fr p,m'⟩:XS T).toAS fr).t i=(st.toAS fr).t i:=by
 rcases st.drop_get fr (pr:=A95 p) rfl m' i with h1|⟨h1,h2⟩
 ·left;show(XS.get fr ⟨st.drop fr p,m'⟩ i).toAV _=_;rw[h1];rfl
 ·right
  show(XS.get fr ⟨st.drop fr p,m'⟩ i).toAV _=(st.get fr i).toAV _
  rw[h1]
  exact A7l h h2
theorem Ays {b:BX T} (h:A8y p b=false):Aj4 p b=b:=by
 cases b with
 | box cs =>
  have h:cs.any (Ax8 p)=false:=h
  refine congrArg BX.box ?_
  conv=>rhs;rw[<- wR cs]
  refine xU λx hx=>?_
  have:Ax8 p x=false:=by
   cases e:Ax8 p x with
   | false=>rfl
   | true=>rw[xF.2 ⟨x,hx,e⟩] at h;cases h
  cases x with
  | own q=>show cond (Nat.beq q p) _ _=_;rw[show Nat.beq q p=false from this];rfl
  | _=>rfl
 | _=>rfl
theorem Aq1 (o:Option (BX T)) (m:List (Option (BX T))) (f:List (BX T)):∃ b,A8 f (o::m)=b::A8 f.tail m/\∀ o',(o'=o\/o'=some b)->∀ m',A8 f (o'::m')=b::A8 f.tail m':=by
 cases f with
 | nil =>
  cases o with
  | none=>exact⟨.dead,rfl,λo' h m'=>by rcases h with rfl | rfl <;> rfl⟩
  | some b=>exact⟨b,rfl,λo' h m'=>by rcases h with rfl | rfl <;> rfl⟩
 | cons x f =>
  cases o with
  | none=>exact⟨x,rfl,λo' h m'=>by rcases h with rfl | rfl <;> rfl⟩
  | some b=>exact⟨b,rfl,λo' h m'=>by rcases h with rfl | rfl <;> rfl⟩
theorem Aks (b:BX T) (m:List (Option (BX T))) (f:List (BX T)):A8 f (some b::m)=b::A8 f.tail m:=by cases f <;> rfl
theorem Aet (p:Nat):∀ (f:List (BX T)) (m:List (Option (BX T))),A8 f (Aer p (A8 f m) m)=(A8 f m).map (Aj4 p)
 | f,[]=>by cases f <;> rfl
 | f,o::m=>by
  obtain⟨b,h1,h2⟩:=Aq1 o m f
  rw[h1]
  show A8 f (cond (A8y p b) (some (Aj4 p b)) o::Aer p (A8 f.tail m) m)=Aj4 p b::(A8 f.tail m).map (Aj4 p)
  have ih:=Aet p f.tail m
  cases e:A8y p b with
  | true=>show A8 f (some (Aj4 p b)::_)=_;rw[Aks,ih]
  | false=>show A8 f (o::_)=_;rw[h2 o (.inl rfl),ih,Ays e]
theorem Awq (p:Nat) (b:BX T):E6 (some (Aj4 p b))=E6 (some b):=by cases b <;> rfl
theorem Ams (p:Nat) (M:List (BX T)) (q:Nat):E6 (M.map (Aj4 p))[q]? = E6 M[q]? := by
 rw[zK]
 cases M[q]? with
 | none=>rfl
 | some b=>exact Awq p b
def LfW (l l':Lf):Prop:=l'=l\/∃ p n,l=.ls p n/\l'=.ls p 0
def Agv (b b':Blk):Prop:=b'=b\/∃ cs cs',b=.box cs/\b'=.box cs'/\cs'.length=cs.length/\∀ (j:Nat) (l l':Lf),cs[j]? = some l->cs'[j]? = some l'->LfW l l'
theorem LfW.grep {l l':Lf} (h:LfW l l') (r:Bf w S m H l v):Bf w S m H l' v:=by
 rcases h with rfl|⟨p,n,rfl,rfl⟩
 ·exact r
 ·obtain⟨h1,h2,h3⟩:=r
  refine⟨h1,h2,λe sz k cs hm=>?_⟩
  obtain⟨h4,h5⟩:=h3 e sz k cs hm
  refine⟨by omega,λh0=>h5 ?_⟩
  omega
theorem Akf {t t':Nat->AV} {m':List Blk} (ht:∀ i,t' i=.top\/t' i=t i) (hl:m'.length=m.length) (hm:∀ (q:Nat) (b b':Blk),m[q]? = some b->m'[q]? = some b'->b'=.dead\/Agv b b') {a:Act} (r:Rel c ⟨t,m⟩ a w S H):Rel c ⟨t',m'⟩ a w S H:=by
 have hb:∀ {q:Nat} {b':Blk},m'[q]? = some b'->∃ b,m[q]? = some b/\(b'=.dead\/Agv b b'):=λ{q b'} h=>by
  have hq:q<m.length:=by rw[<- hl];exact(zB.1 h).1
  exact⟨m[q],zC hq,hm q _ _ (zC hq) h⟩
 have hg:∀ l v,Bf w S m H l v->Bf w S m' H l v:=λl v=>Bf.mono (λ_ _ hs=>⟨hs,rfl⟩) (kF hl.symm) (λ_ _=>rfl) (λp e sz k cs _ hm'=>by
  obtain⟨b,h1,h2⟩:=hb hm'
  rcases h2 with h2|h2|⟨_,_,_,h2,_⟩
  ·cases h2
  ·exact⟨k,cs,h2 ▸ h1,rfl⟩
  ·cases h2)
 have own:∀ {b b':Blk} {v:Value} {g:Nat},(b'=.dead\/Agv b b')->b'.own v=some g->b.own v=some g/\b'.stab=b.stab:=λh ho=>by
  rcases h with rfl|rfl|⟨_,_,rfl,rfl,_⟩
  ·cases ho
  ·exact⟨ho,rfl⟩
  ·exact⟨ho,rfl⟩
 refine⟨r.nt,r.df,λi=>?_,λp b' h=>?_,λp b' g h ho=>?_,λp q b b' g h h' ho ho'=>?_,λp b' g i h ho hs=>?_,r.sl,r.ex,(by rw[show(AS.mk t' m').m.length=m.length from hl];exact r.kl),r.kh,λp e sz k cs hp h=>?_,r.ku⟩
 ·show AVR (Bf w S m' H) (t' i) _
  rcases ht i with h|h
  ·rw[h];trivial
  ·rw[h];exact AVR.mono hg (r.tm i)
 ·obtain⟨b,h1,h2⟩:=hb h
  have hr:=r.bl p b h1
  rcases h2 with rfl|rfl|⟨cs,cs',rfl,rfl,hlen,hc⟩
  ·trivial
  ·cases b' with
   | dead=>trivial
   | hole=>exact hr
   | obj g mk cs=>exact hr
   | tab mk cs=>exact hr
   | arn e sz g n cap cs =>
    obtain⟨h1,cur,h2,h3,h4⟩:=hr
    exact⟨h1,cur,h2,h3,h4.mono hg⟩
   | box cs =>
    obtain⟨g,e,cur,h1,h2,h3⟩:=hr
    exact⟨g,e,cur,h1,h2,h3.mono hg⟩
   | arr e sz k cs=>exact hr
  ·obtain⟨g,e,cur,h3,h4,h5⟩:=hr
   refine⟨g,e,cur,h3,h4,by rw[hlen];exact h5.1,λj l' v hl' hv=>?_⟩
   have hj:j<cs.length:=by rw[<- hlen];exact(zB.1 hl').1
   exact hg _ _ ((hc j _ _ (zC hj) hl').grep (h5.2 j _ v (zC hj) hv))
 ·obtain⟨b,h1,h2⟩:=hb h
  exact r.lo p b g h1 (own h2 ho).1
 ·obtain⟨b1,h1,h2⟩:=hb h
  obtain⟨b2,h3,h4⟩:=hb h'
  exact r.inj p q b1 b2 g h1 h3 (own h2 ho).1 (own h4 ho').1
 ·obtain⟨b,h1,h2⟩:=hb h
  rw[(own h2 ho).2]
  exact r.sb p b g i h1 (own h2 ho).1 hs
 ·obtain⟨b,h1,h2⟩:=hb h
  rcases h2 with h2|h2|⟨_,_,_,h2,_⟩
  ·cases h2
  ·exact r.kr p e sz k cs hp (h2 ▸ h1)
  ·cases h2
theorem A5z {ops:Array Oper} {l:List Oper} {t t':Nat->AV} {m':List Blk} (ht:∀ i,t' i=.top\/t' i=t i) (hl:m'.length=m.length) (hm:∀ (q:Nat) (b b':Blk),m[q]? = some b->m'[q]? = some b'->Agv b b') (k:AWL P c ops Q l ⟨t',m'⟩):AWL P c ops Q l ⟨t,m⟩ :=
 λa w S H r=>k a w S H (Akf ht hl (λq b b' h h'=>.inr (hm q b b' h h')) r)
theorem A6h {x:Code} {t t':Nat->AV} {m':List Blk} (ht:∀ i,t' i=.top\/t' i=t i) (hl:m'.length=m.length) (hm:∀ (q:Nat) (b b':Blk),m[q]? = some b->m'[q]? = some b'->Agv b b') (k:AWC P c x Q ⟨t',m'⟩):AWC P c x Q ⟨t,m⟩ :=
 λa w S H r=>k a w S H (Akf ht hl (λq b b' h h'=>.inr (hm q b b' h h')) r)
theorem A08 {L L':Nat->Nat} (hL:∀ q,q≠p->L' q=L q) (b:BX T):Agv (b.toBlk L) ((Aj4 p b).toBlk L'):=by
 cases b with
 | box cs =>
  refine .inr ⟨_,_,rfl,rfl,by simp,λj l l' h h'=>?_⟩
  simp only[zK,wK] at h h'
  obtain⟨x,hx,rfl⟩:=h
  obtain⟨y,⟨x',hx',rfl⟩,rfl⟩:=h'
  rw[hx] at hx'
  cases hx'
  cases x with
  | own q =>
   show LfW (.ls q (L q)) ((cond (Nat.beq q p) (X.old p) (.own q):X T).toLf L')
   cases e:Nat.beq q p with
   | true=>have:=zM e;subst this;exact .inr ⟨q,_,rfl,rfl⟩
   | false=>exact .inl (by show Lf.ls q (L' q)=_;rw[hL q (Aqd e)])
  | _=>exact .inl rfl
 | _=>exact .inl rfl
def Bcd:Value->VX T
 | .tuple vs=>if vs.size=0 then .tup [] else .top
 | .agg cs=>if cs.all (·.oneCell') then .s (.agg (cs.toList.map λv=>.lf (clf v))) else .top
 | .int .u8 (.ofNat n)=>cond (Nat.blt n 256) (.s (.one (.u8 (UInt8.ofNat n)))) (.s (.one (.lf (clf (.int .u8 (.ofNat n))))))
 | v=>.s (.one (.lf (clf v)))
theorem A3a (M:List (BX T)) (v:Value):(Bcd (T:=T) v).toAV M=cav v:=by
 cases v <;> first|rfl|skip
 ·rename_i k n
  cases k <;> first|rfl|skip
  cases n with
  | negSucc n=>rfl
  | ofNat n =>
   show(cond (Nat.blt n 256) (VX.s (.one (.u8 (UInt8.ofNat n)))) (.s (.one (.lf (clf (.int .u8 (.ofNat n)))))):VX T).toAV M=cav (.int .u8 (.ofNat n))
   cases e:Nat.blt n 256 with
   | false=>rfl
   | true =>
    have h:n<256:=yN e
    show AV.s (.one (.i .u8 ((UInt8.ofNat n).toNat:Int)))=_
    rw[show(UInt8.ofNat n).toNat=n from by simp [UInt8.toNat_ofNat',Nat.mod_eq_of_lt h]]
    rfl
 ·rename_i cs
  show(if cs.all (·.oneCell') then VX.s (.agg (cs.toList.map λv=>X.lf (clf v))) else .top:VX T).toAV M=if cs.all (·.oneCell') then .s (.agg (cs.toList.map clf)) else .top
  by_cases h:cs.all (·.oneCell')=true
  ·rw[if_pos h,if_pos h];simp [VX.toAV,SX.toSV,X.toLf,Function.comp_def]
  ·rw[if_neg h,if_neg h];rfl
 ·rename_i vs
  show(if vs.size=0 then VX.tup [] else .top:VX T).toAV M=if vs.size=0 then .tup [] else .top
  by_cases h:vs.size=0
  ·rw[if_pos h,if_pos h];rfl
  ·rw[if_neg h,if_neg h];rfl
def opx (fr:Fr T) (st:XS T):Operand->VX T
 | .tmp i=>st.get fr i
 | .const v=>Bcd v
 | .global g=>.s (.one (.lf (.raw (.pointer (some ⟨g,0,none⟩)))))
 | .func f=>.s (.one (.lf (.raw (.func (.func f) #[] #[]))))
theorem Aib (fr:Fr T) (st:XS T) (o:Operand):Bg (st.toAS fr) o=(opx fr st o).toAV (st.M fr):=by
 cases o with
 | tmp i=>rfl
 | const v=>exact(A3a _ v).symm
 | global g=>rfl
 | func f=>rfl
theorem Aa0 {fr:Fr T} {st:XS T} {x:SX T} (h:opx fr st o=.s x):Bg (st.toAS fr) o=.s (x.toSV (st.L fr)):=by rw[Aib,h];rfl
theorem Db {fr:Fr T} {st:XS T} (h:opx fr st o=.s (.one x)):Bg (st.toAS fr) o=.s (.one (x.toLf (st.L fr))):=by rw[Aib,h];rfl
class Inf (P:Program) where
 ti:Nat->Option (Bool×Nat)
 ti_ok:∀ {t ag sz},ti t=some (ag,sz)->TI P t ag sz
 fi:Nat->Nat->Option Nat
 fi_ok:∀ {s f off},fi s f=some off->FI P s f off
 si:Nat->Option (Nat×Nat)
 si_ok:∀ {t e sz},si t=some (e,sz)->SI P t e sz
 zi:Nat->Option (List Lf)
 zi_ok:∀ {t zl},zi t=some zl->ZI P t zl
 pi:Nat->Option (List (Nat×Nat))
 pi_ok:∀ {t pl},pi t=some pl->PI P t pl
 ft:Nat->Nat->Option (Nat×Nat)
 ft_ok:∀ {s f off t},ft s f=some (off,t)->FT P s f off t
 bo:Nat->Bool
 bo_ok:∀ {t},bo t=true->P.underlying t=some .bool
 ik:Nat->Option IntKind
 ik_ok:∀ {t k},ik t=some k->P.underlying t=some (.int k)
 mx:Bool
 mx_ok:mx=true->P.follows .mixedOrders=true
 fn:Nat->Bool
 fn_ok:∀ {f},fn f=true->FnI P f
class El (T:TT) (P:Program) where
 el:Nat->Option (Nat×Nat×Tc)
 el_ok:∀ {t e b c},el t=some (e,b,c)->P.underlying t=some (.slice e)/\(∃ zl,EI P e (c.size T) b zl)/\0<b
end
open Go.RowKit
variable {T:TT} [TX T] {P:Program} [Inf P]
section
variable {c:Ctx} {fr:Fr T} {l:Lf} {cs:List (X T)} {op:Op} {v:SX T} {ty:TypeId} {x:X T} {st:XS T}
def Ahh:(t:Tc)->den T t->List (X T)
 | .int k,v=>[.lf (.i k v)]
 | .u8,v=>[.u8 v]
 | .bool,v=>[.lf (.b v)]
 | .str,v=>[.lf (.s v)]
 | .st n,v=>TX.cells n v
 | .sl t,v=>[.row t v]
theorem Ago (L:Nat->Nat) (t:Tc) (v:den T t):(Ahh t v).map (X.toLf L)=Oy T t v:=by
 cases t <;> first|rfl|exact TX.cells_ok _ _ _
def A2m:BinOp->Lf->Lf->Option Lf
 | .lss,.i k n,.i k' m=>if _h:k=k' then some (.b (decide (n<m))) else none
 | .leq,.i k n,.i k' m=>if _h:k=k' then some (.b (decide (n<=m))) else none
 | .gtr,.i k n,.i k' m=>if _h:k=k' then some (.b (decide (m<n))) else none
 | .geq,.i k n,.i k' m=>if _h:k=k' then some (.b (decide (m<=n))) else none
 | .eql,.i k n,.i k' m=>if _h:k=k' then some (.b (decide (n=m))) else none
 | .neq,.i k n,.i k' m=>if _h:k=k' then some (.b (!decide (n=m))) else none
 | .add,.i k n,.i k' m=>if _h:k=k' then some (.i k (k.wrap (n+m))) else none
 | .sub,.i k n,.i k' m=>if _h:k=k' then some (.i k (k.wrap (n-m))) else none
 | .mul,.i k n,.i k' m=>if _h:k=k' then some (.i k (k.wrap (n*m))) else none
 | _,_,_=>none
omit [Inf P] in
theorem Ayk {st:AS} {op:BinOp} {xt yt:TypeId} {x y:Operand} {l' z:Lf} (h:A2m op l l'=some z) (hx:Bg st x=.s (.one l)) (hy:Bg st y=.s (.one l')) :
  OpV P c st (.binOp op xt x y yt) ty (.s (.one z)):=by
 unfold A2m at h
 split at h <;> first|(cases h;done)|skip
 all_goals
  split at h
  ·rename_i e
   subst e
   cases h
   first|exact Asd hx hy|exact Aiu hx hy|exact Att hx hy|exact Atf hx hy|exact Aem hx hy|exact Aid hx hy|exact Asw hx hy|exact Av4 hx hy|exact A1b hx hy
  ·cases h
omit [TX T] in
theorem A09 {p:Nat} (h:(A8 fr.m st.m)[p]? = some (.box cs)):(st.toAS fr).m[p]? = some (.box (cs.map (X.toLf (st.L fr)))):=by
 show(M8 (A8 fr.m st.m))[p]? = _
 unfold M8
 rw[zK,h]
 rfl
def lfX:X T->Option Lf
 | .lf l=>some l
 | .u8 v=>some (.i .u8 (v.toNat:Int))
 | _=>none
omit [TX T] in
theorem Asg (L:Nat->Nat) (h:lfX x=some l):x.toLf L=l:=by
 cases x <;> first|(cases h;done)|(cases h;rfl)
def A8l (fr:Fr T) (st:XS T):X T->Option (List (X T))
 | .lf (.lp p off)=>match (A8 fr.m st.m)[p]? with
  | some (.box cs)=>some (cs.drop off)
  | _=>none
 | .el t v _ off=>some ((Ahh t v).drop off)
 | _=>none
theorem Aim (h:A8l fr st x=some cs):∃ ls,Ady (st.toAS fr) (x.toLf (st.L fr)) (cs.map (X.toLf (st.L fr))++ls):=by
 unfold A8l at h
 split at h
 ·rename_i p off
  split at h
  ·rename_i cs' hm
   cases h
   refine⟨[],?_⟩
   rw[xC,j9]
   exact .lp p off _ (A09 hm)
  ·cases h
 ·rename_i t v rest off
  cases h
  refine⟨if off<=(Oy T t v).length then rest else rest.drop (off-(Oy T t v).length),?_⟩
  have:(((Ahh t v).drop off).map (X.toLf (st.L fr))++if off<=(Oy T t v).length then rest else rest.drop (off-(Oy T t v).length))=(Oy T t v++rest).drop off:=by
   rw[j9,Ago,jA]
   split
   ·rename_i hle;rw[Nat.sub_eq_zero_of_le hle];rfl
   ·rfl
  rw[this]
  exact .cp _
 ·cases h
def ldX (fr:Fr T) (st:XS T) (x:X T):Bool×Nat->Option (SX T)
 | (false,1)=>match A8l fr st x with
  | some (y::_)=>some (.one y)
  | _=>none
 | (true,sz)=>match A8l fr st x with
  | some cs=>if _h:Nat.ble sz cs.length=true then some (.agg (cs.take sz)) else none
  | none=>none
 | _=>none
theorem A64 {t:TypeId} {o:Operand} {i:Bool×Nat} {y:SX T} (hi:Inf.ti P t=some i) (ho:opx fr st o=.s (.one x)) (h:ldX fr st x i=some y):OpV P c (st.toAS fr) (.load t o) ty (.s (y.toSV (st.L fr))):=by
 unfold ldX at h
 split at h
 ·split at h
  ·rename_i y' r hp
   cases h
   obtain⟨ls,hp⟩:=Aim hp
   exact T0 (Inf.ti_ok hi) (Db ho) hp rfl
  ·cases h
 ·rename_i sz
  split at h
  ·rename_i cs hp
   split at h
   ·rename_i hb
    cases h
    obtain⟨ls,hp⟩:=Aim hp
    have hle:=yN hb
    have:=Rb (P:=P) (c:=c) (ty:=ty) (Inf.ti_ok hi) (Db ho) hp (by simp;omega)
    rw[xG (by simpa using hle),<- jO] at this
    exact this
   ·cases h
  ·cases h
 ·cases h
def faX (off:Nat):X T->Option (X T)
 | .lf (.lp p o)=>some (.lf (.lp p (o+off)))
 | .el t v rest o=>some (.el t v rest (o+off))
 | _=>none
def A4c (cs:List (X T)) (off:Nat) (ls:List (X T)):List (X T):=cs.take off++ls++cs.drop (off+ls.length)
omit [TX T] in
theorem Aiy (L:Nat->Nat) (cs:List (X T)) (off:Nat) (ls:List (X T)):(A4c cs off ls).map (X.toLf L)=Eu (cs.map (X.toLf L)) off (ls.map (X.toLf L)):=by simp [A4c,Eu]
def SX.cells:SX T->List (X T)
 | .one x=>[x]
 | .agg xs=>xs
omit [TX T] in
theorem SX.cells_ok (L:Nat->Nat) (x:SX T):(x.toSV L).cells=x.cells.map (X.toLf L):=by cases x <;> rfl
def A85 (fr:Fr T) (st:XS T) (pl:List (Nat×Nat)):List (Nat×Operand)->List (X T)->Option (List (X T))
 | [],cs=>some cs
 | p::ps,cs=>match pl[p.1]?,opx fr st p.2 with
  | some (off,s),.s x=>cond (Nat.beq x.cells.length s&&Nat.ble (off+s) cs.length) (A85 fr st pl ps (A4c cs off x.cells)) none
  | _,_=>none
omit [TX T] in
theorem Auw {pl:List (Nat×Nat)}:∀ {ps:List (Nat×Operand)} {cs out:List (X T)},A85 fr st pl ps cs=some out->∃ xs,Aci (st.toAS fr) ps xs/\Yk (λi:Nat=>pl[i]?) (cs.map (X.toLf (st.L fr))) xs (out.map (X.toLf (st.L fr)))
 | [],cs,out,h=>by cases h;exact⟨[],Li,.nil _⟩
 | p::ps,cs,out,h=>by
  unfold A85 at h
  split at h
  ·rename_i off s x hp hx
   cases hb:(Nat.beq x.cells.length s&&Nat.ble (off+s) cs.length) with
   | false=>rw[hb] at h;cases h
   | true =>
    rw[hb] at h
    rw[zG] at hb
    obtain⟨xs,h1,h2⟩:=Auw h
    refine⟨_,Ed (i:=p.1) (Aa0 hx) h1,A51 _ hp (by rw[SX.cells_ok,zP];exact zM hb.1) (by rw[zP];exact yN hb.2) ?_ h2⟩
    rw[Aiy,SX.cells_ok]
  ·cases h
def A9y:X T->Bool
 | .lf (.lp ..)=>true
 | .el .. =>true
 | _=>false
def Baf (P:Program) [Inf P] (fr:Fr T) (st:XS T):Op->Option (SX T)
 | .move x=>match opx fr st x with
  | .s v=>some v
  | _=>none
 | .assign x=>match opx fr st x with
  | .s v=>some v
  | _=>none
 | .pick b x y=>match opx fr st b with
  | .s (.one (.lf (.b true)))=>match opx fr st x with
   | .s v=>some v
   | _=>none
  | .s (.one (.lf (.b false)))=>match opx fr st y with
   | .s v=>some v
   | _=>none
  | _=>none
 | .binOp op _ x y _=>match opx fr st x,opx fr st y with
  | .s (.one a),.s (.one b)=>match lfX a,lfX b with
   | some l,some l'=>match A2m op l l' with
    | some z=>some (.one (.lf z))
    | none=>none
   | _,_=>none
  | _,_=>none
 | .unOp .not _ x=>match opx fr st x with
  | .s (.one (.lf (.b p)))=>some (.one (.lf (.b (!p))))
  | _=>none
 | .fieldAddr s x f=>match Inf.fi P s f,opx fr st x with
  | some off,.s (.one p)=>match faX off p with
   | some q=>some (.one q)
   | none=>none
  | _,_=>none
 | .load t x=>match Inf.ti P t,opx fr st x with
  | some i,.s (.one p)=>ldX fr st p i
  | _,_=>none
 | .extract x ix=>match opx fr st x with
  | .tup xs=>xs[ix]?
  | _=>none
 | .unOp .neg _ x=>match opx fr st x with
  | .s (.one (.lf (.i k n)))=>some (.one (.lf (.i k (k.wrap (-n)))))
  | _=>none
 | .nilCheck x=>match opx fr st x with
  | .s (.one p)=>cond (A9y p) (some (.one p)) none
  | _=>none
 | .call ⟨.builtin .min,⟨[x,y]⟩,_⟩=>match opx fr st x,opx fr st y with
  | .s (.one (.lf (.i k n))),.s (.one (.lf (.i _ m)))=>some (.one (.lf (.i k (if m<n then m else n))))
  | _,_=>none
 | .call ⟨.builtin .max,⟨[x,y]⟩,_⟩=>match opx fr st x,opx fr st y with
  | .s (.one (.lf (.i k n))),.s (.one (.lf (.i _ m)))=>some (.one (.lf (.i k (if m > n then m else n))))
  | _,_=>none
 | .build t parts=>match Inf.zi P t,Inf.pi P t with
  | some zl,some pl=>match A85 fr st pl parts.toList (zl.map X.lf) with
   | some out=>some (.agg out)
   | none=>none
  | _,_=>none
 | _=>none
theorem A2k (h:Baf P fr st op=some v):OpV P c (st.toAS fr) op ty (.s (v.toSV (st.L fr))):=by
 unfold Baf at h
 split at h
 ·split at h
  ·rename_i hx;cases h;exact Du (Aa0 hx)
  ·cases h
 ·split at h
  ·rename_i hx;cases h;exact Vk (Aa0 hx)
  ·cases h
 ·split at h
  ·rename_i hb
   split at h
   ·rename_i hx;cases h;exact Iv (Db hb) (Aa0 hx)
   ·cases h
  ·rename_i hb
   split at h
   ·rename_i hx;cases h;exact Ma (Db hb) (Aa0 hx)
   ·cases h
  ·cases h
 ·split at h
  ·rename_i h1 h2
   split at h
   ·rename_i l1 l2
    split at h
    ·rename_i hz;cases h;exact Ayk hz ((Db h1).trans (by rw[Asg _ l1])) ((Db h2).trans (by rw[Asg _ l2]))
    ·cases h
   ·cases h
  ·cases h
 ·split at h
  ·rename_i h1;cases h;exact Zx (Db h1)
  ·cases h
 ·split at h
  ·rename_i off p hf hx
   split at h
   ·rename_i q hq
    cases h
    unfold faX at hq
    split at hq
    ·cases hq;exact Aw (Inf.fi_ok hf) (Db hx)
    ·cases hq
     have:=Pn (P:=P) (c:=c) (ty:=ty) (Inf.fi_ok hf) (Db hx)
     rw[kL] at this
     exact this
    ·cases hq
   ·cases h
  ·cases h
 ·split at h
  ·rename_i hi hx;exact A64 hi hx h
  ·cases h
 ·split at h
  ·rename_i xs hx
   refine Jw (xs:=xs.map (SX.toSV (st.L fr))) (by rw[Aib,hx];rfl) (by rw[zK,h];rfl)
  ·cases h
 ·split at h
  ·rename_i hx;cases h;exact A00 (Db hx)
  ·cases h
 ·split at h
  ·rename_i p hx
   cases hp:A9y p with
   | false=>rw[hp] at h;cases h
   | true =>
    rw[hp] at h
    cases h
    unfold A9y at hp
    split at hp
    ·exact Add (Db hx) rfl (λp n o e=>by cases e)
    ·exact Add (Db hx) rfl (λp n o e=>by cases e)
    ·cases hp
  ·cases h
 ·split at h
  ·rename_i h1 h2;cases h;exact As0 (Db h1) (Db h2)
  ·cases h
 ·split at h
  ·rename_i h1 h2;cases h;exact A2n (Db h1) (Db h2)
  ·cases h
 ·split at h
  ·rename_i t parts _ _ zl pl hz hp
   split at h
   ·rename_i out ho
    cases h
    obtain⟨xs,h1,h2⟩:=Auw ho
    have e:(zl.map (X.lf (T:=T))).map (X.toLf (st.L fr))=zl:=by simp [X.toLf,Function.comp_def]
    rw[e] at h2
    exact Vy (Inf.zi_ok hz) (Inf.pi_ok hp) h1 h2
   ·cases h
  ·cases h
 ·cases h
def A9j (P:Program) [Inf P] (fr:Fr T) (st:XS T):Op->Option (SX T)
 | .field s x f=>match Inf.ft P s f,opx fr st x with
  | some (off,t),.s (.agg xs)=>match Inf.ti P t with
   | some (false,1)=>match xs[off]? with
    | some y=>some (.one y)
    | none=>none
   | some (true,sz)=>cond (Nat.ble (off+sz) xs.length) (some (.agg ((xs.drop off).take sz))) none
   | _=>none
  | _,_=>none
 | .binOp .eql xt x y _=>match Inf.bo P xt,opx fr st x,opx fr st y with
  | true,.s (.one (.lf (.b p))),.s (.one (.lf (.b q)))=>some (.one (.lf (.b (p==q))))
  | _,_,_=>none
 | .binOp .neq xt x y _=>match Inf.bo P xt,opx fr st x,opx fr st y with
  | true,.s (.one (.lf (.b p))),.s (.one (.lf (.b q)))=>some (.one (.lf (.b (!(p==q)))))
  | _,_,_=>none
 | .convert s t x=>match Inf.ik P s,Inf.ik P t,opx fr st x with
  | some _,some k,.s (.one y)=>match lfX y with
   | some (.i _ n)=>some (.one (.lf (.i k (k.wrap n))))
   | _=>none
  | _,_,_=>none
 | _=>none
omit [TX T] in
theorem A3v (h:A9j P fr st op=some v):OpV P c (st.toAS fr) op ty (.s (v.toSV (st.L fr))):=by
 unfold A9j at h
 split at h
 ·split at h
  ·rename_i off t xs hf hx
   split at h
   ·rename_i ht
    split at h
    ·rename_i y hy
     cases h
     exact Arl (Inf.ft_ok hf) (Inf.ti_ok ht) (Aa0 hx) (by rw[zK,hy];rfl)
    ·cases h
   ·rename_i sz ht
    cases hb:Nat.ble (off+sz) xs.length with
    | false=>rw[hb] at h;cases h
    | true =>
     rw[hb] at h
     cases h
     have:=Aq4 (P:=P) (c:=c) (ty:=ty) (Inf.ft_ok hf) (Inf.ti_ok ht) (Aa0 hx) (by rw[zP];exact yN hb)
     rw[<- j9,<- jO] at this
     exact this
   ·cases h
  ·cases h
 ·split at h
  ·rename_i hb h1 h2;cases h;exact Aw6 (Inf.bo_ok hb) (Db h1) (Db h2)
  ·cases h
 ·split at h
  ·rename_i hb h1 h2;cases h;exact Axi (Inf.bo_ok hb) (Db h1) (Db h2)
  ·cases h
 ·split at h
  ·rename_i hs ht hx
   split at h
   ·rename_i hl;cases h;exact Akb (Inf.ik_ok hs) (Inf.ik_ok ht) ((Db hx).trans (by rw[Asg _ hl]))
   ·cases h
  ·cases h
 ·cases h
def A9r (P:Program) (fr:Fr T) (st:XS T):Op->Option (VX T)
 | .move x=>match opx fr st x with
  | .tup xs=>some (.tup xs)
  | _=>none
 | .convert s t x=>match P.underlying s,P.underlying t,opx fr st x with
  | some (.slice e),some .string,.s (.one (.row .u8 v))=>match P.underlying e with
   | some (.int .u8)=>some (.s (.one (.lf (.s ⟨List.toArray v⟩))))
   | _=>none
  | _,_,_=>none
 | .binOp .eql _ x y _=>match opx fr st x,opx fr st y with
  | .s (.one (.lf (.s p))),.s (.one (.lf (.s q)))=>some (.s (.one (.lf (.b (p.data.toList==q.data.toList)))))
  | _,_=>none
 | .binOp .neq _ x y _=>match opx fr st x,opx fr st y with
  | .s (.one (.lf (.s p))),.s (.one (.lf (.s q)))=>some (.s (.one (.lf (.b (!(p.data.toList==q.data.toList))))))
  | _,_=>none
 | _=>none
omit [TX T] [Inf P] in
theorem A35 {v:VX T} (h:A9r P fr st op=some v):OpV P c (st.toAS fr) op ty (v.toAV (st.M fr)):=by
 unfold A9r at h
 split at h
 ·split at h
  ·rename_i xs hx;cases h;exact Ae3 (by rw[Aib,hx];rfl)
  ·cases h
 ·split at h
  ·rename_i e v hs ht hx
   split at h
   ·rename_i he
    cases h
    exact Aho (l:=v) hs he ht (Db hx) rfl rfl
   ·cases h
  ·cases h
 ·split at h
  ·rename_i p q hx hy
   cases h
   exact Atp (p:=p.data.toList) (q:=q.data.toList) (Db hx) (Db hy)
  ·cases h
 ·split at h
  ·rename_i p q hx hy
   cases h
   exact Au4 (p:=p.data.toList) (q:=q.data.toList) (Db hx) (Db hy)
  ·cases h
 ·cases h
def evV (P:Program) [Inf P] (fr:Fr T) (st:XS T) (op:Op):Option (VX T):=match Baf P fr st op with
 | some v=>some (.s v)
 | none=>match A9j P fr st op with
  | some v=>some (.s v)
  | none=>A9r P fr st op
theorem A0k {v:VX T} (h:evV P fr st op=some v):OpV P c (st.toAS fr) op ty (v.toAV (st.M fr)):=by
 unfold evV at h
 split at h
 ·rename_i hv;cases h;exact A2k hv
 ·split at h
  ·rename_i hv;cases h;exact A3v hv
  ·exact A35 h
end
end Go.Proofs.YtkblaobhhoebaaaGreat.Abs
