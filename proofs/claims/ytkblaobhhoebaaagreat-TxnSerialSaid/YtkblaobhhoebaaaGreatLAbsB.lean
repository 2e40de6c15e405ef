/-
  A walk over abstract states: its rules, part B.
-/
import Derived.Test.YtkblaobhhoebaaaGreatLAbsA
import Derived.Laws.Externs
import Derived.Lib.BytesEntry
import GoSem.Core.View
import Derived.Lib.AppendZeros
import Derived.Laws.Cover3
import Derived.Laws.StructEq
import Derived.ProofKit
import Derived.LaidMore
import Derived.OpenShut
import Derived.MakeChecks
import Derived.RangeFuncOwn
import Derived.OrdersIn
set_option linter.unusedVariables false
set_option linter.unusedSimpArgs false
namespace Go.Proofs.YtkblaobhhoebaaaGreat.Abs
open Go.RowKit
structure Ax9 (ops:Array Oper) (i0:Nat):Prop where
 dst:∀ (i:Nat) (o:Oper),ops[i]? = some o->i≠i0->∃ d,o.dst=some d
 lt:∀ (i:Nat) (o:Oper),ops[i]? = some o->∀ e∈o.after,Region.binds .any e=true->e.on<i
 ne:∀ (i:Nat) (o:Oper) (j:Nat) (p:Oper),ops[i]? = some o->ops[j]? = some p->i≠j->o.dst≠p.dst
 ed:∀ (i:Nat) (o:Oper) (j:Nat) (p:Oper) (d:Tmp),ops[i]? = some o->ops[j]? = some p->p.dst=some d->d∈o.looksAt ops->∃ e∈o.after,e.on=j/\Region.binds .any e=true
structure Xq (ops:Array Oper):Prop where
 lt:∀ (i:Nat) (o:Oper),ops[i]? = some o->∀ e∈o.after,Region.binds .any e=true->e.on<i
 ne:∀ (i:Nat) (o:Oper) (j:Nat) (p:Oper),ops[i]? = some o->ops[j]? = some p->i≠j->∀ d,o.dst=some d->p.dst≠some d
 ed:∀ (i:Nat) (o:Oper) (j:Nat) (p:Oper) (d:Tmp),ops[i]? = some o->ops[j]? = some p->p.dst=some d->d∈o.looksAt ops->∃ e∈o.after,e.on=j/\Region.binds .any e=true
structure Acr (md M:List Blk):Prop where
 len:md.length=M.length
 at_:∀ (p:Nat) (b:Blk),md[p]? = some b->b=.dead\/M[p]? = some b
 arr:∀ (p:Nat) (e sz k:Nat) (cs:List Lf),M[p]? = some (.arr e sz k cs)->md[p]? = some (.arr e sz k cs)
theorem Acr.up {md M:List Blk} (h:Acr md M) {w:World} {S:Bz} {H:Nat->Value} {l:Lf} {v:Value} (g:Bt w S md H l v):Bt w S M H l v :=
 Bt.mono (λ_ _ hs=>⟨hs,rfl⟩) (kC h.len) (λ_ _=>rfl) (λp e sz k cs _ hm=>⟨k,cs,h.arr p e sz k cs hm,rfl⟩) g
theorem Acr.down {md M:List Blk} (h:Acr md M) {w:World} {S:Bz} {H:Nat->Value} {l:Lf} {v:Value} (g:Bt w S M H l v):Bt w S md H l v:=by
 refine Bt.mono (λ_ _ hs=>⟨hs,rfl⟩) (kC h.len.symm) (λ_ _=>rfl) (λp e sz k cs _ hm=>⟨k,cs,?_,rfl⟩) g
 rcases h.at_ p _ hm with h|h
 ·cases h
 ·exact h
theorem Rel.down {c:Ctx} {t:Nat->AV} {md M:List Blk} {a:Act} {w:World} {S:Bz} {H:Nat->Value} (h:Acr md M) (r:Rel c ⟨t,M⟩ a w S H):Rel c ⟨t,md⟩ a w S H:=by
 refine⟨r.nt,r.df,λi=>AVR.mono (λl v=>h.down) (r.tm i),λp b hb=>?_,λp b g hb ho=>?_,λp q b b' g hb hb' ho ho'=>?_,λp b g i hb ho hs=>?_,r.sl,r.ex,(by have:=r.kl;have:=h.len;simp only at *;omega),r.kh,λp e sz k cs hp hm=>?_,r.ku⟩
 ·rcases h.at_ p b hb with rfl|hb'
  ·trivial
  ·have:=r.bl p b hb'
   cases b with
   | dead=>trivial
   | hole=>exact this
   | obj g mk cs=>exact this
   | tab mk cs=>exact this
   | arn e sz g n cap cs =>
    obtain⟨h1,cur,h2,h3,h4⟩:=this
    exact⟨h1,cur,h2,h3,h4.mono (λl v=>h.down)⟩
   | box cs =>
    obtain⟨g,e,cur,h1,h2,h3⟩:=this
    exact⟨g,e,cur,h1,h2,h3.mono (λl v=>h.down)⟩
   | arr e sz k cs=>exact this
 ·rcases h.at_ p b hb with rfl|hb'
  ·cases ho
  ·exact r.lo p b g hb' ho
 ·rcases h.at_ p b hb with rfl|hb1
  ·cases ho
  ·rcases h.at_ q b' hb' with rfl|hb2
   ·cases ho'
   ·exact r.inj p q b b' g hb1 hb2 ho ho'
 ·rcases h.at_ p b hb with rfl|hb'
  ·cases ho
  ·exact r.sb p b g i hb' ho hs
 ·rcases h.at_ p _ hm with h|h
  ·cases h
  ·exact r.kr p e sz k cs hp h
section
variable {P:Program} {c:Ctx} {t:Nat->AV} {m:List Blk} {Q:Exit->AS->Prop}
theorem All {ops:Array Oper} (hok:Xq ops) {T:Nat->AV} {listed:Array Bool} {i:Nat} {o:Oper} {d:Tmp} (hsz:listed.size=ops.size) (hget:ops[i]? = some o) (hun':listed.getD i true=false) (hd:o.dst=some d) :
  upd (TL ops T listed) d (T d)=TL ops T (listed.setIfInBounds i true):=by
 have hio:i<ops.size:=(yA.1 hget).1
 funext x
 rw[Ej]
 by_cases hx:x=d
 ·subst hx
  rw[if_pos rfl]
  unfold TL
  rw[if_neg]
  rintro⟨j,p,hj,hpd,hl⟩
  by_cases hij:i=j
  ·subst hij
   simp only[zF,xF (by omega:i<listed.size),yI] at hl
   cases hl
  ·exact hok.ne i o j p hget hj hij _ hd hpd
 ·rw[if_neg hx]
  unfold TL
  by_cases hex:∃ (j:Nat) (p:Oper),ops[j]? = some p/\p.dst=some x/\listed.getD j true=false
  ·rw[if_pos hex]
   obtain⟨j,p,hj,hpd,hl⟩:=hex
   rw[if_pos]
   refine⟨j,p,hj,hpd,?_⟩
   have hij:i≠j:=by
    intro e;subst e
    rw[hget] at hj
    cases hj
    rw[hd] at hpd
    cases hpd
    exact hx rfl
   simp only[zF,yV hij]
   simpa [zF] using hl
  ·rw[if_neg hex,if_neg]
   rintro⟨j,p,hj,hpd,hl⟩
   refine hex ⟨j,p,hj,hpd,?_⟩
   by_cases hij:i=j
   ·subst hij;exact hun'
   ·simp only[zF,yV hij] at hl
    simpa [zF] using hl
theorem Zv {ops:Array Oper} {T:Nat->AV} {listed:Array Bool} {i:Nat} {o:Oper} (hget:ops[i]? = some o) (hd:o.dst=none) :
  TL ops T listed=TL ops T (listed.setIfInBounds i true):=by
 funext x
 unfold TL
 have:(∃ (j:Nat) (p:Oper),ops[j]? = some p/\p.dst=some x/\listed.getD j true=false)↔(∃ (j:Nat) (p:Oper),ops[j]? = some p/\p.dst=some x/\(listed.setIfInBounds i true).getD j true=false):=by
  constructor
  ·rintro⟨j,p,hj,hp,hl⟩
   have hij:i≠j:=by intro e;subst e;rw[hget] at hj;cases hj;rw[hd] at hp;cases hp
   exact⟨j,p,hj,hp,by simp only[zF,yV hij];simpa [zF] using hl⟩
  ·rintro⟨j,p,hj,hp,hl⟩
   have hij:i≠j:=by intro e;subst e;rw[hget] at hj;cases hj;rw[hd] at hp;cases hp
   exact⟨j,p,hj,hp,by simp only[zF,yV hij] at hl;simpa [zF] using hl⟩
 by_cases h:∃ (j:Nat) (p:Oper),ops[j]? = some p/\p.dst=some x/\listed.getD j true=false
 ·rw[if_pos h,if_pos (this.1 h)]
 ·rw[if_neg h,if_neg (λh'=>h (this.2 h'))]
def Met (listed:Array Bool) (o:Oper):Prop:=∀ e∈o.after,Region.binds .any e=true->listed.getD e.on false=true
theorem Agv {ops:Array Oper} (hok:Xq ops) {T:Nat->AV} {listed:Array Bool} {i:Nat} {o:Oper} (hsz:listed.size=ops.size) (hget:ops[i]? = some o) (hmet:Met listed o):∀ y∈o.looksAt ops,TL ops T listed y=T y:=by
 intro y hy
 unfold TL
 rw[if_neg]
 rintro⟨j,p,hj,hpd,hl⟩
 obtain⟨e,he,heo,hbind⟩:=hok.ed i o j p y hget hj hpd hy
 have h1:=hmet e he hbind
 rw[heo] at h1
 have hjl:j<ops.size:=(yA.1 hj).1
 simp only[zF] at h1 hl
 rw[zR (by omega)] at h1 hl
 simp only[yI] at h1 hl
 rw[h1] at hl
 cases hl
def Avm (P:Program) (c:Ctx) (ops:Array Oper) (T:Nat->AV) (B:Array Bool->List Blk) (HI:Array Bool->(Nat->Value)->Prop) (i:Nat) (o:Oper):Prop :=
 Aoi ops T o/\∀ listed:Array Bool,listed.size=ops.size->listed.getD i true=false->Met listed o->∀ a w S H,Rel c ⟨TL ops T listed,B listed⟩ a w S H->HI listed H->∀ (K:Act->World->Prop) (Q:Exit->Act->World->Prop),
  (∀ a' w' S' H',Rel c ⟨TL ops T (listed.setIfInBounds i true),B (listed.setIfInBounds i true)⟩ a' w' S' H'->HI (listed.setIfInBounds i true) H'->K a' w')->Oper.wp P o a w K Q
def Ars (P:Program) (c:Ctx) (ops:Array Oper) (T:Nat->AV) (B:Array Bool->List Blk) (HI:Array Bool->(Nat->Value)->Prop) (i:Nat) (o:Oper):Prop :=
 ∀ (listed:Array Bool) (H:Nat->Value),listed.size=ops.size->listed.getD i true=false->Met listed o->HI listed H ->
  ∃ md,(∃ d,o.dst=some d/\d<c.nt/\T6 P c md ops T o (T d))/\Acr md (B listed)/\B (listed.setIfInBounds i true)=B listed/\HI (listed.setIfInBounds i true) H
theorem Aqp {ops:Array Oper} (hok:Xq ops) {T:Nat->AV} {B:Array Bool->List Blk} {HI:Array Bool->(Nat->Value)->Prop} (hT:∀ (i:Nat) (o:Oper),ops[i]? = some o->Ars P c ops T B HI i o\/Avm P c ops T B HI i o)
  (hQ:∀ listed:Array Bool,listed.size=ops.size->(∀ i,i<ops.size->listed.getD i true=true)->Q .normal ⟨T,B listed⟩) :
  ∀ (fuel:Nat) (listed:Array Bool) (a:Act) (w:World) (S:Bz) (H:Nat->Value),listed.size=ops.size->(List.range ops.size).countP (λi=>!listed.getD i true)<=fuel ->
   Rel c ⟨TL ops T listed,B listed⟩ a w S H->HI listed H->wpAny P .any ops (QR c Q) fuel listed a w:=by
 have done:∀ (listed:Array Bool) (a:Act) (w:World) (S:Bz) (H:Nat->Value),listed.size=ops.size->Region.ready .any ops listed=[]->Rel c ⟨TL ops T listed,B listed⟩ a w S H->QR c Q .normal a w:=by
  intro listed a w S H hsz hr r
  have hall:∀ n i,i<n->i<ops.size->listed.getD i true=true:=by
   intro n
   induction n with
   | zero=>intro i h;omega
   | succ n ih =>
    intro i hi hio
    by_cases hb:listed.getD i true=true
    ·exact hb
    ·exfalso
     have hmem:i∈Region.ready .any ops listed:=by
      unfold Region.ready
      refine yG.2 ⟨wL.2 hio,?_⟩
      have hlt:=hok.lt i ops[i] (zR hio)
      have hb':listed.getD i true=false:=by simpa using hb
      simp only[hb',Bool.not_false,wY,zR hio,xE,yI]
      rw[wO]
      intro e he
      cases hbind:Region.binds .any e with
      | false=>rfl
      | true =>
      have hel:=hlt e he hbind
      have h1:=ih e.on (by omega) (by omega)
      have h2:listed.getD e.on false=true:=by
       simp only[zF] at h1 ⊢
       rw[zR (by omega)] at h1 ⊢
       exact h1
      simp [h2]
     rw[hr] at hmem
     cases hmem
  have hTL:TL ops T listed=T:=by
   funext x
   unfold TL
   rw[if_neg]
   rintro⟨i,o,hi,_,hl⟩
   have:=hall (i+1) i (by omega) (yA.1 hi).1
   rw[this] at hl
   cases hl
  rw[hTL] at r
  exact⟨_,S,H,r,hQ listed hsz (λi hi=>hall (i+1) i (by omega) hi)⟩
 intro fuel
 induction fuel with
 | zero =>
  intro listed a w S H hsz hc r hi0
  have hr:Region.ready .any ops listed=[]:=by
   unfold Region.ready
   rw[jP]
   intro i hi hb
   simp only[zS] at hb
   have:0<(List.range ops.size).countP (λi=>!listed.getD i true):=zAk.2 ⟨i,hi,hb.1⟩
   omega
  exact⟨hr,done listed a w S H hsz hr r⟩
 | succ fuel ih =>
  intro listed a w S H hsz hc r hi0
  refine⟨λhr=>done listed a w S H hsz hr r,λi hi=>?_⟩
  unfold Region.ready at hi
  rw[yG] at hi
  obtain⟨hi1,hi2⟩:=hi
  have hio:i<ops.size:=wL.1 hi1
  have hget:ops[i]? = some ops[i]:=zR hio
  simp only[zS,hget,xE,yI] at hi2
  obtain⟨hun,haf⟩:=hi2
  have hun':listed.getD i true=false:=by simpa using hun
  generalize ho:ops[i]=o at *
  have hmet:Met listed o:=by
   intro e he hb
   rw[wO] at haf
   have h1:=haf e he
   rw[hb] at h1
   simpa using h1
  have hlook:=Agv (T:=T) hok hsz hget hmet
  have hcnt:(List.range ops.size).countP (λj=>!(listed.setIfInBounds i true).getD j true)<=fuel:=by
   have:=Ab5 (λj=>!listed.getD j true) (λj=>!(listed.setIfInBounds i true).getD j true) (List.range ops.size) (λj _ hj=>by
    by_cases hij:i=j
    ·subst hij
     simp only[zF,xF (by omega:i<listed.size),yI] at hj
     cases hj
    ·simp only[zF,yV hij] at hj
     simpa [zF] using hj) hi1 hun (by simp only[zF,xF (by omega:i<listed.size),yI];rfl)
   omega
  rcases hT i o hget with hp|⟨hgn,heff⟩
  ·obtain⟨md,⟨d,hd,hdn,hgood⟩,hlift,hB,hHI⟩:=hp listed H hsz hun' hmet hi0
   have hTL':=All (T:=T) hok hsz hget hun' hd
   have next:∀ v w' S',Ext w S w' S'->InH w' S'->AVR (Bt w' S' md H) (T d) v->wpAny P .any ops (QR c Q) fuel (listed.setIfInBounds i true) (a.put o.dst v) w':=by
    intro v w' S' hext hin hv
    rw[hd]
    refine ih _ _ w' S' H (by simpa using hsz) hcnt ?_ hHI
    rw[<- hTL',hB]
    exact(r.ext hext hin).put hdn (AVR.mono (λl u=>hlift.up) hv)
   have hw:wpOp P ops (QR c Q) i (wpAny P .any ops (QR c Q) fuel (listed.setIfInBounds i true)) a w:=by
    unfold wpOp
    rw[hget]
    simp only
    have hrr:Rel c ⟨Q5 T (o.looksAt ops),md⟩ a w S H:=by
     refine(r.down hlift).weak (λy=>?_)
     unfold Q5
     cases hc':(o.looksAt ops).contains y with
     | false=>exact .inr rfl
     | true=>exact .inl (hlook y (by simpa using hc')).symm
    rcases hgood with⟨hg,hop⟩|⟨hg,hx⟩
    ·have hwant:Region.wanted o (yielded ops a.tmps)=true:=by
      rcases hg with hg|⟨j,want,dj,h1,h2,h3⟩
      ·simp [Region.wanted,hg]
      ·have h4:=r.tm dj
       have h5:TL ops T listed dj=.s (.one (.b want)):=by rw[hlook dj (Da h1 h2)];exact h3
       rw[show(⟨TL ops T listed,B listed⟩:AS).t dj=.s (.one (.b want)) from h5] at h4
       have hv:a.tmps.getD dj undef=.bool want:=Tn (h4:Rep w S (.b want) (a.tmps.getD dj undef))
       have hs:a.tmps[dj]? = some (.bool want):=by
        simp only[zF] at hv
        cases hq:a.tmps[dj]? with
        | none=>rw[hq] at hv;cases hv
        | some u=>rw[hq] at hv;simp only[yI] at hv;rw[hv]
       simp only[Region.wanted,h1,yielded,h2,zA,hs,beq_self_eq_true]
     rw[if_pos hwant]
     obtain⟨odst,oop,oty,opos,oaf,og⟩:=o
     exact .inl (hop a w S H hrr odst opos oaf og _ _ (λv w' S' h1 h2 h3=>next v w' S' h1 h2 h3))
    ·have hwant:Region.wanted o (yielded ops a.tmps)=false:=by
      obtain⟨j,want,dj,h1,h2,h3⟩:=hg
      have h4:=r.tm dj
      rw[show(⟨TL ops T listed,B listed⟩:AS).t dj=T dj from hlook dj (Da h1 h2)] at h4
      simp only[Region.wanted,h1,yielded,h2,zA]
      rcases h3 with h3|⟨b,h3,hb⟩
      ·rw[h3] at h4
       obtain⟨vs,hv,_⟩:=h4
       simp only[zF] at hv
       cases hq:a.tmps[dj]? with
       | none=>rfl
       | some u=>rw[hq] at hv;simp only[yI] at hv;subst hv;rfl
      ·rw[h3] at h4
       have hv:a.tmps.getD dj undef=.bool b:=Tn (h4:Rep w S (.b b) (a.tmps.getD dj undef))
       simp only[zF] at hv
       cases hq:a.tmps[dj]? with
       | none=>rfl
       | some u =>
        rw[hq] at hv;simp only[yI] at hv;subst hv
        cases b <;> cases want <;> first|rfl|cases hb
     rw[if_neg (by rw[hwant];simp)]
     have:=next undef w S (Ext.refl w S) r.sl (by rw[hx];exact H8)
     exact this
   exact hw
  ·unfold wpOp
   rw[hget]
   simp only
   have hwant:Region.wanted o (yielded ops a.tmps)=true:=by
    rcases hgn with hg|⟨j,want,dj,h1,h2,h3⟩
    ·simp [Region.wanted,hg]
    ·have h4:=r.tm dj
     have h5:TL ops T listed dj=.s (.one (.b want)):=by rw[hlook dj (Da h1 h2)];exact h3
     rw[show(⟨TL ops T listed,B listed⟩:AS).t dj=.s (.one (.b want)) from h5] at h4
     have hv:a.tmps.getD dj undef=.bool want:=Tn (h4:Rep w S (.b want) (a.tmps.getD dj undef))
     have hs:a.tmps[dj]? = some (.bool want):=by
      simp only[zF] at hv
      cases hq:a.tmps[dj]? with
      | none=>rw[hq] at hv;cases hv
      | some u=>rw[hq] at hv;simp only[yI] at hv;rw[hv]
     simp only[Region.wanted,h1,yielded,h2,zA,hs,beq_self_eq_true]
   rw[if_pos hwant]
   exact .inl (heff listed hsz hun' hmet a w S H r hi0 _ _ (λa' w' S' H' r' h'=>ih _ a' w' S' H' (by simpa using hsz) hcnt r' h'))
end
open Go.RowKit
section
variable {P:Program} {c:Ctx} {t:Nat->AV} {m:List Blk} {Q:Exit->AS->Prop}
theorem Zh {g:Addr} (h:undef=.pointer (some g)):False:=by
 unfold undef at h;cases h
def AWD (P:Program) (c:Ctx) (Q:Exit->AS->Prop) (l:List Oper) (st:AS):Prop:=∀ a w S H,Rel c st a w S H->wpAny P .any l.toArray (QR c Q) l.toArray.size (Array.replicate l.toArray.size false) a w.drew
theorem AWD.awc {st:AS} {id:Nat} {l:List Oper} (hm:P.follows .mixedOrders=true) (h:AWD P c Q l st):AWC P c (.region id l.toArray true) Q st:=λa w S H r=>wp_region_any hm (h a w S H r)
theorem Adc {l:List Oper} {T:Nat->AV} {B:Array Bool->List Blk} {HI:Array Bool->(Nat->Value)->Prop} (ok:Xq l.toArray)
  (hT:∀ (i:Nat) (o:Oper),l.toArray[i]? = some o->Ars P c l.toArray T B HI i o\/Avm P c l.toArray T B HI i o)
  (hTt:∀ y,y∉Ir l->T y=t y)
  (hst:∀ a w S H,Rel c ⟨t,m⟩ a w S H->∃ H',Rel c ⟨t,B (Array.replicate l.toArray.size false)⟩ a w S H'/\HI (Array.replicate l.toArray.size false) H')
  (hQ:∀ listed:Array Bool,listed.size=l.toArray.size->(∀ i,i<l.toArray.size->listed.getD i true=true)->Q .normal ⟨T,B listed⟩):AWD P c Q l ⟨t,m⟩:=by
 intro a w S H r
 have hcnt:(List.range l.toArray.size).countP (λi=>!(Array.replicate l.toArray.size false).getD i true)<=l.toArray.size:=by
  refine yP jT ?_
  simp
 have r':Rel c ⟨t,m⟩ a w.drew S H:=r.ext (Ext.drew w S) (r.sl.ext (Ext.drew w S))
 obtain⟨H',r2,h2⟩:=hst _ _ _ _ r'
 refine Aqp ok hT hQ l.toArray.size (Array.replicate l.toArray.size false) a _ S H' (by simp) hcnt ?_ h2
 refine r2.weak (λx=>?_)
 unfold TL
 by_cases hx:x∈Ir l
 ·right
  rw[if_pos]
  unfold Ir at hx
  rw[wG] at hx
  obtain⟨p,hp,hpd⟩:=hx
  obtain⟨j,hj,hjp⟩:=yU hp
  refine⟨j,p,by simp [hj,hjp],hpd,?_⟩
  simp [zF,hj]
 ·left
  rw[if_neg,hTt x hx]
  rintro⟨i,o,hi,hod,_⟩
  refine hx ?_
  unfold Ir
  rw[wG]
  have hi':l[i]? = some o:=by simpa using hi
  exact⟨o,zG hi',hod⟩
theorem Avs {l:List Oper} (ok:Xq l.toArray):∀ (i:Nat) (o:Oper),l[i]? = some o->∀ y∈o.looksAt l.toArray,y∉Ir (l.drop i):=by
 intro i o hi y hy hm'
 unfold Ir at hm'
 rw[wG] at hm'
 obtain⟨p,hp,hpd⟩:=hm'
 obtain⟨j,hj,hjp⟩:=yU hp
 have hjl:l[i+j]? = some p:=by
  rw[zAa] at hjp
  have:i+j<l.length:=by simp at hj;omega
  rw[zC this,hjp]
 obtain⟨e,he,heo,hb⟩:=ok.ed i o (i+j) p y (by simpa using hi) (by simpa using hjl) hpd hy
 have:=ok.lt i o (by simpa using hi) e he hb
 omega
end
open Go.RowKit
theorem Ac1 {P:Program} {t:TypeId} {zl:List Lf} (h:((P.info? t).bind (·.zero)).map (λz=>(z.cells.toList.map clf,z.cells.all (·.oneCell')))=some (zl,true)):ZI P t zl:=by
 cases hi:P.info? t with
 | none=>rw[hi] at h;cases h
 | some i =>
  rw[hi] at h
  cases hz:i.zero with
  | none=>simp [hz] at h
  | some z =>
   simp only[zA,hz,xE,zJ,Prod.mk.injEq] at h
   exact⟨i,z,hi,hz,h.1,h.2⟩
theorem Tq {P:Program} {e sz bytes:Nat} {zl:List Lf} (h:(P.info? e).bind (λi=>i.zero.map λz=>(i.size,i.bytes,z.cells.size,z.cells.toList.map clf,z.cells.all (·.oneCell')))=some (sz,bytes,sz,zl,true)) (hp:0<sz):EI P e sz bytes zl:=by
 cases hi:P.info? e with
 | none=>rw[hi] at h;cases h
 | some i =>
  rw[hi] at h
  cases hz:i.zero with
  | none=>simp [hz] at h
  | some z =>
   simp only[zA,hz,xE,zJ,Prod.mk.injEq] at h
   exact⟨⟨i,z,hi,hz,h.1,h.2.1,h.2.2.1,h.2.2.2.1,h.2.2.2.2⟩,hp⟩
theorem Ar8 {n:Int} (h:(Lit.int .i64 n).wf=true):-9223372036854775808<=n/\n<=9223372036854775807:=by
 simpa [Lit.wf,IntKind.min,IntKind.max,IntKind.bits,IntKind.signed] using h
def Lf.canon:Lf->Lf
 | .raw (.slice none 0 0)=>.sl 0 []
 | l=>l
def SV.canon:SV->SV
 | .one l=>.one l.canon
 | .agg ls=>.agg (ls.map Lf.canon)
theorem Adl {m:List Blk} {l:Lf} (h:l.pubd=true):Oe m l l.canon m:=by
 unfold Lf.canon
 split
 ·exact .nil
 ·exact .id _ h
theorem F1 {m:List Blk} {xs:List SV} (h:xs.all (λx=>x.cells.all Lf.pubd)=true):W6 m xs (xs.map SV.canon) m:=by
 induction xs with
 | nil=>exact .nil m
 | cons x xs ih =>
  simp only[jB,zS] at h
  refine .cons m m m x x.canon xs _ ?_ (ih h.2)
  cases x with
  | one l=>exact .one _ _ _ _ (Adl (by simpa [SV.cells] using h.1))
  | agg ls =>
   refine .agg _ _ _ _ ?_
   have h1:=zL.1 h.1
   simp only[SV.cells] at h1
   clear h
   induction ls with
   | nil=>exact .nil m
   | cons l ls ih2=>exact .cons m m m l l.canon ls _ (Adl (h1 l (yR ..))) (ih2 (λl' hl=>h1 l' (yQ _ hl)))
theorem Bq {m:List Blk} {xs:List SV} (h:xs.all (λx=>x.cells.all Lf.pubd)=true):W6 m xs xs m:=by
 induction xs with
 | nil=>exact .nil m
 | cons x xs ih =>
  simp only[jB,zS] at h
  refine .cons m m m x x xs xs ?_ (ih h.2)
  cases x with
  | one l=>exact .one _ _ _ _ (.id _ (by simpa [SV.cells] using h.1))
  | agg ls=>exact .agg _ _ _ _ (.all _ _ (zL.1 h.1))
section
variable {P:Program} {c:Ctx} {st:AS} {x y b:Operand} {v:SV} {ty:TypeId}
theorem Bj (h:B2 st x=.s v):OpV P c st (.move x) ty (.s v):=h ▸ Ag3
theorem Wf {xs:List SV} (h:B2 st x=.tup xs):OpV P c st (.move x) ty (.tup xs):=h ▸ Ag3
theorem Hh (h:B2 st x=.s v):OpV P c st (.assign x) ty (.s v):=h ▸ Ai2
theorem Cp (hb:B2 st b=.s (.one (.b true))) (h:B2 st x=.s v):OpV P c st (.pick b x y) ty (.s v):=by
 have:=Ah6 (P:=P) (c:=c) (ty:=ty) (x:=x) (y:=y) hb
 rw[if_pos rfl,h] at this
 exact this
theorem Cn (hb:B2 st b=.s (.one (.b false))) (h:B2 st y=.s v):OpV P c st (.pick b x y) ty (.s v):=by
 have:=Ah6 (P:=P) (c:=c) (ty:=ty) (x:=x) (y:=y) hb
 rw[if_neg (by simp),h] at this
 exact this
end
theorem Agz {P:Program} {t:TypeId} {pl:List (Nat×Nat)} {fs:Array Field} (hu:P.underlying t=some (.struct fs)) (hs:fs.size=pl.length)
  (h:((List.range pl.length).all λj=>match fs[j]?,pl[j]? with|some f,some q=>f.offset==q.1&&((P.info? f.type).map (·.size)==some q.2)|_,_=>false)=true):PI P t pl:=by
 refine⟨fs,hu,hs,λj f q hf hq=>?_⟩
 have hj:j<pl.length:=(zB.1 hq).1
 have:=zL.1 h j (wL.2 hj)
 rw[hf,hq] at this
 simpa using this
open Go.RowKit
theorem Agx (w:World) (p:Addr) (n:Nat):(w.freeze p n).heap.size=w.heap.size:=by
 unfold World.freeze;split <;> simp
theorem Yi (w:World) (p:Addr) (n:Nat) {b:Nat} (h:b≠p.block):(w.freeze p n).heap[b]? = w.heap[b]? := by
 unfold World.freeze
 split
 ·rfl
 ·simp only[kD]
  rw[if_neg (λe=>h e.symm)]
theorem Agk (w:World) (p:Addr) (n:Nat) (a:Addr):(w.freeze p n).cell? a=w.cell? a:=by
 by_cases hb:a.block=p.block
 ·unfold World.freeze
  split
  ·rfl
  ·unfold World.cell?
   simp only[kD,hb,if_true]
   cases w.heap[p.block]? with
   | none=>rfl
   | some o=>cases o <;> rfl
 ·unfold World.cell?
  rw[Yi w p n hb]
theorem Akk (w:World) (p:Addr) (n:Nat):(w.freeze p n).os=w.os/\(w.freeze p n).tape=w.tape/\(w.freeze p n).output=w.output:=by
 unfold World.freeze;split <;> exact⟨rfl,rfl,rfl⟩
section
variable {P:Program} {c:Ctx} {t:Nat->AV} {m:List Blk} {ops:Array Oper} {Q:Exit->AS->Prop} {rest:List Oper} {ty:TypeId} {pos:String} {af:Array Edge} {d:Tmp}
theorem Zc {tt e:TypeId} {x:Operand} {p n e' sz k:Nat} {cs:List Lf} (hd:decide (d<c.nt)=true) (su:P.underlying tt=some (.slice e)) (eu:P.underlying e=some (.int .u8)) (hx:B2 ⟨t,m⟩ x=.s (.one (.ls p n))) (hm:m[p]? = some (.arr e' sz k cs)) (hn:n*sz=cs.length) (hpos:0<n)
  (kk:AWL P c ops Q rest ⟨upd t d (.s (.one (.sl n cs))),m.set p .dead⟩):AWL P c ops Q (⟨some d,.convert tt tt x,ty,pos,af,none⟩::rest) ⟨t,m⟩:=by
 intro a w S H r
 have hx':=Ba r x
 rw[hx] at hx'
 obtain⟨hp,_,hr⟩:=hx'
 have hv:a.eval x=H p:=(hr _ _ _ _ hm).2 hn
 obtain⟨hsz,hk,n0,vals,hown,hls,hst⟩:=r.bl p _ hm
 obtain⟨S',r1,hsub,hrep⟩:=r.pub hm
 have hrep:=hrep n hn
 obtain⟨hvl,hcase⟩:=hown
 rcases hcase with⟨_,h0⟩|⟨g,cap,cur,hHp,hbg,hgg,hnc,hcm,hcs,htake⟩
 ·have:n*sz=0:=by rw[hn,hls.1,hvl,h0,kG]
  have:=Nat.mul_pos hpos hsz
  omega
 ·have hcell:=Agk w ⟨g,cur.size,none⟩ 1
  have hoth:=λb=>Yi w ⟨g,cur.size,none⟩ 1 (b:=b)
  have hsize:=Agx w ⟨g,cur.size,none⟩ 1
  obtain⟨ho1,ho2,ho3⟩:=Akk w ⟨g,cur.size,none⟩ 1
  have hrun:(execOp a.eval ⟨some d,.convert tt tt x,ty,pos,af,none⟩).run P w=.ok (.value (H p)) (w.freeze ⟨g,cur.size,none⟩ 1):=by
   have hsh:w.shape? g=some (e',cur.size):=by unfold World.shape?;rw[hgg]
   simp only[execOp,hv,hHp]
   simp [convert,run_underlying su,run_underlying eu,markStringish,hsh]
  generalize hw':w.freeze ⟨g,cur.size,none⟩ 1=w' at *
  have hset:(m.set p (Blk.arr e' sz cs.length cs)).set p .dead=m.set p .dead:=by simp
  have r2:Rel c ⟨t,m.set p .dead⟩ a w' S' (Mr H p (H p)):=by
   refine r1.change (p:=p) (b':=.dead) (v:=H p) (by simp) (by simp [hp]) (λq hq=>?_) (λb i h=>⟨h,hcell _⟩) (λg' _ h=>rfl) (λe sz k cs _ h=>by cases h)
    (λg' _ hne=>hoth g' (λe=>?_)) trivial (λg' hg=>by cases hg) (λq b g i _ _ _ h=>h) (λg i _ _ h=>h) (r1.sl.turn2 (kC hsize.symm) (λb i _=>hcell _)) (by rw[hsize];exact zO _) ho1 ho2 ho3 (λ_ _ h=>h)
   ·simp only
    rw[zM (λe=>hq e.symm),zM (λe=>hq e.symm)]
   ·have e':g'=g:=e
    subst e'
    exact hne _ (zI hp) (by rw[hHp];rfl)
  refine wpList_plain rfl λK hK=>?_
  unfold Oper.wp
  rw[hrun]
  refine hK _ _ (kk _ _ _ _ (r2.put (d:=d) (x:=.s (.one (.sl n cs))) (of_decide_eq_true hd) ?_))
  exact Bt.of_rep (m:=m.set p .dead) (H:=Mr H p undef) (Rep.mono (λb i h=>⟨h,hcell _⟩) hrep)
end
def Dp:List UInt8->List UInt8->Int
 | [],[]=>0
 | [],_::_=>-1
 | _::_,[]=>1
 | x::xs,y::ys=>if x<y then -1 else if y<x then 1 else Dp xs ys
section
variable {P:Program} {w:World} {S:Bz}
theorem Tc {l:List UInt8} {v:Value} (h:Rep w S (.sl l.length (bl l)) v):(Extern.Bytes.bytesOf v).run P w=.ok ⟨l.toArray⟩ w:=by
 generalize hn:l.length=n at h
 generalize hb:bl l=cs at h
 cases h with
 | sl0 ad cap =>
  have:l=[]:=z7 hn
  subst this
  cases ad <;> rfl
 | sl n cs bk off cap vals hc hm hs hr =>
  subst hn;subst hb
  have hl:=Lib.run_loadBytesX (P:=P) (w:=w) (l.map λb:UInt8=>(b.toNat:Int)) ⟨bk,off,none⟩ .empty (λj x hj=>by
   rw[zQ] at hj
   cases hx:l[j]? with
   | none=>rw[hx] at hj;cases hj
   | some b =>
    rw[hx] at hj
    cases hj
    have hbl:(bl l)[j]? = some (.i .u8 b.toNat):=by simp [bl,hx]
    have h1:=Sk (hr j _ hbl)
    have e:(⟨bk,off,none⟩:Addr).add j=⟨bk,off+j,none⟩:=by unfold Addr.add;split <;> simp_all
    rw[e,(hs j _ hbl).2,h1])
  rw[zY] at hl
  have e:Lib.bytesOf (l.map λb:UInt8=>(b.toNat:Int))=l:=by
   unfold Lib.bytesOf
   rw[List.map_map]
   conv=>rhs;rw[<- kZ l]
   refine kW (λb _=>?_)
   show UInt8.ofNat ((b.toNat:Int)).toNat=b
   rw[zT];exact UInt8.ofNat_toNat
  rw[e] at hl
  show(Extern.Bytes.loadBytes ⟨bk,off,none⟩ l.length .empty).run P w=_
  rw[hl]
  simp
theorem Ar3 (a b:List UInt8):Extern.BytealgCompare.cmp ⟨a.toArray⟩ ⟨b.toArray⟩=Dp a b:=by
 have hget:∀ (l:List UInt8) (i:Nat),(⟨l.toArray⟩:ByteArray)[i]! = l[i]! := by
  intro l i
  by_cases h:i<l.length
  ·rw[getElem!_pos (⟨l.toArray⟩:ByteArray) i (by show i<l.toArray.size;simpa using h),getElem!_pos l i h]
   show l.toArray[i]'_=l[i]
   simp
  ·rw[getElem!_neg (⟨l.toArray⟩:ByteArray) i (by show ¬ i<l.toArray.size;simpa using h),getElem!_neg l i h]
 unfold Extern.BytealgCompare.cmp
 simp only[hget]
 show(match (List.range (min a.length b.length)).find? λi=>a[i]! != b[i]! with
  | some i=>if a[i]! < b[i]! then -1 else 1
  | none=>if a.length<b.length then -1 else if a.length > b.length then 1 else 0)=Dp a b
 induction a generalizing b with
 | nil=>cases b <;> simp [Dp]
 | cons x xs ih =>
  cases b with
  | nil=>simp [Dp]
  | cons y ys =>
   have hr:List.range (min (x::xs).length (y::ys).length)=0::(List.range (min xs.length ys.length)).map (·+1):=by
    rw[show min (x::xs).length (y::ys).length=min xs.length ys.length+1 by simp [Nat.succ_min_succ],List.range_succ_eq_map]
   rw[hr,kU]
   by_cases hxy:x=y
   ·subst hxy
    have ih:=ih ys
    simp only[List.find?_map]
    have hne:((x::xs)[0]! != (x::ys)[0]!)=false:=by simp
    rw[hne]
    simp only[Dp,xB,if_false]
    rw[<- ih]
    have hf:((λi=>(x::xs)[i]! != (x::ys)[i]!) ∘ λi=>i+1)=λi=>xs[i]! != ys[i]! := by
     funext i;simp
    rw[hf]
    cases (List.range (min xs.length ys.length)).find? λi=>xs[i]! != ys[i]! with
    | none=>simp
    | some i=>simp
   ·have hne:((x::xs)[0]! != (y::ys)[0]!)=true:=by simp [hxy]
    rw[hne]
    simp only[Dp]
    simp
    by_cases h1:x<y
    ·simp [h1]
    ·have h2:y<x:=by
      rcases UInt8.lt_or_lt_of_ne hxy with h|h
      ·exact absurd h h1
      ·exact h
     simp [h1,h2]
end
structure XI (P:Program) (f:FuncId) (e:Array Value->Sem Value):Prop where
 h : ∃ fn, P.funcs[f]? = some fn ∧ (fn.name == "runtime.NumGoroutine") = false ∧ fn.body.isNone = true ∧ Extern.findNext fn = none ∧ Extern.find fn = some e
theorem Auq {P:Program} {c:Ctx} {st:AS} {f:FuncId} {x y:Operand} {ats:Array TypeId} {ty:TypeId} {a b:List UInt8} (xi:XI P f Extern.BytealgCompare.compare) (hx:B2 st x=.s (.one (.sl a.length (bl a)))) (hy:B2 st y=.s (.one (.sl b.length (bl b)))) :
  OpV P c st (.call { callee:=.value (.func f),args:=#[x,y],argTypes:=ats }) ty (.s (.one (.i .i64 (Dp a b)))):=by
 intro ac w S H r
 have h1:=Ba r x
 rw[hx] at h1
 have h2:=Ba r y
 rw[hy] at h2
 have h1':Rep w S (.sl a.length (bl a)) (ac.eval x):=h1
 have h2':Rep w S (.sl b.length (bl b)) (ac.eval y):=h2
 refine⟨.int .i64 (Dp a b),Fl (.i _ _),λdst pos af g=>?_⟩
 obtain⟨fn,q1,q2,q3,q4,q5⟩:=xi.h
 have hrun:(Extern.BytealgCompare.compare #[ac.eval x,ac.eval y]).run P w=.ok (.int .i64 (Dp a b)) w:=by
  change Sem.run P (do
   let p <- Extern.Bytes.bytesOf (ac.eval x)
   let q <- Extern.Bytes.bytesOf (ac.eval y)
   pure (goInt (Extern.BytealgCompare.cmp p q))) w=_
  simp only[Sem.run_bind,Tc h1',Tc h2',Result.andThen_ok,Ar3,Sem.run_pure]
  rfl
 have hcall:=run_callFunc_extern (P:=P) q1 q2 q3 q4 q5 #[ac.eval x,ac.eval y] w
 rw[hrun] at hcall
 have e:ac.eval (.func f)=.func (.func f) #[] #[]:=rfl
 simp only[execOp,resolve,e,Deferred.ofValue,invoke,List.map_toArray,xO,List.map_nil]
 simpa using hcall
open Go.RowKit
def Lf.ren0 (r:Nat->Nat):Lf->Lf
 | .lp p o=>.lp (r p) o
 | .ls p n=>.ls (r p) n
 | .ap p n o=>.ap (r p) n o
 | .mp k p=>.mp k (r p)
 | l=>l
def Lf.ren (r:Nat->Nat):Lf->Lf
 | .fn f la lb=>.fn f (la.map (Lf.ren0 r)) (lb.map (Lf.ren0 r))
 | l=>l.ren0 r
def SV.ren (r:Nat->Nat):SV->SV
 | .one l=>.one (l.ren r)
 | .agg ls=>.agg (ls.map (Lf.ren r))
def AV.ren (r:Nat->Nat):AV->AV
 | .s x=>.s (x.ren r)
 | .tup xs=>.tup (xs.map (SV.ren r))
 | .top=>.top
def Blk.ren (r:Nat->Nat):Blk->Blk
 | .box cs=>.box (cs.map (Lf.ren r))
 | .arn e sz g n cap cs=>.arn e sz g n cap (cs.map (Lf.ren r))
 | b=>b
def Lf.inb0 (n:Nat):Lf->Bool
 | .lp p _=>decide (p<n)
 | .ls p _=>decide (p<n)
 | .ap p _ _=>decide (p<n)
 | .mp _ p=>decide (p<n)
 | _=>true
def Lf.inbB (n:Nat):Lf->Bool
 | .fn _ la lb=>la.all (Lf.inb0 n)&&lb.all (Lf.inb0 n)
 | l=>l.inb0 n
def SV.inbB (n:Nat):SV->Bool
 | .one l=>l.inbB n
 | .agg ls=>ls.all (Lf.inbB n)
def Blk.inbB (n:Nat):Blk->Bool
 | .box cs=>cs.all (Lf.inbB n)
 | .arn .. =>false
 | _=>true
theorem Blk.ren_arr {r:Nat->Nat} {b:Blk} {e sz k:Nat} {cs:List Lf} (h:b.ren r=.arr e sz k cs):b=.arr e sz k cs:=by
 cases b <;> first|exact h|cases h
theorem Blk.ren_own {r:Nat->Nat} {b:Blk} {v:Value}:(b.ren r).own v=b.own v:=by cases b <;> rfl
theorem Blk.ren_stab {r:Nat->Nat} {b:Blk}:(b.ren r).stab=b.stab:=by cases b <;> rfl
structure Tie (m M:List Blk) (H H':Nat->Value) (r:Nat->Nat):Prop where
 lt:∀ p,p<m.length->r p<M.length
 h:∀ p,p<m.length->H' (r p)=H p
 b:∀ p b,m[p]? = some b->M[r p]? = some (b.ren r)
theorem Tie.arr {m M:List Blk} {H H':Nat->Value} {r:Nat->Nat} (t:Tie m M H H' r) {p e sz k:Nat} {cs:List Lf} (hp:p<m.length):M[r p]? = some (.arr e sz k cs)↔m[p]? = some (.arr e sz k cs):=by
 have hb:=t.b p _ (zC hp)
 constructor
 ·intro h
  rw[h] at hb
  rw[zC hp,Blk.ren_arr (zD hb).symm]
 ·intro h
  rw[zC hp] at h
  rw[hb,zD h]
  rfl
theorem Tie.up0 {w:World} {S:Bz} {m M:List Blk} {H H':Nat->Value} {r:Nat->Nat} (t:Tie m M H H' r) {l:Lf} {v:Value} (h:Df w S m H l v):Df w S M H' (l.ren0 r) v:=by
 cases l with
 | lp p o=>exact⟨t.lt p h.1,by rw[t.h p h.1];exact h.2⟩
 | mp k p=>exact⟨t.lt p h.1,by rw[t.h p h.1];exact h.2⟩
 | ls p n=>exact⟨t.lt p h.1,⟨h.2.1.1,by rw[t.h p h.1];exact h.2.1.2⟩,λe sz k cs hm=>by rw[t.h p h.1];exact h.2.2 e sz k cs ((t.arr h.1).1 hm)⟩
 | ap p n o=>exact⟨t.lt p h.1,⟨h.2.1.1,by rw[t.h p h.1];exact h.2.1.2⟩,λe sz k cs hm=>by rw[t.h p h.1];exact h.2.2 e sz k cs ((t.arr h.1).1 hm)⟩
 | _=>exact h
theorem Tie.up {w:World} {S:Bz} {m M:List Blk} {H H':Nat->Value} {r:Nat->Nat} (t:Tie m M H H' r) {l:Lf} {v:Value} (h:Bt w S m H l v):Bt w S M H' (l.ren r) v:=by
 have map:∀ {ls:List Lf} {vs:List Value},LsR (Df w S m H) ls vs->LsR (Df w S M H') (ls.map (Lf.ren0 r)) vs:=λ{ls vs} hl =>
  ⟨by simpa using hl.1,λj l v h1 h2=>by
   rw[zQ] at h1
   cases hj:ls[j]? with
   | none=>rw[hj] at h1;cases h1
   | some l0=>rw[hj] at h1;cases h1;exact t.up0 (hl.2 j l0 v hj h2)⟩
 cases l with
 | fn f a b =>
  obtain⟨va,vb,hv,h1,h2⟩:=h
  exact⟨va,vb,hv,map h1,map h2⟩
 | lp p o=>exact t.up0 (w:=w) (S:=S) (l:=.lp p o) h
 | mp k p=>exact t.up0 (w:=w) (S:=S) (l:=.mp k p) h
 | ls p n=>exact t.up0 (w:=w) (S:=S) (l:=.ls p n) h
 | ap p n o=>exact t.up0 (w:=w) (S:=S) (l:=.ap p n o) h
 | i k n=>exact h
 | b x=>exact h
 | s x=>exact h
 | raw v=>exact h
 | sl n cs=>exact h
 | cp cs=>exact h
 | nix=>exact h
 | jk e sz n=>exact h
theorem Tie.down0 {w:World} {S:Bz} {m M:List Blk} {H H':Nat->Value} {r:Nat->Nat} (t:Tie m M H H' r) {l:Lf} {v:Value} (hi:l.inb0 m.length=true) (h:Df w S M H' (l.ren0 r) v):Df w S m H l v:=by
 cases l with
 | lp p o =>
  have hp:p<m.length:=by simpa [Lf.inb0] using hi
  exact⟨hp,by rw[<- t.h p hp];exact h.2⟩
 | mp k p =>
  have hp:p<m.length:=by simpa [Lf.inb0] using hi
  exact⟨hp,by rw[<- t.h p hp];exact h.2⟩
 | ls p n =>
  have hp:p<m.length:=by simpa [Lf.inb0] using hi
  exact⟨hp,⟨h.2.1.1,by rw[<- t.h p hp];exact h.2.1.2⟩,λe sz k cs hm=>by rw[<- t.h p hp];exact h.2.2 e sz k cs ((t.arr hp).2 hm)⟩
 | ap p n o =>
  have hp:p<m.length:=by simpa [Lf.inb0] using hi
  exact⟨hp,⟨h.2.1.1,by rw[<- t.h p hp];exact h.2.1.2⟩,λe sz k cs hm=>by rw[<- t.h p hp];exact h.2.2 e sz k cs ((t.arr hp).2 hm)⟩
 | _=>exact h
theorem Tie.down {w:World} {S:Bz} {m M:List Blk} {H H':Nat->Value} {r:Nat->Nat} (t:Tie m M H H' r) {l:Lf} {v:Value} (hi:l.inbB m.length=true) (h:Bt w S M H' (l.ren r) v):Bt w S m H l v:=by
 have map:∀ {ls:List Lf} {vs:List Value},ls.all (Lf.inb0 m.length)=true->LsR (Df w S M H') (ls.map (Lf.ren0 r)) vs->LsR (Df w S m H) ls vs:=λ{ls vs} ha hl =>
  ⟨by simpa using hl.1,λj l v h1 h2=>t.down0 (zL.1 ha l (zG h1)) (hl.2 j _ v (by rw[zQ,h1];rfl) h2)⟩
 cases l with
 | fn f a b =>
  obtain⟨va,vb,hv,h1,h2⟩:=h
  simp only[Lf.inbB,zS] at hi
  exact⟨va,vb,hv,map hi.1 h1,map hi.2 h2⟩
 | lp p o=>exact t.down0 (w:=w) (S:=S) (l:=.lp p o) hi h
 | mp k p=>exact t.down0 (w:=w) (S:=S) (l:=.mp k p) hi h
 | ls p n=>exact t.down0 (w:=w) (S:=S) (l:=.ls p n) hi h
 | ap p n o=>exact t.down0 (w:=w) (S:=S) (l:=.ap p n o) hi h
 | i k n=>exact h
 | b x=>exact h
 | s x=>exact h
 | raw v=>exact h
 | sl n cs=>exact h
 | cp cs=>exact h
 | nix=>exact h
 | jk e sz n=>exact h
theorem Alr {R R':Lf->Value->Prop} {r:Nat->Nat} {ls:List Lf} {vs:List Value} (hr:∀ l∈ls,∀ v,R l v->R' (l.ren r) v) (h:LsR R ls vs):LsR R' (ls.map (Lf.ren r)) vs :=
 ⟨by simpa using h.1,λj l v h1 h2=>by
  rw[zQ] at h1
  cases hj:ls[j]? with
  | none=>rw[hj] at h1;cases h1
  | some l0=>rw[hj] at h1;cases h1;exact hr l0 (zG hj) v (h.2 j l0 v hj h2)⟩
theorem Adt {R R':Lf->Value->Prop} {r:Nat->Nat} {ls:List Lf} {vs:List Value} (hr:∀ l∈ls,∀ v,R' (l.ren r) v->R l v) (h:LsR R' (ls.map (Lf.ren r)) vs):LsR R ls vs :=
 ⟨by simpa using h.1,λj l v h1 h2=>hr l (zG h1) v (h.2 j _ v (by rw[zQ,h1];rfl) h2)⟩
theorem Tie.svUp {w:World} {S:Bz} {m M:List Blk} {H H':Nat->Value} {r:Nat->Nat} (t:Tie m M H H' r) {x:SV} {v:Value} (h:SVR (Bt w S m H) x v):SVR (Bt w S M H') (x.ren r) v:=by
 cases x with
 | one l=>exact t.up h
 | agg ls =>
  obtain⟨cs,hv,hl⟩:=h
  exact⟨cs,hv,Alr (λl _ v h=>t.up h) hl⟩
theorem Tie.svDown {w:World} {S:Bz} {m M:List Blk} {H H':Nat->Value} {r:Nat->Nat} (t:Tie m M H H' r) {x:SV} {v:Value} (hi:x.inbB m.length=true) (h:SVR (Bt w S M H') (x.ren r) v):SVR (Bt w S m H) x v:=by
 cases x with
 | one l=>exact t.down hi h
 | agg ls =>
  obtain⟨cs,hv,hl⟩:=h
  exact⟨cs,hv,Adt (λl hl v h=>t.down (zL.1 hi l hl) h) hl⟩
theorem Tie.avUp {w:World} {S:Bz} {m M:List Blk} {H H':Nat->Value} {r:Nat->Nat} (t:Tie m M H H' r) {x:AV} {v:Value} (h:AVR (Bt w S m H) x v):AVR (Bt w S M H') (x.ren r) v:=by
 cases x with
 | s x=>exact t.svUp h
 | top=>trivial
 | tup xs =>
  obtain⟨vs,hv,hl,hr⟩:=h
  refine⟨vs,hv,by simpa using hl,λj x u h1 h2=>?_⟩
  rw[zQ] at h1
  cases hj:xs[j]? with
  | none=>rw[hj] at h1;cases h1
  | some x0=>rw[hj] at h1;cases h1;exact t.svUp (hr j x0 u hj h2)
theorem Tie.svsDown {w:World} {S:Bz} {m M:List Blk} {H H':Nat->Value} {r:Nat->Nat} (t:Tie m M H H' r) {xs:List SV} {vs:List Value} (hi:xs.all (SV.inbB m.length)=true) (h:Yv (Bt w S M H') (xs.map (SV.ren r)) vs):Yv (Bt w S m H) xs vs :=
 ⟨by simpa using h.1,λj x v h1 h2=>t.svDown (zL.1 hi x (zG h1)) (h.2 j _ v (by rw[zQ,h1];rfl) h2)⟩
theorem Tie.blkUp {base:Nat} {w:World} {S:Bz} {m M:List Blk} {H H':Nat->Value} {r:Nat->Nat} (t:Tie m M H H' r) {b:Blk} {v:Value} (h:Aj9 base w S m H b v):Aj9 base w S M H' (b.ren r) v:=by
 cases b with
 | dead=>trivial
 | hole=>exact h
 | obj g mk cs=>exact h
 | tab mk cs=>exact h
 | arn e sz g n cap cs =>
  obtain⟨h1,cur,h2,h3,h4⟩:=h
  refine⟨h1,cur,h2,by rw[zY];exact h3,by rw[zY];exact h4.1,λj l v h5 h6=>?_⟩
  rw[zQ] at h5
  cases hj:cs[j]? with
  | none=>rw[hj] at h5;cases h5
  | some l0=>rw[hj] at h5;cases h5;exact t.up (h4.2 j l0 v hj h6)
 | arr e sz k cs=>exact h
 | box cs =>
  obtain⟨g,e,cur,h1,h2,h3⟩:=h
  exact⟨g,e,cur,h1,h2,Alr (λl _ v h=>t.up h) h3⟩
theorem Tie.blkDown {base:Nat} {w:World} {S:Bz} {m M:List Blk} {H H':Nat->Value} {r:Nat->Nat} (t:Tie m M H H' r) {b:Blk} {v:Value} (hi:b.inbB m.length=true) (h:Aj9 base w S M H' (b.ren r) v):Aj9 base w S m H b v:=by
 cases b with
 | dead=>trivial
 | hole=>exact h
 | obj g mk cs=>exact h
 | tab mk cs=>exact h
 | arn e sz g n cap cs=>cases hi
 | arr e sz k cs=>exact h
 | box cs =>
  obtain⟨g,e,cur,h1,h2,h3⟩:=h
  exact⟨g,e,cur,h1,h2,Adt (λl hl v h=>t.down (zL.1 hi l hl) h) h3⟩
structure Mem (w:World) (S:Bz) (m:List Blk) (H:Nat->Value):Prop where
 bl:∀ (p:Nat) (b:Blk),m[p]? = some b->Aj9 0 w S m H b (H p)
 hp:∀ (p:Nat) (b:Blk) (g:Nat),m[p]? = some b->b.own (H p)=some g->g<w.heap.size
 inj:∀ (p q:Nat) (b b':Blk) (g:Nat),m[p]? = some b->m[q]? = some b'->b.own (H p)=some g->b'.own (H q)=some g->p=q
 sb:∀ (p:Nat) (b:Blk) (g i:Nat),m[p]? = some b->b.own (H p)=some g->S g i->i<b.stab
theorem Rel.mem {c:Ctx} {st:AS} {a:Act} {w:World} {S:Bz} {H:Nat->Value} (r:Rel c st a w S H):Mem w S st.m H:=⟨r.bl,λp b g h k=>(r.lo p b g h k).2,r.inj,r.sb⟩
theorem Mem.sel {w:World} {S:Bz} {m M:List Blk} {H H':Nat->Value} {r:Nat->Nat} (t:Tie m M H H' r) (hi:∀ b∈m,b.inbB m.length=true) (hr:∀ p q,p<m.length->q<m.length->r p=r q->p=q) (k:Mem w S M H'):Mem w S m H:=by
 have hlt:∀ {p b},m[p]? = some b->p<m.length:=λh=>(zB.1 h).1
 refine⟨λp b h=>?_,λp b g h ho=>?_,λp q b b' g h h' ho ho'=>?_,λp b g i h ho hs=>?_⟩
 ·have:=k.bl _ _ (t.b p b h)
  rw[t.h p (hlt h)] at this
  exact t.blkDown (hi b (zG h)) this
 ·exact k.hp _ _ g (t.b p b h) (by rw[t.h p (hlt h),Blk.ren_own];exact ho)
 ·exact hr p q (hlt h) (hlt h') (k.inj _ _ _ _ g (t.b p b h) (t.b q b' h') (by rw[t.h p (hlt h),Blk.ren_own];exact ho) (by rw[t.h q (hlt h'),Blk.ren_own];exact ho'))
 ·have:=k.sb _ _ g i (t.b p b h) (by rw[t.h p (hlt h),Blk.ren_own];exact ho) hs
  rwa [Blk.ren_stab] at this
def Ady (m:List Blk) (H:Nat->Value) (g:Nat):Prop:=∃ (p:Nat) (b:Blk),m[p]? = some b/\b.own (H p)=some g
structure Axi (m:List Blk) (H:Nat->Value) (m':List Blk) (H':Nat->Value):Prop where
 len:m.length<=m'.length
 h:∀ p g,p<m.length->H p=.pointer (some ⟨g,0,none⟩)->H' p=H p
 r:∀ p e sz k cs,p<m.length->m'[p]? = some (.arr e sz k cs)->∃ k' cs',m[p]? = some (.arr e sz k' cs')/\((cs'.length=cs.length/\H' p=H p)\/cs'.length<cs.length)
 u:∀ p,p<m.length->H p≠undef->H' p≠undef
def Cv (P:Program) (f:FuncId) (m:List Blk) (args:List SV) (R:AV->List Blk->Prop):Prop :=
 ∀ (w:World) (S:Bz) (H:Nat->Value) (vs:Array Value),InH w S->Mem w S m H->Yv (Bt w S m H) args vs.toList ->
  Calls P f vs w λe w'=>∃ v x m' S' H',e=.returned v/\R x m'/\Vt (Ady m H) w S w' S'/\InH w' S'/\Mem w' S' m' H' /\
   (∀ (p:Nat) (b:Blk) (g:Nat),m'[p]? = some b->b.own (H' p)=some g->w.heap.size<=g\/Ady m H g)/\Axi m H m' H'/\AVR (Bt w' S' m' H') x v
theorem Cv.mono {P:Program} {f:FuncId} {m:List Blk} {args:List SV} {R R':AV->List Blk->Prop} (h:Cv P f m args R) (hr:∀ x m',R x m'->R' x m'):Cv P f m args R' :=
 λw S H vs hS hm hv=>(h w S H vs hS hm hv).mono λ_ _ ⟨v,x,m',S',H',h1,h2,h3⟩=>⟨v,x,m',S',H',h1,hr x m' h2,h3⟩
def at_ (ps:List Nat) (j:Nat):Nat:=ps.getD j 0
def Ay2 (P:Program) (fn:Func) (k:Nat) (R:AV->List Blk->Prop) (e:Exit) (st:AS):Prop :=
 (e=.normal\/e=.ret)/\∃ xs ps ys m',Aah P st fn.results.toList xs/\xs=ys.map (SV.ren (at_ ps))/\ps.map (λp=>st.m[p]?)=m'.map (λb=>some (b.ren (at_ ps))) /\
  (ps.Nodup/\ps.take k=List.range k)/\ys.all (SV.inbB m'.length)=true/\m'.all (Blk.inbB m'.length)=true/\R (Acn ys) m'
theorem Akg {α β γ:Type} {f:α->γ} {g:β->γ} {xs:List α} {ys:List β} (h:xs.map f=ys.map g):xs.length=ys.length/\∀ (j:Nat) (y:β),ys[j]? = some y->∃ x,xs[j]? = some x/\f x=g y:=by
 have hl:xs.length=ys.length:=by simpa using congrArg List.length h
 refine⟨hl,λj y hy=>?_⟩
 have hj:j<xs.length:=by rw[hl];exact(zB.1 hy).1
 refine⟨xs[j],zC hj,?_⟩
 have:=congrArg (λl=>l[j]?) h
 simp only[zQ,hy,zC hj,xE,zJ] at this
 exact this
theorem Zt {ps:List Nat} (h:ps.Nodup) {i j x:Nat} (hi:ps[i]? = some x) (hj:ps[j]? = some x):i=j:=by
 have hi':=(zB.1 hi).1
 have hj':=(zB.1 hj).1
 have e1:=(zB.1 hi).2
 have e2:=(zB.1 hj).2
 exact(List.getElem_inj h).1 (e1.trans e2.symm)
theorem Al8 {R:Lf->Value->Prop} {us:List Value} {ys:List SV} (h1:Yv R ys us):AVR R (Acn ys) (if h:us.toArray.size=1 then us.toArray[0] else .tuple us.toArray):=by
 match us,ys,h1 with
 | [u],[y],h1=>exact h1.2 0 y u rfl rfl
 | [u],[],h1=>have:=h1.1;simp at this
 | [u],_::_::_,h1=>have:=h1.1;simp at this
 | [],[],h1=>exact⟨#[],rfl,rfl,λj x u hx=>by simp at hx⟩
 | [],_::_,h1=>have:=h1.1;simp at this
 | _::_::_,[],h1=>have:=h1.1;simp at this
 | _::_::_,[y],h1=>have:=h1.1;simp at this
 | u1::u2::us,y1::y2::ys,h1=>exact⟨(u1::u2::us).toArray,by simp,by simpa using h1.1,λj x u hx hu=>h1.2 j x u hx (by simpa using hu)⟩
theorem Aed {P:Program} {c:Ctx} {st:AS} {a:Act} {w:World} {S:Bz} {H:Nat->Value} (r:Rel c st a w S H) {fn:Func} {xs:List SV} (h:Aah P st fn.results.toList xs) :
  ∃ us:List Value,Yv (Bt w S st.m H) xs us/\(results fn a.tmps).run P w=.ok (if h:us.toArray.size=1 then us.toArray[0] else .tuple us.toArray) w:=by
 obtain⟨us,hl,hs,hr⟩:=Zz r h
 have hm:(fn.results.mapM (Aer a.tmps)).run P w=.ok us.toArray w:=by
  have:=P5 (P:=P) (Aer a.tmps) w fn.results.toList us hl hr
  rw[j1]
  simp only[Sem.run_map,this,Result.andThen_ok]
 refine⟨us,hs,?_⟩
 rw[Xo,Sem.run_bind,hm]
 rfl
theorem Cs {P:Program} {f:FuncId} {fn:Func} {body:Code} {m:List Blk} {args:List SV} {R:AV->List Blk->Prop} (hf:P.funcs[f]? = some fn) (hb:fn.body=some body) {nt:Nat} (hnt:fn.ntmps=nt) (hn:args.length<=nt)
  (h:∀ w0 S0 X H0,AWC P ⟨w0,S0,nt,X,m,H0⟩ body (Ay2 P fn m.length R) ⟨Ar0 args,m⟩):Cv P f m args R:=by
 subst hnt
 intro w S H vs hS hM hv
 refine calls_of_wp hf hb ?_
 have hlen:vs.size=args.length:=by have:=hv.1;simp at this;omega
 have hget:∀ i,(vs++Array.replicate (fn.ntmps-vs.size) undef).getD i undef=vs.getD i undef:=by
  intro i
  simp only[zF,jS]
  split
  ·rfl
  ·rename_i hi
   rw[wX]
   have:vs[i]? = none:=w6 (by omega)
   rw[this]
   split <;> rfl
 have r0:Rel ⟨w,S,fn.ntmps,Ady m H,m,H⟩ ⟨Ar0 args,m⟩ { tmps:=vs++Array.replicate (fn.ntmps-vs.size) undef,defers:=[] } w S H:=by
  refine⟨by simp;omega,rfl,λi=>?_,hM.bl,λp b g h ho=>⟨.inr ⟨p,b,h,ho⟩,hM.hp p b g h ho⟩,hM.inj,hM.sb,hS,Vt.refl _ w S,zO _,λp g _ _=>rfl,λp e sz k cs _ h=>⟨k,cs,h,.inl ⟨rfl,rfl⟩⟩,λp _ h=>h⟩
  rw[hget]
  show AVR _ (match args[i]? with|some x=>.s x|none=>.tup []) _
  cases ha:args[i]? with
  | none =>
   have:vs[i]? = none:=w6 (by rw[hlen];exact wJ.1 ha)
   simp only[zF,this,zAc]
   exact H8
  | some x =>
   have hi:i<args.length:=(zB.1 ha).1
   have hi':i<vs.size:=by omega
   have:vs[i]? = some vs[i]:=zR hi'
   simp only[zF,this,yI]
   exact hv.2 i x _ ha (by simp)
 refine wp_mono (h w S _ _ _ _ _ _ r0) ?_
 rintro e a w1 ⟨st,S1,H1,r,he,xs,ps,ys,m',hx,hxy,hps,⟨hnd,htk⟩,hiy,him,hR⟩
 obtain⟨us,hus,hrun⟩:=Aed r hx
 obtain⟨hpl,hpg⟩:=Akg hps
 have hat:∀ {j p:Nat},ps[j]? = some p->at_ ps j=p:=λ{j p} h=>by simp [at_,List.getD,h]
 have tie:Tie m' st.m (λp=>H1 (at_ ps p)) H1 (at_ ps):=by
  refine⟨λp hp=>?_,λp _=>rfl,λp b hb=>?_⟩
  ·obtain⟨q,hq,hb⟩:=hpg p _ (zC hp)
   rw[hat hq]
   exact(zB.1 hb).1
  ·obtain⟨q,hq,hb'⟩:=hpg p b hb
   rw[hat hq]
   exact hb'
 have hinj:∀ p q,p<m'.length->q<m'.length->at_ ps p=at_ ps q->p=q:=by
  intro p q hp hq e
  have h1:ps[p]? = some (at_ ps p):=by rw[zC (by omega)];simp [at_,List.getD,zC (show p<ps.length by omega)]
  have h2:ps[q]? = some (at_ ps p):=by rw[e,zC (by omega)];simp [at_,List.getD,zC (show q<ps.length by omega)]
  exact Zt hnd h1 h2
 have hmem:=Mem.sel tie (zL.1 him) hinj r.mem
 have hkk:∀ p,p<m.length->at_ ps p=p/\p<m'.length:=by
  intro p hp
  have h1:(ps.take m.length)[p]? = some p:=by rw[htk];simp [hp]
  rw[yF,if_pos hp] at h1
  exact⟨hat h1,by rw[<- hpl];exact(zB.1 h1).1⟩
 have hml:m.length<=m'.length:=by
  rcases kS m.length with h0|h0
  ·omega
  ·have:=(hkk (m.length-1) (by omega)).2;omega
 have hkept:Axi m H m' (λp=>H1 (at_ ps p)):=by
  refine⟨hml,λp g hp hH=>?_,λp e sz k cs hp hm=>?_,λp hp hne=>by show H1 (at_ ps p)≠undef;rw[(hkk p hp).1];exact r.ku p hp hne⟩
  ·show H1 (at_ ps p)=H p
   rw[(hkk p hp).1]
   exact r.kh p g hp hH
  ·show ∃ k' cs',m[p]? = some (.arr e sz k' cs')/\((cs'.length=cs.length/\H1 (at_ ps p)=H p)\/cs'.length<cs.length)
   rw[(hkk p hp).1]
   have hm2:=tie.b p _ hm
   rw[(hkk p hp).1] at hm2
   exact r.kr p e sz k cs hp hm2
 have hav:AVR (Bt w1 S1 m' (λp=>H1 (at_ ps p))) (Acn ys) (if h:us.toArray.size=1 then us.toArray[0] else .tuple us.toArray):=by
  subst hxy
  exact Al8 (tie.svsDown hiy hus)
 have hown:∀ (p:Nat) (b:Blk) (g:Nat),m'[p]? = some b->b.own (H1 (at_ ps p))=some g->w.heap.size<=g\/Ady m H g:=λp b g hb ho=>(r.lo _ _ g (tie.b p b hb) (by rw[Blk.ren_own];exact ho)).1
 rcases he with rfl|rfl
 ·exact⟨r.df,_,hrun,_,_,_,_,_,rfl,hR,r.ex,r.sl,hmem,hown,hkept,hav⟩
 ·exact⟨r.df,_,hrun,_,_,_,_,_,rfl,hR,r.ex,r.sl,hmem,hown,hkept,hav⟩
def rho (ps:List Nat) (n j:Nat):Nat:=match ps[j]? with|some p=>p|none=>n+(j-ps.length)
def P0 (M:List Blk):List Nat->List Blk->List Blk
  | p::ps,b::bs=>P0 (M.set p b) ps bs
  | [],bs=>M++bs
  | _::_,[]=>M
theorem Abo:∀ {ps:List Nat} {bs M:List Blk},ps.Nodup->(∀ p∈ps,p<M.length)->ps.length<=bs.length ->
    (∀ (j p:Nat),ps[j]? = some p->(P0 M ps bs)[p]? = bs[j]?)/\(∀ q,q<M.length->q∉ps->(P0 M ps bs)[q]? = M[q]?)/\(∀ j,(P0 M ps bs)[M.length+j]? = bs[ps.length+j]?)/\(P0 M ps bs).length=M.length+(bs.length-ps.length)
  | [],bs,M,_,_,_=>by
    refine⟨λj p h=>by simp at h,λq hq _=>by simp [P0,zK hq],λj=>by rw[P0,z2 (by omega)];simp,by simp [P0]⟩
  | p::ps,[],M,_,_,h=>by simp at h
  | p::ps,b::bs,M,hnd,hlt,hl=>by
    have hnd':=xU.1 hnd
    obtain⟨h1,h2,h3,h4⟩:=Abo (ps:=ps) (bs:=bs) (M:=M.set p b) hnd'.2 (λq hq=>by simpa using hlt q (yQ _ hq)) (by simpa using hl)
    have hp:p<M.length:=hlt p (yR ..)
    refine⟨λj q hj=>?_,λq hq hn=>?_,λj=>?_,?_⟩
    · cases j with
      | zero =>
        simp only[yT,zJ] at hj
        subst hj
        show(P0 (M.set p b) ps bs)[p]? = _
        rw[h2 p (by simpa using hp) hnd'.1]
        simp [hp]
      | succ j=>exact h1 j q (by simpa using hj)
    · simp only[yM,not_or] at hn
      show(P0 (M.set p b) ps bs)[q]? = _
      rw[h2 q (by simpa using hq) hn.2,zM (λe=>hn.1 e.symm)]
    · have:=h3 j
      simp only[yS] at this
      show(P0 (M.set p b) ps bs)[M.length+j]? = _
      rw[this]
      simp only[xD]
      rw[show ps.length+1+j=(ps.length+j)+1 by omega,jL]
    · show(P0 (M.set p b) ps bs).length=_
      rw[h4]
      simp
inductive Cal (st:AS):Operand->FuncId->List Lf->List Lf->Prop
  | func (f:FuncId):Cal st (.func f) f [] []
  | fn (x:Operand) (f:FuncId) (la lb:List Lf) (h:B2 st x=.s (.one (.fn f la lb))):Cal st x f la lb
  | raw (x:Operand) (f:FuncId) (h:B2 st x=.s (.one (.raw (.func (.func f) #[] #[])))):Cal st x f [] []
theorem Cal.val {c:Ctx} {st:AS} {a:Act} {w:World} {S:Bz} {H:Nat->Value} (r:Rel c st a w S H) {x:Operand} {f:FuncId} {la lb:List Lf} (h:Cal st x f la lb) :
    ∃ va vb,a.eval x=.func (.func f) va vb/\LsR (Df w S st.m H) la va.toList/\LsR (Df w S st.m H) lb vb.toList:=by
  cases h with
  | func=>exact⟨#[],#[],rfl,⟨rfl,λj l v h=>by simp at h⟩,⟨rfl,λj l v h=>by simp at h⟩⟩
  | fn _ _ _ _ h =>
    have:=Ba r x
    rw[h] at this
    exact this
  | raw _ _ h =>
    have:=Ba r x
    rw[h] at this
    exact⟨#[],#[],Eu this,⟨rfl,λj l v h=>by simp at h⟩,⟨rfl,λj l v h=>by simp at h⟩⟩
theorem Df.up {w:World} {S:Bz} {m:List Blk} {H:Nat->Value} {l:Lf} {v:Value} (h:Df w S m H l v):Bt w S m H l v:=by
  cases l with
  | fn f a b=>exact Bt.of_rep h
  | lp p o=>exact h
  | mp k p=>exact h
  | ls p n=>exact h
  | ap p n o=>exact h
  | i k n=>exact h
  | b x=>exact h
  | s x=>exact h
  | raw v=>exact h
  | sl n cs=>exact h
  | cp cs=>exact h
  | nix=>exact h
  | jk e sz n=>exact h
theorem Vt.trans2 {X Y:Nat->Prop} {w w' w'':World} {S S' S'':Bz} (h:Vt X w S w' S') (k:Vt Y w' S' w'' S'') (hY:∀ b,b<w.heap.size->¬ X b->¬ Y b):Vt X w S w'' S'' :=
  ⟨k.os.trans h.os,k.tape.trans h.tape,k.output.trans h.output,yP h.size k.size,
   λb hb hx=>(k.blk b (z6 hb h.size) (hY b hb hx)).trans (h.blk b hb hx),λb i hs=>k.sub b i (h.sub b i hs),
   λb i hs=>(k.stab b i (h.sub b i hs)).trans (h.stab b i hs),
   λb i hb hx hs=>h.back b i hb hx (k.back b i (z6 hb h.size) (hY b hb hx) hs)⟩
open Classical in
noncomputable def Aoa (ps:List Nat) (n:Nat) (Hc H':Nat->Value) (q:Nat):Value :=
  if h:∃ j:Nat,ps[j]? = some q then H' (Classical.choose h) else if q<n then Hc q else H' (ps.length+(q-n))
theorem Ajk {P:Program} {c:Ctx} {t:Nat->AV} {M:List Blk} {a:Act} {w:World} {S:Bz} {Hc:Nat->Value} (r:Rel c ⟨t,M⟩ a w S Hc) {f:FuncId} {m:List Blk} {ys:List SV} {R:AV->List Blk->Prop} (hc:Cv P f m ys R) {vs:Array Value} {ps:List Nat}
    (hxs:Yv (Bt w S M Hc) (ys.map (SV.ren (rho ps M.length))) vs.toList) (hps:ps.map (λp=>M[p]?)=m.map (λb=>some (b.ren (rho ps M.length)))) (hnd:ps.Nodup) (hiy:ys.all (SV.inbB m.length)=true) (him:m.all (Blk.inbB m.length)=true) :
    Calls P f vs w λe w'=>∃ v x m' S' H',e=.returned v/\R x m'/\Rel c ⟨t,P0 M ps (m'.map (Blk.ren (rho ps M.length)))⟩ a w' S' H'/\AVR (Bt w' S' (P0 M ps (m'.map (Blk.ren (rho ps M.length)))) H') (x.ren (rho ps M.length)) v:=by
  obtain⟨hpl,hpg⟩:=Akg hps
  generalize hn:M.length=n at *
  have hr:∀ {j p:Nat},ps[j]? = some p->rho ps n j=p:=λ{j p} h=>by simp [rho,h]
  have hr2:∀ {j:Nat},ps.length<=j->rho ps n j=n+(j-ps.length):=λ{j} h=>by simp [rho,yL h]
  have hplt:∀ {j p:Nat},ps[j]? = some p->p<n:=λ{j p} h=>by
    have hj:j<m.length:=by rw[<- hpl];exact(zB.1 h).1
    obtain⟨q,hq,hb⟩:=hpg j _ (zC hj)
    rw[h] at hq;cases hq
    rw[<- hn]
    exact(zB.1 hb).1
  have tie:Tie m M (λj=>Hc (rho ps n j)) Hc (rho ps n):=by
    refine⟨λp hp=>?_,λp _=>rfl,λp b hb=>?_⟩
    · obtain⟨q,hq,hb⟩:=hpg p _ (zC hp)
      rw[hr hq,hn];exact hplt hq
    · obtain⟨q,hq,hb'⟩:=hpg p b hb
      rw[hr hq]
      exact hb'
  have hget:∀ {j},j<ps.length->ps[j]? = some (rho ps n j):=λ{j} h=>by
    have:=zC h
    rw[this,hr this]
  have hinj:∀ p q,rho ps n p=rho ps n q->p=q:=by
    intro p q e
    rcases zU p ps.length with hp|hp <;> rcases zU q ps.length with hq|hq
    · exact Zt hnd (hget hp) (by rw[e];exact hget hq)
    · have:=hplt (hget hp);rw[e,hr2 hq] at this;omega
    · have:=hplt (hget hq);rw[<- e,hr2 hp] at this;omega
    · rw[hr2 hp,hr2 hq] at e;omega
  have mem:=Mem.sel tie (zL.1 him) (λp q _ _=>hinj p q) r.mem
  refine(hc w S _ vs r.sl mem (tie.svsDown hiy hxs)).mono ?_
  rintro e w' ⟨v,x,m',S',H',he,hR,ext,hin,mem',hown',kept,hav⟩
  refine⟨v,x,m',S',Aoa ps n Hc H',he,hR,?_⟩
  have hpl':ps.length<=(m'.map (Blk.ren (rho ps n))).length:=by simp;rw[hpl];exact kept.len
  obtain⟨g1,g2,g3,g4⟩:=Abo (ps:=ps) (bs:=m'.map (Blk.ren (rho ps n))) (M:=M) hnd (λp hp=>by
    obtain⟨j,hj,hjp⟩:=yU hp
    rw[hn];exact hplt (by rw[zC hj,hjp])) hpl'
  rw[hn] at g2 g3 g4
  generalize hM':P0 M ps (m'.map (Blk.ren (rho ps n)))=M' at *
  have hmp:ps.length<=m'.length:=by simpa using hpl'
  simp only[zY] at g4
  have hH1:∀ j,Aoa ps n Hc H' (rho ps n j)=H' j:=by
    intro j
    unfold Aoa
    rcases zU j ps.length with hj|hj
    · have hex:∃ j':Nat,ps[j']? = some (rho ps n j):=⟨j,hget hj⟩
      rw[dif_pos hex,Zt hnd (Classical.choose_spec hex) (hget hj)]
    · rw[dif_neg,if_neg (by rw[hr2 hj];omega),hr2 hj]
      · congr 1;omega
      · rintro⟨j',h⟩
        have:=hplt h
        rw[hr2 hj] at this;omega
  have hH2:∀ q,q<n->(∀ j:Nat,ps[j]? ≠ some q)->Aoa ps n Hc H' q=Hc q:=by
    intro q hq hne
    unfold Aoa
    rw[dif_neg (λ⟨j,h⟩=>hne j h),if_pos hq]
  have tie':Tie m' M' H' (Aoa ps n Hc H') (rho ps n):=by
    have hb:∀ p b,m'[p]? = some b->M'[rho ps n p]? = some (b.ren (rho ps n)):=by
      intro p b hb
      rcases zU p ps.length with hp|hp
      · rw[g1 p _ (hget hp),zQ,hb];rfl
      · rw[hr2 hp,g3,show ps.length+(p-ps.length)=p by omega,zQ,hb];rfl
    exact⟨λp hp=>(zB.1 (hb p _ (zC hp))).1,λp _=>hH1 p,hb⟩
  have cls:∀ (q:Nat) (b:Blk),M'[q]? = some b->(∃ j b0,m'[j]? = some b0/\q=rho ps n j/\b=b0.ren (rho ps n))\/(q<n/\(∀ j:Nat,ps[j]? ≠ some q)/\M[q]? = some b):=by
    intro q b hb
    have hq:=(zB.1 hb).1
    rw[g4] at hq
    have old:∀ j,j<m'.length->q=rho ps n j->∃ j b0,m'[j]? = some b0/\q=rho ps n j/\b=b0.ren (rho ps n):=by
      intro j hj e
      refine⟨j,m'[j],zC hj,e,?_⟩
      have:=tie'.b j _ (zC hj)
      rw[<- e,hb] at this
      exact zD this
    by_cases hex:∃ j:Nat,ps[j]? = some q
    · obtain⟨j,hj⟩:=hex
      have hjl:=(zB.1 hj).1
      exact .inl (old j (by omega) (hr hj).symm)
    · have hne:∀ j:Nat,ps[j]? ≠ some q:=λj h=>hex ⟨j,h⟩
      rcases zU q n with h|h
      · refine .inr ⟨h,hne,?_⟩
        rw[<- g2 q h (λhm=>by obtain⟨j,hj,hjp⟩:=yU hm;exact hne j (by rw[zC hj,hjp]))]
        exact hb
      · exact .inl (old (ps.length+(q-n)) (by omega) (by rw[hr2 (by omega)];omega))
  have hnX:∀ (q:Nat) (b:Blk) (g:Nat),(∀ j:Nat,ps[j]? ≠ some q)->M[q]? = some b->b.own (Hc q)=some g->¬ Ady m (λj=>Hc (rho ps n j)) g:=by
    rintro q b g hne hb ho ⟨j,b1,h1,h2⟩
    have e:=r.inj q (rho ps n j) b _ g hb (tie.b j b1 h1) ho (by rw[Blk.ren_own];exact h2)
    have hj:j<ps.length:=by rw[hpl];exact(zB.1 h1).1
    exact hne j (by rw[e];exact hget hj)
  have hX:∀ g,Ady m (λj=>Hc (rho ps n j)) g->c.w0.heap.size<=g\/c.X g:=by
    rintro g ⟨j,b1,h1,h2⟩
    exact(r.lo _ _ g (tie.b j b1 h1) (by rw[Blk.ren_own];exact h2)).1
  have hkp:∀ b i,S b i->S' b i/\w'.cell? ⟨b,i,none⟩=w.cell? ⟨b,i,none⟩:=λb i hs=>⟨ext.sub b i hs,ext.stab b i hs⟩
  have hHp:∀ p g,p<n->Hc p=.pointer (some ⟨g,0,none⟩)->Aoa ps n Hc H' p=Hc p:=by
    intro p g hp hg
    by_cases hex:∃ j:Nat,ps[j]? = some p
    · obtain⟨j,hj⟩:=hex
      have hjm:j<m.length:=by rw[<- hpl];exact(zB.1 hj).1
      have h1:=kept.h j g hjm (by show Hc (rho ps n j)=_;rw[hr hj];exact hg)
      have h2:=hH1 j
      rw[hr hj] at h2
      rw[h2,h1]
      show Hc (rho ps n j)=_
      rw[hr hj]
    · exact hH2 p hp (λj h=>hex ⟨j,h⟩)
  have harr:∀ p e sz k cs,p<n->M'[p]? = some (.arr e sz k cs)->∃ k' cs',M[p]? = some (.arr e sz k' cs')/\((cs'.length=cs.length/\Aoa ps n Hc H' p=Hc p)\/cs'.length<cs.length):=by
    intro p e sz k cs hp hm
    by_cases hex:∃ j:Nat,ps[j]? = some p
    · obtain⟨j,hj⟩:=hex
      have hjm:j<m.length:=by rw[<- hpl];exact(zB.1 hj).1
      have hm':m'[j]? = some (.arr e sz k cs):=(tie'.arr (z6 hjm kept.len)).1 (by rw[hr hj];exact hm)
      obtain⟨k',cs',h1,h2⟩:=kept.r j e sz k cs hjm hm'
      have h3:=tie.b j _ h1
      rw[hr hj] at h3
      refine⟨k',cs',h3,?_⟩
      have h4:=hH1 j
      rw[hr hj] at h4
      rw[h4]
      rcases h2 with⟨h2,h5⟩|h2
      · refine .inl ⟨h2,?_⟩
        rw[h5]
        show Hc (rho ps n j)=_
        rw[hr hj]
      · exact .inr h2
    · have hne:∀ j:Nat,ps[j]? ≠ some p:=λj h=>hex ⟨j,h⟩
      rcases cls p _ hm with⟨j,b0,h1,h2,h3⟩|⟨_,_,h3⟩
      · rcases zU j ps.length with hj|hj
        · exact absurd (by rw[h2];exact hget hj) (hne j)
        · rw[hr2 hj] at h2;omega
      · exact⟨k,cs,h3,.inl ⟨rfl,hH2 p hp hne⟩⟩
  have hun:∀ p,p<n->Hc p≠undef->Aoa ps n Hc H' p≠undef:=by
    intro p hp hne0
    by_cases hex:∃ j:Nat,ps[j]? = some p
    · obtain⟨j,hj⟩:=hex
      have hjm:j<m.length:=by rw[<- hpl];exact(zB.1 hj).1
      have h1:=kept.u j hjm (by show Hc (rho ps n j)≠_;rw[hr hj];exact hne0)
      have h2:=hH1 j
      rw[hr hj] at h2
      rw[h2];exact h1
    · rw[hH2 p hp (λj h=>hex ⟨j,h⟩)];exact hne0
  have hgr:∀ l u,Bt w S M Hc l u->Bt w' S' M' (Aoa ps n Hc H') l u:=λl u=>Bt.mono2 hkp (by rw[hn,g4];omega) (λp g hp=>hHp p g (by rw[<- hn];exact hp)) (λp hp=>hun p (by rw[<- hn];exact hp)) (λp e sz k cs hp=>harr p e sz k cs (by rw[<- hn];exact hp))
  refine⟨⟨r.nt,r.df,λi=>AVR.mono hgr (r.tm i),λq b hb=>?_,λq b g hb ho=>?_,λq q' b b' g hb hb' ho ho'=>?_,λq b g i hb ho hs=>?_,hin,?_,?_,λp g hp hh=>?_,λp e sz k cs hp hm=>?_,λp hp hne0=>hun p (by have h9:c.m0.length<=M.length:=r.kl;omega) (r.ku p hp hne0)⟩,tie'.avUp hav⟩
  · rcases cls q b hb with⟨j,b0,h1,rfl,rfl⟩|⟨h1,h2,h3⟩
    · rw[hH1]
      exact tie'.blkUp (mem'.bl j b0 h1)
    · rw[hH2 q h1 h2]
      have hbr:=r.bl q b h3
      have hsame:∀ g,b.own (Hc q)=some g->w'.heap[g]? = w.heap[g]? := λg ho=>ext.blk g (r.lo q b g h3 ho).2 (hnX q b g h2 h3 ho)
      cases b with
      | dead=>trivial
      | hole=>exact hbr
      | obj g mk cs =>
        obtain⟨k1,vs,o,k2,k3,k4,k5⟩:=hbr
        exact⟨k1,vs,o,(hsame g (by rw[k1];rfl)).trans k2,k3,k4,k5.mono (λl v=>Rep.mono hkp)⟩
      | tab mk cs =>
        obtain⟨g,k1,vs,o,k2,k3,k4,k5⟩:=hbr
        exact⟨g,k1,vs,o,(hsame g (by rw[k1];rfl)).trans k2,k3,k4,k5.mono (λl v=>Rep.mono hkp)⟩
      | arn e sz g n cap cs =>
        obtain⟨k1,cur,k2,k3,k4⟩:=hbr
        exact⟨k1,cur,(hsame g (by rw[k1];rfl)).trans k2,k3,k4.mono hgr⟩
      | box cs =>
        obtain⟨g,e,cur,k1,k2,k3⟩:=hbr
        exact⟨g,e,cur,k1,(hsame g (by rw[k1];rfl)).trans k2,k3.mono hgr⟩
      | arr e sz k cs =>
        obtain⟨h0,hk1,nn,vals,k1,k2,k3⟩:=hbr
        exact⟨h0,hk1,nn,vals,Iu k1 (λg hg=>hsame g hg),k2.mono (λl v=>Rep.mono hkp),λg hg i hi=>ext.sub g i (k3 g hg i hi)⟩
  · rcases cls q b hb with⟨j,b0,h1,rfl,rfl⟩|⟨h1,h2,h3⟩
    · rw[hH1,Blk.ren_own] at ho
      refine⟨?_,mem'.hp j b0 g h1 ho⟩
      rcases hown' j b0 g h1 ho with h|h
      · exact .inl (yP r.ex.size h)
      · exact hX g h
    · rw[hH2 q h1 h2] at ho
      have:=r.lo q b g h3 ho
      exact⟨this.1,z6 this.2 ext.size⟩
  · have mixed:∀ (j:Nat) (b0:Blk) (q:Nat) (b:Blk),m'[j]? = some b0->b0.own (H' j)=some g->(∀ j:Nat,ps[j]? ≠ some q)->M[q]? = some b->b.own (Hc q)=some g->False:=by
      intro j b0 q b h1 h2 h3 h4 h5
      rcases hown' j b0 g h1 h2 with h|h
      · have:=(r.lo q b g h4 h5).2;omega
      · exact hnX q b g h3 h4 h5 h
    rcases cls q b hb with⟨j,b0,h1,rfl,rfl⟩|⟨h1,h2,h3⟩ <;> rcases cls q' b' hb' with⟨j',b0',h1',rfl,rfl⟩|⟨h1',h2',h3'⟩
    · rw[hH1,Blk.ren_own] at ho ho'
      rw[mem'.inj j j' b0 b0' g h1 h1' ho ho']
    · rw[hH1,Blk.ren_own] at ho
      rw[hH2 q' h1' h2'] at ho'
      exact(mixed j b0 q' b' h1 ho h2' h3' ho').elim
    · rw[hH1,Blk.ren_own] at ho'
      rw[hH2 q h1 h2] at ho
      exact(mixed j' b0' q b h1' ho' h2 h3 ho).elim
    · rw[hH2 q h1 h2] at ho
      rw[hH2 q' h1' h2'] at ho'
      exact r.inj q q' b b' g h3 h3' ho ho'
  · rcases cls q b hb with⟨j,b0,h1,rfl,rfl⟩|⟨h1,h2,h3⟩
    · rw[hH1,Blk.ren_own] at ho
      rw[Blk.ren_stab]
      exact mem'.sb j b0 g i h1 ho hs
    · rw[hH2 q h1 h2] at ho
      exact r.sb q b g i h3 ho (ext.back g i (r.lo q b g h3 ho).2 (hnX q b g h2 h3 ho) hs)
  · refine r.ex.trans2 ext (λb hb hx hX'=>?_)
    rcases hX b hX' with h|h
    · omega
    · exact hx h
  · have:=r.kl
    simp only[hn] at this
    show c.m0.length<=M'.length
    omega
  · have h1:=r.kh p g hp hh
    rw[<- h1]
    have:=r.kl
    simp only[hn] at this
    exact hHp p g (by omega) (h1.trans hh)
  · have hkl:=r.kl
    simp only[hn] at hkl
    obtain⟨k1,cs1,h1,h2⟩:=harr p e sz k cs (by omega) hm
    obtain⟨k2,cs2,h3,h4⟩:=r.kr p e sz k1 cs1 hp h1
    refine⟨k2,cs2,h3,?_⟩
    rcases h2 with⟨h2,hv⟩|h2 <;> rcases h4 with⟨h4,hv4⟩|h4
    · exact .inl ⟨h4.trans h2,hv.trans hv4⟩
    · exact .inr (by omega)
    · exact .inr (by omega)
    · exact .inr (by omega)
section
variable {P:Program} {c:Ctx} {t:Nat->AV} {M:List Blk} {ops:Array Oper} {Q:Exit->AS->Prop} {rest:List Oper} {ty:TypeId} {pos:String} {af:Array Edge} {d:Tmp}
theorem Us {R:Lf->Value->Prop} {xs ys:List SV} {us vs:List Value} (h:Yv R xs us) (k:Yv R ys vs):Yv R (xs++ys) (us++vs):=by
 refine⟨by simp [h.1,k.1],λj x v h1 h2=>?_⟩
 by_cases hj:j<xs.length
 ·rw[zK hj] at h1
  rw[zK (by rw[<- h.1];exact hj)] at h2
  exact h.2 j x v h1 h2
 ·rw[z2 (by omega)] at h1
  rw[z2 (by rw[<- h.1];omega),<- h.1] at h2
  exact k.2 _ x v h1 h2
theorem Zg {w:World} {S:Bz} {m:List Blk} {H:Nat->Value} {ls:List Lf} {vs:List Value} (h:LsR (Df w S m H) ls vs):Yv (Bt w S m H) (ls.map SV.one) vs :=
 ⟨by simpa using h.1,λj x v h1 h2=>by
  rw[zQ] at h1
  cases hj:ls[j]? with
  | none=>rw[hj] at h1;cases h1
  | some l=>rw[hj] at h1;cases h1;exact Df.up (h.2 j l v hj h2)⟩
theorem Z4 {a:Act} {w:World} {S:Bz} {H:Nat->Value} (r:Rel c ⟨t,M⟩ a w S H) {callee:Operand} {f:FuncId} {la lb:List Lf} {args:Array Operand} {ats:Array TypeId} {xs:List SV} (hf:FnI P f) (hcal:Cal ⟨t,M⟩ callee f la lb) (ho:Xi ⟨t,M⟩ args.toList xs) (dst:Option Tmp) :
  ∃ vs:Array Value,Yv (Bt w S M H) (la.map SV.one++xs++lb.map SV.one) vs.toList/\(execOp a.eval ⟨dst,.call { callee:=.value callee,args:=args,argTypes:=ats },ty,pos,af,none⟩).run P w=.ok (.enter f vs) w:=by
 obtain⟨va,vb,hv,h1,h2⟩:=hcal.val r
 refine⟨va++args.map a.eval++vb,?_,?_⟩
 ·have:=Us (Us (Zg h1) (T0 r ho)) (Zg h2)
  simpa using this
 ·simp [execOp,resolve,hv,Deferred.ofValue,invoke,hf.run]
theorem Gi {callee:Operand} {f:FuncId} {la lb:List Lf} {args:Array Operand} {ats:Array TypeId} {xs ys:List SV} {m m1 M':List Blk} {x x':AV} (ps:List Nat) (hd:decide (d<c.nt)=true) (hf:FnI P f) (hcal:Cal ⟨t,M⟩ callee f la lb) (ho:Xi ⟨t,M⟩ args.toList xs)
  (hc:Cv P f m ys (λy m'=>y=x/\m'=m1)) (hxs:la.map SV.one++xs++lb.map SV.one=ys.map (SV.ren (rho ps M.length))) (hps:ps.map (λp=>M[p]?)=m.map (λb=>some (b.ren (rho ps M.length)))) (hnd:ps.Nodup)
  (hi:(ys.all (SV.inbB m.length)&&m.all (Blk.inbB m.length))=true) (hx:x.ren (rho ps M.length)=x') (hM:P0 M ps (m1.map (Blk.ren (rho ps M.length)))=M')
  (k:AWL P c ops Q rest ⟨upd t d x',M'⟩):AWL P c ops Q (⟨some d,.call { callee:=.value callee,args:=args,argTypes:=ats },ty,pos,af,none⟩::rest) ⟨t,M⟩:=by
 intro a w S H r
 obtain⟨vs,hvs,hrun⟩:=Z4 (pos:=pos) (af:=af) (ty:=ty) (ats:=ats) r hf hcal ho (some d)
 rw[hxs] at hvs
 simp only[zS] at hi
 refine wpList_plain rfl λK hK=>?_
 unfold Oper.wp
 rw[hrun]
 refine(Ajk r hc hvs hps hnd hi.1 hi.2).mono ?_
 rintro e w' ⟨v,y,m',S',H',rfl,⟨rfl,rfl⟩,r',hav⟩
 subst hx;subst hM
 exact hK _ _ (k _ _ _ _ (r'.put (of_decide_eq_true hd) hav))
def Lf.noFn:Lf->Bool
 | .fn .. =>false
 | _=>true
def Aaa (st:AS):List Operand->List Lf->Prop
 | [],xs=>xs=[]
 | o::os,xs=>∃ l r,B2 st o=.s (.one l)/\l.noFn=true/\Aaa st os r/\xs=l::r
theorem Qc {st:AS}:Aaa st [] []:=rfl
theorem Vw {st:AS} {o:Operand} {os:List Operand} {l:Lf} {r:List Lf} (h:B2 st o=.s (.one l)) (hl:l.noFn=true) (t:Aaa st os r):Aaa st (o::os) (l::r):=⟨l,r,h,hl,t,rfl⟩
theorem X9 {st:AS} {a:Act} {w:World} {S:Bz} {H:Nat->Value} (r:Rel c st a w S H):∀ {os:List Operand} {xs:List Lf},Aaa st os xs->LsR (Df w S st.m H) xs (os.map a.eval)
 | [],xs,h=>by cases h;exact⟨rfl,λj x v h=>by simp at h⟩
 | o::os,xs,h=>by
  obtain⟨l,rr,h1,hl,h2,rfl⟩:=h
  have ih:=X9 r h2
  have h0:=Ba r o
  rw[h1] at h0
  have h0':Df w S st.m H l (a.eval o):=by
   have h00:Bt w S st.m H l (a.eval o):=h0
   cases l <;> first|exact h00|(simp [Lf.noFn] at hl)
  refine⟨by simp [ih.1],λj y v hy hv=>?_⟩
  cases j with
  | zero=>simp only[yT,xO,zJ] at hy hv;subst hy;subst hv;exact h0'
  | succ j=>exact ih.2 j y v (by simpa using hy) (by simpa using hv)
theorem Ua {st:AS} {f:FuncId} {fi cp:Array Operand} {la lb:List Lf} (h1:Aaa st fi.toList la) (h2:Aaa st cp.toList lb):OpV P c st (.makeFunc (.func f) fi cp) ty (.s (.one (.fn f la lb))):=by
 intro a w S H r
 have e1:=X9 r h1
 have e2:=X9 r h2
 exact⟨.func (.func f) (fi.map a.eval) (cp.map a.eval),⟨_,_,rfl,by simpa using e1,by simpa using e2⟩,λ_ _ _ _=>by simp [execOp,Instr.makeFunc]⟩
theorem Ay9 {x:Code} (i:Nat) {y z:SV} {m':List Blk} (hx:t i=.s y) (hp:Xk M y z m') (k:AWC P c x Q ⟨upd t i (.s z),m'⟩):AWC P c x Q ⟨t,M⟩:=by
 intro a w S H r
 obtain⟨S',k1,g1⟩:=hp.keeps r
 have h:=r.tm i
 have hxx:(AS.mk t M).t i=.s y:=hx
 rw[hxx] at h
 have hy:=g1 _ h
 have r':=k1.rel
 refine k a w S' H ⟨r'.nt,r'.df,λj=>?_,r'.bl,r'.lo,r'.inj,r'.sb,r'.sl,r'.ex,r'.kl,r'.kh,r'.kr,r'.ku⟩
 show AVR _ (upd t i _ j) _
 rw[Ej]
 by_cases e:j=i
 ·subst e
  rw[if_pos rfl]
  exact SVR.mono (λ_ _=>Bt.of_rep) hy
 ·rw[if_neg e]
  exact r'.tm j
theorem AWC.mono {x:Code} {st:AS} {Q Q':Exit->AS->Prop} (h:AWC P c x Q st) (hq:∀ e st,Q e st->Q' e st):AWC P c x Q' st:=λa w S H r =>
 wp_mono (h a w S H r) λe a w ⟨st,S,H,r,h⟩=>⟨st,S,H,r,hq e st h⟩
def Auy {G:Type} (sl:G->List (Nat×AV)) (mm:G->List Blk) (pre:G->Prop) (st:AS):Prop:=∃ g ex,pre g/\Nm st.t (sl g)/\st.m=mm g++ex
theorem Ac2 {G:Type} {sl:G->List (Nat×AV)} {mm:G->List Blk} {pre:G->Prop} {x:Code} {Q:Exit->AS->Prop} {st:AS} (h:Auy sl mm pre st) (hin:∀ g,pre g->Ai7 (mm g).length (sl g)) (hmin:∀ g,pre g->∀ b∈mm g,b.inb (mm g).length) (hk:∀ g,pre g->c.m0.length<=(mm g).length)
  (hy:∀ g,pre g->AWC P c x Q ⟨Zf (λ_=>.top) (sl g),mm g⟩):AWC P c x Q st:=by
 obtain⟨g,ex,hp,hs,hm⟩:=h
 intro a w S H r
 have r0:Rel c ⟨st.t,mm g++ex⟩ a w S H:=by rw[<- hm];exact r
 exact hy g hp a w S H (r0.trim (Nx hs (hin g hp)) (hmin g hp) (hk g hp))
theorem Ayc {x y:Code} {Q Q':Exit->AS->Prop} {st:AS} (G:Type) (sl:G->List (Nat×AV)) (mm:G->List Blk) (pre:G->Prop) (hin:∀ g,pre g->Ai7 (mm g).length (sl g)) (hmin:∀ g,pre g->∀ b∈mm g,b.inb (mm g).length) (hk:∀ g,pre g->c.m0.length<=(mm g).length)
  (hy:∀ g,pre g->AWC P c y Q ⟨Zf (λ_=>.top) (sl g),mm g⟩) (hx:AWC P c x (Gh (Auy sl mm pre) Q') st):AWC P c x (Gh (AWC P c y Q) Q') st:=by
 refine hx.mono λe st h=>?_
 cases e with
 | normal=>exact Ac2 h hin hmin hk hy
 | _=>exact h
theorem Awf {x y z:Code} {Q Q' Q'':Exit->AS->Prop} {st:AS} (G:Type) (sl:G->List (Nat×AV)) (mm:G->List Blk) (pre:G->Prop) (hin:∀ g,pre g->Ai7 (mm g).length (sl g)) (hmin:∀ g,pre g->∀ b∈mm g,b.inb (mm g).length) (hk:∀ g,pre g->c.m0.length<=(mm g).length)
  (hy:∀ g,pre g->AWC P c z Q ⟨Zf (λ_=>.top) (sl g),mm g⟩) (hx:AWC P c x (Gh (AWC P c y (Gh (Auy sl mm pre) Q'')) Q') st):AWC P c x (Gh (AWC P c y (Gh (AWC P c z Q) Q'')) Q') st:=by
 refine hx.mono λe st h=>?_
 cases e with
 | normal =>
  refine AWC.mono h λe st h=>?_
  cases e with
  | normal=>exact Ac2 h hin hmin hk hy
  | _=>exact h
 | _=>exact h
def AV.inbB (n:Nat):AV->Bool
 | .s x=>x.inbB n
 | .tup xs=>xs.all (SV.inbB n)
 | .top=>true
theorem Alh {n:Nat} {l:Lf} (h:l.inbB n=true):l.inb n=true:=by
 cases l with
 | fn f la lb =>
  simp only[Lf.inbB,zS,zL] at h
  simp only[Lf.inb,zS,zL]
  refine⟨λx hx=>?_,λx hx=>?_⟩
  ·have:=h.1 x hx;cases x <;> first|rfl|exact this
  ·have:=h.2 x hx;cases x <;> first|rfl|exact this
 | _=>first | rfl | exact h
theorem Ag9 {n:Nat} {x:SV} (h:x.inbB n=true):x.inb n:=by
 cases x with
 | one l=>exact Alh h
 | agg ls=>exact λl hl=>Alh (zL.1 h l hl)
theorem T9 {n:Nat}:∀ {l:List (Nat×AV)},(l.all λp=>p.2.inbB n)=true->Ai7 n l
 | [],_=>trivial
 | (i,x)::r,h=>by
  simp only[jB,zS] at h
  refine⟨?_,T9 h.2⟩
  cases x with
  | s x=>exact Ag9 h.1
  | tup xs=>exact λy hy=>Ag9 (zL.1 h.1 y hy)
  | top=>trivial
theorem M1 {n:Nat} {m:List Blk} (h:m.all (Blk.inbB n)=true):∀ b∈m,b.inb n:=by
 intro b hb
 have:=zL.1 h b hb
 cases b with
 | box cs=>exact λl hl=>Alh (zL.1 this l hl)
 | _=>trivial
theorem Pf {l:List Oper} (M':List Blk) (e:M=M') (k:AWL P c ops Q l ⟨t,M'⟩):AWL P c ops Q l ⟨t,M⟩:=by subst e;exact k
end
abbrev wI (n:Int):Int:=IntKind.i64.wrap n
def idx {α:Type} (xs:List α) (j:Int):Option α:=if 0<=j then xs[j.toNat]? else none
def cut {α:Type} (xs:List α) (lo hi:Int):Option (List α):=if 0<=lo/\lo<=hi/\hi<=xs.length then some ((xs.drop lo.toNat).take (hi.toNat-lo.toNat)) else none
inductive LR (σ β ρ:Type) where
 | cont (s:σ)
 | brk (b:β)
 | ret (r:ρ)
inductive LB (σ β:Type) where
 | cont (s:σ)
 | brk (b:β)
def Gj {σ β ρ:Type} (f:σ->Option (LR σ β ρ)):Nat->σ->Option (Sum ρ β)
 | 0,_=>none
 | n+1,s=>match f s with
  | none=>none
  | some (.cont s')=>Gj f n s'
  | some (.brk b)=>some (.inr b)
  | some (.ret r)=>some (.inl r)
def B8 {σ β:Type} (f:σ->Option (LB σ β)):Nat->σ->Option β
 | 0,_=>none
 | n+1,s=>match f s with
  | none=>none
  | some (.cont s')=>B8 f n s'
  | some (.brk b)=>some b
def fuel:Nat:=1000000000000000000000000
theorem Aa {α β:Type} {o:Option α} {f:α->Option β} {r:β} (h:o.bind f=some r):∃ u,o=some u/\f u=some r:=by
 cases o with
 | none=>cases h
 | some u=>exact⟨u,rfl,h⟩
theorem P8 {α:Type} {b:Bool} {x y:Option α} {r:α} (hb:b=true) (h:(if b then x else y)=some r):x=some r:=by subst hb;exact h
theorem P3 {α:Type} {b:Bool} {x y:Option α} {r:α} (hb:b=false) (h:(if b then x else y)=some r):y=some r:=by subst hb;exact h
theorem B5 {α:Type} {p:Prop} [Decidable p] {x:Option α} {r:α} (h:(if p then x else none)=some r):p/\x=some r:=by
 by_cases hp:p
 ·rw[if_pos hp] at h;exact⟨hp,h⟩
 ·rw[if_neg hp] at h;cases h
theorem Ft {α:Type} {xs:List α} {j:Int} {u:α} (h:idx xs j=some u):0<=j/\xs[j.toNat]? = some u:=B5 h
theorem Aqz {α:Type} {xs:List α} {j:Int} {u:α} (h:idx xs j=some u):0<=j/\j<xs.length:=by
 obtain⟨h0,h1⟩:=Ft h
 have:=(zB.1 h1).1
 omega
theorem Ro {α:Type} {xs ys:List α} {lo hi:Int} (h:cut xs lo hi=some ys):(0<=lo/\lo<=hi/\hi<=xs.length)/\ys=(xs.drop lo.toNat).take (hi.toNat-lo.toNat):=by
 unfold cut at h
 obtain⟨h0,h1⟩:=B5 h
 exact⟨h0,(zD h1).symm⟩
theorem Cb {σ β:Type} {f:σ->Option (LB σ β)} {n:Nat} {s:σ} {x:β} (h:B8 f n s=some x) :
  ∃ m y,n=m+1/\f s=some y/\(match y with | .cont s'=>B8 f m s'=some x | .brk b=>b=x):=by
 cases n with
 | zero=>cases h
 | succ m =>
  rw[B8] at h
  cases hf:f s with
  | none=>rw[hf] at h;cases h
  | some y =>
   rw[hf] at h
   refine⟨m,y,rfl,rfl,?_⟩
   cases y with
   | cont s'=>exact h
   | brk b=>exact zD h
theorem Ct {σ β ρ:Type} {f:σ->Option (LR σ β ρ)} {n:Nat} {s:σ} {x:Sum ρ β} (h:Gj f n s=some x) :
  ∃ m y,n=m+1/\f s=some y/\(match y with | .cont s'=>Gj f m s'=some x | .brk b=>.inr b=x | .ret r=>.inl r=x):=by
 cases n with
 | zero=>cases h
 | succ m =>
  rw[Gj] at h
  cases hf:f s with
  | none=>rw[hf] at h;cases h
  | some y =>
   rw[hf] at h
   refine⟨m,y,rfl,rfl,?_⟩
   cases y with
   | cont s'=>exact h
   | brk b=>exact zD h
   | ret r=>exact zD h
open Go.RowKit
theorem Aul (l:List UInt8):bl l=l.flatMap λb=>[.i .u8 b.toNat]:=by
 unfold bl
 induction l with
 | nil=>rfl
 | cons a l ih=>simp [xO,ih]
section lists
variable {α:Type} {f:α->List Lf} {sz:Nat}
theorem Aq (hf:∀ x,(f x).length=sz) (xs:List α):(xs.flatMap f).length=xs.length*sz:=by
 induction xs with
 | nil=>simp
 | cons a l ih=>simp [yW,ih,hf,wR,j3]
theorem W9 (hf:∀ x,(f x).length=sz) (xs:List α) (i:Nat):(xs.flatMap f).drop (i*sz)=(xs.drop i).flatMap f:=by
 induction xs generalizing i with
 | nil=>simp
 | cons a l ih =>
  cases i with
  | zero=>simp
  | succ i =>
   rw[yW,wR,kI,j3,<- kY,List.drop_left' (hf a),ih]
   rfl
theorem Wy (hf:∀ x,(f x).length=sz) (xs:List α) (i:Nat):(xs.flatMap f).take (i*sz)=(xs.take i).flatMap f:=by
 induction xs generalizing i with
 | nil=>simp
 | cons a l ih =>
  cases i with
  | zero=>simp
  | succ i =>
   rw[yW,wR,kI,List.take_append,yO (by rw[hf];omega),hf,j4,ih]
   rfl
theorem V1 (hf:∀ x,(f x).length=sz) {xs:List α} {i:Nat} {u:α} (h:xs[i]? = some u):(xs.flatMap f).drop (i*sz)=f u++(xs.drop (i+1)).flatMap f:=by
 rw[W9 hf]
 have hi:=(zB.1 h).1
 have e:=(zB.1 h).2
 rw[wD hi,yW,e]
theorem Aow (hf:∀ x,(f x).length=sz) {xs:List α} {i:Nat} (u:α) (h:i<xs.length):Ky (xs.flatMap f) (i*sz) (f u)=(xs.set i u).flatMap f:=by
 unfold Ky
 rw[Wy hf,hf,<- jH,W9 hf,kP,if_pos h,w9,yW,xM]
theorem Ao2 {cs a ls ls':List Lf} {i o:Nat} (ho:o+ls.length<=a.length) (h:∃ t,cs.drop i=a++t) (hl:Ky a o ls=ls') (ha:a.length=ls'.length):Ky cs (i+o) ls=Ky cs i ls':=by
 obtain⟨t,ht⟩:=h
 subst hl
 unfold Ky
 have e1:cs.take (i+o)=cs.take i++a.take o:=by
  rw[List.take_add,ht,xY (by omega)]
 have e2:cs.drop (i+o+ls.length)=a.drop (o+ls.length)++t:=by
  rw[jN,<- kY,ht,List.drop_append_of_le_length ho]
 have e3:cs.drop (i+(a.take o++ls++a.drop (o+ls.length)).length)=t:=by
  rw[show(a.take o++ls++a.drop (o+ls.length)).length=a.length by simp only[zH,zN,yB];omega,<- kY,ht,List.drop_left]
 rw[e1,e2,e3]
 simp only[xM]
end lists
section
variable {P:Program} {c:Ctx} {st:AS} {ty:TypeId} {α:Type} {f:α->List Lf} {sz:Nat}
theorem Bl {t e n:Nat} {x y:Operand} {cs:List Lf} {xs:List α} {k:IntKind} {j:Int} {u:α} (si:SI P t e sz) (hf:∀ x,(f x).length=sz) (hx:B2 st x=.s (.one (.sl n cs))) (hcs:cs=xs.flatMap f) (hn:n=xs.length) (hy:B2 st y=.s (.one (.i k j))) (h:idx xs j=some u) :
  OpV P c st (.indexAddr t x y) ty (.s (.one (.cp (f u++(xs.drop (j.toNat+1)).flatMap f)))):=by
 obtain⟨h0,h1⟩:=Ft h
 have h2:=(Aqz h).2
 have:=Ys (P:=P) (c:=c) (ty:=ty) si hx hy h0 (by rw[hn];exact h2)
 rwa [hcs,V1 hf h1] at this
theorem Gc {t e e' kk p n:Nat} {x y:Operand} {cs:List Lf} {xs:List α} {k:IntKind} {j:Int} {u:α} (si:SI P t e sz) (hf:∀ x,(f x).length=sz) (hx:B2 st x=.s (.one (.ls p n))) (hm:st.m[p]? = some (.arr e' sz kk cs)) (hcs:cs=xs.flatMap f) (hn:n=xs.length) (hy:B2 st y=.s (.one (.i k j))) (h:idx xs j=some u) :
  OpV P c st (.indexAddr t x y) ty (.s (.one (.ap p n (j.toNat*sz)))):=by
 have h2:=Aqz h
 exact Y7 si hx hy hm (by rw[hcs,Aq hf,hn]) h2.1 (by rw[hn];exact h2.2)
theorem Ahs {t e kk p n i:Nat} (o:Nat) {x:Operand} {cs:List Lf} {xs:List α} {u:α} {y:Lf} (ti:TI P t false 1) (hf:∀ x,(f x).length=sz) (hx:B2 st x=.s (.one (.ap p n (i*sz+o)))) (hm:st.m[p]? = some (.arr e sz kk cs)) (hcs:cs=xs.flatMap f) (hn:n=xs.length) (hu:xs[i]? = some u) (hy:(f u)[o]? = some y) :
  OpV P c st (.load t x) ty (.s (.one y)):=by
 refine C5 ti hx (.ap _ _ _ _ _ _ _ hm (by rw[hcs,Aq hf,hn])) ?_
 rw[hcs,<- kY,V1 hf hu,yH,kF (n:=o),zK (zB.1 hy).1,hy]
theorem Np {t e kk p n i s:Nat} (o:Nat) {x:Operand} {cs ys:List Lf} {xs:List α} {u:α} (ti:TI P t true s) (hf:∀ x,(f x).length=sz) (hx:B2 st x=.s (.one (.ap p n (i*sz+o)))) (hm:st.m[p]? = some (.arr e sz kk cs)) (hcs:cs=xs.flatMap f) (hn:n=xs.length) (hu:xs[i]? = some u) (ho:o+s<=sz) (hy:((f u).drop o).take s=ys) :
  OpV P c st (.load t x) ty (.s (.agg ys)):=by
 have h:=Uh (P:=P) (c:=c) (ty:=ty) (st:=st) ti hx (.ap _ _ _ _ _ _ _ hm (by rw[hcs,Aq hf,hn])) (by
  rw[hcs,<- kY,V1 hf hu,yB,zH,hf];omega)
 rw[hcs,<- kY,V1 hf hu,List.drop_append_of_le_length (by rw[hf];omega),xY (by rw[yB,hf];omega),hy] at h
 exact h
theorem Uo {t e n:Nat} {x:Operand} {cs:List Lf} {xs ys:List α} {l h:Option Operand} {lo hi:Int} (si:SI P t e sz) (hf:∀ x,(f x).length=sz) (hx:B2 st x=.s (.one (.sl n cs))) (hcs:cs=xs.flatMap f) (hn:n=xs.length)
  (hl:Aiz st l 0 lo.toNat) (hh:Aiz st h n hi.toNat) (hc:cut xs lo hi=some ys):OpV P c st (.slice t x l h none) ty (.s (.one (.sl ys.length (ys.flatMap f)))):=by
 obtain⟨⟨h0,h1,h2⟩,rfl⟩:=Ro hc
 have:=Am0 (P:=P) (c:=c) (ty:=ty) si hx (by rw[hcs,Aq hf,hn]) hl hh (by omega) (by rw[hn];omega)
 rw[hcs,W9 hf,Wy hf] at this
 rw[zN,yB,wV (by omega)]
 exact this
end
section
variable {P:Program} {c:Ctx} {t:Nat->AV} {m:List Blk} {ops:Array Oper} {Q:Exit->AS->Prop} {rest:List Oper} {ty:TypeId} {pos:String} {af:Array Edge} {d:Tmp} {α:Type} {f:α->List Lf} {sz:Nat}
theorem Aa1 {t' e k p n i s:Nat} (o:Nat) {x y:Operand} {cs:List Lf} {xs:List α} {u u':α} {v:SV} (hi:(P.info? t').map (·.size)=some s) (hf:∀ x,(f x).length=sz) (hx:B2 ⟨t,m⟩ x=.s (.one (.ap p n (i*sz+o)))) (hy:B2 ⟨t,m⟩ y=.s v) (hm:m[p]? = some (.arr e sz k cs)) (hcs:cs=xs.flatMap f) (hn:n=xs.length) (hk:k=0)
  (hv:v.cells.length=s) (hpub:∀ l∈v.cells,l.pubd=true) (hu:xs[i]? = some u) (ho:o+s<=sz) (hu':Ky (f u) o v.cells=f u')
  (kk:AWL P c ops Q rest ⟨t,m.set p (.arr e sz k ((xs.set i u').flatMap f))⟩):AWL P c ops Q (⟨none,.store t' x y,ty,pos,af,none⟩::rest) ⟨t,m⟩:=by
 have hil:=(zB.1 hu).1
 refine Akr hi hx hy hm (by rw[hcs,Aq hf,hn]) hv hpub (by omega) ?_ ?_
 ·rw[hcs,Aq hf]
  calc i*sz+o+s<=i*sz+sz:=by omega
   _=(i+1)*sz:=by rw[wR,kI]
   _<=xs.length*sz:=yZ _ hil
 ·have e:Ky cs (i*sz+o) v.cells=(xs.set i u').flatMap f:=by
   rw[hcs,Ao2 (a:=f u) (by rw[hv,hf];omega) ⟨_,V1 hf hu⟩ hu' (by rw[hf,hf]),Aow hf u' hil]
  rw[e]
  exact kk
theorem Tp {x y:Operand} {t' t2 e bytes p n k mm:Nat} {zl cs ys:List Lf} {xs us:List α} {yv yv':SV} {m':List Blk} (hd:decide (d<c.nt)=true) (si:P.underlying t'=some (.slice e)) (ei:EI P e sz bytes zl) (h2:NI P t2) (hf:∀ x,(f x).length=sz) (hx:B2 ⟨t,m⟩ x=.s (.one (.ls p n))) (hy:B2 ⟨t,m⟩ y=.s yv)
  (hp:Xk m yv yv' m') (hm:m'[p]? = some (.arr e sz k cs)) (hcs:cs=xs.flatMap f) (hn:n=xs.length) (hsrc:Ad4 P yv' sz mm ys) (hys:ys=us.flatMap f) (hmm:mm=us.length) (hb:(xs.length+us.length)*bytes<=140737488355328) (hbp:0<bytes)
  (kk:AWL P c ops Q rest ⟨upd t d (.s (.one (.ls p (xs++us).length))),m'.set p (.arr e sz k ((xs++us).flatMap f))⟩) :
  AWL P c ops Q (⟨some d,.call { callee:=.builtin .append,args:=#[x,y],argTypes:=#[t',t2] },ty,pos,af,none⟩::rest) ⟨t,m⟩:=by
 subst hcs hn hys hmm
 refine At8 hd si ei h2 hx hy hp hm (Aq hf xs).symm hsrc ?_ hb ?_
 ·have:xs.length+us.length<=(xs.length+us.length)*bytes:=jM _ hbp
  simp only[maxLen];omega
 ·rw[<- w9,<- zH]
  exact kk
theorem Aew {zl:List Lf} {z:α} (hz:f z=zl) (hf:∀ x,(f x).length=sz) (n:Nat):Aax zl (n*sz)=(List.replicate n z).flatMap f:=by
 subst hz
 apply wE
 intro j
 by_cases hs:sz=0
 ·have h1:(Aax (f z) (n*sz)).length=0:=by rw[Oa,hs,Nat.mul_zero]
  have h2:((List.replicate n z).flatMap f).length=0:=by rw[Aq hf,hs,Nat.mul_zero]
  rw[z7 h1,z7 h2]
 have hsp:0<sz:=Nat.pos_of_ne_zero hs
 by_cases hj:j<n*sz
 ·have hq:j / sz<n:=zAf (by rw[j5];exact hj)
  have h1:(Aax (f z) (n*sz))[j]? = some ((f z).getD (j % sz) default):=by
   unfold Aax
   rw[zQ,jZ hj,hf];rfl
  have hr:(List.replicate n z)[j / sz]? = some z:=by rw[List.getElem?_replicate,if_pos hq]
  have h2:=V1 hf hr
  have h3:((List.replicate n z).flatMap f)[j]? = (f z)[j % sz]? := by
   have e:j=j / sz*sz+j % sz:=by rw[j5];exact(Nat.div_add_mod j sz).symm
   conv=>lhs;rw[e]
   rw[<- yH,h2,zK (by rw[hf];exact zAe _ hsp)]
  have hlt:j % sz<(f z).length:=by rw[hf];exact zAe _ hsp
  rw[h1,h3,zC hlt]
  simp [List.getD,zC hlt]
 ·rw[yL (by rw[Oa];omega),yL (by rw[Aq hf];simpa using hj)]
end
open Go.RowKit
def eU8 (b:UInt8):List Lf:=[.i .u8 (b.toNat:Int)]
def eI (n:Int):List Lf:=[.i .i64 n]
def eB (b:Bool):List Lf:=[.b b]
def eL {α:Type} (f:α->List Lf) (xs:List α):List Lf:=[.sl xs.length (xs.flatMap f)]
theorem Alb (l:List UInt8):bl l=l.flatMap eU8:=Aul l
section
variable {P:Program} {c:Ctx} {st:AS} {ty:TypeId}
theorem Mw {s t e:TypeId} {x:Operand} {n:Nat} {cs:List Lf} {l:List UInt8} (hs:P.underlying s=some (.slice e)) (he:P.underlying e=some (.int .u8)) (ht:P.underlying t=some .string) (hx:B2 st x=.s (.one (.sl n cs))) (hn:n=l.length) (hcs:cs=l.flatMap eU8) :
  OpV P c st (.convert s t x) ty (.s (.one (.s ⟨l.toArray⟩))):=by
 subst hn;rw[<- Alb] at hcs;subst hcs
 exact Afu hs he ht hx
theorem Aoy {f:FuncId} {x y:Operand} {ats:Array TypeId} {n m:Nat} {cs cs':List Lf} {a b:List UInt8} (xi:XI P f Extern.BytealgCompare.compare) (hx:B2 st x=.s (.one (.sl n cs))) (hn:n=a.length) (hcs:cs=a.flatMap eU8) (hy:B2 st y=.s (.one (.sl m cs'))) (hm:m=b.length) (hcs':cs'=b.flatMap eU8) :
  OpV P c st (.call { callee:=.value (.func f),args:=#[x,y],argTypes:=ats }) ty (.s (.one (.i .i64 (Dp a b)))):=by
 subst hn hm;rw[<- Alb] at hcs hcs';subst hcs hcs'
 exact Auq xi hx hy
theorem Wt {xt yt:TypeId} {x y:Operand} {p q:List UInt8} (hx:B2 st x=.s (.one (.s ⟨p.toArray⟩))) (hy:B2 st y=.s (.one (.s ⟨q.toArray⟩))):OpV P c st (.binOp .eql xt x y yt) ty (.s (.one (.b (p==q)))):=by
 have:=Aon (P:=P) (c:=c) (xt:=xt) (yt:=yt) (ty:=ty) hx hy
 have e:∀ l:List UInt8,(ByteArray.mk l.toArray).toList=l:=λl=>by rw[ByteArray.toList_eq]
 simpa [e] using this
theorem Aab {xt yt:TypeId} {x y:Operand} {p q:List UInt8} (hx:B2 st x=.s (.one (.s ⟨p.toArray⟩))) (hy:B2 st y=.s (.one (.s ⟨q.toArray⟩))):OpV P c st (.binOp .neq xt x y yt) ty (.s (.one (.b (!(p==q))))):=by
 have:=Ap5 (P:=P) (c:=c) (xt:=xt) (yt:=yt) (ty:=ty) hx hy
 have e:∀ l:List UInt8,(ByteArray.mk l.toArray).toList=l:=λl=>by rw[ByteArray.toList_eq]
 simpa [e] using this
end
open Go.RowKit
section
variable {P:Program} {c:Ctx} {st:AS} {ty:TypeId} {α:Type} {f:α->List Lf} {sz:Nat}
theorem A8 {t s:Nat} {x:Operand} {l:Lf} {cs ys:List Lf} (ti:TI P t true s) (hx:B2 st x=.s (.one l)) (hp:Aba st l cs) (he:cs.take s=ys) (hs:s=ys.length):OpV P c st (.load t x) ty (.s (.agg ys)):=by
 have:=Uh (P:=P) (c:=c) (ty:=ty) ti hx hp (by rw[<- he,zN] at hs;omega)
 rwa [he] at this
end
open Go.RowKit
def Z8 (acc:List Nat) (after:List Edge):Nat:=after.foldl (λs e=>if Region.binds .any e then s ||| (1 <<< e.on) ||| acc.getD e.on 0 else s) 0
def Lg:List Oper->List Nat->List Nat
  | [],acc=>acc
  | o::r,acc=>Lg r (acc++[Z8 acc o.after.toList])
theorem Abd {acc:List Nat} {after:List Edge} {j:Nat} (h:(Z8 acc after).testBit j=true):∃ e∈after,Region.binds .any e=true/\(e.on=j\/(acc.getD e.on 0).testBit j=true):=by
  have key:∀ (l:List Edge) (s:Nat),(l.foldl (λs e=>if Region.binds .any e then s ||| (1 <<< e.on) ||| acc.getD e.on 0 else s) s).testBit j=true ->
      s.testBit j=true\/∃ e∈l,Region.binds .any e=true/\(e.on=j\/(acc.getD e.on 0).testBit j=true):=by
    intro l
    induction l with
    | nil=>intro s h;exact .inl h
    | cons e l ih =>
      intro s h
      rw[kO] at h
      rcases ih _ h with h|⟨e',he,h⟩
      · cases hb:Region.binds .any e with
        | false=>rw[hb] at h;exact .inl h
        | true =>
          rw[hb,if_pos rfl,Nat.testBit_or,Nat.testBit_or,wQ,wQ] at h
          rcases h with(h|h)|h
          · exact .inl h
          · refine .inr ⟨e,yR ..,hb,.inl ?_⟩
            rw[Nat.one_shiftLeft,Nat.testBit_two_pow] at h
            exact of_decide_eq_true h
          · exact .inr ⟨e,yR ..,hb,.inr h⟩
      · exact .inr ⟨e',yQ _ he,h⟩
  rcases key after 0 h with h|h
  · simp at h
  · exact h
def Sd (ops:Array Oper) (listed:Array Bool):Prop:=∀ (i:Nat) (o:Oper),ops[i]? = some o->listed.getD i false=true->Met listed o
theorem Xu:∀ (l:List Oper) (acc:List Nat) (i:Nat),i<acc.length->(Lg l acc).getD i 0=acc.getD i 0
  | [],acc,i,_=>rfl
  | o::r,acc,i,h=>by
    rw[Lg,Xu r _ i (by simp;omega)]
    simp [List.getD,zK h]
theorem Ww {listed:Array Bool} {ops:Array Oper} (hc:Sd ops listed):∀ (l:List Oper) (acc:List Nat),(∀ i o,l[i]? = some o->ops[acc.length+i]? = some o) ->
    (∀ i,i<acc.length->listed.getD i false=true->∀ j,(acc.getD i 0).testBit j=true->listed.getD j false=true) ->
    ∀ i,listed.getD i false=true->∀ j,((Lg l acc).getD i 0).testBit j=true->listed.getD j false=true
  | [],acc,_,hp,i,hi,j,hj=>by
    by_cases h:i<acc.length
    · exact hp i h hi j hj
    · rw[Lg] at hj
      simp [List.getD,yL (by omega:acc.length<=i)] at hj
  | o::r,acc,ho,hp,i,hi,j,hj=>by
    refine Ww hc r (acc++[Z8 acc o.after.toList]) (λi' o' h=>?_) (λi' h' hl j' hj'=>?_) i hi j hj
    · have:=ho (i'+1) o' (by simpa using h)
      rw[<- this]
      congr 1
      simp;omega
    · simp only[zH,yD] at h'
      by_cases h:i'<acc.length
      · have e:(acc++[Z8 acc o.after.toList]).getD i' 0=acc.getD i' 0:=by simp [List.getD,zK h]
        rw[e] at hj'
        exact hp i' h hl j' hj'
      · have e0:i'=acc.length:=by omega
        have e:(acc++[Z8 acc o.after.toList]).getD i' 0=Z8 acc o.after.toList:=by simp [List.getD,e0]
        rw[e] at hj'
        obtain⟨ed,hed,hb,h1⟩:=Abd hj'
        have hm:=hc i' o (by have:=ho 0 o rfl;rw[e0];exact this) hl
        have hon:=hm ed (by simpa using hed) hb
        rcases h1 with h1|h1
        · rw[<- h1];exact hon
        · by_cases h2:ed.on<acc.length
          · exact hp ed.on h2 hon j' h1
          · simp [List.getD,yL (by omega:acc.length<=ed.on)] at h1
theorem Z5 {listed:Array Bool} {ops:Array Oper} (hc:Sd ops listed) {i:Nat} {o:Oper} (ho:ops[i]? = some o) (hm:Met listed o) {j:Nat} (hj:((Lg ops.toList []).getD i 0).testBit j=true):listed.getD j false=true:=by
  have hil:i<ops.toList.length:=by have:=(yA.1 ho).1;simpa using this
  have key:∀ (l:List Oper) (acc:List Nat) (k:Nat),acc.length+k=i->l[k]? = some o->∃ acc',(Lg l acc).getD i 0=Z8 acc' o.after.toList/\∀ q,q<acc'.length->(Lg l acc).getD q 0=acc'.getD q 0:=by
    intro l
    induction l with
    | nil=>intro acc k _ h;simp at h
    | cons o' r ih =>
      intro acc k hk h
      cases k with
      | zero =>
        simp only[yT,zJ] at h
        subst h
        refine⟨acc,?_,λq hq=>?_⟩
        · rw[Lg,Xu r _ i (by simp;omega)]
          simp [List.getD,show i=acc.length by omega]
        · rw[Lg,Xu r _ q (by simp;omega)]
          simp [List.getD,zK hq]
      | succ k=>exact ih _ k (by simp;omega) (by simpa using h)
  obtain⟨acc',h1,h2⟩:=key ops.toList [] i (by simp) (by simpa using ho)
  rw[h1] at hj
  obtain⟨ed,hed,hb,h3⟩:=Abd hj
  have hon:=hm ed (by simpa using hed) hb
  rcases h3 with h3|h3
  · rw[<- h3];exact hon
  · by_cases hq:ed.on<acc'.length
    · refine Ww hc ops.toList [] (λi o h=>by simpa using h) (λi h=>by simp at h) ed.on hon j ?_
      rw[h2 _ hq];exact h3
    · simp [List.getD,yL (by omega:acc'.length<=ed.on)] at h3
def mix (T:Nat->AV) (L:List Nat) (ζ:Nat->AV):Nat->AV:=λj=>cond (L.contains j) (T j) (ζ j)
def Ug (ws:List Nat) (es:List Nat) (i j:Nat):Bool:=(es.take j).all (λe=>(ws.getD i 0).testBit e)&&(es.drop j).all (λe=>e==i||(ws.getD e 0).testBit i)
def Aae (ops:Array Oper):Bool :=
  (List.range ops.size).all λi=>match ops[i]? with
    | none=>false
    | some o=>o.after.all (λe=>!Region.binds .any e||decide (e.on<i))&&(List.range ops.size).all (λj=>match ops[j]? with
        | none=>false
        | some p=>match p.dst with
            | none=>true
            | some d=>(decide (i=j) || !(o.dst==p.dst))&&(!(o.looksAt ops).contains d||o.after.any (λe=>e.on==j&&Region.binds .any e)))
theorem Abr {ops:Array Oper} (h:Aae ops=true):Xq ops:=by
  have hget:∀ (i:Nat) (o:Oper),ops[i]? = some o->(∀ e∈o.after,(!Region.binds .any e||decide (e.on<i))=true)/\∀ (j:Nat) (p:Oper),ops[j]? = some p->∀ d,p.dst=some d->((decide (i=j) || !(o.dst==p.dst))&&(!(o.looksAt ops).contains d||o.after.any (λe=>e.on==j&&Region.binds .any e)))=true:=by
    intro i o ho
    have hi:i<ops.size:=(yA.1 ho).1
    have h1:=zL.1 h i (wL.2 hi)
    simp only[ho,zS] at h1
    refine⟨λe he=>by have:=h1.1;rw[wO] at this;exact this e he,λj p hp d hd=>?_⟩
    have hj:j<ops.size:=(yA.1 hp).1
    have h2:=zL.1 h1.2 j (wL.2 hj)
    simp only[hp,hd] at h2
    rw[hd]
    exact h2
  refine⟨λi o ho e he hb=>?_,λi o j p ho hp hij d hd hpd=>?_,λi o j p d ho hp hpd hl=>?_⟩
  · have:=(hget i o ho).1 e he
    rw[hb] at this
    simpa using this
  · have:=(hget i o ho).2 j p hp d hpd
    rw[hd,hpd] at this
    simp [hij] at this
  · have:=(hget i o ho).2 j p hp d hpd
    simp only[zS,wQ,xS] at this
    rcases this.2 with h|h
    · have hc:(o.looksAt ops).contains d=true:=by simpa using hl
      rw[h] at hc;cases hc
    · rw[Array.any_eq_true] at h
      obtain⟨k,hk,h⟩:=h
      simp only[zS,beq_iff_eq] at h
      exact⟨_,j9 hk,h.1,h.2⟩
section
variable {P:Program} {c:Ctx} {t:Nat->AV} {m:List Blk} {Q:Exit->AS->Prop}
def Arb (P:Program) (c:Ctx) (ops:Array Oper) (T:Nat->AV) (M M':List Blk) (o:Oper) (x:AV):Prop :=
  ∀ ζ,AWL P c ops (λe st=>e=.normal/\st=⟨(match o.dst with|some d=>upd (mix T (o.looksAt ops) ζ) d x|none=>mix T (o.looksAt ops) ζ),M'⟩) [{ o with guard:=none }] ⟨mix T (o.looksAt ops) ζ,M⟩
def Aln (P:Program) (c:Ctx) (ops:Array Oper) (ws es:List Nat) (all:List (List Blk)) (i:Nat) (t:Nat->AV) (o:Oper) (x:AV):Prop :=
  (∃ md,T6 P c md ops t o x/\((∃ j,Ug ws es i j=true/\all[j]? = some md)\/∀ M∈all,Acr md M))\/∀ M∈all,T6 P c M ops t o x
theorem Aln.congr {ops:Array Oper} {ws es:List Nat} {all:List (List Blk)} {i:Nat} {t t':Nat->AV} {o:Oper} {x:AV} (h:Aln P c ops ws es all i t o x) (ht:∀ y∈o.looksAt ops,t y=t' y):Aln P c ops ws es all i t' o x:=by
  rcases h with⟨md,h1,h2⟩|h
  · exact .inl ⟨md,h1.congr ht,h2⟩
  · exact .inr λM hM=>(h M hM).congr ht
def DE (P:Program) (c:Ctx) (ops:Array Oper) (ws es:List Nat) (all:List (List Blk)) (k:(Nat->AV)->Prop):Nat->List (List Blk)->List Oper->(Nat->AV)->Prop
  | _,Ms,[],t=>Ms.length=1/\k t
  | i,Ms,o::rest,t =>
    (es.contains i=false/\∃ x d,o.dst=some d/\d<c.nt/\Aln P c ops ws es all i t o x/\DE P c ops ws es all k (i+1) Ms rest (upd t d x)) \/
    (∃ j M M' Ms' x,es[j]? = some i/\Ug ws es i j=true/\all[j]? = some M/\all[j+1]? = some M'/\Ms=M::M'::Ms'/\Aoi ops t o/\Arb P c ops t M M' o x/\(∀ d,o.dst=some d->d<c.nt) /\
      DE P c ops ws es all k (i+1) (M'::Ms') rest (match o.dst with|some d=>upd t d x|none=>t))
theorem Aki {T T':Nat->AV} {L:List Nat} (h:∀ x∈L,T x=T' x) (ζ:Nat->AV):mix T L ζ=mix T' L ζ:=by
  funext j
  unfold mix
  cases hc:L.contains j with
  | false=>rfl
  | true=>exact h j (by simpa using hc)
theorem Aoi.congr {ops:Array Oper} {t t':Nat->AV} {o:Oper} (h:Aoi ops t o) (ht:∀ y∈o.looksAt ops,t y=t' y):Aoi ops t' o:=by
  rcases h with h|⟨j,want,dj,h1,h2,h3⟩
  · exact .inl h
  · exact .inr ⟨j,want,dj,h1,h2,by rw[<- ht dj (Da h1 h2)];exact h3⟩
theorem Arb.congr {ops:Array Oper} {t t':Nat->AV} {M M':List Blk} {o:Oper} {x:AV} (h:Arb P c ops t M M' o x) (ht:∀ y∈o.looksAt ops,t y=t' y):Arb P c ops t' M M' o x:=by
  intro ζ
  have:=h ζ
  rwa [Aki ht ζ] at this
theorem DE.get {ops:Array Oper} {ws es:List Nat} {all:List (List Blk)} {k:(Nat->AV)->Prop}:∀ {l:List Oper} {i:Nat} {Ms:List (List Blk)} {t:Nat->AV},DE P c ops ws es all k i Ms l t->(Ir l).Nodup->(∀ (q:Nat) (o:Oper),l[q]? = some o->∀ y∈o.looksAt ops,y∉Ir (l.drop q)) ->
    ∃ T,k T/\(∀ y,y∉Ir l->T y=t y)/\∀ (q:Nat) (o:Oper),l[q]? = some o ->
      (es.contains (i+q)=false/\∃ d,o.dst=some d/\d<c.nt/\Aln P c ops ws es all (i+q) T o (T d)) \/
      (∃ j M M' x,es[j]? = some (i+q)/\Ug ws es (i+q) j=true/\all[j]? = some M/\all[j+1]? = some M'/\Aoi ops T o/\Arb P c ops T M M' o x/\∀ d,o.dst=some d->d<c.nt/\T d=x)
  | [],i,Ms,t,h,_,_=>⟨t,h.2,λ_ _=>rfl,λq o h=>by simp at h⟩
  | o::rest,i,Ms,t,h,hnd,hl=>by
    have hlook:∀ y∈o.looksAt ops,y∉Ir (o::rest):=λy hy=>by simpa using hl 0 o rfl y hy
    have hlt:∀ (q:Nat) (o':Oper),rest[q]? = some o'->∀ y∈o'.looksAt ops,y∉Ir (rest.drop q):=λq o' h' y hy=>by
      have:=hl (q+1) o' (by simpa using h') y hy
      simpa using this
    rcases h with⟨hne,x,d,hd,hdn,hg,hr⟩|⟨j,M,M',Ms',x,h1,h2,h3,h4,h5,h6,h7,h8,hr⟩
    · have hds:Ir (o::rest)=d::Ir rest:=by simp [Ir,hd]
      rw[hds] at hnd hlook
      have hnd':=xU.1 hnd
      obtain⟨T,hk,hT,hG⟩:=DE.get hr hnd'.2 hlt
      have hTl:∀ y∈o.looksAt ops,t y=T y:=λy hy=>by
        have:=hlook y hy
        simp only[yM,not_or] at this
        rw[hT y this.2,Ej,if_neg this.1]
      have hTd:T d=x:=by rw[hT d hnd'.1,Ej,if_pos rfl]
      refine⟨T,hk,λy hy=>?_,λq o' h'=>?_⟩
      · rw[hds] at hy
        simp only[yM,not_or] at hy
        rw[hT y hy.2,Ej,if_neg hy.1]
      · cases q with
        | zero =>
          simp only[yT,zJ] at h'
          subst h'
          exact .inl ⟨hne,d,hd,hdn,by rw[hTd];exact hg.congr hTl⟩
        | succ q =>
          have:=hG q o' (by simpa using h')
          rw[show i+1+q=i+(q+1) by omega] at this
          exact this
    · cases hd:o.dst with
      | none =>
        have hds:Ir (o::rest)=Ir rest:=by simp [Ir,hd]
        rw[hds] at hnd hlook
        rw[hd] at hr
        obtain⟨T,hk,hT,hG⟩:=DE.get hr hnd hlt
        have hTl:∀ y∈o.looksAt ops,t y=T y:=λy hy=>(hT y (hlook y hy)).symm
        refine⟨T,hk,λy hy=>hT y (by rw[hds] at hy;exact hy),λq o' h'=>?_⟩
        cases q with
        | zero =>
          simp only[yT,zJ] at h'
          subst h'
          exact .inr ⟨j,M,M',x,h1,h2,h3,h4,h6.congr hTl,h7.congr hTl,λd h=>by rw[hd] at h;cases h⟩
        | succ q =>
          have:=hG q o' (by simpa using h')
          rw[show i+1+q=i+(q+1) by omega] at this
          exact this
      | some d =>
        have hds:Ir (o::rest)=d::Ir rest:=by simp [Ir,hd]
        rw[hds] at hnd hlook
        have hnd':=xU.1 hnd
        rw[hd] at hr
        obtain⟨T,hk,hT0,hG⟩:=DE.get hr hnd'.2 hlt
        have hT:∀ y,y∉Ir rest->T y=upd t d x y:=hT0
        have hTl:∀ y∈o.looksAt ops,t y=T y:=λy hy=>by
          have:=hlook y hy
          simp only[yM,not_or] at this
          rw[hT y this.2,Ej,if_neg this.1]
        have hTd:T d=x:=by rw[hT d hnd'.1,Ej,if_pos rfl]
        refine⟨T,hk,λy hy=>?_,λq o' h'=>?_⟩
        · rw[hds] at hy
          simp only[yM,not_or] at hy
          rw[hT y hy.2,Ej,if_neg hy.1]
        · cases q with
          | zero =>
            simp only[yT,zJ] at h'
            subst h'
            refine .inr ⟨j,M,M',x,h1,h2,h3,h4,h6.congr hTl,h7.congr hTl,λd' h=>?_⟩
            rw[hd] at h
            cases h
            exact⟨h8 d hd,hTd⟩
          | succ q =>
            have:=hG q o' (by simpa using h')
            rw[show i+1+q=i+(q+1) by omega] at this
            exact this
theorem Aec {o:Oper} {a:Act} {w:World} {K K':Act->World->Prop} {Q Q':Exit->Act->World->Prop} (h:∀ a w,K a w->K' a w) (hq:∀ e a w,e≠.normal->Q e a w->Q' e a w) (hh:o.wp P a w K Q):o.wp P a w K' Q':=by
  unfold Oper.wp at *
  generalize (execOp a.eval o).run P w=r at *
  cases r with
  | ok n w' =>
    cases n <;> simp only[Oper.upon] at hh ⊢ <;>
      first
        | exact h _ _ hh
        | exact Calls.mono hh (λe w'' he=>by cases e <;> first | exact h _ _ he | exact hq _ _ _ (by simp) he | exact he.imp λ_ he=>he.imp λ_ he=>hq _ _ _ (by simp) he)
        | exact Rows.mono hh (λ_ _ he=>h _ _ he)
        | exact hq _ _ _ (by simp) hh
        | exact hh.imp λ_ he=>he.imp λ_ he=>hq _ _ _ (by simp) he
        | exact hh
  | halt x w'=>cases x <;> simp only[Oper.upon] at hh ⊢ <;> first | exact hq _ _ _ (by simp) hh | exact hh.imp λ_ he=>he.imp λ_ he=>hq _ _ _ (by simp) he | exact hh
theorem Acr.refl (m:List Blk):Acr m m:=⟨rfl,λ_ _ h=>.inr h,λ_ _ _ _ _ h=>h⟩
theorem Met.set {listed:Array Bool} {o:Oper} {i:Nat} (h:Met listed o):Met (listed.setIfInBounds i true) o:=by
  intro e he hb
  have:=h e he hb
  simp only[zF,kX] at this ⊢
  split
  · split <;> simp_all
  · exact this
theorem Sd.set {ops:Array Oper} {listed:Array Bool} (h:Sd ops listed) {i:Nat} {o:Oper} (ho:ops[i]? = some o) (hm:Met listed o):Sd ops (listed.setIfInBounds i true):=by
  intro a oa ha hl
  by_cases e:a=i
  · subst e
    rw[ho] at ha
    cases ha
    exact hm.set
  · have:(listed.setIfInBounds i true).getD a false=listed.getD a false:=by
      simp only[zF,kX]
      rw[if_neg (λe'=>e e'.symm)]
    rw[this] at hl
    exact(h a oa ha hl).set
theorem Yg {p:Nat->Bool} {es:List Nat} {j:Nat} (hj:j<=es.length) (h1:∀ e∈es.take j,p e=true) (h2:∀ e∈es.drop j,p e=false):es.countP p=j:=by
  conv=>lhs;rw[<- xI j es]
  rw[List.countP_append,List.countP_eq_length.2 h1,List.countP_eq_zero.2 (λe he=>by rw[h2 e he];simp),zN]
  omega
theorem Apf {l:List Oper} (es ws:List Nat) (all:List (List Blk)) {last:List Blk} (hws:Lg l []=ws) (hok:Aae l.toArray=true) (hnd:es.Nodup) (hes:(es.all λe=>decide (e<l.length))=true) (hall:all.length=es.length+1) (h0:all[0]? = some m) (hlast:all[es.length]? = some last)
    (h:DE P c l.toArray ws es all (λT=>Q .normal ⟨T,last⟩) 0 all l t):AWD P c Q l ⟨t,m⟩:=by
  subst hws
  have ok:=Abr hok
  have hdn:(Ir l).Nodup:=by
    have key:∀ (k:List Oper) (n:Nat),(∀ i o,k[i]? = some o->l[n+i]? = some o)->(Ir k).Nodup:=by
      intro k
      induction k with
      | nil=>intro n _;exact kJ
      | cons o r ih =>
        intro n hk
        have ih':=ih (n+1) (λi o' h'=>by have:=hk (i+1) o' (by simpa using h');rw[<- this];congr 1;omega)
        cases hd:o.dst with
        | none=>simpa [Ir,hd] using ih'
        | some d =>
          have hds:Ir (o::r)=d::Ir r:=by simp [Ir,hd]
          rw[hds]
          refine xU.2 ⟨λhmem=>?_,ih'⟩
          unfold Ir at hmem
          rw[wG] at hmem
          obtain⟨p,hp,hpd⟩:=hmem
          obtain⟨q,hq,hqp⟩:=yU hp
          have h1:=hk 0 o rfl
          have h2:=hk (q+1) p (by simp [hq,hqp])
          exact ok.ne n o (n+(q+1)) p (by simpa using h1) (by simpa using h2) (by omega) d hd hpd
    exact key l 0 (λi o h=>by simpa using h)
  obtain⟨T,hQ,hTt,hG⟩:=DE.get h hdn (Avs ok)
  let B:Array Bool->List Blk:=λlisted=>all.getD (es.countP λe=>listed.getD e false) []
  let HI:Array Bool->(Nat->Value)->Prop:=λlisted _=>Sd l.toArray listed
  have hws:∀ {listed:Array Bool},Sd l.toArray listed->∀ i,listed.getD i false=true->∀ j,((Lg l []).getD i 0).testBit j=true->listed.getD j false=true:=λhc =>
    Ww hc l [] (λi o h=>by simpa using h) (λi h=>by simp at h)
  have hBj:∀ {j:Nat} {M:List Blk},all[j]? = some M->j<=es.length:=λh=>by
    have:=(zB.1 h).1;omega
  have huf:∀ {listed:Array Bool} {i:Nat},listed.size=l.toArray.size->i<l.length->listed.getD i true=false->listed.getD i false=false:=by
    intro listed i hs hi h
    simp only[zF] at h ⊢
    rw[zR (by rw[hs];simpa using hi)] at h ⊢
    exact h
  have exact_:∀ {listed:Array Bool} {i j:Nat} {o:Oper} {M:List Blk},Sd l.toArray listed->l[i]? = some o->Met listed o->listed.getD i false=false->Ug (Lg l []) es i j=true->all[j]? = some M->es.countP (λe=>listed.getD e false)=j:=by
    intro listed i j o M hc ho hmt hun hx hM
    unfold Ug at hx
    rw[zS,zL,zL] at hx
    refine Yg (hBj hM) (λe he=>?_) (λe he=>?_)
    · have:=Z5 (ops:=l.toArray) hc (i:=i) (o:=o) (by simpa using ho) hmt (j:=e) (by simpa using hx.1 e he)
      exact this
    · have:=hx.2 e he
      rw[wQ] at this
      cases hle:listed.getD e false with
      | false=>rfl
      | true =>
        rcases this with h|h
        · have e1:e=i:=by simpa using h
          rw[e1,hun] at hle;cases hle
        · have:=hws hc e hle i h
          rw[hun] at this;cases this
  have hBsame:∀ {listed:Array Bool} {i:Nat},es.contains i=false->B (listed.setIfInBounds i true)=B listed:=by
    intro listed i hi
    show all.getD _ []=all.getD _ []
    congr 1
    refine List.countP_congr λe he=>?_
    have : i ≠ e := fun e' => by subst e'; have : es.contains i = true := by simpa using he
                                 rw[hi] at this;cases this
    simp only[zF,yV this]
  have hlk:∀ {i:Nat} {o:Oper},l.toArray[i]? = some o->l[i]? = some o/\i<l.length:=λ{i o} h=>by
    have h':l[i]? = some o:=by simpa using h
    exact⟨h',(zB.1 h').1⟩
  refine Adc (T:=T) (B:=B) (HI:=HI) ok (λi o ho=>?_) hTt (λa w S H r=>⟨H,?_,?_⟩) (λlisted hs hl=>?_)
  · obtain⟨ho',hil⟩:=hlk ho
    rcases hG i o ho' with⟨hne,d,hd,hdn,hg⟩|⟨j,M,M',x,h1,h2,h3,h4,h5,h6,h7⟩
    · rw[yK] at hne hg
      refine .inl λlisted H hs hun hmt hc=>?_
      have hBmem:B listed∈all:=by
        have hle:es.countP (λe=>listed.getD e false)<all.length:=by have:=jT (p:=λe=>listed.getD e false) (l:=es);omega
        show all.getD (es.countP λe=>listed.getD e false) []∈all
        simp only[List.getD,zC hle,yI]
        exact xZ hle
      rcases hg with⟨md,hg,hmd⟩|hg
      · refine⟨md,⟨d,hd,hdn,hg⟩,?_,hBsame hne,hc.set ho hmt⟩
        rcases hmd with⟨j,hx,hM⟩|hmd
        · have:=exact_ hc ho' hmt (huf hs hil hun) hx hM
          show Acr md (all.getD (es.countP λe=>listed.getD e false) [])
          rw[this]
          simp only[List.getD,hM,yI]
          exact Acr.refl md
        · exact hmd _ hBmem
      · exact⟨B listed,⟨d,hd,hdn,hg _ hBmem⟩,Acr.refl _,hBsame hne,hc.set ho hmt⟩
    · rw[yK] at h1 h2
      refine .inr ⟨h5,λlisted hs hun hmt a w S H r hc K Qn hK=>?_⟩
      have hcnt:=exact_ hc ho' hmt (huf hs hil hun) h2 h3
      have hcnt':es.countP (λe=>(listed.setIfInBounds i true).getD e false)=j+1:=by
        have hjl:=(zB.1 h1).1
        have hje:=(zB.1 h1).2
        have hx:=h2
        unfold Ug at hx
        rw[zS,zL,zL] at hx
        refine Yg (by omega) (λe he=>?_) (λe he=>?_)
        · by_cases hei:e=i
          · subst hei
            simp only[zF]
            rw[xF (by rw[hs];simpa using hil)];rfl
          · have hmem:e∈es.take j:=by
              rw[List.take_add_one,yC] at he
              rcases he with he|he
              · exact he
              · rw[h1] at he;simp at he;exact absurd he hei
            have:=Z5 (ops:=l.toArray) hc (i:=i) (o:=o) ho hmt (j:=e) (by simpa using hx.1 e hmem)
            simp only[zF,yV (λe'=>hei e'.symm)] at this ⊢
            exact this
        · have hei:e≠i:=by
            intro e'
            subst e'
            obtain⟨q,hq,hqe⟩:=yU he
            rw[zAa] at hqe
            have:=(List.getElem_inj hnd).1 (hqe.trans hje.symm)
            omega
          have hd':e∈es.drop j:=by
            rw[<- kY] at he
            exact kE he
          have:=hx.2 e hd'
          rw[wQ] at this
          simp only[zF,yV (λe'=>hei e'.symm)]
          cases hle:listed.getD e false with
          | false=>simpa [zF] using hle
          | true =>
            rcases this with h|h
            · exact absurd (by simpa using h) hei
            · have h9:=hws hc e hle i h
              rw[huf hs hil hun] at h9;cases h9
      have hB1:B listed=M:=by show all.getD _ []=M;rw[hcnt];simp [List.getD,h3]
      have hB2:B (listed.setIfInBounds i true)=M':=by show all.getD _ []=M';rw[hcnt'];simp [List.getD,h4]
      have hlook:=Agv (T:=T) ok hs ho hmt
      have hmix:mix T (o.looksAt l.toArray) (TL l.toArray T listed)=TL l.toArray T listed:=by
        funext y
        unfold mix
        cases hc':(o.looksAt l.toArray).contains y with
        | false=>rfl
        | true=>exact(hlook y (by simpa using hc')).symm
      have heff:=h6 (TL l.toArray T listed)
      rw[hmix] at heff
      rw[hB1] at r
      have hw:=heff a w S H r
      unfold wpList at hw
      rw[if_pos (by rfl)] at hw
      rcases hw with hw|⟨_,a',w',st',S',H',_,he,_⟩
      · refine Aec (P:=P) (o:=o) ?_ ?_ (show o.wp P a w _ _ from hw)
        · rintro a' w' ⟨st',S',H',r',_,rfl⟩
          refine hK a' w' S' H' ?_ (hc.set ho hmt)
          rw[hB2]
          cases hd:o.dst with
          | none =>
            rw[hd] at r'
            rw[<- Zv ho hd]
            exact r'
          | some d =>
            rw[hd] at r'
            rw[<- All (T:=T) ok hs ho hun hd,(h7 d hd).2]
            exact r'
        · rintro e a' w' hne ⟨st',S',H',r',he,_⟩
          exact absurd he hne
      · cases he
  · have:B (Array.replicate l.toArray.size false)=m:=by
      show all.getD _ []=m
      have h9:es.countP (λe=>(Array.replicate l.toArray.size false).getD e false)=0:=by
        refine List.countP_eq_zero.2 λe _=>?_
        simp only[zF,wX]
        split <;> simp
      rw[h9]
      simp [List.getD,h0]
    rw[this]
    exact r
  · intro i o _ hl
    simp only[zF,wX] at hl
    split at hl <;> simp at hl
  · have hin:∀ e∈es,e<l.length:=λe he=>by simpa using zL.1 hes e he
    have h9:es.countP (λe=>listed.getD e false)=es.length:=by
      refine List.countP_eq_length.2 λe he=>?_
      have h1:=hl e (by simpa using hin e he)
      have h2:e<listed.size:=by rw[hs];simpa using hin e he
      simp only[zF,zR h2,yI] at h1 ⊢
      exact h1
    have:B listed=last:=by
      show all.getD _ []=last
      rw[h9]
      simp [List.getD,hlast]
    rw[this]
    exact hQ
theorem Hs {id:Nat} {l:List Oper} (es ws:List Nat) (all:List (List Blk)) {last:List Blk} (hws:Lg l []=ws) (hm:P.follows .mixedOrders=true) (hok:Aae l.toArray=true) (hnd:es.Nodup) (hes:(es.all λe=>decide (e<l.length))=true) (hall:all.length=es.length+1) (h0:all[0]? = some m) (hlast:all[es.length]? = some last)
    (h:DE P c l.toArray ws es all (λT=>Q .normal ⟨T,last⟩) 0 all l t):AWC P c (.region id l.toArray true) Q ⟨t,m⟩:=(Apf es ws all hws hok hnd hes hall h0 hlast h).awc hm
variable {ops:Array Oper} {ws es:List Nat} {all Ms:List (List Blk)} {k:(Nat->AV)->Prop} {rest:List Oper} {op:Op} {ty:TypeId} {pos:String} {af:Array Edge} {d:Tmp} {x:AV} {i:Nat}
def Awy (ws es:List Nat) (all:List (List Blk)) (i:Nat) (md:List Blk):Prop:=(∃ j,Ug ws es i j=true/\all[j]? = some md)\/∀ M∈all,Acr md M
theorem Aw (j:Nat) {md:List Blk} (h:Ug ws es i j=true) (hm:all[j]? = some md):Awy ws es all i md:=.inl ⟨j,h,hm⟩
theorem Abz {M:List Blk} (h:k t):DE P c ops ws es all k i [M] [] t:=⟨rfl,h⟩
theorem ev {md:List Blk} (hs:Awy ws es all i md) (hi:es.contains i=false) (hd:decide (d<c.nt)=true) (h:OpV P c ⟨Q5 t (Oper.looksAt ops ⟨some d,op,ty,pos,af,none⟩),md⟩ op ty x) (kk:DE P c ops ws es all k (i+1) Ms rest (upd t d x)):DE P c ops ws es all k i Ms (⟨some d,op,ty,pos,af,none⟩::rest) t :=
  .inl ⟨hi,x,d,rfl,of_decide_eq_true hd,.inl ⟨md,.inl ⟨.inl rfl,h.opD⟩,hs⟩,kk⟩
theorem emv (hi:es.contains i=false) (hd:decide (d<c.nt)=true) (h:∀ md,OpV P c ⟨Q5 t (Oper.looksAt ops ⟨some d,op,ty,pos,af,none⟩),md⟩ op ty x) (kk:DE P c ops ws es all k (i+1) Ms rest (upd t d x)):DE P c ops ws es all k i Ms (⟨some d,op,ty,pos,af,none⟩::rest) t :=
  .inl ⟨hi,x,d,rfl,of_decide_eq_true hd,.inr λ_ _=>.inl ⟨.inl rfl,(h _).opD⟩,kk⟩
theorem evg {md:List Blk} {j:Nat} {want:Bool} {dj:Tmp} (hs:Awy ws es all i md) (hi:es.contains i=false) (hd:decide (d<c.nt)=true) (hj:(ops[j]?).bind (·.dst)=some dj) (ht:t dj=.s (.one (.b want))) (h:OpV P c ⟨Q5 t (Oper.looksAt ops ⟨some d,op,ty,pos,af,some (j,want)⟩),md⟩ op ty x) (kk:DE P c ops ws es all k (i+1) Ms rest (upd t d x)):DE P c ops ws es all k i Ms (⟨some d,op,ty,pos,af,some (j,want)⟩::rest) t :=
  .inl ⟨hi,x,d,rfl,of_decide_eq_true hd,.inl ⟨md,.inl ⟨.inr ⟨j,want,dj,rfl,hj,ht⟩,h.opD⟩,hs⟩,kk⟩
theorem ed {md:List Blk} (hs:Awy ws es all i md) (hi:es.contains i=false) (hd:decide (d<c.nt)=true) (h:OpD P c ⟨Q5 t (Oper.looksAt ops ⟨some d,op,ty,pos,af,none⟩),md⟩ op ty x) (kk:DE P c ops ws es all k (i+1) Ms rest (upd t d x)):DE P c ops ws es all k i Ms (⟨some d,op,ty,pos,af,none⟩::rest) t :=
  .inl ⟨hi,x,d,rfl,of_decide_eq_true hd,.inl ⟨md,.inl ⟨.inl rfl,h⟩,hs⟩,kk⟩
theorem Adb {j:Nat} {want b:Bool} {dj:Tmp} (hi:es.contains i=false) (hd:decide (d<c.nt)=true) (hj:(ops[j]?).bind (·.dst)=some dj) (ht:t dj=.s (.one (.b b))) (hb:(b==want)=false) (kk:DE P c ops ws es all k (i+1) Ms rest (upd t d (.tup []))):DE P c ops ws es all k i Ms (⟨some d,op,ty,pos,af,some (j,want)⟩::rest) t :=
  .inl ⟨hi,.tup [],d,rfl,of_decide_eq_true hd,.inr λ_ _=>.inr ⟨⟨j,want,dj,rfl,hj,.inr ⟨b,ht,hb⟩⟩,rfl⟩,kk⟩
theorem Aq7 {l:List Oper} (dj:Tmp) {b:Bool} (ht:t dj=.s (.one (.b b))) (k1:b=true->DE P c ops ws es all k i Ms l (upd t dj (.s (.one (.b true))))) (k0:b=false->DE P c ops ws es all k i Ms l (upd t dj (.s (.one (.b false))))):DE P c ops ws es all k i Ms l t:=by
  cases b
  · have:=k0 rfl
    rwa [Rf ht] at this
  · have:=k1 rfl
    rwa [Rf ht] at this
theorem ee (j:Nat) {M M':List Blk} (he:es[j]? = some i) (hx:Ug ws es i j=true) (h1:all[j]? = some M) (h2:all[j+1]? = some M') (hd:decide (d<c.nt)=true)
    (h:∀ ζ,AWL P c ops (λe st=>e=.normal/\st=⟨upd (mix t (Oper.looksAt ops ⟨some d,op,ty,pos,af,none⟩) ζ) d x,M'⟩) [⟨some d,op,ty,pos,af,none⟩] ⟨mix t (Oper.looksAt ops ⟨some d,op,ty,pos,af,none⟩) ζ,M⟩)
    (kk:DE P c ops ws es all k (i+1) (M'::Ms) rest (upd t d x)):DE P c ops ws es all k i (M::M'::Ms) (⟨some d,op,ty,pos,af,none⟩::rest) t :=
  .inr ⟨j,M,M',Ms,x,he,hx,h1,h2,rfl,.inl rfl,h,λd' h'=>by cases h';exact of_decide_eq_true hd,kk⟩
theorem eeg (j:Nat) {M M':List Blk} {jj:Nat} {want:Bool} {dj:Tmp} (he:es[j]? = some i) (hx:Ug ws es i j=true) (h1:all[j]? = some M) (h2:all[j+1]? = some M') (hd:decide (d<c.nt)=true) (hj:(ops[jj]?).bind (·.dst)=some dj) (ht:t dj=.s (.one (.b want)))
    (h:∀ ζ,AWL P c ops (λe st=>e=.normal/\st=⟨upd (mix t (Oper.looksAt ops ⟨some d,op,ty,pos,af,some (jj,want)⟩) ζ) d x,M'⟩) [⟨some d,op,ty,pos,af,none⟩] ⟨mix t (Oper.looksAt ops ⟨some d,op,ty,pos,af,some (jj,want)⟩) ζ,M⟩)
    (kk:DE P c ops ws es all k (i+1) (M'::Ms) rest (upd t d x)):DE P c ops ws es all k i (M::M'::Ms) (⟨some d,op,ty,pos,af,some (jj,want)⟩::rest) t :=
  .inr ⟨j,M,M',Ms,x,he,hx,h1,h2,rfl,.inr ⟨jj,want,dj,rfl,hj,ht⟩,h,λd' h'=>by cases h';exact of_decide_eq_true hd,kk⟩
theorem ee0 (j:Nat) {M M':List Blk} (he:es[j]? = some i) (hx:Ug ws es i j=true) (h1:all[j]? = some M) (h2:all[j+1]? = some M')
    (h:∀ ζ,AWL P c ops (λe st=>e=.normal/\st=⟨mix t (Oper.looksAt ops ⟨none,op,ty,pos,af,none⟩) ζ,M'⟩) [⟨none,op,ty,pos,af,none⟩] ⟨mix t (Oper.looksAt ops ⟨none,op,ty,pos,af,none⟩) ζ,M⟩)
    (kk:DE P c ops ws es all k (i+1) (M'::Ms) rest t):DE P c ops ws es all k i (M::M'::Ms) (⟨none,op,ty,pos,af,none⟩::rest) t :=
  .inr ⟨j,M,M',Ms,.top,he,hx,h1,h2,rfl,.inl rfl,h,(λd' h'=>by cases h'),kk⟩
theorem Tt {st:AS} {ops':Array Oper}:AWL P c ops' (λe s=>e=.normal/\s=st) [] st:=Ach ⟨rfl,rfl⟩
def Aa8:List Blk->List Blk->Prop
  | [],[]=>True
  | .dead::r,b::r'=>(match b with | .arr .. =>False | _=>True)/\Aa8 r r'
  | a::r,b::r'=>a=b/\Aa8 r r'
  | _,_=>False
theorem Ag2:∀ {md M:List Blk},Aa8 md M->Acr md M
  | [],[],_=>Acr.refl []
  | [],_::_,h=>h.elim
  | a::r,[],h=>by cases a <;> exact h.elim
  | a::r,b::r',h=>by
    have h':(a=.dead/\(∀ e sz k cs,b≠.arr e sz k cs)/\Aa8 r r')\/(a=b/\Aa8 r r'):=by
      cases a with
      | dead=>exact .inl ⟨rfl,λe sz k cs e'=>by subst e';exact h.1,h.2⟩
      | hole=>exact .inr h
      | obj g mk cs=>exact .inr h
      | tab mk cs=>exact .inr h
      | arn e sz g n cap cs=>exact .inr h
      | box cs=>exact .inr h
      | arr e sz k cs=>exact .inr h
    have ih:=Ag2 (show Aa8 r r' by rcases h' with h'|h';exact h'.2.2;exact h'.2)
    refine⟨by simp [ih.len],λp x hx=>?_,λp e sz k cs hx=>?_⟩
    · cases p with
      | zero =>
        simp only[yT,zJ] at hx
        subst hx
        rcases h' with h'|h'
        · exact .inl h'.1
        · exact .inr (by simp [h'.1])
      | succ p=>exact ih.at_ p x (by simpa using hx)
    · cases p with
      | zero =>
        simp only[yT,zJ] at hx
        rcases h' with h'|h'
        · exact absurd hx (h'.2.1 e sz k cs)
        · simp [h'.1,hx]
      | succ p=>exact ih.arr p e sz k cs (by simpa using hx)
def Zp (md:List Blk):List (List Blk)->Prop
  | []=>True
  | M::r=>Aa8 md M/\Zp md r
theorem Abn {md:List Blk}:∀ {l:List (List Blk)},Zp md l->∀ M∈l,Acr md M
  | [],_,M,h=>by simp at h
  | N::r,h,M,hm=>by
    rcases yM.1 hm with rfl|hm
    · exact Ag2 h.1
    · exact Abn h.2 M hm
theorem Bp {md:List Blk} (h:Zp md all):Awy ws es all i md:=.inr (Abn h)
end
open Go.RowKit
section
variable {P:Program} {c:Ctx} {st:AS} {ty:TypeId}
theorem Abj {op:Op} {e sz n:Nat} {cs:List Lf} (hsz:0<sz) (h:Aet P c st op ty e sz n cs):OpD P c st op ty (.s (.one (.sl n cs))):=by
  intro a w S H r dst pos af g K Q hK
  obtain⟨v,w',vals,hrun,hext,hin,hown,hls⟩:=h a w S H r
  unfold Oper.wp
  rw[hrun]
  let S':Bz:=λb i=>S b i\/(Cz v=some b/\i<cs.length)
  have hge:∀ b,Cz v=some b->w.heap.size<=b/\b<w'.heap.size:=by
    intro b hb
    rcases hown.2 with⟨hv,_⟩|⟨g',cap,cur,hv,h1,h2,_⟩
    · rw[hv] at hb;cases hb
    · rw[hv] at hb
      cases hb
      exact⟨h1,(yA.1 h2).1⟩
  have hext':Ext w S w' S':=⟨hext.os,hext.tape,hext.output,hext.size,hext.blk,λb i hs=>.inl (hext.sub b i hs),λb i hb hs=>by
    rcases hs with hs|hs
    · exact hext.back b i hb hs
    · have:=(hge b hs.1).1;omega⟩
  have hin':InH w' S':=⟨λb i hs=>by
    rcases hs with hs|hs
    · exact hin.1 b i hs
    · exact(hge b hs.1).2,hin.2.1.mono λb i hs=>⟨.inl hs,rfl⟩,hin.2.2.add λb i hs=>by
      rcases hs with hs|hs
      · exact .inl hs
      · refine .inr ⟨?_,λj hj=>by have:=r.sl.1 b j hj;have:=(hge b hs.1).1;omega⟩
        rcases hown.2 with⟨hv,_⟩|⟨g',cap,cur,hv,hbg,hg,_⟩
        · rw[hv] at hs;cases hs.1
        · have hb:Cz v=some b:=hs.1
          rw[hv] at hb
          cases hb
          have hi:i<vals.length:=by rw[<- hls.1];exact hs.2
          have:=hown.cells (g:=g') (by rw[hv];rfl) i _ (zC hi)
          rw[Addr.add_lit,yK] at this
          exact λh=>by rw[show w'.cell? ⟨g',i,none⟩=some _ from this] at h;cases h⟩
  refine hK v w' S' hext' hin' (Fl ?_)
  have hnl:n*sz=cs.length:=by rw[<- hown.1,hls.1]
  rcases hown.2 with⟨hv,h0⟩|⟨g',cap,cur,hv,hbg,hg,hnc,hcm,hcs,htake⟩
  · subst h0
    have:cs=[]:=z7 (by rw[<- hnl,kG])
    subst this
    rw[hv]
    exact .sl0 _ _
  · rw[hv]
    refine Rep.sl n cs g' 0 cap (λj=>vals.getD j undef) hnc hcm (λj l hl=>?_) (λj l hl=>?_)
    · have hj:j<cs.length:=(zB.1 hl).1
      obtain⟨u,hu,_⟩:=hls.get hl
      refine⟨.inr ⟨by rw[hv];simp [Cz],by omega⟩,?_⟩
      have:=hown.cells (g:=g') (by rw[hv];rfl) j u hu
      rw[Addr.add_lit] at this
      rw[this]
      simp [List.getD,hu]
    · obtain⟨u,hu,hr⟩:=hls.get hl
      have:vals.getD j undef=u:=by simp [List.getD,hu]
      rw[this]
      exact Rep.mono (λb i h=>⟨.inl h,rfl⟩) hr
variable {α:Type} {f:α->List Lf} {sz:Nat}
theorem Z1 {t e sz bytes len:Nat} {zl out:List Lf} {parts:Array (Nat×Operand)} {xs:List (Nat×SV)} (si:P.underlying t=some (.slice e)) (ei:EI P e sz bytes zl) (hp:Yy st parts.toList xs)
    (hb:Wj (λi:Nat=>some (i*sz,sz)) (Aax zl (len*sz)) xs out) (hout:out.all Lf.pubd=true) (hlen:len*sz<=16777216):OpD P c st (.buildSlice t len parts) ty (.s (.one (.sl len out))) :=
  Abj ei.p (Rx si ei hp hb (zL.1 hout) hlen)
theorem Ty {callee:Operand} {g:FuncId} {la lb:List Lf} {args:Array Operand} {ats:Array TypeId} {xs:List SV} {r:AV} (hf:FnI P g) (hcal:Cal st callee g la lb) (ho:Xi st args.toList xs) (hp:(la.map SV.one++xs++lb.map SV.one).all (λx=>x.cells.all Lf.pubd)=true) (hc:A6 P g (la.map SV.one++xs++lb.map SV.one) (·=r)) :
    OpD P c st (.call { callee:=.value callee,args:=args,argTypes:=ats }) ty r:=by
  intro a w S H rr dst pos af gd K Q hK
  obtain⟨va,vb,hv,h1,h2⟩:=hcal.val rr
  have hsv:=Us (Us (Zg h1) (T0 rr ho)) (Zg h2)
  have hsr:Yv (Rep w S) (la.map SV.one++xs++lb.map SV.one) (va.toList++args.toList.map a.eval++vb.toList) :=
    ⟨hsv.1,λj x v hx hv'=>Al4 (hsv.2 j x v hx hv') (zL.1 hp x (zG hx))⟩
  unfold Oper.wp
  have hrun:(execOp a.eval ⟨dst,.call { callee:=.value callee,args:=args,argTypes:=ats },ty,pos,af,gd⟩).run P w=.ok (.enter g (va++args.map a.eval++vb)) w:=by
    simp [execOp,resolve,hv,Deferred.ofValue,invoke,hf.run]
  rw[hrun]
  refine(hc w S (va++args.map a.eval++vb) rr.sl (by simpa using hsr)).mono ?_
  rintro e w' ⟨v,x,S',rfl,rfl,hext,hin,hav⟩
  exact hK v w' S' hext hin (Xt hav)
end
section
variable {P:Program} {c:Ctx} {t:Nat->AV} {m:List Blk} {ops:Array Oper} {Q:Exit->AS->Prop} {rest:List Oper} {op:Op} {ty:TypeId} {pos:String} {af:Array Edge} {d:Tmp} {x:AV}
theorem sd (hd:decide (d<c.nt)=true) (h:OpD P c ⟨t,m⟩ op ty x) (k:AWL P c ops Q rest ⟨upd t d x,m⟩):AWL P c ops Q (⟨some d,op,ty,pos,af,none⟩::rest) ⟨t,m⟩:=by
  intro a w S H r
  refine wpList_plain rfl λK hK=>?_
  exact h a w S H r (some d) pos af none K _ (λv w' S' hext hin hav=>hK _ _ (k _ _ _ _ ((r.ext hext hin).put (of_decide_eq_true hd) hav)))
theorem Agi {t' e sz bytes len:Nat} {zl out:List Lf} {parts:Array (Nat×Operand)} {xs:List (Nat×SV)} (hd:decide (d<c.nt)=true) (si:P.underlying t'=some (.slice e)) (ei:EI P e sz bytes zl) (hp:Yy ⟨t,m⟩ parts.toList xs)
    (hb:Wj (λi:Nat=>some (i*sz,sz)) (Aax zl (len*sz)) xs out) (hout:out.all Lf.pubd=true) (hlen:len*sz<=16777216)
    (k:AWL P c ops Q rest ⟨upd t d (.s (.one (.ls m.length len))),m++[.arr e sz 0 out]⟩):AWL P c ops Q (⟨some d,.buildSlice t' len parts,ty,pos,af,none⟩::rest) ⟨t,m⟩ :=
  Ut ei.p (of_decide_eq_true hd) (Rx si ei hp hb (zL.1 hout) hlen) k
end
open Go.RowKit
section
variable {P:Program} {c:Ctx} {st:AS} {t:Nat->AV} {m:List Blk} {ops:Array Oper} {Q:Exit->AS->Prop} {rest:List Oper} {ty:TypeId} {pos:String} {af:Array Edge} {d:Tmp}
theorem Ab6 {xt yt e n:Nat} {x:Operand} {cs:List Lf} (hd:decide (d<c.nt)=true) (hu:P.underlying xt=some (.slice e)) (hx:B2 ⟨t,m⟩ x=.s (.one (.sl n cs)))
  (k:∀ b,(b=true->n=0)->AWL P c ops Q rest ⟨upd t d (.s (.one (.b b))),m⟩):AWL P c ops Q (⟨some d,.binOp .eql xt x (.const (.slice none 0 0)) yt,ty,pos,af,none⟩::rest) ⟨t,m⟩:=by
 intro a w S H r
 have hx':=Ba r x
 rw[hx] at hx'
 have hx'':Rep w S (.sl n cs) (a.eval x):=hx'
 refine wpList_plain rfl λK hK=>?_
 unfold Oper.wp
 have key:∀ b,(b=true->n=0)->(execOp a.eval ⟨some d,.binOp .eql xt x (.const (.slice none 0 0)) yt,ty,pos,af,none⟩).run P w=.ok (.value (.bool b)) w->Oper.upon P ⟨some d,.binOp .eql xt x (.const (.slice none 0 0)) yt,ty,pos,af,none⟩ a K (QR c Q) ((execOp a.eval ⟨some d,.binOp .eql xt x (.const (.slice none 0 0)) yt,ty,pos,af,none⟩).run P w):=by
  intro b hb hrun
  rw[hrun]
  exact hK _ _ (k b hb _ _ _ _ (r.put (d:=d) (x:=.s (.one (.b b))) (of_decide_eq_true hd) (Fl (.b b))))
 generalize hv:a.eval x=v at hx''
 have hc:a.eval (.const (.slice none 0 0))=.slice none 0 0:=rfl
 cases hx'' with
 | sl0 ad cap =>
  refine key ad.isNone (λ_=>rfl) ?_
  cases ad <;> simp [execOp,hv,hc,eqGuard,binOp,run_underlying hu,run_equal_slice_nil w xt e _ _ _ hu]
 | sl n cs bk off cap vals hcn hm hs hr =>
  refine key false (λh=>by cases h) ?_
  simp [execOp,hv,hc,eqGuard,binOp,run_underlying hu,run_equal_slice_nil w xt e _ _ _ hu]
end
open Go.RowKit
section
variable {P:Program} {c:Ctx} {st:AS} {ty:TypeId}
theorem E7 {t:TypeId} {x:Operand} {e sz:Nat} (si:SI P t e sz) (hx:B2 st x=.s (.one (.raw (.slice none 0 0)))) :
  OpV P c st (.call { callee:=.builtin .cap,args:=#[x],argTypes:=#[t] }) ty (.s (.one (.i .i64 0))):=by
 intro a w S H r
 have hx':=Ba r x
 rw[hx] at hx'
 have hv:a.eval x=.slice none 0 0:=Eu hx'
 refine⟨.int .i64 0,Fl (.i _ _),λ_ _ _ _=>?_⟩
 simp [execOp,resolve,invoke,builtin,Builtin.cap_,run_underlying si.u,hv,goInt]
theorem Kw {t:TypeId} {x o:Operand} {e sz:Nat} {k:IntKind} (si:SI P t e sz) (hx:B2 st x=.s (.one (.raw (.slice none 0 0)))) (ho:B2 st o=.s (.one (.i k 0))) :
  OpV P c st (.slice t x none (some o) none) ty (.s (.one (.raw (.slice none 0 0)))):=by
 intro a w S H r
 have hx':=Ba r x
 rw[hx] at hx'
 have hv:a.eval x=.slice none 0 0:=Eu hx'
 refine⟨.slice none 0 0,Fl (.raw _ rfl),λ_ _ _ _=>?_⟩
 have hb:=R3 (P:=P) r ho (xQ 0) 0 (zZ _) .sliceAcap
 simp only[Int.toNat_zero] at hb
 simp [execOp,hv,Instr.sliceAt,Instr.slice,run_underlying si.u,Instr.sliceBounds,Ci si.i,hb]
end
section
variable {P:Program} {c:Ctx} {t:Nat->AV} {m:List Blk} {ops:Array Oper} {Q:Exit->AS->Prop} {rest:List Oper} {ty:TypeId} {pos:String} {af:Array Edge} {d:Tmp} {α:Type} {f:α->List Lf} {sz:Nat}
theorem Avo {x y:Operand} {t' t2 e bytes:Nat} {zl:List Lf} {k kn:IntKind} {n:Int} {z:α} (hd:decide (d<c.nt)=true) (si:P.underlying t'=some (.slice e)) (ei:EI P e sz bytes zl) (h2:P.underlying t2=some (.int kn)) (hf:∀ x,(f x).length=sz) (hz:f z=zl) (hx:B2 ⟨t,m⟩ x=.s (.one (.raw (.slice none 0 0)))) (hy:B2 ⟨t,m⟩ y=.s (.one (.i k n)))
  (h:0<n/\n*(bytes:Int)<=281474976710656) (hb:0<bytes)
  (kk:AWL P c ops Q rest ⟨upd t d (.s (.one (.ls m.length (List.replicate n.toNat z).length))),m++[.arr e sz 0 ((List.replicate n.toNat z).flatMap f)]⟩) :
  AWL P c ops Q (⟨some d,.call { callee:=.builtin .append,args:=#[x,y],argTypes:=#[t',t2] },ty,pos,af,none⟩::rest) ⟨t,m⟩:=by
 obtain⟨N,rfl⟩:∃ N:Nat,n=(N:Int):=⟨n.toNat,by omega⟩
 have hN:0<N:=by omega
 have h48:N*bytes<=281474976710656:=by have:=h.2;rw[<- Int.natCast_mul] at this;omega
 have hle:N<=N*bytes:=jM _ hb
 rw[zT,zAd,<- Aew hz hf] at kk
 refine Ut (e:=e) (sz:=sz) (n:=N) (cs:=Aax zl (N*sz)) ei.p (of_decide_eq_true hd) (λa w S H r=>?_) kk
 obtain⟨i,zz,hi,hzz,hsize,hbytes,hzs,hzl,hzo⟩:=ei.h
 have hx':=Ba r x
 rw[hx] at hx'
 have hv:a.eval x=.slice none 0 0:=Eu hx'
 have hy':=Ba r y
 rw[hy] at hy'
 have ev:a.eval y=.int k N:=Sk hy'
 subst hsize hbytes
 have hrun:=Lib.run_append_nil_zeros (P:=P) w t' t2 ty e i zz k kn si h2 hi hzz N hN ei.p (by omega) h48
 have hcap:=grownCap_ge w N 0 e
 have hcm:grownCap w N 0 e<=maxLen:=grownCap_le_maxLen w N 0 e (by simp only[maxLen];omega)
 have hlen1:(Builtin.zeroCells zz.cells N).size=N*i.size:=by rw[size_zeroCells,hzs]
 refine⟨.slice (some ⟨w.heap.size,0,none⟩) N (grownCap w N 0 e),w.drew.alloc (.cells (Builtin.zeroCells zz.cells N++Builtin.zeroCells zz.cells (grownCap w N 0 e-N)) e),(Builtin.zeroCells zz.cells N).toList,λ_ _ _ _=>by simp [execOp,resolve,invoke,builtin,hv,ev,hrun],?_,r.sl.ext ((Ext.drew w S).trans (Ext.alloc w.drew S _)),?_,?_⟩
 ·exact(Ext.drew w S).trans (Ext.alloc w.drew S _)
 ·refine⟨by rw[zX,hlen1],.inr ⟨w.heap.size,grownCap w N 0 e,_,rfl,zO _,heap_alloc_new w.drew _,hcap,hcm,?_,?_⟩⟩
  ·simp only[yY,size_zeroCells,hzs,<- wR]
   congr 1;omega
  ·simp only[xR]
   rw[wK (by rw[zX,hlen1])]
 ·have:=Ab2 (w:=w.drew.alloc (.cells (Builtin.zeroCells zz.cells N++Builtin.zeroCells zz.cells (grownCap w N 0 e-N)) e)) (S:=S) (z:=zz) (by rw[hzs];exact ei.p) hzo (N*i.size) (N*i.size) (zO _)
  have e2:(madeCells zz.cells (N*i.size)).toList.take (N*i.size)=(Builtin.zeroCells zz.cells N).toList:=by
   rw[yO (by rw[zX,size_madeCells];exact zO _)]
   unfold madeCells Builtin.zeroCells
   rw[hzs]
  rw[e2] at this
  rw[<- hzl]
  exact this
theorem Ab0 {x o:Operand} {t' e p n:Nat} {cs:List Lf} {xs:List α} {k:IntKind} {j:Int} (hd:decide (d<c.nt)=true) (si:SI P t' e sz) (hf:∀ x,(f x).length=sz) (hx:B2 ⟨t,m⟩ x=.s (.one (.ls p n))) (hm:m[p]? = some (.arr e sz 0 cs)) (hcs:cs=xs.flatMap f) (hn:n=xs.length) (ho:B2 ⟨t,m⟩ o=.s (.one (.i k j))) (h:0<=j/\j<=xs.length)
  (kk:AWL P c ops Q rest ⟨upd t d (.s (.one (.ls m.length (xs.take j.toNat).length))),m.set p .dead++[.arr e sz 0 ((xs.take j.toNat).flatMap f)]⟩) :
  AWL P c ops Q (⟨some d,.slice t' x none (some o) none,ty,pos,af,none⟩::rest) ⟨t,m⟩:=by
 intro a w S H r
 have hx':=Ba r x
 rw[hx] at hx'
 obtain⟨hp,_,hr⟩:=hx'
 have hnl:n*sz=cs.length:=by rw[hcs,Aq hf,hn]
 have hv:a.eval x=H p:=(hr _ _ _ _ hm).2 hnl
 obtain⟨hsz,hk,n0,vals,hown,hls,hst⟩:=r.bl p _ hm
 have hn0:n0=n:=L0 hown hsz (by rw[<- hls.1];exact hnl)
 subst hn0
 have hjn:j.toNat<=n0:=by omega
 have hfl:(xs.take j.toNat).flatMap f=cs.take (j.toNat*sz):=by rw[hcs,Wy hf]
 have htl:(xs.take j.toNat).length=j.toNat:=by rw[zN];omega
 have hsetl:m.set p .dead=m.set p .dead:=rfl
 have hhead:∃ v',(∀ dst pos af g,(execOp a.eval ⟨dst,.slice t' x none (some o) none,ty,pos,af,g⟩).run P w=.ok (.value v') w)/\w.ownsRow 0 e sz v' j.toNat (vals.take (j.toNat*sz))/\(∀ g,Cz v'=some g->Cz (H p)=some g)/\v'.oneCell'=true:=by
  have hvl:(vals.take (j.toNat*sz)).length=j.toNat*sz:=by rw[zN,hown.1,wV (yZ _ hjn)]
  rcases hown.2 with⟨h1,h0⟩|⟨g,cap,cur,h1,h2,h3,h4,h5,h6,h7⟩
  ·have hj0:j=0:=by omega
   subst hj0
   have hb:=R3 (P:=P) r ho (xQ 0) 0 (zZ _) .sliceAcap
   simp only[Int.toNat_zero] at hb
   refine⟨.slice none 0 0,λ_ _ _ _=>by simp [execOp,hv,h1,Instr.sliceAt,Instr.slice,run_underlying si.u,Instr.sliceBounds,Ci si.i,hb],⟨hvl,.inl ⟨rfl,rfl⟩⟩,(λg hg=>by cases hg),rfl⟩
  ·have hb:=R3 (P:=P) r ho h.1 cap (by omega) .sliceAcap
   refine⟨.slice (some ⟨g,0,none⟩) j.toNat cap,λ_ _ _ _=>by simp [execOp,hv,h1,Instr.sliceAt,Instr.slice,run_underlying si.u,Instr.sliceBounds,Ci si.i,hb,show(⟨g,0,none⟩:Addr).add 0=⟨g,0,none⟩ from Addr.add_lit _ _ _],⟨hvl,.inr ⟨g,cap,cur,rfl,h2,h3,by omega,h5,h6,?_⟩⟩,λg' hg=>by rw[h1];exact hg,rfl⟩
   rw[<- h7,List.take_take,wV (yZ _ hjn)]
 obtain⟨v',hrun,hown',hvo,hone⟩:=hhead
 have r1:Rel c ⟨t,m.set p .dead⟩ a w S (Mr H p (H p)):=by
  refine r.change (p:=p) (b':=.dead) (v:=H p) (by simp) (by simp [hp]) (λq hq=>zM (λe=>hq e.symm)) (λb i h=>⟨h,rfl⟩) (λg _ h=>rfl) (λe sz k cs _ h=>by cases h)
   (λg _ _=>rfl) trivial (λg hg=>by cases hg) (λq b g i _ _ _ h=>h) (λg i _ _ h=>h) r.sl.two (zO _) rfl rfl rfl (λ_ _ h=>h)
 have hml:(m.set p Blk.dead).length=m.length:=by simp
 have r2:Rel c ⟨t,m.set p .dead++[.arr e sz 0 ((xs.take j.toNat).flatMap f)]⟩ a w S (Mr (Mr H p (H p)) m.length v'):=by
  refine r1.change (p:=m.length) (b':=.arr e sz 0 ((xs.take j.toNat).flatMap f)) (v:=v') (by simp) (by rw[<- hml];simp) (λq hq=>?_) (λb i h=>⟨h,rfl⟩) (λg h=>absurd h (by rw[hml];exact wS _)) (λe sz k cs h=>absurd h (by rw[hml];exact wS _))
   (λg _ _=>rfl) ⟨hsz,zZ _,j.toNat,vals.take (j.toNat*sz),hown',?_,λg _ i hi=>absurd hi (zW _)⟩ (λg hg=>?_) (λq b g i _ _ _ h=>h) (λg i _ _ h=>h) r1.sl.two (zO _) rfl rfl rfl
  ·rcases zU q (m.set p Blk.dead).length with h|h
   ·rw[zK h]
   ·rw[yL (by simp at h ⊢;omega),yL h]
  ·rw[hfl]
   refine⟨by rw[zN,zN,hls.1],λq l u h1 h2=>?_⟩
   rw[yF] at h1 h2
   split at h1
   ·rename_i hq
    rw[if_pos hq] at h2
    exact hls.2 q l u h1 h2
   ·cases h1
  ·have hg':Cz v'=some g:=hg
   have hgp:=hvo g hg'
   have hlo:=r.lo p _ g hm hgp
   refine⟨hlo.1,hlo.2,λq b _ hb hob=>?_,λi hi=>absurd (r.sb p _ g i hm hgp hi) (zW _)⟩
   by_cases hqp:q=p
   ·subst hqp
    have hb':(m.set q Blk.dead)[q]? = some b:=hb
    rw[zI hp] at hb'
    cases hb'
    cases hob
   ·have hb':(m.set p Blk.dead)[q]? = some b:=hb
    rw[zM (λe=>hqp e.symm)] at hb'
    rw[Bw H (H p) hqp] at hob
    exact hqp (r.inj q p b _ g hb' hm hob hgp)
 refine wpList_plain rfl λK hK=>?_
 unfold Oper.wp
 rw[hrun]
 refine hK _ _ (kk _ _ _ _ (r2.put (d:=d) (x:=.s (.one (.ls m.length (xs.take j.toNat).length))) (of_decide_eq_true hd) ?_))
 refine⟨by simp,⟨hone,by rw[Bm];exact(Sy hown').2⟩,λe2 sz2 k2 cs2 hm2=>?_⟩
 have e0:(m.set p Blk.dead++[.arr e sz 0 ((xs.take j.toNat).flatMap f)])[m.length]? = some (.arr e sz 0 ((xs.take j.toNat).flatMap f)):=by rw[<- hml];simp
 rw[e0] at hm2
 cases hm2
 exact⟨by rw[Aq hf];exact zO _,λ_=>(Bm _ _ _).symm⟩
end
open Go.RowKit
theorem Afr {c:Ctx} {st:AS} {a:Act} {w:World} {S:Bz} {H:Nat->Value} (r:Rel c st a w S H) {p i:Nat} {cs:List Lf} {l l':Lf} {m':List Blk} (hm:st.m[p]? = some (.box cs)) (hi:cs[i]? = some l) (hp:Oe st.m l l' m') (hm':m'[p]? = some (.box cs)) :
  ∃ S' H',Rel c ⟨st.t,m'.set p (.box (cs.set i l'))⟩ a w S' H':=by
 obtain⟨S',k,g⟩:=hp.keeps (t:=st.t) r
 have r':=k.rel
 have hpl:p<m'.length:=(zB.1 hm').1
 obtain⟨gg,e,cur,h1,h2,h3⟩:=r.bl p _ hm
 obtain⟨gg',e',cur',h1',h2',h3'⟩:=r'.bl p _ hm'
 have e1:gg=gg':=by rw[h1] at h1';cases h1';rfl
 subst e1
 have e2:cur=cur':=by rw[h2] at h2';cases h2';rfl
 subst e2
 refine⟨S',Mr H p (H p),r'.change (p:=p) (b':=.box (cs.set i l')) (v:=H p) (by simp) (by rw[zI hpl]) (λq hq=>zM (λe=>hq e.symm)) (λb i h=>⟨h,rfl⟩)
  (λg _ _=>rfl) (λe sz k cs _ h=>by cases h) (λg _ _=>rfl) ⟨gg,e',cur,h1',h2',?_⟩
  (λg hg=>⟨(r'.lo p _ g hm' hg).1,(r'.lo p _ g hm' hg).2,λq b hq hb ho=>hq (r'.inj q p b _ g hb hm' ho hg),λj hj=>r'.sb p (.box cs) g j hm' hg hj⟩) (λq b g i _ _ _ h=>h) (λg i _ _ h=>h) r'.sl.two (zO _) rfl rfl rfl⟩
 have hset:Mr H p (H p)=H:=by
  funext q
  by_cases e':q=p
  ·subst e';exact Bm H q _
  ·exact Bw H _ e'
 rw[hset]
 have hmono:∀ l v,Bt w S' m' H l v->Bt w S' (m'.set p (.box (cs.set i l'))) H l v:=λl v =>
  Bt.mono (λb i h=>⟨h,rfl⟩) (by simp) (λ_ _=>rfl) (λq e sz k cs1 _ hmm=>by
   by_cases hq:q=p
   ·subst hq
    rw[zI hpl] at hmm
    cases hmm
   ·rw[zM (λe=>hq e.symm)] at hmm
    exact⟨k,cs1,hmm,rfl⟩)
 refine⟨by rw[yS];exact h3.1,λj x v hx hv=>?_⟩
 by_cases hj:j=i
 ·subst hj
  have hlt:j<cs.length:=(zB.1 hi).1
  rw[zI hlt] at hx
  cases hx
  exact Bt.of_rep (g v (h3.2 j l v hi hv))
 ·rw[zM (λe=>hj e.symm)] at hx
  exact hmono _ _ (h3'.2 j x v hx hv)
section
variable {P:Program} {c:Ctx} {t:Nat->AV} {m:List Blk} {ops:Array Oper} {Q:Exit->AS->Prop}
theorem Uj {x:Code} (p i:Nat) {cs:List Lf} {u y:Lf} {m':List Blk} (hm:m[p]? = some (.box cs)) (hi:cs[i]? = some u) (hp:Oe m u y m') (hm':m'[p]? = some (.box cs)) (k:AWC P c x Q ⟨t,m'.set p (.box (cs.set i y))⟩):AWC P c x Q ⟨t,m⟩ :=
 Ahb _ (λ_ _ _ _ r=>Afr (st:=⟨t,m⟩) r hm hi hp hm') k
end
open Go.RowKit
def Lf.men0 (p:Nat):Lf->Bool
 | .lp q _=>Nat.beq q p
 | .ls q _=>Nat.beq q p
 | .ap q _ _=>Nat.beq q p
 | .mp _ q=>Nat.beq q p
 | _=>false
def Lf.men (p:Nat):Lf->Bool
 | .lp q _=>Nat.beq q p
 | .ls q _=>Nat.beq q p
 | .ap q _ _=>Nat.beq q p
 | .mp _ q=>Nat.beq q p
 | .fn _ la lb=>la.any (Lf.men0 p)||lb.any (Lf.men0 p)
 | _=>false
def Lf.rnq0 (p q:Nat):Lf->Lf
 | .lp r o=>.lp (cond (Nat.beq r q) p r) o
 | .ls r n=>.ls (cond (Nat.beq r q) p r) n
 | .ap r n o=>.ap (cond (Nat.beq r q) p r) n o
 | .mp k r=>.mp k (cond (Nat.beq r q) p r)
 | l=>l
def Lf.rnq (p q:Nat):Lf->Lf
 | .lp r o=>.lp (cond (Nat.beq r q) p r) o
 | .ls r n=>.ls (cond (Nat.beq r q) p r) n
 | .ap r n o=>.ap (cond (Nat.beq r q) p r) n o
 | .mp k r=>.mp k (cond (Nat.beq r q) p r)
 | .fn f la lb=>.fn f (la.map (Lf.rnq0 p q)) (lb.map (Lf.rnq0 p q))
 | l=>l
def SV.men (p:Nat):SV->Bool
 | .one l=>l.men p
 | .agg ls=>ls.any (Lf.men p)
def SV.rnq (p q:Nat):SV->SV
 | .one l=>.one (l.rnq p q)
 | .agg ls=>.agg (ls.map (Lf.rnq p q))
def AV.rnq (p q:Nat):AV->AV
 | .s x=>cond (x.men p) .top (.s (x.rnq p q))
 | .tup xs=>cond (xs.any (SV.men p)) .top (.tup (xs.map (SV.rnq p q)))
 | .top=>.top
def Blk.rnq (p q:Nat):Blk->Blk
 | .box cs=>cond (cs.any (Lf.men p)) .dead (.box (cs.map (Lf.rnq p q)))
 | .arn .. =>.dead
 | b=>b
theorem Aw9 {a b:Nat}:Nat.beq a b=decide (a=b):=by
 by_cases h:a=b
 ·subst h;simp
 ·rw[decide_eq_false h]
  cases hb:Nat.beq a b with
  | false=>rfl
  | true=>exact absurd (xH hb) h
theorem Aij {p q r:Nat}:cond (Nat.beq r q) p r=if r=q then p else r:=by
 rw[Aw9]
 by_cases h:r=q <;> simp [h]
theorem Qv {p q:Nat} {b:Blk} {e sz k:Nat} {cs:List Lf} (h:b.rnq p q=.arr e sz k cs):b=.arr e sz k cs:=by
 cases b with
 | box cs' =>
  have h':(cond (cs'.any (Lf.men p)) .dead (.box (cs'.map (Lf.rnq p q))):Blk)=.arr e sz k cs:=h
  cases hc:cs'.any (Lf.men p) <;> rw[hc] at h' <;> cases h'
 | arr _ _ _ _=>exact h
 | dead=>cases h
 | hole=>cases h
 | obj g mk cs=>cases h
 | tab mk cs=>cases h
 | arn e sz g n cap cs=>cases h
theorem N2 {p q:Nat} {b:Blk} {v:Value} {g:Nat} (h:(b.rnq p q).own v=some g):b.own v=some g/\(b.rnq p q).stab=b.stab:=by
 cases b with
 | box cs' =>
  have h':(cond (cs'.any (Lf.men p)) .dead (.box (cs'.map (Lf.rnq p q))):Blk).own v=some g:=h
  show _/\(cond (cs'.any (Lf.men p)) .dead (.box (cs'.map (Lf.rnq p q))):Blk).stab=_
  cases hc:cs'.any (Lf.men p) <;> rw[hc] at h'
  ·exact⟨h',rfl⟩
  ·cases h'
 | arr _ _ _ _=>exact⟨h,rfl⟩
 | dead=>exact⟨h,rfl⟩
 | hole=>exact⟨h,rfl⟩
 | obj g mk cs=>exact⟨h,rfl⟩
 | tab mk cs=>exact⟨h,rfl⟩
 | arn e sz g n cap cs=>cases h
theorem Asu {c:Ctx} {t:Nat->AV} {m:List Blk} {a:Act} {w:World} {S:Bz} {H:Nat->Value} (r:Rel c ⟨t,m⟩ a w S H) {p q:Nat} {b:Blk} (hp:c.m0.length<=p) (hq:c.m0.length<=q) (hne:p≠q) (hpl:p<m.length) (hb:m[q]? = some b) :
  Rel c ⟨λi=>(t i).rnq p q,((m.map (Blk.rnq p q)).set p (b.rnq p q)).set q .dead⟩ a w S (Mr H p (H q)):=by
 have hql:q<m.length:=(zB.1 hb).1
 generalize hM:((m.map (Blk.rnq p q)).set p (b.rnq p q)).set q .dead=m'
 have hml:m'.length=m.length:=by rw[<- hM];simp
 have hmp:m'[p]? = some (b.rnq p q):=by
  rw[<- hM,zM (λe=>hne e.symm),zI (by simpa using hpl)]
 have hmq:m'[q]? = some .dead:=by rw[<- hM,zI (by simpa using hql)]
 have hmo:∀ i,i≠p->i≠q->m'[i]? = (m[i]?).map (Blk.rnq p q):=λi h1 h2=>by
  rw[<- hM,zM (λe=>h2 e.symm),zM (λe=>h1 e.symm),zQ]
 have hHp:Mr H p (H q) p=H q:=Bm _ _ _
 have hHo:∀ i,i≠p->Mr H p (H q) i=H i:=λi h=>Bw H _ h
 have hfrom:∀ i b',m'[i]? = some b'->i=q/\b'=.dead\/i≠q/\∃ b0,m[if i=p then q else i]? = some b0/\b'=b0.rnq p q/\Mr H p (H q) i=H (if i=p then q else i):=λi b' h=>by
  by_cases h1:i=q
  ·subst h1;rw[hmq] at h;cases h;exact .inl ⟨rfl,rfl⟩
  ·refine .inr ⟨h1,?_⟩
   by_cases h2:i=p
   ·subst h2
    rw[hmp] at h;cases h
    rw[if_pos rfl]
    exact⟨b,hb,rfl,hHp⟩
   ·rw[hmo i h2 h1] at h
    rw[if_neg h2]
    cases hmi:m[i]? with
    | none=>rw[hmi] at h;cases h
    | some b0=>rw[hmi] at h;cases h;exact⟨b0,rfl,rfl,hHo i h2⟩
 have hg0:∀ l v,l.men0 p=false->Df w S m H l v->Df w S m' (Mr H p (H q)) (l.rnq0 p q) v:=by
  intro l v hl h
  cases l with
  | lp r' o =>
   have hrp:r'≠p:=by simpa [Lf.men0,Aw9] using hl
   obtain⟨h1,g,h2,h3⟩:=h
   show Df w S m' _ (.lp (cond (Nat.beq r' q) p r') o) v
   rw[Aij]
   by_cases hrq:r'=q
   ·rw[if_pos hrq];exact⟨by omega,g,by rw[hHp,<- hrq];exact h2,h3⟩
   ·rw[if_neg hrq];exact⟨by omega,g,by rw[hHo _ hrp];exact h2,h3⟩
  | mp k r' =>
   have hrp:r'≠p:=by simpa [Lf.men0,Aw9] using hl
   obtain⟨h1,g,h2,h3⟩:=h
   show Df w S m' _ (.mp k (cond (Nat.beq r' q) p r')) v
   rw[Aij]
   by_cases hrq:r'=q
   ·rw[if_pos hrq];exact⟨by omega,g,by rw[hHp,<- hrq];exact h2,h3⟩
   ·rw[if_neg hrq];exact⟨by omega,g,by rw[hHo _ hrp];exact h2,h3⟩
  | ls r' n =>
   have hrp:r'≠p:=by simpa [Lf.men0,Aw9] using hl
   obtain⟨h1,h2,h3⟩:=h
   show Df w S m' _ (.ls (cond (Nat.beq r' q) p r') n) v
   rw[Aij]
   by_cases hrq:r'=q
   ·subst hrq
    rw[if_pos rfl]
    refine⟨by omega,⟨h2.1,by rw[hHp];exact h2.2⟩,λe sz k cs hm=>?_⟩
    rw[hmp] at hm
    have:=h3 e sz k cs (by rw[hb,Qv (zD hm)])
    rw[hHp];exact this
   ·rw[if_neg hrq]
    refine⟨by omega,⟨h2.1,by rw[hHo _ hrp];exact h2.2⟩,λe sz k cs hm=>?_⟩
    rw[hmo _ hrp hrq] at hm
    rw[hHo _ hrp]
    cases hmi:m[r']? with
    | none=>rw[hmi] at hm;cases hm
    | some b0 =>
     rw[hmi] at hm
     exact h3 e sz k cs (by rw[hmi,Qv (zD hm)])
  | ap r' n o =>
   have hrp:r'≠p:=by simpa [Lf.men0,Aw9] using hl
   obtain⟨h1,h2,h3⟩:=h
   show Df w S m' _ (.ap (cond (Nat.beq r' q) p r') n o) v
   rw[Aij]
   by_cases hrq:r'=q
   ·subst hrq
    rw[if_pos rfl]
    refine⟨by omega,⟨h2.1,by rw[hHp];exact h2.2⟩,λe sz k cs hm=>?_⟩
    rw[hmp] at hm
    have:=h3 e sz k cs (by rw[hb,Qv (zD hm)])
    rw[hHp];exact this
   ·rw[if_neg hrq]
    refine⟨by omega,⟨h2.1,by rw[hHo _ hrp];exact h2.2⟩,λe sz k cs hm=>?_⟩
    rw[hmo _ hrp hrq] at hm
    rw[hHo _ hrp]
    cases hmi:m[r']? with
    | none=>rw[hmi] at hm;cases hm
    | some b0 =>
     rw[hmi] at hm
     exact h3 e sz k cs (by rw[hmi,Qv (zD hm)])
  | i k n=>exact h
  | b x=>exact h
  | s x=>exact h
  | raw v=>exact h
  | sl n cs=>exact h
  | cp cs=>exact h
  | nix=>exact h
  | jk e sz n=>exact h
  | fn f a b=>exact h
 have hgl:∀ (ls:List Lf) (vs:List Value),ls.any (Lf.men0 p)=false->LsR (Df w S m H) ls vs->LsR (Df w S m' (Mr H p (H q))) (ls.map (Lf.rnq0 p q)) vs:=λls vs hl h =>
  ⟨by rw[zY];exact h.1,λj l v h1 h2=>by
   rw[zQ] at h1
   cases hlj:ls[j]? with
   | none=>rw[hlj] at h1;cases h1
   | some l0 =>
    rw[hlj] at h1;cases h1
    refine hg0 l0 v ?_ (h.2 j l0 v hlj h2)
    have:=kM.1 hl l0 (zG hlj)
    simpa using this⟩
 have hg:∀ l v,l.men p=false->Bt w S m H l v->Bt w S m' (Mr H p (H q)) (l.rnq p q) v:=by
  intro l v hl h
  cases l with
  | fn f a b =>
   obtain⟨va,vb,hv,h1,h2⟩:=h
   have hl':a.any (Lf.men0 p)=false/\b.any (Lf.men0 p)=false:=by simpa [Lf.men,Bool.or_eq_false_iff] using hl
   exact⟨va,vb,hv,hgl a _ hl'.1 h1,hgl b _ hl'.2 h2⟩
  | lp r' o=>exact hg0 (.lp r' o) v hl h
  | mp k r'=>exact hg0 (.mp k r') v hl h
  | ls r' n=>exact hg0 (.ls r' n) v hl h
  | ap r' n o=>exact hg0 (.ap r' n o) v hl h
  | i k n=>exact h
  | b x=>exact h
  | s x=>exact h
  | raw v=>exact h
  | sl n cs=>exact h
  | cp cs=>exact h
  | nix=>exact h
  | jk e sz n=>exact h
 have hgL:∀ (ls:List Lf) (vs:List Value),ls.any (Lf.men p)=false->LsR (Bt w S m H) ls vs->LsR (Bt w S m' (Mr H p (H q))) (ls.map (Lf.rnq p q)) vs:=λls vs hl h =>
  ⟨by rw[zY];exact h.1,λj l v h1 h2=>by
   rw[zQ] at h1
   cases hlj:ls[j]? with
   | none=>rw[hlj] at h1;cases h1
   | some l0 =>
    rw[hlj] at h1;cases h1
    refine hg l0 v ?_ (h.2 j l0 v hlj h2)
    have:=kM.1 hl l0 (zG hlj)
    simpa using this⟩
 have hsv:∀ (x:SV) (v:Value),x.men p=false->SVR (Bt w S m H) x v->SVR (Bt w S m' (Mr H p (H q))) (x.rnq p q) v:=by
  intro x v hx h
  cases x with
  | one l=>exact hg l v hx h
  | agg ls =>
   obtain⟨cs,rfl,h1⟩:=h
   exact⟨cs,rfl,hgL ls _ hx h1⟩
 refine⟨r.nt,r.df,λi=>?_,λi b' hb'=>?_,λi b' g hb' ho=>?_,λi i' b1 b2 g h1 h2 o1 o2=>?_,λi b' g j hb' ho hs=>?_,r.sl,r.ex,by show c.m0.length<=m'.length;rw[hml];exact r.kl,λi g hi hh=>?_,λi e sz k cs hi hm=>?_,λi hi hne0=>by rw[hHo i (by omega)];exact r.ku i hi hne0⟩
 ·have h:=r.tm i
  show AVR _ ((t i).rnq p q) _
  generalize a.tmps.getD i undef=v at h
  cases ht:t i with
  | s x =>
   show AVR _ (cond (x.men p) .top (.s (x.rnq p q))) _
   cases hx:x.men p with
   | true=>trivial
   | false=>exact hsv x v hx (by have h':AVR _ (t i) v:=h;rw[ht] at h';exact h')
  | tup xs =>
   show AVR _ (cond (xs.any (SV.men p)) .top (.tup (xs.map (SV.rnq p q)))) _
   cases hx:xs.any (SV.men p) with
   | true=>trivial
   | false =>
    have h':AVR (Bt w S m H) (t i) v:=h
    rw[ht] at h'
    obtain⟨vs,rfl,h1,h2⟩:=h'
    refine⟨vs,rfl,by rw[zY];exact h1,λj x u hj hu=>?_⟩
    rw[zQ] at hj
    cases hlj:xs[j]? with
    | none=>rw[hlj] at hj;cases hj
    | some x0 =>
     rw[hlj] at hj;cases hj
     refine hsv x0 u ?_ (h2 j x0 u hlj hu)
     have:=kM.1 hx x0 (zG hlj)
     simpa using this
  | top=>trivial
 ·rcases hfrom i b' hb' with⟨_,rfl⟩|⟨_,b0,h1,rfl,h2⟩
  ·trivial
  ·have hr:=r.bl _ _ h1
   rw[h2]
   cases b0 with
   | dead=>trivial
   | hole=>exact hr
   | obj g mk cs=>exact hr
   | tab mk cs=>exact hr
   | arn e sz g n cap cs=>trivial
   | box cs =>
    show Aj9 0 w S m' _ (cond (cs.any (Lf.men p)) .dead (.box (cs.map (Lf.rnq p q)))) _
    cases hx:cs.any (Lf.men p) with
    | true=>trivial
    | false =>
     obtain⟨g,e,cur,h3,h4,h5⟩:=hr
     exact⟨g,e,cur,h3,h4,hgL cs _ hx h5⟩
   | arr e sz k cs =>
    obtain⟨h0,hk1,n,vals,h3,h4,h5⟩:=hr
    exact⟨h0,hk1,n,vals,h3,h4,h5⟩
 ·rcases hfrom i b' hb' with⟨_,rfl⟩|⟨_,b0,h1,rfl,h2⟩
  ·cases ho
  ·rw[h2] at ho
   exact r.lo _ b0 g h1 (N2 ho).1
 ·rcases hfrom i b1 h1 with⟨_,rfl⟩|⟨n1,b0,h3,rfl,h4⟩
  ·cases o1
  rcases hfrom i' b2 h2 with⟨_,rfl⟩|⟨n2,b0',h5,rfl,h6⟩
  ·cases o2
  rw[h4] at o1
  rw[h6] at o2
  have:=r.inj _ _ b0 b0' g h3 h5 (N2 o1).1 (N2 o2).1
  by_cases e1:i=p <;> by_cases e2:i'=p
  ·rw[e1,e2]
  ·rw[if_pos e1,if_neg e2] at this;exact absurd this.symm n2
  ·rw[if_neg e1,if_pos e2] at this;exact absurd this n1
  ·rw[if_neg e1,if_neg e2] at this;exact this
 ·rcases hfrom i b' hb' with⟨_,rfl⟩|⟨_,b0,h1,rfl,h2⟩
  ·cases ho
  ·rw[h2] at ho
   rw[(N2 ho).2]
   exact r.sb _ b0 g j h1 (N2 ho).1 hs
 ·rw[hHo i (by omega)]
  exact r.kh i g hi hh
 ·have hm':m'[i]? = some (.arr e sz k cs):=hm
  rw[hmo i (by omega) (by omega)] at hm'
  rw[hHo i (by omega)]
  cases hmi:m[i]? with
  | none=>rw[hmi] at hm';cases hm'
  | some b0 =>
   rw[hmi] at hm'
   exact r.kr i e sz k cs hi (by show m[i]? = _;rw[hmi,Qv (zD hm')])
theorem Aqn {c:Ctx} {t:Nat->AV} {m:List Blk} {a:Act} {w:World} {S:Bz} {H:Nat->Value} (r:Rel c ⟨t,m⟩ a w S H):Rel c ⟨t,m++[.hole]⟩ a w S (Mr H m.length undef):=by
 refine r.change (p:=m.length) (b':=.hole) (v:=undef) (by simp) (by simp) (λq hq=>?_) (λb i h=>⟨h,rfl⟩) (λg h=>absurd h (wS _)) (λe sz k cs h=>absurd h (wS _))
  (λg _ _=>rfl) rfl (λg hg=>by cases hg) (λq b g i _ _ _ h=>h) (λg i _ _ h=>h) r.sl.two (zO _) rfl rfl rfl (λ_ h=>absurd h (wS _))
 rcases zU q m.length with h|h
 ·rw[zK h]
 ·rw[yL (by simp;omega),yL h]
theorem Rel.fillBox {c:Ctx} {t:Nat->AV} {m:List Blk} {a:Act} {w:World} {S:Bz} {H:Nat->Value} (r:Rel c ⟨t,m⟩ a w S H) {p:Nat} (hm:m[p]? = some .hole) {e:TypeId} {cells:Array Value} {ls:List Lf} (hls:LsR (Bt w S m H) ls cells.toList) :
  Rel c ⟨t,m.set p (.box ls)⟩ a (w.alloc (.cells cells e)) S (Mr H p (.pointer (some ⟨w.heap.size,0,none⟩))):=by
 have hx:Ext w S (w.alloc (.cells cells e)) S:=Ext.alloc w S _
 have hp:p<m.length:=(zB.1 hm).1
 have hH:H p=undef:=r.bl p _ hm
 have hf:=r.fresh (zO w.heap.size)
 have hkeep:∀ b i,S b i->S b i/\(w.alloc (.cells cells e)).cell? ⟨b,i,none⟩=w.cell? ⟨b,i,none⟩:=λb i h=>hx.keeps r.sl b i h
 have hoth:∀ q,q≠p->(m.set p (.box ls))[q]? = m[q]? := λq hq=>zM (λe=>hq e.symm)
 have hgr:∀ l v,Bt w S m H l v->Bt (w.alloc (.cells cells e)) S (m.set p (.box ls)) (Mr H p (.pointer (some ⟨w.heap.size,0,none⟩))) l v:=λl v =>
  Bt.mono2 hkeep (by simp) (λq g hq hh=>by
   by_cases e1:q=p
   ·subst e1;exact(Zh (hH.symm.trans hh)).elim
   ·exact Bw H _ e1) (λq _ hne=>by
   by_cases e1:q=p
   ·subst e1;exact absurd hH hne
   ·rw[Bw H _ e1];exact hne) (λq e1 sz k cs hq hm1=>by
   by_cases e2:q=p
   ·subst e2;rw[zI hp] at hm1;cases hm1
   ·rw[hoth q e2] at hm1
    exact⟨k,cs,hm1,.inl ⟨rfl,Bw H _ e2⟩⟩)
 refine r.change (p:=p) (b':=.box ls) (by simp) (zI hp) hoth hkeep (λg _ h=>(Zh (hH.symm.trans h)).elim) (λe sz k cs _ h=>by cases h)
  (λg hg _=>hx.blk g hg) ⟨w.heap.size,e,cells,rfl,heap_alloc_new w _,hls.mono hgr⟩ (λg hg=>?_) (λq b g i _ _ _ h=>h) (λg i _ _ h=>h) (r.sl.ext hx).two hx.size rfl rfl rfl
 have hg':w.heap.size=g:=by simpa [Blk.own,Cz] using hg
 subst hg'
 exact⟨.inl r.ex.size,by simp,λq b _ hb=>hf.1 q b hb,λi hi=>absurd hi (hf.2 i)⟩
section
variable {P:Program} {c:Ctx} {t:Nat->AV} {m:List Blk} {ops:Array Oper} {Q:Exit->AS->Prop} {rest:List Oper} {ty:TypeId} {pos:String} {af:Array Edge} {d:Tmp}
theorem Aa2 {x:Code} (k:AWC P c x Q ⟨t,m++[.hole]⟩):AWC P c x Q ⟨t,m⟩:=Ahb _ (λ_ _ S _ r=>⟨S,_,Aqn r⟩) k
theorem Lz {tt:TypeId} {zl:List Lf} (p:Nat) (hd:decide (d<c.nt)=true) (zi:ZI P tt zl) (hm:m[p]? = some .hole)
  (k:AWL P c ops Q rest ⟨upd t d (.s (.one (.lp p 0))),m.set p (.box zl)⟩):AWL P c ops Q (⟨some d,.alloc tt,ty,pos,af,none⟩::rest) ⟨t,m⟩:=by
 obtain⟨i,z,hi,hz,hl,ho⟩:=zi.h
 subst hl
 intro a w S H r
 refine wpList_plain rfl λK hK=>?_
 unfold Oper.wp
 have hrun:(execOp a.eval ⟨some d,.alloc tt,ty,pos,af,none⟩).run P w=.ok (.value (.pointer (some ⟨w.heap.size,0,none⟩))) (w.alloc (.cells z.cells tt)):=by simp [execOp,Instr.alloc,zeroValue,typeInfo,hi,hz,newVar,newRow]
 rw[hrun]
 have r':=r.fillBox (e:=tt) (cells:=z.cells) hm (Acv ho)
 have hp:p<m.length:=(zB.1 hm).1
 exact hK _ _ (k _ _ _ _ (r'.put (d:=d) (x:=.s (.one (.lp p 0))) (of_decide_eq_true hd) ⟨by simpa using hp,w.heap.size,Bm _ _ _,rfl⟩))
end
open Go.RowKit
def Axq:Lf->Lf->Option Bool
 | .i k n,.i k' m=>if k=k' then some (decide (n=m)) else none
 | .b x,.b y=>some (x==y)
 | .s x,.s y=>some (x.toList==y.toList)
 | _,_=>none
def Auv:List Lf->List Lf->Option Bool
 | [],[]=>some true
 | a::l,b::r=>match Axq a b,Auv l r with
  | some x,some y=>some (x&&y)
  | _,_=>none
 | _,_=>none
def Lf.tag:Lf->Nat
 | .i _ _=>0
 | .b _=>1
 | .s _=>2
 | _=>3
def Yp:Option TypeDesc->Nat
 | some (.int _)=>0
 | some .bool=>1
 | some .string=>2
 | _=>4
def Ajq (P:Program):Nat->List Field->List Nat->Bool
 | _,[],[]=>true
 | i, f :: r, k :: ks => f.name != "_" && f.offset == i && Yp (P.underlying f.type) == k && Ajq P (i + 1) r ks
 | _,_,_=>false
theorem Aad {P:Program} {w:World} {t:TypeId} {xs:Array Value} {i:Nat} {v:Value} (h:Yp (P.underlying t)<4) (hv:xs[i]? = some v):(part t xs i).run P w=.ok v w:=by
 cases hu:P.underlying t with
 | none=>rw[hu] at h;simp [Yp] at h
 | some d=>rw[hu] at h;cases d <;> simp [Yp] at h <;> simp [part,isAgg,run_underlying hu,hv]
theorem Wm {P:Program} {S:Bz} {m:List Blk} {H:Nat->Value} {w:World} {d:Nat} {xs ys:Array Value}:∀ (fs:List Field) (i:Nat) (ls ls':List Lf) (b:Bool),Ajq P i fs (ls.map Lf.tag)=true->ls.map Lf.tag=ls'.map Lf.tag->Auv ls ls'=some b ->
  (∀ j l,ls[j]? = some l->∃ v,xs[i+j]? = some v/\Bt w S m H l v)->(∀ j l,ls'[j]? = some l->∃ v,ys[i+j]? = some v/\Bt w S m H l v) ->
  (Op.eqFields (d+1) xs ys fs).run P w=.ok b w
 | [],i,ls,ls',b,hf,_,he,_,_=>by
  cases ls with
  | cons _ _=>cases hf
  | nil =>
   cases ls' with
   | nil=>cases he;rfl
   | cons _ _=>cases he
 | f::fs,i,[],ls',b,hf,_,_,_,_=>by cases hf
 | f::fs,i,l::ls,[],b,_,_,he,_,_=>by cases he
 | f::fs,i,l::ls,l'::ls',b,hf,hl,he,hx,hy=>by
  simp only[xO,Ajq,zS,bne_iff_ne,ne_eq,beq_iff_eq] at hf
  obtain⟨⟨⟨h1,h2⟩,h3⟩,h4⟩:=hf
  simp only[xO,List.cons.injEq] at hl
  obtain⟨hl1,hl2⟩:=hl
  obtain⟨v,hv,hr⟩:=hx 0 l rfl
  obtain⟨v',hv',hr'⟩:=hy 0 l' rfl
  unfold Auv at he
  cases e1:Axq l l' with
  | none=>rw[e1] at he;cases he
  | some x =>
  cases e2:Auv ls ls' with
  | none=>rw[e1,e2] at he;cases he
  | some y =>
  rw[e1,e2] at he
  obtain rfl:(x&&y)=b:=zD he
  have ht4:Yp (P.underlying f.type)<4:=by
   rw[h3];cases l <;> simp [Lf.tag]
  have heq:(Op.equalIn (d+1) f.type v v').run P w=.ok x w:=by
   cases hu:P.underlying f.type with
   | none=>rw[hu] at ht4;simp [Yp] at ht4
   | some dd =>
    rw[hu] at h3
    cases l <;> cases l' <;> simp only[Axq,reduceCtorEq,zJ] at e1
    ·rename_i k n k' m'
     by_cases hk:k=k'
     ·subst hk
      rw[if_pos rfl] at e1
      obtain rfl:=zD e1
      have q1:v=_:=Sk hr
      have q2:v'=_:=Sk hr'
      subst q1 q2
      cases dd <;> simp [Yp,Lf.tag] at h3
      exact(run_equalIn_int w d f.type _ _ _ _ hu).trans (by rw[An3])
     ·rw[if_neg hk] at e1;cases e1
    ·subst e1
     have q1:v=_:=Tn hr
     have q2:v'=_:=Tn hr'
     subst q1 q2
     cases dd <;> simp [Yp,Lf.tag] at h3
     simp [Op.equalIn,run_underlying hu]
    ·subst e1
     have q1:v=_:=Ajx hr
     have q2:v'=_:=Ajx hr'
     subst q1 q2
     cases dd <;> simp [Yp,Lf.tag] at h3
     simp [Op.equalIn,run_underlying hu,beq_toListBytes]
  have ih:=Wm (d:=d) fs (i+1) ls ls' y h4 hl2 e2 (λj l h=>by have:=hx (j+1) l (by simpa using h);rwa [show i+(j+1)=i+1+j by omega] at this) (λj l h=>by have:=hy (j+1) l (by simpa using h);rwa [show i+(j+1)=i+1+j by omega] at this)
  unfold Op.eqFields
  rw[kF] at hv hv'
  rw[if_pos h1,h2]
  simp only[Sem.run_bind,Aad ht4 hv,Aad ht4 hv',Result.andThen_ok,heq]
  cases x
  ·simp
  ·simp [ih]
section
variable {P:Program} {c:Ctx} {st:AS} {ty:TypeId} {xt yt:TypeId} {x y:Operand}
structure EqT (P:Program) (t:TypeId) (n:List Nat):Prop where
 u:P.underlying t=some (.struct (P.fieldsOf t))
 h:P.stoodInHeld t=false
 g:P.eqGuardType P.depth t=false
 f:Ajq P 0 (P.fieldsOf t).toList n=true
end
open Go.RowKit
theorem Ang {w:World} {S:Bz} {l:Lf} {v:Value} (h:Rep w S l v):Rep w S l.canon v:=by
 unfold Lf.canon
 split
 ·obtain rfl:=Eu h
  exact .sl0 _ _
 ·exact h
def Agy (ops:Array Oper):Bool :=
 ((List.range ops.size).all λi=>match ops[i]? with
  | none=>false
  | some o=>o.dst.isSome&&o.after.all (λe=>decide (e.on<i))&&(List.range ops.size).all (λj=>match ops[j]? with
    | none=>false
    | some p=>(decide (i=j) || !(o.dst==p.dst))&&(match p.dst with
      | none=>false
      | some d=>!(o.looksAt ops).contains d||decide (j+1=ops.size)||o.after.any (λe=>e.on==j&&Region.binds .any e)))) &&
 (decide (0<ops.size)&&(match ops[ops.size-1]? with
  | none=>false
  | some o=>(List.range (ops.size-1)).all λj=>o.after.any (λe=>e.on==j&&Region.binds .any e)))
structure Alt (ops:Array Oper) (n:Nat):Prop where
 sz:ops.size=n+1
 dst:∀ (i:Nat) (o:Oper),ops[i]? = some o->∃ d,o.dst=some d
 lt:∀ (i:Nat) (o:Oper),ops[i]? = some o->∀ e∈o.after,e.on<i
 ne:∀ (i:Nat) (o:Oper) (j:Nat) (p:Oper),ops[i]? = some o->ops[j]? = some p->i≠j->o.dst≠p.dst
 ed:∀ (i:Nat) (o:Oper) (j:Nat) (p:Oper) (d:Tmp),ops[i]? = some o->ops[j]? = some p->p.dst=some d->j<n->d∈o.looksAt ops->∃ e∈o.after,e.on=j/\Region.binds .any e=true
 all:∀ (o:Oper) (j:Nat),ops[n]? = some o->j<n->∃ e∈o.after,e.on=j/\Region.binds .any e=true
theorem Aj0 {ops:Array Oper} (h:Agy ops=true):Alt ops (ops.size-1):=by
 unfold Agy at h
 simp only[zS] at h
 obtain⟨h0,hpos,hlast⟩:=h
 have hpos:=of_decide_eq_true hpos
 have key:∀ (i:Nat) (o:Oper),ops[i]? = some o->o.dst.isSome=true/\o.after.all (λe=>decide (e.on<i))=true/\∀ (j:Nat) (p:Oper),ops[j]? = some p->(decide (i=j) || !(o.dst==p.dst))=true/\(match p.dst with
      | none=>false
      | some d=>!(o.looksAt ops).contains d||decide (j+1=ops.size)||o.after.any (λe=>e.on==j&&Region.binds .any e))=true:=by
  intro i o hi
  have hil:i<ops.size:=(yA.1 hi).1
  have h1:=zL.1 h0 i (wL.2 hil)
  rw[hi] at h1
  simp only[zS] at h1
  refine⟨h1.1.1,h1.1.2,λj p hj=>?_⟩
  have hjl:j<ops.size:=(yA.1 hj).1
  have h2:=zL.1 h1.2 j (wL.2 hjl)
  rw[hj] at h2
  simp only[zS] at h2
  exact h2
 have hany:∀ {o:Oper} {j:Nat},o.after.any (λe=>e.on==j&&Region.binds .any e)=true->∃ e∈o.after,e.on=j/\Region.binds .any e=true:=by
  intro o j h
  rw[Array.any_eq_true] at h
  obtain⟨i',hi',h⟩:=h
  simp only[zS,beq_iff_eq] at h
  exact⟨_,j9 hi',h.1,h.2⟩
 refine⟨by omega,λi o hi=>j2.1 (key i o hi).1,λi o hi e he=>?_,λi o j p hi hj hne he=>?_,λi o j p d hi hj hd hjn hm=>?_,λo j ho hj=>?_⟩
 ·have:=(key i o hi).2.1
  rw[wO] at this
  exact of_decide_eq_true (this e he)
 ·have:=((key i o hi).2.2 j p hj).1
  simp only[wQ,decide_eq_true_eq,xS,beq_eq_false_iff_ne] at this
  rcases this with h|h
  ·exact hne h
  ·exact h he
 ·have:=((key i o hi).2.2 j p hj).2
  rw[hd] at this
  simp only[wQ,xS] at this
  rcases this with(h|h)|h
  ·rw[List.contains_eq_mem] at h
   simp [hm] at h
  ·have:=of_decide_eq_true h
   omega
  ·exact hany h
 ·rw[ho] at hlast
  exact hany (zL.1 hlast j (wL.2 hj))
section
variable {P:Program} {c:Ctx} {t:Nat->AV} {m:List Blk} {Q:Exit->AS->Prop}
open Classical in
noncomputable def TM (ops:Array Oper) (n:Nat) (T T':Nat->AV) (listed:Array Bool):Nat->AV :=
 if listed.getD n true=true then T' else λx=>if ∃ (i:Nat) (o:Oper),i<n/\ops[i]? = some o/\o.dst=some x/\listed.getD i true=false then .top else T x
open Classical in
theorem Aku {ops:Array Oper} {n:Nat} (hok:Alt ops n) {T:Nat->AV} (hT:∀ (i:Nat) (o:Oper),i<n->ops[i]? = some o->∃ d,o.dst=some d/\d<c.nt/\T6 P c m ops T o (T d))
  {dl:Tmp} {xl:AV} {ol:Oper} (hol:ops[n]? = some ol) (hdl:ol.dst=some dl) (hln:dl<c.nt) (hgl:T6 P c m ops T ol xl) (hQ:Q .normal ⟨upd T dl xl,m⟩) :
  ∀ (fuel:Nat) (listed:Array Bool) (a:Act) (w:World) (S:Bz) (H:Nat->Value),listed.size=ops.size->(List.range ops.size).countP (λi=>!listed.getD i true)<=fuel ->
   (listed.getD n true=true->∀ j,j<n->listed.getD j true=true) ->
   Rel c ⟨TM ops n T (upd T dl xl) listed,m⟩ a w S H->wpAny P .any ops (QR c Q) fuel listed a w:=by
 have hsz1:=hok.sz
 have done:∀ (listed:Array Bool) (a:Act) (w:World) (S:Bz) (H:Nat->Value),listed.size=ops.size->Region.ready .any ops listed=[]->Rel c ⟨TM ops n T (upd T dl xl) listed,m⟩ a w S H->QR c Q .normal a w:=by
  intro listed a w S H hsz hr r
  have hall:∀ n i,i<n->i<ops.size->listed.getD i true=true:=by
   intro n
   induction n with
   | zero=>intro i h;omega
   | succ n ih =>
    intro i hi hio
    by_cases hb:listed.getD i true=true
    ·exact hb
    ·exfalso
     have hmem:i∈Region.ready .any ops listed:=by
      unfold Region.ready
      refine yG.2 ⟨wL.2 hio,?_⟩
      have hlt:=hok.lt i ops[i] (zR hio)
      have hb':listed.getD i true=false:=by simpa using hb
      simp only[hb',Bool.not_false,wY,zR hio,xE,yI]
      rw[wO]
      intro e he
      have hel:=hlt e he
      have h1:=ih e.on (by omega) (by omega)
      have h2:listed.getD e.on false=true:=by
       simp only[zF] at h1 ⊢
       rw[zR (by omega)] at h1 ⊢
       exact h1
      simp [h2]
     rw[hr] at hmem
     cases hmem
  have hTM:TM ops n T (upd T dl xl) listed=upd T dl xl:=by
   unfold TM
   rw[if_pos (hall (n+1) n (by omega) (by omega))]
  rw[hTM] at r
  exact⟨_,S,H,r,hQ⟩
 intro fuel
 induction fuel with
 | zero =>
  intro listed a w S H hsz hc _ r
  have hr:Region.ready .any ops listed=[]:=by
   unfold Region.ready
   rw[jP]
   intro i hi hb
   simp only[zS] at hb
   have:0<(List.range ops.size).countP (λi=>!listed.getD i true):=zAk.2 ⟨i,hi,hb.1⟩
   omega
  exact⟨hr,done listed a w S H hsz hr r⟩
 | succ fuel ih =>
  intro listed a w S H hsz hc hinv r
  refine⟨λhr=>done listed a w S H hsz hr r,λi hi=>?_⟩
  unfold Region.ready at hi
  rw[yG] at hi
  obtain⟨hi1,hi2⟩:=hi
  have hio:i<ops.size:=wL.1 hi1
  have hget:ops[i]? = some ops[i]:=zR hio
  simp only[zS,hget,xE,yI] at hi2
  obtain⟨hun,haf⟩:=hi2
  have hun':listed.getD i true=false:=by simpa using hun
  have hnl:listed.getD n true=false:=by
   cases hb:listed.getD n true with
   | false=>rfl
   | true =>
    by_cases hin:i=n
    ·subst hin;rw[hun'] at hb;cases hb
    ·rw[hinv hb i (by omega)] at hun';cases hun'
  have hedge:∀ (j:Nat) (e:Edge),e∈ops[i].after->e.on=j->Region.binds .any e=true->j<ops.size->listed.getD j true=true:=by
   intro j e he heo hbind hjl
   rw[wO] at haf
   have h1:=haf e he
   rw[hbind,heo] at h1
   simp only[zAb,Bool.false_or] at h1
   simp only[zF] at h1 ⊢
   rw[zR (by omega)] at h1 ⊢
   simpa using h1
  have hTMl:TM ops n T (upd T dl xl) listed=λx=>if ∃ (i:Nat) (o:Oper),i<n/\ops[i]? = some o/\o.dst=some x/\listed.getD i true=false then .top else T x:=by
   unfold TM
   rw[if_neg (by rw[hnl];simp)]
  have hlook:∀ y∈(ops[i]).looksAt ops,TM ops n T (upd T dl xl) listed y=T y:=by
   intro y hy
   rw[hTMl]
   simp only
   rw[if_neg]
   rintro⟨j,p,hjn,hj,hpd,hl⟩
   obtain⟨e,he,heo,hbind⟩:=hok.ed i _ j p y hget hj hpd hjn hy
   have:=hedge j e he heo hbind (by omega)
   rw[this] at hl
   cases hl
  have hsame:∀ j,i≠j->(listed.setIfInBounds i true).getD j true=listed.getD j true:=λj hij=>by
   simp only[zF,yV hij]
  have hself:(listed.setIfInBounds i true).getD i true=true:=by
   simp only[zF,xF (by omega:i<listed.size),yI]
  obtain⟨d,x,hd,hdn,hgood,hTM',hinv'⟩:∃ d x,(ops[i]).dst=some d/\d<c.nt/\T6 P c m ops T ops[i] x/\upd (TM ops n T (upd T dl xl) listed) d x=TM ops n T (upd T dl xl) (listed.setIfInBounds i true) /\
    ((listed.setIfInBounds i true).getD n true=true->∀ j,j<n->(listed.setIfInBounds i true).getD j true=true):=by
   by_cases hin:i=n
   ·subst hin
    rw[hget] at hol
    cases hol
    have hallj:∀ j,j<i->listed.getD j true=true:=λj hj=>by
     obtain⟨e,he,heo,hb⟩:=hok.all _ j hget hj
     exact hedge j e he heo hb (by omega)
    refine⟨dl,xl,hdl,hln,hgl,?_,λ_ j hj=>by rw[hsame j (by omega)];exact hallj j hj⟩
    have e1:TM ops i T (upd T dl xl) listed=T:=by
     rw[hTMl]
     funext y
     rw[if_neg]
     rintro⟨j,p,hjn,_,_,hl⟩
     rw[hallj j hjn] at hl
     cases hl
    rw[e1]
    unfold TM
    rw[if_pos hself]
   ·obtain⟨d,hd,hdn,hgood⟩:=hT i _ (by omega) hget
    refine⟨d,T d,hd,hdn,hgood,?_,λhb=>?_⟩
    ·rw[hTMl]
     unfold TM
     rw[if_neg (by rw[hsame n hin,hnl];simp)]
     funext x
     rw[Ej]
     by_cases hx:x=d
     ·subst hx
      rw[if_pos rfl,if_neg]
      rintro⟨j,p,hjn,hj,hpd,hl⟩
      by_cases hij:i=j
      ·subst hij
       rw[hself] at hl
       cases hl
      ·exact hok.ne i _ j p hget hj hij (by rw[hd,hpd])
     ·rw[if_neg hx]
      by_cases hex:∃ (j:Nat) (p:Oper),j<n/\ops[j]? = some p/\p.dst=some x/\listed.getD j true=false
      ·rw[if_pos hex]
       obtain⟨j,p,hjn,hj,hpd,hl⟩:=hex
       rw[if_pos]
       have hij:i≠j:=by
        intro e;subst e
        rw[hget] at hj
        cases hj
        rw[hd] at hpd
        cases hpd
        exact hx rfl
       exact⟨j,p,hjn,hj,hpd,by rw[hsame j hij];exact hl⟩
      ·rw[if_neg hex,if_neg]
       rintro⟨j,p,hjn,hj,hpd,hl⟩
       refine hex ⟨j,p,hjn,hj,hpd,?_⟩
       by_cases hij:i=j
       ·subst hij;exact hun'
       ·rw[hsame j hij] at hl;exact hl
    ·rw[hsame n hin,hnl] at hb
     cases hb
  have hcnt:(List.range ops.size).countP (λj=>!(listed.setIfInBounds i true).getD j true)<=fuel:=by
   have:=Ab5 (λj=>!listed.getD j true) (λj=>!(listed.setIfInBounds i true).getD j true) (List.range ops.size) (λj _ hj=>by
    by_cases hij:i=j
    ·subst hij
     rw[hself] at hj
     cases hj
    ·rw[hsame j hij] at hj
     exact hj) hi1 hun (by rw[hself];rfl)
   omega
  generalize ho:ops[i]=o at *
  have next:∀ v w' S',Ext w S w' S'->InH w' S'->AVR (Bt w' S' m H) x v->wpAny P .any ops (QR c Q) fuel (listed.setIfInBounds i true) (a.put o.dst v) w':=by
   intro v w' S' hext hin hv
   rw[hd]
   refine ih _ _ w' S' H (by simpa using hsz) hcnt hinv' ?_
   rw[<- hTM']
   exact(r.ext hext hin).put hdn hv
  have hw:wpOp P ops (QR c Q) i (wpAny P .any ops (QR c Q) fuel (listed.setIfInBounds i true)) a w:=by
   unfold wpOp
   rw[hget]
   simp only
   have hrr:Rel c ⟨Q5 T (o.looksAt ops),m⟩ a w S H:=by
    refine r.weak (λy=>?_)
    unfold Q5
    cases hc':(o.looksAt ops).contains y with
    | false=>exact .inr rfl
    | true=>exact .inl (hlook y (by simpa using hc')).symm
   rcases hgood with⟨hg,hop⟩|⟨hg,hx⟩
   ·have hwant:Region.wanted o (yielded ops a.tmps)=true:=by
     rcases hg with hg|⟨j,want,dj,h1,h2,h3⟩
     ·simp [Region.wanted,hg]
     ·have h4:=r.tm dj
      have h5:TM ops n T (upd T dl xl) listed dj=.s (.one (.b want)):=by rw[hlook dj (Da h1 h2)];exact h3
      rw[show(⟨TM ops n T (upd T dl xl) listed,m⟩:AS).t dj=.s (.one (.b want)) from h5] at h4
      have hv:a.tmps.getD dj undef=.bool want:=Tn (h4:Rep w S (.b want) (a.tmps.getD dj undef))
      have hs:a.tmps[dj]? = some (.bool want):=by
       simp only[zF] at hv
       cases hq:a.tmps[dj]? with
       | none=>rw[hq] at hv;cases hv
       | some u=>rw[hq] at hv;simp only[yI] at hv;rw[hv]
      simp only[Region.wanted,h1,yielded,h2,zA,hs,beq_self_eq_true]
    rw[if_pos hwant]
    obtain⟨odst,oop,oty,opos,oaf,og⟩:=o
    exact .inl (hop a w S H hrr odst opos oaf og _ _ (λv w' S' h1 h2 h3=>next v w' S' h1 h2 h3))
   ·have hwant:Region.wanted o (yielded ops a.tmps)=false:=by
     obtain⟨j,want,dj,h1,h2,h3⟩:=hg
     have h4:=r.tm dj
     rw[show(⟨TM ops n T (upd T dl xl) listed,m⟩:AS).t dj=T dj from hlook dj (Da h1 h2)] at h4
     simp only[Region.wanted,h1,yielded,h2,zA]
     rcases h3 with h3|⟨b,h3,hb⟩
     ·rw[h3] at h4
      obtain⟨vs,hv,_⟩:=h4
      simp only[zF] at hv
      cases hq:a.tmps[dj]? with
      | none=>rfl
      | some u=>rw[hq] at hv;simp only[yI] at hv;subst hv;rfl
     ·rw[h3] at h4
      have hv:a.tmps.getD dj undef=.bool b:=Tn (h4:Rep w S (.b b) (a.tmps.getD dj undef))
      simp only[zF] at hv
      cases hq:a.tmps[dj]? with
      | none=>rfl
      | some u =>
       rw[hq] at hv;simp only[yI] at hv;subst hv
       cases b <;> cases want <;> first|rfl|cases hb
    rw[if_neg (by rw[hwant];simp)]
    have:=next undef w S (Ext.refl w S) r.sl (by rw[hx];exact H8)
    exact this
  exact hw
theorem DR.split {ops:Array Oper} {k:(Nat->AV)->Prop}:∀ {l:List Oper} {o:Oper} {t:Nat->AV},DR P c m ops k (l++[o]) t->DR P c m ops (λT=>∃ x d,o.dst=some d/\d<c.nt/\T6 P c m ops T o x/\k (upd T d x)) l t
 | [],o,t,h=>by
  obtain⟨x,d,h1,h2,h3,h4⟩:=h
  exact⟨x,d,h1,h2,h3,h4⟩
 | o'::l,o,t,h=>by
  obtain⟨x,d,h1,h2,h3,h4⟩:=h
  exact⟨x,d,h1,h2,h3,DR.split h4⟩
theorem Awh {id:Nat} {l:List Oper} (hm:P.follows .mixedOrders=true) (hok:Agy l.toArray=true) (h:DR P c m l.toArray (λT=>Q .normal ⟨T,m⟩) l t):AWC P c (.region id l.toArray true) Q ⟨t,m⟩:=by
 have ok:=Aj0 hok
 have hne:l≠[]:=by
  intro e;subst e
  have:=ok.sz
  simp at this
 obtain⟨l0,ol,rfl⟩:∃ l0 ol,l=l0++[ol]:=⟨l.dropLast,l.getLast hne,(List.dropLast_concat_getLast hne).symm⟩
 have hn:(l0++[ol]).toArray.size-1=l0.length:=by simp
 rw[hn] at ok
 have h':=DR.split h
 have hgl:∀ {i:Nat} {o:Oper},l0[i]? = some o->(l0++[ol])[i]? = some o:=λ{i o} hi=>by
  rw[zK (zB.1 hi).1];exact hi
 have hnd:(Ir l0).Nodup:=by
  have aux:∀ (l:List Oper),(∀ (i:Nat) (o:Oper) (j:Nat) (p:Oper),l[i]? = some o->l[j]? = some p->i≠j->o.dst≠p.dst)->(Ir l).Nodup:=by
   intro l
   induction l with
   | nil=>intro _;exact kJ
   | cons o l ih =>
    intro hne
    have ih':=ih (λi o' j p hi hj hij=>hne (i+1) o' (j+1) p (by simpa using hi) (by simpa using hj) (by omega))
    cases hd:o.dst with
    | none=>simpa [Ir,hd] using ih'
    | some d =>
     have:Ir (o::l)=d::Ir l:=by simp [Ir,hd]
     rw[this]
     refine xU.2 ⟨λhm=>?_,ih'⟩
     unfold Ir at hm
     rw[wG] at hm
     obtain⟨p,hp,hpd⟩:=hm
     obtain⟨j,hj,hjp⟩:=yU hp
     exact hne 0 o (j+1) p rfl (by simp [zC hj,hjp]) (by omega) (by rw[hd,hpd])
  exact aux l0 (λi o j p hi hj=>ok.ne i o j p (by simpa using hgl hi) (by simpa using hgl hj))
 obtain⟨T,⟨x,d,hod,hdn,hgood,hQ⟩,hTt,hG⟩:=DR.get h' hnd (λi o hi y hy hm'=>by
  unfold Ir at hm'
  rw[wG] at hm'
  obtain⟨p,hp,hpd⟩:=hm'
  obtain⟨j,hj,hjp⟩:=yU hp
  have hjb:i+j<l0.length:=by simp at hj;omega
  have hjl:l0[i+j]? = some p:=by
   rw[zAa] at hjp
   rw[zC hjb,hjp]
  obtain⟨e,he,heo,_⟩:=ok.ed i o (i+j) p y (by simpa using hgl hi) (by simpa using hgl hjl) hpd hjb hy
  have:=ok.lt i o (by simpa using hgl hi) e he
  omega)
 intro a w S H r
 refine wp_region_any hm ?_
 have hG':∀ (i:Nat) (o:Oper),i<l0.length->((l0++[ol]).toArray)[i]? = some o->∃ d,o.dst=some d/\d<c.nt/\T6 P c m (l0++[ol]).toArray T o (T d):=λi o hi ho=>hG i o (by
  have:(l0++[ol])[i]? = some o:=by simpa using ho
  rwa [zK hi] at this)
 have hcnt:(List.range (l0++[ol]).toArray.size).countP (λi=>!(Array.replicate (l0++[ol]).toArray.size false).getD i true)<=(l0++[ol]).toArray.size:=by
  refine yP jT ?_
  simp
 have hlf:(Array.replicate (l0++[ol]).toArray.size false).getD l0.length true=false:=by
  simp [zF]
 refine Aku ok hG' (ol:=ol) (by simp) hod hdn hgood hQ (l0++[ol]).toArray.size (Array.replicate (l0++[ol]).toArray.size false) a _ S H (by simp) hcnt (λhb=>by rw[hlf] at hb;cases hb) ?_
 have r':Rel c ⟨t,m⟩ a w.drew S H:=r.ext (Ext.drew w S) (r.sl.ext (Ext.drew w S))
 refine r'.weak (λx=>?_)
 unfold TM
 rw[if_neg (by rw[hlf];simp)]
 by_cases hx:x∈Ir l0
 ·right
  rw[if_pos]
  unfold Ir at hx
  rw[wG] at hx
  obtain⟨p,hp,hpd⟩:=hx
  obtain⟨j,hj,hjp⟩:=yU hp
  refine⟨j,p,hj,?_,hpd,?_⟩
  ·have:l0[j]? = some p:=by rw[zC hj,hjp]
   simpa using hgl this
  ·have:j<l0.length+1:=by omega
   simp [zF,this]
 ·left
  rw[if_neg,hTt x hx]
  rintro⟨i,o,hin,hi,hod,_⟩
  refine hx ?_
  unfold Ir
  rw[wG]
  have hi':l0[i]? = some o:=by
   have:(l0++[ol])[i]? = some o:=by simpa using hi
   rwa [zK hin] at this
  exact⟨o,zG hi',hod⟩
end
theorem Anp {place:Nat->Option (Nat×Nat)} {cs out:List Lf} {i off s:Nat} {x:SV} {rest:List (Nat×SV)} (cs':List Lf) (hp:place i=some (off,s)) (hl:x.cells.length=s) (hb:off+s<=cs.length) (he:Ky cs off x.cells=cs') (t:Wj place cs' rest out):Wj place cs ((i,x)::rest) out:=by
 subst he
 exact .cons _ _ _ _ _ _ _ hp hl hb t
open Go.RowKit
structure FT (P:Program) (s:TypeId) (f off:Nat) (ft:TypeId):Prop where
 h:∃ fs fld,P.underlying s=some (.struct fs)/\fs[f]? = some fld/\fld.offset=off/\fld.type=ft
section
variable {P:Program} {c:Ctx} {st:AS} {ty:TypeId}
theorem Aje {s f off ft:Nat} {x:Operand} {ls:List Lf} {y:Lf} (h:FT P s f off ft) (ti:TI P ft false 1) (hx:B2 st x=.s (.agg ls)) (hy:ls[off]? = some y):OpV P c st (.field s x f) ty (.s (.one y)):=by
 intro a w S H r
 have h1:=Ba r x
 rw[hx] at h1
 obtain⟨cs,hv,hl,hr⟩:=h1
 obtain⟨fs,fld,hu,hf,ho,ht⟩:=h.h
 have hj:off<cs.size:=by
  have:=(zB.1 hy).1
  rw[hl] at this
  simpa using this
 have hg:cs[off]? = some cs[off]:=zR hj
 refine⟨cs[off],hr off y _ hy (by simp),λ_ _ _ _=>?_⟩
 subst ho ht
 simp [execOp,hv,Instr.field,run_underlying hu,hf,part,asAgg,ti.run_isAgg,hg]
end
open Go.RowKit
theorem Ajh (zl:List Lf) (n:Nat):(Aax zl n).map Lf.canon=Aax (zl.map Lf.canon) n:=by
 unfold Aax
 rw[List.map_map,zY]
 apply kW
 intro j _
 simp only[Function.comp,List.getD_eq_getElem?_getD,zQ]
 cases zl[j % zl.length]? <;> rfl
theorem Adp {w:World} {S:Bz} {ls:List Lf} {vs:List Value} (h:LsR (Rep w S) ls vs):LsR (Rep w S) (ls.map Lf.canon) vs:=by
 refine⟨by simpa using h.1,λj l u hl hu=>?_⟩
 rw[zQ] at hl
 cases hx:ls[j]? with
 | none=>rw[hx] at hl;cases hl
 | some l' =>
  rw[hx] at hl
  cases hl
  exact Ang (h.2 j l' u hx hu)
section
variable {P:Program} {c:Ctx} {t:Nat->AV} {m:List Blk} {ops:Array Oper} {Q:Exit->AS->Prop} {rest:List Oper} {ty:TypeId} {pos:String} {af:Array Edge} {d:Tmp} {α:Type} {f:α->List Lf} {sz:Nat}
theorem Ahq {x y:Operand} {t' t2 e bytes:Nat} {zl:List Lf} {k kn:IntKind} {n:Int} {z:α} (hd:decide (d<c.nt)=true) (si:P.underlying t'=some (.slice e)) (ei:EI P e sz bytes zl) (h2:P.underlying t2=some (.int kn)) (hf:∀ x,(f x).length=sz) (hz:f z=zl.map Lf.canon) (hx:B2 ⟨t,m⟩ x=.s (.one (.raw (.slice none 0 0)))) (hy:B2 ⟨t,m⟩ y=.s (.one (.i k n)))
  (h:0<n/\n*(bytes:Int)<=281474976710656) (hb:0<bytes)
  (kk:AWL P c ops Q rest ⟨upd t d (.s (.one (.ls m.length (List.replicate n.toNat z).length))),m++[.arr e sz 0 ((List.replicate n.toNat z).flatMap f)]⟩) :
  AWL P c ops Q (⟨some d,.call { callee:=.builtin .append,args:=#[x,y],argTypes:=#[t',t2] },ty,pos,af,none⟩::rest) ⟨t,m⟩:=by
 obtain⟨N,rfl⟩:∃ N:Nat,n=(N:Int):=⟨n.toNat,by omega⟩
 have hN:0<N:=by omega
 have h48:N*bytes<=281474976710656:=by have:=h.2;rw[<- Int.natCast_mul] at this;omega
 have hle:N<=N*bytes:=jM _ hb
 rw[zT,zAd,<- Aew hz hf,<- Ajh] at kk
 refine Ut (e:=e) (sz:=sz) (n:=N) (cs:=(Aax zl (N*sz)).map Lf.canon) ei.p (of_decide_eq_true hd) (λa w S H r=>?_) kk
 obtain⟨i,zz,hi,hzz,hsize,hbytes,hzs,hzl,hzo⟩:=ei.h
 have hx':=Ba r x
 rw[hx] at hx'
 have hv:a.eval x=.slice none 0 0:=Eu hx'
 have hy':=Ba r y
 rw[hy] at hy'
 have ev:a.eval y=.int k N:=Sk hy'
 subst hsize hbytes
 have hrun:=Lib.run_append_nil_zeros (P:=P) w t' t2 ty e i zz k kn si h2 hi hzz N hN ei.p (by omega) h48
 have hcap:=grownCap_ge w N 0 e
 have hcm:grownCap w N 0 e<=maxLen:=grownCap_le_maxLen w N 0 e (by simp only[maxLen];omega)
 have hlen1:(Builtin.zeroCells zz.cells N).size=N*i.size:=by rw[size_zeroCells,hzs]
 refine⟨.slice (some ⟨w.heap.size,0,none⟩) N (grownCap w N 0 e),w.drew.alloc (.cells (Builtin.zeroCells zz.cells N++Builtin.zeroCells zz.cells (grownCap w N 0 e-N)) e),(Builtin.zeroCells zz.cells N).toList,λ_ _ _ _=>by simp [execOp,resolve,invoke,builtin,hv,ev,hrun],?_,r.sl.ext ((Ext.drew w S).trans (Ext.alloc w.drew S _)),?_,?_⟩
 ·exact(Ext.drew w S).trans (Ext.alloc w.drew S _)
 ·refine⟨by rw[zX,hlen1],.inr ⟨w.heap.size,grownCap w N 0 e,_,rfl,zO _,heap_alloc_new w.drew _,hcap,hcm,?_,?_⟩⟩
  ·simp only[yY,size_zeroCells,hzs,<- wR]
   congr 1;omega
  ·simp only[xR]
   rw[wK (by rw[zX,hlen1])]
 ·have:=Ab2 (w:=w.drew.alloc (.cells (Builtin.zeroCells zz.cells N++Builtin.zeroCells zz.cells (grownCap w N 0 e-N)) e)) (S:=S) (z:=zz) (by rw[hzs];exact ei.p) hzo (N*i.size) (N*i.size) (zO _)
  have e2:(madeCells zz.cells (N*i.size)).toList.take (N*i.size)=(Builtin.zeroCells zz.cells N).toList:=by
   rw[yO (by rw[zX,size_madeCells];exact zO _)]
   unfold madeCells Builtin.zeroCells
   rw[hzs]
  rw[e2] at this
  rw[<- hzl]
  exact Adp this
end
open Go.RowKit
def FW (rd:Option Nat):Fence:={ Fence.wide with round:=rd }
theorem Abt {rd:Option Nat} {n:Nat} {P:Program} {f:FuncId} {args:Array Value} {w:World} {R:Ending->World->Prop} (h:Calls P f args w R):CallsIn (FW rd) n P f args w R :=
  (callsIn_wide (n:=n)).2 h
theorem Am6 {rd:Option Nat} {n:Nat} {P:Program} {row:String} {args:Array Value} {w:World} {R:Value->World->Prop} (h:Rows P row args w R):RowsIn (FW rd) n P row args w R :=
  λc cs _=>let ⟨v,w',r,s⟩:=h c cs;⟨v,w',r,(stepsIn_wide).2 s⟩
def dsl (a:Act) (ds:List Deferred):Act:={ a with defers:=ds }
theorem Aag (a:Act) (ds:List Deferred) (d:Option Tmp) (v:Value):dsl (a.put d v) ds=(dsl a ds).put d v:=by cases d <;> rfl
theorem N3 (a:Act) (d:Option Tmp) (v:Value):(a.put d v).defers=a.defers:=by cases d <;> rfl
theorem Ain {a:Act} {ds:List Deferred} (h:a.defers=ds):dsl a ds=a:=by subst h;rfl
theorem Ac0 (a:Act) (ds:List Deferred):(dsl a ds).eval=a.eval:=by funext x;cases x <;> rfl
def ndf (o:Oper):Bool:=match o.op with
  | .defer _=>false
  | _=>true
section
variable {P:Program} {ops:Array Oper} {K K':Act->World->Prop} {Q1 Q2:Exit->Act->World->Prop} {ds:List Deferred} {rd:Option Nat}
theorem Asg {o:Oper} {a:Act} {w:World} (hno:¬ LetsOut Q1) (hK:∀ a w,K a w->a.defers=[]) (hQ:∀ e a w,Q1 e a w->a.defers=[]) (h:o.wp P a w K Q1):a.defers=[]:=by
  unfold Oper.wp at h
  generalize (execOp a.eval o).run P w=r at h
  cases r with
  | ok nx w' =>
    cases nx with
    | value v=>have:=hK _ _ h;rwa [N3] at this
    | skip=>have:=hK _ _ h;rwa [N3] at this
    | defer d=>have:=hK _ _ h;rw[N3] at this;cases this
    | enter f args =>
      have h':Calls P f args w' _:=h
      obtain⟨e,w'',fr,hr,_⟩:=h' []
      cases e with
      | returned v=>have:=hK _ _ hr;rwa [N3] at this
      | panicked ch=>exact hQ _ _ _ hr
      | outgrown=>exact absurd hr hno
    | row row args =>
      have h':Rows P row args w' _:=h
      obtain⟨v,w'',hr,_⟩:=h' default []
      have:=hK _ _ hr;rwa [N3] at this
    | _=>exact absurd h id
  | halt x w' =>
    cases x with
    | panic v=>exact hQ _ _ _ h
    | _=>exact absurd h id
theorem As9 {o:Oper} (hd:ndf o=true) {a:Act} {w:World} (hno:¬ LetsOut Q1) (hnd:∀ a w,K a w->a.defers=[]) (hK:∀ a w,K a w->K' (dsl a ds) w) (hQ:∀ e a w,Q1 e a w->Q2 e (dsl a ds) w)
    (h:o.wp P a w K Q1):o.wpIn (FW rd) 0 P (dsl a ds) w K' Q2:=by
  refine⟨λ_ _=>trivial,?_⟩
  have e2:o.semAt (FW rd).round (dsl a ds).eval=execOp a.eval o:=by
    rw[Ac0]
    cases rd with
    | none=>exact Oper.semAt_none _ _
    | some l=>exact Oper.semAt_some l _ o (λc hc=>by simp only[ndf,hc] at hd;cases hd)
  rw[e2]
  unfold Oper.wp at h
  generalize (execOp a.eval o).run P w=r at h
  cases r with
  | ok nx w' =>
    cases nx with
    | value v=>have:=hK _ _ h;rw[Aag] at this;exact this
    | skip=>have:=hK _ _ h;rw[Aag] at this;exact this
    | defer d=>have:=hnd _ _ h;rw[N3] at this;cases this
    | enter f args =>
      refine⟨λhh=>(by simp [FW,Fence.wide] at hh),Abt ?_⟩
      have h':Calls P f args w' _:=h
      refine h'.mono λe w'' hr=>?_
      cases e with
      | returned v=>have:=hK _ _ hr;rw[Aag] at this;exact this
      | panicked ch=>exact hQ _ _ _ hr
      | outgrown=>exact absurd hr hno
    | row row args =>
      refine⟨λhh=>(by simp [FW,Fence.wide] at hh),Am6 ?_⟩
      have h':Rows P row args w' _:=h
      refine h'.mono λv w'' hr=>?_
      have:=hK _ _ hr;rw[Aag] at this;exact this
    | _=>exact absurd h id
  | halt x w' =>
    cases x with
    | panic v=>exact hQ _ _ _ h
    | _=>exact absurd h id
theorem Aav (hno:¬ LetsOut Q1) (hQ:∀ e a w,Q1 e a w->a.defers=[]):∀ (l:List Oper) (a:Act) (w:World),wpList P ops Q1 l a w->a.defers=[]
  | [],a,w,h=>hQ _ _ _ h
  | o::rest,a,w,h=>by
    unfold wpList at h
    split at h
    · rcases h with h|h
      · exact Asg hno (λa w=>Aav hno hQ rest a w) hQ h
      · exact absurd h.2 hno
    · have:=Aav hno hQ rest _ _ h
      rwa [N3] at this
theorem Aan (hno:¬ LetsOut Q1) (hnd:∀ e a w,Q1 e a w->a.defers=[]) (hQ:∀ e a w,Q1 e a w->Q2 e (dsl a ds) w):∀ (l:List Oper),l.all ndf=true->∀ (a:Act) (w:World),wpList P ops Q1 l a w->wpListIn (FW rd) 0 P ops Q2 l (dsl a ds) w
  | [],_,a,w,h=>hQ _ _ _ h
  | o::rest,hl,a,w,h=>by
    simp only[jB,zS] at hl
    unfold wpList at h
    unfold wpListIn
    have ih:=Aan hno hnd hQ rest hl.2
    by_cases hw:Region.wanted o (yielded ops a.tmps)=true
    · rw[if_pos hw] at h
      rw[if_pos (show Region.wanted o (yielded ops (dsl a ds).tmps)=true from hw)]
      rcases h with h|h
      · exact As9 hl.1 hno (Aav hno hnd rest) ih hQ h
      · exact absurd h.2 hno
    · rw[if_neg hw] at h
      rw[if_neg (show ¬ Region.wanted o (yielded ops (dsl a ds).tmps)=true from hw)]
      have:=ih _ _ h
      rw[Aag] at this
      exact⟨λ_ _=>trivial,this⟩
end
def Akb (m:List Blk) (H:Nat->Value) (g:Nat):Prop:=∃ (p:Nat) (b:Blk),m[p]? = some b/\b.own (H p)=some g
abbrev Ctx.now (c:Ctx) (st:AS) (w:World) (S:Bz) (H:Nat->Value):Ctx:=⟨w,S,c.nt,Akb st.m H,st.m,H⟩
theorem Rel.now {c:Ctx} {st:AS} {a:Act} {w:World} {S:Bz} {H:Nat->Value} (r:Rel c st a w S H):Rel (c.now st w S H) st a w S H :=
  ⟨r.nt,r.df,r.tm,r.bl,λp b g hb ho=>⟨.inr ⟨p,b,hb,ho⟩,(r.lo p b g hb ho).2⟩,r.inj,r.sb,r.sl,Vt.refl _ _ _,zO _,λ_ _ _ _=>rfl,
   λp e sz k cs hp hm=>⟨k,cs,hm,.inl ⟨rfl,rfl⟩⟩,λ_ _ h=>h⟩
theorem Vt.then_now {c:Ctx} {st:AS} {a:Act} {w w':World} {S S':Bz} {H:Nat->Value} (r:Rel c st a w S H) (x:Vt (Akb st.m H) w S w' S'):Vt c.X c.w0 c.S0 w' S':=by
  have k:=r.ex
  have nx:∀ b,b<c.w0.heap.size->¬ c.X b->¬ Akb st.m H b:=λb hb hx ⟨p,bb,h1,h2⟩=>by
    rcases(r.lo p bb b h1 h2).1 with h|h
    · omega
    · exact hx h
  refine⟨x.os.trans k.os,x.tape.trans k.tape,x.output.trans k.output,yP k.size x.size,λb hb hx=>?_,λb i hs=>x.sub b i (k.sub b i hs),λb i hs=>(x.stab b i (k.sub b i hs)).trans (k.stab b i hs),λb i hb hx hs=>?_⟩
  · exact(x.blk b (z6 hb k.size) (nx b hb hx)).trans (k.blk b hb hx)
  · exact k.back b i hb hx (x.back b i (z6 hb k.size) (nx b hb hx) hs)
theorem Rel.then_now {c:Ctx} {st st':AS} {a a':Act} {w w':World} {S S':Bz} {H H':Nat->Value} (r:Rel c st a w S H) (r':Rel (c.now st w S H) st' a' w' S' H'):Rel c st' a' w' S' H':=by
  refine⟨r'.nt,r'.df,r'.tm,r'.bl,λp b g hb ho=>?_,r'.inj,r'.sb,r'.sl,Vt.then_now r r'.ex,yP r.kl r'.kl,λp g hp hh=>?_,λp e sz k cs hp hm=>?_,λp hp hne=>r'.ku p (z6 hp r.kl) (r.ku p hp hne)⟩
  · obtain⟨h1,h2⟩:=r'.lo p b g hb ho
    refine⟨?_,h2⟩
    rcases h1 with h1|⟨q,bb,h3,h4⟩
    · exact .inl (yP r.ex.size h1)
    · exact(r.lo q bb g h3 h4).1
  · have h1:=r.kh p g hp hh
    exact(r'.kh p g (z6 hp r.kl) (h1.trans hh)).trans h1
  · obtain⟨k1,cs1,h1,h2⟩:=r'.kr p e sz k cs (z6 hp r.kl) hm
    obtain⟨k2,cs2,h3,h4⟩:=r.kr p e sz k1 cs1 hp h1
    refine⟨k2,cs2,h3,?_⟩
    rcases h2 with⟨h2,h5⟩|h2 <;> rcases h4 with⟨h4,h6⟩|h4
    · exact .inl ⟨h4.trans h2,h5.trans h6⟩
    · exact .inr (by omega)
    · exact .inr (by omega)
    · exact .inr (by omega)
theorem Adx {base:Nat} {w:World} {S:Bz} {m:List Blk} {H:Nat->Value} {b:Blk} {v:Value} {g:Nat} (h:Aj9 base w S m H b v) (ho:b.own v=some g):∃ o,w.heap[g]? = some o/\Aa5 o=true:=by
  cases b with
  | dead=>cases ho
  | hole=>cases ho
  | obj g' mk cs =>
    obtain⟨h1,vs,o,h2,h3,_⟩:=h
    rw[h1] at ho
    have:g'=g:=by simpa [Blk.own,Cz] using ho
    subst this
    exact⟨o,h2,Ac9 h3⟩
  | tab mk cs =>
    obtain⟨g',h1,vs,o,h2,h3,_⟩:=h
    rw[h1] at ho
    have:g'=g:=by simpa [Blk.own,Cz] using ho
    subst this
    exact⟨o,h2,Ac9 h3⟩
  | arn e sz g' n cap cs =>
    obtain⟨h1,cur,h2,_⟩:=h
    rw[h1] at ho
    have:g'=g:=by simpa [Blk.own,Cz] using ho
    subst this
    exact⟨_,h2,rfl⟩
  | box cs =>
    obtain⟨g',e,cur,h1,h2,_⟩:=h
    rw[h1] at ho
    have:g'=g:=by simpa [Blk.own,Cz] using ho
    subst this
    exact⟨_,h2,rfl⟩
  | arr e sz k cs =>
    obtain⟨_,_,n,vals,h1,_⟩:=h
    rcases h1.2 with⟨hv,_⟩|⟨g',cap,cur,hv,_,hg,_⟩
    · rw[hv] at ho;cases ho
    · rw[hv] at ho
      have:g'=g:=by simpa [Blk.own,Cz] using ho
      subst this
      exact⟨_,hg,rfl⟩
def Zed (w:World) (Z:List (Nat×Obj)):Prop:=∀ x∈Z,w.heap[x.1]? = some x.2/\Aa5 x.2=false
theorem Zed.now {c:Ctx} {st:AS} {a:Act} {w w':World} {S S':Bz} {H:Nat->Value} {Z:List (Nat×Obj)} (r:Rel c st a w S H) (x:Vt (Akb st.m H) w S w' S') (z:Zed w Z):Zed w' Z:=λy hy=>by
  obtain⟨h1,h2⟩:=z y hy
  refine⟨(x.blk y.1 (yA.1 h1).1 λ⟨p,b,h3,h4⟩=>?_).trans h1,h2⟩
  obtain⟨o,h5,h6⟩:=Adx (r.bl p b h3) h4
  rw[h1] at h5
  have:y.2=o:=zD h5
  rw[this,h6] at h2
  cases h2
theorem Zed.ext {w w':World} {S S':Bz} {Z:List (Nat×Obj)} (x:Ext w S w' S') (z:Zed w Z):Zed w' Z:=λy hy=>by
  obtain⟨h1,h2⟩:=z y hy
  exact⟨(x.blk y.1 (yA.1 h1).1).trans h1,h2⟩
theorem Zx {o:Obj} (h:Aa5 o=false):o.isCells=false:=by cases o <;> first|rfl|cases h
theorem Wb {w:World} {l:Nat} {o o':Obj} (h:w.heap[l]? = some o) (ho:Aa5 o=false) (ho':Aa5 o'=false) (a:Addr):(w.putObj l o').cell? a=w.cell? a:=by
  have ho:=Zx ho
  have ho':=Zx ho'
  by_cases e:a.block=l
  · have h1:(w.putObj l o').heap[a.block]? = some o':=by rw[e];exact World.putObj_heap_same (yA.1 h).1
    have h2:w.heap[a.block]? = some o:=by rw[e];exact h
    unfold World.cell?
    rw[h1,h2]
    cases o <;> first|cases ho;done|(cases o' <;> first|rfl|(simp [Obj.isCells] at ho';done)|(simp [Obj.isCells] at ho;done))
  · exact World.cell?_of_block (World.putObj_heap_other e)
theorem Rel.putObj {c:Ctx} {st:AS} {a:Act} {w:World} {S:Bz} {H:Nat->Value} (r:Rel c st a w S H) {l:Nat} {o:Obj} (o':Obj) (h:w.heap[l]? = some o) (ho:Aa5 o=false) (ho':Aa5 o'=false) (hl:c.w0.heap.size<=l):Rel c st a (w.putObj l o') S H:=by
  have hc:=Wb (o':=o') h ho ho'
  have hk:∀ b i,S b i->S b i/\(w.putObj l o').cell? ⟨b,i,none⟩=w.cell? ⟨b,i,none⟩:=λb i hs=>⟨hs,hc _⟩
  have hg:∀ x v,Bt w S st.m H x v->Bt (w.putObj l o') S st.m H x v:=λx v=>Bt.mono hk (zO _) (λ_ _=>rfl) (λp e sz k cs _ hm=>⟨k,cs,hm,rfl⟩)
  have hb:∀ (p:Nat) (b:Blk) (g:Nat),st.m[p]? = some b->b.own (H p)=some g->(w.putObj l o').heap[g]? = w.heap[g]? := λp b g h1 h2=>by
    refine World.putObj_heap_other λe=>?_
    subst e
    obtain⟨o2,h5,h6⟩:=Adx (r.bl p b h1) h2
    rw[h] at h5
    have:o=o2:=zD h5
    rw[this,h6] at ho
    cases ho
  refine⟨r.nt,r.df,λi=>AVR.mono hg (r.tm i),λp b hbb=>?_,λp b g h1 h2=>⟨(r.lo p b g h1 h2).1,by rw[World.putObj_size];exact(r.lo p b g h1 h2).2⟩,r.inj,r.sb,r.sl.turn (·=l) (λg i e hs hn=>by
    subst e
    obtain⟨⟨cur,e',h1,_⟩,_⟩:=r.sl.2.2 g i hs hn
    rw[h] at h1
    cases h1
    cases ho) (λq _ hne=>World.putObj_heap_other hne) (by rw[World.putObj_size];exact zO _) (λb i hs=>hc _),?_,r.kl,r.kh,r.kr,r.ku⟩
  · have hr:=r.bl p b hbb
    have hbo:=hb p b
    cases b with
    | dead=>trivial
    | hole=>exact hr
    | obj g mk cs =>
      obtain⟨h1,vs,o,h2,h3,h4,h5⟩:=hr
      exact⟨h1,vs,o,(hbo g hbb (by rw[h1];rfl)).trans h2,h3,h4,h5.mono (λl v=>Rep.mono hk)⟩
    | tab mk cs =>
      obtain⟨g,h1,vs,o,h2,h3,h4,h5⟩:=hr
      exact⟨g,h1,vs,o,(hbo g hbb (by rw[h1];rfl)).trans h2,h3,h4,h5.mono (λl v=>Rep.mono hk)⟩
    | arn e sz g n cap cs =>
      obtain⟨h1,cur,h2,h3,h4⟩:=hr
      exact⟨h1,cur,(hbo g hbb (by rw[h1];rfl)).trans h2,h3,h4.mono hg⟩
    | box cs =>
      obtain⟨g,e,cur,h1,h2,h3⟩:=hr
      exact⟨g,e,cur,h1,(hbo g hbb (by rw[h1];rfl)).trans h2,h3.mono hg⟩
    | arr e sz k cs =>
      obtain⟨h0,hk1,n,vals,h1,h2,h3⟩:=hr
      exact⟨h0,hk1,n,vals,Iu h1 (λg hgo=>hbo g hbb hgo),h2.mono (λl v=>Rep.mono hk),h3⟩
  · have x:=r.ex
    exact⟨x.os,x.tape,x.output,by rw[World.putObj_size];exact x.size,λb hbb hx=>(World.putObj_heap_other (by omega)).trans (x.blk b hbb hx),x.sub,λb i hs=>(hc _).trans (x.stab b i hs),x.back⟩
theorem Zed.putObj {w:World} {l:Nat} {o:Obj} {Z:List (Nat×Obj)} (z:Zed w Z) (hl:∀ x∈Z,x.1≠l):Zed (w.putObj l o) Z:=λy hy =>
  ⟨(World.putObj_heap_other (hl y hy)).trans (z y hy).1,(z y hy).2⟩
end Go.Proofs.YtkblaobhhoebaaaGreat.Abs
