/-
  A walk over abstract states: its rules, part B.
-/
import Derived.Test.YtkblaobhhoebaaaGreatSAbsA
import Derived.Laws.Externs
import Derived.Lib.BytesEntry
import GoSem.Core.View
import Derived.Lib.AppendZeros
import Derived.Laws.Cover3
import Derived.Laws.StructEq
import Derived.ProofKit
import Derived.LaidMore
import Derived.OpenShut
import Derived.MakeChecks
import Derived.RangeFuncOwn
import Derived.OrdersIn
set_option linter.unusedVariables false
set_option linter.unusedSimpArgs false
namespace Go.Proofs.YtkblaobhhoebaaaGreat.Abs
open Go.RowKit
structure A1f (ops:Array Oper) (i0:Nat):Prop where
 dst:∀ (i:Nat) (o:Oper),ops[i]? = some o->i≠i0->∃ d,o.dst=some d
 lt:∀ (i:Nat) (o:Oper),ops[i]? = some o->∀ e∈o.after,Region.binds .any e=true->e.on<i
 ne:∀ (i:Nat) (o:Oper) (j:Nat) (p:Oper),ops[i]? = some o->ops[j]? = some p->i≠j->o.dst≠p.dst
 ed:∀ (i:Nat) (o:Oper) (j:Nat) (p:Oper) (d:Tmp),ops[i]? = some o->ops[j]? = some p->p.dst=some d->d∈o.looksAt ops->∃ e∈o.after,e.on=j/\Region.binds .any e=true
structure Zs (ops:Array Oper):Prop where
 lt:∀ (i:Nat) (o:Oper),ops[i]? = some o->∀ e∈o.after,Region.binds .any e=true->e.on<i
 ne:∀ (i:Nat) (o:Oper) (j:Nat) (p:Oper),ops[i]? = some o->ops[j]? = some p->i≠j->∀ d,o.dst=some d->p.dst≠some d
 ed:∀ (i:Nat) (o:Oper) (j:Nat) (p:Oper) (d:Tmp),ops[i]? = some o->ops[j]? = some p->p.dst=some d->d∈o.looksAt ops->∃ e∈o.after,e.on=j/\Region.binds .any e=true
structure Aeq (md M:List Blk):Prop where
 len:md.length=M.length
 at_:∀ (p:Nat) (b:Blk),md[p]? = some b->b=.dead\/M[p]? = some b
 arr:∀ (p:Nat) (e sz k:Nat) (cs:List Lf),M[p]? = some (.arr e sz k cs)->md[p]? = some (.arr e sz k cs)
theorem Aeq.up {md M:List Blk} (h:Aeq md M) {w:World} {S:Cq} {H:Nat->Value} {l:Lf} {v:Value} (g:Ct w S md H l v):Ct w S M H l v :=
 Ct.mono (λ_ _ hs=>⟨hs,rfl⟩) (kD h.len) (λ_ _=>rfl) (λp e sz k cs _ hm=>⟨k,cs,h.arr p e sz k cs hm,rfl⟩) g
theorem Aeq.down {md M:List Blk} (h:Aeq md M) {w:World} {S:Cq} {H:Nat->Value} {l:Lf} {v:Value} (g:Ct w S M H l v):Ct w S md H l v:=by
 refine Ct.mono (λ_ _ hs=>⟨hs,rfl⟩) (kD h.len.symm) (λ_ _=>rfl) (λp e sz k cs _ hm=>⟨k,cs,?_,rfl⟩) g
 rcases h.at_ p _ hm with h|h
 ·cases h
 ·exact h
theorem Rel.down {c:Ctx} {t:Nat->AV} {md M:List Blk} {a:Act} {w:World} {S:Cq} {H:Nat->Value} (h:Aeq md M) (r:Rel c ⟨t,M⟩ a w S H):Rel c ⟨t,md⟩ a w S H:=by
 refine⟨r.nt,r.df,λi=>AVR.mono (λl v=>h.down) (r.tm i),λp b hb=>?_,λp b g hb ho=>?_,λp q b b' g hb hb' ho ho'=>?_,λp b g i hb ho hs=>?_,r.sl,r.ex,(by have:=r.kl;have:=h.len;simp only at *;omega),r.kh,λp e sz k cs hp hm=>?_,r.ku⟩
 ·rcases h.at_ p b hb with rfl|hb'
  ·trivial
  ·have:=r.bl p b hb'
   cases b with
   | dead=>trivial
   | hole=>exact this
   | obj g mk cs=>exact this
   | tab mk cs=>exact this
   | box cs =>
    obtain⟨g,e,cur,h1,h2,h3⟩:=this
    exact⟨g,e,cur,h1,h2,h3.mono (λl v=>h.down)⟩
   | arr e sz k cs=>exact this
 ·rcases h.at_ p b hb with rfl|hb'
  ·cases ho
  ·exact r.lo p b g hb' ho
 ·rcases h.at_ p b hb with rfl|hb1
  ·cases ho
  ·rcases h.at_ q b' hb' with rfl|hb2
   ·cases ho'
   ·exact r.inj p q b b' g hb1 hb2 ho ho'
 ·rcases h.at_ p b hb with rfl|hb'
  ·cases ho
  ·exact r.sb p b g i hb' ho hs
 ·rcases h.at_ p _ hm with h|h
  ·cases h
  ·exact r.kr p e sz k cs hp h
section
variable {P:Program} {c:Ctx} {t:Nat->AV} {m:List Blk} {Q:Exit->AS->Prop}
theorem Aql {ops:Array Oper} (hok:Zs ops) {T:Nat->AV} {listed:Array Bool} {i:Nat} {o:Oper} {d:Tmp} (hsz:listed.size=ops.size) (hget:ops[i]? = some o) (hun':listed.getD i true=false) (hd:o.dst=some d) :
  upd (TL ops T listed) d (T d)=TL ops T (listed.setIfInBounds i true):=by
 have hio:i<ops.size:=(yB.1 hget).1
 funext x
 rw[Ik]
 by_cases hx:x=d
 ·subst hx
  rw[if_pos rfl]
  unfold TL
  rw[if_neg]
  rintro⟨j,p,hj,hpd,hl⟩
  by_cases hij:i=j
  ·subst hij
   simp only[zF,xE (by omega:i<listed.size),yK] at hl
   cases hl
  ·exact hok.ne i o j p hget hj hij _ hd hpd
 ·rw[if_neg hx]
  unfold TL
  by_cases hex:∃ (j:Nat) (p:Oper),ops[j]? = some p/\p.dst=some x/\listed.getD j true=false
  ·rw[if_pos hex]
   obtain⟨j,p,hj,hpd,hl⟩:=hex
   rw[if_pos]
   refine⟨j,p,hj,hpd,?_⟩
   have hij:i≠j:=by
    intro e;subst e
    rw[hget] at hj
    cases hj
    rw[hd] at hpd
    cases hpd
    exact hx rfl
   simp only[zF,yR hij]
   simpa [zF] using hl
  ·rw[if_neg hex,if_neg]
   rintro⟨j,p,hj,hpd,hl⟩
   refine hex ⟨j,p,hj,hpd,?_⟩
   by_cases hij:i=j
   ·subst hij;exact hun'
   ·simp only[zF,yR hij] at hl
    simpa [zF] using hl
theorem Abt {ops:Array Oper} {T:Nat->AV} {listed:Array Bool} {i:Nat} {o:Oper} (hget:ops[i]? = some o) (hd:o.dst=none) :
  TL ops T listed=TL ops T (listed.setIfInBounds i true):=by
 funext x
 unfold TL
 have:(∃ (j:Nat) (p:Oper),ops[j]? = some p/\p.dst=some x/\listed.getD j true=false)↔(∃ (j:Nat) (p:Oper),ops[j]? = some p/\p.dst=some x/\(listed.setIfInBounds i true).getD j true=false):=by
  constructor
  ·rintro⟨j,p,hj,hp,hl⟩
   have hij:i≠j:=by intro e;subst e;rw[hget] at hj;cases hj;rw[hd] at hp;cases hp
   exact⟨j,p,hj,hp,by simp only[zF,yR hij];simpa [zF] using hl⟩
  ·rintro⟨j,p,hj,hp,hl⟩
   have hij:i≠j:=by intro e;subst e;rw[hget] at hj;cases hj;rw[hd] at hp;cases hp
   exact⟨j,p,hj,hp,by simp only[zF,yR hij] at hl;simpa [zF] using hl⟩
 by_cases h:∃ (j:Nat) (p:Oper),ops[j]? = some p/\p.dst=some x/\listed.getD j true=false
 ·rw[if_pos h,if_pos (this.1 h)]
 ·rw[if_neg h,if_neg (λh'=>h (this.2 h'))]
def Met (listed:Array Bool) (o:Oper):Prop:=∀ e∈o.after,Region.binds .any e=true->listed.getD e.on false=true
theorem Aja {ops:Array Oper} (hok:Zs ops) {T:Nat->AV} {listed:Array Bool} {i:Nat} {o:Oper} (hsz:listed.size=ops.size) (hget:ops[i]? = some o) (hmet:Met listed o):∀ y∈o.looksAt ops,TL ops T listed y=T y:=by
 intro y hy
 unfold TL
 rw[if_neg]
 rintro⟨j,p,hj,hpd,hl⟩
 obtain⟨e,he,heo,hbind⟩:=hok.ed i o j p y hget hj hpd hy
 have h1:=hmet e he hbind
 rw[heo] at h1
 have hjl:j<ops.size:=(yB.1 hj).1
 simp only[zF] at h1 hl
 rw[zS (by omega)] at h1 hl
 simp only[yK] at h1 hl
 rw[h1] at hl
 cases hl
def Azf (P:Program) (c:Ctx) (ops:Array Oper) (T:Nat->AV) (B:Array Bool->List Blk) (HI:Array Bool->(Nat->Value)->Prop) (i:Nat) (o:Oper):Prop :=
 Asx ops T o/\∀ listed:Array Bool,listed.size=ops.size->listed.getD i true=false->Met listed o->∀ a w S H,Rel c ⟨TL ops T listed,B listed⟩ a w S H->HI listed H->∀ (K:Act->World->Prop) (Q:Exit->Act->World->Prop),
  (∀ a' w' S' H',Rel c ⟨TL ops T (listed.setIfInBounds i true),B (listed.setIfInBounds i true)⟩ a' w' S' H'->HI (listed.setIfInBounds i true) H'->K a' w')->Oper.wp P o a w K Q
def Atz (P:Program) (c:Ctx) (ops:Array Oper) (T:Nat->AV) (B:Array Bool->List Blk) (HI:Array Bool->(Nat->Value)->Prop) (i:Nat) (o:Oper):Prop :=
 ∀ (listed:Array Bool) (H:Nat->Value),listed.size=ops.size->listed.getD i true=false->Met listed o->HI listed H ->
  ∃ md,(∃ d,o.dst=some d/\d<c.nt/\Z5 P c md ops T o (T d))/\Aeq md (B listed)/\B (listed.setIfInBounds i true)=B listed/\HI (listed.setIfInBounds i true) H
theorem Arn {ops:Array Oper} (hok:Zs ops) {T:Nat->AV} {B:Array Bool->List Blk} {HI:Array Bool->(Nat->Value)->Prop} (hT:∀ (i:Nat) (o:Oper),ops[i]? = some o->Atz P c ops T B HI i o\/Azf P c ops T B HI i o)
  (hQ:∀ listed:Array Bool,listed.size=ops.size->(∀ i,i<ops.size->listed.getD i true=true)->Q .normal ⟨T,B listed⟩) :
  ∀ (fuel:Nat) (listed:Array Bool) (a:Act) (w:World) (S:Cq) (H:Nat->Value),listed.size=ops.size->(List.range ops.size).countP (λi=>!listed.getD i true)<=fuel ->
   Rel c ⟨TL ops T listed,B listed⟩ a w S H->HI listed H->wpAny P .any ops (QR c Q) fuel listed a w:=by
 have done:∀ (listed:Array Bool) (a:Act) (w:World) (S:Cq) (H:Nat->Value),listed.size=ops.size->Region.ready .any ops listed=[]->Rel c ⟨TL ops T listed,B listed⟩ a w S H->QR c Q .normal a w:=by
  intro listed a w S H hsz hr r
  have hall:∀ n i,i<n->i<ops.size->listed.getD i true=true:=by
   intro n
   induction n with
   | zero=>intro i h;omega
   | succ n ih =>
    intro i hi hio
    by_cases hb:listed.getD i true=true
    ·exact hb
    ·exfalso
     have hmem:i∈Region.ready .any ops listed:=by
      unfold Region.ready
      refine xD.2 ⟨wW.2 hio,?_⟩
      have hlt:=hok.lt i ops[i] (zS hio)
      have hb':listed.getD i true=false:=by simpa using hb
      simp only[hb',Bool.not_false,wM,zS hio,xC,yK]
      rw[wP]
      intro e he
      cases hbind:Region.binds .any e with
      | false=>rfl
      | true =>
      have hel:=hlt e he hbind
      have h1:=ih e.on (by omega) (by omega)
      have h2:listed.getD e.on false=true:=by
       simp only[zF] at h1 ⊢
       rw[zS (by omega)] at h1 ⊢
       exact h1
      simp [h2]
     rw[hr] at hmem
     cases hmem
  have hTL:TL ops T listed=T:=by
   funext x
   unfold TL
   rw[if_neg]
   rintro⟨i,o,hi,_,hl⟩
   have:=hall (i+1) i (by omega) (yB.1 hi).1
   rw[this] at hl
   cases hl
  rw[hTL] at r
  exact⟨_,S,H,r,hQ listed hsz (λi hi=>hall (i+1) i (by omega) hi)⟩
 intro fuel
 induction fuel with
 | zero =>
  intro listed a w S H hsz hc r hi0
  have hr:Region.ready .any ops listed=[]:=by
   unfold Region.ready
   rw[jX]
   intro i hi hb
   simp only[yD] at hb
   have:0<(List.range ops.size).countP (λi=>!listed.getD i true):=List.countP_pos_iff.2 ⟨i,hi,hb.1⟩
   omega
  exact⟨hr,done listed a w S H hsz hr r⟩
 | succ fuel ih =>
  intro listed a w S H hsz hc r hi0
  refine⟨λhr=>done listed a w S H hsz hr r,λi hi=>?_⟩
  unfold Region.ready at hi
  rw[xD] at hi
  obtain⟨hi1,hi2⟩:=hi
  have hio:i<ops.size:=wW.1 hi1
  have hget:ops[i]? = some ops[i]:=zS hio
  simp only[yD,hget,xC,yK] at hi2
  obtain⟨hun,haf⟩:=hi2
  have hun':listed.getD i true=false:=by simpa using hun
  generalize ho:ops[i]=o at *
  have hmet:Met listed o:=by
   intro e he hb
   rw[wP] at haf
   have h1:=haf e he
   rw[hb] at h1
   simpa using h1
  have hlook:=Aja (T:=T) hok hsz hget hmet
  have hcnt:(List.range ops.size).countP (λj=>!(listed.setIfInBounds i true).getD j true)<=fuel:=by
   have:=Alj (λj=>!listed.getD j true) (λj=>!(listed.setIfInBounds i true).getD j true) (List.range ops.size) (λj _ hj=>by
    by_cases hij:i=j
    ·subst hij
     simp only[zF,xE (by omega:i<listed.size),yK] at hj
     cases hj
    ·simp only[zF,yR hij] at hj
     simpa [zF] using hj) hi1 hun (by simp only[zF,xE (by omega:i<listed.size),yK];rfl)
   omega
  rcases hT i o hget with hp|⟨hgn,heff⟩
  ·obtain⟨md,⟨d,hd,hdn,hgood⟩,hlift,hB,hHI⟩:=hp listed H hsz hun' hmet hi0
   have hTL':=Aql (T:=T) hok hsz hget hun' hd
   have next:∀ v w' S',Ext w S w' S'->InH w' S'->AVR (Ct w' S' md H) (T d) v->wpAny P .any ops (QR c Q) fuel (listed.setIfInBounds i true) (a.put o.dst v) w':=by
    intro v w' S' hext hin hv
    rw[hd]
    refine ih _ _ w' S' H (by simpa using hsz) hcnt ?_ hHI
    rw[<- hTL',hB]
    exact(r.ext hext hin).put hdn (AVR.mono (λl u=>hlift.up) hv)
   have hw:wpOp P ops (QR c Q) i (wpAny P .any ops (QR c Q) fuel (listed.setIfInBounds i true)) a w:=by
    unfold wpOp
    rw[hget]
    simp only
    have hrr:Rel c ⟨Up T (o.looksAt ops),md⟩ a w S H:=by
     refine(r.down hlift).weak (λy=>?_)
     unfold Up
     cases hc':(o.looksAt ops).contains y with
     | false=>exact .inr rfl
     | true=>exact .inl (hlook y (by simpa using hc')).symm
    rcases hgood with⟨hg,hop⟩|⟨hg,hx⟩
    ·have hwant:Region.wanted o (yielded ops a.tmps)=true:=by
      rcases hg with hg|⟨j,want,dj,h1,h2,h3⟩
      ·simp [Region.wanted,hg]
      ·have h4:=r.tm dj
       have h5:TL ops T listed dj=.s (.one (.b want)):=by rw[hlook dj (Gj h1 h2)];exact h3
       rw[show(⟨TL ops T listed,B listed⟩:AS).t dj=.s (.one (.b want)) from h5] at h4
       have hv:a.tmps.getD dj undef=.bool want:=X6 (h4:Rep w S (.b want) (a.tmps.getD dj undef))
       have hs:a.tmps[dj]? = some (.bool want):=by
        simp only[zF] at hv
        cases hq:a.tmps[dj]? with
        | none=>rw[hq] at hv;cases hv
        | some u=>rw[hq] at hv;simp only[yK] at hv;rw[hv]
       simp only[Region.wanted,h1,yielded,h2,zA,hs,beq_self_eq_true]
     rw[if_pos hwant]
     obtain⟨odst,oop,oty,opos,oaf,og⟩:=o
     exact .inl (hop a w S H hrr odst opos oaf og _ _ (λv w' S' h1 h2 h3=>next v w' S' h1 h2 h3))
    ·have hwant:Region.wanted o (yielded ops a.tmps)=false:=by
      obtain⟨j,want,dj,h1,h2,h3⟩:=hg
      have h4:=r.tm dj
      rw[show(⟨TL ops T listed,B listed⟩:AS).t dj=T dj from hlook dj (Gj h1 h2)] at h4
      simp only[Region.wanted,h1,yielded,h2,zA]
      rcases h3 with h3|⟨b,h3,hb⟩
      ·rw[h3] at h4
       obtain⟨vs,hv,_⟩:=h4
       simp only[zF] at hv
       cases hq:a.tmps[dj]? with
       | none=>rfl
       | some u=>rw[hq] at hv;simp only[yK] at hv;subst hv;rfl
      ·rw[h3] at h4
       have hv:a.tmps.getD dj undef=.bool b:=X6 (h4:Rep w S (.b b) (a.tmps.getD dj undef))
       simp only[zF] at hv
       cases hq:a.tmps[dj]? with
       | none=>rfl
       | some u =>
        rw[hq] at hv;simp only[yK] at hv;subst hv
        cases b <;> cases want <;> first|rfl|cases hb
     rw[if_neg (by rw[hwant];simp)]
     have:=next undef w S (Ext.refl w S) r.sl (by rw[hx];exact Ky)
     exact this
   exact hw
  ·unfold wpOp
   rw[hget]
   simp only
   have hwant:Region.wanted o (yielded ops a.tmps)=true:=by
    rcases hgn with hg|⟨j,want,dj,h1,h2,h3⟩
    ·simp [Region.wanted,hg]
    ·have h4:=r.tm dj
     have h5:TL ops T listed dj=.s (.one (.b want)):=by rw[hlook dj (Gj h1 h2)];exact h3
     rw[show(⟨TL ops T listed,B listed⟩:AS).t dj=.s (.one (.b want)) from h5] at h4
     have hv:a.tmps.getD dj undef=.bool want:=X6 (h4:Rep w S (.b want) (a.tmps.getD dj undef))
     have hs:a.tmps[dj]? = some (.bool want):=by
      simp only[zF] at hv
      cases hq:a.tmps[dj]? with
      | none=>rw[hq] at hv;cases hv
      | some u=>rw[hq] at hv;simp only[yK] at hv;rw[hv]
     simp only[Region.wanted,h1,yielded,h2,zA,hs,beq_self_eq_true]
   rw[if_pos hwant]
   exact .inl (heff listed hsz hun' hmet a w S H r hi0 _ _ (λa' w' S' H' r' h'=>ih _ a' w' S' H' (by simpa using hsz) hcnt r' h'))
end
open Go.RowKit
section
variable {P:Program} {c:Ctx} {t:Nat->AV} {m:List Blk} {Q:Exit->AS->Prop}
theorem Abd {g:Addr} (h:undef=.pointer (some g)):False:=by
 unfold undef at h;cases h
def AWD (P:Program) (c:Ctx) (Q:Exit->AS->Prop) (l:List Oper) (st:AS):Prop:=∀ a w S H,Rel c st a w S H->wpAny P .any l.toArray (QR c Q) l.toArray.size (Array.replicate l.toArray.size false) a w.drew
theorem AWD.awc {st:AS} {id:Nat} {l:List Oper} (hm:P.follows .mixedOrders=true) (h:AWD P c Q l st):AWC P c (.region id l.toArray true) Q st:=λa w S H r=>wp_region_any hm (h a w S H r)
theorem Af7 {l:List Oper} {T:Nat->AV} {B:Array Bool->List Blk} {HI:Array Bool->(Nat->Value)->Prop} (ok:Zs l.toArray)
  (hT:∀ (i:Nat) (o:Oper),l.toArray[i]? = some o->Atz P c l.toArray T B HI i o\/Azf P c l.toArray T B HI i o)
  (hTt:∀ y,y∉Om l->T y=t y)
  (hst:∀ a w S H,Rel c ⟨t,m⟩ a w S H->∃ H',Rel c ⟨t,B (Array.replicate l.toArray.size false)⟩ a w S H'/\HI (Array.replicate l.toArray.size false) H')
  (hQ:∀ listed:Array Bool,listed.size=l.toArray.size->(∀ i,i<l.toArray.size->listed.getD i true=true)->Q .normal ⟨T,B listed⟩):AWD P c Q l ⟨t,m⟩:=by
 intro a w S H r
 have hcnt:(List.range l.toArray.size).countP (λi=>!(Array.replicate l.toArray.size false).getD i true)<=l.toArray.size:=by
  refine yO jY ?_
  simp
 have r':Rel c ⟨t,m⟩ a w.drew S H:=r.ext (Ext.drew w S) (r.sl.ext (Ext.drew w S))
 obtain⟨H',r2,h2⟩:=hst _ _ _ _ r'
 refine Arn ok hT hQ l.toArray.size (Array.replicate l.toArray.size false) a _ S H' (by simp) hcnt ?_ h2
 refine r2.weak (λx=>?_)
 unfold TL
 by_cases hx:x∈Om l
 ·right
  rw[if_pos]
  unfold Om at hx
  rw[wQ] at hx
  obtain⟨p,hp,hpd⟩:=hx
  obtain⟨j,hj,hjp⟩:=yS hp
  refine⟨j,p,by simp [hj,hjp],hpd,?_⟩
  simp [zF,hj]
 ·left
  rw[if_neg,hTt x hx]
  rintro⟨i,o,hi,hod,_⟩
  refine hx ?_
  unfold Om
  rw[wQ]
  have hi':l[i]? = some o:=by simpa using hi
  exact⟨o,zJ hi',hod⟩
theorem Ay5 {l:List Oper} (ok:Zs l.toArray):∀ (i:Nat) (o:Oper),l[i]? = some o->∀ y∈o.looksAt l.toArray,y∉Om (l.drop i):=by
 intro i o hi y hy hm'
 unfold Om at hm'
 rw[wQ] at hm'
 obtain⟨p,hp,hpd⟩:=hm'
 obtain⟨j,hj,hjp⟩:=yS hp
 have hjl:l[i+j]? = some p:=by
  rw[List.getElem_drop] at hjp
  have:i+j<l.length:=by simp at hj;omega
  rw[zB this,hjp]
 obtain⟨e,he,heo,hb⟩:=ok.ed i o (i+j) p y (by simpa using hi) (by simpa using hjl) hpd hy
 have:=ok.lt i o (by simpa using hi) e he hb
 omega
end
open Go.RowKit
theorem Pd {P:Program} {t:TypeId} {zl:List Lf} (h:((P.info? t).bind (·.zero)).map (λz=>(z.cells.toList.map clf,z.cells.all (·.oneCell')))=some (zl,true)):ZI P t zl:=by
 cases hi:P.info? t with
 | none=>rw[hi] at h;cases h
 | some i =>
  rw[hi] at h
  cases hz:i.zero with
  | none=>simp [hz] at h
  | some z =>
   simp only[zA,hz,xC,zW,Prod.mk.injEq] at h
   exact⟨i,z,hi,hz,h.1,h.2⟩
theorem Rs {P:Program} {e sz bytes:Nat} {zl:List Lf} (h:(P.info? e).bind (λi=>i.zero.map λz=>(i.size,i.bytes,z.cells.size,z.cells.toList.map clf,z.cells.all (·.oneCell')))=some (sz,bytes,sz,zl,true)) (hp:0<sz):EI P e sz bytes zl:=by
 cases hi:P.info? e with
 | none=>rw[hi] at h;cases h
 | some i =>
  rw[hi] at h
  cases hz:i.zero with
  | none=>simp [hz] at h
  | some z =>
   simp only[zA,hz,xC,zW,Prod.mk.injEq] at h
   exact⟨⟨i,z,hi,hz,h.1,h.2.1,h.2.2.1,h.2.2.2.1,h.2.2.2.2⟩,hp⟩
theorem Awv {n:Int} (h:(Lit.int .i64 n).wf=true):-9223372036854775808<=n/\n<=9223372036854775807:=by
 simpa [Lit.wf,IntKind.min,IntKind.max,IntKind.bits,IntKind.signed] using h
def Lf.canon:Lf->Lf
 | .raw (.slice none 0 0)=>.sl 0 []
 | l=>l
def SV.canon:SV->SV
 | .one l=>.one l.canon
 | .agg ls=>.agg (ls.map Lf.canon)
theorem Agl {m:List Blk} {l:Lf} (h:l.pubd=true):C5 m l l.canon m:=by
 unfold Lf.canon
 split
 ·exact .nil
 ·exact .id _ h
theorem I8 {m:List Blk} {xs:List SV} (h:xs.all (λx=>x.cells.all Lf.pubd)=true):Ho m xs (xs.map SV.canon) m:=by
 induction xs with
 | nil=>exact .nil m
 | cons x xs ih =>
  simp only[List.all_cons,yD] at h
  refine .cons m m m x x.canon xs _ ?_ (ih h.2)
  cases x with
  | one l=>exact .one _ _ _ _ (Agl (by simpa [SV.cells] using h.1))
  | agg ls =>
   refine .agg _ _ _ _ ?_
   have h1:=zI.1 h.1
   simp only[SV.cells] at h1
   clear h
   induction ls with
   | nil=>exact .nil m
   | cons l ls ih2=>exact .cons m m m l l.canon ls _ (Agl (h1 l (yV ..))) (ih2 (λl' hl=>h1 l' (yT _ hl)))
theorem Ao {m:List Blk} {xs:List SV} (h:xs.all (λx=>x.cells.all Lf.pubd)=true):Ho m xs xs m:=by
 induction xs with
 | nil=>exact .nil m
 | cons x xs ih =>
  simp only[List.all_cons,yD] at h
  refine .cons m m m x x xs xs ?_ (ih h.2)
  cases x with
  | one l=>exact .one _ _ _ _ (.id _ (by simpa [SV.cells] using h.1))
  | agg ls=>exact .agg _ _ _ _ (.all _ _ (zI.1 h.1))
section
variable {P:Program} {c:Ctx} {st:AS} {x y b:Operand} {v:SV} {ty:TypeId}
theorem Az (h:C6 st x=.s v):OpV P c st (.move x) ty (.s v):=h ▸ Akt
theorem Cf {xs:List SV} (h:C6 st x=.tup xs):OpV P c st (.move x) ty (.tup xs):=h ▸ Akt
theorem G0 (h:C6 st x=.s v):OpV P c st (.assign x) ty (.s v):=h ▸ Alr
theorem Ch (hb:C6 st b=.s (.one (.b true))) (h:C6 st x=.s v):OpV P c st (.pick b x y) ty (.s v):=by
 have:=Ak3 (P:=P) (c:=c) (ty:=ty) (x:=x) (y:=y) hb
 rw[if_pos rfl,h] at this
 exact this
theorem Cl (hb:C6 st b=.s (.one (.b false))) (h:C6 st y=.s v):OpV P c st (.pick b x y) ty (.s v):=by
 have:=Ak3 (P:=P) (c:=c) (ty:=ty) (x:=x) (y:=y) hb
 rw[if_neg (by simp),h] at this
 exact this
end
theorem Po {P:Program} {t:TypeId} {pl:List (Nat×Nat)} {fs:Array Field} (hu:P.underlying t=some (.struct fs)) (hs:fs.size=pl.length)
  (h:((List.range pl.length).all λj=>match fs[j]?,pl[j]? with|some f,some q=>f.offset==q.1&&((P.info? f.type).map (·.size)==some q.2)|_,_=>false)=true):PI P t pl:=by
 refine⟨fs,hu,hs,λj f q hf hq=>?_⟩
 have hj:j<pl.length:=(zC.1 hq).1
 have:=zI.1 h j (wW.2 hj)
 rw[hf,hq] at this
 simpa using this
open Go.RowKit
theorem Ail (w:World) (p:Addr) (n:Nat):(w.freeze p n).heap.size=w.heap.size:=by
 unfold World.freeze;split <;> simp
theorem Aap (w:World) (p:Addr) (n:Nat) {b:Nat} (h:b≠p.block):(w.freeze p n).heap[b]? = w.heap[b]? := by
 unfold World.freeze
 split
 ·rfl
 ·simp only[wO]
  rw[if_neg (λe=>h e.symm)]
theorem Ajn (w:World) (p:Addr) (n:Nat) (a:Addr):(w.freeze p n).cell? a=w.cell? a:=by
 by_cases hb:a.block=p.block
 ·unfold World.freeze
  split
  ·rfl
  ·unfold World.cell?
   simp only[wO,hb,if_true]
   cases w.heap[p.block]? with
   | none=>rfl
   | some o=>cases o <;> rfl
 ·unfold World.cell?
  rw[Aap w p n hb]
theorem Anr (w:World) (p:Addr) (n:Nat):(w.freeze p n).os=w.os/\(w.freeze p n).tape=w.tape/\(w.freeze p n).output=w.output:=by
 unfold World.freeze;split <;> exact⟨rfl,rfl,rfl⟩
section
variable {P:Program} {c:Ctx} {t:Nat->AV} {m:List Blk} {ops:Array Oper} {Q:Exit->AS->Prop} {rest:List Oper} {ty:TypeId} {pos:String} {af:Array Edge} {d:Tmp}
theorem Abc {tt e:TypeId} {x:Operand} {p n e' sz k:Nat} {cs:List Lf} (hd:decide (d<c.nt)=true) (su:P.underlying tt=some (.slice e)) (eu:P.underlying e=some (.int .u8)) (hx:C6 ⟨t,m⟩ x=.s (.one (.ls p n))) (hm:m[p]? = some (.arr e' sz k cs)) (hn:n*sz=cs.length) (hpos:0<n)
  (kk:AWL P c ops Q rest ⟨upd t d (.s (.one (.sl n cs))),m.set p .dead⟩):AWL P c ops Q (⟨some d,.convert tt tt x,ty,pos,af,none⟩::rest) ⟨t,m⟩:=by
 intro a w S H r
 have hx':=B1 r x
 rw[hx] at hx'
 obtain⟨hp,_,hr⟩:=hx'
 have hv:a.eval x=H p:=(hr _ _ _ _ hm).2 hn
 obtain⟨hsz,hk,n0,vals,hown,hls,hst⟩:=r.bl p _ hm
 obtain⟨S',r1,hsub,hrep⟩:=r.pub hm
 have hrep:=hrep n hn
 obtain⟨hvl,hcase⟩:=hown
 rcases hcase with⟨_,h0⟩|⟨g,cap,cur,hHp,hbg,hgg,hnc,hcm,hcs,htake⟩
 ·have:n*sz=0:=by rw[hn,hls.1,hvl,h0,wT]
  have:=Nat.mul_pos hpos hsz
  omega
 ·have hcell:=Ajn w ⟨g,cur.size,none⟩ 1
  have hoth:=λb=>Aap w ⟨g,cur.size,none⟩ 1 (b:=b)
  have hsize:=Ail w ⟨g,cur.size,none⟩ 1
  obtain⟨ho1,ho2,ho3⟩:=Anr w ⟨g,cur.size,none⟩ 1
  have hrun:(execOp a.eval ⟨some d,.convert tt tt x,ty,pos,af,none⟩).run P w=.ok (.value (H p)) (w.freeze ⟨g,cur.size,none⟩ 1):=by
   have hsh:w.shape? g=some (e',cur.size):=by unfold World.shape?;rw[hgg]
   simp only[execOp,hv,hHp]
   simp [convert,run_underlying su,run_underlying eu,markStringish,hsh]
  generalize hw':w.freeze ⟨g,cur.size,none⟩ 1=w' at *
  have hset:(m.set p (Blk.arr e' sz cs.length cs)).set p .dead=m.set p .dead:=by simp
  have r2:Rel c ⟨t,m.set p .dead⟩ a w' S' (Ud H p (H p)):=by
   refine r1.change (p:=p) (b':=.dead) (v:=H p) (by simp) (by simp [hp]) (λq hq=>?_) (λb i h=>⟨h,hcell _⟩) (λg' _ h=>rfl) (λe sz k cs _ h=>by cases h)
    (λg' _ hne=>hoth g' (λe=>?_)) trivial (λg' hg=>by cases hg) (λq b g i _ _ _ h=>h) (λg i _ _ h=>h) (r1.sl.turn2 (kD hsize.symm) (λb i _=>hcell _)) (by rw[hsize];exact zN _) ho1 ho2 ho3 (λ_ _ h=>h)
   ·simp only
    rw[zZ (λe=>hq e.symm),zZ (λe=>hq e.symm)]
   ·have e':g'=g:=e
    subst e'
    exact hne _ (zQ hp) (by rw[hHp];rfl)
  refine wpList_plain rfl λK hK=>?_
  unfold Oper.wp
  rw[hrun]
  refine hK _ _ (kk _ _ _ _ (r2.put (d:=d) (x:=.s (.one (.sl n cs))) (of_decide_eq_true hd) ?_))
  exact Ct.of_rep (m:=m.set p .dead) (H:=Ud H p undef) (Rep.mono (λb i h=>⟨h,hcell _⟩) hrep)
end
def Gm:List UInt8->List UInt8->Int
 | [],[]=>0
 | [],_::_=>-1
 | _::_,[]=>1
 | x::xs,y::ys=>if x<y then -1 else if y<x then 1 else Gm xs ys
section
variable {P:Program} {w:World} {S:Cq}
theorem Vg {l:List UInt8} {v:Value} (h:Rep w S (.sl l.length (bl l)) v):(Extern.Bytes.bytesOf v).run P w=.ok ⟨l.toArray⟩ w:=by
 generalize hn:l.length=n at h
 generalize hb:bl l=cs at h
 cases h with
 | sl0 ad cap =>
  have:l=[]:=zY hn
  subst this
  cases ad <;> rfl
 | sl n cs bk off cap vals hc hm hs hr =>
  subst hn;subst hb
  have hl:=Lib.run_loadBytesX (P:=P) (w:=w) (l.map λb:UInt8=>(b.toNat:Int)) ⟨bk,off,none⟩ .empty (λj x hj=>by
   rw[zP] at hj
   cases hx:l[j]? with
   | none=>rw[hx] at hj;cases hj
   | some b =>
    rw[hx] at hj
    cases hj
    have hbl:(bl l)[j]? = some (.i .u8 b.toNat):=by simp [bl,hx]
    have h1:=U3 (hr j _ hbl)
    have e:(⟨bk,off,none⟩:Addr).add j=⟨bk,off+j,none⟩:=by unfold Addr.add;split <;> simp_all
    rw[e,(hs j _ hbl).2,h1])
  rw[z2] at hl
  have e:Lib.bytesOf (l.map λb:UInt8=>(b.toNat:Int))=l:=by
   unfold Lib.bytesOf
   rw[List.map_map]
   conv=>rhs;rw[<- kN l]
   refine kJ (λb _=>?_)
   show UInt8.ofNat ((b.toNat:Int)).toNat=b
   rw[zT];exact UInt8.ofNat_toNat
  rw[e] at hl
  show(Extern.Bytes.loadBytes ⟨bk,off,none⟩ l.length .empty).run P w=_
  rw[hl]
  simp
theorem Aum (a b:List UInt8):Extern.BytealgCompare.cmp ⟨a.toArray⟩ ⟨b.toArray⟩=Gm a b:=by
 have hget:∀ (l:List UInt8) (i:Nat),(⟨l.toArray⟩:ByteArray)[i]! = l[i]! := by
  intro l i
  by_cases h:i<l.length
  ·rw[getElem!_pos (⟨l.toArray⟩:ByteArray) i (by show i<l.toArray.size;simpa using h),getElem!_pos l i h]
   show l.toArray[i]'_=l[i]
   simp
  ·rw[getElem!_neg (⟨l.toArray⟩:ByteArray) i (by show ¬ i<l.toArray.size;simpa using h),getElem!_neg l i h]
 unfold Extern.BytealgCompare.cmp
 simp only[hget]
 show(match (List.range (min a.length b.length)).find? λi=>a[i]! != b[i]! with
  | some i=>if a[i]! < b[i]! then -1 else 1
  | none=>if a.length<b.length then -1 else if a.length > b.length then 1 else 0)=Gm a b
 induction a generalizing b with
 | nil=>cases b <;> simp [Gm]
 | cons x xs ih =>
  cases b with
  | nil=>simp [Gm]
  | cons y ys =>
   have hr:List.range (min (x::xs).length (y::ys).length)=0::(List.range (min xs.length ys.length)).map (·+1):=by
    rw[show min (x::xs).length (y::ys).length=min xs.length ys.length+1 by simp [Nat.succ_min_succ],List.range_succ_eq_map]
   rw[hr,jM]
   by_cases hxy:x=y
   ·subst hxy
    have ih:=ih ys
    simp only[List.find?_map]
    have hne:((x::xs)[0]! != (x::ys)[0]!)=false:=by simp
    rw[hne]
    simp only[Gm,yZ,if_false]
    rw[<- ih]
    have hf:((λi=>(x::xs)[i]! != (x::ys)[i]!) ∘ λi=>i+1)=λi=>xs[i]! != ys[i]! := by
     funext i;simp
    rw[hf]
    cases (List.range (min xs.length ys.length)).find? λi=>xs[i]! != ys[i]! with
    | none=>simp
    | some i=>simp
   ·have hne:((x::xs)[0]! != (y::ys)[0]!)=true:=by simp [hxy]
    rw[hne]
    simp only[Gm]
    simp
    by_cases h1:x<y
    ·simp [h1]
    ·have h2:y<x:=by
      rcases UInt8.lt_or_lt_of_ne hxy with h|h
      ·exact absurd h h1
      ·exact h
     simp [h1,h2]
end
structure XI (P:Program) (f:FuncId) (e:Array Value->Sem Value):Prop where
 h : ∃ fn, P.funcs[f]? = some fn ∧ (fn.name == "runtime.NumGoroutine") = false ∧ fn.body.isNone = true ∧ Extern.findNext fn = none ∧ Extern.find fn = some e
theorem Awx {P:Program} {c:Ctx} {st:AS} {f:FuncId} {x y:Operand} {ats:Array TypeId} {ty:TypeId} {a b:List UInt8} (xi:XI P f Extern.BytealgCompare.compare) (hx:C6 st x=.s (.one (.sl a.length (bl a)))) (hy:C6 st y=.s (.one (.sl b.length (bl b)))) :
  OpV P c st (.call { callee:=.value (.func f),args:=#[x,y],argTypes:=ats }) ty (.s (.one (.i .i64 (Gm a b)))):=by
 intro ac w S H r
 have h1:=B1 r x
 rw[hx] at h1
 have h2:=B1 r y
 rw[hy] at h2
 have h1':Rep w S (.sl a.length (bl a)) (ac.eval x):=h1
 have h2':Rep w S (.sl b.length (bl b)) (ac.eval y):=h2
 refine⟨.int .i64 (Gm a b),I1 (.i _ _),λdst pos af g=>?_⟩
 obtain⟨fn,q1,q2,q3,q4,q5⟩:=xi.h
 have hrun:(Extern.BytealgCompare.compare #[ac.eval x,ac.eval y]).run P w=.ok (.int .i64 (Gm a b)) w:=by
  change Sem.run P (do
   let p <- Extern.Bytes.bytesOf (ac.eval x)
   let q <- Extern.Bytes.bytesOf (ac.eval y)
   pure (goInt (Extern.BytealgCompare.cmp p q))) w=_
  simp only[Sem.run_bind,Vg h1',Vg h2',Result.andThen_ok,Aum,Sem.run_pure]
  rfl
 have hcall:=run_callFunc_extern (P:=P) q1 q2 q3 q4 q5 #[ac.eval x,ac.eval y] w
 rw[hrun] at hcall
 have e:ac.eval (.func f)=.func (.func f) #[] #[]:=rfl
 simp only[execOp,resolve,e,Deferred.ofValue,invoke,List.map_toArray,wB,List.map_nil]
 simpa using hcall
open Go.RowKit
def Lf.ren0 (r:Nat->Nat):Lf->Lf
 | .lp p o=>.lp (r p) o
 | .ls p n=>.ls (r p) n
 | .ap p n o=>.ap (r p) n o
 | .mp k p=>.mp k (r p)
 | l=>l
def Lf.ren (r:Nat->Nat):Lf->Lf
 | .fn f la lb=>.fn f (la.map (Lf.ren0 r)) (lb.map (Lf.ren0 r))
 | l=>l.ren0 r
def SV.ren (r:Nat->Nat):SV->SV
 | .one l=>.one (l.ren r)
 | .agg ls=>.agg (ls.map (Lf.ren r))
def AV.ren (r:Nat->Nat):AV->AV
 | .s x=>.s (x.ren r)
 | .tup xs=>.tup (xs.map (SV.ren r))
 | .top=>.top
def Blk.ren (r:Nat->Nat):Blk->Blk
 | .box cs=>.box (cs.map (Lf.ren r))
 | b=>b
def Lf.inb0 (n:Nat):Lf->Bool
 | .lp p _=>decide (p<n)
 | .ls p _=>decide (p<n)
 | .ap p _ _=>decide (p<n)
 | .mp _ p=>decide (p<n)
 | _=>true
def Lf.inbB (n:Nat):Lf->Bool
 | .fn _ la lb=>la.all (Lf.inb0 n)&&lb.all (Lf.inb0 n)
 | l=>l.inb0 n
def SV.inbB (n:Nat):SV->Bool
 | .one l=>l.inbB n
 | .agg ls=>ls.all (Lf.inbB n)
def Blk.inbB (n:Nat):Blk->Bool
 | .box cs=>cs.all (Lf.inbB n)
 | _=>true
theorem Blk.ren_arr {r:Nat->Nat} {b:Blk} {e sz k:Nat} {cs:List Lf} (h:b.ren r=.arr e sz k cs):b=.arr e sz k cs:=by
 cases b <;> first|exact h|cases h
theorem Blk.ren_own {r:Nat->Nat} {b:Blk} {v:Value}:(b.ren r).own v=b.own v:=by cases b <;> rfl
theorem Blk.ren_stab {r:Nat->Nat} {b:Blk}:(b.ren r).stab=b.stab:=by cases b <;> rfl
structure Tie (m M:List Blk) (H H':Nat->Value) (r:Nat->Nat):Prop where
 lt:∀ p,p<m.length->r p<M.length
 h:∀ p,p<m.length->H' (r p)=H p
 b:∀ p b,m[p]? = some b->M[r p]? = some (b.ren r)
theorem Tie.arr {m M:List Blk} {H H':Nat->Value} {r:Nat->Nat} (t:Tie m M H H' r) {p e sz k:Nat} {cs:List Lf} (hp:p<m.length):M[r p]? = some (.arr e sz k cs)↔m[p]? = some (.arr e sz k cs):=by
 have hb:=t.b p _ (zB hp)
 constructor
 ·intro h
  rw[h] at hb
  rw[zB hp,Blk.ren_arr (zD hb).symm]
 ·intro h
  rw[zB hp] at h
  rw[hb,zD h]
  rfl
theorem Tie.up0 {w:World} {S:Cq} {m M:List Blk} {H H':Nat->Value} {r:Nat->Nat} (t:Tie m M H H' r) {l:Lf} {v:Value} (h:F9 w S m H l v):F9 w S M H' (l.ren0 r) v:=by
 cases l with
 | lp p o=>exact⟨t.lt p h.1,by rw[t.h p h.1];exact h.2⟩
 | mp k p=>exact⟨t.lt p h.1,by rw[t.h p h.1];exact h.2⟩
 | ls p n=>exact⟨t.lt p h.1,⟨h.2.1.1,by rw[t.h p h.1];exact h.2.1.2⟩,λe sz k cs hm=>by rw[t.h p h.1];exact h.2.2 e sz k cs ((t.arr h.1).1 hm)⟩
 | ap p n o=>exact⟨t.lt p h.1,⟨h.2.1.1,by rw[t.h p h.1];exact h.2.1.2⟩,λe sz k cs hm=>by rw[t.h p h.1];exact h.2.2 e sz k cs ((t.arr h.1).1 hm)⟩
 | _=>exact h
theorem Tie.up {w:World} {S:Cq} {m M:List Blk} {H H':Nat->Value} {r:Nat->Nat} (t:Tie m M H H' r) {l:Lf} {v:Value} (h:Ct w S m H l v):Ct w S M H' (l.ren r) v:=by
 have map:∀ {ls:List Lf} {vs:List Value},LsR (F9 w S m H) ls vs->LsR (F9 w S M H') (ls.map (Lf.ren0 r)) vs:=λ{ls vs} hl =>
  ⟨by simpa using hl.1,λj l v h1 h2=>by
   rw[zP] at h1
   cases hj:ls[j]? with
   | none=>rw[hj] at h1;cases h1
   | some l0=>rw[hj] at h1;cases h1;exact t.up0 (hl.2 j l0 v hj h2)⟩
 cases l with
 | fn f a b =>
  obtain⟨va,vb,hv,h1,h2⟩:=h
  exact⟨va,vb,hv,map h1,map h2⟩
 | lp p o=>exact t.up0 (w:=w) (S:=S) (l:=.lp p o) h
 | mp k p=>exact t.up0 (w:=w) (S:=S) (l:=.mp k p) h
 | ls p n=>exact t.up0 (w:=w) (S:=S) (l:=.ls p n) h
 | ap p n o=>exact t.up0 (w:=w) (S:=S) (l:=.ap p n o) h
 | i k n=>exact h
 | b x=>exact h
 | s x=>exact h
 | raw v=>exact h
 | sl n cs=>exact h
 | cp cs=>exact h
 | nix=>exact h
 | jk e sz n=>exact h
theorem Tie.down0 {w:World} {S:Cq} {m M:List Blk} {H H':Nat->Value} {r:Nat->Nat} (t:Tie m M H H' r) {l:Lf} {v:Value} (hi:l.inb0 m.length=true) (h:F9 w S M H' (l.ren0 r) v):F9 w S m H l v:=by
 cases l with
 | lp p o =>
  have hp:p<m.length:=by simpa [Lf.inb0] using hi
  exact⟨hp,by rw[<- t.h p hp];exact h.2⟩
 | mp k p =>
  have hp:p<m.length:=by simpa [Lf.inb0] using hi
  exact⟨hp,by rw[<- t.h p hp];exact h.2⟩
 | ls p n =>
  have hp:p<m.length:=by simpa [Lf.inb0] using hi
  exact⟨hp,⟨h.2.1.1,by rw[<- t.h p hp];exact h.2.1.2⟩,λe sz k cs hm=>by rw[<- t.h p hp];exact h.2.2 e sz k cs ((t.arr hp).2 hm)⟩
 | ap p n o =>
  have hp:p<m.length:=by simpa [Lf.inb0] using hi
  exact⟨hp,⟨h.2.1.1,by rw[<- t.h p hp];exact h.2.1.2⟩,λe sz k cs hm=>by rw[<- t.h p hp];exact h.2.2 e sz k cs ((t.arr hp).2 hm)⟩
 | _=>exact h
theorem Tie.down {w:World} {S:Cq} {m M:List Blk} {H H':Nat->Value} {r:Nat->Nat} (t:Tie m M H H' r) {l:Lf} {v:Value} (hi:l.inbB m.length=true) (h:Ct w S M H' (l.ren r) v):Ct w S m H l v:=by
 have map:∀ {ls:List Lf} {vs:List Value},ls.all (Lf.inb0 m.length)=true->LsR (F9 w S M H') (ls.map (Lf.ren0 r)) vs->LsR (F9 w S m H) ls vs:=λ{ls vs} ha hl =>
  ⟨by simpa using hl.1,λj l v h1 h2=>t.down0 (zI.1 ha l (zJ h1)) (hl.2 j _ v (by rw[zP,h1];rfl) h2)⟩
 cases l with
 | fn f a b =>
  obtain⟨va,vb,hv,h1,h2⟩:=h
  simp only[Lf.inbB,yD] at hi
  exact⟨va,vb,hv,map hi.1 h1,map hi.2 h2⟩
 | lp p o=>exact t.down0 (w:=w) (S:=S) (l:=.lp p o) hi h
 | mp k p=>exact t.down0 (w:=w) (S:=S) (l:=.mp k p) hi h
 | ls p n=>exact t.down0 (w:=w) (S:=S) (l:=.ls p n) hi h
 | ap p n o=>exact t.down0 (w:=w) (S:=S) (l:=.ap p n o) hi h
 | i k n=>exact h
 | b x=>exact h
 | s x=>exact h
 | raw v=>exact h
 | sl n cs=>exact h
 | cp cs=>exact h
 | nix=>exact h
 | jk e sz n=>exact h
theorem Anq {R R':Lf->Value->Prop} {r:Nat->Nat} {ls:List Lf} {vs:List Value} (hr:∀ l∈ls,∀ v,R l v->R' (l.ren r) v) (h:LsR R ls vs):LsR R' (ls.map (Lf.ren r)) vs :=
 ⟨by simpa using h.1,λj l v h1 h2=>by
  rw[zP] at h1
  cases hj:ls[j]? with
  | none=>rw[hj] at h1;cases h1
  | some l0=>rw[hj] at h1;cases h1;exact hr l0 (zJ hj) v (h.2 j l0 v hj h2)⟩
theorem Agz {R R':Lf->Value->Prop} {r:Nat->Nat} {ls:List Lf} {vs:List Value} (hr:∀ l∈ls,∀ v,R' (l.ren r) v->R l v) (h:LsR R' (ls.map (Lf.ren r)) vs):LsR R ls vs :=
 ⟨by simpa using h.1,λj l v h1 h2=>hr l (zJ h1) v (h.2 j _ v (by rw[zP,h1];rfl) h2)⟩
theorem Tie.svUp {w:World} {S:Cq} {m M:List Blk} {H H':Nat->Value} {r:Nat->Nat} (t:Tie m M H H' r) {x:SV} {v:Value} (h:SVR (Ct w S m H) x v):SVR (Ct w S M H') (x.ren r) v:=by
 cases x with
 | one l=>exact t.up h
 | agg ls =>
  obtain⟨cs,hv,hl⟩:=h
  exact⟨cs,hv,Anq (λl _ v h=>t.up h) hl⟩
theorem Tie.svDown {w:World} {S:Cq} {m M:List Blk} {H H':Nat->Value} {r:Nat->Nat} (t:Tie m M H H' r) {x:SV} {v:Value} (hi:x.inbB m.length=true) (h:SVR (Ct w S M H') (x.ren r) v):SVR (Ct w S m H) x v:=by
 cases x with
 | one l=>exact t.down hi h
 | agg ls =>
  obtain⟨cs,hv,hl⟩:=h
  exact⟨cs,hv,Agz (λl hl v h=>t.down (zI.1 hi l hl) h) hl⟩
theorem Tie.avUp {w:World} {S:Cq} {m M:List Blk} {H H':Nat->Value} {r:Nat->Nat} (t:Tie m M H H' r) {x:AV} {v:Value} (h:AVR (Ct w S m H) x v):AVR (Ct w S M H') (x.ren r) v:=by
 cases x with
 | s x=>exact t.svUp h
 | top=>trivial
 | tup xs =>
  obtain⟨vs,hv,hl,hr⟩:=h
  refine⟨vs,hv,by simpa using hl,λj x u h1 h2=>?_⟩
  rw[zP] at h1
  cases hj:xs[j]? with
  | none=>rw[hj] at h1;cases h1
  | some x0=>rw[hj] at h1;cases h1;exact t.svUp (hr j x0 u hj h2)
theorem Tie.svsDown {w:World} {S:Cq} {m M:List Blk} {H H':Nat->Value} {r:Nat->Nat} (t:Tie m M H H' r) {xs:List SV} {vs:List Value} (hi:xs.all (SV.inbB m.length)=true) (h:Zd (Ct w S M H') (xs.map (SV.ren r)) vs):Zd (Ct w S m H) xs vs :=
 ⟨by simpa using h.1,λj x v h1 h2=>t.svDown (zI.1 hi x (zJ h1)) (h.2 j _ v (by rw[zP,h1];rfl) h2)⟩
theorem Tie.blkUp {base:Nat} {w:World} {S:Cq} {m M:List Blk} {H H':Nat->Value} {r:Nat->Nat} (t:Tie m M H H' r) {b:Blk} {v:Value} (h:Aqe base w S m H b v):Aqe base w S M H' (b.ren r) v:=by
 cases b with
 | dead=>trivial
 | hole=>exact h
 | obj g mk cs=>exact h
 | tab mk cs=>exact h
 | arr e sz k cs=>exact h
 | box cs =>
  obtain⟨g,e,cur,h1,h2,h3⟩:=h
  exact⟨g,e,cur,h1,h2,Anq (λl _ v h=>t.up h) h3⟩
theorem Tie.blkDown {base:Nat} {w:World} {S:Cq} {m M:List Blk} {H H':Nat->Value} {r:Nat->Nat} (t:Tie m M H H' r) {b:Blk} {v:Value} (hi:b.inbB m.length=true) (h:Aqe base w S M H' (b.ren r) v):Aqe base w S m H b v:=by
 cases b with
 | dead=>trivial
 | hole=>exact h
 | obj g mk cs=>exact h
 | tab mk cs=>exact h
 | arr e sz k cs=>exact h
 | box cs =>
  obtain⟨g,e,cur,h1,h2,h3⟩:=h
  exact⟨g,e,cur,h1,h2,Agz (λl hl v h=>t.down (zI.1 hi l hl) h) h3⟩
structure Mem (w:World) (S:Cq) (m:List Blk) (H:Nat->Value):Prop where
 bl:∀ (p:Nat) (b:Blk),m[p]? = some b->Aqe 0 w S m H b (H p)
 hp:∀ (p:Nat) (b:Blk) (g:Nat),m[p]? = some b->b.own (H p)=some g->g<w.heap.size
 inj:∀ (p q:Nat) (b b':Blk) (g:Nat),m[p]? = some b->m[q]? = some b'->b.own (H p)=some g->b'.own (H q)=some g->p=q
 sb:∀ (p:Nat) (b:Blk) (g i:Nat),m[p]? = some b->b.own (H p)=some g->S g i->i<b.stab
theorem Rel.mem {c:Ctx} {st:AS} {a:Act} {w:World} {S:Cq} {H:Nat->Value} (r:Rel c st a w S H):Mem w S st.m H:=⟨r.bl,λp b g h k=>(r.lo p b g h k).2,r.inj,r.sb⟩
theorem Mem.sel {w:World} {S:Cq} {m M:List Blk} {H H':Nat->Value} {r:Nat->Nat} (t:Tie m M H H' r) (hi:∀ b∈m,b.inbB m.length=true) (hr:∀ p q,p<m.length->q<m.length->r p=r q->p=q) (k:Mem w S M H'):Mem w S m H:=by
 have hlt:∀ {p b},m[p]? = some b->p<m.length:=λh=>(zC.1 h).1
 refine⟨λp b h=>?_,λp b g h ho=>?_,λp q b b' g h h' ho ho'=>?_,λp b g i h ho hs=>?_⟩
 ·have:=k.bl _ _ (t.b p b h)
  rw[t.h p (hlt h)] at this
  exact t.blkDown (hi b (zJ h)) this
 ·exact k.hp _ _ g (t.b p b h) (by rw[t.h p (hlt h),Blk.ren_own];exact ho)
 ·exact hr p q (hlt h) (hlt h') (k.inj _ _ _ _ g (t.b p b h) (t.b q b' h') (by rw[t.h p (hlt h),Blk.ren_own];exact ho) (by rw[t.h q (hlt h'),Blk.ren_own];exact ho'))
 ·have:=k.sb _ _ g i (t.b p b h) (by rw[t.h p (hlt h),Blk.ren_own];exact ho) hs
  rwa [Blk.ren_stab] at this
def Agr (m:List Blk) (H:Nat->Value) (g:Nat):Prop:=∃ (p:Nat) (b:Blk),m[p]? = some b/\b.own (H p)=some g
structure A0t (m:List Blk) (H:Nat->Value) (m':List Blk) (H':Nat->Value):Prop where
 len:m.length<=m'.length
 h:∀ p g,p<m.length->H p=.pointer (some ⟨g,0,none⟩)->H' p=H p
 r:∀ p e sz k cs,p<m.length->m'[p]? = some (.arr e sz k cs)->∃ k' cs',m[p]? = some (.arr e sz k' cs')/\((cs'.length=cs.length/\H' p=H p)\/cs'.length<cs.length)
 u:∀ p,p<m.length->H p≠undef->H' p≠undef
def Dw (P:Program) (f:FuncId) (m:List Blk) (args:List SV) (R:AV->List Blk->Prop):Prop :=
 ∀ (w:World) (S:Cq) (H:Nat->Value) (vs:Array Value),InH w S->Mem w S m H->Zd (Ct w S m H) args vs.toList ->
  Calls P f vs w λe w'=>∃ v x m' S' H',e=.returned v/\R x m'/\Xi (Agr m H) w S w' S'/\InH w' S'/\Mem w' S' m' H' /\
   (∀ (p:Nat) (b:Blk) (g:Nat),m'[p]? = some b->b.own (H' p)=some g->w.heap.size<=g\/Agr m H g)/\A0t m H m' H'/\AVR (Ct w' S' m' H') x v
theorem Dw.mono {P:Program} {f:FuncId} {m:List Blk} {args:List SV} {R R':AV->List Blk->Prop} (h:Dw P f m args R) (hr:∀ x m',R x m'->R' x m'):Dw P f m args R' :=
 λw S H vs hS hm hv=>(h w S H vs hS hm hv).mono λ_ _ ⟨v,x,m',S',H',h1,h2,h3⟩=>⟨v,x,m',S',H',h1,hr x m' h2,h3⟩
def at_ (ps:List Nat) (j:Nat):Nat:=ps.getD j 0
def A3w (P:Program) (fn:Func) (k:Nat) (R:AV->List Blk->Prop) (e:Exit) (st:AS):Prop :=
 (e=.normal\/e=.ret)/\∃ xs ps ys m',Ac8 P st fn.results.toList xs/\xs=ys.map (SV.ren (at_ ps))/\ps.map (λp=>st.m[p]?)=m'.map (λb=>some (b.ren (at_ ps))) /\
  (ps.Nodup/\ps.take k=List.range k)/\ys.all (SV.inbB m'.length)=true/\m'.all (Blk.inbB m'.length)=true/\R (Afo ys) m'
theorem Ao0 {α β γ:Type} {f:α->γ} {g:β->γ} {xs:List α} {ys:List β} (h:xs.map f=ys.map g):xs.length=ys.length/\∀ (j:Nat) (y:β),ys[j]? = some y->∃ x,xs[j]? = some x/\f x=g y:=by
 have hl:xs.length=ys.length:=by simpa using congrArg List.length h
 refine⟨hl,λj y hy=>?_⟩
 have hj:j<xs.length:=by rw[hl];exact(zC.1 hy).1
 refine⟨xs[j],zB hj,?_⟩
 have:=congrArg (λl=>l[j]?) h
 simp only[zP,hy,zB hj,xC,zW] at this
 exact this
theorem Acd {ps:List Nat} (h:ps.Nodup) {i j x:Nat} (hi:ps[i]? = some x) (hj:ps[j]? = some x):i=j:=by
 have hi':=(zC.1 hi).1
 have hj':=(zC.1 hj).1
 have e1:=(zC.1 hi).2
 have e2:=(zC.1 hj).2
 exact(List.getElem_inj h).1 (e1.trans e2.symm)
theorem Ao3 {R:Lf->Value->Prop} {us:List Value} {ys:List SV} (h1:Zd R ys us):AVR R (Afo ys) (if h:us.toArray.size=1 then us.toArray[0] else .tuple us.toArray):=by
 match us,ys,h1 with
 | [u],[y],h1=>exact h1.2 0 y u rfl rfl
 | [u],[],h1=>have:=h1.1;simp at this
 | [u],_::_::_,h1=>have:=h1.1;simp at this
 | [],[],h1=>exact⟨#[],rfl,rfl,λj x u hx=>by simp at hx⟩
 | [],_::_,h1=>have:=h1.1;simp at this
 | _::_::_,[],h1=>have:=h1.1;simp at this
 | _::_::_,[y],h1=>have:=h1.1;simp at this
 | u1::u2::us,y1::y2::ys,h1=>exact⟨(u1::u2::us).toArray,by simp,by simpa using h1.1,λj x u hx hu=>h1.2 j x u hx (by simpa using hu)⟩
theorem Ag4 {P:Program} {c:Ctx} {st:AS} {a:Act} {w:World} {S:Cq} {H:Nat->Value} (r:Rel c st a w S H) {fn:Func} {xs:List SV} (h:Ac8 P st fn.results.toList xs) :
  ∃ us:List Value,Zd (Ct w S st.m H) xs us/\(results fn a.tmps).run P w=.ok (if h:us.toArray.size=1 then us.toArray[0] else .tuple us.toArray) w:=by
 obtain⟨us,hl,hs,hr⟩:=Aco r h
 have hm:(fn.results.mapM (Agq a.tmps)).run P w=.ok us.toArray w:=by
  have:=Sj (P:=P) (Agq a.tmps) w fn.results.toList us hl hr
  rw[jL]
  simp only[Sem.run_map,this,Result.andThen_ok]
 refine⟨us,hs,?_⟩
 rw[Aaa,Sem.run_bind,hm]
 rfl
theorem Dn {P:Program} {f:FuncId} {fn:Func} {body:Code} {m:List Blk} {args:List SV} {R:AV->List Blk->Prop} (hf:P.funcs[f]? = some fn) (hb:fn.body=some body) {nt:Nat} (hnt:fn.ntmps=nt) (hn:args.length<=nt)
  (h:∀ w0 S0 X H0,AWC P ⟨w0,S0,nt,X,m,H0⟩ body (A3w P fn m.length R) ⟨Aoo args,m⟩):Dw P f m args R:=by
 subst hnt
 intro w S H vs hS hM hv
 refine calls_of_wp hf hb ?_
 have hlen:vs.size=args.length:=by have:=hv.1;simp at this;omega
 have hget:∀ i,(vs++Array.replicate (fn.ntmps-vs.size) undef).getD i undef=vs.getD i undef:=by
  intro i
  simp only[zF,kR]
  split
  ·rfl
  ·rename_i hi
   rw[xZ]
   have:vs[i]? = none:=xS (by omega)
   rw[this]
   split <;> rfl
 have r0:Rel ⟨w,S,fn.ntmps,Agr m H,m,H⟩ ⟨Aoo args,m⟩ { tmps:=vs++Array.replicate (fn.ntmps-vs.size) undef,defers:=[] } w S H:=by
  refine⟨by simp;omega,rfl,λi=>?_,hM.bl,λp b g h ho=>⟨.inr ⟨p,b,h,ho⟩,hM.hp p b g h ho⟩,hM.inj,hM.sb,hS,Xi.refl _ w S,zN _,λp g _ _=>rfl,λp e sz k cs _ h=>⟨k,cs,h,.inl ⟨rfl,rfl⟩⟩,λp _ h=>h⟩
  rw[hget]
  show AVR _ (match args[i]? with|some x=>.s x|none=>.tup []) _
  cases ha:args[i]? with
  | none =>
   have:vs[i]? = none:=xS (by rw[hlen];exact xR.1 ha)
   simp only[zF,this,jD]
   exact Ky
  | some x =>
   have hi:i<args.length:=(zC.1 ha).1
   have hi':i<vs.size:=by omega
   have:vs[i]? = some vs[i]:=zS hi'
   simp only[zF,this,yK]
   exact hv.2 i x _ ha (by simp)
 refine wp_mono (h w S _ _ _ _ _ _ r0) ?_
 rintro e a w1 ⟨st,S1,H1,r,he,xs,ps,ys,m',hx,hxy,hps,⟨hnd,htk⟩,hiy,him,hR⟩
 obtain⟨us,hus,hrun⟩:=Ag4 r hx
 obtain⟨hpl,hpg⟩:=Ao0 hps
 have hat:∀ {j p:Nat},ps[j]? = some p->at_ ps j=p:=λ{j p} h=>by simp [at_,List.getD,h]
 have tie:Tie m' st.m (λp=>H1 (at_ ps p)) H1 (at_ ps):=by
  refine⟨λp hp=>?_,λp _=>rfl,λp b hb=>?_⟩
  ·obtain⟨q,hq,hb⟩:=hpg p _ (zB hp)
   rw[hat hq]
   exact(zC.1 hb).1
  ·obtain⟨q,hq,hb'⟩:=hpg p b hb
   rw[hat hq]
   exact hb'
 have hinj:∀ p q,p<m'.length->q<m'.length->at_ ps p=at_ ps q->p=q:=by
  intro p q hp hq e
  have h1:ps[p]? = some (at_ ps p):=by rw[zB (by omega)];simp [at_,List.getD,zB (show p<ps.length by omega)]
  have h2:ps[q]? = some (at_ ps p):=by rw[e,zB (by omega)];simp [at_,List.getD,zB (show q<ps.length by omega)]
  exact Acd hnd h1 h2
 have hmem:=Mem.sel tie (zI.1 him) hinj r.mem
 have hkk:∀ p,p<m.length->at_ ps p=p/\p<m'.length:=by
  intro p hp
  have h1:(ps.take m.length)[p]? = some p:=by rw[htk];simp [hp]
  rw[yL,if_pos hp] at h1
  exact⟨hat h1,by rw[<- hpl];exact(zC.1 h1).1⟩
 have hml:m.length<=m'.length:=by
  rcases kY m.length with h0|h0
  ·omega
  ·have:=(hkk (m.length-1) (by omega)).2;omega
 have hkept:A0t m H m' (λp=>H1 (at_ ps p)):=by
  refine⟨hml,λp g hp hH=>?_,λp e sz k cs hp hm=>?_,λp hp hne=>by show H1 (at_ ps p)≠undef;rw[(hkk p hp).1];exact r.ku p hp hne⟩
  ·show H1 (at_ ps p)=H p
   rw[(hkk p hp).1]
   exact r.kh p g hp hH
  ·show ∃ k' cs',m[p]? = some (.arr e sz k' cs')/\((cs'.length=cs.length/\H1 (at_ ps p)=H p)\/cs'.length<cs.length)
   rw[(hkk p hp).1]
   have hm2:=tie.b p _ hm
   rw[(hkk p hp).1] at hm2
   exact r.kr p e sz k cs hp hm2
 have hav:AVR (Ct w1 S1 m' (λp=>H1 (at_ ps p))) (Afo ys) (if h:us.toArray.size=1 then us.toArray[0] else .tuple us.toArray):=by
  subst hxy
  exact Ao3 (tie.svsDown hiy hus)
 have hown:∀ (p:Nat) (b:Blk) (g:Nat),m'[p]? = some b->b.own (H1 (at_ ps p))=some g->w.heap.size<=g\/Agr m H g:=λp b g hb ho=>(r.lo _ _ g (tie.b p b hb) (by rw[Blk.ren_own];exact ho)).1
 rcases he with rfl|rfl
 ·exact⟨r.df,_,hrun,_,_,_,_,_,rfl,hR,r.ex,r.sl,hmem,hown,hkept,hav⟩
 ·exact⟨r.df,_,hrun,_,_,_,_,_,rfl,hR,r.ex,r.sl,hmem,hown,hkept,hav⟩
def rho (ps:List Nat) (n j:Nat):Nat:=match ps[j]? with|some p=>p|none=>n+(j-ps.length)
def Sb (M:List Blk):List Nat->List Blk->List Blk
  | p::ps,b::bs=>Sb (M.set p b) ps bs
  | [],bs=>M++bs
  | _::_,[]=>M
theorem Aeg:∀ {ps:List Nat} {bs M:List Blk},ps.Nodup->(∀ p∈ps,p<M.length)->ps.length<=bs.length ->
    (∀ (j p:Nat),ps[j]? = some p->(Sb M ps bs)[p]? = bs[j]?)/\(∀ q,q<M.length->q∉ps->(Sb M ps bs)[q]? = M[q]?)/\(∀ j,(Sb M ps bs)[M.length+j]? = bs[ps.length+j]?)/\(Sb M ps bs).length=M.length+(bs.length-ps.length)
  | [],bs,M,_,_,_=>by
    refine⟨λj p h=>by simp at h,λq hq _=>by simp [Sb,zL hq],λj=>by rw[Sb,yA (by omega)];simp,by simp [Sb]⟩
  | p::ps,[],M,_,_,h=>by simp at h
  | p::ps,b::bs,M,hnd,hlt,hl=>by
    have hnd':=xW.1 hnd
    obtain⟨h1,h2,h3,h4⟩:=Aeg (ps:=ps) (bs:=bs) (M:=M.set p b) hnd'.2 (λq hq=>by simpa using hlt q (yT _ hq)) (by simpa using hl)
    have hp:p<M.length:=hlt p (yV ..)
    refine⟨λj q hj=>?_,λq hq hn=>?_,λj=>?_,?_⟩
    · cases j with
      | zero =>
        simp only[yP,zW] at hj
        subst hj
        show(Sb (M.set p b) ps bs)[p]? = _
        rw[h2 p (by simpa using hp) hnd'.1]
        simp [hp]
      | succ j=>exact h1 j q (by simpa using hj)
    · simp only[yM,not_or] at hn
      show(Sb (M.set p b) ps bs)[q]? = _
      rw[h2 q (by simpa using hq) hn.2,zZ (λe=>hn.1 e.symm)]
    · have:=h3 j
      simp only[xI] at this
      show(Sb (M.set p b) ps bs)[M.length+j]? = _
      rw[this]
      simp only[yW]
      rw[show ps.length+1+j=(ps.length+j)+1 by omega,kV]
    · show(Sb (M.set p b) ps bs).length=_
      rw[h4]
      simp
inductive Cal (st:AS):Operand->FuncId->List Lf->List Lf->Prop
  | func (f:FuncId):Cal st (.func f) f [] []
  | fn (x:Operand) (f:FuncId) (la lb:List Lf) (h:C6 st x=.s (.one (.fn f la lb))):Cal st x f la lb
  | raw (x:Operand) (f:FuncId) (h:C6 st x=.s (.one (.raw (.func (.func f) #[] #[])))):Cal st x f [] []
theorem Cal.val {c:Ctx} {st:AS} {a:Act} {w:World} {S:Cq} {H:Nat->Value} (r:Rel c st a w S H) {x:Operand} {f:FuncId} {la lb:List Lf} (h:Cal st x f la lb) :
    ∃ va vb,a.eval x=.func (.func f) va vb/\LsR (F9 w S st.m H) la va.toList/\LsR (F9 w S st.m H) lb vb.toList:=by
  cases h with
  | func=>exact⟨#[],#[],rfl,⟨rfl,λj l v h=>by simp at h⟩,⟨rfl,λj l v h=>by simp at h⟩⟩
  | fn _ _ _ _ h =>
    have:=B1 r x
    rw[h] at this
    exact this
  | raw _ _ h =>
    have:=B1 r x
    rw[h] at this
    exact⟨#[],#[],Lu this,⟨rfl,λj l v h=>by simp at h⟩,⟨rfl,λj l v h=>by simp at h⟩⟩
theorem F9.up {w:World} {S:Cq} {m:List Blk} {H:Nat->Value} {l:Lf} {v:Value} (h:F9 w S m H l v):Ct w S m H l v:=by
  cases l with
  | fn f a b=>exact Ct.of_rep h
  | lp p o=>exact h
  | mp k p=>exact h
  | ls p n=>exact h
  | ap p n o=>exact h
  | i k n=>exact h
  | b x=>exact h
  | s x=>exact h
  | raw v=>exact h
  | sl n cs=>exact h
  | cp cs=>exact h
  | nix=>exact h
  | jk e sz n=>exact h
theorem Xi.trans2 {X Y:Nat->Prop} {w w' w'':World} {S S' S'':Cq} (h:Xi X w S w' S') (k:Xi Y w' S' w'' S'') (hY:∀ b,b<w.heap.size->¬ X b->¬ Y b):Xi X w S w'' S'' :=
  ⟨k.os.trans h.os,k.tape.trans h.tape,k.output.trans h.output,yO h.size k.size,
   λb hb hx=>(k.blk b (zU hb h.size) (hY b hb hx)).trans (h.blk b hb hx),λb i hs=>k.sub b i (h.sub b i hs),
   λb i hs=>(k.stab b i (h.sub b i hs)).trans (h.stab b i hs),
   λb i hb hx hs=>h.back b i hb hx (k.back b i (zU hb h.size) (hY b hb hx) hs)⟩
open Classical in
noncomputable def Aq2 (ps:List Nat) (n:Nat) (Hc H':Nat->Value) (q:Nat):Value :=
  if h:∃ j:Nat,ps[j]? = some q then H' (Classical.choose h) else if q<n then Hc q else H' (ps.length+(q-n))
theorem Alq {P:Program} {c:Ctx} {t:Nat->AV} {M:List Blk} {a:Act} {w:World} {S:Cq} {Hc:Nat->Value} (r:Rel c ⟨t,M⟩ a w S Hc) {f:FuncId} {m:List Blk} {ys:List SV} {R:AV->List Blk->Prop} (hc:Dw P f m ys R) {vs:Array Value} {ps:List Nat}
    (hxs:Zd (Ct w S M Hc) (ys.map (SV.ren (rho ps M.length))) vs.toList) (hps:ps.map (λp=>M[p]?)=m.map (λb=>some (b.ren (rho ps M.length)))) (hnd:ps.Nodup) (hiy:ys.all (SV.inbB m.length)=true) (him:m.all (Blk.inbB m.length)=true) :
    Calls P f vs w λe w'=>∃ v x m' S' H',e=.returned v/\R x m'/\Rel c ⟨t,Sb M ps (m'.map (Blk.ren (rho ps M.length)))⟩ a w' S' H'/\AVR (Ct w' S' (Sb M ps (m'.map (Blk.ren (rho ps M.length)))) H') (x.ren (rho ps M.length)) v:=by
  obtain⟨hpl,hpg⟩:=Ao0 hps
  generalize hn:M.length=n at *
  have hr:∀ {j p:Nat},ps[j]? = some p->rho ps n j=p:=λ{j p} h=>by simp [rho,h]
  have hr2:∀ {j:Nat},ps.length<=j->rho ps n j=n+(j-ps.length):=λ{j} h=>by simp [rho,yG h]
  have hplt:∀ {j p:Nat},ps[j]? = some p->p<n:=λ{j p} h=>by
    have hj:j<m.length:=by rw[<- hpl];exact(zC.1 h).1
    obtain⟨q,hq,hb⟩:=hpg j _ (zB hj)
    rw[h] at hq;cases hq
    rw[<- hn]
    exact(zC.1 hb).1
  have tie:Tie m M (λj=>Hc (rho ps n j)) Hc (rho ps n):=by
    refine⟨λp hp=>?_,λp _=>rfl,λp b hb=>?_⟩
    · obtain⟨q,hq,hb⟩:=hpg p _ (zB hp)
      rw[hr hq,hn];exact hplt hq
    · obtain⟨q,hq,hb'⟩:=hpg p b hb
      rw[hr hq]
      exact hb'
  have hget:∀ {j},j<ps.length->ps[j]? = some (rho ps n j):=λ{j} h=>by
    have:=zB h
    rw[this,hr this]
  have hinj:∀ p q,rho ps n p=rho ps n q->p=q:=by
    intro p q e
    rcases zO p ps.length with hp|hp <;> rcases zO q ps.length with hq|hq
    · exact Acd hnd (hget hp) (by rw[e];exact hget hq)
    · have:=hplt (hget hp);rw[e,hr2 hq] at this;omega
    · have:=hplt (hget hq);rw[<- e,hr2 hp] at this;omega
    · rw[hr2 hp,hr2 hq] at e;omega
  have mem:=Mem.sel tie (zI.1 him) (λp q _ _=>hinj p q) r.mem
  refine(hc w S _ vs r.sl mem (tie.svsDown hiy hxs)).mono ?_
  rintro e w' ⟨v,x,m',S',H',he,hR,ext,hin,mem',hown',kept,hav⟩
  refine⟨v,x,m',S',Aq2 ps n Hc H',he,hR,?_⟩
  have hpl':ps.length<=(m'.map (Blk.ren (rho ps n))).length:=by simp;rw[hpl];exact kept.len
  obtain⟨g1,g2,g3,g4⟩:=Aeg (ps:=ps) (bs:=m'.map (Blk.ren (rho ps n))) (M:=M) hnd (λp hp=>by
    obtain⟨j,hj,hjp⟩:=yS hp
    rw[hn];exact hplt (by rw[zB hj,hjp])) hpl'
  rw[hn] at g2 g3 g4
  generalize hM':Sb M ps (m'.map (Blk.ren (rho ps n)))=M' at *
  have hmp:ps.length<=m'.length:=by simpa using hpl'
  simp only[z2] at g4
  have hH1:∀ j,Aq2 ps n Hc H' (rho ps n j)=H' j:=by
    intro j
    unfold Aq2
    rcases zO j ps.length with hj|hj
    · have hex:∃ j':Nat,ps[j']? = some (rho ps n j):=⟨j,hget hj⟩
      rw[dif_pos hex,Acd hnd (Classical.choose_spec hex) (hget hj)]
    · rw[dif_neg,if_neg (by rw[hr2 hj];omega),hr2 hj]
      · congr 1;omega
      · rintro⟨j',h⟩
        have:=hplt h
        rw[hr2 hj] at this;omega
  have hH2:∀ q,q<n->(∀ j:Nat,ps[j]? ≠ some q)->Aq2 ps n Hc H' q=Hc q:=by
    intro q hq hne
    unfold Aq2
    rw[dif_neg (λ⟨j,h⟩=>hne j h),if_pos hq]
  have tie':Tie m' M' H' (Aq2 ps n Hc H') (rho ps n):=by
    have hb:∀ p b,m'[p]? = some b->M'[rho ps n p]? = some (b.ren (rho ps n)):=by
      intro p b hb
      rcases zO p ps.length with hp|hp
      · rw[g1 p _ (hget hp),zP,hb];rfl
      · rw[hr2 hp,g3,show ps.length+(p-ps.length)=p by omega,zP,hb];rfl
    exact⟨λp hp=>(zC.1 (hb p _ (zB hp))).1,λp _=>hH1 p,hb⟩
  have cls:∀ (q:Nat) (b:Blk),M'[q]? = some b->(∃ j b0,m'[j]? = some b0/\q=rho ps n j/\b=b0.ren (rho ps n))\/(q<n/\(∀ j:Nat,ps[j]? ≠ some q)/\M[q]? = some b):=by
    intro q b hb
    have hq:=(zC.1 hb).1
    rw[g4] at hq
    have old:∀ j,j<m'.length->q=rho ps n j->∃ j b0,m'[j]? = some b0/\q=rho ps n j/\b=b0.ren (rho ps n):=by
      intro j hj e
      refine⟨j,m'[j],zB hj,e,?_⟩
      have:=tie'.b j _ (zB hj)
      rw[<- e,hb] at this
      exact zD this
    by_cases hex:∃ j:Nat,ps[j]? = some q
    · obtain⟨j,hj⟩:=hex
      have hjl:=(zC.1 hj).1
      exact .inl (old j (by omega) (hr hj).symm)
    · have hne:∀ j:Nat,ps[j]? ≠ some q:=λj h=>hex ⟨j,h⟩
      rcases zO q n with h|h
      · refine .inr ⟨h,hne,?_⟩
        rw[<- g2 q h (λhm=>by obtain⟨j,hj,hjp⟩:=yS hm;exact hne j (by rw[zB hj,hjp]))]
        exact hb
      · exact .inl (old (ps.length+(q-n)) (by omega) (by rw[hr2 (by omega)];omega))
  have hnX:∀ (q:Nat) (b:Blk) (g:Nat),(∀ j:Nat,ps[j]? ≠ some q)->M[q]? = some b->b.own (Hc q)=some g->¬ Agr m (λj=>Hc (rho ps n j)) g:=by
    rintro q b g hne hb ho ⟨j,b1,h1,h2⟩
    have e:=r.inj q (rho ps n j) b _ g hb (tie.b j b1 h1) ho (by rw[Blk.ren_own];exact h2)
    have hj:j<ps.length:=by rw[hpl];exact(zC.1 h1).1
    exact hne j (by rw[e];exact hget hj)
  have hX:∀ g,Agr m (λj=>Hc (rho ps n j)) g->c.w0.heap.size<=g\/c.X g:=by
    rintro g ⟨j,b1,h1,h2⟩
    exact(r.lo _ _ g (tie.b j b1 h1) (by rw[Blk.ren_own];exact h2)).1
  have hkp:∀ b i,S b i->S' b i/\w'.cell? ⟨b,i,none⟩=w.cell? ⟨b,i,none⟩:=λb i hs=>⟨ext.sub b i hs,ext.stab b i hs⟩
  have hHp:∀ p g,p<n->Hc p=.pointer (some ⟨g,0,none⟩)->Aq2 ps n Hc H' p=Hc p:=by
    intro p g hp hg
    by_cases hex:∃ j:Nat,ps[j]? = some p
    · obtain⟨j,hj⟩:=hex
      have hjm:j<m.length:=by rw[<- hpl];exact(zC.1 hj).1
      have h1:=kept.h j g hjm (by show Hc (rho ps n j)=_;rw[hr hj];exact hg)
      have h2:=hH1 j
      rw[hr hj] at h2
      rw[h2,h1]
      show Hc (rho ps n j)=_
      rw[hr hj]
    · exact hH2 p hp (λj h=>hex ⟨j,h⟩)
  have harr:∀ p e sz k cs,p<n->M'[p]? = some (.arr e sz k cs)->∃ k' cs',M[p]? = some (.arr e sz k' cs')/\((cs'.length=cs.length/\Aq2 ps n Hc H' p=Hc p)\/cs'.length<cs.length):=by
    intro p e sz k cs hp hm
    by_cases hex:∃ j:Nat,ps[j]? = some p
    · obtain⟨j,hj⟩:=hex
      have hjm:j<m.length:=by rw[<- hpl];exact(zC.1 hj).1
      have hm':m'[j]? = some (.arr e sz k cs):=(tie'.arr (zU hjm kept.len)).1 (by rw[hr hj];exact hm)
      obtain⟨k',cs',h1,h2⟩:=kept.r j e sz k cs hjm hm'
      have h3:=tie.b j _ h1
      rw[hr hj] at h3
      refine⟨k',cs',h3,?_⟩
      have h4:=hH1 j
      rw[hr hj] at h4
      rw[h4]
      rcases h2 with⟨h2,h5⟩|h2
      · refine .inl ⟨h2,?_⟩
        rw[h5]
        show Hc (rho ps n j)=_
        rw[hr hj]
      · exact .inr h2
    · have hne:∀ j:Nat,ps[j]? ≠ some p:=λj h=>hex ⟨j,h⟩
      rcases cls p _ hm with⟨j,b0,h1,h2,h3⟩|⟨_,_,h3⟩
      · rcases zO j ps.length with hj|hj
        · exact absurd (by rw[h2];exact hget hj) (hne j)
        · rw[hr2 hj] at h2;omega
      · exact⟨k,cs,h3,.inl ⟨rfl,hH2 p hp hne⟩⟩
  have hun:∀ p,p<n->Hc p≠undef->Aq2 ps n Hc H' p≠undef:=by
    intro p hp hne0
    by_cases hex:∃ j:Nat,ps[j]? = some p
    · obtain⟨j,hj⟩:=hex
      have hjm:j<m.length:=by rw[<- hpl];exact(zC.1 hj).1
      have h1:=kept.u j hjm (by show Hc (rho ps n j)≠_;rw[hr hj];exact hne0)
      have h2:=hH1 j
      rw[hr hj] at h2
      rw[h2];exact h1
    · rw[hH2 p hp (λj h=>hex ⟨j,h⟩)];exact hne0
  have hgr:∀ l u,Ct w S M Hc l u->Ct w' S' M' (Aq2 ps n Hc H') l u:=λl u=>Ct.mono2 hkp (by rw[hn,g4];omega) (λp g hp=>hHp p g (by rw[<- hn];exact hp)) (λp hp=>hun p (by rw[<- hn];exact hp)) (λp e sz k cs hp=>harr p e sz k cs (by rw[<- hn];exact hp))
  refine⟨⟨r.nt,r.df,λi=>AVR.mono hgr (r.tm i),λq b hb=>?_,λq b g hb ho=>?_,λq q' b b' g hb hb' ho ho'=>?_,λq b g i hb ho hs=>?_,hin,?_,?_,λp g hp hh=>?_,λp e sz k cs hp hm=>?_,λp hp hne0=>hun p (by have h9:c.m0.length<=M.length:=r.kl;omega) (r.ku p hp hne0)⟩,tie'.avUp hav⟩
  · rcases cls q b hb with⟨j,b0,h1,rfl,rfl⟩|⟨h1,h2,h3⟩
    · rw[hH1]
      exact tie'.blkUp (mem'.bl j b0 h1)
    · rw[hH2 q h1 h2]
      have hbr:=r.bl q b h3
      have hsame:∀ g,b.own (Hc q)=some g->w'.heap[g]? = w.heap[g]? := λg ho=>ext.blk g (r.lo q b g h3 ho).2 (hnX q b g h2 h3 ho)
      cases b with
      | dead=>trivial
      | hole=>exact hbr
      | obj g mk cs =>
        obtain⟨k1,vs,o,k2,k3,k4,k5⟩:=hbr
        exact⟨k1,vs,o,(hsame g (by rw[k1];rfl)).trans k2,k3,k4,k5.mono (λl v=>Rep.mono hkp)⟩
      | tab mk cs =>
        obtain⟨g,k1,vs,o,k2,k3,k4,k5⟩:=hbr
        exact⟨g,k1,vs,o,(hsame g (by rw[k1];rfl)).trans k2,k3,k4,k5.mono (λl v=>Rep.mono hkp)⟩
      | box cs =>
        obtain⟨g,e,cur,k1,k2,k3⟩:=hbr
        exact⟨g,e,cur,k1,(hsame g (by rw[k1];rfl)).trans k2,k3.mono hgr⟩
      | arr e sz k cs =>
        obtain⟨h0,hk1,nn,vals,k1,k2,k3⟩:=hbr
        exact⟨h0,hk1,nn,vals,I6 k1 (λg hg=>hsame g hg),k2.mono (λl v=>Rep.mono hkp),λg hg i hi=>ext.sub g i (k3 g hg i hi)⟩
  · rcases cls q b hb with⟨j,b0,h1,rfl,rfl⟩|⟨h1,h2,h3⟩
    · rw[hH1,Blk.ren_own] at ho
      refine⟨?_,mem'.hp j b0 g h1 ho⟩
      rcases hown' j b0 g h1 ho with h|h
      · exact .inl (yO r.ex.size h)
      · exact hX g h
    · rw[hH2 q h1 h2] at ho
      have:=r.lo q b g h3 ho
      exact⟨this.1,zU this.2 ext.size⟩
  · have mixed:∀ (j:Nat) (b0:Blk) (q:Nat) (b:Blk),m'[j]? = some b0->b0.own (H' j)=some g->(∀ j:Nat,ps[j]? ≠ some q)->M[q]? = some b->b.own (Hc q)=some g->False:=by
      intro j b0 q b h1 h2 h3 h4 h5
      rcases hown' j b0 g h1 h2 with h|h
      · have:=(r.lo q b g h4 h5).2;omega
      · exact hnX q b g h3 h4 h5 h
    rcases cls q b hb with⟨j,b0,h1,rfl,rfl⟩|⟨h1,h2,h3⟩ <;> rcases cls q' b' hb' with⟨j',b0',h1',rfl,rfl⟩|⟨h1',h2',h3'⟩
    · rw[hH1,Blk.ren_own] at ho ho'
      rw[mem'.inj j j' b0 b0' g h1 h1' ho ho']
    · rw[hH1,Blk.ren_own] at ho
      rw[hH2 q' h1' h2'] at ho'
      exact(mixed j b0 q' b' h1 ho h2' h3' ho').elim
    · rw[hH1,Blk.ren_own] at ho'
      rw[hH2 q h1 h2] at ho
      exact(mixed j' b0' q b h1' ho' h2 h3 ho).elim
    · rw[hH2 q h1 h2] at ho
      rw[hH2 q' h1' h2'] at ho'
      exact r.inj q q' b b' g h3 h3' ho ho'
  · rcases cls q b hb with⟨j,b0,h1,rfl,rfl⟩|⟨h1,h2,h3⟩
    · rw[hH1,Blk.ren_own] at ho
      rw[Blk.ren_stab]
      exact mem'.sb j b0 g i h1 ho hs
    · rw[hH2 q h1 h2] at ho
      exact r.sb q b g i h3 ho (ext.back g i (r.lo q b g h3 ho).2 (hnX q b g h2 h3 ho) hs)
  · refine r.ex.trans2 ext (λb hb hx hX'=>?_)
    rcases hX b hX' with h|h
    · omega
    · exact hx h
  · have:=r.kl
    simp only[hn] at this
    show c.m0.length<=M'.length
    omega
  · have h1:=r.kh p g hp hh
    rw[<- h1]
    have:=r.kl
    simp only[hn] at this
    exact hHp p g (by omega) (h1.trans hh)
  · have hkl:=r.kl
    simp only[hn] at hkl
    obtain⟨k1,cs1,h1,h2⟩:=harr p e sz k cs (by omega) hm
    obtain⟨k2,cs2,h3,h4⟩:=r.kr p e sz k1 cs1 hp h1
    refine⟨k2,cs2,h3,?_⟩
    rcases h2 with⟨h2,hv⟩|h2 <;> rcases h4 with⟨h4,hv4⟩|h4
    · exact .inl ⟨h4.trans h2,hv.trans hv4⟩
    · exact .inr (by omega)
    · exact .inr (by omega)
    · exact .inr (by omega)
section
variable {P:Program} {c:Ctx} {t:Nat->AV} {M:List Blk} {ops:Array Oper} {Q:Exit->AS->Prop} {rest:List Oper} {ty:TypeId} {pos:String} {af:Array Edge} {d:Tmp}
theorem Wo {R:Lf->Value->Prop} {xs ys:List SV} {us vs:List Value} (h:Zd R xs us) (k:Zd R ys vs):Zd R (xs++ys) (us++vs):=by
 refine⟨by simp [h.1,k.1],λj x v h1 h2=>?_⟩
 by_cases hj:j<xs.length
 ·rw[zL hj] at h1
  rw[zL (by rw[<- h.1];exact hj)] at h2
  exact h.2 j x v h1 h2
 ·rw[yA (by omega)] at h1
  rw[yA (by rw[<- h.1];omega),<- h.1] at h2
  exact k.2 _ x v h1 h2
theorem Abe {w:World} {S:Cq} {m:List Blk} {H:Nat->Value} {ls:List Lf} {vs:List Value} (h:LsR (F9 w S m H) ls vs):Zd (Ct w S m H) (ls.map SV.one) vs :=
 ⟨by simpa using h.1,λj x v h1 h2=>by
  rw[zP] at h1
  cases hj:ls[j]? with
  | none=>rw[hj] at h1;cases h1
  | some l=>rw[hj] at h1;cases h1;exact F9.up (h.2 j l v hj h2)⟩
theorem Abm {a:Act} {w:World} {S:Cq} {H:Nat->Value} (r:Rel c ⟨t,M⟩ a w S H) {callee:Operand} {f:FuncId} {la lb:List Lf} {args:Array Operand} {ats:Array TypeId} {xs:List SV} (hf:FnI P f) (hcal:Cal ⟨t,M⟩ callee f la lb) (ho:Zv ⟨t,M⟩ args.toList xs) (dst:Option Tmp) :
  ∃ vs:Array Value,Zd (Ct w S M H) (la.map SV.one++xs++lb.map SV.one) vs.toList/\(execOp a.eval ⟨dst,.call { callee:=.value callee,args:=args,argTypes:=ats },ty,pos,af,none⟩).run P w=.ok (.enter f vs) w:=by
 obtain⟨va,vb,hv,h1,h2⟩:=hcal.val r
 refine⟨va++args.map a.eval++vb,?_,?_⟩
 ·have:=Wo (Wo (Abe h1) (Wd r ho)) (Abe h2)
  simpa using this
 ·simp [execOp,resolve,hv,Deferred.ofValue,invoke,hf.run]
theorem I0 {callee:Operand} {f:FuncId} {la lb:List Lf} {args:Array Operand} {ats:Array TypeId} {xs ys:List SV} {m m1 M':List Blk} {x x':AV} (ps:List Nat) (hd:decide (d<c.nt)=true) (hf:FnI P f) (hcal:Cal ⟨t,M⟩ callee f la lb) (ho:Zv ⟨t,M⟩ args.toList xs)
  (hc:Dw P f m ys (λy m'=>y=x/\m'=m1)) (hxs:la.map SV.one++xs++lb.map SV.one=ys.map (SV.ren (rho ps M.length))) (hps:ps.map (λp=>M[p]?)=m.map (λb=>some (b.ren (rho ps M.length)))) (hnd:ps.Nodup)
  (hi:(ys.all (SV.inbB m.length)&&m.all (Blk.inbB m.length))=true) (hx:x.ren (rho ps M.length)=x') (hM:Sb M ps (m1.map (Blk.ren (rho ps M.length)))=M')
  (k:AWL P c ops Q rest ⟨upd t d x',M'⟩):AWL P c ops Q (⟨some d,.call { callee:=.value callee,args:=args,argTypes:=ats },ty,pos,af,none⟩::rest) ⟨t,M⟩:=by
 intro a w S H r
 obtain⟨vs,hvs,hrun⟩:=Abm (pos:=pos) (af:=af) (ty:=ty) (ats:=ats) r hf hcal ho (some d)
 rw[hxs] at hvs
 simp only[yD] at hi
 refine wpList_plain rfl λK hK=>?_
 unfold Oper.wp
 rw[hrun]
 refine(Alq r hc hvs hps hnd hi.1 hi.2).mono ?_
 rintro e w' ⟨v,y,m',S',H',rfl,⟨rfl,rfl⟩,r',hav⟩
 subst hx;subst hM
 exact hK _ _ (k _ _ _ _ (r'.put (of_decide_eq_true hd) hav))
def Lf.noFn:Lf->Bool
 | .fn .. =>false
 | _=>true
def Acf (st:AS):List Operand->List Lf->Prop
 | [],xs=>xs=[]
 | o::os,xs=>∃ l r,C6 st o=.s (.one l)/\l.noFn=true/\Acf st os r/\xs=l::r
theorem Sn {st:AS}:Acf st [] []:=rfl
theorem Xv {st:AS} {o:Operand} {os:List Operand} {l:Lf} {r:List Lf} (h:C6 st o=.s (.one l)) (hl:l.noFn=true) (t:Acf st os r):Acf st (o::os) (l::r):=⟨l,r,h,hl,t,rfl⟩
theorem Aae {st:AS} {a:Act} {w:World} {S:Cq} {H:Nat->Value} (r:Rel c st a w S H):∀ {os:List Operand} {xs:List Lf},Acf st os xs->LsR (F9 w S st.m H) xs (os.map a.eval)
 | [],xs,h=>by cases h;exact⟨rfl,λj x v h=>by simp at h⟩
 | o::os,xs,h=>by
  obtain⟨l,rr,h1,hl,h2,rfl⟩:=h
  have ih:=Aae r h2
  have h0:=B1 r o
  rw[h1] at h0
  have h0':F9 w S st.m H l (a.eval o):=by
   have h00:Ct w S st.m H l (a.eval o):=h0
   cases l <;> first|exact h00|(simp [Lf.noFn] at hl)
  refine⟨by simp [ih.1],λj y v hy hv=>?_⟩
  cases j with
  | zero=>simp only[yP,wB,zW] at hy hv;subst hy;subst hv;exact h0'
  | succ j=>exact ih.2 j y v (by simpa using hy) (by simpa using hv)
theorem Wi {st:AS} {f:FuncId} {fi cp:Array Operand} {la lb:List Lf} (h1:Acf st fi.toList la) (h2:Acf st cp.toList lb):OpV P c st (.makeFunc (.func f) fi cp) ty (.s (.one (.fn f la lb))):=by
 intro a w S H r
 have e1:=Aae r h1
 have e2:=Aae r h2
 exact⟨.func (.func f) (fi.map a.eval) (cp.map a.eval),⟨_,_,rfl,by simpa using e1,by simpa using e2⟩,λ_ _ _ _=>by simp [execOp,Instr.makeFunc]⟩
theorem AWC.mono {x:Code} {st:AS} {Q Q':Exit->AS->Prop} (h:AWC P c x Q st) (hq:∀ e st,Q e st->Q' e st):AWC P c x Q' st:=λa w S H r =>
 wp_mono (h a w S H r) λe a w ⟨st,S,H,r,h⟩=>⟨st,S,H,r,hq e st h⟩
def Axc {G:Type} (sl:G->List (Nat×AV)) (mm:G->List Blk) (pre:G->Prop) (st:AS):Prop:=∃ g ex,pre g/\Y5 st.t (sl g)/\st.m=mm g++ex
theorem Afe {G:Type} {sl:G->List (Nat×AV)} {mm:G->List Blk} {pre:G->Prop} {x:Code} {Q:Exit->AS->Prop} {st:AS} (h:Axc sl mm pre st) (hin:∀ g,pre g->Aq0 (mm g).length (sl g)) (hmin:∀ g,pre g->∀ b∈mm g,b.inb (mm g).length) (hk:∀ g,pre g->c.m0.length<=(mm g).length)
  (hy:∀ g,pre g->AWC P c x Q ⟨Afq (λ_=>.top) (sl g),mm g⟩):AWC P c x Q st:=by
 obtain⟨g,ex,hp,hs,hm⟩:=h
 intro a w S H r
 have r0:Rel c ⟨st.t,mm g++ex⟩ a w S H:=by rw[<- hm];exact r
 exact hy g hp a w S H (r0.trim (Sp hs (hin g hp)) (hmin g hp) (hk g hp))
theorem A1q {x y:Code} {Q Q':Exit->AS->Prop} {st:AS} (G:Type) (sl:G->List (Nat×AV)) (mm:G->List Blk) (pre:G->Prop) (hin:∀ g,pre g->Aq0 (mm g).length (sl g)) (hmin:∀ g,pre g->∀ b∈mm g,b.inb (mm g).length) (hk:∀ g,pre g->c.m0.length<=(mm g).length)
  (hy:∀ g,pre g->AWC P c y Q ⟨Afq (λ_=>.top) (sl g),mm g⟩) (hx:AWC P c x (Qm (Axc sl mm pre) Q') st):AWC P c x (Qm (AWC P c y Q) Q') st:=by
 refine hx.mono λe st h=>?_
 cases e with
 | normal=>exact Afe h hin hmin hk hy
 | _=>exact h
theorem Az9 {x y z:Code} {Q Q' Q'':Exit->AS->Prop} {st:AS} (G:Type) (sl:G->List (Nat×AV)) (mm:G->List Blk) (pre:G->Prop) (hin:∀ g,pre g->Aq0 (mm g).length (sl g)) (hmin:∀ g,pre g->∀ b∈mm g,b.inb (mm g).length) (hk:∀ g,pre g->c.m0.length<=(mm g).length)
  (hy:∀ g,pre g->AWC P c z Q ⟨Afq (λ_=>.top) (sl g),mm g⟩) (hx:AWC P c x (Qm (AWC P c y (Qm (Axc sl mm pre) Q'')) Q') st):AWC P c x (Qm (AWC P c y (Qm (AWC P c z Q) Q'')) Q') st:=by
 refine hx.mono λe st h=>?_
 cases e with
 | normal =>
  refine AWC.mono h λe st h=>?_
  cases e with
  | normal=>exact Afe h hin hmin hk hy
  | _=>exact h
 | _=>exact h
def AV.inbB (n:Nat):AV->Bool
 | .s x=>x.inbB n
 | .tup xs=>xs.all (SV.inbB n)
 | .top=>true
theorem Ant {n:Nat} {l:Lf} (h:l.inbB n=true):l.inb n=true:=by
 cases l with
 | fn f la lb =>
  simp only[Lf.inbB,yD,zI] at h
  simp only[Lf.inb,yD,zI]
  refine⟨λx hx=>?_,λx hx=>?_⟩
  ·have:=h.1 x hx;cases x <;> first|rfl|exact this
  ·have:=h.2 x hx;cases x <;> first|rfl|exact this
 | _=>first | rfl | exact h
theorem Akm {n:Nat} {x:SV} (h:x.inbB n=true):x.inb n:=by
 cases x with
 | one l=>exact Ant h
 | agg ls=>exact λl hl=>Ant (zI.1 h l hl)
theorem Acn {n:Nat}:∀ {l:List (Nat×AV)},(l.all λp=>p.2.inbB n)=true->Aq0 n l
 | [],_=>trivial
 | (i,x)::r,h=>by
  simp only[List.all_cons,yD] at h
  refine⟨?_,Acn h.2⟩
  cases x with
  | s x=>exact Akm h.1
  | tup xs=>exact λy hy=>Akm (zI.1 h.1 y hy)
  | top=>trivial
theorem Uz {n:Nat} {m:List Blk} (h:m.all (Blk.inbB n)=true):∀ b∈m,b.inb n:=by
 intro b hb
 have:=zI.1 h b hb
 cases b with
 | box cs=>exact λl hl=>Ant (zI.1 this l hl)
 | _=>trivial
theorem Ql {l:List Oper} (M':List Blk) (e:M=M') (k:AWL P c ops Q l ⟨t,M'⟩):AWL P c ops Q l ⟨t,M⟩:=by subst e;exact k
end
abbrev wI (n:Int):Int:=IntKind.i64.wrap n
def idx {α:Type} (xs:List α) (j:Int):Option α:=if 0<=j then xs[j.toNat]? else none
def cut {α:Type} (xs:List α) (lo hi:Int):Option (List α):=if 0<=lo/\lo<=hi/\hi<=xs.length then some ((xs.drop lo.toNat).take (hi.toNat-lo.toNat)) else none
inductive LR (σ β ρ:Type) where
 | cont (s:σ)
 | brk (b:β)
 | ret (r:ρ)
inductive LB (σ β:Type) where
 | cont (s:σ)
 | brk (b:β)
def Iz {σ β ρ:Type} (f:σ->Option (LR σ β ρ)):Nat->σ->Option (Sum ρ β)
 | 0,_=>none
 | n+1,s=>match f s with
  | none=>none
  | some (.cont s')=>Iz f n s'
  | some (.brk b)=>some (.inr b)
  | some (.ret r)=>some (.inl r)
def Cz {σ β:Type} (f:σ->Option (LB σ β)):Nat->σ->Option β
 | 0,_=>none
 | n+1,s=>match f s with
  | none=>none
  | some (.cont s')=>Cz f n s'
  | some (.brk b)=>some b
def fuel:Nat:=1000000000000000000000000
theorem Ae {α β:Type} {o:Option α} {f:α->Option β} {r:β} (h:o.bind f=some r):∃ u,o=some u/\f u=some r:=by
 cases o with
 | none=>cases h
 | some u=>exact⟨u,rfl,h⟩
theorem Q5 {α:Type} {b:Bool} {x y:Option α} {r:α} (hb:b=true) (h:(if b then x else y)=some r):x=some r:=by subst hb;exact h
theorem Qy {α:Type} {b:Bool} {x y:Option α} {r:α} (hb:b=false) (h:(if b then x else y)=some r):y=some r:=by subst hb;exact h
theorem Cs {α:Type} {p:Prop} [Decidable p] {x:Option α} {r:α} (h:(if p then x else none)=some r):p/\x=some r:=by
 by_cases hp:p
 ·rw[if_pos hp] at h;exact⟨hp,h⟩
 ·rw[if_neg hp] at h;cases h
theorem Jd {α:Type} {xs:List α} {j:Int} {u:α} (h:idx xs j=some u):0<=j/\xs[j.toNat]? = some u:=Cs h
theorem Auq {α:Type} {xs:List α} {j:Int} {u:α} (h:idx xs j=some u):0<=j/\j<xs.length:=by
 obtain⟨h0,h1⟩:=Jd h
 have:=(zC.1 h1).1
 omega
theorem Wl {α:Type} {xs ys:List α} {lo hi:Int} (h:cut xs lo hi=some ys):(0<=lo/\lo<=hi/\hi<=xs.length)/\ys=(xs.drop lo.toNat).take (hi.toNat-lo.toNat):=by
 unfold cut at h
 obtain⟨h0,h1⟩:=Cs h
 exact⟨h0,(zD h1).symm⟩
theorem Cw {σ β:Type} {f:σ->Option (LB σ β)} {n:Nat} {s:σ} {x:β} (h:Cz f n s=some x) :
  ∃ m y,n=m+1/\f s=some y/\(match y with | .cont s'=>Cz f m s'=some x | .brk b=>b=x):=by
 cases n with
 | zero=>cases h
 | succ m =>
  rw[Cz] at h
  cases hf:f s with
  | none=>rw[hf] at h;cases h
  | some y =>
   rw[hf] at h
   refine⟨m,y,rfl,rfl,?_⟩
   cases y with
   | cont s'=>exact h
   | brk b=>exact zD h
theorem Dj {σ β ρ:Type} {f:σ->Option (LR σ β ρ)} {n:Nat} {s:σ} {x:Sum ρ β} (h:Iz f n s=some x) :
  ∃ m y,n=m+1/\f s=some y/\(match y with | .cont s'=>Iz f m s'=some x | .brk b=>.inr b=x | .ret r=>.inl r=x):=by
 cases n with
 | zero=>cases h
 | succ m =>
  rw[Iz] at h
  cases hf:f s with
  | none=>rw[hf] at h;cases h
  | some y =>
   rw[hf] at h
   refine⟨m,y,rfl,rfl,?_⟩
   cases y with
   | cont s'=>exact h
   | brk b=>exact zD h
   | ret r=>exact zD h
open Go.RowKit
theorem Avc (l:List UInt8):bl l=l.flatMap λb=>[.i .u8 b.toNat]:=by
 unfold bl
 induction l with
 | nil=>rfl
 | cons a l ih=>simp [wB,ih]
section lists
variable {α:Type} {f:α->List Lf} {sz:Nat}
theorem Aw (hf:∀ x,(f x).length=sz) (xs:List α):(xs.flatMap f).length=xs.length*sz:=by
 induction xs with
 | nil=>simp
 | cons a l ih=>simp [xB,ih,hf,xP,j1]
theorem Y7 (hf:∀ x,(f x).length=sz) (xs:List α) (i:Nat):(xs.flatMap f).drop (i*sz)=(xs.drop i).flatMap f:=by
 induction xs generalizing i with
 | nil=>simp
 | cons a l ih =>
  cases i with
  | zero=>simp
  | succ i =>
   rw[xB,xP,wJ,j1,<- kM,List.drop_left' (hf a),ih]
   rfl
theorem Yn (hf:∀ x,(f x).length=sz) (xs:List α) (i:Nat):(xs.flatMap f).take (i*sz)=(xs.take i).flatMap f:=by
 induction xs generalizing i with
 | nil=>simp
 | cons a l ih =>
  cases i with
  | zero=>simp
  | succ i =>
   rw[xB,xP,wJ,List.take_append,yX (by rw[hf];omega),hf,jQ,ih]
   rfl
theorem Zu (hf:∀ x,(f x).length=sz) {xs:List α} {i:Nat} {u:α} (h:xs[i]? = some u):(xs.flatMap f).drop (i*sz)=f u++(xs.drop (i+1)).flatMap f:=by
 rw[Y7 hf]
 have hi:=(zC.1 h).1
 have e:=(zC.1 h).2
 rw[wY hi,xB,e]
theorem Ar8 (hf:∀ x,(f x).length=sz) {xs:List α} {i:Nat} (u:α) (h:i<xs.length):Ow (xs.flatMap f) (i*sz) (f u)=(xs.set i u).flatMap f:=by
 unfold Ow
 rw[Yn hf,hf,<- jA,Y7 hf,kT,if_pos h,kK,xB,xO]
theorem Ash {cs a ls ls':List Lf} {i o:Nat} (ho:o+ls.length<=a.length) (h:∃ t,cs.drop i=a++t) (hl:Ow a o ls=ls') (ha:a.length=ls'.length):Ow cs (i+o) ls=Ow cs i ls':=by
 obtain⟨t,ht⟩:=h
 subst hl
 unfold Ow
 have e1:cs.take (i+o)=cs.take i++a.take o:=by
  rw[List.take_add,ht,wC (by omega)]
 have e2:cs.drop (i+o+ls.length)=a.drop (o+ls.length)++t:=by
  rw[jF,<- kM,ht,List.drop_append_of_le_length ho]
 have e3:cs.drop (i+(a.take o++ls++a.drop (o+ls.length)).length)=t:=by
  rw[show(a.take o++ls++a.drop (o+ls.length)).length=a.length by simp only[zH,zK,yC];omega,<- kM,ht,List.drop_left]
 rw[e1,e2,e3]
 simp only[xO]
end lists
section
variable {P:Program} {c:Ctx} {st:AS} {ty:TypeId} {α:Type} {f:α->List Lf} {sz:Nat}
theorem B4 {t e n:Nat} {x y:Operand} {cs:List Lf} {xs:List α} {k:IntKind} {j:Int} {u:α} (si:SI P t e sz) (hf:∀ x,(f x).length=sz) (hx:C6 st x=.s (.one (.sl n cs))) (hcs:cs=xs.flatMap f) (hn:n=xs.length) (hy:C6 st y=.s (.one (.i k j))) (h:idx xs j=some u) :
  OpV P c st (.indexAddr t x y) ty (.s (.one (.cp (f u++(xs.drop (j.toNat+1)).flatMap f)))):=by
 obtain⟨h0,h1⟩:=Jd h
 have h2:=(Auq h).2
 have:=Aa3 (P:=P) (c:=c) (ty:=ty) si hx hy h0 (by rw[hn];exact h2)
 rwa [hcs,Zu hf h1] at this
theorem G8 {t e e' kk p n:Nat} {x y:Operand} {cs:List Lf} {xs:List α} {k:IntKind} {j:Int} {u:α} (si:SI P t e sz) (hf:∀ x,(f x).length=sz) (hx:C6 st x=.s (.one (.ls p n))) (hm:st.m[p]? = some (.arr e' sz kk cs)) (hcs:cs=xs.flatMap f) (hn:n=xs.length) (hy:C6 st y=.s (.one (.i k j))) (h:idx xs j=some u) :
  OpV P c st (.indexAddr t x y) ty (.s (.one (.ap p n (j.toNat*sz)))):=by
 have h2:=Auq h
 exact Aax si hx hy hm (by rw[hcs,Aw hf,hn]) h2.1 (by rw[hn];exact h2.2)
theorem Aem {t e kk p n i:Nat} (o:Nat) {x:Operand} {cs:List Lf} {xs:List α} {u:α} {y:Lf} (ti:TI P t false 1) (hf:∀ x,(f x).length=sz) (hx:C6 st x=.s (.one (.ap p n (i*sz+o)))) (hm:st.m[p]? = some (.arr e sz kk cs)) (hcs:cs=xs.flatMap f) (hn:n=xs.length) (hu:xs[i]? = some u) (hy:(f u)[o]? = some y) :
  OpV P c st (.load t x) ty (.s (.one y)):=by
 refine B0 ti hx (.ap _ _ _ _ _ _ _ hm (by rw[hcs,Aw hf,hn])) ?_
 rw[hcs,<- kM,Zu hf hu,yJ,kG (n:=o),zL (zC.1 hy).1,hy]
theorem Pt {t e kk p n i s:Nat} (o:Nat) {x:Operand} {cs ys:List Lf} {xs:List α} {u:α} (ti:TI P t true s) (hf:∀ x,(f x).length=sz) (hx:C6 st x=.s (.one (.ap p n (i*sz+o)))) (hm:st.m[p]? = some (.arr e sz kk cs)) (hcs:cs=xs.flatMap f) (hn:n=xs.length) (hu:xs[i]? = some u) (ho:o+s<=sz) (hy:((f u).drop o).take s=ys) :
  OpV P c st (.load t x) ty (.s (.agg ys)):=by
 have h:=Vu (P:=P) (c:=c) (ty:=ty) (st:=st) ti hx (.ap _ _ _ _ _ _ _ hm (by rw[hcs,Aw hf,hn])) (by
  rw[hcs,<- kM,Zu hf hu,yC,zH,hf];omega)
 rw[hcs,<- kM,Zu hf hu,List.drop_append_of_le_length (by rw[hf];omega),wC (by rw[yC,hf];omega),hy] at h
 exact h
theorem Zn {t e n:Nat} {x:Operand} {cs:List Lf} {xs ys:List α} {l h:Option Operand} {lo hi:Int} (si:SI P t e sz) (hf:∀ x,(f x).length=sz) (hx:C6 st x=.s (.one (.sl n cs))) (hcs:cs=xs.flatMap f) (hn:n=xs.length)
  (hl:Amn st l 0 lo.toNat) (hh:Amn st h n hi.toNat) (hc:cut xs lo hi=some ys):OpV P c st (.slice t x l h none) ty (.s (.one (.sl ys.length (ys.flatMap f)))):=by
 obtain⟨⟨h0,h1,h2⟩,rfl⟩:=Wl hc
 have:=Aoa (P:=P) (c:=c) (ty:=ty) si hx (by rw[hcs,Aw hf,hn]) hl hh (by omega) (by rw[hn];omega)
 rw[hcs,Y7 hf,Yn hf] at this
 rw[zK,yC,w8 (by omega)]
 exact this
end
section
variable {P:Program} {c:Ctx} {t:Nat->AV} {m:List Blk} {ops:Array Oper} {Q:Exit->AS->Prop} {rest:List Oper} {ty:TypeId} {pos:String} {af:Array Edge} {d:Tmp} {α:Type} {f:α->List Lf} {sz:Nat}
theorem Ab2 {t' e k p n i s:Nat} (o:Nat) {x y:Operand} {cs:List Lf} {xs:List α} {u u':α} {v:SV} (hi:(P.info? t').map (·.size)=some s) (hf:∀ x,(f x).length=sz) (hx:C6 ⟨t,m⟩ x=.s (.one (.ap p n (i*sz+o)))) (hy:C6 ⟨t,m⟩ y=.s v) (hm:m[p]? = some (.arr e sz k cs)) (hcs:cs=xs.flatMap f) (hn:n=xs.length) (hk:k=0)
  (hv:v.cells.length=s) (hpub:∀ l∈v.cells,l.pubd=true) (hu:xs[i]? = some u) (ho:o+s<=sz) (hu':Ow (f u) o v.cells=f u')
  (kk:AWL P c ops Q rest ⟨t,m.set p (.arr e sz k ((xs.set i u').flatMap f))⟩):AWL P c ops Q (⟨none,.store t' x y,ty,pos,af,none⟩::rest) ⟨t,m⟩:=by
 have hil:=(zC.1 hu).1
 refine Apf hi hx hy hm (by rw[hcs,Aw hf,hn]) hv hpub (by omega) ?_ ?_
 ·rw[hcs,Aw hf]
  calc i*sz+o+s<=i*sz+sz:=by omega
   _=(i+1)*sz:=by rw[xP,wJ]
   _<=xs.length*sz:=xA _ hil
 ·have e:Ow cs (i*sz+o) v.cells=(xs.set i u').flatMap f:=by
   rw[hcs,Ash (a:=f u) (by rw[hv,hf];omega) ⟨_,Zu hf hu⟩ hu' (by rw[hf,hf]),Ar8 hf u' hil]
  rw[e]
  exact kk
theorem U1 {x y:Operand} {t' t2 e bytes p n k mm:Nat} {zl cs ys:List Lf} {xs us:List α} {yv yv':SV} {m':List Blk} (hd:decide (d<c.nt)=true) (si:P.underlying t'=some (.slice e)) (ei:EI P e sz bytes zl) (h2:NI P t2) (hf:∀ x,(f x).length=sz) (hx:C6 ⟨t,m⟩ x=.s (.one (.ls p n))) (hy:C6 ⟨t,m⟩ y=.s yv)
  (hp:Hl m yv yv' m') (hm:m'[p]? = some (.arr e sz k cs)) (hcs:cs=xs.flatMap f) (hn:n=xs.length) (hsrc:Aep P yv' sz mm ys) (hys:ys=us.flatMap f) (hmm:mm=us.length) (hb:(xs.length+us.length)*bytes<=140737488355328) (hbp:0<bytes)
  (kk:AWL P c ops Q rest ⟨upd t d (.s (.one (.ls p (xs++us).length))),m'.set p (.arr e sz k ((xs++us).flatMap f))⟩) :
  AWL P c ops Q (⟨some d,.call { callee:=.builtin .append,args:=#[x,y],argTypes:=#[t',t2] },ty,pos,af,none⟩::rest) ⟨t,m⟩:=by
 subst hcs hn hys hmm
 refine Avm hd si ei h2 hx hy hp hm (Aw hf xs).symm hsrc ?_ hb ?_
 ·have:xs.length+us.length<=(xs.length+us.length)*bytes:=kW _ hbp
  simp only[maxLen];omega
 ·rw[<- kK,<- zH]
  exact kk
theorem Ahi {zl:List Lf} {z:α} (hz:f z=zl) (hf:∀ x,(f x).length=sz) (n:Nat):Ac5 zl (n*sz)=(List.replicate n z).flatMap f:=by
 subst hz
 apply xY
 intro j
 by_cases hs:sz=0
 ·have h1:(Ac5 (f z) (n*sz)).length=0:=by rw[Qx,hs,Nat.mul_zero]
  have h2:((List.replicate n z).flatMap f).length=0:=by rw[Aw hf,hs,Nat.mul_zero]
  rw[zY h1,zY h2]
 have hsp:0<sz:=Nat.pos_of_ne_zero hs
 by_cases hj:j<n*sz
 ·have hq:j / sz<n:=Nat.div_lt_of_lt_mul (by rw[Nat.mul_comm];exact hj)
  have h1:(Ac5 (f z) (n*sz))[j]? = some ((f z).getD (j % sz) default):=by
   unfold Ac5
   rw[zP,jI hj,hf];rfl
  have hr:(List.replicate n z)[j / sz]? = some z:=by rw[List.getElem?_replicate,if_pos hq]
  have h2:=Zu hf hr
  have h3:((List.replicate n z).flatMap f)[j]? = (f z)[j % sz]? := by
   have e:j=j / sz*sz+j % sz:=by rw[Nat.mul_comm];exact(Nat.div_add_mod j sz).symm
   conv=>lhs;rw[e]
   rw[<- yJ,h2,zL (by rw[hf];exact Nat.mod_lt _ hsp)]
  have hlt:j % sz<(f z).length:=by rw[hf];exact Nat.mod_lt _ hsp
  rw[h1,h3,zB hlt]
  simp [List.getD,zB hlt]
 ·rw[yG (by rw[Qx];omega),yG (by rw[Aw hf];simpa using hj)]
end
open Go.RowKit
def eU8 (b:UInt8):List Lf:=[.i .u8 (b.toNat:Int)]
def eI (n:Int):List Lf:=[.i .i64 n]
def eB (b:Bool):List Lf:=[.b b]
def eL {α:Type} (f:α->List Lf) (xs:List α):List Lf:=[.sl xs.length (xs.flatMap f)]
theorem Anp (l:List UInt8):bl l=l.flatMap eU8:=Avc l
section
variable {P:Program} {c:Ctx} {st:AS} {ty:TypeId}
theorem Ma {s t e:TypeId} {x:Operand} {n:Nat} {cs:List Lf} {l:List UInt8} (hs:P.underlying s=some (.slice e)) (he:P.underlying e=some (.int .u8)) (ht:P.underlying t=some .string) (hx:C6 st x=.s (.one (.sl n cs))) (hn:n=l.length) (hcs:cs=l.flatMap eU8) :
  OpV P c st (.convert s t x) ty (.s (.one (.s ⟨l.toArray⟩))):=by
 subst hn;rw[<- Anp] at hcs;subst hcs
 exact Aix hs he ht hx
theorem Atp {f:FuncId} {x y:Operand} {ats:Array TypeId} {n m:Nat} {cs cs':List Lf} {a b:List UInt8} (xi:XI P f Extern.BytealgCompare.compare) (hx:C6 st x=.s (.one (.sl n cs))) (hn:n=a.length) (hcs:cs=a.flatMap eU8) (hy:C6 st y=.s (.one (.sl m cs'))) (hm:m=b.length) (hcs':cs'=b.flatMap eU8) :
  OpV P c st (.call { callee:=.value (.func f),args:=#[x,y],argTypes:=ats }) ty (.s (.one (.i .i64 (Gm a b)))):=by
 subst hn hm;rw[<- Anp] at hcs hcs';subst hcs hcs'
 exact Awx xi hx hy
theorem Yy {xt yt:TypeId} {x y:Operand} {p q:List UInt8} (hx:C6 st x=.s (.one (.s ⟨p.toArray⟩))) (hy:C6 st y=.s (.one (.s ⟨q.toArray⟩))):OpV P c st (.binOp .eql xt x y yt) ty (.s (.one (.b (p==q)))):=by
 have:=Arf (P:=P) (c:=c) (xt:=xt) (yt:=yt) (ty:=ty) hx hy
 have e:∀ l:List UInt8,(ByteArray.mk l.toArray).toList=l:=λl=>by rw[ByteArray.toList_eq]
 simpa [e] using this
theorem Uw {xt yt:TypeId} {x y:Operand} {p q:List UInt8} (hx:C6 st x=.s (.one (.s ⟨p.toArray⟩))) (hy:C6 st y=.s (.one (.s ⟨q.toArray⟩))):OpV P c st (.binOp .neq xt x y yt) ty (.s (.one (.b (!(p==q))))):=by
 have:=Asr (P:=P) (c:=c) (xt:=xt) (yt:=yt) (ty:=ty) hx hy
 have e:∀ l:List UInt8,(ByteArray.mk l.toArray).toList=l:=λl=>by rw[ByteArray.toList_eq]
 simpa [e] using this
end
open Go.RowKit
section
variable {P:Program} {c:Ctx} {st:AS} {ty:TypeId} {α:Type} {f:α->List Lf} {sz:Nat}
theorem Bs {t s:Nat} {x:Operand} {l:Lf} {cs ys:List Lf} (ti:TI P t true s) (hx:C6 st x=.s (.one l)) (hp:Adf st l cs) (he:cs.take s=ys) (hs:s=ys.length):OpV P c st (.load t x) ty (.s (.agg ys)):=by
 have:=Vu (P:=P) (c:=c) (ty:=ty) ti hx hp (by rw[<- he,zK] at hs;omega)
 rwa [he] at this
end
open Go.RowKit
def Abx (acc:List Nat) (after:List Edge):Nat:=after.foldl (λs e=>if Region.binds .any e then s ||| (1 <<< e.on) ||| acc.getD e.on 0 else s) 0
def Oj:List Oper->List Nat->List Nat
  | [],acc=>acc
  | o::r,acc=>Oj r (acc++[Abx acc o.after.toList])
theorem Aef {acc:List Nat} {after:List Edge} {j:Nat} (h:(Abx acc after).testBit j=true):∃ e∈after,Region.binds .any e=true/\(e.on=j\/(acc.getD e.on 0).testBit j=true):=by
  have key:∀ (l:List Edge) (s:Nat),(l.foldl (λs e=>if Region.binds .any e then s ||| (1 <<< e.on) ||| acc.getD e.on 0 else s) s).testBit j=true ->
      s.testBit j=true\/∃ e∈l,Region.binds .any e=true/\(e.on=j\/(acc.getD e.on 0).testBit j=true):=by
    intro l
    induction l with
    | nil=>intro s h;exact .inl h
    | cons e l ih =>
      intro s h
      rw[kX] at h
      rcases ih _ h with h|⟨e',he,h⟩
      · cases hb:Region.binds .any e with
        | false=>rw[hb] at h;exact .inl h
        | true =>
          rw[hb,if_pos rfl,Nat.testBit_or,Nat.testBit_or,w9,w9] at h
          rcases h with(h|h)|h
          · exact .inl h
          · refine .inr ⟨e,yV ..,hb,.inl ?_⟩
            rw[Nat.one_shiftLeft,Nat.testBit_two_pow] at h
            exact of_decide_eq_true h
          · exact .inr ⟨e,yV ..,hb,.inr h⟩
      · exact .inr ⟨e',yT _ he,h⟩
  rcases key after 0 h with h|h
  · simp at h
  · exact h
def Ug (ops:Array Oper) (listed:Array Bool):Prop:=∀ (i:Nat) (o:Oper),ops[i]? = some o->listed.getD i false=true->Met listed o
theorem Zt:∀ (l:List Oper) (acc:List Nat) (i:Nat),i<acc.length->(Oj l acc).getD i 0=acc.getD i 0
  | [],acc,i,_=>rfl
  | o::r,acc,i,h=>by
    rw[Oj,Zt r _ i (by simp;omega)]
    simp [List.getD,zL h]
theorem Y8 {listed:Array Bool} {ops:Array Oper} (hc:Ug ops listed):∀ (l:List Oper) (acc:List Nat),(∀ i o,l[i]? = some o->ops[acc.length+i]? = some o) ->
    (∀ i,i<acc.length->listed.getD i false=true->∀ j,(acc.getD i 0).testBit j=true->listed.getD j false=true) ->
    ∀ i,listed.getD i false=true->∀ j,((Oj l acc).getD i 0).testBit j=true->listed.getD j false=true
  | [],acc,_,hp,i,hi,j,hj=>by
    by_cases h:i<acc.length
    · exact hp i h hi j hj
    · rw[Oj] at hj
      simp [List.getD,yG (by omega:acc.length<=i)] at hj
  | o::r,acc,ho,hp,i,hi,j,hj=>by
    refine Y8 hc r (acc++[Abx acc o.after.toList]) (λi' o' h=>?_) (λi' h' hl j' hj'=>?_) i hi j hj
    · have:=ho (i'+1) o' (by simpa using h)
      rw[<- this]
      congr 1
      simp;omega
    · simp only[zH,z6] at h'
      by_cases h:i'<acc.length
      · have e:(acc++[Abx acc o.after.toList]).getD i' 0=acc.getD i' 0:=by simp [List.getD,zL h]
        rw[e] at hj'
        exact hp i' h hl j' hj'
      · have e0:i'=acc.length:=by omega
        have e:(acc++[Abx acc o.after.toList]).getD i' 0=Abx acc o.after.toList:=by simp [List.getD,e0]
        rw[e] at hj'
        obtain⟨ed,hed,hb,h1⟩:=Aef hj'
        have hm:=hc i' o (by have:=ho 0 o rfl;rw[e0];exact this) hl
        have hon:=hm ed (by simpa using hed) hb
        rcases h1 with h1|h1
        · rw[<- h1];exact hon
        · by_cases h2:ed.on<acc.length
          · exact hp ed.on h2 hon j' h1
          · simp [List.getD,yG (by omega:acc.length<=ed.on)] at h1
theorem Abu {listed:Array Bool} {ops:Array Oper} (hc:Ug ops listed) {i:Nat} {o:Oper} (ho:ops[i]? = some o) (hm:Met listed o) {j:Nat} (hj:((Oj ops.toList []).getD i 0).testBit j=true):listed.getD j false=true:=by
  have hil:i<ops.toList.length:=by have:=(yB.1 ho).1;simpa using this
  have key:∀ (l:List Oper) (acc:List Nat) (k:Nat),acc.length+k=i->l[k]? = some o->∃ acc',(Oj l acc).getD i 0=Abx acc' o.after.toList/\∀ q,q<acc'.length->(Oj l acc).getD q 0=acc'.getD q 0:=by
    intro l
    induction l with
    | nil=>intro acc k _ h;simp at h
    | cons o' r ih =>
      intro acc k hk h
      cases k with
      | zero =>
        simp only[yP,zW] at h
        subst h
        refine⟨acc,?_,λq hq=>?_⟩
        · rw[Oj,Zt r _ i (by simp;omega)]
          simp [List.getD,show i=acc.length by omega]
        · rw[Oj,Zt r _ q (by simp;omega)]
          simp [List.getD,zL hq]
      | succ k=>exact ih _ k (by simp;omega) (by simpa using h)
  obtain⟨acc',h1,h2⟩:=key ops.toList [] i (by simp) (by simpa using ho)
  rw[h1] at hj
  obtain⟨ed,hed,hb,h3⟩:=Aef hj
  have hon:=hm ed (by simpa using hed) hb
  rcases h3 with h3|h3
  · rw[<- h3];exact hon
  · by_cases hq:ed.on<acc'.length
    · refine Y8 hc ops.toList [] (λi o h=>by simpa using h) (λi h=>by simp at h) ed.on hon j ?_
      rw[h2 _ hq];exact h3
    · simp [List.getD,yG (by omega:acc'.length<=ed.on)] at h3
def mix (T:Nat->AV) (L:List Nat) (ζ:Nat->AV):Nat->AV:=λj=>cond (L.contains j) (T j) (ζ j)
def Wa (ws:List Nat) (es:List Nat) (i j:Nat):Bool:=(es.take j).all (λe=>(ws.getD i 0).testBit e)&&(es.drop j).all (λe=>e==i||(ws.getD e 0).testBit i)
def Ab4 (ops:Array Oper):Bool :=
  (List.range ops.size).all λi=>match ops[i]? with
    | none=>false
    | some o=>o.after.all (λe=>!Region.binds .any e||decide (e.on<i))&&(List.range ops.size).all (λj=>match ops[j]? with
        | none=>false
        | some p=>match p.dst with
            | none=>true
            | some d=>(decide (i=j) || !(o.dst==p.dst))&&(!(o.looksAt ops).contains d||o.after.any (λe=>e.on==j&&Region.binds .any e)))
theorem Ads {ops:Array Oper} (h:Ab4 ops=true):Zs ops:=by
  have hget:∀ (i:Nat) (o:Oper),ops[i]? = some o->(∀ e∈o.after,(!Region.binds .any e||decide (e.on<i))=true)/\∀ (j:Nat) (p:Oper),ops[j]? = some p->∀ d,p.dst=some d->((decide (i=j) || !(o.dst==p.dst))&&(!(o.looksAt ops).contains d||o.after.any (λe=>e.on==j&&Region.binds .any e)))=true:=by
    intro i o ho
    have hi:i<ops.size:=(yB.1 ho).1
    have h1:=zI.1 h i (wW.2 hi)
    simp only[ho,yD] at h1
    refine⟨λe he=>by have:=h1.1;rw[wP] at this;exact this e he,λj p hp d hd=>?_⟩
    have hj:j<ops.size:=(yB.1 hp).1
    have h2:=zI.1 h1.2 j (wW.2 hj)
    simp only[hp,hd] at h2
    rw[hd]
    exact h2
  refine⟨λi o ho e he hb=>?_,λi o j p ho hp hij d hd hpd=>?_,λi o j p d ho hp hpd hl=>?_⟩
  · have:=(hget i o ho).1 e he
    rw[hb] at this
    simpa using this
  · have:=(hget i o ho).2 j p hp d hpd
    rw[hd,hpd] at this
    simp [hij] at this
  · have:=(hget i o ho).2 j p hp d hpd
    simp only[yD,w9,wL] at this
    rcases this.2 with h|h
    · have hc:(o.looksAt ops).contains d=true:=by simpa using hl
      rw[h] at hc;cases hc
    · rw[Array.any_eq_true] at h
      obtain⟨k,hk,h⟩:=h
      simp only[yD,beq_iff_eq] at h
      exact⟨_,Array.getElem_mem hk,h.1,h.2⟩
section
variable {P:Program} {c:Ctx} {t:Nat->AV} {m:List Blk} {Q:Exit->AS->Prop}
def Auk (P:Program) (c:Ctx) (ops:Array Oper) (T:Nat->AV) (M M':List Blk) (o:Oper) (x:AV):Prop :=
  ∀ ζ,AWL P c ops (λe st=>e=.normal/\st=⟨(match o.dst with|some d=>upd (mix T (o.looksAt ops) ζ) d x|none=>mix T (o.looksAt ops) ζ),M'⟩) [{ o with guard:=none }] ⟨mix T (o.looksAt ops) ζ,M⟩
def Aqt (P:Program) (c:Ctx) (ops:Array Oper) (ws es:List Nat) (all:List (List Blk)) (i:Nat) (t:Nat->AV) (o:Oper) (x:AV):Prop :=
  (∃ md,Z5 P c md ops t o x/\((∃ j,Wa ws es i j=true/\all[j]? = some md)\/∀ M∈all,Aeq md M))\/∀ M∈all,Z5 P c M ops t o x
theorem Aqt.congr {ops:Array Oper} {ws es:List Nat} {all:List (List Blk)} {i:Nat} {t t':Nat->AV} {o:Oper} {x:AV} (h:Aqt P c ops ws es all i t o x) (ht:∀ y∈o.looksAt ops,t y=t' y):Aqt P c ops ws es all i t' o x:=by
  rcases h with⟨md,h1,h2⟩|h
  · exact .inl ⟨md,h1.congr ht,h2⟩
  · exact .inr λM hM=>(h M hM).congr ht
def DE (P:Program) (c:Ctx) (ops:Array Oper) (ws es:List Nat) (all:List (List Blk)) (k:(Nat->AV)->Prop):Nat->List (List Blk)->List Oper->(Nat->AV)->Prop
  | _,Ms,[],t=>Ms.length=1/\k t
  | i,Ms,o::rest,t =>
    (es.contains i=false/\∃ x d,o.dst=some d/\d<c.nt/\Aqt P c ops ws es all i t o x/\DE P c ops ws es all k (i+1) Ms rest (upd t d x)) \/
    (∃ j M M' Ms' x,es[j]? = some i/\Wa ws es i j=true/\all[j]? = some M/\all[j+1]? = some M'/\Ms=M::M'::Ms'/\Asx ops t o/\Auk P c ops t M M' o x/\(∀ d,o.dst=some d->d<c.nt) /\
      DE P c ops ws es all k (i+1) (M'::Ms') rest (match o.dst with|some d=>upd t d x|none=>t))
theorem Apm {T T':Nat->AV} {L:List Nat} (h:∀ x∈L,T x=T' x) (ζ:Nat->AV):mix T L ζ=mix T' L ζ:=by
  funext j
  unfold mix
  cases hc:L.contains j with
  | false=>rfl
  | true=>exact h j (by simpa using hc)
theorem Asx.congr {ops:Array Oper} {t t':Nat->AV} {o:Oper} (h:Asx ops t o) (ht:∀ y∈o.looksAt ops,t y=t' y):Asx ops t' o:=by
  rcases h with h|⟨j,want,dj,h1,h2,h3⟩
  · exact .inl h
  · exact .inr ⟨j,want,dj,h1,h2,by rw[<- ht dj (Gj h1 h2)];exact h3⟩
theorem Auk.congr {ops:Array Oper} {t t':Nat->AV} {M M':List Blk} {o:Oper} {x:AV} (h:Auk P c ops t M M' o x) (ht:∀ y∈o.looksAt ops,t y=t' y):Auk P c ops t' M M' o x:=by
  intro ζ
  have:=h ζ
  rwa [Apm ht ζ] at this
theorem DE.get {ops:Array Oper} {ws es:List Nat} {all:List (List Blk)} {k:(Nat->AV)->Prop}:∀ {l:List Oper} {i:Nat} {Ms:List (List Blk)} {t:Nat->AV},DE P c ops ws es all k i Ms l t->(Om l).Nodup->(∀ (q:Nat) (o:Oper),l[q]? = some o->∀ y∈o.looksAt ops,y∉Om (l.drop q)) ->
    ∃ T,k T/\(∀ y,y∉Om l->T y=t y)/\∀ (q:Nat) (o:Oper),l[q]? = some o ->
      (es.contains (i+q)=false/\∃ d,o.dst=some d/\d<c.nt/\Aqt P c ops ws es all (i+q) T o (T d)) \/
      (∃ j M M' x,es[j]? = some (i+q)/\Wa ws es (i+q) j=true/\all[j]? = some M/\all[j+1]? = some M'/\Asx ops T o/\Auk P c ops T M M' o x/\∀ d,o.dst=some d->d<c.nt/\T d=x)
  | [],i,Ms,t,h,_,_=>⟨t,h.2,λ_ _=>rfl,λq o h=>by simp at h⟩
  | o::rest,i,Ms,t,h,hnd,hl=>by
    have hlook:∀ y∈o.looksAt ops,y∉Om (o::rest):=λy hy=>by simpa using hl 0 o rfl y hy
    have hlt:∀ (q:Nat) (o':Oper),rest[q]? = some o'->∀ y∈o'.looksAt ops,y∉Om (rest.drop q):=λq o' h' y hy=>by
      have:=hl (q+1) o' (by simpa using h') y hy
      simpa using this
    rcases h with⟨hne,x,d,hd,hdn,hg,hr⟩|⟨j,M,M',Ms',x,h1,h2,h3,h4,h5,h6,h7,h8,hr⟩
    · have hds:Om (o::rest)=d::Om rest:=by simp [Om,hd]
      rw[hds] at hnd hlook
      have hnd':=xW.1 hnd
      obtain⟨T,hk,hT,hG⟩:=DE.get hr hnd'.2 hlt
      have hTl:∀ y∈o.looksAt ops,t y=T y:=λy hy=>by
        have:=hlook y hy
        simp only[yM,not_or] at this
        rw[hT y this.2,Ik,if_neg this.1]
      have hTd:T d=x:=by rw[hT d hnd'.1,Ik,if_pos rfl]
      refine⟨T,hk,λy hy=>?_,λq o' h'=>?_⟩
      · rw[hds] at hy
        simp only[yM,not_or] at hy
        rw[hT y hy.2,Ik,if_neg hy.1]
      · cases q with
        | zero =>
          simp only[yP,zW] at h'
          subst h'
          exact .inl ⟨hne,d,hd,hdn,by rw[hTd];exact hg.congr hTl⟩
        | succ q =>
          have:=hG q o' (by simpa using h')
          rw[show i+1+q=i+(q+1) by omega] at this
          exact this
    · cases hd:o.dst with
      | none =>
        have hds:Om (o::rest)=Om rest:=by simp [Om,hd]
        rw[hds] at hnd hlook
        rw[hd] at hr
        obtain⟨T,hk,hT,hG⟩:=DE.get hr hnd hlt
        have hTl:∀ y∈o.looksAt ops,t y=T y:=λy hy=>(hT y (hlook y hy)).symm
        refine⟨T,hk,λy hy=>hT y (by rw[hds] at hy;exact hy),λq o' h'=>?_⟩
        cases q with
        | zero =>
          simp only[yP,zW] at h'
          subst h'
          exact .inr ⟨j,M,M',x,h1,h2,h3,h4,h6.congr hTl,h7.congr hTl,λd h=>by rw[hd] at h;cases h⟩
        | succ q =>
          have:=hG q o' (by simpa using h')
          rw[show i+1+q=i+(q+1) by omega] at this
          exact this
      | some d =>
        have hds:Om (o::rest)=d::Om rest:=by simp [Om,hd]
        rw[hds] at hnd hlook
        have hnd':=xW.1 hnd
        rw[hd] at hr
        obtain⟨T,hk,hT0,hG⟩:=DE.get hr hnd'.2 hlt
        have hT:∀ y,y∉Om rest->T y=upd t d x y:=hT0
        have hTl:∀ y∈o.looksAt ops,t y=T y:=λy hy=>by
          have:=hlook y hy
          simp only[yM,not_or] at this
          rw[hT y this.2,Ik,if_neg this.1]
        have hTd:T d=x:=by rw[hT d hnd'.1,Ik,if_pos rfl]
        refine⟨T,hk,λy hy=>?_,λq o' h'=>?_⟩
        · rw[hds] at hy
          simp only[yM,not_or] at hy
          rw[hT y hy.2,Ik,if_neg hy.1]
        · cases q with
          | zero =>
            simp only[yP,zW] at h'
            subst h'
            refine .inr ⟨j,M,M',x,h1,h2,h3,h4,h6.congr hTl,h7.congr hTl,λd' h=>?_⟩
            rw[hd] at h
            cases h
            exact⟨h8 d hd,hTd⟩
          | succ q =>
            have:=hG q o' (by simpa using h')
            rw[show i+1+q=i+(q+1) by omega] at this
            exact this
theorem Ahn {o:Oper} {a:Act} {w:World} {K K':Act->World->Prop} {Q Q':Exit->Act->World->Prop} (h:∀ a w,K a w->K' a w) (hq:∀ e a w,e≠.normal->Q e a w->Q' e a w) (hh:o.wp P a w K Q):o.wp P a w K' Q':=by
  unfold Oper.wp at *
  generalize (execOp a.eval o).run P w=r at *
  cases r with
  | ok n w' =>
    cases n <;> simp only[Oper.upon] at hh ⊢ <;>
      first
        | exact h _ _ hh
        | exact Calls.mono hh (λe w'' he=>by cases e <;> first | exact h _ _ he | exact hq _ _ _ (by simp) he | exact he.imp λ_ he=>he.imp λ_ he=>hq _ _ _ (by simp) he)
        | exact Rows.mono hh (λ_ _ he=>h _ _ he)
        | exact hq _ _ _ (by simp) hh
        | exact hh.imp λ_ he=>he.imp λ_ he=>hq _ _ _ (by simp) he
        | exact hh
  | halt x w'=>cases x <;> simp only[Oper.upon] at hh ⊢ <;> first | exact hq _ _ _ (by simp) hh | exact hh.imp λ_ he=>he.imp λ_ he=>hq _ _ _ (by simp) he | exact hh
theorem Aeq.refl (m:List Blk):Aeq m m:=⟨rfl,λ_ _ h=>.inr h,λ_ _ _ _ _ h=>h⟩
theorem Met.set {listed:Array Bool} {o:Oper} {i:Nat} (h:Met listed o):Met (listed.setIfInBounds i true) o:=by
  intro e he hb
  have:=h e he hb
  simp only[zF,kL] at this ⊢
  split
  · split <;> simp_all
  · exact this
theorem Ug.set {ops:Array Oper} {listed:Array Bool} (h:Ug ops listed) {i:Nat} {o:Oper} (ho:ops[i]? = some o) (hm:Met listed o):Ug ops (listed.setIfInBounds i true):=by
  intro a oa ha hl
  by_cases e:a=i
  · subst e
    rw[ho] at ha
    cases ha
    exact hm.set
  · have:(listed.setIfInBounds i true).getD a false=listed.getD a false:=by
      simp only[zF,kL]
      rw[if_neg (λe'=>e e'.symm)]
    rw[this] at hl
    exact(h a oa ha hl).set
theorem Aal {p:Nat->Bool} {es:List Nat} {j:Nat} (hj:j<=es.length) (h1:∀ e∈es.take j,p e=true) (h2:∀ e∈es.drop j,p e=false):es.countP p=j:=by
  conv=>lhs;rw[<- xK j es]
  rw[List.countP_append,List.countP_eq_length.2 h1,List.countP_eq_zero.2 (λe he=>by rw[h2 e he];simp),zK]
  omega
theorem Asu {l:List Oper} (es ws:List Nat) (all:List (List Blk)) {last:List Blk} (hws:Oj l []=ws) (hok:Ab4 l.toArray=true) (hnd:es.Nodup) (hes:(es.all λe=>decide (e<l.length))=true) (hall:all.length=es.length+1) (h0:all[0]? = some m) (hlast:all[es.length]? = some last)
    (h:DE P c l.toArray ws es all (λT=>Q .normal ⟨T,last⟩) 0 all l t):AWD P c Q l ⟨t,m⟩:=by
  subst hws
  have ok:=Ads hok
  have hdn:(Om l).Nodup:=by
    have key:∀ (k:List Oper) (n:Nat),(∀ i o,k[i]? = some o->l[n+i]? = some o)->(Om k).Nodup:=by
      intro k
      induction k with
      | nil=>intro n _;exact kF
      | cons o r ih =>
        intro n hk
        have ih':=ih (n+1) (λi o' h'=>by have:=hk (i+1) o' (by simpa using h');rw[<- this];congr 1;omega)
        cases hd:o.dst with
        | none=>simpa [Om,hd] using ih'
        | some d =>
          have hds:Om (o::r)=d::Om r:=by simp [Om,hd]
          rw[hds]
          refine xW.2 ⟨λhmem=>?_,ih'⟩
          unfold Om at hmem
          rw[wQ] at hmem
          obtain⟨p,hp,hpd⟩:=hmem
          obtain⟨q,hq,hqp⟩:=yS hp
          have h1:=hk 0 o rfl
          have h2:=hk (q+1) p (by simp [hq,hqp])
          exact ok.ne n o (n+(q+1)) p (by simpa using h1) (by simpa using h2) (by omega) d hd hpd
    exact key l 0 (λi o h=>by simpa using h)
  obtain⟨T,hQ,hTt,hG⟩:=DE.get h hdn (Ay5 ok)
  let B:Array Bool->List Blk:=λlisted=>all.getD (es.countP λe=>listed.getD e false) []
  let HI:Array Bool->(Nat->Value)->Prop:=λlisted _=>Ug l.toArray listed
  have hws:∀ {listed:Array Bool},Ug l.toArray listed->∀ i,listed.getD i false=true->∀ j,((Oj l []).getD i 0).testBit j=true->listed.getD j false=true:=λhc =>
    Y8 hc l [] (λi o h=>by simpa using h) (λi h=>by simp at h)
  have hBj:∀ {j:Nat} {M:List Blk},all[j]? = some M->j<=es.length:=λh=>by
    have:=(zC.1 h).1;omega
  have huf:∀ {listed:Array Bool} {i:Nat},listed.size=l.toArray.size->i<l.length->listed.getD i true=false->listed.getD i false=false:=by
    intro listed i hs hi h
    simp only[zF] at h ⊢
    rw[zS (by rw[hs];simpa using hi)] at h ⊢
    exact h
  have exact_:∀ {listed:Array Bool} {i j:Nat} {o:Oper} {M:List Blk},Ug l.toArray listed->l[i]? = some o->Met listed o->listed.getD i false=false->Wa (Oj l []) es i j=true->all[j]? = some M->es.countP (λe=>listed.getD e false)=j:=by
    intro listed i j o M hc ho hmt hun hx hM
    unfold Wa at hx
    rw[yD,zI,zI] at hx
    refine Aal (hBj hM) (λe he=>?_) (λe he=>?_)
    · have:=Abu (ops:=l.toArray) hc (i:=i) (o:=o) (by simpa using ho) hmt (j:=e) (by simpa using hx.1 e he)
      exact this
    · have:=hx.2 e he
      rw[w9] at this
      cases hle:listed.getD e false with
      | false=>rfl
      | true =>
        rcases this with h|h
        · have e1:e=i:=by simpa using h
          rw[e1,hun] at hle;cases hle
        · have:=hws hc e hle i h
          rw[hun] at this;cases this
  have hBsame:∀ {listed:Array Bool} {i:Nat},es.contains i=false->B (listed.setIfInBounds i true)=B listed:=by
    intro listed i hi
    show all.getD _ []=all.getD _ []
    congr 1
    refine List.countP_congr λe he=>?_
    have : i ≠ e := fun e' => by subst e'; have : es.contains i = true := by simpa using he
                                 rw[hi] at this;cases this
    simp only[zF,yR this]
  have hlk:∀ {i:Nat} {o:Oper},l.toArray[i]? = some o->l[i]? = some o/\i<l.length:=λ{i o} h=>by
    have h':l[i]? = some o:=by simpa using h
    exact⟨h',(zC.1 h').1⟩
  refine Af7 (T:=T) (B:=B) (HI:=HI) ok (λi o ho=>?_) hTt (λa w S H r=>⟨H,?_,?_⟩) (λlisted hs hl=>?_)
  · obtain⟨ho',hil⟩:=hlk ho
    rcases hG i o ho' with⟨hne,d,hd,hdn,hg⟩|⟨j,M,M',x,h1,h2,h3,h4,h5,h6,h7⟩
    · rw[yE] at hne hg
      refine .inl λlisted H hs hun hmt hc=>?_
      have hBmem:B listed∈all:=by
        have hle:es.countP (λe=>listed.getD e false)<all.length:=by have:=jY (p:=λe=>listed.getD e false) (l:=es);omega
        show all.getD (es.countP λe=>listed.getD e false) []∈all
        simp only[List.getD,zB hle,yK]
        exact yY hle
      rcases hg with⟨md,hg,hmd⟩|hg
      · refine⟨md,⟨d,hd,hdn,hg⟩,?_,hBsame hne,hc.set ho hmt⟩
        rcases hmd with⟨j,hx,hM⟩|hmd
        · have:=exact_ hc ho' hmt (huf hs hil hun) hx hM
          show Aeq md (all.getD (es.countP λe=>listed.getD e false) [])
          rw[this]
          simp only[List.getD,hM,yK]
          exact Aeq.refl md
        · exact hmd _ hBmem
      · exact⟨B listed,⟨d,hd,hdn,hg _ hBmem⟩,Aeq.refl _,hBsame hne,hc.set ho hmt⟩
    · rw[yE] at h1 h2
      refine .inr ⟨h5,λlisted hs hun hmt a w S H r hc K Qn hK=>?_⟩
      have hcnt:=exact_ hc ho' hmt (huf hs hil hun) h2 h3
      have hcnt':es.countP (λe=>(listed.setIfInBounds i true).getD e false)=j+1:=by
        have hjl:=(zC.1 h1).1
        have hje:=(zC.1 h1).2
        have hx:=h2
        unfold Wa at hx
        rw[yD,zI,zI] at hx
        refine Aal (by omega) (λe he=>?_) (λe he=>?_)
        · by_cases hei:e=i
          · subst hei
            simp only[zF]
            rw[xE (by rw[hs];simpa using hil)];rfl
          · have hmem:e∈es.take j:=by
              rw[List.take_add_one,yH] at he
              rcases he with he|he
              · exact he
              · rw[h1] at he;simp at he;exact absurd he hei
            have:=Abu (ops:=l.toArray) hc (i:=i) (o:=o) ho hmt (j:=e) (by simpa using hx.1 e hmem)
            simp only[zF,yR (λe'=>hei e'.symm)] at this ⊢
            exact this
        · have hei:e≠i:=by
            intro e'
            subst e'
            obtain⟨q,hq,hqe⟩:=yS he
            rw[List.getElem_drop] at hqe
            have:=(List.getElem_inj hnd).1 (hqe.trans hje.symm)
            omega
          have hd':e∈es.drop j:=by
            rw[<- kM] at he
            exact w6 he
          have:=hx.2 e hd'
          rw[w9] at this
          simp only[zF,yR (λe'=>hei e'.symm)]
          cases hle:listed.getD e false with
          | false=>simpa [zF] using hle
          | true =>
            rcases this with h|h
            · exact absurd (by simpa using h) hei
            · have h9:=hws hc e hle i h
              rw[huf hs hil hun] at h9;cases h9
      have hB1:B listed=M:=by show all.getD _ []=M;rw[hcnt];simp [List.getD,h3]
      have hB2:B (listed.setIfInBounds i true)=M':=by show all.getD _ []=M';rw[hcnt'];simp [List.getD,h4]
      have hlook:=Aja (T:=T) ok hs ho hmt
      have hmix:mix T (o.looksAt l.toArray) (TL l.toArray T listed)=TL l.toArray T listed:=by
        funext y
        unfold mix
        cases hc':(o.looksAt l.toArray).contains y with
        | false=>rfl
        | true=>exact(hlook y (by simpa using hc')).symm
      have heff:=h6 (TL l.toArray T listed)
      rw[hmix] at heff
      rw[hB1] at r
      have hw:=heff a w S H r
      unfold wpList at hw
      rw[if_pos (by rfl)] at hw
      rcases hw with hw|⟨_,a',w',st',S',H',_,he,_⟩
      · refine Ahn (P:=P) (o:=o) ?_ ?_ (show o.wp P a w _ _ from hw)
        · rintro a' w' ⟨st',S',H',r',_,rfl⟩
          refine hK a' w' S' H' ?_ (hc.set ho hmt)
          rw[hB2]
          cases hd:o.dst with
          | none =>
            rw[hd] at r'
            rw[<- Abt ho hd]
            exact r'
          | some d =>
            rw[hd] at r'
            rw[<- Aql (T:=T) ok hs ho hun hd,(h7 d hd).2]
            exact r'
        · rintro e a' w' hne ⟨st',S',H',r',he,_⟩
          exact absurd he hne
      · cases he
  · have:B (Array.replicate l.toArray.size false)=m:=by
      show all.getD _ []=m
      have h9:es.countP (λe=>(Array.replicate l.toArray.size false).getD e false)=0:=by
        refine List.countP_eq_zero.2 λe _=>?_
        simp only[zF,xZ]
        split <;> simp
      rw[h9]
      simp [List.getD,h0]
    rw[this]
    exact r
  · intro i o _ hl
    simp only[zF,xZ] at hl
    split at hl <;> simp at hl
  · have hin:∀ e∈es,e<l.length:=λe he=>by simpa using zI.1 hes e he
    have h9:es.countP (λe=>listed.getD e false)=es.length:=by
      refine List.countP_eq_length.2 λe he=>?_
      have h1:=hl e (by simpa using hin e he)
      have h2:e<listed.size:=by rw[hs];simpa using hin e he
      simp only[zF,zS h2,yK] at h1 ⊢
      exact h1
    have:B listed=last:=by
      show all.getD _ []=last
      rw[h9]
      simp [List.getD,hlast]
    rw[this]
    exact hQ
theorem Kb {id:Nat} {l:List Oper} (es ws:List Nat) (all:List (List Blk)) {last:List Blk} (hws:Oj l []=ws) (hm:P.follows .mixedOrders=true) (hok:Ab4 l.toArray=true) (hnd:es.Nodup) (hes:(es.all λe=>decide (e<l.length))=true) (hall:all.length=es.length+1) (h0:all[0]? = some m) (hlast:all[es.length]? = some last)
    (h:DE P c l.toArray ws es all (λT=>Q .normal ⟨T,last⟩) 0 all l t):AWC P c (.region id l.toArray true) Q ⟨t,m⟩:=(Asu es ws all hws hok hnd hes hall h0 hlast h).awc hm
variable {ops:Array Oper} {ws es:List Nat} {all Ms:List (List Blk)} {k:(Nat->AV)->Prop} {rest:List Oper} {op:Op} {ty:TypeId} {pos:String} {af:Array Edge} {d:Tmp} {x:AV} {i:Nat}
def Aya (ws es:List Nat) (all:List (List Blk)) (i:Nat) (md:List Blk):Prop:=(∃ j,Wa ws es i j=true/\all[j]? = some md)\/∀ M∈all,Aeq md M
theorem A6 (j:Nat) {md:List Blk} (h:Wa ws es i j=true) (hm:all[j]? = some md):Aya ws es all i md:=.inl ⟨j,h,hm⟩
theorem Adr {M:List Blk} (h:k t):DE P c ops ws es all k i [M] [] t:=⟨rfl,h⟩
theorem ev {md:List Blk} (hs:Aya ws es all i md) (hi:es.contains i=false) (hd:decide (d<c.nt)=true) (h:OpV P c ⟨Up t (Oper.looksAt ops ⟨some d,op,ty,pos,af,none⟩),md⟩ op ty x) (kk:DE P c ops ws es all k (i+1) Ms rest (upd t d x)):DE P c ops ws es all k i Ms (⟨some d,op,ty,pos,af,none⟩::rest) t :=
  .inl ⟨hi,x,d,rfl,of_decide_eq_true hd,.inl ⟨md,.inl ⟨.inl rfl,h.opD⟩,hs⟩,kk⟩
theorem emv (hi:es.contains i=false) (hd:decide (d<c.nt)=true) (h:∀ md,OpV P c ⟨Up t (Oper.looksAt ops ⟨some d,op,ty,pos,af,none⟩),md⟩ op ty x) (kk:DE P c ops ws es all k (i+1) Ms rest (upd t d x)):DE P c ops ws es all k i Ms (⟨some d,op,ty,pos,af,none⟩::rest) t :=
  .inl ⟨hi,x,d,rfl,of_decide_eq_true hd,.inr λ_ _=>.inl ⟨.inl rfl,(h _).opD⟩,kk⟩
theorem evg {md:List Blk} {j:Nat} {want:Bool} {dj:Tmp} (hs:Aya ws es all i md) (hi:es.contains i=false) (hd:decide (d<c.nt)=true) (hj:(ops[j]?).bind (·.dst)=some dj) (ht:t dj=.s (.one (.b want))) (h:OpV P c ⟨Up t (Oper.looksAt ops ⟨some d,op,ty,pos,af,some (j,want)⟩),md⟩ op ty x) (kk:DE P c ops ws es all k (i+1) Ms rest (upd t d x)):DE P c ops ws es all k i Ms (⟨some d,op,ty,pos,af,some (j,want)⟩::rest) t :=
  .inl ⟨hi,x,d,rfl,of_decide_eq_true hd,.inl ⟨md,.inl ⟨.inr ⟨j,want,dj,rfl,hj,ht⟩,h.opD⟩,hs⟩,kk⟩
theorem ed {md:List Blk} (hs:Aya ws es all i md) (hi:es.contains i=false) (hd:decide (d<c.nt)=true) (h:OpD P c ⟨Up t (Oper.looksAt ops ⟨some d,op,ty,pos,af,none⟩),md⟩ op ty x) (kk:DE P c ops ws es all k (i+1) Ms rest (upd t d x)):DE P c ops ws es all k i Ms (⟨some d,op,ty,pos,af,none⟩::rest) t :=
  .inl ⟨hi,x,d,rfl,of_decide_eq_true hd,.inl ⟨md,.inl ⟨.inl rfl,h⟩,hs⟩,kk⟩
theorem Ahy {j:Nat} {want b:Bool} {dj:Tmp} (hi:es.contains i=false) (hd:decide (d<c.nt)=true) (hj:(ops[j]?).bind (·.dst)=some dj) (ht:t dj=.s (.one (.b b))) (hb:(b==want)=false) (kk:DE P c ops ws es all k (i+1) Ms rest (upd t d (.tup []))):DE P c ops ws es all k i Ms (⟨some d,op,ty,pos,af,some (j,want)⟩::rest) t :=
  .inl ⟨hi,.tup [],d,rfl,of_decide_eq_true hd,.inr λ_ _=>.inr ⟨⟨j,want,dj,rfl,hj,.inr ⟨b,ht,hb⟩⟩,rfl⟩,kk⟩
theorem Aug {l:List Oper} (dj:Tmp) {b:Bool} (ht:t dj=.s (.one (.b b))) (k1:b=true->DE P c ops ws es all k i Ms l (upd t dj (.s (.one (.b true))))) (k0:b=false->DE P c ops ws es all k i Ms l (upd t dj (.s (.one (.b false))))):DE P c ops ws es all k i Ms l t:=by
  cases b
  · have:=k0 rfl
    rwa [Ti ht] at this
  · have:=k1 rfl
    rwa [Ti ht] at this
theorem ee (j:Nat) {M M':List Blk} (he:es[j]? = some i) (hx:Wa ws es i j=true) (h1:all[j]? = some M) (h2:all[j+1]? = some M') (hd:decide (d<c.nt)=true)
    (h:∀ ζ,AWL P c ops (λe st=>e=.normal/\st=⟨upd (mix t (Oper.looksAt ops ⟨some d,op,ty,pos,af,none⟩) ζ) d x,M'⟩) [⟨some d,op,ty,pos,af,none⟩] ⟨mix t (Oper.looksAt ops ⟨some d,op,ty,pos,af,none⟩) ζ,M⟩)
    (kk:DE P c ops ws es all k (i+1) (M'::Ms) rest (upd t d x)):DE P c ops ws es all k i (M::M'::Ms) (⟨some d,op,ty,pos,af,none⟩::rest) t :=
  .inr ⟨j,M,M',Ms,x,he,hx,h1,h2,rfl,.inl rfl,h,λd' h'=>by cases h';exact of_decide_eq_true hd,kk⟩
theorem eeg (j:Nat) {M M':List Blk} {jj:Nat} {want:Bool} {dj:Tmp} (he:es[j]? = some i) (hx:Wa ws es i j=true) (h1:all[j]? = some M) (h2:all[j+1]? = some M') (hd:decide (d<c.nt)=true) (hj:(ops[jj]?).bind (·.dst)=some dj) (ht:t dj=.s (.one (.b want)))
    (h:∀ ζ,AWL P c ops (λe st=>e=.normal/\st=⟨upd (mix t (Oper.looksAt ops ⟨some d,op,ty,pos,af,some (jj,want)⟩) ζ) d x,M'⟩) [⟨some d,op,ty,pos,af,none⟩] ⟨mix t (Oper.looksAt ops ⟨some d,op,ty,pos,af,some (jj,want)⟩) ζ,M⟩)
    (kk:DE P c ops ws es all k (i+1) (M'::Ms) rest (upd t d x)):DE P c ops ws es all k i (M::M'::Ms) (⟨some d,op,ty,pos,af,some (jj,want)⟩::rest) t :=
  .inr ⟨j,M,M',Ms,x,he,hx,h1,h2,rfl,.inr ⟨jj,want,dj,rfl,hj,ht⟩,h,λd' h'=>by cases h';exact of_decide_eq_true hd,kk⟩
theorem ee0 (j:Nat) {M M':List Blk} (he:es[j]? = some i) (hx:Wa ws es i j=true) (h1:all[j]? = some M) (h2:all[j+1]? = some M')
    (h:∀ ζ,AWL P c ops (λe st=>e=.normal/\st=⟨mix t (Oper.looksAt ops ⟨none,op,ty,pos,af,none⟩) ζ,M'⟩) [⟨none,op,ty,pos,af,none⟩] ⟨mix t (Oper.looksAt ops ⟨none,op,ty,pos,af,none⟩) ζ,M⟩)
    (kk:DE P c ops ws es all k (i+1) (M'::Ms) rest t):DE P c ops ws es all k i (M::M'::Ms) (⟨none,op,ty,pos,af,none⟩::rest) t :=
  .inr ⟨j,M,M',Ms,.top,he,hx,h1,h2,rfl,.inl rfl,h,(λd' h'=>by cases h'),kk⟩
theorem U9 {st:AS} {ops':Array Oper}:AWL P c ops' (λe s=>e=.normal/\s=st) [] st:=Ai4 ⟨rfl,rfl⟩
def Ada:List Blk->List Blk->Prop
  | [],[]=>True
  | .dead::r,b::r'=>(match b with | .arr .. =>False | _=>True)/\Ada r r'
  | a::r,b::r'=>a=b/\Ada r r'
  | _,_=>False
theorem Aiz:∀ {md M:List Blk},Ada md M->Aeq md M
  | [],[],_=>Aeq.refl []
  | [],_::_,h=>h.elim
  | a::r,[],h=>by cases a <;> exact h.elim
  | a::r,b::r',h=>by
    have h':(a=.dead/\(∀ e sz k cs,b≠.arr e sz k cs)/\Ada r r')\/(a=b/\Ada r r'):=by
      cases a with
      | dead=>exact .inl ⟨rfl,λe sz k cs e'=>by subst e';exact h.1,h.2⟩
      | hole=>exact .inr h
      | obj g mk cs=>exact .inr h
      | tab mk cs=>exact .inr h
      | box cs=>exact .inr h
      | arr e sz k cs=>exact .inr h
    have ih:=Aiz (show Ada r r' by rcases h' with h'|h';exact h'.2.2;exact h'.2)
    refine⟨by simp [ih.len],λp x hx=>?_,λp e sz k cs hx=>?_⟩
    · cases p with
      | zero =>
        simp only[yP,zW] at hx
        subst hx
        rcases h' with h'|h'
        · exact .inl h'.1
        · exact .inr (by simp [h'.1])
      | succ p=>exact ih.at_ p x (by simpa using hx)
    · cases p with
      | zero =>
        simp only[yP,zW] at hx
        rcases h' with h'|h'
        · exact absurd hx (h'.2.1 e sz k cs)
        · simp [h'.1,hx]
      | succ p=>exact ih.arr p e sz k cs (by simpa using hx)
def Acu (md:List Blk):List (List Blk)->Prop
  | []=>True
  | M::r=>Ada md M/\Acu md r
theorem Aee {md:List Blk}:∀ {l:List (List Blk)},Acu md l->∀ M∈l,Aeq md M
  | [],_,M,h=>by simp at h
  | N::r,h,M,hm=>by
    rcases yM.1 hm with rfl|hm
    · exact Aiz h.1
    · exact Aee h.2 M hm
theorem B9 {md:List Blk} (h:Acu md all):Aya ws es all i md:=.inr (Aee h)
end
open Go.RowKit
section
variable {P:Program} {c:Ctx} {st:AS} {ty:TypeId}
theorem Ad1 {op:Op} {e sz n:Nat} {cs:List Lf} (hsz:0<sz) (h:Afz P c st op ty e sz n cs):OpD P c st op ty (.s (.one (.sl n cs))):=by
  intro a w S H r dst pos af g K Q hK
  obtain⟨v,w',vals,hrun,hext,hin,hown,hls⟩:=h a w S H r
  unfold Oper.wp
  rw[hrun]
  let S':Cq:=λb i=>S b i\/(E4 v=some b/\i<cs.length)
  have hge:∀ b,E4 v=some b->w.heap.size<=b/\b<w'.heap.size:=by
    intro b hb
    rcases hown.2 with⟨hv,_⟩|⟨g',cap,cur,hv,h1,h2,_⟩
    · rw[hv] at hb;cases hb
    · rw[hv] at hb
      cases hb
      exact⟨h1,(yB.1 h2).1⟩
  have hext':Ext w S w' S':=⟨hext.os,hext.tape,hext.output,hext.size,hext.blk,λb i hs=>.inl (hext.sub b i hs),λb i hb hs=>by
    rcases hs with hs|hs
    · exact hext.back b i hb hs
    · have:=(hge b hs.1).1;omega⟩
  have hin':InH w' S':=⟨λb i hs=>by
    rcases hs with hs|hs
    · exact hin.1 b i hs
    · exact(hge b hs.1).2,hin.2.1.mono λb i hs=>⟨.inl hs,rfl⟩,hin.2.2.add λb i hs=>by
      rcases hs with hs|hs
      · exact .inl hs
      · refine .inr ⟨?_,λj hj=>by have:=r.sl.1 b j hj;have:=(hge b hs.1).1;omega⟩
        rcases hown.2 with⟨hv,_⟩|⟨g',cap,cur,hv,hbg,hg,_⟩
        · rw[hv] at hs;cases hs.1
        · have hb:E4 v=some b:=hs.1
          rw[hv] at hb
          cases hb
          have hi:i<vals.length:=by rw[<- hls.1];exact hs.2
          have:=hown.cells (g:=g') (by rw[hv];rfl) i _ (zB hi)
          rw[Addr.add_lit,yE] at this
          exact λh=>by rw[show w'.cell? ⟨g',i,none⟩=some _ from this] at h;cases h⟩
  refine hK v w' S' hext' hin' (I1 ?_)
  have hnl:n*sz=cs.length:=by rw[<- hown.1,hls.1]
  rcases hown.2 with⟨hv,h0⟩|⟨g',cap,cur,hv,hbg,hg,hnc,hcm,hcs,htake⟩
  · subst h0
    have:cs=[]:=zY (by rw[<- hnl,wT])
    subst this
    rw[hv]
    exact .sl0 _ _
  · rw[hv]
    refine Rep.sl n cs g' 0 cap (λj=>vals.getD j undef) hnc hcm (λj l hl=>?_) (λj l hl=>?_)
    · have hj:j<cs.length:=(zC.1 hl).1
      obtain⟨u,hu,_⟩:=hls.get hl
      refine⟨.inr ⟨by rw[hv];simp [E4],by omega⟩,?_⟩
      have:=hown.cells (g:=g') (by rw[hv];rfl) j u hu
      rw[Addr.add_lit] at this
      rw[this]
      simp [List.getD,hu]
    · obtain⟨u,hu,hr⟩:=hls.get hl
      have:vals.getD j undef=u:=by simp [List.getD,hu]
      rw[this]
      exact Rep.mono (λb i h=>⟨.inl h,rfl⟩) hr
variable {α:Type} {f:α->List Lf} {sz:Nat}
theorem Zw {t e sz bytes len:Nat} {zl out:List Lf} {parts:Array (Nat×Operand)} {xs:List (Nat×SV)} (si:P.underlying t=some (.slice e)) (ei:EI P e sz bytes zl) (hp:Ac1 st parts.toList xs)
    (hb:Y3 (λi:Nat=>some (i*sz,sz)) (Ac5 zl (len*sz)) xs out) (hout:out.all Lf.pubd=true) (hlen:len*sz<=16777216):OpD P c st (.buildSlice t len parts) ty (.s (.one (.sl len out))) :=
  Ad1 ei.p (Tm si ei hp hb (zI.1 hout) hlen)
theorem V5 {callee:Operand} {g:FuncId} {la lb:List Lf} {args:Array Operand} {ats:Array TypeId} {xs:List SV} {r:AV} (hf:FnI P g) (hcal:Cal st callee g la lb) (ho:Zv st args.toList xs) (hp:(la.map SV.one++xs++lb.map SV.one).all (λx=>x.cells.all Lf.pubd)=true) (hc:Bt P g (la.map SV.one++xs++lb.map SV.one) (·=r)) :
    OpD P c st (.call { callee:=.value callee,args:=args,argTypes:=ats }) ty r:=by
  intro a w S H rr dst pos af gd K Q hK
  obtain⟨va,vb,hv,h1,h2⟩:=hcal.val rr
  have hsv:=Wo (Wo (Abe h1) (Wd rr ho)) (Abe h2)
  have hsr:Zd (Rep w S) (la.map SV.one++xs++lb.map SV.one) (va.toList++args.toList.map a.eval++vb.toList) :=
    ⟨hsv.1,λj x v hx hv'=>Aou (hsv.2 j x v hx hv') (zI.1 hp x (zJ hx))⟩
  unfold Oper.wp
  have hrun:(execOp a.eval ⟨dst,.call { callee:=.value callee,args:=args,argTypes:=ats },ty,pos,af,gd⟩).run P w=.ok (.enter g (va++args.map a.eval++vb)) w:=by
    simp [execOp,resolve,hv,Deferred.ofValue,invoke,hf.run]
  rw[hrun]
  refine(hc w S (va++args.map a.eval++vb) rr.sl (by simpa using hsr)).mono ?_
  rintro e w' ⟨v,x,S',rfl,rfl,hext,hin,hav⟩
  exact hK v w' S' hext hin (Aad hav)
end
section
variable {P:Program} {c:Ctx} {t:Nat->AV} {m:List Blk} {ops:Array Oper} {Q:Exit->AS->Prop} {rest:List Oper} {op:Op} {ty:TypeId} {pos:String} {af:Array Edge} {d:Tmp} {x:AV}
theorem sd (hd:decide (d<c.nt)=true) (h:OpD P c ⟨t,m⟩ op ty x) (k:AWL P c ops Q rest ⟨upd t d x,m⟩):AWL P c ops Q (⟨some d,op,ty,pos,af,none⟩::rest) ⟨t,m⟩:=by
  intro a w S H r
  refine wpList_plain rfl λK hK=>?_
  exact h a w S H r (some d) pos af none K _ (λv w' S' hext hin hav=>hK _ _ (k _ _ _ _ ((r.ext hext hin).put (of_decide_eq_true hd) hav)))
theorem Ai6 {t' e sz bytes len:Nat} {zl out:List Lf} {parts:Array (Nat×Operand)} {xs:List (Nat×SV)} (hd:decide (d<c.nt)=true) (si:P.underlying t'=some (.slice e)) (ei:EI P e sz bytes zl) (hp:Ac1 ⟨t,m⟩ parts.toList xs)
    (hb:Y3 (λi:Nat=>some (i*sz,sz)) (Ac5 zl (len*sz)) xs out) (hout:out.all Lf.pubd=true) (hlen:len*sz<=16777216)
    (k:AWL P c ops Q rest ⟨upd t d (.s (.one (.ls m.length len))),m++[.arr e sz 0 out]⟩):AWL P c ops Q (⟨some d,.buildSlice t' len parts,ty,pos,af,none⟩::rest) ⟨t,m⟩ :=
  Wq ei.p (of_decide_eq_true hd) (Tm si ei hp hb (zI.1 hout) hlen) k
end
open Go.RowKit
section
variable {P:Program} {c:Ctx} {st:AS} {t:Nat->AV} {m:List Blk} {ops:Array Oper} {Q:Exit->AS->Prop} {rest:List Oper} {ty:TypeId} {pos:String} {af:Array Edge} {d:Tmp}
theorem Afl {xt yt e n:Nat} {x:Operand} {cs:List Lf} (hd:decide (d<c.nt)=true) (hu:P.underlying xt=some (.slice e)) (hx:C6 ⟨t,m⟩ x=.s (.one (.sl n cs)))
  (k:∀ b,(b=true->n=0)->AWL P c ops Q rest ⟨upd t d (.s (.one (.b b))),m⟩):AWL P c ops Q (⟨some d,.binOp .eql xt x (.const (.slice none 0 0)) yt,ty,pos,af,none⟩::rest) ⟨t,m⟩:=by
 intro a w S H r
 have hx':=B1 r x
 rw[hx] at hx'
 have hx'':Rep w S (.sl n cs) (a.eval x):=hx'
 refine wpList_plain rfl λK hK=>?_
 unfold Oper.wp
 have key:∀ b,(b=true->n=0)->(execOp a.eval ⟨some d,.binOp .eql xt x (.const (.slice none 0 0)) yt,ty,pos,af,none⟩).run P w=.ok (.value (.bool b)) w->Oper.upon P ⟨some d,.binOp .eql xt x (.const (.slice none 0 0)) yt,ty,pos,af,none⟩ a K (QR c Q) ((execOp a.eval ⟨some d,.binOp .eql xt x (.const (.slice none 0 0)) yt,ty,pos,af,none⟩).run P w):=by
  intro b hb hrun
  rw[hrun]
  exact hK _ _ (k b hb _ _ _ _ (r.put (d:=d) (x:=.s (.one (.b b))) (of_decide_eq_true hd) (I1 (.b b))))
 generalize hv:a.eval x=v at hx''
 have hc:a.eval (.const (.slice none 0 0))=.slice none 0 0:=rfl
 cases hx'' with
 | sl0 ad cap =>
  refine key ad.isNone (λ_=>rfl) ?_
  cases ad <;> simp [execOp,hv,hc,eqGuard,binOp,run_underlying hu,run_equal_slice_nil w xt e _ _ _ hu]
 | sl n cs bk off cap vals hcn hm hs hr =>
  refine key false (λh=>by cases h) ?_
  simp [execOp,hv,hc,eqGuard,binOp,run_underlying hu,run_equal_slice_nil w xt e _ _ _ hu]
end
open Go.RowKit
section
variable {P:Program} {c:Ctx} {st:AS} {ty:TypeId}
theorem G9 {t:TypeId} {x:Operand} {e sz:Nat} (si:SI P t e sz) (hx:C6 st x=.s (.one (.raw (.slice none 0 0)))) :
  OpV P c st (.call { callee:=.builtin .cap,args:=#[x],argTypes:=#[t] }) ty (.s (.one (.i .i64 0))):=by
 intro a w S H r
 have hx':=B1 r x
 rw[hx] at hx'
 have hv:a.eval x=.slice none 0 0:=Lu hx'
 refine⟨.int .i64 0,I1 (.i _ _),λ_ _ _ _=>?_⟩
 simp [execOp,resolve,invoke,builtin,Builtin.cap_,run_underlying si.u,hv,goInt]
theorem Oh {t:TypeId} {x o:Operand} {e sz:Nat} {k:IntKind} (si:SI P t e sz) (hx:C6 st x=.s (.one (.raw (.slice none 0 0)))) (ho:C6 st o=.s (.one (.i k 0))) :
  OpV P c st (.slice t x none (some o) none) ty (.s (.one (.raw (.slice none 0 0)))):=by
 intro a w S H r
 have hx':=B1 r x
 rw[hx] at hx'
 have hv:a.eval x=.slice none 0 0:=Lu hx'
 refine⟨.slice none 0 0,I1 (.raw _ rfl),λ_ _ _ _=>?_⟩
 have hb:=Um (P:=P) r ho (xU 0) 0 (zX _) .sliceAcap
 simp only[Int.toNat_zero] at hb
 simp [execOp,hv,Instr.sliceAt,Instr.slice,run_underlying si.u,Instr.sliceBounds,Di si.i,hb]
end
section
variable {P:Program} {c:Ctx} {t:Nat->AV} {m:List Blk} {ops:Array Oper} {Q:Exit->AS->Prop} {rest:List Oper} {ty:TypeId} {pos:String} {af:Array Edge} {d:Tmp} {α:Type} {f:α->List Lf} {sz:Nat}
theorem Axj {x y:Operand} {t' t2 e bytes:Nat} {zl:List Lf} {k kn:IntKind} {n:Int} {z:α} (hd:decide (d<c.nt)=true) (si:P.underlying t'=some (.slice e)) (ei:EI P e sz bytes zl) (h2:P.underlying t2=some (.int kn)) (hf:∀ x,(f x).length=sz) (hz:f z=zl) (hx:C6 ⟨t,m⟩ x=.s (.one (.raw (.slice none 0 0)))) (hy:C6 ⟨t,m⟩ y=.s (.one (.i k n)))
  (h:0<n/\n*(bytes:Int)<=281474976710656) (hb:0<bytes)
  (kk:AWL P c ops Q rest ⟨upd t d (.s (.one (.ls m.length (List.replicate n.toNat z).length))),m++[.arr e sz 0 ((List.replicate n.toNat z).flatMap f)]⟩) :
  AWL P c ops Q (⟨some d,.call { callee:=.builtin .append,args:=#[x,y],argTypes:=#[t',t2] },ty,pos,af,none⟩::rest) ⟨t,m⟩:=by
 obtain⟨N,rfl⟩:∃ N:Nat,n=(N:Int):=⟨n.toNat,by omega⟩
 have hN:0<N:=by omega
 have h48:N*bytes<=281474976710656:=by have:=h.2;rw[<- Int.natCast_mul] at this;omega
 have hle:N<=N*bytes:=kW _ hb
 rw[zT,jZ,<- Ahi hz hf] at kk
 refine Wq (e:=e) (sz:=sz) (n:=N) (cs:=Ac5 zl (N*sz)) ei.p (of_decide_eq_true hd) (λa w S H r=>?_) kk
 obtain⟨i,zz,hi,hzz,hsize,hbytes,hzs,hzl,hzo⟩:=ei.h
 have hx':=B1 r x
 rw[hx] at hx'
 have hv:a.eval x=.slice none 0 0:=Lu hx'
 have hy':=B1 r y
 rw[hy] at hy'
 have ev:a.eval y=.int k N:=U3 hy'
 subst hsize hbytes
 have hrun:=Lib.run_append_nil_zeros (P:=P) w t' t2 ty e i zz k kn si h2 hi hzz N hN ei.p (by omega) h48
 have hcap:=grownCap_ge w N 0 e
 have hcm:grownCap w N 0 e<=maxLen:=grownCap_le_maxLen w N 0 e (by simp only[maxLen];omega)
 have hlen1:(Builtin.zeroCells zz.cells N).size=N*i.size:=by rw[size_zeroCells,hzs]
 refine⟨.slice (some ⟨w.heap.size,0,none⟩) N (grownCap w N 0 e),w.drew.alloc (.cells (Builtin.zeroCells zz.cells N++Builtin.zeroCells zz.cells (grownCap w N 0 e-N)) e),(Builtin.zeroCells zz.cells N).toList,λ_ _ _ _=>by simp [execOp,resolve,invoke,builtin,hv,ev,hrun],?_,r.sl.ext ((Ext.drew w S).trans (Ext.alloc w.drew S _)),?_,?_⟩
 ·exact(Ext.drew w S).trans (Ext.alloc w.drew S _)
 ·refine⟨by rw[z8,hlen1],.inr ⟨w.heap.size,grownCap w N 0 e,_,rfl,zN _,heap_alloc_new w.drew _,hcap,hcm,?_,?_⟩⟩
  ·simp only[yQ,size_zeroCells,hzs,<- xP]
   congr 1;omega
  ·simp only[xJ]
   rw[xX (by rw[z8,hlen1])]
 ·have:=Aeu (w:=w.drew.alloc (.cells (Builtin.zeroCells zz.cells N++Builtin.zeroCells zz.cells (grownCap w N 0 e-N)) e)) (S:=S) (z:=zz) (by rw[hzs];exact ei.p) hzo (N*i.size) (N*i.size) (zN _)
  have e2:(madeCells zz.cells (N*i.size)).toList.take (N*i.size)=(Builtin.zeroCells zz.cells N).toList:=by
   rw[yX (by rw[z8,size_madeCells];exact zN _)]
   unfold madeCells Builtin.zeroCells
   rw[hzs]
  rw[e2] at this
  rw[<- hzl]
  exact this
theorem Aei {x o:Operand} {t' e p n:Nat} {cs:List Lf} {xs:List α} {k:IntKind} {j:Int} (hd:decide (d<c.nt)=true) (si:SI P t' e sz) (hf:∀ x,(f x).length=sz) (hx:C6 ⟨t,m⟩ x=.s (.one (.ls p n))) (hm:m[p]? = some (.arr e sz 0 cs)) (hcs:cs=xs.flatMap f) (hn:n=xs.length) (ho:C6 ⟨t,m⟩ o=.s (.one (.i k j))) (h:0<=j/\j<=xs.length)
  (kk:AWL P c ops Q rest ⟨upd t d (.s (.one (.ls m.length (xs.take j.toNat).length))),m.set p .dead++[.arr e sz 0 ((xs.take j.toNat).flatMap f)]⟩) :
  AWL P c ops Q (⟨some d,.slice t' x none (some o) none,ty,pos,af,none⟩::rest) ⟨t,m⟩:=by
 intro a w S H r
 have hx':=B1 r x
 rw[hx] at hx'
 obtain⟨hp,_,hr⟩:=hx'
 have hnl:n*sz=cs.length:=by rw[hcs,Aw hf,hn]
 have hv:a.eval x=H p:=(hr _ _ _ _ hm).2 hnl
 obtain⟨hsz,hk,n0,vals,hown,hls,hst⟩:=r.bl p _ hm
 have hn0:n0=n:=Q8 hown hsz (by rw[<- hls.1];exact hnl)
 subst hn0
 have hjn:j.toNat<=n0:=by omega
 have hfl:(xs.take j.toNat).flatMap f=cs.take (j.toNat*sz):=by rw[hcs,Yn hf]
 have htl:(xs.take j.toNat).length=j.toNat:=by rw[zK];omega
 have hsetl:m.set p .dead=m.set p .dead:=rfl
 have hhead:∃ v',(∀ dst pos af g,(execOp a.eval ⟨dst,.slice t' x none (some o) none,ty,pos,af,g⟩).run P w=.ok (.value v') w)/\w.ownsRow 0 e sz v' j.toNat (vals.take (j.toNat*sz))/\(∀ g,E4 v'=some g->E4 (H p)=some g)/\v'.oneCell'=true:=by
  have hvl:(vals.take (j.toNat*sz)).length=j.toNat*sz:=by rw[zK,hown.1,w8 (xA _ hjn)]
  rcases hown.2 with⟨h1,h0⟩|⟨g,cap,cur,h1,h2,h3,h4,h5,h6,h7⟩
  ·have hj0:j=0:=by omega
   subst hj0
   have hb:=Um (P:=P) r ho (xU 0) 0 (zX _) .sliceAcap
   simp only[Int.toNat_zero] at hb
   refine⟨.slice none 0 0,λ_ _ _ _=>by simp [execOp,hv,h1,Instr.sliceAt,Instr.slice,run_underlying si.u,Instr.sliceBounds,Di si.i,hb],⟨hvl,.inl ⟨rfl,rfl⟩⟩,(λg hg=>by cases hg),rfl⟩
  ·have hb:=Um (P:=P) r ho h.1 cap (by omega) .sliceAcap
   refine⟨.slice (some ⟨g,0,none⟩) j.toNat cap,λ_ _ _ _=>by simp [execOp,hv,h1,Instr.sliceAt,Instr.slice,run_underlying si.u,Instr.sliceBounds,Di si.i,hb,show(⟨g,0,none⟩:Addr).add 0=⟨g,0,none⟩ from Addr.add_lit _ _ _],⟨hvl,.inr ⟨g,cap,cur,rfl,h2,h3,by omega,h5,h6,?_⟩⟩,λg' hg=>by rw[h1];exact hg,rfl⟩
   rw[<- h7,List.take_take,w8 (xA _ hjn)]
 obtain⟨v',hrun,hown',hvo,hone⟩:=hhead
 have r1:Rel c ⟨t,m.set p .dead⟩ a w S (Ud H p (H p)):=by
  refine r.change (p:=p) (b':=.dead) (v:=H p) (by simp) (by simp [hp]) (λq hq=>zZ (λe=>hq e.symm)) (λb i h=>⟨h,rfl⟩) (λg _ h=>rfl) (λe sz k cs _ h=>by cases h)
   (λg _ _=>rfl) trivial (λg hg=>by cases hg) (λq b g i _ _ _ h=>h) (λg i _ _ h=>h) r.sl.two (zN _) rfl rfl rfl (λ_ _ h=>h)
 have hml:(m.set p Blk.dead).length=m.length:=by simp
 have r2:Rel c ⟨t,m.set p .dead++[.arr e sz 0 ((xs.take j.toNat).flatMap f)]⟩ a w S (Ud (Ud H p (H p)) m.length v'):=by
  refine r1.change (p:=m.length) (b':=.arr e sz 0 ((xs.take j.toNat).flatMap f)) (v:=v') (by simp) (by rw[<- hml];simp) (λq hq=>?_) (λb i h=>⟨h,rfl⟩) (λg h=>absurd h (by rw[hml];exact wD _)) (λe sz k cs h=>absurd h (by rw[hml];exact wD _))
   (λg _ _=>rfl) ⟨hsz,zX _,j.toNat,vals.take (j.toNat*sz),hown',?_,λg _ i hi=>absurd hi (zR _)⟩ (λg hg=>?_) (λq b g i _ _ _ h=>h) (λg i _ _ h=>h) r1.sl.two (zN _) rfl rfl rfl
  ·rcases zO q (m.set p Blk.dead).length with h|h
   ·rw[zL h]
   ·rw[yG (by simp at h ⊢;omega),yG h]
  ·rw[hfl]
   refine⟨by rw[zK,zK,hls.1],λq l u h1 h2=>?_⟩
   rw[yL] at h1 h2
   split at h1
   ·rename_i hq
    rw[if_pos hq] at h2
    exact hls.2 q l u h1 h2
   ·cases h1
  ·have hg':E4 v'=some g:=hg
   have hgp:=hvo g hg'
   have hlo:=r.lo p _ g hm hgp
   refine⟨hlo.1,hlo.2,λq b _ hb hob=>?_,λi hi=>absurd (r.sb p _ g i hm hgp hi) (zR _)⟩
   by_cases hqp:q=p
   ·subst hqp
    have hb':(m.set q Blk.dead)[q]? = some b:=hb
    rw[zQ hp] at hb'
    cases hb'
    cases hob
   ·have hb':(m.set p Blk.dead)[q]? = some b:=hb
    rw[zZ (λe=>hqp e.symm)] at hb'
    rw[C8 H (H p) hqp] at hob
    exact hqp (r.inj q p b _ g hb' hm hob hgp)
 refine wpList_plain rfl λK hK=>?_
 unfold Oper.wp
 rw[hrun]
 refine hK _ _ (kk _ _ _ _ (r2.put (d:=d) (x:=.s (.one (.ls m.length (xs.take j.toNat).length))) (of_decide_eq_true hd) ?_))
 refine⟨by simp,⟨hone,by rw[Cj];exact(U4 hown').2⟩,λe2 sz2 k2 cs2 hm2=>?_⟩
 have e0:(m.set p Blk.dead++[.arr e sz 0 ((xs.take j.toNat).flatMap f)])[m.length]? = some (.arr e sz 0 ((xs.take j.toNat).flatMap f)):=by rw[<- hml];simp
 rw[e0] at hm2
 cases hm2
 exact⟨by rw[Aw hf];exact zN _,λ_=>(Cj _ _ _).symm⟩
end
open Go.RowKit
theorem Aiv {c:Ctx} {st:AS} {a:Act} {w:World} {S:Cq} {H:Nat->Value} (r:Rel c st a w S H) {p i:Nat} {cs:List Lf} {l l':Lf} {m':List Blk} (hm:st.m[p]? = some (.box cs)) (hi:cs[i]? = some l) (hp:C5 st.m l l' m') (hm':m'[p]? = some (.box cs)) :
  ∃ S' H',Rel c ⟨st.t,m'.set p (.box (cs.set i l'))⟩ a w S' H':=by
 obtain⟨S',k,g⟩:=hp.keeps (t:=st.t) r
 have r':=k.rel
 have hpl:p<m'.length:=(zC.1 hm').1
 obtain⟨gg,e,cur,h1,h2,h3⟩:=r.bl p _ hm
 obtain⟨gg',e',cur',h1',h2',h3'⟩:=r'.bl p _ hm'
 have e1:gg=gg':=by rw[h1] at h1';cases h1';rfl
 subst e1
 have e2:cur=cur':=by rw[h2] at h2';cases h2';rfl
 subst e2
 refine⟨S',Ud H p (H p),r'.change (p:=p) (b':=.box (cs.set i l')) (v:=H p) (by simp) (by rw[zQ hpl]) (λq hq=>zZ (λe=>hq e.symm)) (λb i h=>⟨h,rfl⟩)
  (λg _ _=>rfl) (λe sz k cs _ h=>by cases h) (λg _ _=>rfl) ⟨gg,e',cur,h1',h2',?_⟩
  (λg hg=>⟨(r'.lo p _ g hm' hg).1,(r'.lo p _ g hm' hg).2,λq b hq hb ho=>hq (r'.inj q p b _ g hb hm' ho hg),λj hj=>r'.sb p (.box cs) g j hm' hg hj⟩) (λq b g i _ _ _ h=>h) (λg i _ _ h=>h) r'.sl.two (zN _) rfl rfl rfl⟩
 have hset:Ud H p (H p)=H:=by
  funext q
  by_cases e':q=p
  ·subst e';exact Cj H q _
  ·exact C8 H _ e'
 rw[hset]
 have hmono:∀ l v,Ct w S' m' H l v->Ct w S' (m'.set p (.box (cs.set i l'))) H l v:=λl v =>
  Ct.mono (λb i h=>⟨h,rfl⟩) (by simp) (λ_ _=>rfl) (λq e sz k cs1 _ hmm=>by
   by_cases hq:q=p
   ·subst hq
    rw[zQ hpl] at hmm
    cases hmm
   ·rw[zZ (λe=>hq e.symm)] at hmm
    exact⟨k,cs1,hmm,rfl⟩)
 refine⟨by rw[xI];exact h3.1,λj x v hx hv=>?_⟩
 by_cases hj:j=i
 ·subst hj
  have hlt:j<cs.length:=(zC.1 hi).1
  rw[zQ hlt] at hx
  cases hx
  exact Ct.of_rep (g v (h3.2 j l v hi hv))
 ·rw[zZ (λe=>hj e.symm)] at hx
  exact hmono _ _ (h3'.2 j x v hx hv)
section
variable {P:Program} {c:Ctx} {t:Nat->AV} {m:List Blk} {ops:Array Oper} {Q:Exit->AS->Prop}
theorem Aag {x:Code} (p i:Nat) {cs:List Lf} {u y:Lf} {m':List Blk} (hm:m[p]? = some (.box cs)) (hi:cs[i]? = some u) (hp:C5 m u y m') (hm':m'[p]? = some (.box cs)) (k:AWC P c x Q ⟨t,m'.set p (.box (cs.set i y))⟩):AWC P c x Q ⟨t,m⟩ :=
 Alb _ (λ_ _ _ _ r=>Aiv (st:=⟨t,m⟩) r hm hi hp hm') k
end
open Go.RowKit
theorem Arp {c:Ctx} {t:Nat->AV} {m:List Blk} {a:Act} {w:World} {S:Cq} {H:Nat->Value} (r:Rel c ⟨t,m⟩ a w S H):Rel c ⟨t,m++[.hole]⟩ a w S (Ud H m.length undef):=by
 refine r.change (p:=m.length) (b':=.hole) (v:=undef) (by simp) (by simp) (λq hq=>?_) (λb i h=>⟨h,rfl⟩) (λg h=>absurd h (wD _)) (λe sz k cs h=>absurd h (wD _))
  (λg _ _=>rfl) rfl (λg hg=>by cases hg) (λq b g i _ _ _ h=>h) (λg i _ _ h=>h) r.sl.two (zN _) rfl rfl rfl (λ_ h=>absurd h (wD _))
 rcases zO q m.length with h|h
 ·rw[zL h]
 ·rw[yG (by simp;omega),yG h]
theorem Rel.fillBox {c:Ctx} {t:Nat->AV} {m:List Blk} {a:Act} {w:World} {S:Cq} {H:Nat->Value} (r:Rel c ⟨t,m⟩ a w S H) {p:Nat} (hm:m[p]? = some .hole) {e:TypeId} {cells:Array Value} {ls:List Lf} (hls:LsR (Ct w S m H) ls cells.toList) :
  Rel c ⟨t,m.set p (.box ls)⟩ a (w.alloc (.cells cells e)) S (Ud H p (.pointer (some ⟨w.heap.size,0,none⟩))):=by
 have hx:Ext w S (w.alloc (.cells cells e)) S:=Ext.alloc w S _
 have hp:p<m.length:=(zC.1 hm).1
 have hH:H p=undef:=r.bl p _ hm
 have hf:=r.fresh (zN w.heap.size)
 have hkeep:∀ b i,S b i->S b i/\(w.alloc (.cells cells e)).cell? ⟨b,i,none⟩=w.cell? ⟨b,i,none⟩:=λb i h=>hx.keeps r.sl b i h
 have hoth:∀ q,q≠p->(m.set p (.box ls))[q]? = m[q]? := λq hq=>zZ (λe=>hq e.symm)
 have hgr:∀ l v,Ct w S m H l v->Ct (w.alloc (.cells cells e)) S (m.set p (.box ls)) (Ud H p (.pointer (some ⟨w.heap.size,0,none⟩))) l v:=λl v =>
  Ct.mono2 hkeep (by simp) (λq g hq hh=>by
   by_cases e1:q=p
   ·subst e1;exact(Abd (hH.symm.trans hh)).elim
   ·exact C8 H _ e1) (λq _ hne=>by
   by_cases e1:q=p
   ·subst e1;exact absurd hH hne
   ·rw[C8 H _ e1];exact hne) (λq e1 sz k cs hq hm1=>by
   by_cases e2:q=p
   ·subst e2;rw[zQ hp] at hm1;cases hm1
   ·rw[hoth q e2] at hm1
    exact⟨k,cs,hm1,.inl ⟨rfl,C8 H _ e2⟩⟩)
 refine r.change (p:=p) (b':=.box ls) (by simp) (zQ hp) hoth hkeep (λg _ h=>(Abd (hH.symm.trans h)).elim) (λe sz k cs _ h=>by cases h)
  (λg hg _=>hx.blk g hg) ⟨w.heap.size,e,cells,rfl,heap_alloc_new w _,hls.mono hgr⟩ (λg hg=>?_) (λq b g i _ _ _ h=>h) (λg i _ _ h=>h) (r.sl.ext hx).two hx.size rfl rfl rfl
 have hg':w.heap.size=g:=by simpa [Blk.own,E4] using hg
 subst hg'
 exact⟨.inl r.ex.size,by simp,λq b _ hb=>hf.1 q b hb,λi hi=>absurd hi (hf.2 i)⟩
section
variable {P:Program} {c:Ctx} {t:Nat->AV} {m:List Blk} {ops:Array Oper} {Q:Exit->AS->Prop} {rest:List Oper} {ty:TypeId} {pos:String} {af:Array Edge} {d:Tmp}
theorem Adc {x:Code} (k:AWC P c x Q ⟨t,m++[.hole]⟩):AWC P c x Q ⟨t,m⟩:=Alb _ (λ_ _ S _ r=>⟨S,_,Arp r⟩) k
theorem Oz {tt:TypeId} {zl:List Lf} (p:Nat) (hd:decide (d<c.nt)=true) (zi:ZI P tt zl) (hm:m[p]? = some .hole)
  (k:AWL P c ops Q rest ⟨upd t d (.s (.one (.lp p 0))),m.set p (.box zl)⟩):AWL P c ops Q (⟨some d,.alloc tt,ty,pos,af,none⟩::rest) ⟨t,m⟩:=by
 obtain⟨i,z,hi,hz,hl,ho⟩:=zi.h
 subst hl
 intro a w S H r
 refine wpList_plain rfl λK hK=>?_
 unfold Oper.wp
 have hrun:(execOp a.eval ⟨some d,.alloc tt,ty,pos,af,none⟩).run P w=.ok (.value (.pointer (some ⟨w.heap.size,0,none⟩))) (w.alloc (.cells z.cells tt)):=by simp [execOp,Instr.alloc,zeroValue,typeInfo,hi,hz,newVar,newRow]
 rw[hrun]
 have r':=r.fillBox (e:=tt) (cells:=z.cells) hm (Afb ho)
 have hp:p<m.length:=(zC.1 hm).1
 exact hK _ _ (k _ _ _ _ (r'.put (d:=d) (x:=.s (.one (.lp p 0))) (of_decide_eq_true hd) ⟨by simpa using hp,w.heap.size,Cj _ _ _,rfl⟩))
end
open Go.RowKit
def A0u:Lf->Lf->Option Bool
 | .i k n,.i k' m=>if k=k' then some (decide (n=m)) else none
 | .b x,.b y=>some (x==y)
 | .s x,.s y=>some (x.toList==y.toList)
 | _,_=>none
def Atw:List Lf->List Lf->Option Bool
 | [],[]=>some true
 | a::l,b::r=>match A0u a b,Atw l r with
  | some x,some y=>some (x&&y)
  | _,_=>none
 | _,_=>none
def Lf.tag:Lf->Nat
 | .i _ _=>0
 | .b _=>1
 | .s _=>2
 | _=>3
def Aau:Option TypeDesc->Nat
 | some (.int _)=>0
 | some .bool=>1
 | some .string=>2
 | _=>4
def Alu (P:Program):Nat->List Field->List Nat->Bool
 | _,[],[]=>true
 | i, f :: r, k :: ks => f.name != "_" && f.offset == i && Aau (P.underlying f.type) == k && Alu P (i + 1) r ks
 | _,_,_=>false
theorem Acy {P:Program} {w:World} {t:TypeId} {xs:Array Value} {i:Nat} {v:Value} (h:Aau (P.underlying t)<4) (hv:xs[i]? = some v):(part t xs i).run P w=.ok v w:=by
 cases hu:P.underlying t with
 | none=>rw[hu] at h;simp [Aau] at h
 | some d=>rw[hu] at h;cases d <;> simp [Aau] at h <;> simp [part,isAgg,run_underlying hu,hv]
theorem Vf {P:Program} {S:Cq} {m:List Blk} {H:Nat->Value} {w:World} {d:Nat} {xs ys:Array Value}:∀ (fs:List Field) (i:Nat) (ls ls':List Lf) (b:Bool),Alu P i fs (ls.map Lf.tag)=true->ls.map Lf.tag=ls'.map Lf.tag->Atw ls ls'=some b ->
  (∀ j l,ls[j]? = some l->∃ v,xs[i+j]? = some v/\Ct w S m H l v)->(∀ j l,ls'[j]? = some l->∃ v,ys[i+j]? = some v/\Ct w S m H l v) ->
  (Op.eqFields (d+1) xs ys fs).run P w=.ok b w
 | [],i,ls,ls',b,hf,_,he,_,_=>by
  cases ls with
  | cons _ _=>cases hf
  | nil =>
   cases ls' with
   | nil=>cases he;rfl
   | cons _ _=>cases he
 | f::fs,i,[],ls',b,hf,_,_,_,_=>by cases hf
 | f::fs,i,l::ls,[],b,_,_,he,_,_=>by cases he
 | f::fs,i,l::ls,l'::ls',b,hf,hl,he,hx,hy=>by
  simp only[wB,Alu,yD,bne_iff_ne,ne_eq,beq_iff_eq] at hf
  obtain⟨⟨⟨h1,h2⟩,h3⟩,h4⟩:=hf
  simp only[wB,List.cons.injEq] at hl
  obtain⟨hl1,hl2⟩:=hl
  obtain⟨v,hv,hr⟩:=hx 0 l rfl
  obtain⟨v',hv',hr'⟩:=hy 0 l' rfl
  unfold Atw at he
  cases e1:A0u l l' with
  | none=>rw[e1] at he;cases he
  | some x =>
  cases e2:Atw ls ls' with
  | none=>rw[e1,e2] at he;cases he
  | some y =>
  rw[e1,e2] at he
  obtain rfl:(x&&y)=b:=zD he
  have ht4:Aau (P.underlying f.type)<4:=by
   rw[h3];cases l <;> simp [Lf.tag]
  have heq:(Op.equalIn (d+1) f.type v v').run P w=.ok x w:=by
   cases hu:P.underlying f.type with
   | none=>rw[hu] at ht4;simp [Aau] at ht4
   | some dd =>
    rw[hu] at h3
    cases l <;> cases l' <;> simp only[A0u,reduceCtorEq,zW] at e1
    ·rename_i k n k' m'
     by_cases hk:k=k'
     ·subst hk
      rw[if_pos rfl] at e1
      obtain rfl:=zD e1
      have q1:v=_:=U3 hr
      have q2:v'=_:=U3 hr'
      subst q1 q2
      cases dd <;> simp [Aau,Lf.tag] at h3
      exact(run_equalIn_int w d f.type _ _ _ _ hu).trans (by rw[Apl])
     ·rw[if_neg hk] at e1;cases e1
    ·subst e1
     have q1:v=_:=X6 hr
     have q2:v'=_:=X6 hr'
     subst q1 q2
     cases dd <;> simp [Aau,Lf.tag] at h3
     simp [Op.equalIn,run_underlying hu]
    ·subst e1
     have q1:v=_:=Amf hr
     have q2:v'=_:=Amf hr'
     subst q1 q2
     cases dd <;> simp [Aau,Lf.tag] at h3
     simp [Op.equalIn,run_underlying hu,beq_toListBytes]
  have ih:=Vf (d:=d) fs (i+1) ls ls' y h4 hl2 e2 (λj l h=>by have:=hx (j+1) l (by simpa using h);rwa [show i+(j+1)=i+1+j by omega] at this) (λj l h=>by have:=hy (j+1) l (by simpa using h);rwa [show i+(j+1)=i+1+j by omega] at this)
  unfold Op.eqFields
  rw[kG] at hv hv'
  rw[if_pos h1,h2]
  simp only[Sem.run_bind,Acy ht4 hv,Acy ht4 hv',Result.andThen_ok,heq]
  cases x
  ·simp
  ·simp [ih]
section
variable {P:Program} {c:Ctx} {st:AS} {ty:TypeId} {xt yt:TypeId} {x y:Operand}
structure EqT (P:Program) (t:TypeId) (n:List Nat):Prop where
 u:P.underlying t=some (.struct (P.fieldsOf t))
 h:P.stoodInHeld t=false
 g:P.eqGuardType P.depth t=false
 f:Alu P 0 (P.fieldsOf t).toList n=true
theorem A0q {n:List Nat} (et:EqT P xt n) {ls ls':List Lf} {b:Bool} (hx:C6 st x=.s (.agg ls)) (hy:C6 st y=.s (.agg ls')) (hn:ls.map Lf.tag=n) (hn':ls'.map Lf.tag=n) (he:Atw ls ls'=some b) {a:Act} {w:World} {S:Cq} {H:Nat->Value} (r:Rel c st a w S H) :
  ∃ cs cs':Array Value,a.eval x=.agg cs/\a.eval y=.agg cs'/\(Op.equalIn 10000 xt (.agg cs) (.agg cs')).run P w=.ok b w:=by
 have h1:=B1 r x
 rw[hx] at h1
 have h2:=B1 r y
 rw[hy] at h2
 obtain⟨cs,e1,g1⟩:=h1
 obtain⟨cs',e2,g2⟩:=h2
 refine⟨cs,cs',e1,e2,?_⟩
 rw[run_equalIn_struct w 9999 xt cs cs' et.u et.h]
 refine Vf (d:=9998) (S:=S) (m:=st.m) (H:=H) _ 0 ls ls' b (by rw[hn];exact et.f) (hn.trans hn'.symm) he (λj l h=>?_) (λj l h=>?_)
 ·obtain⟨v,hv,hr⟩:=g1.get h
  exact⟨v,by simpa using hv,hr⟩
 ·obtain⟨v,hv,hr⟩:=g2.get h
  exact⟨v,by simpa using hv,hr⟩
theorem Aox {n:List Nat} (et:EqT P xt n) {ls ls':List Lf} {b:Bool} (hx:C6 st x=.s (.agg ls)) (hy:C6 st y=.s (.agg ls')) (hn:ls.map Lf.tag=n) (hn':ls'.map Lf.tag=n) (he:Atw ls ls'=some b):OpV P c st (.binOp .neq xt x y yt) ty (.s (.one (.b (!b)))):=by
 intro a w S H r
 obtain⟨cs,cs',e1,e2,h⟩:=A0q et hx hy hn hn' he r
 refine⟨.bool (!b),I1 (.b _),λ_ _ _ _=>?_⟩
 simp only[execOp,e1,e2,Sem.run_bind,run_eqGuard_agg w _ xt x y cs cs' et.g,Result.andThen_ok,run_neq_struct,h]
 rfl
end
open Go.RowKit
theorem Ap3 {w:World} {S:Cq} {l:Lf} {v:Value} (h:Rep w S l v):Rep w S l.canon v:=by
 unfold Lf.canon
 split
 ·obtain rfl:=Lu h
  exact .sl0 _ _
 ·exact h
structure A2x (ops:Array Oper) (n:Nat):Prop where
 sz:ops.size=n+1
 dst:∀ (i:Nat) (o:Oper),ops[i]? = some o->∃ d,o.dst=some d
 lt:∀ (i:Nat) (o:Oper),ops[i]? = some o->∀ e∈o.after,e.on<i
 ne:∀ (i:Nat) (o:Oper) (j:Nat) (p:Oper),ops[i]? = some o->ops[j]? = some p->i≠j->o.dst≠p.dst
 ed:∀ (i:Nat) (o:Oper) (j:Nat) (p:Oper) (d:Tmp),ops[i]? = some o->ops[j]? = some p->p.dst=some d->j<n->d∈o.looksAt ops->∃ e∈o.after,e.on=j/\Region.binds .any e=true
 all:∀ (o:Oper) (j:Nat),ops[n]? = some o->j<n->∃ e∈o.after,e.on=j/\Region.binds .any e=true
section
variable {P:Program} {c:Ctx} {t:Nat->AV} {m:List Blk} {Q:Exit->AS->Prop}
theorem DR.split {ops:Array Oper} {k:(Nat->AV)->Prop}:∀ {l:List Oper} {o:Oper} {t:Nat->AV},DR P c m ops k (l++[o]) t->DR P c m ops (λT=>∃ x d,o.dst=some d/\d<c.nt/\Z5 P c m ops T o x/\k (upd T d x)) l t
 | [],o,t,h=>by
  obtain⟨x,d,h1,h2,h3,h4⟩:=h
  exact⟨x,d,h1,h2,h3,h4⟩
 | o'::l,o,t,h=>by
  obtain⟨x,d,h1,h2,h3,h4⟩:=h
  exact⟨x,d,h1,h2,h3,DR.split h4⟩
end
theorem Si {place:Nat->Option (Nat×Nat)} {cs out:List Lf} {i off s:Nat} {x:SV} {rest:List (Nat×SV)} (cs':List Lf) (hp:place i=some (off,s)) (hl:x.cells.length=s) (hb:off+s<=cs.length) (he:Ow cs off x.cells=cs') (t:Y3 place cs' rest out):Y3 place cs ((i,x)::rest) out:=by
 subst he
 exact .cons _ _ _ _ _ _ _ hp hl hb t
open Go.RowKit
structure FT (P:Program) (s:TypeId) (f off:Nat) (ft:TypeId):Prop where
 h:∃ fs fld,P.underlying s=some (.struct fs)/\fs[f]? = some fld/\fld.offset=off/\fld.type=ft
section
variable {P:Program} {c:Ctx} {st:AS} {ty:TypeId}
theorem Alt {s f off ft:Nat} {x:Operand} {ls:List Lf} {y:Lf} (h:FT P s f off ft) (ti:TI P ft false 1) (hx:C6 st x=.s (.agg ls)) (hy:ls[off]? = some y):OpV P c st (.field s x f) ty (.s (.one y)):=by
 intro a w S H r
 have h1:=B1 r x
 rw[hx] at h1
 obtain⟨cs,hv,hl,hr⟩:=h1
 obtain⟨fs,fld,hu,hf,ho,ht⟩:=h.h
 have hj:off<cs.size:=by
  have:=(zC.1 hy).1
  rw[hl] at this
  simpa using this
 have hg:cs[off]? = some cs[off]:=zS hj
 refine⟨cs[off],hr off y _ hy (by simp),λ_ _ _ _=>?_⟩
 subst ho ht
 simp [execOp,hv,Instr.field,run_underlying hu,hf,part,asAgg,ti.run_isAgg,hg]
end
open Go.RowKit
theorem Ame (zl:List Lf) (n:Nat):(Ac5 zl n).map Lf.canon=Ac5 (zl.map Lf.canon) n:=by
 unfold Ac5
 rw[List.map_map,z2]
 apply kJ
 intro j _
 simp only[Function.comp,List.getD_eq_getElem?_getD,zP]
 cases zl[j % zl.length]? <;> rfl
theorem Ahv {w:World} {S:Cq} {ls:List Lf} {vs:List Value} (h:LsR (Rep w S) ls vs):LsR (Rep w S) (ls.map Lf.canon) vs:=by
 refine⟨by simpa using h.1,λj l u hl hu=>?_⟩
 rw[zP] at hl
 cases hx:ls[j]? with
 | none=>rw[hx] at hl;cases hl
 | some l' =>
  rw[hx] at hl
  cases hl
  exact Ap3 (h.2 j l' u hx hu)
section
variable {P:Program} {c:Ctx} {t:Nat->AV} {m:List Blk} {ops:Array Oper} {Q:Exit->AS->Prop} {rest:List Oper} {ty:TypeId} {pos:String} {af:Array Edge} {d:Tmp} {α:Type} {f:α->List Lf} {sz:Nat}
theorem Ak9 {x y:Operand} {t' t2 e bytes:Nat} {zl:List Lf} {k kn:IntKind} {n:Int} {z:α} (hd:decide (d<c.nt)=true) (si:P.underlying t'=some (.slice e)) (ei:EI P e sz bytes zl) (h2:P.underlying t2=some (.int kn)) (hf:∀ x,(f x).length=sz) (hz:f z=zl.map Lf.canon) (hx:C6 ⟨t,m⟩ x=.s (.one (.raw (.slice none 0 0)))) (hy:C6 ⟨t,m⟩ y=.s (.one (.i k n)))
  (h:0<n/\n*(bytes:Int)<=281474976710656) (hb:0<bytes)
  (kk:AWL P c ops Q rest ⟨upd t d (.s (.one (.ls m.length (List.replicate n.toNat z).length))),m++[.arr e sz 0 ((List.replicate n.toNat z).flatMap f)]⟩) :
  AWL P c ops Q (⟨some d,.call { callee:=.builtin .append,args:=#[x,y],argTypes:=#[t',t2] },ty,pos,af,none⟩::rest) ⟨t,m⟩:=by
 obtain⟨N,rfl⟩:∃ N:Nat,n=(N:Int):=⟨n.toNat,by omega⟩
 have hN:0<N:=by omega
 have h48:N*bytes<=281474976710656:=by have:=h.2;rw[<- Int.natCast_mul] at this;omega
 have hle:N<=N*bytes:=kW _ hb
 rw[zT,jZ,<- Ahi hz hf,<- Ame] at kk
 refine Wq (e:=e) (sz:=sz) (n:=N) (cs:=(Ac5 zl (N*sz)).map Lf.canon) ei.p (of_decide_eq_true hd) (λa w S H r=>?_) kk
 obtain⟨i,zz,hi,hzz,hsize,hbytes,hzs,hzl,hzo⟩:=ei.h
 have hx':=B1 r x
 rw[hx] at hx'
 have hv:a.eval x=.slice none 0 0:=Lu hx'
 have hy':=B1 r y
 rw[hy] at hy'
 have ev:a.eval y=.int k N:=U3 hy'
 subst hsize hbytes
 have hrun:=Lib.run_append_nil_zeros (P:=P) w t' t2 ty e i zz k kn si h2 hi hzz N hN ei.p (by omega) h48
 have hcap:=grownCap_ge w N 0 e
 have hcm:grownCap w N 0 e<=maxLen:=grownCap_le_maxLen w N 0 e (by simp only[maxLen];omega)
 have hlen1:(Builtin.zeroCells zz.cells N).size=N*i.size:=by rw[size_zeroCells,hzs]
 refine⟨.slice (some ⟨w.heap.size,0,none⟩) N (grownCap w N 0 e),w.drew.alloc (.cells (Builtin.zeroCells zz.cells N++Builtin.zeroCells zz.cells (grownCap w N 0 e-N)) e),(Builtin.zeroCells zz.cells N).toList,λ_ _ _ _=>by simp [execOp,resolve,invoke,builtin,hv,ev,hrun],?_,r.sl.ext ((Ext.drew w S).trans (Ext.alloc w.drew S _)),?_,?_⟩
 ·exact(Ext.drew w S).trans (Ext.alloc w.drew S _)
 ·refine⟨by rw[z8,hlen1],.inr ⟨w.heap.size,grownCap w N 0 e,_,rfl,zN _,heap_alloc_new w.drew _,hcap,hcm,?_,?_⟩⟩
  ·simp only[yQ,size_zeroCells,hzs,<- xP]
   congr 1;omega
  ·simp only[xJ]
   rw[xX (by rw[z8,hlen1])]
 ·have:=Aeu (w:=w.drew.alloc (.cells (Builtin.zeroCells zz.cells N++Builtin.zeroCells zz.cells (grownCap w N 0 e-N)) e)) (S:=S) (z:=zz) (by rw[hzs];exact ei.p) hzo (N*i.size) (N*i.size) (zN _)
  have e2:(madeCells zz.cells (N*i.size)).toList.take (N*i.size)=(Builtin.zeroCells zz.cells N).toList:=by
   rw[yX (by rw[z8,size_madeCells];exact zN _)]
   unfold madeCells Builtin.zeroCells
   rw[hzs]
  rw[e2] at this
  rw[<- hzl]
  exact Ahv this
end
open Go.RowKit
def FW (rd:Option Nat):Fence:={ Fence.wide with round:=rd }
theorem Aea {rd:Option Nat} {n:Nat} {P:Program} {f:FuncId} {args:Array Value} {w:World} {R:Ending->World->Prop} (h:Calls P f args w R):CallsIn (FW rd) n P f args w R :=
  (callsIn_wide (n:=n)).2 h
theorem An6 {rd:Option Nat} {n:Nat} {P:Program} {row:String} {args:Array Value} {w:World} {R:Value->World->Prop} (h:Rows P row args w R):RowsIn (FW rd) n P row args w R :=
  λc cs _=>let ⟨v,w',r,s⟩:=h c cs;⟨v,w',r,(stepsIn_wide).2 s⟩
def dsl (a:Act) (ds:List Deferred):Act:={ a with defers:=ds }
theorem Acc (a:Act) (ds:List Deferred) (d:Option Tmp) (v:Value):dsl (a.put d v) ds=(dsl a ds).put d v:=by cases d <;> rfl
theorem Qw (a:Act) (d:Option Tmp) (v:Value):(a.put d v).defers=a.defers:=by cases d <;> rfl
theorem Akp {a:Act} {ds:List Deferred} (h:a.defers=ds):dsl a ds=a:=by subst h;rfl
theorem Ae3 (a:Act) (ds:List Deferred):(dsl a ds).eval=a.eval:=by funext x;cases x <;> rfl
def ndf (o:Oper):Bool:=match o.op with
  | .defer _=>false
  | _=>true
section
variable {P:Program} {ops:Array Oper} {K K':Act->World->Prop} {Q1 Q2:Exit->Act->World->Prop} {ds:List Deferred} {rd:Option Nat}
theorem Avy {o:Oper} {a:Act} {w:World} (hno:¬ LetsOut Q1) (hK:∀ a w,K a w->a.defers=[]) (hQ:∀ e a w,Q1 e a w->a.defers=[]) (h:o.wp P a w K Q1):a.defers=[]:=by
  unfold Oper.wp at h
  generalize (execOp a.eval o).run P w=r at h
  cases r with
  | ok nx w' =>
    cases nx with
    | value v=>have:=hK _ _ h;rwa [Qw] at this
    | skip=>have:=hK _ _ h;rwa [Qw] at this
    | defer d=>have:=hK _ _ h;rw[Qw] at this;cases this
    | enter f args =>
      have h':Calls P f args w' _:=h
      obtain⟨e,w'',fr,hr,_⟩:=h' []
      cases e with
      | returned v=>have:=hK _ _ hr;rwa [Qw] at this
      | panicked ch=>exact hQ _ _ _ hr
      | outgrown=>exact absurd hr hno
    | row row args =>
      have h':Rows P row args w' _:=h
      obtain⟨v,w'',hr,_⟩:=h' default []
      have:=hK _ _ hr;rwa [Qw] at this
    | _=>exact absurd h id
  | halt x w' =>
    cases x with
    | panic v=>exact hQ _ _ _ h
    | _=>exact absurd h id
theorem Avn {o:Oper} (hd:ndf o=true) {a:Act} {w:World} (hno:¬ LetsOut Q1) (hnd:∀ a w,K a w->a.defers=[]) (hK:∀ a w,K a w->K' (dsl a ds) w) (hQ:∀ e a w,Q1 e a w->Q2 e (dsl a ds) w)
    (h:o.wp P a w K Q1):o.wpIn (FW rd) 0 P (dsl a ds) w K' Q2:=by
  refine⟨λ_ _=>trivial,?_⟩
  have e2:o.semAt (FW rd).round (dsl a ds).eval=execOp a.eval o:=by
    rw[Ae3]
    cases rd with
    | none=>exact Oper.semAt_none _ _
    | some l=>exact Oper.semAt_some l _ o (λc hc=>by simp only[ndf,hc] at hd;cases hd)
  rw[e2]
  unfold Oper.wp at h
  generalize (execOp a.eval o).run P w=r at h
  cases r with
  | ok nx w' =>
    cases nx with
    | value v=>have:=hK _ _ h;rw[Acc] at this;exact this
    | skip=>have:=hK _ _ h;rw[Acc] at this;exact this
    | defer d=>have:=hnd _ _ h;rw[Qw] at this;cases this
    | enter f args =>
      refine⟨λhh=>(by simp [FW,Fence.wide] at hh),Aea ?_⟩
      have h':Calls P f args w' _:=h
      refine h'.mono λe w'' hr=>?_
      cases e with
      | returned v=>have:=hK _ _ hr;rw[Acc] at this;exact this
      | panicked ch=>exact hQ _ _ _ hr
      | outgrown=>exact absurd hr hno
    | row row args =>
      refine⟨λhh=>(by simp [FW,Fence.wide] at hh),An6 ?_⟩
      have h':Rows P row args w' _:=h
      refine h'.mono λv w'' hr=>?_
      have:=hK _ _ hr;rw[Acc] at this;exact this
    | _=>exact absurd h id
  | halt x w' =>
    cases x with
    | panic v=>exact hQ _ _ _ h
    | _=>exact absurd h id
theorem Abn (hno:¬ LetsOut Q1) (hQ:∀ e a w,Q1 e a w->a.defers=[]):∀ (l:List Oper) (a:Act) (w:World),wpList P ops Q1 l a w->a.defers=[]
  | [],a,w,h=>hQ _ _ _ h
  | o::rest,a,w,h=>by
    unfold wpList at h
    split at h
    · rcases h with h|h
      · exact Avy hno (λa w=>Abn hno hQ rest a w) hQ h
      · exact absurd h.2 hno
    · have:=Abn hno hQ rest _ _ h
      rwa [Qw] at this
theorem Abv (hno:¬ LetsOut Q1) (hnd:∀ e a w,Q1 e a w->a.defers=[]) (hQ:∀ e a w,Q1 e a w->Q2 e (dsl a ds) w):∀ (l:List Oper),l.all ndf=true->∀ (a:Act) (w:World),wpList P ops Q1 l a w->wpListIn (FW rd) 0 P ops Q2 l (dsl a ds) w
  | [],_,a,w,h=>hQ _ _ _ h
  | o::rest,hl,a,w,h=>by
    simp only[List.all_cons,yD] at hl
    unfold wpList at h
    unfold wpListIn
    have ih:=Abv hno hnd hQ rest hl.2
    by_cases hw:Region.wanted o (yielded ops a.tmps)=true
    · rw[if_pos hw] at h
      rw[if_pos (show Region.wanted o (yielded ops (dsl a ds).tmps)=true from hw)]
      rcases h with h|h
      · exact Avn hl.1 hno (Abn hno hnd rest) ih hQ h
      · exact absurd h.2 hno
    · rw[if_neg hw] at h
      rw[if_neg (show ¬ Region.wanted o (yielded ops (dsl a ds).tmps)=true from hw)]
      have:=ih _ _ h
      rw[Acc] at this
      exact⟨λ_ _=>trivial,this⟩
end
def Aw3 (m:List Blk) (H:Nat->Value) (g:Nat):Prop:=∃ (p:Nat) (b:Blk),m[p]? = some b/\b.own (H p)=some g
abbrev Ctx.now (c:Ctx) (st:AS) (w:World) (S:Cq) (H:Nat->Value):Ctx:=⟨w,S,c.nt,Aw3 st.m H,st.m,H⟩
theorem Rel.now {c:Ctx} {st:AS} {a:Act} {w:World} {S:Cq} {H:Nat->Value} (r:Rel c st a w S H):Rel (c.now st w S H) st a w S H :=
  ⟨r.nt,r.df,r.tm,r.bl,λp b g hb ho=>⟨.inr ⟨p,b,hb,ho⟩,(r.lo p b g hb ho).2⟩,r.inj,r.sb,r.sl,Xi.refl _ _ _,zN _,λ_ _ _ _=>rfl,
   λp e sz k cs hp hm=>⟨k,cs,hm,.inl ⟨rfl,rfl⟩⟩,λ_ _ h=>h⟩
theorem Xi.then_now {c:Ctx} {st:AS} {a:Act} {w w':World} {S S':Cq} {H:Nat->Value} (r:Rel c st a w S H) (x:Xi (Aw3 st.m H) w S w' S'):Xi c.X c.w0 c.S0 w' S':=by
  have k:=r.ex
  have nx:∀ b,b<c.w0.heap.size->¬ c.X b->¬ Aw3 st.m H b:=λb hb hx ⟨p,bb,h1,h2⟩=>by
    rcases(r.lo p bb b h1 h2).1 with h|h
    · omega
    · exact hx h
  refine⟨x.os.trans k.os,x.tape.trans k.tape,x.output.trans k.output,yO k.size x.size,λb hb hx=>?_,λb i hs=>x.sub b i (k.sub b i hs),λb i hs=>(x.stab b i (k.sub b i hs)).trans (k.stab b i hs),λb i hb hx hs=>?_⟩
  · exact(x.blk b (zU hb k.size) (nx b hb hx)).trans (k.blk b hb hx)
  · exact k.back b i hb hx (x.back b i (zU hb k.size) (nx b hb hx) hs)
theorem Rel.then_now {c:Ctx} {st st':AS} {a a':Act} {w w':World} {S S':Cq} {H H':Nat->Value} (r:Rel c st a w S H) (r':Rel (c.now st w S H) st' a' w' S' H'):Rel c st' a' w' S' H':=by
  refine⟨r'.nt,r'.df,r'.tm,r'.bl,λp b g hb ho=>?_,r'.inj,r'.sb,r'.sl,Xi.then_now r r'.ex,yO r.kl r'.kl,λp g hp hh=>?_,λp e sz k cs hp hm=>?_,λp hp hne=>r'.ku p (zU hp r.kl) (r.ku p hp hne)⟩
  · obtain⟨h1,h2⟩:=r'.lo p b g hb ho
    refine⟨?_,h2⟩
    rcases h1 with h1|⟨q,bb,h3,h4⟩
    · exact .inl (yO r.ex.size h1)
    · exact(r.lo q bb g h3 h4).1
  · have h1:=r.kh p g hp hh
    exact(r'.kh p g (zU hp r.kl) (h1.trans hh)).trans h1
  · obtain⟨k1,cs1,h1,h2⟩:=r'.kr p e sz k cs (zU hp r.kl) hm
    obtain⟨k2,cs2,h3,h4⟩:=r.kr p e sz k1 cs1 hp h1
    refine⟨k2,cs2,h3,?_⟩
    rcases h2 with⟨h2,h5⟩|h2 <;> rcases h4 with⟨h4,h6⟩|h4
    · exact .inl ⟨h4.trans h2,h5.trans h6⟩
    · exact .inr (by omega)
    · exact .inr (by omega)
    · exact .inr (by omega)
theorem Ahx {base:Nat} {w:World} {S:Cq} {m:List Blk} {H:Nat->Value} {b:Blk} {v:Value} {g:Nat} (h:Aqe base w S m H b v) (ho:b.own v=some g):∃ o,w.heap[g]? = some o/\Adb o=true:=by
  cases b with
  | dead=>cases ho
  | hole=>cases ho
  | obj g' mk cs =>
    obtain⟨h1,vs,o,h2,h3,_⟩:=h
    rw[h1] at ho
    have:g'=g:=by simpa [Blk.own,E4] using ho
    subst this
    exact⟨o,h2,Aga h3⟩
  | tab mk cs =>
    obtain⟨g',h1,vs,o,h2,h3,_⟩:=h
    rw[h1] at ho
    have:g'=g:=by simpa [Blk.own,E4] using ho
    subst this
    exact⟨o,h2,Aga h3⟩
  | box cs =>
    obtain⟨g',e,cur,h1,h2,_⟩:=h
    rw[h1] at ho
    have:g'=g:=by simpa [Blk.own,E4] using ho
    subst this
    exact⟨_,h2,rfl⟩
  | arr e sz k cs =>
    obtain⟨_,_,n,vals,h1,_⟩:=h
    rcases h1.2 with⟨hv,_⟩|⟨g',cap,cur,hv,_,hg,_⟩
    · rw[hv] at ho;cases ho
    · rw[hv] at ho
      have:g'=g:=by simpa [Blk.own,E4] using ho
      subst this
      exact⟨_,hg,rfl⟩
def Zed (w:World) (Z:List (Nat×Obj)):Prop:=∀ x∈Z,w.heap[x.1]? = some x.2/\Adb x.2=false
theorem Zed.now {c:Ctx} {st:AS} {a:Act} {w w':World} {S S':Cq} {H:Nat->Value} {Z:List (Nat×Obj)} (r:Rel c st a w S H) (x:Xi (Aw3 st.m H) w S w' S') (z:Zed w Z):Zed w' Z:=λy hy=>by
  obtain⟨h1,h2⟩:=z y hy
  refine⟨(x.blk y.1 (yB.1 h1).1 λ⟨p,b,h3,h4⟩=>?_).trans h1,h2⟩
  obtain⟨o,h5,h6⟩:=Ahx (r.bl p b h3) h4
  rw[h1] at h5
  have:y.2=o:=zD h5
  rw[this,h6] at h2
  cases h2
theorem Zed.ext {w w':World} {S S':Cq} {Z:List (Nat×Obj)} (x:Ext w S w' S') (z:Zed w Z):Zed w' Z:=λy hy=>by
  obtain⟨h1,h2⟩:=z y hy
  exact⟨(x.blk y.1 (yB.1 h1).1).trans h1,h2⟩
theorem Abq {o:Obj} (h:Adb o=false):o.isCells=false:=by cases o <;> first|rfl|cases h
theorem Xz {w:World} {l:Nat} {o o':Obj} (h:w.heap[l]? = some o) (ho:Adb o=false) (ho':Adb o'=false) (a:Addr):(w.putObj l o').cell? a=w.cell? a:=by
  have ho:=Abq ho
  have ho':=Abq ho'
  by_cases e:a.block=l
  · have h1:(w.putObj l o').heap[a.block]? = some o':=by rw[e];exact World.putObj_heap_same (yB.1 h).1
    have h2:w.heap[a.block]? = some o:=by rw[e];exact h
    unfold World.cell?
    rw[h1,h2]
    cases o <;> first|cases ho;done|(cases o' <;> first|rfl|(simp [Obj.isCells] at ho';done)|(simp [Obj.isCells] at ho;done))
  · exact World.cell?_of_block (World.putObj_heap_other e)
theorem Rel.putObj {c:Ctx} {st:AS} {a:Act} {w:World} {S:Cq} {H:Nat->Value} (r:Rel c st a w S H) {l:Nat} {o:Obj} (o':Obj) (h:w.heap[l]? = some o) (ho:Adb o=false) (ho':Adb o'=false) (hl:c.w0.heap.size<=l):Rel c st a (w.putObj l o') S H:=by
  have hc:=Xz (o':=o') h ho ho'
  have hk:∀ b i,S b i->S b i/\(w.putObj l o').cell? ⟨b,i,none⟩=w.cell? ⟨b,i,none⟩:=λb i hs=>⟨hs,hc _⟩
  have hg:∀ x v,Ct w S st.m H x v->Ct (w.putObj l o') S st.m H x v:=λx v=>Ct.mono hk (zN _) (λ_ _=>rfl) (λp e sz k cs _ hm=>⟨k,cs,hm,rfl⟩)
  have hb:∀ (p:Nat) (b:Blk) (g:Nat),st.m[p]? = some b->b.own (H p)=some g->(w.putObj l o').heap[g]? = w.heap[g]? := λp b g h1 h2=>by
    refine World.putObj_heap_other λe=>?_
    subst e
    obtain⟨o2,h5,h6⟩:=Ahx (r.bl p b h1) h2
    rw[h] at h5
    have:o=o2:=zD h5
    rw[this,h6] at ho
    cases ho
  refine⟨r.nt,r.df,λi=>AVR.mono hg (r.tm i),λp b hbb=>?_,λp b g h1 h2=>⟨(r.lo p b g h1 h2).1,by rw[World.putObj_size];exact(r.lo p b g h1 h2).2⟩,r.inj,r.sb,r.sl.turn (·=l) (λg i e hs hn=>by
    subst e
    obtain⟨⟨cur,e',h1,_⟩,_⟩:=r.sl.2.2 g i hs hn
    rw[h] at h1
    cases h1
    cases ho) (λq _ hne=>World.putObj_heap_other hne) (by rw[World.putObj_size];exact zN _) (λb i hs=>hc _),?_,r.kl,r.kh,r.kr,r.ku⟩
  · have hr:=r.bl p b hbb
    have hbo:=hb p b
    cases b with
    | dead=>trivial
    | hole=>exact hr
    | obj g mk cs =>
      obtain⟨h1,vs,o,h2,h3,h4,h5⟩:=hr
      exact⟨h1,vs,o,(hbo g hbb (by rw[h1];rfl)).trans h2,h3,h4,h5.mono (λl v=>Rep.mono hk)⟩
    | tab mk cs =>
      obtain⟨g,h1,vs,o,h2,h3,h4,h5⟩:=hr
      exact⟨g,h1,vs,o,(hbo g hbb (by rw[h1];rfl)).trans h2,h3,h4,h5.mono (λl v=>Rep.mono hk)⟩
    | box cs =>
      obtain⟨g,e,cur,h1,h2,h3⟩:=hr
      exact⟨g,e,cur,h1,(hbo g hbb (by rw[h1];rfl)).trans h2,h3.mono hg⟩
    | arr e sz k cs =>
      obtain⟨h0,hk1,n,vals,h1,h2,h3⟩:=hr
      exact⟨h0,hk1,n,vals,I6 h1 (λg hgo=>hbo g hbb hgo),h2.mono (λl v=>Rep.mono hk),h3⟩
  · have x:=r.ex
    exact⟨x.os,x.tape,x.output,by rw[World.putObj_size];exact x.size,λb hbb hx=>(World.putObj_heap_other (by omega)).trans (x.blk b hbb hx),x.sub,λb i hs=>(hc _).trans (x.stab b i hs),x.back⟩
theorem Zed.putObj {w:World} {l:Nat} {o:Obj} {Z:List (Nat×Obj)} (z:Zed w Z) (hl:∀ x∈Z,x.1≠l):Zed (w.putObj l o) Z:=λy hy =>
  ⟨(World.putObj_heap_other (hl y hy)).trans (z y hy).1,(z y hy).2⟩
open Go.RowKit
structure FrK where
 ds:List Deferred
 Z:List (Nat×Obj)
def Ahl (Q:Exit->AS->Prop):Prop:=∀ st,¬ Q .outgrown st
def QI (c:Ctx) (ok:FrK->Prop) (K:FrK) (Q:Exit->AS->Prop):Exit->Act->World->Prop:=λe a w =>
 ∃ K' st S H a0,ok K'/\(∀ z∈K.Z,z∈K'.Z)/\a=dsl a0 K'.ds/\Rel c st a0 w S H/\Zed w K'.Z/\Q e st
def AWI (rd:Option Nat) (P:Program) (c:Ctx) (ok:FrK->Prop) (x:Code) (Q:Exit->AS->Prop) (st:AS):Prop :=
 Ahl Q->∀ K,ok K->∀ a w S H,Rel c st a w S H->Zed w K.Z->x.wpIn (FW rd) 0 P (QI c ok K Q) (dsl a K.ds) w
section
variable {rd:Option Nat} {P:Program} {c:Ctx} {ok:FrK->Prop} {Q:Exit->AS->Prop} {t:Nat->AV} {m:List Blk}
theorem Ahl.then {n:AS->Prop} (h:Ahl Q):Ahl (Qm n Q):=λst hs=>h st hs
theorem Ahl.block {id:Nat} (h:Ahl Q):Ahl (Ob id Q):=λst hs=>h st hs
theorem Kc {id:Nat} {l:List Oper} (hnd:l.all ndf=true) (h:∀ w0 S0 X m0 H0,AWL P ⟨w0,S0,c.nt,X,m0,H0⟩ l.toArray Q l ⟨t,m⟩):AWI rd P c ok (.region id l.toArray false) Q ⟨t,m⟩:=by
 intro hq K hK a w S H r z
 refine wpIn_region_lit (Abv (Q1:=QR (c.now ⟨t,m⟩ w S H) Q) ?_ ?_ ?_ l hnd a w (h _ _ _ _ _ a w S H r.now))
 ·rintro⟨a,w,st,S,H,_,h⟩;exact hq st h
 ·rintro e a w ⟨st,S,H,r,_⟩;exact r.df
 ·rintro e a' w' ⟨st',S',H',r',h⟩
  exact⟨K,st',S',H',a',hK,λ_ h=>h,rfl,r.then_now r',z.now r r'.ex,h⟩
theorem AWI.mono {x:Code} {st:AS} {Q Q':Exit->AS->Prop} (h:AWI rd P c ok x Q st) (hq:∀ e st,Q e st->Q' e st):AWI rd P c ok x Q' st:=by
 intro hn K hK a w S H r z
 refine wpIn_mono (h (λst hs=>hn st (hq _ _ hs)) K hK a w S H r z) ?_
 rintro e a w ⟨K',st,S,H,a0,h1,h2,h3,h4,h5,h6⟩
 exact⟨K',st,S,H,a0,h1,h2,h3,h4,h5,hq _ _ h6⟩
theorem Adl {x y:Code} (h:AWI rd P c ok x (Qm (AWI rd P c ok y Q) Q) ⟨t,m⟩):AWI rd P c ok (.seq x y) Q ⟨t,m⟩:=by
 intro hn K hK a w S H r z
 refine wpIn_seq (wpIn_mono (h hn.then K hK a w S H r z) ?_)
 rintro e a w ⟨K',st,S,H,a0,h1,h2,rfl,h4,h5,h6⟩
 cases e with
 | normal =>
  have h6':AWI rd P c ok y Q st:=h6
  refine wpIn_mono (h6' hn K' h1 a0 w S H h4 h5) ?_
  rintro e a w ⟨K2,st,S,H,a0,g1,g2,g3,g4,g5,g6⟩
  exact⟨K2,st,S,H,a0,g1,λz hz=>g2 z (h2 z hz),g3,g4,g5,g6⟩
 | _=>exact⟨K',st,S,H,a0,h1,h2,rfl,h4,h5,h6⟩
theorem Ayd (h:Q .normal ⟨t,m⟩):AWI rd P c ok .skip Q ⟨t,m⟩:=λ_ K hK a _ S H r z=>wpIn_skip ⟨K,_,S,H,a,hK,λ_ h=>h,rfl,r,z,h⟩
theorem Awh (h:Q .ret ⟨t,m⟩):AWI rd P c ok .ret Q ⟨t,m⟩:=λ_ K hK a _ S H r z=>wpIn_ret ⟨K,_,S,H,a,hK,λ_ h=>h,rfl,r,z,h⟩
theorem Aeb {id:Nat} {x:Code} (h:AWI rd P c ok x (Ob id Q) ⟨t,m⟩):AWI rd P c ok (.block id x) Q ⟨t,m⟩:=by
 intro hn K hK a w S H r z
 refine wpIn_block (wpIn_mono (h hn.block K hK a w S H r z) ?_)
 rintro e a w ⟨K',st,S,H,a0,h1,h2,h3,h4,h5,hq⟩
 cases e with
 | exit id' =>
  simp only[Ob] at hq
  simp only[Exit.inBlock]
  split
  ·rename_i h;rw[if_pos h] at hq;exact⟨K',st,S,H,a0,h1,h2,h3,h4,h5,hq⟩
  ·rename_i h;rw[if_neg h] at hq;exact⟨K',st,S,H,a0,h1,h2,h3,h4,h5,hq⟩
 | _=>exact⟨K',st,S,H,a0,h1,h2,h3,h4,h5,hq⟩
theorem Auy {o:Operand} {x y:Code} {b:Bool} (ho:C6 ⟨t,m⟩ o=.s (.one (.b b))) (h1:b=true->AWI rd P c ok x Q ⟨t,m⟩) (h0:b=false->AWI rd P c ok y Q ⟨t,m⟩):AWI rd P c ok (.cond o x y) Q ⟨t,m⟩:=by
 intro hn K hK a w S H r z
 have h:=B1 r o
 rw[ho] at h
 have hv:(dsl a K.ds).eval o=.bool b:=by rw[Ae3];exact X6 (h:Rep w S (.b b) (a.eval o))
 exact wpIn_cond_split hv (λhb=>h1 hb hn K hK a w S H r z) (λhb=>h0 hb hn K hK a w S H r z)
end
def Aah (D:Nat):Deferred:={ target:=.collected D,args:=#[] }
def okO (c:Ctx) (K:FrK):Prop:=∃ Ds:List Nat,K.ds=Ds.map Aah/\K.Z=Ds.map (λD=>(D,.deferred (some [])))/\Ds.Nodup/\∀ D∈Ds,c.w0.heap.size<=D
def okB (K:FrK):Prop:=K.ds=[]
theorem Aao {P:Program} {fn:Func} {R:Ending->World->Prop} {c:Ctx} {st:AS} {a:Act} {S:Cq} {H:Nat->Value} (hR:∀ w',Rel c st a w' S H->∃ v,(results fn a.tmps).run P w'=.ok v w'/\R (.returned v) w') :
  ∀ (Ds:List Nat) (w:World),Ds.Nodup->(∀ D∈Ds,c.w0.heap.size<=D)->Zed w (Ds.map (λD=>(D,.deferred (some []))))->Rel c st a w S H->LeavesInM Fence.wide 0 P fn a.tmps R (Ds.map Aah) .returning w
 | [],w,_,_,_,r=>hR w r
 | D::Ds,w,hn,hge,z,r=>by
  have hD:w.heap[D]? = some (.deferred (some [])):=(z (D,.deferred (some [])) (yV ..)).1
  refine⟨by simp,.inl ⟨D,w.putObj D (.deferred none),rfl,run_takeDeferred hD,Aao hR Ds _ (xW.1 hn).2 (λD' h=>hge D' (yT _ h)) ?_ (r.putObj _ hD rfl rfl (hge D (yV ..)))⟩⟩
  refine Zed.putObj (λx hx=>z x (yT _ hx)) λx hx e=>?_
  rw[yN] at hx
  obtain⟨D',h1,rfl⟩:=hx
  exact(xW.1 hn).1 (e ▸ h1)
theorem Zi {P:Program} {f:FuncId} {fn:Func} {body:Code} {args:List SV} {R:AV->Prop} (hf:P.funcs[f]? = some fn) (hb:fn.body=some body) {nt:Nat} (hnt:fn.ntmps=nt) (hn:args.length<=nt)
  (h:∀ w0 S0,AWI none P (Ctx.of w0 S0 nt) (okO (Ctx.of w0 S0 nt)) body (At7 P fn R) ⟨Aoo args,[]⟩):Bt P f args R:=by
 subst hnt
 intro w S vs hS hv
 refine callsIn_wide.1 (callsIn_of_wp_marks (n:=0) hf hb trivial ?_)
 have hlen:vs.size=args.length:=by have:=hv.1;simp at this;omega
 have hget:∀ i,(vs++Array.replicate (fn.ntmps-vs.size) undef).getD i undef=vs.getD i undef:=by
  intro i
  simp only[zF,kR]
  split
  ·rfl
  ·rename_i hi
   rw[xZ]
   have:vs[i]? = none:=xS (by omega)
   rw[this]
   split <;> rfl
 have r0:Rel (Ctx.of w S fn.ntmps) ⟨Aoo args,[]⟩ { tmps:=vs++Array.replicate (fn.ntmps-vs.size) undef,defers:=[] } w S (λ_=>undef):=by
  refine⟨by simp;omega,rfl,λi=>?_,λp b h=>by simp at h,λp b g h=>by simp at h,λp q b b' g h=>by simp at h,λp b g i h=>by simp at h,hS,Xi.refl _ w S,zX _,λp g h=>absurd h (zR _),λp e sz k cs h=>absurd h (zR _),λp h=>absurd h (zR _)⟩
  rw[hget]
  show AVR _ (match args[i]? with|some x=>.s x|none=>.tup []) _
  cases ha:args[i]? with
  | none =>
   have:vs[i]? = none:=xS (by rw[hlen];exact xR.1 ha)
   simp only[zF,this,jD]
   exact Ky
  | some x =>
   have hi:i<args.length:=(zC.1 ha).1
   have hi':i<vs.size:=by omega
   have:vs[i]? = some vs[i]:=zS hi'
   simp only[zF,this,yK]
   exact SVR.mono (λ_ _=>Ct.of_rep) (hv.2 i x _ ha (by simp))
 have hno:Ahl (At7 P fn R):=λst hs=>by rcases hs.1 with h|h <;> cases h
 refine wpIn_mono (h w S hno ⟨[],[]⟩ ⟨[],rfl,rfl,kF,λD h=>by cases h⟩ _ w S _ r0 (λx h=>by cases h)) ?_
 rintro e a w1 ⟨K',st,S1,H,a0,⟨Ds,h1,h2,h3,h4⟩,_,rfl,r,z,he,xs,ys,m',hx,hp,hR⟩
 have key:LeavesInM Fence.wide 0 P fn a0.tmps (λe w'=>∃ v x S',e=.returned v/\R x/\Ext w S w' S'/\InH w' S'/\AVR (Rep w' S') x v) (Ds.map Aah) .returning w1:=by
  refine Aao (c:=Ctx.of w S fn.ntmps) (st:=st) (S:=S1) (H:=H) (λw' r=>?_) Ds w1 h3 h4 (by rw[<- h2];exact z) r
  obtain⟨u,hu,hk⟩:=Xw r hx
  obtain⟨S2,k2,g2⟩:=hp.keeps r
  exact⟨u,hu,u,Afo ys,S2,rfl,hR,k2.rel.ex.toExt (λ_ h=>h),k2.rel.sl,hk S2 ys g2⟩
 rw[<- h1] at key
 rcases he with rfl|rfl
 ·exact key
 ·exact key
structure Asg (w:World) (S:Cq) (w':World) (S':Cq):Prop where
 st:∀ b i,S b i->S' b i/\w'.cell? ⟨b,i,none⟩=w.cell? ⟨b,i,none⟩
 sl:InH w' S'
def Asq (P:Program) (fc:FuncId) (cap:List Lf) (L:List (SV×SV)):Prop :=
 ∀ (l:Nat) (J:Nat->World->Cq->Prop) (Jx:World->Cq->Prop) (w:World) (S:Cq) (vs:Array Value),
  (∀ k w S w' S',J k w S->Ext w S w' S'->InH w' S'->J k w' S')->(∀ w S w' S',Jx w S->Ext w S w' S'->InH w' S'->Jx w' S') ->
  (∀ k x y w S v u,L[k]? = some (x,y)->J k w S->InH w S->SVR (Rep w S) x v->SVR (Rep w S) y u ->
   ∃ fn tmps assign body,(Instr.yield l #[v,u]).run P w=.ok (.round l fn tmps assign body) w /\
    RoundIn Fence.wide 0 P l fn tmps assign body w (λe w'=>∃ b S',e=.returned (.bool b)/\Asg w S w' S'/\(if b then J (k+1) w' S' else Jx w' S'))) ->
  J 0 w S->InH w S->LsR (Rep w S) cap vs.toList ->
  Calls P fc (#[.func (.yield l) #[] #[]]++vs) w λe w'=>∃ v S',e=.returned v/\InH w' S'/\(J L.length w' S'\/Jx w' S')
def RQ {G:Type} (mm:G->List Blk) (pre:G->Prop) (jmp:Code->G->Prop):Exit->AS->Prop
 | .normal,st=>∃ g ex,pre g/\st.m=mm g++ex
 | .ret,st=>∃ g ex,jmp .ret g/\st.m=mm g++ex
 | .exit id,st=>∃ g ex,jmp (.exit id) g/\st.m=mm g++ex
 | _,_=>False
theorem Rel.swap {c:Ctx} {t t':Nat->AV} {m:List Blk} {a a':Act} {w:World} {S:Cq} {H:Nat->Value} (r:Rel c ⟨t',m⟩ a' w S H) (hn:a.tmps.size=c.nt) (hd:a.defers=[]) (tm:∀ i,AVR (Ct w S m H) (t i) (a.tmps.getD i undef)):Rel c ⟨t,m⟩ a w S H :=
 ⟨hn,hd,tm,r.bl,r.lo,r.inj,r.sb,r.sl,r.ex,r.kl,r.kh,r.kr,r.ku⟩
section
variable {P:Program} {c:Ctx} {Q:Exit->AS->Prop} {t:Nat->AV} {m:List Blk}
theorem Axv {go:Operand} {p1 p2:Tmp} {assign body:Code} {fc:FuncId} {cap:List Lf} {L:List (SV×SV)} {G:Type} (mm:G->List Blk) (pre:Nat->G->Prop) (jmp:Code->G->Prop) (g0:G)
  (hg:C6 ⟨t,m⟩ go=.s (.one (.fn fc [] cap))) (hfc:FnI P fc) (hcap:cap.all Lf.pubd0=true) (hit:Asq P fc cap L) (hp1:decide (p1<c.nt)=true) (hp2:decide (p2<c.nt)=true)
  (h0:pre 0 g0) (hm:m=mm g0) (hlen:∀ g,(mm g).length=m.length) (hmin:∀ g,∀ b∈mm g,b.inb (mm g).length)
  (round:∀ k x y g l,L[k]? = some (x,y)->pre k g->∀ w0 S0 X H0,AWI (some l) P ⟨w0,S0,c.nt,X,mm g,H0⟩ okB assign
   (Qm (λst1=>∀ w0 S0 X H0,AWI (some l) P ⟨w0,S0,c.nt,X,st1.m,H0⟩ okB body (RQ mm (pre (k+1)) jmp) st1) (λ_ _=>False)) ⟨upd (upd t p1 (.s x)) p2 (.s y),mm g⟩)
  (done:∀ g,pre L.length g->Q .normal ⟨t,mm g⟩) (hret:∀ g,jmp .ret g->Q .ret ⟨t,mm g⟩) (hex:∀ id g,jmp (.exit id) g->Q (.exit id) ⟨t,mm g⟩) :
  AWI none P c (okO c) (.rangeFunc go #[p1,p2] assign body) Q ⟨t,m⟩:=by
 intro hq K hK a w S H r z
 obtain⟨Ds,hds,hZ,hnd,hge⟩:=hK
 have hp1':p1<c.nt:=of_decide_eq_true hp1
 have hp2':p2<c.nt:=of_decide_eq_true hp2
 have hgo:=B1 r go
 rw[hg] at hgo
 obtain⟨va,vb,hgv,hva,hvb⟩:=hgo
 have hva0:va = #[]:=Array.eq_empty_of_size_eq_zero (by have:=hva.1;simpa using this.symm)
 subst hva0
 refine wpIn_rangeFunc λfn _=>?_
 obtain⟨D,hD⟩:∃ D,D=w.heap.size:=⟨_,rfl⟩
 obtain⟨l,hl⟩:∃ l,l=w.heap.size+1:=⟨_,rfl⟩
 obtain⟨rec,hrec⟩:∃ rec:LoopState->Option Code->Loop,rec=λst pe=>{ state:=st,pending:=pe,fn,tmps:=a.tmps,params:=#[p1,p2],assign,body,defers:=w.heap.size }:=⟨_,rfl⟩
 obtain⟨W1,hW1⟩:∃ W1,(w.alloc (.deferred (some []))).alloc (.loop (rec .ready none))=W1:=⟨_,rfl⟩
 have hx1:Ext w S W1 S:=by rw[<- hW1];exact(Ext.alloc w S _).trans (Ext.alloc _ S _)
 have hS1:InH W1 S:=InH.ext hx1 r.sl
 have hL1:W1.heap[l]? = some (.loop (rec .ready none)):=by
  rw[<- hW1,hl];have:=World.alloc_heap_new (w.alloc (.deferred (some []))) (.loop (rec .ready none));rwa [World.size_alloc] at this
 have hD1:W1.heap[D]? = some (.deferred (some [])):=by
  rw[<- hW1,hD];exact(Below.heap_alloc _ _ _ (by simp)).trans (World.alloc_heap_new w _)
 have hcl:c.w0.heap.size<=l:=by rw[hl];exact yO r.ex.size (xF _)
 have hDl:D≠l:=by omega
 have hZl:∀ x∈K.Z,x.1<w.heap.size:=λx hx=>(yB.1 (z x hx).1).1
 let Zr:Obj->List (Nat×Obj):=λo=>(l,o)::(D,.deferred (some []))::K.Z
 have zput:∀ {w':World} {o:Obj} (o':Obj),Adb o'=false->Zed w' (Zr o)->Zed (w'.putObj l o') (Zr o'):=by
  intro w' o o' ho' zz x hx
  rcases yM.1 hx with rfl|hx
  ·exact⟨World.putObj_heap_same (yB.1 (zz (l,o) (yV ..)).1).1,ho'⟩
  ·have h1:=zz x (yT _ hx)
   have hne:x.1≠l:=by
    rcases yM.1 hx with rfl|hx
    ·exact hDl
    ·have:=hZl x hx;omega
   exact⟨(World.putObj_heap_other hne).trans h1.1,h1.2⟩
 let J:Nat->World->Cq->Prop:=λk W S=>∃ g H,pre k g/\Rel c ⟨t,mm g⟩ a W S H/\Zed W (Zr (.loop (rec .ready none)))
 let Jx:World->Cq->Prop:=λW S=>∃ jc g H,jmp jc g/\(jc=.ret\/∃ id,jc=.exit id)/\Rel c ⟨t,mm g⟩ a W S H/\Zed W (Zr (.loop (rec .done (some jc))))
 have hJ0:J 0 W1 S:=by
  refine⟨g0,H,h0,by rw[<- hm];exact r.ext hx1 hS1,λx hx=>?_⟩
  rcases yM.1 hx with rfl|hx
  ·exact⟨hL1,rfl⟩
  ·rcases yM.1 hx with rfl|hx
   ·exact⟨hD1,rfl⟩
   ·exact(z.ext hx1) x hx
 have hcapR:LsR (Rep W1 S) cap vb.toList:=by
  refine⟨hvb.1,λj x v h1 h2=>?_⟩
  exact Rep.mono (hx1.keeps r.sl) (F9.rep (hvb.2 j x v h1 h2) ((zI.1 hcap) x (zJ h1)))
 have hev:(dsl a K.ds).eval go=.func (.func fc) #[] vb:=by rw[Ae3];exact hgv
 refine⟨l,[Aah D],W1,{ target:=.fn (.func fc) vb,args:=#[.func (.yield l) #[] #[]] },W1,fc,#[.func (.yield l) #[] #[]]++vb,W1,?_,?_,λ_ _=>trivial,?_,λhh=>(by simp [FW,Fence.wide] at hh),?_⟩
 ·rw[<- hW1,hrec,hl,hD];exact run_enterLoop_outer _ _ _ _ _
 ·simp only[resolve,hev]
  simp [Deferred.ofValue,Act.eval]
 ·simp [invoke,hfc.run]
 ·refine Aea ((hit l J Jx W1 S vb ?_ ?_ ?_ hJ0 hS1 hcapR).mono ?_)
  ·rintro k w S w' S' ⟨g,H,h1,h2,h3⟩ hx hin
   exact⟨g,H,h1,h2.ext hx hin,h3.ext hx⟩
  ·rintro w S w' S' ⟨jc,g,H,h1,h1',h2,h3⟩ hx hin
   exact⟨jc,g,H,h1,h1',h2.ext hx hin,h3.ext hx⟩
  ·
   rintro k x0 y W S v u hxy ⟨g,H,hp,r1,z1⟩ hin hv hu
   have hl1:W.heap[l]? = some (.loop (rec .ready none)):=(z1 (l,_) (yV ..)).1
   have hy:=run_yield (P:=P) (args:=#[v,u]) hl1 (by rw[hrec];rfl)
   rw[hrec] at hy
   have r2:Rel c ⟨upd (upd t p1 (.s x0)) p2 (.s y),mm g⟩ ((a.put (some p1) v).put (some p2) u) W S H :=
    (r1.put hp1' (show AVR _ (.s x0) v from SVR.mono (λ_ _ h=>Ct.of_rep h) hv)).put hp2' (show AVR _ (.s y) u from SVR.mono (λ_ _ h=>Ct.of_rep h) hu)
   refine⟨fn,_,assign,body,hy,roundIn_of_wpIn trivial ?_⟩
   have hA:=round k x0 y g l hxy hp W S (Aw3 (mm g) H) H (λst hs=>hs) ⟨[],Zr (.loop (rec .ready none))⟩ rfl _ W S H r2.now z1
   have hact:dsl ((a.put (some p1) v).put (some p2) u) []={ tmps:=(#[p1,p2].zip #[v,u]).foldl (λt (x:Tmp×Value)=>t.setIfInBounds x.1 x.2) a.tmps,defers:=[] }:=by simp [dsl,Act.put]
   rw[hact] at hA
   refine wpIn_mono hA ?_
   rintro e a1 w1 ⟨K1,st1,S1,H1,a10,hok1,hz1,rfl,r3,z3,hq1⟩
   cases e with
   | normal =>
    have hK1:K1.ds=[]:=hok1
    have z3':Zed w1 (Zr (.loop (rec .ready none))):=λx hx=>z3 x (hz1 x hx)
    have hl3:w1.heap[l]? = some (.loop (rec .ready none)):=(z3' (l,_) (yV ..)).1
    refine⟨_,run_beginRound hl3 (by rw[hrec]),?_⟩
    have r3c:Rel c st1 a10 w1 S1 H1:=r2.then_now r3
    have hb3:({ rec .ready none with state:=.busy }:Loop)=rec .busy none:=by rw[hrec]
    rw[hb3]
    have r4:Rel c st1 a10 (w1.putObj l (.loop (rec .busy none))) S1 H1:=r3c.putObj _ hl3 rfl rfl hcl
    have z4:=zput (.loop (rec .busy none)) rfl z3'
    have hB:=hq1 (w1.putObj l (.loop (rec .busy none))) S1 (Aw3 st1.m H1) H1 (λst hs=>hs) ⟨[],Zr (.loop (rec .busy none))⟩ rfl a10 _ S1 H1 r4.now z4
    rw[hK1]
    refine wpIn_mono hB ?_
    have fin:∀ (st':AS) (a0':Act) (w3:World) (S3:Cq) (H3:Nat->Value) (K3:FrK) (g':G) (ex:List Blk) (o':Obj),(∀ z∈Zr (.loop (rec .busy none)),z∈K3.Z)->Rel (c.now st1 (w1.putObj l (.loop (rec .busy none))) S1 H1) st' a0' w3 S3 H3->Zed w3 K3.Z->st'.m=mm g'++ex->Adb o'=false ->
      w3.heap[l]? = some (.loop (rec .busy none))/\Asg W S (w3.putObj l o') S3/\∃ H4,Rel c ⟨t,mm g'⟩ a (w3.putObj l o') S3 H4/\Zed (w3.putObj l o') (Zr o'):=by
     intro st' a0' w3 S3 H3 K3 g' ex o' hz3 r5 z5 hm' ho'
     have z5':Zed w3 (Zr (.loop (rec .busy none))):=λx hx=>z5 x (hz3 x hx)
     have hl5:w3.heap[l]? = some (.loop (rec .busy none)):=(z5' (l,_) (yV ..)).1
     have hc2:=Xz (o':=.loop (rec .busy none)) hl3 rfl rfl
     have hc4:=Xz (o':=o') hl5 rfl ho'
     have r5':Rel (c.now st1 (w1.putObj l (.loop (rec .busy none))) S1 H1) ⟨st'.t,mm g'++ex⟩ a0' w3 S3 H3:=by rw[<- hm'];exact r5
     have r6:Rel c ⟨st'.t,mm g'++ex⟩ a0' w3 S3 H3:=r4.then_now r5'
     have r7:=(r6.putObj o' hl5 rfl ho' hcl).trim (t':=λ_=>.top) (λ_=>.inl rfl) (hmin g') (by rw[hlen];have:=r.kl;exact this)
     refine⟨hl5,⟨λb i hs=>?_,r7.sl⟩,H3,r7.swap r1.nt r1.df (λi=>?_),zput o' ho' z5'⟩
     ·have s1:=r3.ex.sub b i hs
      refine⟨r5.ex.sub b i s1,?_⟩
      exact(hc4 _).trans ((r5.ex.stab b i s1).trans ((hc2 _).trans (r3.ex.stab b i hs)))
     ·refine AVR.mono (λx v hx=>?_) (r1.tm i)
      have e3:Ct w3 S3 (mm g') H3 x v:=by
       have hl0:(mm g).length=m.length:=hlen g
       have hl1:(mm g).length<=st1.m.length:=r3.kl
       refine Ct.mono2 (λb i hs=>?_) (by rw[hlen g',hl0];exact zN _) (λp gg hp hh=>?_) (λp hp hne=>r5.ku p (zU hp hl1) (r3.ku p hp hne)) (λp e sz k cs hp hm=>?_) hx
       ·have s1:=r3.ex.sub b i hs
        exact⟨r5.ex.sub b i s1,(r5.ex.stab b i s1).trans ((hc2 _).trans (r3.ex.stab b i hs))⟩
       ·have h1:H1 p=H p:=r3.kh p gg hp hh
        exact(r5.kh p gg (zU hp hl1) (h1.trans hh)).trans h1
       ·have hm2:(mm g'++ex)[p]? = some (.arr e sz k cs):=by rw[zL (by rw[hlen g',<- hl0];exact hp)];exact hm
        obtain⟨k1,cs1,q1,q2⟩:=r5'.kr p e sz k cs (zU hp hl1) hm2
        obtain⟨k2,cs2,q3,q4⟩:=r3.kr p e sz k1 cs1 hp q1
        refine⟨k2,cs2,q3,?_⟩
        rcases q2 with⟨q2,q5⟩|q2 <;> rcases q4 with⟨q4,q6⟩|q4
        ·exact .inl ⟨q4.trans q2,q5.trans q6⟩
        ·exact .inr (by omega)
        ·exact .inr (by omega)
        ·exact .inr (by omega)
      exact Ct.mono (λb i hs=>⟨hs,hc4 _⟩) (zN _) (λ_ _=>rfl) (λp e sz k cs _ hm=>⟨k,cs,hm,rfl⟩) e3
    rintro e a3 w3 ⟨K3,st',S3,H3,a0',hok3,hz3,rfl,r5,z5,hq3⟩
    cases e with
    | normal =>
     obtain⟨g',ex,hp',hm'⟩:=hq3
     obtain⟨hl5,hks,H4,hr4,hz4⟩:=fin st' a0' w3 S3 H3 K3 g' ex (.loop (rec .ready none)) hz3 r5 z5 hm' rfl
     have he:=run_endRound (P:=P) none hl5
     rw[hrec] at he
     refine⟨_,_,he,true,S3,rfl,?_,?_⟩
     ·rw[hrec] at hks;exact hks
     ·refine⟨g',H4,hp',?_,?_⟩
      ·rw[hrec] at hr4;exact hr4
      ·rw[hrec] at hz4;rw[hrec];exact hz4
    | ret =>
     obtain⟨g',ex,hp',hm'⟩:=hq3
     obtain⟨hl5,hks,H4,hr4,hz4⟩:=fin st' a0' w3 S3 H3 K3 g' ex (.loop (rec .done (some .ret))) hz3 r5 z5 hm' rfl
     have he:=run_endRound (P:=P) (some .ret) hl5
     rw[hrec] at he
     refine⟨_,_,he,false,S3,rfl,?_,?_⟩
     ·rw[hrec] at hks;exact hks
     ·refine⟨.ret,g',H4,hp',.inl rfl,?_,?_⟩
      ·rw[hrec] at hr4;exact hr4
      ·rw[hrec] at hz4;rw[hrec];exact hz4
    | exit id =>
     obtain⟨g',ex,hp',hm'⟩:=hq3
     obtain⟨hl5,hks,H4,hr4,hz4⟩:=fin st' a0' w3 S3 H3 K3 g' ex (.loop (rec .done (some (.exit id)))) hz3 r5 z5 hm' rfl
     have he:=run_endRound (P:=P) (some (.exit id)) hl5
     rw[hrec] at he
     refine⟨_,_,he,false,S3,rfl,?_,?_⟩
     ·rw[hrec] at hks;exact hks
     ·refine⟨.exit id,g',H4,hp',.inr ⟨id,rfl⟩,?_,?_⟩
      ·rw[hrec] at hr4;exact hr4
      ·rw[hrec] at hz4;rw[hrec];exact hz4
    | goto lb=>exact absurd hq3 id
    | panic ch=>exact absurd hq3 id
    | outgrown=>exact absurd hq3 id
   | _=>exact hq1
  ·
   rintro e w5 ⟨v,S5,rfl,hin,hj⟩
   have okK:okO c ⟨Aah D::K.ds,(D,.deferred (some []))::K.Z⟩:=by
    refine⟨D::Ds,by rw[hds];rfl,by rw[hZ];rfl,xW.2 ⟨λhm=>?_,hnd⟩,λD' h=>?_⟩
    ·have:=hZl (D,.deferred (some [])) (by rw[hZ];exact yN.2 ⟨D,hm,rfl⟩)
     simp only at this
     omega
    ·rcases yM.1 h with rfl|h
     ·rw[hD];exact r.ex.size
     ·exact hge D' h
   rcases hj with⟨g,H5,hp,r5,z5⟩|⟨jc,g,H5,hp,hjc,r5,z5⟩
   ·have hl5:w5.heap[l]? = some (.loop (rec .ready none)):=(z5 (l,_) (yV ..)).1
    have he:=run_endLoop (P:=P) hl5 (by rw[hrec];simp)
    refine⟨_,_,he,?_⟩
    rw[hrec]
    exact⟨⟨Aah D::K.ds,(D,.deferred (some []))::K.Z⟩,_,S5,H5,a,okK,λx hx=>yT _ hx,rfl,r5.putObj _ hl5 rfl rfl hcl,λx hx=>(zput (.loop _) rfl z5) x (yT _ hx),done g hp⟩
   ·have hl5:w5.heap[l]? = some (.loop (rec .done (some jc))):=(z5 (l,_) (yV ..)).1
    have he:=run_endLoop (P:=P) hl5 (by rw[hrec];simp)
    refine⟨_,_,he,?_⟩
    rw[hrec]
    have post:∀ e,Q e ⟨t,mm g⟩->QI c (okO c) K Q e (dsl a (Aah D::K.ds)) (w5.putObj l (.loop { ({ state:=.done,pending:=some jc,fn,tmps:=a.tmps,params:=#[p1,p2],assign,body,defers:=w.heap.size }:Loop) with state:=.exhausted })):=λe hqe =>
     ⟨⟨Aah D::K.ds,(D,.deferred (some []))::K.Z⟩,_,S5,H5,a,okK,λx hx=>yT _ hx,rfl,r5.putObj _ hl5 rfl rfl hcl,λx hx=>(zput (.loop _) rfl z5) x (yT _ hx),hqe⟩
    rcases hjc with rfl|⟨id,rfl⟩
    ·exact wpIn_ret (post _ (hret g hp))
    ·exact wpIn_exit (post _ (hex id g hp))
end
open Go.RowKit
section
variable {P:Program} {c:Ctx} {ops:Array Oper} {Q:Exit->AS->Prop} {rest:List Oper} {ty:TypeId} {pos:String} {af:Array Edge} {d:Tmp} {t:Nat->AV} {m:List Blk}
theorem Aof {t':TypeId} {y:Operand} {x:SV} (hd:decide (d<c.nt)=true) (hx:C6 ⟨t,m⟩ y=.s x) (hpub:x.cells.all Lf.pubd=true)
  (k:AWL P c ops Q rest ⟨upd t d (.s (.one (.cp x.cells))),m⟩):AWL P c ops Q (⟨some d,.box t' y,ty,pos,af,none⟩::rest) ⟨t,m⟩:=by
 intro a w S H r
 have h:=B1 r y
 rw[hx] at h
 have hls:=Vz h (λl v=>Ct.oneCell)
 obtain⟨cells,hce⟩:∃ cells,cells=(a.eval y).cells:=⟨_,rfl⟩
 rw[<- hce] at hls
 have hrun:(execOp a.eval ⟨some d,.box t' y,ty,pos,af,none⟩).run P w=.ok (.value (.pointer (some ⟨w.heap.size,0,none⟩))) (w.alloc (.cells cells t')):=by
  rw[hce];simp [execOp,Instr.box,newVar,newRow]
 let S':Cq:=λb i=>S b i\/(b=w.heap.size/\i<cells.size)
 have hx1:Ext w S (w.alloc (.cells cells t')) S':=⟨rfl,rfl,rfl,by simp,λb hb=>Below.heap_alloc w _ b hb,λ_ _ h=>.inl h,λb i hb h=>by
  rcases h with h|⟨h,_⟩
  ·exact h
  ·omega⟩
 have hin:InH (w.alloc (.cells cells t')) S':=⟨λb i hs=>by
  rcases hs with hs|⟨rfl,_⟩
  ·exact zU (r.sl.1 b i hs) hx1.size
  ·simp,r.sl.2.1.mono (hx1.keeps r.sl),(r.sl.2.2.ext (Ext.alloc w S _) r.sl.1).add λb i hs=>by
   rcases hs with hs|⟨rfl,hi⟩
   ·exact .inl hs
   ·refine .inr ⟨?_,λj hj=>absurd (r.sl.1 _ j hj) (wD _)⟩
    unfold World.cell?
    rw[show(w.alloc (.cells cells t')).heap[(⟨w.heap.size,i,none⟩:Addr).block]? = some (.cells cells t') from heap_alloc_new w _]
    show cells[i]? ≠ none
    rw[zS hi]
    exact λh=>by cases h⟩
 refine wpList_plain rfl λK hK=>?_
 unfold Oper.wp
 rw[hrun]
 refine hK _ _ (k _ _ _ _ ((r.ext hx1 hin).put (of_decide_eq_true hd) ?_))
 have hrep:Rep (w.alloc (.cells cells t')) S' (.cp x.cells) (.pointer (some ⟨w.heap.size,0,none⟩)):=by
  have hcell:∀ j,(w.alloc (.cells cells t')).cell? ⟨w.heap.size,j,none⟩=cells[j]? := λj=>by
   unfold World.cell?
   rw[show(w.alloc (.cells cells t')).heap[(⟨w.heap.size,j,none⟩:Addr).block]? = some (.cells cells t') from heap_alloc_new w _]
   rfl
  have hj:∀ (j:Nat) (l:Lf),x.cells[j]? = some l->∃ v,cells[j]? = some v/\Ct w S m H l v:=λj l hl=>by
   obtain⟨v,h1,h2⟩:=hls.get hl
   exact⟨v,by simpa using h1,h2⟩
  refine .cp x.cells w.heap.size 0 (λj=>cells.getD j undef) (λj l hl=>?_) (λj l hl=>?_)
  ·obtain⟨v,h1,h2⟩:=hj j l hl
   rw[yE]
   refine⟨.inr ⟨rfl,(yB.1 h1).1⟩,(hcell j).trans ?_⟩
   simp [h1]
  ·obtain⟨v,h1,h2⟩:=hj j l hl
   have:cells.getD j undef=v:=by simp [h1]
   rw[this]
   exact Rep.mono (hx1.keeps r.sl) (Ct.rep h2 ((zI.1 hpub) l (zJ hl)))
 exact hrep
end
abbrev YK:=World->Cq->Prop
def A0w (K:YK):Prop:=∀ w S w' S',K w S->Ext w S w' S'->InH w' S'->K w' S'
def QY (nt:Nat) (Q:Exit->(Nat->AV)->YK->Prop):Exit->Act->World->Prop:=λe a w=>∃ t S H K,Rel (Ctx.of w S nt) ⟨t,[]⟩ a w S H/\K w S/\Q e t K
def At0 (Q:Exit->(Nat->AV)->YK->Prop):Prop:=∀ t K,¬ Q .outgrown t K
def Awz (n:(Nat->AV)->YK->Prop) (Q:Exit->(Nat->AV)->YK->Prop):Exit->(Nat->AV)->YK->Prop
 | .normal,t,K=>n t K
 | e,t,K=>Q e t K
def Ae7 (id:Nat) (Q:Exit->(Nat->AV)->YK->Prop):Exit->(Nat->AV)->YK->Prop
 | .exit id',t,K=>if id'=id then Q .normal t K else Q (.exit id') t K
 | e,t,K=>Q e t K
def AWY (P:Program) (nt:Nat) (x:Code) (Q:Exit->(Nat->AV)->YK->Prop) (K:YK) (t:Nat->AV):Prop :=
 At0 Q->∀ a w S H,Rel (Ctx.of w S nt) ⟨t,[]⟩ a w S H->K w S->x.wpIn Fence.wide 0 P (QY nt Q) a w
def Asw (P:Program) (nt:Nat) (ops:Array Oper) (Q:Exit->(Nat->AV)->YK->Prop) (K:YK) (l:List Oper) (t:Nat->AV):Prop :=
 At0 Q->∀ a w S H,Rel (Ctx.of w S nt) ⟨t,[]⟩ a w S H->K w S->wpListIn Fence.wide 0 P ops (QY nt Q) l a w
theorem Rel.here {c:Ctx} {t:Nat->AV} {a:Act} {w:World} {S:Cq} {H:Nat->Value} {nt:Nat} (hn:c.nt=nt) (r:Rel c ⟨t,[]⟩ a w S H):Rel (Ctx.of w S nt) ⟨t,[]⟩ a w S H :=
 ⟨r.nt.trans hn,r.df,r.tm,λp b h=>by simp at h,λp b g h=>by simp at h,λp q b b' g h=>by simp at h,λp b g i h=>by simp at h,r.sl,Xi.refl _ w S,zX _,λp g h=>absurd h (zR _),λp e sz k cs h=>absurd h (zR _),λp h=>absurd h (zR _)⟩
theorem Rel.kept {t:Nat->AV} {a:Act} {w w':World} {S S':Cq} {H:Nat->Value} {nt:Nat} (r:Rel (Ctx.of w S nt) ⟨t,[]⟩ a w S H) (h:Asg w S w' S'):Rel (Ctx.of w' S' nt) ⟨t,[]⟩ a w' S' H :=
 ⟨r.nt,r.df,λi=>AVR.mono (λl v=>Ct.mono h.st (zN _) (λ_ _=>rfl) (λp e sz k cs hp _=>by simp at hp)) (r.tm i),λp b h=>by simp at h,λp b g h=>by simp at h,λp q b b' g h=>by simp at h,λp b g i h=>by simp at h,h.sl,Xi.refl _ w' S',zX _,λp g h=>absurd h (zR _),λp e sz k cs h=>absurd h (zR _),λp h=>absurd h (zR _)⟩
theorem Vv {F:Fence} {n:Nat} {P:Program} {ops:Array Oper} {Q:Exit->Act->World->Prop} {l2:List Oper}:∀ (l1:List Oper) (a:Act) (w:World),wpListIn F n P ops (Exit.then (wpListIn F n P ops Q l2) Q) l1 a w->wpListIn F n P ops Q (l1++l2) a w
 | [],a,w,h=>h
 | o::l1,a,w,h=>by
  have ih:=Vv (F:=F) (n:=n) (P:=P) (ops:=ops) (Q:=Q) (l2:=l2) l1
  simp only[List.cons_append]
  unfold wpListIn at h ⊢
  split at h
  ·rename_i hw
   rw[if_pos hw]
   obtain⟨h1,h2⟩:=h
   refine⟨h1,?_⟩
   generalize (o.semAt F.round a.eval).run P w=r at h2
   have hlet:LetsOut (Exit.then (wpListIn F n P ops Q l2) Q)->LetsOut Q:=λ⟨a,w,h⟩=>⟨a,w,h⟩
   cases r with
   | ok nx w' =>
    cases nx with
    | value v=>exact ih _ _ h2
    | skip=>exact ih _ _ h2
    | defer d=>exact ih _ _ h2
    | enter f args =>
     refine⟨h2.1,h2.2.mono λe w'' hr=>?_⟩
     cases e with
     | returned v=>exact ih _ _ hr
     | panicked ch=>exact hr
     | outgrown=>exact hlet hr
    | row row args=>exact⟨h2.1,h2.2.mono λv w'' hr=>ih _ _ hr⟩
    | round l f tmps ag bd =>
     refine⟨h2.1,h2.2.mono λe w'' hr=>?_⟩
     cases e with
     | returned v=>exact ih _ _ hr
     | panicked ch=>exact hr
     | outgrown=>exact hlet hr
    | _=>exact absurd h2 id
   | halt x w' =>
    cases x with
    | panic v=>exact h2
    | _=>exact absurd h2 id
  ·rename_i hw
   rw[if_neg hw]
   exact⟨h.1,ih _ _ h.2⟩
section
variable {P:Program} {nt:Nat} {Q:Exit->(Nat->AV)->YK->Prop} {K:YK} {t:Nat->AV}
theorem Azw {x y:Code} (h:AWY P nt x (Awz (λt K=>AWY P nt y Q K t) Q) K t):AWY P nt (.seq x y) Q K t:=by
 intro hn a w S H r hK
 refine wpIn_seq (wpIn_mono (h (λt K hs=>hn t K hs) a w S H r hK) ?_)
 rintro e a w ⟨t,S,H,K,r,hK,hq⟩
 cases e with
 | normal=>exact hq hn a w S H r hK
 | _=>exact⟨t,S,H,K,r,hK,hq⟩
theorem Ajv {n:(Nat->AV)->YK->Prop} (h:n t K):Awz n Q .normal t K:=h
theorem A6m {id:Nat} (h:Q .normal t K):Ae7 id Q .normal t K:=h
theorem Azs (h:Q .normal t K):AWY P nt .skip Q K t:=λ_ _ _ S H r hK=>wpIn_skip ⟨t,S,H,K,r,hK,h⟩
theorem A18 {id:Nat} (h:Q (.exit id) t K):AWY P nt (.exit id) Q K t:=λ_ _ _ S H r hK=>wpIn_exit ⟨t,S,H,K,r,hK,h⟩
theorem A6c (h:Q .ret t K):AWY P nt .ret Q K t:=λ_ _ _ S H r hK=>wpIn_ret ⟨t,S,H,K,r,hK,h⟩
theorem At2 {id:Nat} {x:Code} (h:AWY P nt x (Ae7 id Q) K t):AWY P nt (.block id x) Q K t:=by
 intro hn a w S H r hK
 refine wpIn_block (wpIn_mono (h (λt K hs=>hn t K hs) a w S H r hK) ?_)
 rintro e a w ⟨t,S,H,K,r,hK,hq⟩
 cases e with
 | exit id' =>
  simp only[Ae7] at hq
  simp only[Exit.inBlock]
  split
  ·rename_i h;rw[if_pos h] at hq;exact⟨t,S,H,K,r,hK,hq⟩
  ·rename_i h;rw[if_neg h] at hq;exact⟨t,S,H,K,r,hK,hq⟩
 | _=>exact⟨t,S,H,K,r,hK,hq⟩
theorem Auw {o:Operand} {x y:Code} {b:Bool} (ho:C6 ⟨t,[]⟩ o=.s (.one (.b b))) (h1:b=true->AWY P nt x Q K t) (h0:b=false->AWY P nt y Q K t):AWY P nt (.cond o x y) Q K t:=by
 intro hn a w S H r hK
 have h:=B1 r o
 rw[ho] at h
 have hv:a.eval o=.bool b:=X6 (h:Rep w S (.b b) (a.eval o))
 exact wpIn_cond_split hv (λhb=>h1 hb hn a w S H r hK) (λhb=>h0 hb hn a w S H r hK)
theorem Arl {ops:Array Oper} {l1 l2:List Oper} (hK:A0w K) (hnd:l1.all ndf=true) (h:∀ w0 S0,AWL P (Ctx.of w0 S0 nt) ops (λe st=>e=.normal/\st.m=[]/\Asw P nt ops Q K l2 st.t) l1 ⟨t,[]⟩):Asw P nt ops Q K (l1++l2) t:=by
 intro hn a w S H r hk
 refine Vv l1 a w ?_
 have h1:=Abv (rd:=none) (ds:=[]) (Q1:=QR (Ctx.of w S nt) (λe st=>e=.normal/\st.m=[]/\Asw P nt ops Q K l2 st.t)) (Q2:=Exit.then (wpListIn Fence.wide 0 P ops (QY nt Q) l2) (QY nt Q)) ?_ ?_ ?_ l1 hnd a w (h w S a w S H r)
 ·rw[Akp r.df] at h1
  exact h1
 ·rintro⟨a,w,st,S,H,_,h,_⟩;cases h
 ·rintro e a w ⟨st,S,H,r,_⟩;exact r.df
 ·rintro e a' w' ⟨⟨t',m'⟩,S',H',r',rfl,hm,h⟩
  have hm':m'=[]:=hm
  subst hm'
  rw[Akp r'.df]
  exact h hn a' w' S' H' (r'.here rfl) (hK _ _ _ _ hk (r'.ex.toExt (λ_ h=>h)) r'.sl)
theorem Ahg {ops:Array Oper} (h:Q .normal t K):Asw P nt ops Q K [] t:=λ_ _ _ S H r hK=>⟨t,S,H,K,r,hK,h⟩
theorem Ap8 {id:Nat} {l:List Oper} (h:Asw P nt l.toArray Q K l t):AWY P nt (.region id l.toArray false) Q K t:=λhn a w S H r hK=>wpIn_region_lit (h hn a w S H r hK)
theorem Aot {id:Nat} {l:List Oper} (hK:A0w K) (hnd:l.all ndf=true) (h:∀ w0 S0,AWL P (Ctx.of w0 S0 nt) l.toArray (λe st=>e=.normal/\st.m=[]/\Asw P nt l.toArray Q K [] st.t) l ⟨t,[]⟩):AWY P nt (.region id l.toArray false) Q K t:=by
 refine Ap8 ?_
 have h1:=Arl (l2:=[]) hK hnd h
 rwa [xG] at h1
def A0l (P:Program) (l:Nat) (J:Nat->YK) (Jx:YK) (L:List (SV×SV)):Prop :=
 ∀ k x y w S v u,L[k]? = some (x,y)->J k w S->InH w S->SVR (Rep w S) x v->SVR (Rep w S) y u ->
   ∃ fn tmps assign body,(Instr.yield l #[v,u]).run P w=.ok (.round l fn tmps assign body) w /\
    RoundIn Fence.wide 0 P l fn tmps assign body w (λe w'=>∃ b S',e=.returned (.bool b)/\Asg w S w' S'/\(if b then J (k+1) w' S' else Jx w' S'))
theorem Aoc {w:World} {S:Cq} {H:Nat->Value} {x:SV} {v:Value} (h:SVR (Ct w S [] H) x v):SVR (Rep w S) x v:=by
 have h0:∀ l v,F9 w S [] H l v->Rep w S l v:=λl v h=>by
  cases l with
  | lp p off=>exact absurd h.1 (zR _)
  | ls p n=>exact absurd h.1 (zR _)
  | ap p n off=>exact absurd h.1 (zR _)
  | mp k p=>exact absurd h.1 (zR _)
  | _=>exact h
 refine SVR.mono (λl v h=>?_) h
 cases l with
 | lp p off=>exact absurd h.1 (zR _)
 | ls p n=>exact absurd h.1 (zR _)
 | ap p n off=>exact absurd h.1 (zR _)
 | mp k p=>exact absurd h.1 (zR _)
 | fn f a b =>
  obtain⟨va,vb,rfl,h1,h2⟩:=h
  refine .fn f a b va vb (by simpa using h1.1) (by simpa using h2.1) (λj l v hl hv=>h0 _ _ (h1.2 j l v hl (by simpa using hv))) (λj l v hl hv=>h0 _ _ (h2.2 j l v hl (by simpa using hv)))
 | _=>exact h0 _ _ h
theorem Arz {ops:Array Oper} {rest:List Oper} {o:Oper} {d:Tmp} {ty:Tmp} {ax ay:Operand} {ats:Array TypeId} {l:Nat} {J:Nat->YK} {Jx:YK} {L:List (SV×SV)} {k:Nat} {x y:SV}
  (ho:o.op=.call { callee:=.value (.tmp ty),args:=#[ax,ay],argTypes:=ats }) (hod:o.dst=some d) (hw:∀ a w S H,Rel (Ctx.of w S nt) ⟨t,[]⟩ a w S H->Region.wanted o (yielded ops a.tmps)=true)
  (hs:A0l P l J Jx L) (hd:decide (d<nt)=true) (hy:t ty=.s (.one (.raw (.func (.yield l) #[] #[])))) (hx:C6 ⟨t,[]⟩ ax=.s x) (hyy:C6 ⟨t,[]⟩ ay=.s y) (hL:L[k]? = some (x,y))
  (h1:Asw P nt ops Q (J (k+1)) rest (upd t d (.s (.one (.b true))))) (h0:Asw P nt ops Q Jx rest (upd t d (.s (.one (.b false))))):Asw P nt ops Q (J k) (o::rest) t:=by
 intro hn a w S H r hK
 have e1:=B1 r ax
 rw[hx] at e1
 have e2:=B1 r ay
 rw[hyy] at e2
 have e3:=r.tm ty
 have e3':AVR (Ct w S [] H) (t ty) (a.tmps.getD ty undef):=e3
 rw[hy] at e3'
 have hv:a.tmps.getD ty undef=.func (.yield l) #[] #[]:=Lu e3'
 obtain⟨fn,tmps,assign,body,hrun,hround⟩:=hs k x y w S (a.eval ax) (a.eval ay) hL hK r.sl (Aoc e1) (Aoc e2)
 have hev:(execOp a.eval o).run P w=.ok (.round l fn tmps assign body) w:=by
  obtain⟨odst,oop,oty,opos,oaf,og⟩:=o
  simp only at ho
  subst ho
  have hv':a.eval (.tmp ty)=.func (.yield l) #[] #[]:=hv
  simp only[execOp,resolve,hv',Deferred.ofValue,Sem.run_bind]
  simpa [invoke] using hrun
 have hsem:o.semAt Fence.wide.round a.eval=execOp a.eval o:=Oper.semAt_none _ _
 unfold wpListIn
 rw[if_pos (hw a w S H r)]
 refine⟨λ_ _=>trivial,?_⟩
 rw[hsem,hev]
 refine⟨λhh=>(by simp [Fence.wide] at hh),?_⟩
 refine hround.mono ?_
 rintro e w' ⟨b,S',rfl,hk,hj⟩
 have r':=(r.kept hk).put (d:=d) (x:=.s (.one (.b b))) (v:=.bool b) (of_decide_eq_true hd) (show AVR _ (.s (.one (.b b))) _ from Rep.b b)
 rw[hod]
 cases b with
 | true=>exact h1 hn _ _ _ _ (r'.here rfl) hj
 | false=>exact h0 hn _ _ _ _ (r'.here rfl) hj
theorem A4f {body:Code} {G:Type} (sl:G->List (Nat×AV)) (KK:G->YK) (pre:G->Prop) (μ:G->Nat) (g0:G) (p0:pre g0) (s0:Y5 t (sl g0)) (hK0:K=KK g0) (hin:∀ g,pre g->Aq0 0 (sl g))
  (round:∀ g,pre g->AWY P nt body (Awz (λt' K'=>∃ g',pre g'/\Y5 t' (sl g')/\K'=KK g'/\μ g'<μ g) Q) (KK g) (Afq (λ_=>.top) (sl g))):AWY P nt (.loop body) Q K t:=by
 subst hK0
 intro hn a w S H r hK b k cs hro hb hr
 have key:∀ n,∀ g a w S H,pre g->μ g=n->Rel (Ctx.of w S nt) ⟨Afq (λ_=>.top) (sl g),[]⟩ a w S H->KK g w S ->
   ∃ e a' w',QY nt Q e a' w'/\ArrivesIn (Machine.fenced P Fence.wide) P (lone (b.atR a (.code body::.inLoop body::k)) cs w) b k cs e a' w':=by
  intro n
  induction n using Nat.strongRecOn with
  | _ n ih =>
   intro g a w S H hp hμ r hK
   obtain⟨e,a₁,w₁,hqq,harr⟩:=round g hp (λt K hs=>hn t K hs) a w S H r hK b (.inLoop body::k) cs hro hb hr
   obtain⟨t',S',H',K',r',hK',hqq⟩:=hqq
   cases e with
   | normal =>
    obtain⟨g',hp',hs',rfl,hlt⟩:=hqq
    have rt:Rel (Ctx.of w₁ S' nt) ⟨Afq (λ_=>.top) (sl g'),[]⟩ a₁ w₁ S' H':=r'.weak λi=>by
     rcases Sp hs' (hin g' hp') i with h|h
     ·exact .inr h
     ·exact .inl h.1
    obtain⟨e₂,a₂,w₂,hq₂,harr₂⟩:=ih (μ g') (hμ ▸ hlt) g' a₁ w₁ S' H' hp' rfl rt hK'
    exact⟨e₂,a₂,w₂,hq₂,.of_steps (StepsIn.trans harr (.one (fenced_calm (n:=0) hb hr rfl) stepR_inLoop)) harr₂⟩
   | exit id=>exact⟨_,_,w₁,⟨t',S',H',K',r',hK',hqq⟩,.pass (x:=.inLoop body) rfl (λ_ _=>.inl (by simp)) harr⟩
   | goto l=>exact⟨_,_,w₁,⟨t',S',H',K',r',hK',hqq⟩,.pass (x:=.inLoop body) rfl (λ_ _=>.inl (by simp)) harr⟩
   | ret=>exact⟨_,_,w₁,⟨t',S',H',K',r',hK',hqq⟩,.pass (x:=.inLoop body) rfl (λ_ _=>.inl (by simp)) harr⟩
   | panic ch=>exact⟨_,_,w₁,⟨t',S',H',K',r',hK',hqq⟩,.pass (x:=.inLoop body) rfl (λ_ _=>.inl (by simp)) harr⟩
   | outgrown=>exact⟨_,_,w₁,⟨t',S',H',K',r',hK',hqq⟩,.pass (x:=.inLoop body) rfl (λ_ _=>.inl (by simp)) harr⟩
 have rt:Rel (Ctx.of w S nt) ⟨Afq (λ_=>.top) (sl g0),[]⟩ a w S H:=r.weak λi=>by
  rcases Sp s0 (hin g0 p0) i with h|h
  ·exact .inr h
  ·exact .inl h.1
 obtain⟨e,a',w',hqq,harr⟩:=key _ g0 a w S H p0 rfl rt hK
 exact⟨e,a',w',hqq,.of_steps (.one (fenced_calm (n:=0) hb hr rfl) stepR_loop) harr⟩
end
theorem Aqg {args:List SV} {w:World} {S:Cq} {vs:Array Value} {nt:Nat} (hn:args.length<=nt) (hS:InH w S) (hv:Zd (Rep w S) args vs.toList) :
  Rel (Ctx.of w S nt) ⟨Aoo args,[]⟩ { tmps:=vs++Array.replicate (nt-vs.size) undef,defers:=[] } w S (λ_=>undef):=by
 have hlen:vs.size=args.length:=by have:=hv.1;simp at this;omega
 have hget:∀ i,(vs++Array.replicate (nt-vs.size) undef).getD i undef=vs.getD i undef:=by
  intro i
  simp only[zF,kR]
  split
  ·rfl
  ·rename_i hi
   rw[xZ]
   have:vs[i]? = none:=xS (by omega)
   rw[this]
   split <;> rfl
 refine⟨by simp;omega,rfl,λi=>?_,λp b h=>by simp at h,λp b g h=>by simp at h,λp q b b' g h=>by simp at h,λp b g i h=>by simp at h,hS,Xi.refl _ w S,zX _,λp g h=>absurd h (zR _),λp e sz k cs h=>absurd h (zR _),λp h=>absurd h (zR _)⟩
 rw[hget]
 show AVR _ (match args[i]? with|some x=>.s x|none=>.tup []) _
 cases ha:args[i]? with
 | none =>
  have:vs[i]? = none:=xS (by rw[hlen];exact xR.1 ha)
  simp only[zF,this,jD]
  exact Ky
 | some x =>
  have hi:i<args.length:=(zC.1 ha).1
  have hi':i<vs.size:=by omega
  have:vs[i]? = some vs[i]:=zS hi'
  simp only[zF,this,yK]
  exact SVR.mono (λ_ _=>Ct.of_rep) (hv.2 i x _ ha (by simp))
theorem Arb {P:Program} {fc:FuncId} {fn:Func} {body:Code} {cap:List Lf} {L:List (SV×SV)} (hf:P.funcs[fc]? = some fn) (hb:fn.body=some body) (hres:fn.results = #[]) {nt:Nat} (hnt:fn.ntmps=nt) (hn:cap.length+1<=nt)
  (h:∀ l J Jx,(∀ k,A0w (J k))->A0w Jx->A0l P l J Jx L->AWY P nt body (λe _ K=>(e=.normal\/e=.ret)/\(K=J L.length\/K=Jx)) (J 0) (Aoo (.one (.raw (.func (.yield l) #[] #[]))::cap.map .one))):Asq P fc cap L:=by
 subst hnt
 intro l J Jx w S vs hJ hJx hs h0 hS hcap
 refine callsIn_wide.1 (callsIn_of_wp (n:=0) hf hb trivial ?_)
 have hv:Zd (Rep w S) (.one (.raw (.func (.yield l) #[] #[]))::cap.map .one) ((#[Value.func (.yield l) #[] #[]]++vs:Array Value)).toList:=by
  refine⟨by have:=hcap.1;simp at this ⊢;omega,λj x v hx hv=>?_⟩
  cases j with
  | zero =>
   simp at hx hv
   subst hx;subst hv
   exact Rep.raw (.func (.yield l) #[] #[]) rfl
  | succ j =>
   simp at hx hv
   obtain⟨x',hx',rfl⟩:=hx
   exact hcap.2 j x' v hx' (by simpa using hv)
 have r0:=Aqg (nt:=fn.ntmps) (by simpa using hn) hS hv
 refine wpIn_mono (h l J Jx (λk=>hJ k) hJx hs (λt K hs=>by rcases hs.1 with h|h <;> cases h) _ w S _ r0 h0) ?_
 rintro e a w1 ⟨t,S1,H,K,r,hK,he,hk⟩
 have hr:(results fn a.tmps).run P w1=.ok (.tuple #[]) w1:=by
  rw[Aaa,hres]
  simp
 have hfin:∃ v S',Ending.returned (.tuple #[])=.returned v/\InH w1 S'/\(J L.length w1 S'\/Jx w1 S'):=by
  refine⟨_,S1,rfl,r.sl,?_⟩
  rcases hk with rfl|rfl
  ·exact .inl hK
  ·exact .inr hK
 rcases he with rfl|rfl
 ·exact⟨r.df,_,hr,hfin⟩
 ·exact⟨r.df,_,hr,hfin⟩
open Go.RowKit
def Tj {α σ:Type} (f:σ->α->Option (σ ⊕ (Nat×σ))):List α->σ->Option (σ ⊕ (Nat×σ))
 | [],s=>some (.inl s)
 | x::xs,s=>match f s x with
  | none=>none
  | some (.inl s')=>Tj f xs s'
  | some (.inr j)=>some (.inr j)
def Ag2 {σ ρ:Type} (k kr:σ->Option ρ) (ke:Nat->σ->Option ρ):σ ⊕ (Nat×σ)->Option ρ
 | .inl s=>k s
 | .inr (0,s)=>kr s
 | .inr (n+1,s)=>ke n s
def Ay7:Code->Nat
 | .exit id=>id+1
 | _=>0
theorem Ajx {α σ:Type} {f:σ->α->Option (σ ⊕ (Nat×σ))} {x:α} {xs:List α} {s:σ} {r:σ ⊕ (Nat×σ)} (h:Tj f (x::xs) s=some r) :
  ∃ y,f s x=some y/\(∀ s',y=.inl s'->Tj f xs s'=some r)/\∀ j,y=.inr j->r=.inr j:=by
 unfold Tj at h
 cases hf:f s x with
 | none=>rw[hf] at h;cases h
 | some y =>
  rw[hf] at h
  refine⟨y,rfl,λs' e=>?_,λj e=>?_⟩
  ·subst e;exact h
  ·subst e;exact(zD h).symm
section
variable {P:Program} {c:Ctx} {Q:Exit->AS->Prop} {t:Nat->AV} {m:List Blk}
theorem RQ.mono {G:Type} {mm:G->List Blk} {p p':G->Prop} {j j':Code->G->Prop} (hp:∀ g,p g->p' g) (hj:∀ c g,j c g->j' c g):∀ e st,RQ mm p j e st->RQ mm p' j' e st:=by
 intro e st h
 cases e with
 | normal=>obtain⟨g,ex,h1,h2⟩:=h;exact⟨g,ex,hp g h1,h2⟩
 | ret=>obtain⟨g,ex,h1,h2⟩:=h;exact⟨g,ex,hj _ g h1,h2⟩
 | exit id=>obtain⟨g,ex,h1,h2⟩:=h;exact⟨g,ex,hj _ g h1,h2⟩
 | _=>exact h
theorem Ajr {go:Operand} {p1 p2:Tmp} {assign body:Code} {fc:FuncId} {cap:List Lf} {α σ:Type} (f:σ->α->Option (σ ⊕ (Nat×σ))) (Lst:List α) (sx sy:α->SV) (mm:σ->List Blk) (s0:σ) {rr:σ ⊕ (Nat×σ)} (hr:Tj f Lst s0=some rr)
  (hg:C6 ⟨t,m⟩ go=.s (.one (.fn fc [] cap))) (hfc:FnI P fc) (hcap:cap.all Lf.pubd0=true) (hit:Asq P fc cap (Lst.map λx=>(sx x,sy x))) (hp1:decide (p1<c.nt)=true) (hp2:decide (p2<c.nt)=true)
  (hm:m=mm s0) (hlen:∀ g,(mm g).length=m.length) (hmin:∀ g,∀ b∈mm g,b.inb (mm g).length)
  (round:∀ x s y l,f s x=some y->∀ w0 S0 X H0,AWI (some l) P ⟨w0,S0,c.nt,X,mm s,H0⟩ okB assign
   (Qm (λst1=>∀ w0 S0 X H0,AWI (some l) P ⟨w0,S0,c.nt,X,st1.m,H0⟩ okB body (RQ mm (λs'=>y=.inl s') (λjc s'=>y=.inr (Ay7 jc,s'))) st1) (λ_ _=>False)) ⟨upd (upd t p1 (.s (sx x))) p2 (.s (sy x)),mm s⟩)
  (done:∀ s,rr=.inl s->Q .normal ⟨t,mm s⟩) (hret:∀ s,rr=.inr (0,s)->Q .ret ⟨t,mm s⟩) (hex:∀ id s,rr=.inr (id+1,s)->Q (.exit id) ⟨t,mm s⟩) :
  AWI none P c (okO c) (.rangeFunc go #[p1,p2] assign body) Q ⟨t,m⟩:=by
 refine Axv (L:=Lst.map λx=>(sx x,sy x)) mm (λk s=>Tj f (Lst.drop k) s=some rr) (λjc s=>rr=.inr (Ay7 jc,s)) s0 hg hfc hcap hit hp1 hp2 hr hm hlen hmin ?_ (λg h=>?_) (λg h=>hret g h) (λid g h=>hex id g h)
 ·intro k X Y s l hk hp w0 S0 X0 H0
  rw[zP] at hk
  cases hx:Lst[k]? with
  | none=>rw[hx] at hk;cases hk
  | some x =>
   rw[hx] at hk
   simp only[xC,zW,Prod.mk.injEq] at hk
   obtain⟨rfl,rfl⟩:=hk
   have hlt:=(zC.1 hx).1
   have hd:Lst.drop k=x::Lst.drop (k+1):=by
    rw[wY hlt,(zC.1 hx).2]
   rw[hd] at hp
   obtain⟨y,hy,h1,h2⟩:=Ajx hp
   refine(round x s y l hy w0 S0 X0 H0).mono λe st h=>?_
   cases e with
   | normal =>
    exact λw0 S0 X0 H0=>AWI.mono (h w0 S0 X0 H0) (RQ.mono (λs' h=>h1 s' h) (λjc s' h=>h2 _ h))
   | _=>exact h
 ·have h':Tj f (Lst.drop (Lst.map λx=>(sx x,sy x)).length) g=some rr:=h
  rw[z2,List.drop_length] at h'
  exact done g (zD h').symm
end
open Go.RowKit
end Go.Proofs.YtkblaobhhoebaaaGreat.Abs
