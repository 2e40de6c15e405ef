/-
  A walk over abstract states: its rules, part B.
-/
import Derived.Test.YtkblaobhhoebaaaGreatQAbsA
import Derived.Laws.Externs
import Derived.Lib.BytesEntry
import GoSem.Core.View
import Derived.Lib.AppendZeros
import Derived.Laws.Cover3
import Derived.Laws.StructEq
import Derived.ProofKit
import Derived.LaidMore
import Derived.OpenShut
import Derived.MakeChecks
import Derived.RangeFuncOwn
import Derived.OrdersIn
set_option linter.unusedVariables false
set_option linter.unusedSimpArgs false
namespace Go.Proofs.YtkblaobhhoebaaaGreat.Abs
open Go.RowKit
section
variable {P:Program} {c:Ctx} {t:Nat->AV} {m:List Blk} {Q:Exit->AS->Prop}
theorem Aep {g:Addr} (h:undef=.pointer (some g)):False:=by
 unfold undef at h;cases h
def AWD (P:Program) (c:Ctx) (Q:Exit->AS->Prop) (l:List Oper) (st:AS):Prop:=∀ a w S H,Rel c st a w S H->wpAny P .any l.toArray (QR c Q) l.toArray.size (Array.replicate l.toArray.size false) a w.drew
theorem AWD.awc {st:AS} {id:Nat} {l:List Oper} (hm:P.follows .mixedOrders=true) (h:AWD P c Q l st):AWC P c (.region id l.toArray true) Q st:=λa w S H r=>wp_region_any hm (h a w S H r)
theorem Alh {l:List Oper} {T:Nat->AV} {B:Array Bool->List Blk} {HI:Array Bool->(Nat->Value)->Prop} (ok:Zw l.toArray)
  (hT:∀ (i:Nat) (o:Oper),l.toArray[i]? = some o->Azr P c l.toArray T B HI i o\/A7i P c l.toArray T B HI i o)
  (hTt:∀ y,y∉K6 l->T y=t y)
  (hst:∀ a w S H,Rel c ⟨t,m⟩ a w S H->∃ H',Rel c ⟨t,B (Array.replicate l.toArray.size false)⟩ a w S H'/\HI (Array.replicate l.toArray.size false) H')
  (hQ:∀ listed:Array Bool,listed.size=l.toArray.size->(∀ i,i<l.toArray.size->listed.getD i true=true)->Q .normal ⟨T,B listed⟩):AWD P c Q l ⟨t,m⟩:=by
 intro a w S H r
 have hcnt:(List.range l.toArray.size).countP (λi=>!(Array.replicate l.toArray.size false).getD i true)<=l.toArray.size:=by
  refine yU zAc ?_
  simp
 have r':Rel c ⟨t,m⟩ a w.drew S H:=r.ext (Ext.drew w S) (r.sl.ext (Ext.drew w S))
 obtain⟨H',r2,h2⟩:=hst _ _ _ _ r'
 refine Axk ok hT hQ l.toArray.size (Array.replicate l.toArray.size false) a _ S H' (by simp) hcnt ?_ h2
 refine r2.weak (λx=>?_)
 unfold TL
 by_cases hx:x∈K6 l
 ·right
  rw[if_pos]
  unfold K6 at hx
  rw[kC] at hx
  obtain⟨p,hp,hpd⟩:=hx
  obtain⟨j,hj,hjp⟩:=y9 hp
  refine⟨j,p,by simp [hj,hjp],hpd,?_⟩
  simp [zH,hj]
 ·left
  rw[if_neg,hTt x hx]
  rintro⟨i,o,hi,hod,_⟩
  refine hx ?_
  unfold K6
  rw[kC]
  have hi':l[i]? = some o:=by simpa using hi
  exact⟨o,zD hi',hod⟩
theorem A5y {l:List Oper} (ok:Zw l.toArray):∀ (i:Nat) (o:Oper),l[i]? = some o->∀ y∈o.looksAt l.toArray,y∉K6 (l.drop i):=by
 intro i o hi y hy hm'
 unfold K6 at hm'
 rw[kC] at hm'
 obtain⟨p,hp,hpd⟩:=hm'
 obtain⟨j,hj,hjp⟩:=y9 hp
 have hjl:l[i+j]? = some p:=by
  rw[List.getElem_drop] at hjp
  have:i+j<l.length:=by simp at hj;omega
  rw[zC this,hjp]
 obtain⟨e,he,heo,hb⟩:=ok.ed i o (i+j) p y (by simpa using hi) (by simpa using hjl) hpd hy
 have:=ok.lt i o (by simpa using hi) e he hb
 omega
end
open Go.RowKit
section
variable {m:List Blk} {zl:List Lf} {xs:List SV} {P:Program} {t:TypeId}
theorem Avv (h:((P.info? t).bind (·.zero)).map (λz=>(z.cells.toList.map clf,z.cells.all (·.oneCell')))=some (zl,true)):ZI P t zl:=by
 cases hi:P.info? t with
 | none=>rw[hi] at h;cases h
 | some i =>
  rw[hi] at h
  cases hz:i.zero with
  | none=>simp [hz] at h
  | some z =>
   simp only[zA,hz,xM,z2,Prod.mk.injEq] at h
   exact⟨i,z,hi,hz,h.1,h.2⟩
theorem Abu {e sz bytes:Nat} (h:(P.info? e).bind (λi=>i.zero.map λz=>(i.size,i.bytes,z.cells.size,z.cells.toList.map clf,z.cells.all (·.oneCell')))=some (sz,bytes,sz,zl,true)) (hp:0<sz):EI P e sz bytes zl:=by
 cases hi:P.info? e with
 | none=>rw[hi] at h;cases h
 | some i =>
  rw[hi] at h
  cases hz:i.zero with
  | none=>simp [hz] at h
  | some z =>
   simp only[zA,hz,xM,z2,Prod.mk.injEq] at h
   exact⟨⟨i,z,hi,hz,h.1,h.2.1,h.2.2.1,h.2.2.2.1,h.2.2.2.2⟩,hp⟩
theorem A21 {n:Int} (h:(Lit.int .i64 n).wf=true):-9223372036854775808<=n/\n<=9223372036854775807:=by
 simpa [Lit.wf,IntKind.min,IntKind.max,IntKind.bits,IntKind.signed] using h
def Lf.canon:Lf->Lf
 | .raw (.slice none 0 0)=>.sl 0 []
 | l=>l
def SV.canon:SV->SV
 | .one l=>.one l.canon
 | .agg ls=>.agg (ls.map Lf.canon)
theorem Ama {l:Lf} (h:l.pubd=true):Ab1 m l l.canon m:=by
 unfold Lf.canon
 split
 ·exact .nil
 ·exact .id _ h
theorem Ac7 (h:xs.all (λx=>x.cells.all Lf.pubd)=true):Ag1 m xs (xs.map SV.canon) m:=by
 induction xs with
 | nil=>exact .nil m
 | cons x xs ih =>
  simp only[wL,zG] at h
  refine .cons m m m x x.canon xs _ ?_ (ih h.2)
  cases x with
  | one l=>exact .one _ _ _ _ (Ama (by simpa [SV.cells] using h.1))
  | agg ls =>
   refine .agg _ _ _ _ ?_
   have h1:=zJ.1 h.1
   simp only[SV.cells] at h1
   clear h
   induction ls with
   | nil=>exact .nil m
   | cons l ls ih2=>exact .cons m m m l l.canon ls _ (Ama (h1 l (yQ ..))) (ih2 (λl' hl=>h1 l' (yH _ hl)))
theorem G5 (h:xs.all (λx=>x.cells.all Lf.pubd)=true):Ag1 m xs xs m:=by
 induction xs with
 | nil=>exact .nil m
 | cons x xs ih =>
  simp only[wL,zG] at h
  refine .cons m m m x x xs xs ?_ (ih h.2)
  cases x with
  | one l=>exact .one _ _ _ _ (.id _ (by simpa [SV.cells] using h.1))
  | agg ls=>exact .agg _ _ _ _ (.all _ _ (zJ.1 h.1))
section
variable {P:Program} {c:Ctx} {st:AS} {x y b:Operand} {v:SV} {ty:TypeId}
theorem Du (h:Bg st x=.s v):OpV P c st (.move x) ty (.s v):=h ▸ Aqg
theorem Ae3 (h:Bg st x=.tup xs):OpV P c st (.move x) ty (.tup xs):=h ▸ Aqg
theorem Vk (h:Bg st x=.s v):OpV P c st (.assign x) ty (.s v):=h ▸ Arv
theorem Iv (hb:Bg st b=.s (.one (.b true))) (h:Bg st x=.s v):OpV P c st (.pick b x y) ty (.s v):=by
 have:=Apw (P:=P) (c:=c) (ty:=ty) (x:=x) (y:=y) hb
 rw[if_pos rfl,h] at this
 exact this
theorem Ma (hb:Bg st b=.s (.one (.b false))) (h:Bg st y=.s v):OpV P c st (.pick b x y) ty (.s v):=by
 have:=Apw (P:=P) (c:=c) (ty:=ty) (x:=x) (y:=y) hb
 rw[if_neg (by simp),h] at this
 exact this
end
theorem Axp {pl:List (Nat×Nat)} {fs:Array Field} (hu:P.underlying t=some (.struct fs)) (hs:fs.size=pl.length)
  (h:((List.range pl.length).all λj=>match fs[j]?,pl[j]? with|some f,some q=>f.offset==q.1&&((P.info? f.type).map (·.size)==some q.2)|_,_=>false)=true):PI P t pl:=by
 refine⟨fs,hu,hs,λj f q hf hq=>?_⟩
 have hj:j<pl.length:=(zB.1 hq).1
 have:=zJ.1 h j (w6.2 hj)
 rw[hf,hq] at this
 simpa using this
end
open Go.RowKit
theorem Am9 (w:World) (p:Addr) (n:Nat):(w.freeze p n).heap.size=w.heap.size:=by
 unfold World.freeze;split <;> simp
theorem Adg (w:World) (p:Addr) (n:Nat) {b:Nat} (h:b≠p.block):(w.freeze p n).heap[b]? = w.heap[b]? := by
 unfold World.freeze
 split
 ·rfl
 ·simp only[w7]
  rw[if_neg (λe=>h e.symm)]
theorem Aok (w:World) (p:Addr) (n:Nat) (a:Addr):(w.freeze p n).cell? a=w.cell? a:=by
 by_cases hb:a.block=p.block
 ·unfold World.freeze
  split
  ·rfl
  ·unfold World.cell?
   simp only[w7,hb,if_true]
   cases w.heap[p.block]? with
   | none=>rfl
   | some o=>cases o <;> rfl
 ·unfold World.cell?
  rw[Adg w p n hb]
theorem Aun (w:World) (p:Addr) (n:Nat):(w.freeze p n).os=w.os/\(w.freeze p n).tape=w.tape/\(w.freeze p n).output=w.output:=by
 unfold World.freeze;split <;> exact⟨rfl,rfl,rfl⟩
section
variable {P:Program} {c:Ctx} {t:Nat->AV} {m:List Blk} {ops:Array Oper} {Q:Exit->AS->Prop} {rest:List Oper} {ty:TypeId} {pos:String} {af:Array Edge} {d:Tmp}
theorem Ael {tt e:TypeId} {x:Operand} {p n e' sz k:Nat} {cs:List Lf} (hd:decide (d<c.nt)=true) (su:P.underlying tt=some (.slice e)) (eu:P.underlying e=some (.int .u8)) (hx:Bg ⟨t,m⟩ x=.s (.one (.ls p n))) (hm:m[p]? = some (.arr e' sz k cs)) (hn:n*sz=cs.length) (hpos:0<n)
  (kk:AWL P c ops Q rest ⟨upd t d (.s (.one (.sl n cs))),m.set p .dead⟩):AWL P c ops Q (⟨some d,.convert tt tt x,ty,pos,af,none⟩::rest) ⟨t,m⟩:=by
 intro a w S H r
 have hx':=Ax r x
 rw[hx] at hx'
 obtain⟨hp,_,hr⟩:=hx'
 have hv:a.eval x=H p:=(hr _ _ _ _ hm).2 hn
 obtain⟨hsz,hk,n0,vals,hown,hls,hst⟩:=r.bl p _ hm
 obtain⟨S',r1,hsub,hrep⟩:=r.pub hm
 have hrep:=hrep n hn
 obtain⟨hvl,hcase⟩:=hown
 rcases hcase with⟨_,h0⟩|⟨g,cap,cur,hHp,hbg,hgg,hnc,hcm,hcs,htake⟩
 ·have:n*sz=0:=by rw[hn,hls.1,hvl,h0,wZ]
  have:=Nat.mul_pos hpos hsz
  omega
 ·have hcell:=Aok w ⟨g,cur.size,none⟩ 1
  have hoth:=λb=>Adg w ⟨g,cur.size,none⟩ 1 (b:=b)
  have hsize:=Am9 w ⟨g,cur.size,none⟩ 1
  obtain⟨ho1,ho2,ho3⟩:=Aun w ⟨g,cur.size,none⟩ 1
  have hrun:(execOp a.eval ⟨some d,.convert tt tt x,ty,pos,af,none⟩).run P w=.ok (.value (H p)) (w.freeze ⟨g,cur.size,none⟩ 1):=by
   have hsh:w.shape? g=some (e',cur.size):=by unfold World.shape?;rw[hgg]
   simp only[execOp,hv,hHp]
   simp [convert,run_underlying su,run_underlying eu,markStringish,hsh]
  generalize hw':w.freeze ⟨g,cur.size,none⟩ 1=w' at *
  have hset:(m.set p (Blk.arr e' sz cs.length cs)).set p .dead=m.set p .dead:=by simp
  have r2:Rel c ⟨t,m.set p .dead⟩ a w' S' (Te H p (H p)):=by
   refine r1.change (p:=p) (b':=.dead) (v:=H p) (by simp) (by simp [hp]) (λq hq=>?_) (λb i h=>⟨h,hcell _⟩) (λg' _ h=>rfl) (λe sz k cs _ h=>by cases h)
    (λg' _ hne=>hoth g' (λe=>?_)) trivial (λg' hg=>by cases hg) (λq b g i _ _ _ h=>h) (λg i _ _ h=>h) (r1.sl.turn2 (kF hsize.symm) (λb i _=>hcell _)) (by rw[hsize];exact zT _) ho1 ho2 ho3 (λ_ _ h=>h)
   ·simp only
    rw[zS (λe=>hq e.symm),zS (λe=>hq e.symm)]
   ·have e':g'=g:=e
    subst e'
    exact hne _ (zN hp) (by rw[hHp];rfl)
  refine wpList_plain rfl λK hK=>?_
  unfold Oper.wp
  rw[hrun]
  refine hK _ _ (kk _ _ _ _ (r2.put (d:=d) (x:=.s (.one (.sl n cs))) (of_decide_eq_true hd) ?_))
  exact Bf.of_rep (m:=m.set p .dead) (H:=Te H p undef) (Rep.mono (λb i h=>⟨h,hcell _⟩) hrep)
end
def Ce:List UInt8->List UInt8->Int
 | [],[]=>0
 | [],_::_=>-1
 | _::_,[]=>1
 | x::xs,y::ys=>if x<y then -1 else if y<x then 1 else Ce xs ys
section
variable {P:Program} {w:World} {S:Dx}
theorem Us {l:List UInt8} {v:Value} (h:Rep w S (.sl l.length (bl l)) v):(Extern.Bytes.bytesOf v).run P w=.ok ⟨l.toArray⟩ w:=by
 generalize hn:l.length=n at h
 generalize hb:bl l=cs at h
 cases h with
 | sl0 ad cap =>
  have:l=[]:=yE hn
  subst this
  cases ad <;> rfl
 | sl n cs bk off cap vals hc hm hs hr =>
  subst hn;subst hb
  have hl:=Lib.run_loadBytesX (P:=P) (w:=w) (l.map λb:UInt8=>(b.toNat:Int)) ⟨bk,off,none⟩ .empty (λj x hj=>by
   rw[zK] at hj
   cases hx:l[j]? with
   | none=>rw[hx] at hj;cases hj
   | some b =>
    rw[hx] at hj
    cases hj
    have hbl:(bl l)[j]? = some (.i .u8 b.toNat):=by simp [bl,hx]
    have h1:=T4 (hr j _ hbl)
    have e:(⟨bk,off,none⟩:Addr).add j=⟨bk,off+j,none⟩:=by unfold Addr.add;split <;> simp_all
    rw[e,(hs j _ hbl).2,h1])
  rw[zP] at hl
  have e:Lib.bytesOf (l.map λb:UInt8=>(b.toNat:Int))=l:=by
   unfold Lib.bytesOf
   rw[List.map_map]
   conv=>rhs;rw[<- wR l]
   refine xU (λb _=>?_)
   show UInt8.ofNat ((b.toNat:Int)).toNat=b
   rw[z6];exact UInt8.ofNat_toNat
  rw[e] at hl
  show(Extern.Bytes.loadBytes ⟨bk,off,none⟩ l.length .empty).run P w=_
  rw[hl]
  simp
theorem A0p (a b:List UInt8):Extern.BytealgCompare.cmp ⟨a.toArray⟩ ⟨b.toArray⟩=Ce a b:=by
 have hget:∀ (l:List UInt8) (i:Nat),(⟨l.toArray⟩:ByteArray)[i]! = l[i]! := by
  intro l i
  by_cases h:i<l.length
  ·rw[getElem!_pos (⟨l.toArray⟩:ByteArray) i (by show i<l.toArray.size;simpa using h),getElem!_pos l i h]
   show l.toArray[i]'_=l[i]
   simp
  ·rw[getElem!_neg (⟨l.toArray⟩:ByteArray) i (by show ¬ i<l.toArray.size;simpa using h),getElem!_neg l i h]
 unfold Extern.BytealgCompare.cmp
 simp only[hget]
 show(match (List.range (min a.length b.length)).find? λi=>a[i]! != b[i]! with
  | some i=>if a[i]! < b[i]! then -1 else 1
  | none=>if a.length<b.length then -1 else if a.length > b.length then 1 else 0)=Ce a b
 induction a generalizing b with
 | nil=>cases b <;> simp [Ce]
 | cons x xs ih =>
  cases b with
  | nil=>simp [Ce]
  | cons y ys =>
   have hr:List.range (min (x::xs).length (y::ys).length)=0::(List.range (min xs.length ys.length)).map (·+1):=by
    rw[show min (x::xs).length (y::ys).length=min xs.length ys.length+1 by simp [Nat.succ_min_succ],List.range_succ_eq_map]
   rw[hr,jE]
   by_cases hxy:x=y
   ·subst hxy
    have ih:=ih ys
    simp only[List.find?_map]
    have hne:((x::xs)[0]! != (x::ys)[0]!)=false:=by simp
    rw[hne]
    simp only[Ce,xD,if_false]
    rw[<- ih]
    have hf:((λi=>(x::xs)[i]! != (x::ys)[i]!) ∘ λi=>i+1)=λi=>xs[i]! != ys[i]! := by
     funext i;simp
    rw[hf]
    cases (List.range (min xs.length ys.length)).find? λi=>xs[i]! != ys[i]! with
    | none=>simp
    | some i=>simp
   ·have hne:((x::xs)[0]! != (y::ys)[0]!)=true:=by simp [hxy]
    rw[hne]
    simp only[Ce]
    simp
    by_cases h1:x<y
    ·simp [h1]
    ·have h2:y<x:=by
      rcases UInt8.lt_or_lt_of_ne hxy with h|h
      ·exact absurd h h1
      ·exact h
     simp [h1,h2]
end
structure XI (P:Program) (f:FuncId) (e:Array Value->Sem Value):Prop where
 h : ∃ fn, P.funcs[f]? = some fn ∧ (fn.name == "runtime.NumGoroutine") = false ∧ fn.body.isNone = true ∧ Extern.findNext fn = none ∧ Extern.find fn = some e
theorem A17 {P:Program} {c:Ctx} {st:AS} {f:FuncId} {x y:Operand} {ats:Array TypeId} {ty:TypeId} {a b:List UInt8} (xi:XI P f Extern.BytealgCompare.compare) (hx:Bg st x=.s (.one (.sl a.length (bl a)))) (hy:Bg st y=.s (.one (.sl b.length (bl b)))) :
  OpV P c st (.call { callee:=.value (.func f),args:=#[x,y],argTypes:=ats }) ty (.s (.one (.i .i64 (Ce a b)))):=by
 intro ac w S H r
 have h1:=Ax r x
 rw[hx] at h1
 have h2:=Ax r y
 rw[hy] at h2
 have h1':Rep w S (.sl a.length (bl a)) (ac.eval x):=h1
 have h2':Rep w S (.sl b.length (bl b)) (ac.eval y):=h2
 refine⟨.int .i64 (Ce a b),D4 (.i _ _),λdst pos af g=>?_⟩
 obtain⟨fn,q1,q2,q3,q4,q5⟩:=xi.h
 have hrun:(Extern.BytealgCompare.compare #[ac.eval x,ac.eval y]).run P w=.ok (.int .i64 (Ce a b)) w:=by
  change Sem.run P (do
   let p <- Extern.Bytes.bytesOf (ac.eval x)
   let q <- Extern.Bytes.bytesOf (ac.eval y)
   pure (goInt (Extern.BytealgCompare.cmp p q))) w=_
  simp only[Sem.run_bind,Us h1',Us h2',Result.andThen_ok,A0p,Sem.run_pure]
  rfl
 have hcall:=run_callFunc_extern (P:=P) q1 q2 q3 q4 q5 #[ac.eval x,ac.eval y] w
 rw[hrun] at hcall
 have e:ac.eval (.func f)=.func (.func f) #[] #[]:=rfl
 simp only[execOp,resolve,e,Deferred.ofValue,invoke,List.map_toArray,xN,List.map_nil]
 simpa using hcall
open Go.RowKit
section
variable {st:AS} {R:AV->List Blk->Prop} {a:Act} {b:Blk} {c:Ctx} {fn:Func} {f:FuncId} {l:Lf} {M m:List Blk} {cs ls:List Lf} {args xs:List SV} {vs:List Value} {base:Nat} {r:Nat->Nat} {H H':Nat->Value} {P:Program} {x:SV} {S:Dx} {v:Value} {w:World}
def Lf.ren0 (r:Nat->Nat):Lf->Lf
 | .lp p o=>.lp (r p) o
 | .ls p n=>.ls (r p) n
 | .ap p n o=>.ap (r p) n o
 | .mp k p=>.mp k (r p)
 | l=>l
def Lf.ren (r:Nat->Nat):Lf->Lf
 | .fn f la lb=>.fn f (la.map (Lf.ren0 r)) (lb.map (Lf.ren0 r))
 | l=>l.ren0 r
def SV.ren (r:Nat->Nat):SV->SV
 | .one l=>.one (l.ren r)
 | .agg ls=>.agg (ls.map (Lf.ren r))
def AV.ren (r:Nat->Nat):AV->AV
 | .s x=>.s (x.ren r)
 | .tup xs=>.tup (xs.map (SV.ren r))
 | .top=>.top
def Blk.ren (r:Nat->Nat):Blk->Blk
 | .box cs=>.box (cs.map (Lf.ren r))
 | .arn e sz g n cap cs=>.arn e sz g n cap (cs.map (Lf.ren r))
 | b=>b
def Lf.inb0 (n:Nat):Lf->Bool
 | .lp p _=>decide (p<n)
 | .ls p _=>decide (p<n)
 | .ap p _ _=>decide (p<n)
 | .mp _ p=>decide (p<n)
 | _=>true
def Lf.inbB (n:Nat):Lf->Bool
 | .fn _ la lb=>la.all (Lf.inb0 n)&&lb.all (Lf.inb0 n)
 | l=>l.inb0 n
def SV.inbB (n:Nat):SV->Bool
 | .one l=>l.inbB n
 | .agg ls=>ls.all (Lf.inbB n)
def Blk.inbB (n:Nat):Blk->Bool
 | .box cs=>cs.all (Lf.inbB n)
 | .arn .. =>false
 | _=>true
theorem Blk.ren_arr {e sz k:Nat} (h:b.ren r=.arr e sz k cs):b=.arr e sz k cs:=by
 cases b <;> first|exact h|cases h
theorem Blk.ren_own:(b.ren r).own v=b.own v:=by cases b <;> rfl
theorem Blk.ren_stab:(b.ren r).stab=b.stab:=by cases b <;> rfl
structure Tie (m M:List Blk) (H H':Nat->Value) (r:Nat->Nat):Prop where
 lt:∀ p,p<m.length->r p<M.length
 h:∀ p,p<m.length->H' (r p)=H p
 b:∀ p b,m[p]? = some b->M[r p]? = some (b.ren r)
theorem Tie.arr (t:Tie m M H H' r) {p e sz k:Nat} (hp:p<m.length):M[r p]? = some (.arr e sz k cs)↔m[p]? = some (.arr e sz k cs):=by
 have hb:=t.b p _ (zC hp)
 constructor
 ·intro h
  rw[h] at hb
  rw[zC hp,Blk.ren_arr (zF hb).symm]
 ·intro h
  rw[zC hp] at h
  rw[hb,zF h]
  rfl
theorem Tie.up0 (t:Tie m M H H' r) (h:Dy w S m H l v):Dy w S M H' (l.ren0 r) v:=by
 cases l with
 | lp p o=>exact⟨t.lt p h.1,by rw[t.h p h.1];exact h.2⟩
 | mp k p=>exact⟨t.lt p h.1,by rw[t.h p h.1];exact h.2⟩
 | ls p n=>exact⟨t.lt p h.1,⟨h.2.1.1,by rw[t.h p h.1];exact h.2.1.2⟩,λe sz k cs hm=>by rw[t.h p h.1];exact h.2.2 e sz k cs ((t.arr h.1).1 hm)⟩
 | ap p n o=>exact⟨t.lt p h.1,⟨h.2.1.1,by rw[t.h p h.1];exact h.2.1.2⟩,λe sz k cs hm=>by rw[t.h p h.1];exact h.2.2 e sz k cs ((t.arr h.1).1 hm)⟩
 | _=>exact h
theorem Tie.up (t:Tie m M H H' r) (h:Bf w S m H l v):Bf w S M H' (l.ren r) v:=by
 have map:∀ {ls:List Lf} {vs:List Value},LsR (Dy w S m H) ls vs->LsR (Dy w S M H') (ls.map (Lf.ren0 r)) vs:=λ{ls vs} hl =>
  ⟨by simpa using hl.1,λj l v h1 h2=>by
   rw[zK] at h1
   cases hj:ls[j]? with
   | none=>rw[hj] at h1;cases h1
   | some l0=>rw[hj] at h1;cases h1;exact t.up0 (hl.2 j l0 v hj h2)⟩
 cases l with
 | fn f a b =>
  obtain⟨va,vb,hv,h1,h2⟩:=h
  exact⟨va,vb,hv,map h1,map h2⟩
 | lp p o=>exact t.up0 (w:=w) (S:=S) (l:=.lp p o) h
 | mp k p=>exact t.up0 (w:=w) (S:=S) (l:=.mp k p) h
 | ls p n=>exact t.up0 (w:=w) (S:=S) (l:=.ls p n) h
 | ap p n o=>exact t.up0 (w:=w) (S:=S) (l:=.ap p n o) h
 | i k n=>exact h
 | b x=>exact h
 | s x=>exact h
 | raw v=>exact h
 | sl n cs=>exact h
 | cp cs=>exact h
 | nix=>exact h
 | jk e sz n=>exact h
theorem Tie.down0 (t:Tie m M H H' r) (hi:l.inb0 m.length=true) (h:Dy w S M H' (l.ren0 r) v):Dy w S m H l v:=by
 cases l with
 | lp p o =>
  have hp:p<m.length:=by simpa [Lf.inb0] using hi
  exact⟨hp,by rw[<- t.h p hp];exact h.2⟩
 | mp k p =>
  have hp:p<m.length:=by simpa [Lf.inb0] using hi
  exact⟨hp,by rw[<- t.h p hp];exact h.2⟩
 | ls p n =>
  have hp:p<m.length:=by simpa [Lf.inb0] using hi
  exact⟨hp,⟨h.2.1.1,by rw[<- t.h p hp];exact h.2.1.2⟩,λe sz k cs hm=>by rw[<- t.h p hp];exact h.2.2 e sz k cs ((t.arr hp).2 hm)⟩
 | ap p n o =>
  have hp:p<m.length:=by simpa [Lf.inb0] using hi
  exact⟨hp,⟨h.2.1.1,by rw[<- t.h p hp];exact h.2.1.2⟩,λe sz k cs hm=>by rw[<- t.h p hp];exact h.2.2 e sz k cs ((t.arr hp).2 hm)⟩
 | _=>exact h
theorem Tie.down (t:Tie m M H H' r) (hi:l.inbB m.length=true) (h:Bf w S M H' (l.ren r) v):Bf w S m H l v:=by
 have map:∀ {ls:List Lf} {vs:List Value},ls.all (Lf.inb0 m.length)=true->LsR (Dy w S M H') (ls.map (Lf.ren0 r)) vs->LsR (Dy w S m H) ls vs:=λ{ls vs} ha hl =>
  ⟨by simpa using hl.1,λj l v h1 h2=>t.down0 (zJ.1 ha l (zD h1)) (hl.2 j _ v (by rw[zK,h1];rfl) h2)⟩
 cases l with
 | fn f a b =>
  obtain⟨va,vb,hv,h1,h2⟩:=h
  simp only[Lf.inbB,zG] at hi
  exact⟨va,vb,hv,map hi.1 h1,map hi.2 h2⟩
 | lp p o=>exact t.down0 (w:=w) (S:=S) (l:=.lp p o) hi h
 | mp k p=>exact t.down0 (w:=w) (S:=S) (l:=.mp k p) hi h
 | ls p n=>exact t.down0 (w:=w) (S:=S) (l:=.ls p n) hi h
 | ap p n o=>exact t.down0 (w:=w) (S:=S) (l:=.ap p n o) hi h
 | i k n=>exact h
 | b x=>exact h
 | s x=>exact h
 | raw v=>exact h
 | sl n cs=>exact h
 | cp cs=>exact h
 | nix=>exact h
 | jk e sz n=>exact h
theorem Avj {R R':Lf->Value->Prop} (hr:∀ l∈ls,∀ v,R l v->R' (l.ren r) v) (h:LsR R ls vs):LsR R' (ls.map (Lf.ren r)) vs :=
 ⟨by simpa using h.1,λj l v h1 h2=>by
  rw[zK] at h1
  cases hj:ls[j]? with
  | none=>rw[hj] at h1;cases h1
  | some l0=>rw[hj] at h1;cases h1;exact hr l0 (zD hj) v (h.2 j l0 v hj h2)⟩
theorem Al5 {R R':Lf->Value->Prop} (hr:∀ l∈ls,∀ v,R' (l.ren r) v->R l v) (h:LsR R' (ls.map (Lf.ren r)) vs):LsR R ls vs :=
 ⟨by simpa using h.1,λj l v h1 h2=>hr l (zD h1) v (h.2 j _ v (by rw[zK,h1];rfl) h2)⟩
theorem Tie.svUp (t:Tie m M H H' r) (h:SVR (Bf w S m H) x v):SVR (Bf w S M H') (x.ren r) v:=by
 cases x with
 | one l=>exact t.up h
 | agg ls =>
  obtain⟨cs,hv,hl⟩:=h
  exact⟨cs,hv,Avj (λl _ v h=>t.up h) hl⟩
theorem Tie.svDown (t:Tie m M H H' r) (hi:x.inbB m.length=true) (h:SVR (Bf w S M H') (x.ren r) v):SVR (Bf w S m H) x v:=by
 cases x with
 | one l=>exact t.down hi h
 | agg ls =>
  obtain⟨cs,hv,hl⟩:=h
  exact⟨cs,hv,Al5 (λl hl v h=>t.down (zJ.1 hi l hl) h) hl⟩
theorem Tie.avUp (t:Tie m M H H' r) {x:AV} (h:AVR (Bf w S m H) x v):AVR (Bf w S M H') (x.ren r) v:=by
 cases x with
 | s x=>exact t.svUp h
 | top=>trivial
 | tup xs =>
  obtain⟨vs,hv,hl,hr⟩:=h
  refine⟨vs,hv,by simpa using hl,λj x u h1 h2=>?_⟩
  rw[zK] at h1
  cases hj:xs[j]? with
  | none=>rw[hj] at h1;cases h1
  | some x0=>rw[hj] at h1;cases h1;exact t.svUp (hr j x0 u hj h2)
theorem Tie.svsDown (t:Tie m M H H' r) (hi:xs.all (SV.inbB m.length)=true) (h:Abx (Bf w S M H') (xs.map (SV.ren r)) vs):Abx (Bf w S m H) xs vs :=
 ⟨by simpa using h.1,λj x v h1 h2=>t.svDown (zJ.1 hi x (zD h1)) (h.2 j _ v (by rw[zK,h1];rfl) h2)⟩
theorem Tie.blkUp (t:Tie m M H H' r) (h:Au9 base w S m H b v):Au9 base w S M H' (b.ren r) v:=by
 cases b with
 | dead=>trivial
 | hole=>exact h
 | obj g mk cs=>exact h
 | tab mk cs=>exact h
 | arn e sz g n cap cs =>
  obtain⟨h1,cur,h2,h3,h4⟩:=h
  refine⟨h1,cur,h2,by rw[zP];exact h3,by rw[zP];exact h4.1,λj l v h5 h6=>?_⟩
  rw[zK] at h5
  cases hj:cs[j]? with
  | none=>rw[hj] at h5;cases h5
  | some l0=>rw[hj] at h5;cases h5;exact t.up (h4.2 j l0 v hj h6)
 | arr e sz k cs=>exact h
 | box cs =>
  obtain⟨g,e,cur,h1,h2,h3⟩:=h
  exact⟨g,e,cur,h1,h2,Avj (λl _ v h=>t.up h) h3⟩
theorem Tie.blkDown (t:Tie m M H H' r) (hi:b.inbB m.length=true) (h:Au9 base w S M H' (b.ren r) v):Au9 base w S m H b v:=by
 cases b with
 | dead=>trivial
 | hole=>exact h
 | obj g mk cs=>exact h
 | tab mk cs=>exact h
 | arn e sz g n cap cs=>cases hi
 | arr e sz k cs=>exact h
 | box cs =>
  obtain⟨g,e,cur,h1,h2,h3⟩:=h
  exact⟨g,e,cur,h1,h2,Al5 (λl hl v h=>t.down (zJ.1 hi l hl) h) h3⟩
structure Mem (w:World) (S:Dx) (m:List Blk) (H:Nat->Value):Prop where
 bl:∀ (p:Nat) (b:Blk),m[p]? = some b->Au9 0 w S m H b (H p)
 hp:∀ (p:Nat) (b:Blk) (g:Nat),m[p]? = some b->b.own (H p)=some g->g<w.heap.size
 inj:∀ (p q:Nat) (b b':Blk) (g:Nat),m[p]? = some b->m[q]? = some b'->b.own (H p)=some g->b'.own (H q)=some g->p=q
 sb:∀ (p:Nat) (b:Blk) (g i:Nat),m[p]? = some b->b.own (H p)=some g->S g i->i<b.stab
theorem Rel.mem (r:Rel c st a w S H):Mem w S st.m H:=⟨r.bl,λp b g h k=>(r.lo p b g h k).2,r.inj,r.sb⟩
theorem Mem.sel (t:Tie m M H H' r) (hi:∀ b∈m,b.inbB m.length=true) (hr:∀ p q,p<m.length->q<m.length->r p=r q->p=q) (k:Mem w S M H'):Mem w S m H:=by
 have hlt:∀ {p b},m[p]? = some b->p<m.length:=λh=>(zB.1 h).1
 refine⟨λp b h=>?_,λp b g h ho=>?_,λp q b b' g h h' ho ho'=>?_,λp b g i h ho hs=>?_⟩
 ·have:=k.bl _ _ (t.b p b h)
  rw[t.h p (hlt h)] at this
  exact t.blkDown (hi b (zD h)) this
 ·exact k.hp _ _ g (t.b p b h) (by rw[t.h p (hlt h),Blk.ren_own];exact ho)
 ·exact hr p q (hlt h) (hlt h') (k.inj _ _ _ _ g (t.b p b h) (t.b q b' h') (by rw[t.h p (hlt h),Blk.ren_own];exact ho) (by rw[t.h q (hlt h'),Blk.ren_own];exact ho'))
 ·have:=k.sb _ _ g i (t.b p b h) (by rw[t.h p (hlt h),Blk.ren_own];exact ho) hs
  rwa [Blk.ren_stab] at this
def Aj9 (m:List Blk) (H:Nat->Value) (g:Nat):Prop:=∃ (p:Nat) (b:Blk),m[p]? = some b/\b.own (H p)=some g
structure A8n (m:List Blk) (H:Nat->Value) (m':List Blk) (H':Nat->Value):Prop where
 len:m.length<=m'.length
 h:∀ p g,p<m.length->H p=.pointer (some ⟨g,0,none⟩)->H' p=H p
 r:∀ p e sz k cs,p<m.length->m'[p]? = some (.arr e sz k cs)->∃ k' cs',m[p]? = some (.arr e sz k' cs')/\((cs'.length=cs.length/\H' p=H p)\/cs'.length<cs.length)
 u:∀ p,p<m.length->H p≠undef->H' p≠undef
def Dk (P:Program) (f:FuncId) (m:List Blk) (args:List SV) (R:AV->List Blk->Prop):Prop :=
 ∀ (w:World) (S:Dx) (H:Nat->Value) (vs:Array Value),InH w S->Mem w S m H->Abx (Bf w S m H) args vs.toList ->
  Calls P f vs w λe w'=>∃ v x m' S' H',e=.returned v/\R x m'/\Aam (Aj9 m H) w S w' S'/\InH w' S'/\Mem w' S' m' H' /\
   (∀ (p:Nat) (b:Blk) (g:Nat),m'[p]? = some b->b.own (H' p)=some g->w.heap.size<=g\/Aj9 m H g)/\A8n m H m' H'/\AVR (Bf w' S' m' H') x v
theorem Dk.mono {R':AV->List Blk->Prop} (h:Dk P f m args R) (hr:∀ x m',R x m'->R' x m'):Dk P f m args R' :=
 λw S H vs hS hm hv=>(h w S H vs hS hm hv).mono λ_ _ ⟨v,x,m',S',H',h1,h2,h3⟩=>⟨v,x,m',S',H',h1,hr x m' h2,h3⟩
def at_ (ps:List Nat) (j:Nat):Nat:=ps.getD j 0
def A5k (P:Program) (fn:Func) (k:Nat) (R:AV->List Blk->Prop) (e:Exit) (st:AS):Prop :=
 (e=.normal\/e=.ret)/\∃ xs ps ys m',Aay P st fn.results.toList xs/\xs=ys.map (SV.ren (at_ ps))/\ps.map (λp=>st.m[p]?)=m'.map (λb=>some (b.ren (at_ ps))) /\
  (ps.Nodup/\ps.take k=List.range k)/\ys.all (SV.inbB m'.length)=true/\m'.all (Blk.inbB m'.length)=true/\R (Y1 ys) m'
theorem Avy {α β γ:Type} {f:α->γ} {g:β->γ} {xs:List α} {ys:List β} (h:xs.map f=ys.map g):xs.length=ys.length/\∀ (j:Nat) (y:β),ys[j]? = some y->∃ x,xs[j]? = some x/\f x=g y:=by
 have hl:xs.length=ys.length:=by simpa using congrArg List.length h
 refine⟨hl,λj y hy=>?_⟩
 have hj:j<xs.length:=by rw[hl];exact(zB.1 hy).1
 refine⟨xs[j],zC hj,?_⟩
 have:=congrArg (λl=>l[j]?) h
 simp only[zK,hy,zC hj,xM,z2] at this
 exact this
theorem Aew {ps:List Nat} (h:ps.Nodup) {i j x:Nat} (hi:ps[i]? = some x) (hj:ps[j]? = some x):i=j:=by
 have hi':=(zB.1 hi).1
 have hj':=(zB.1 hj).1
 have e1:=(zB.1 hi).2
 have e2:=(zB.1 hj).2
 exact(List.getElem_inj h).1 (e1.trans e2.symm)
theorem Avu {R:Lf->Value->Prop} {us:List Value} {ys:List SV} (h1:Abx R ys us):AVR R (Y1 ys) (if h:us.toArray.size=1 then us.toArray[0] else .tuple us.toArray):=by
 match us,ys,h1 with
 | [u],[y],h1=>exact h1.2 0 y u rfl rfl
 | [u],[],h1=>have:=h1.1;simp at this
 | [u],_::_::_,h1=>have:=h1.1;simp at this
 | [],[],h1=>exact⟨#[],rfl,rfl,λj x u hx=>by simp at hx⟩
 | [],_::_,h1=>have:=h1.1;simp at this
 | _::_::_,[],h1=>have:=h1.1;simp at this
 | _::_::_,[y],h1=>have:=h1.1;simp at this
 | u1::u2::us,y1::y2::ys,h1=>exact⟨(u1::u2::us).toArray,by simp,by simpa using h1.1,λj x u hx hu=>h1.2 j x u hx (by simpa using hu)⟩
theorem Al9 (r:Rel c st a w S H) (h:Aay P st fn.results.toList xs) :
  ∃ us:List Value,Abx (Bf w S st.m H) xs us/\(results fn a.tmps).run P w=.ok (if h:us.toArray.size=1 then us.toArray[0] else .tuple us.toArray) w:=by
 obtain⟨us,hl,hs,hr⟩:=Afw r h
 have hm:(fn.results.mapM (Akv a.tmps)).run P w=.ok us.toArray w:=by
  have:=Qe (P:=P) (Akv a.tmps) w fn.results.toList us hl hr
  rw[jT]
  simp only[Sem.run_map,this,Result.andThen_ok]
 refine⟨us,hs,?_⟩
 rw[Ac0,Sem.run_bind,hm]
 rfl
theorem Bw {body:Code} (hf:P.funcs[f]? = some fn) (hb:fn.body=some body) {nt:Nat} (hnt:fn.ntmps=nt) (hn:args.length<=nt)
  (h:∀ w0 S0 X H0,AWC P ⟨w0,S0,nt,X,m,H0⟩ body (A5k P fn m.length R) ⟨Aqv args,m⟩):Dk P f m args R:=by
 subst hnt
 intro w S H vs hS hM hv
 refine calls_of_wp hf hb ?_
 have hlen:vs.size=args.length:=by have:=hv.1;simp at this;omega
 have hget:∀ i,(vs++Array.replicate (fn.ntmps-vs.size) undef).getD i undef=vs.getD i undef:=by
  intro i
  simp only[zH,jK]
  split
  ·rfl
  ·rename_i hi
   rw[wP]
   have:vs[i]? = none:=wV (by omega)
   rw[this]
   split <;> rfl
 have r0:Rel ⟨w,S,fn.ntmps,Aj9 m H,m,H⟩ ⟨Aqv args,m⟩ { tmps:=vs++Array.replicate (fn.ntmps-vs.size) undef,defers:=[] } w S H:=by
  refine⟨by simp;omega,rfl,λi=>?_,hM.bl,λp b g h ho=>⟨.inr ⟨p,b,h,ho⟩,hM.hp p b g h ho⟩,hM.inj,hM.sb,hS,Aam.refl _ w S,zT _,λp g _ _=>rfl,λp e sz k cs _ h=>⟨k,cs,h,.inl ⟨rfl,rfl⟩⟩,λp _ h=>h⟩
  rw[hget]
  show AVR _ (match args[i]? with|some x=>.s x|none=>.tup []) _
  cases ha:args[i]? with
  | none =>
   have:vs[i]? = none:=wV (by rw[hlen];exact wD.1 ha)
   simp only[zH,this,zAb]
   exact Hn
  | some x =>
   have hi:i<args.length:=(zB.1 ha).1
   have hi':i<vs.size:=by omega
   have:vs[i]? = some vs[i]:=z9 hi'
   simp only[zH,this,yS]
   exact hv.2 i x _ ha (by simp)
 refine wp_mono (h w S _ _ _ _ _ _ r0) ?_
 rintro e a w1 ⟨st,S1,H1,r,he,xs,ps,ys,m',hx,hxy,hps,⟨hnd,htk⟩,hiy,him,hR⟩
 obtain⟨us,hus,hrun⟩:=Al9 r hx
 obtain⟨hpl,hpg⟩:=Avy hps
 have hat:∀ {j p:Nat},ps[j]? = some p->at_ ps j=p:=λ{j p} h=>by simp [at_,List.getD,h]
 have tie:Tie m' st.m (λp=>H1 (at_ ps p)) H1 (at_ ps):=by
  refine⟨λp hp=>?_,λp _=>rfl,λp b hb=>?_⟩
  ·obtain⟨q,hq,hb⟩:=hpg p _ (zC hp)
   rw[hat hq]
   exact(zB.1 hb).1
  ·obtain⟨q,hq,hb'⟩:=hpg p b hb
   rw[hat hq]
   exact hb'
 have hinj:∀ p q,p<m'.length->q<m'.length->at_ ps p=at_ ps q->p=q:=by
  intro p q hp hq e
  have h1:ps[p]? = some (at_ ps p):=by rw[zC (by omega)];simp [at_,List.getD,zC (show p<ps.length by omega)]
  have h2:ps[q]? = some (at_ ps p):=by rw[e,zC (by omega)];simp [at_,List.getD,zC (show q<ps.length by omega)]
  exact Aew hnd h1 h2
 have hmem:=Mem.sel tie (zJ.1 him) hinj r.mem
 have hkk:∀ p,p<m.length->at_ ps p=p/\p<m'.length:=by
  intro p hp
  have h1:(ps.take m.length)[p]? = some p:=by rw[htk];simp [hp]
  rw[yR,if_pos hp] at h1
  exact⟨hat h1,by rw[<- hpl];exact(zB.1 h1).1⟩
 have hml:m.length<=m'.length:=by
  rcases jF m.length with h0|h0
  ·omega
  ·have:=(hkk (m.length-1) (by omega)).2;omega
 have hkept:A8n m H m' (λp=>H1 (at_ ps p)):=by
  refine⟨hml,λp g hp hH=>?_,λp e sz k cs hp hm=>?_,λp hp hne=>by show H1 (at_ ps p)≠undef;rw[(hkk p hp).1];exact r.ku p hp hne⟩
  ·show H1 (at_ ps p)=H p
   rw[(hkk p hp).1]
   exact r.kh p g hp hH
  ·show ∃ k' cs',m[p]? = some (.arr e sz k' cs')/\((cs'.length=cs.length/\H1 (at_ ps p)=H p)\/cs'.length<cs.length)
   rw[(hkk p hp).1]
   have hm2:=tie.b p _ hm
   rw[(hkk p hp).1] at hm2
   exact r.kr p e sz k cs hp hm2
 have hav:AVR (Bf w1 S1 m' (λp=>H1 (at_ ps p))) (Y1 ys) (if h:us.toArray.size=1 then us.toArray[0] else .tuple us.toArray):=by
  subst hxy
  exact Avu (tie.svsDown hiy hus)
 have hown:∀ (p:Nat) (b:Blk) (g:Nat),m'[p]? = some b->b.own (H1 (at_ ps p))=some g->w.heap.size<=g\/Aj9 m H g:=λp b g hb ho=>(r.lo _ _ g (tie.b p b hb) (by rw[Blk.ren_own];exact ho)).1
 rcases he with rfl|rfl
 ·exact⟨r.df,_,hrun,_,_,_,_,_,rfl,hR,r.ex,r.sl,hmem,hown,hkept,hav⟩
 ·exact⟨r.df,_,hrun,_,_,_,_,_,rfl,hR,r.ex,r.sl,hmem,hown,hkept,hav⟩
end
open Go.RowKit
section
variable {R:AV->List Blk->Prop} {a:Act} {c:Ctx} {f:FuncId} {m:List Blk} {t:Nat->AV} {H Hc:Nat->Value} {S:Dx} {w:World}
def rho (ps:List Nat) (n j:Nat):Nat:=match ps[j]? with|some p=>p|none=>n+(j-ps.length)
def Px (M:List Blk):List Nat->List Blk->List Blk
  | p::ps,b::bs=>Px (M.set p b) ps bs
  | [],bs=>M++bs
  | _::_,[]=>M
theorem Ah8:∀ {ps:List Nat} {bs M:List Blk},ps.Nodup->(∀ p∈ps,p<M.length)->ps.length<=bs.length ->
    (∀ (j p:Nat),ps[j]? = some p->(Px M ps bs)[p]? = bs[j]?)/\(∀ q,q<M.length->q∉ps->(Px M ps bs)[q]? = M[q]?)/\(∀ j,(Px M ps bs)[M.length+j]? = bs[ps.length+j]?)/\(Px M ps bs).length=M.length+(bs.length-ps.length)
  | [],bs,M,_,_,_=>by
    refine⟨λj p h=>by simp at h,λq hq _=>by simp [Px,zL hq],λj=>by rw[Px,zX (by omega)];simp,by simp [Px]⟩
  | p::ps,[],M,_,_,h=>by simp at h
  | p::ps,b::bs,M,hnd,hlt,hl=>by
    have hnd':=wE.1 hnd
    obtain⟨h1,h2,h3,h4⟩:=Ah8 (ps:=ps) (bs:=bs) (M:=M.set p b) hnd'.2 (λq hq=>by simpa using hlt q (yH _ hq)) (by simpa using hl)
    have hp:p<M.length:=hlt p (yQ ..)
    refine⟨λj q hj=>?_,λq hq hn=>?_,λj=>?_,?_⟩
    · cases j with
      | zero =>
        simp only[yV,z2] at hj
        subst hj
        show(Px (M.set p b) ps bs)[p]? = _
        rw[h2 p (by simpa using hp) hnd'.1]
        simp [hp]
      | succ j=>exact h1 j q (by simpa using hj)
    · simp only[yB,not_or] at hn
      show(Px (M.set p b) ps bs)[q]? = _
      rw[h2 q (by simpa using hq) hn.2,zS (λe=>hn.1 e.symm)]
    · have:=h3 j
      simp only[xA] at this
      show(Px (M.set p b) ps bs)[M.length+j]? = _
      rw[this]
      simp only[yZ]
      rw[show ps.length+1+j=(ps.length+j)+1 by omega,kD]
    · show(Px (M.set p b) ps bs).length=_
      rw[h4]
      simp
inductive Cal (st:AS):Operand->FuncId->List Lf->List Lf->Prop
  | func (f:FuncId):Cal st (.func f) f [] []
  | fn (x:Operand) (f:FuncId) (la lb:List Lf) (h:Bg st x=.s (.one (.fn f la lb))):Cal st x f la lb
  | raw (x:Operand) (f:FuncId) (h:Bg st x=.s (.one (.raw (.func (.func f) #[] #[])))):Cal st x f [] []
theorem Cal.val {st:AS} (r:Rel c st a w S H) {x:Operand} {la lb:List Lf} (h:Cal st x f la lb) :
    ∃ va vb,a.eval x=.func (.func f) va vb/\LsR (Dy w S st.m H) la va.toList/\LsR (Dy w S st.m H) lb vb.toList:=by
  cases h with
  | func=>exact⟨#[],#[],rfl,⟨rfl,λj l v h=>by simp at h⟩,⟨rfl,λj l v h=>by simp at h⟩⟩
  | fn _ _ _ _ h =>
    have:=Ax r x
    rw[h] at this
    exact this
  | raw _ _ h =>
    have:=Ax r x
    rw[h] at this
    exact⟨#[],#[],Ix this,⟨rfl,λj l v h=>by simp at h⟩,⟨rfl,λj l v h=>by simp at h⟩⟩
theorem Dy.up {l:Lf} {v:Value} (h:Dy w S m H l v):Bf w S m H l v:=by
  cases l with
  | fn f a b=>exact Bf.of_rep h
  | lp p o=>exact h
  | mp k p=>exact h
  | ls p n=>exact h
  | ap p n o=>exact h
  | i k n=>exact h
  | b x=>exact h
  | s x=>exact h
  | raw v=>exact h
  | sl n cs=>exact h
  | cp cs=>exact h
  | nix=>exact h
  | jk e sz n=>exact h
theorem Aam.trans2 {X Y:Nat->Prop} {w' w'':World} {S' S'':Dx} (h:Aam X w S w' S') (k:Aam Y w' S' w'' S'') (hY:∀ b,b<w.heap.size->¬ X b->¬ Y b):Aam X w S w'' S'' :=
  ⟨k.os.trans h.os,k.tape.trans h.tape,k.output.trans h.output,yU h.size k.size,
   λb hb hx=>(k.blk b (zY hb h.size) (hY b hb hx)).trans (h.blk b hb hx),λb i hs=>k.sub b i (h.sub b i hs),
   λb i hs=>(k.stab b i (h.sub b i hs)).trans (h.stab b i hs),
   λb i hb hx hs=>h.back b i hb hx (k.back b i (zY hb h.size) (hY b hb hx) hs)⟩
open Classical in
noncomputable def Awc (ps:List Nat) (n:Nat) (Hc H':Nat->Value) (q:Nat):Value :=
  if h:∃ j:Nat,ps[j]? = some q then H' (Classical.choose h) else if q<n then Hc q else H' (ps.length+(q-n))
theorem Are {P:Program} {M:List Blk} (r:Rel c ⟨t,M⟩ a w S Hc) {ys:List SV} (hc:Dk P f m ys R) {vs:Array Value} {ps:List Nat}
    (hxs:Abx (Bf w S M Hc) (ys.map (SV.ren (rho ps M.length))) vs.toList) (hps:ps.map (λp=>M[p]?)=m.map (λb=>some (b.ren (rho ps M.length)))) (hnd:ps.Nodup) (hiy:ys.all (SV.inbB m.length)=true) (him:m.all (Blk.inbB m.length)=true) :
    Calls P f vs w λe w'=>∃ v x m' S' H',e=.returned v/\R x m'/\Rel c ⟨t,Px M ps (m'.map (Blk.ren (rho ps M.length)))⟩ a w' S' H'/\AVR (Bf w' S' (Px M ps (m'.map (Blk.ren (rho ps M.length)))) H') (x.ren (rho ps M.length)) v:=by
  obtain⟨hpl,hpg⟩:=Avy hps
  generalize hn:M.length=n at *
  have hr:∀ {j p:Nat},ps[j]? = some p->rho ps n j=p:=λ{j p} h=>by simp [rho,h]
  have hr2:∀ {j:Nat},ps.length<=j->rho ps n j=n+(j-ps.length):=λ{j} h=>by simp [rho,zZ h]
  have hplt:∀ {j p:Nat},ps[j]? = some p->p<n:=λ{j p} h=>by
    have hj:j<m.length:=by rw[<- hpl];exact(zB.1 h).1
    obtain⟨q,hq,hb⟩:=hpg j _ (zC hj)
    rw[h] at hq;cases hq
    rw[<- hn]
    exact(zB.1 hb).1
  have tie:Tie m M (λj=>Hc (rho ps n j)) Hc (rho ps n):=by
    refine⟨λp hp=>?_,λp _=>rfl,λp b hb=>?_⟩
    · obtain⟨q,hq,hb⟩:=hpg p _ (zC hp)
      rw[hr hq,hn];exact hplt hq
    · obtain⟨q,hq,hb'⟩:=hpg p b hb
      rw[hr hq]
      exact hb'
  have hget:∀ {j},j<ps.length->ps[j]? = some (rho ps n j):=λ{j} h=>by
    have:=zC h
    rw[this,hr this]
  have hinj:∀ p q,rho ps n p=rho ps n q->p=q:=by
    intro p q e
    rcases zQ p ps.length with hp|hp <;> rcases zQ q ps.length with hq|hq
    · exact Aew hnd (hget hp) (by rw[e];exact hget hq)
    · have:=hplt (hget hp);rw[e,hr2 hq] at this;omega
    · have:=hplt (hget hq);rw[<- e,hr2 hp] at this;omega
    · rw[hr2 hp,hr2 hq] at e;omega
  have mem:=Mem.sel tie (zJ.1 him) (λp q _ _=>hinj p q) r.mem
  refine(hc w S _ vs r.sl mem (tie.svsDown hiy hxs)).mono ?_
  rintro e w' ⟨v,x,m',S',H',he,hR,ext,hin,mem',hown',kept,hav⟩
  refine⟨v,x,m',S',Awc ps n Hc H',he,hR,?_⟩
  have hpl':ps.length<=(m'.map (Blk.ren (rho ps n))).length:=by simp;rw[hpl];exact kept.len
  obtain⟨g1,g2,g3,g4⟩:=Ah8 (ps:=ps) (bs:=m'.map (Blk.ren (rho ps n))) (M:=M) hnd (λp hp=>by
    obtain⟨j,hj,hjp⟩:=y9 hp
    rw[hn];exact hplt (by rw[zC hj,hjp])) hpl'
  rw[hn] at g2 g3 g4
  generalize hM':Px M ps (m'.map (Blk.ren (rho ps n)))=M' at *
  have hmp:ps.length<=m'.length:=by simpa using hpl'
  simp only[zP] at g4
  have hH1:∀ j,Awc ps n Hc H' (rho ps n j)=H' j:=by
    intro j
    unfold Awc
    rcases zQ j ps.length with hj|hj
    · have hex:∃ j':Nat,ps[j']? = some (rho ps n j):=⟨j,hget hj⟩
      rw[dif_pos hex,Aew hnd (Classical.choose_spec hex) (hget hj)]
    · rw[dif_neg,if_neg (by rw[hr2 hj];omega),hr2 hj]
      · congr 1;omega
      · rintro⟨j',h⟩
        have:=hplt h
        rw[hr2 hj] at this;omega
  have hH2:∀ q,q<n->(∀ j:Nat,ps[j]? ≠ some q)->Awc ps n Hc H' q=Hc q:=by
    intro q hq hne
    unfold Awc
    rw[dif_neg (λ⟨j,h⟩=>hne j h),if_pos hq]
  have tie':Tie m' M' H' (Awc ps n Hc H') (rho ps n):=by
    have hb:∀ p b,m'[p]? = some b->M'[rho ps n p]? = some (b.ren (rho ps n)):=by
      intro p b hb
      rcases zQ p ps.length with hp|hp
      · rw[g1 p _ (hget hp),zK,hb];rfl
      · rw[hr2 hp,g3,show ps.length+(p-ps.length)=p by omega,zK,hb];rfl
    exact⟨λp hp=>(zB.1 (hb p _ (zC hp))).1,λp _=>hH1 p,hb⟩
  have cls:∀ (q:Nat) (b:Blk),M'[q]? = some b->(∃ j b0,m'[j]? = some b0/\q=rho ps n j/\b=b0.ren (rho ps n))\/(q<n/\(∀ j:Nat,ps[j]? ≠ some q)/\M[q]? = some b):=by
    intro q b hb
    have hq:=(zB.1 hb).1
    rw[g4] at hq
    have old:∀ j,j<m'.length->q=rho ps n j->∃ j b0,m'[j]? = some b0/\q=rho ps n j/\b=b0.ren (rho ps n):=by
      intro j hj e
      refine⟨j,m'[j],zC hj,e,?_⟩
      have:=tie'.b j _ (zC hj)
      rw[<- e,hb] at this
      exact zF this
    by_cases hex:∃ j:Nat,ps[j]? = some q
    · obtain⟨j,hj⟩:=hex
      have hjl:=(zB.1 hj).1
      exact .inl (old j (by omega) (hr hj).symm)
    · have hne:∀ j:Nat,ps[j]? ≠ some q:=λj h=>hex ⟨j,h⟩
      rcases zQ q n with h|h
      · refine .inr ⟨h,hne,?_⟩
        rw[<- g2 q h (λhm=>by obtain⟨j,hj,hjp⟩:=y9 hm;exact hne j (by rw[zC hj,hjp]))]
        exact hb
      · exact .inl (old (ps.length+(q-n)) (by omega) (by rw[hr2 (by omega)];omega))
  have hnX:∀ (q:Nat) (b:Blk) (g:Nat),(∀ j:Nat,ps[j]? ≠ some q)->M[q]? = some b->b.own (Hc q)=some g->¬ Aj9 m (λj=>Hc (rho ps n j)) g:=by
    rintro q b g hne hb ho ⟨j,b1,h1,h2⟩
    have e:=r.inj q (rho ps n j) b _ g hb (tie.b j b1 h1) ho (by rw[Blk.ren_own];exact h2)
    have hj:j<ps.length:=by rw[hpl];exact(zB.1 h1).1
    exact hne j (by rw[e];exact hget hj)
  have hX:∀ g,Aj9 m (λj=>Hc (rho ps n j)) g->c.w0.heap.size<=g\/c.X g:=by
    rintro g ⟨j,b1,h1,h2⟩
    exact(r.lo _ _ g (tie.b j b1 h1) (by rw[Blk.ren_own];exact h2)).1
  have hkp:∀ b i,S b i->S' b i/\w'.cell? ⟨b,i,none⟩=w.cell? ⟨b,i,none⟩:=λb i hs=>⟨ext.sub b i hs,ext.stab b i hs⟩
  have hHp:∀ p g,p<n->Hc p=.pointer (some ⟨g,0,none⟩)->Awc ps n Hc H' p=Hc p:=by
    intro p g hp hg
    by_cases hex:∃ j:Nat,ps[j]? = some p
    · obtain⟨j,hj⟩:=hex
      have hjm:j<m.length:=by rw[<- hpl];exact(zB.1 hj).1
      have h1:=kept.h j g hjm (by show Hc (rho ps n j)=_;rw[hr hj];exact hg)
      have h2:=hH1 j
      rw[hr hj] at h2
      rw[h2,h1]
      show Hc (rho ps n j)=_
      rw[hr hj]
    · exact hH2 p hp (λj h=>hex ⟨j,h⟩)
  have harr:∀ p e sz k cs,p<n->M'[p]? = some (.arr e sz k cs)->∃ k' cs',M[p]? = some (.arr e sz k' cs')/\((cs'.length=cs.length/\Awc ps n Hc H' p=Hc p)\/cs'.length<cs.length):=by
    intro p e sz k cs hp hm
    by_cases hex:∃ j:Nat,ps[j]? = some p
    · obtain⟨j,hj⟩:=hex
      have hjm:j<m.length:=by rw[<- hpl];exact(zB.1 hj).1
      have hm':m'[j]? = some (.arr e sz k cs):=(tie'.arr (zY hjm kept.len)).1 (by rw[hr hj];exact hm)
      obtain⟨k',cs',h1,h2⟩:=kept.r j e sz k cs hjm hm'
      have h3:=tie.b j _ h1
      rw[hr hj] at h3
      refine⟨k',cs',h3,?_⟩
      have h4:=hH1 j
      rw[hr hj] at h4
      rw[h4]
      rcases h2 with⟨h2,h5⟩|h2
      · refine .inl ⟨h2,?_⟩
        rw[h5]
        show Hc (rho ps n j)=_
        rw[hr hj]
      · exact .inr h2
    · have hne:∀ j:Nat,ps[j]? ≠ some p:=λj h=>hex ⟨j,h⟩
      rcases cls p _ hm with⟨j,b0,h1,h2,h3⟩|⟨_,_,h3⟩
      · rcases zQ j ps.length with hj|hj
        · exact absurd (by rw[h2];exact hget hj) (hne j)
        · rw[hr2 hj] at h2;omega
      · exact⟨k,cs,h3,.inl ⟨rfl,hH2 p hp hne⟩⟩
  have hun:∀ p,p<n->Hc p≠undef->Awc ps n Hc H' p≠undef:=by
    intro p hp hne0
    by_cases hex:∃ j:Nat,ps[j]? = some p
    · obtain⟨j,hj⟩:=hex
      have hjm:j<m.length:=by rw[<- hpl];exact(zB.1 hj).1
      have h1:=kept.u j hjm (by show Hc (rho ps n j)≠_;rw[hr hj];exact hne0)
      have h2:=hH1 j
      rw[hr hj] at h2
      rw[h2];exact h1
    · rw[hH2 p hp (λj h=>hex ⟨j,h⟩)];exact hne0
  have hgr:∀ l u,Bf w S M Hc l u->Bf w' S' M' (Awc ps n Hc H') l u:=λl u=>Bf.mono2 hkp (by rw[hn,g4];omega) (λp g hp=>hHp p g (by rw[<- hn];exact hp)) (λp hp=>hun p (by rw[<- hn];exact hp)) (λp e sz k cs hp=>harr p e sz k cs (by rw[<- hn];exact hp))
  refine⟨⟨r.nt,r.df,λi=>AVR.mono hgr (r.tm i),λq b hb=>?_,λq b g hb ho=>?_,λq q' b b' g hb hb' ho ho'=>?_,λq b g i hb ho hs=>?_,hin,?_,?_,λp g hp hh=>?_,λp e sz k cs hp hm=>?_,λp hp hne0=>hun p (by have h9:c.m0.length<=M.length:=r.kl;omega) (r.ku p hp hne0)⟩,tie'.avUp hav⟩
  · rcases cls q b hb with⟨j,b0,h1,rfl,rfl⟩|⟨h1,h2,h3⟩
    · rw[hH1]
      exact tie'.blkUp (mem'.bl j b0 h1)
    · rw[hH2 q h1 h2]
      have hbr:=r.bl q b h3
      have hsame:∀ g,b.own (Hc q)=some g->w'.heap[g]? = w.heap[g]? := λg ho=>ext.blk g (r.lo q b g h3 ho).2 (hnX q b g h2 h3 ho)
      cases b with
      | dead=>trivial
      | hole=>exact hbr
      | obj g mk cs =>
        obtain⟨k1,vs,o,k2,k3,k4,k5⟩:=hbr
        exact⟨k1,vs,o,(hsame g (by rw[k1];rfl)).trans k2,k3,k4,k5.mono (λl v=>Rep.mono hkp)⟩
      | tab mk cs =>
        obtain⟨g,k1,vs,o,k2,k3,k4,k5⟩:=hbr
        exact⟨g,k1,vs,o,(hsame g (by rw[k1];rfl)).trans k2,k3,k4,k5.mono (λl v=>Rep.mono hkp)⟩
      | arn e sz g n cap cs =>
        obtain⟨k1,cur,k2,k3,k4⟩:=hbr
        exact⟨k1,cur,(hsame g (by rw[k1];rfl)).trans k2,k3,k4.mono hgr⟩
      | box cs =>
        obtain⟨g,e,cur,k1,k2,k3⟩:=hbr
        exact⟨g,e,cur,k1,(hsame g (by rw[k1];rfl)).trans k2,k3.mono hgr⟩
      | arr e sz k cs =>
        obtain⟨h0,hk1,nn,vals,k1,k2,k3⟩:=hbr
        exact⟨h0,hk1,nn,vals,Iq k1 (λg hg=>hsame g hg),k2.mono (λl v=>Rep.mono hkp),λg hg i hi=>ext.sub g i (k3 g hg i hi)⟩
  · rcases cls q b hb with⟨j,b0,h1,rfl,rfl⟩|⟨h1,h2,h3⟩
    · rw[hH1,Blk.ren_own] at ho
      refine⟨?_,mem'.hp j b0 g h1 ho⟩
      rcases hown' j b0 g h1 ho with h|h
      · exact .inl (yU r.ex.size h)
      · exact hX g h
    · rw[hH2 q h1 h2] at ho
      have:=r.lo q b g h3 ho
      exact⟨this.1,zY this.2 ext.size⟩
  · have mixed:∀ (j:Nat) (b0:Blk) (q:Nat) (b:Blk),m'[j]? = some b0->b0.own (H' j)=some g->(∀ j:Nat,ps[j]? ≠ some q)->M[q]? = some b->b.own (Hc q)=some g->False:=by
      intro j b0 q b h1 h2 h3 h4 h5
      rcases hown' j b0 g h1 h2 with h|h
      · have:=(r.lo q b g h4 h5).2;omega
      · exact hnX q b g h3 h4 h5 h
    rcases cls q b hb with⟨j,b0,h1,rfl,rfl⟩|⟨h1,h2,h3⟩ <;> rcases cls q' b' hb' with⟨j',b0',h1',rfl,rfl⟩|⟨h1',h2',h3'⟩
    · rw[hH1,Blk.ren_own] at ho ho'
      rw[mem'.inj j j' b0 b0' g h1 h1' ho ho']
    · rw[hH1,Blk.ren_own] at ho
      rw[hH2 q' h1' h2'] at ho'
      exact(mixed j b0 q' b' h1 ho h2' h3' ho').elim
    · rw[hH1,Blk.ren_own] at ho'
      rw[hH2 q h1 h2] at ho
      exact(mixed j' b0' q b h1' ho' h2 h3 ho).elim
    · rw[hH2 q h1 h2] at ho
      rw[hH2 q' h1' h2'] at ho'
      exact r.inj q q' b b' g h3 h3' ho ho'
  · rcases cls q b hb with⟨j,b0,h1,rfl,rfl⟩|⟨h1,h2,h3⟩
    · rw[hH1,Blk.ren_own] at ho
      rw[Blk.ren_stab]
      exact mem'.sb j b0 g i h1 ho hs
    · rw[hH2 q h1 h2] at ho
      exact r.sb q b g i h3 ho (ext.back g i (r.lo q b g h3 ho).2 (hnX q b g h2 h3 ho) hs)
  · refine r.ex.trans2 ext (λb hb hx hX'=>?_)
    rcases hX b hX' with h|h
    · omega
    · exact hx h
  · have:=r.kl
    simp only[hn] at this
    show c.m0.length<=M'.length
    omega
  · have h1:=r.kh p g hp hh
    rw[<- h1]
    have:=r.kl
    simp only[hn] at this
    exact hHp p g (by omega) (h1.trans hh)
  · have hkl:=r.kl
    simp only[hn] at hkl
    obtain⟨k1,cs1,h1,h2⟩:=harr p e sz k cs (by omega) hm
    obtain⟨k2,cs2,h3,h4⟩:=r.kr p e sz k1 cs1 hp h1
    refine⟨k2,cs2,h3,?_⟩
    rcases h2 with⟨h2,hv⟩|h2 <;> rcases h4 with⟨h4,hv4⟩|h4
    · exact .inl ⟨h4.trans h2,hv.trans hv4⟩
    · exact .inr (by omega)
    · exact .inr (by omega)
    · exact .inr (by omega)
end
open Go.RowKit
section
variable {P:Program} {c:Ctx} {t:Nat->AV} {M:List Blk} {ops:Array Oper} {Q:Exit->AS->Prop} {rest:List Oper} {ty:TypeId} {pos:String} {af:Array Edge} {d:Tmp}
theorem Yd {R:Lf->Value->Prop} {xs ys:List SV} {us vs:List Value} (h:Abx R xs us) (k:Abx R ys vs):Abx R (xs++ys) (us++vs):=by
 refine⟨by simp [h.1,k.1],λj x v h1 h2=>?_⟩
 by_cases hj:j<xs.length
 ·rw[zL hj] at h1
  rw[zL (by rw[<- h.1];exact hj)] at h2
  exact h.2 j x v h1 h2
 ·rw[zX (by omega)] at h1
  rw[zX (by rw[<- h.1];omega),<- h.1] at h2
  exact k.2 _ x v h1 h2
theorem Aes {w:World} {S:Dx} {m:List Blk} {H:Nat->Value} {ls:List Lf} {vs:List Value} (h:LsR (Dy w S m H) ls vs):Abx (Bf w S m H) (ls.map SV.one) vs :=
 ⟨by simpa using h.1,λj x v h1 h2=>by
  rw[zK] at h1
  cases hj:ls[j]? with
  | none=>rw[hj] at h1;cases h1
  | some l=>rw[hj] at h1;cases h1;exact Dy.up (h.2 j l v hj h2)⟩
theorem Afh {a:Act} {w:World} {S:Dx} {H:Nat->Value} (r:Rel c ⟨t,M⟩ a w S H) {callee:Operand} {f:FuncId} {la lb:List Lf} {args:Array Operand} {ats:Array TypeId} {xs:List SV} (hf:FnI P f) (hcal:Cal ⟨t,M⟩ callee f la lb) (ho:Xy ⟨t,M⟩ args.toList xs) (dst:Option Tmp) :
  ∃ vs:Array Value,Abx (Bf w S M H) (la.map SV.one++xs++lb.map SV.one) vs.toList/\(execOp a.eval ⟨dst,.call { callee:=.value callee,args:=args,argTypes:=ats },ty,pos,af,none⟩).run P w=.ok (.enter f vs) w:=by
 obtain⟨va,vb,hv,h1,h2⟩:=hcal.val r
 refine⟨va++args.map a.eval++vb,?_,?_⟩
 ·have:=Yd (Yd (Aes h1) (V0 r ho)) (Aes h2)
  simpa using this
 ·simp [execOp,resolve,hv,Deferred.ofValue,invoke,hf.run]
theorem Kv {callee:Operand} {f:FuncId} {la lb:List Lf} {args:Array Operand} {ats:Array TypeId} {xs ys:List SV} {m m1 M':List Blk} {x x':AV} (ps:List Nat) (hd:decide (d<c.nt)=true) (hf:FnI P f) (hcal:Cal ⟨t,M⟩ callee f la lb) (ho:Xy ⟨t,M⟩ args.toList xs)
  (hc:Dk P f m ys (λy m'=>y=x/\m'=m1)) (hxs:la.map SV.one++xs++lb.map SV.one=ys.map (SV.ren (rho ps M.length))) (hps:ps.map (λp=>M[p]?)=m.map (λb=>some (b.ren (rho ps M.length)))) (hnd:ps.Nodup)
  (hi:(ys.all (SV.inbB m.length)&&m.all (Blk.inbB m.length))=true) (hx:x.ren (rho ps M.length)=x') (hM:Px M ps (m1.map (Blk.ren (rho ps M.length)))=M')
  (k:AWL P c ops Q rest ⟨upd t d x',M'⟩):AWL P c ops Q (⟨some d,.call { callee:=.value callee,args:=args,argTypes:=ats },ty,pos,af,none⟩::rest) ⟨t,M⟩:=by
 intro a w S H r
 obtain⟨vs,hvs,hrun⟩:=Afh (pos:=pos) (af:=af) (ty:=ty) (ats:=ats) r hf hcal ho (some d)
 rw[hxs] at hvs
 simp only[zG] at hi
 refine wpList_plain rfl λK hK=>?_
 unfold Oper.wp
 rw[hrun]
 refine(Are r hc hvs hps hnd hi.1 hi.2).mono ?_
 rintro e w' ⟨v,y,m',S',H',rfl,⟨rfl,rfl⟩,r',hav⟩
 subst hx;subst hM
 exact hK _ _ (k _ _ _ _ (r'.put (of_decide_eq_true hd) hav))
def Lf.noFn:Lf->Bool
 | .fn .. =>false
 | _=>true
def Afa (st:AS):List Operand->List Lf->Prop
 | [],xs=>xs=[]
 | o::os,xs=>∃ l r,Bg st o=.s (.one l)/\l.noFn=true/\Afa st os r/\xs=l::r
theorem Qx {st:AS}:Afa st [] []:=rfl
theorem Z8 {st:AS} {o:Operand} {os:List Operand} {l:Lf} {r:List Lf} (h:Bg st o=.s (.one l)) (hl:l.noFn=true) (t:Afa st os r):Afa st (o::os) (l::r):=⟨l,r,h,hl,t,rfl⟩
theorem Ac3 {st:AS} {a:Act} {w:World} {S:Dx} {H:Nat->Value} (r:Rel c st a w S H):∀ {os:List Operand} {xs:List Lf},Afa st os xs->LsR (Dy w S st.m H) xs (os.map a.eval)
 | [],xs,h=>by cases h;exact⟨rfl,λj x v h=>by simp at h⟩
 | o::os,xs,h=>by
  obtain⟨l,rr,h1,hl,h2,rfl⟩:=h
  have ih:=Ac3 r h2
  have h0:=Ax r o
  rw[h1] at h0
  have h0':Dy w S st.m H l (a.eval o):=by
   have h00:Bf w S st.m H l (a.eval o):=h0
   cases l <;> first|exact h00|(simp [Lf.noFn] at hl)
  refine⟨by simp [ih.1],λj y v hy hv=>?_⟩
  cases j with
  | zero=>simp only[yV,xN,z2] at hy hv;subst hy;subst hv;exact h0'
  | succ j=>exact ih.2 j y v (by simpa using hy) (by simpa using hv)
theorem Wh {st:AS} {f:FuncId} {fi cp:Array Operand} {la lb:List Lf} (h1:Afa st fi.toList la) (h2:Afa st cp.toList lb):OpV P c st (.makeFunc (.func f) fi cp) ty (.s (.one (.fn f la lb))):=by
 intro a w S H r
 have e1:=Ac3 r h1
 have e2:=Ac3 r h2
 exact⟨.func (.func f) (fi.map a.eval) (cp.map a.eval),⟨_,_,rfl,by simpa using e1,by simpa using e2⟩,λ_ _ _ _=>by simp [execOp,Instr.makeFunc]⟩
theorem AWC.mono {x:Code} {st:AS} {Q Q':Exit->AS->Prop} (h:AWC P c x Q st) (hq:∀ e st,Q e st->Q' e st):AWC P c x Q' st:=λa w S H r =>
 wp_mono (h a w S H r) λe a w ⟨st,S,H,r,h⟩=>⟨st,S,H,r,hq e st h⟩
def A76 {G:Type} (sl:G->List (Nat×AV)) (mm:G->List Blk) (pre:G->Prop) (st:AS):Prop:=∃ g ex,pre g/\Vd st.t (sl g)/\st.m=mm g++ex
theorem Ash {G:Type} {sl:G->List (Nat×AV)} {mm:G->List Blk} {pre:G->Prop} {x:Code} {Q:Exit->AS->Prop} {st:AS} (h:A76 sl mm pre st) (hin:∀ g,pre g->Awn (mm g).length (sl g)) (hmin:∀ g,pre g->∀ b∈mm g,b.inb (mm g).length) (hk:∀ g,pre g->c.m0.length<=(mm g).length)
  (hy:∀ g,pre g->AWC P c x Q ⟨Aj5 (λ_=>.top) (sl g),mm g⟩):AWC P c x Q st:=by
 obtain⟨g,ex,hp,hs,hm⟩:=h
 intro a w S H r
 have r0:Rel c ⟨st.t,mm g++ex⟩ a w S H:=by rw[<- hm];exact r
 exact hy g hp a w S H (r0.trim (Qw hs (hin g hp)) (hmin g hp) (hk g hp))
theorem Bbh {x y:Code} {Q Q':Exit->AS->Prop} {st:AS} (G:Type) (sl:G->List (Nat×AV)) (mm:G->List Blk) (pre:G->Prop) (hin:∀ g,pre g->Awn (mm g).length (sl g)) (hmin:∀ g,pre g->∀ b∈mm g,b.inb (mm g).length) (hk:∀ g,pre g->c.m0.length<=(mm g).length)
  (hy:∀ g,pre g->AWC P c y Q ⟨Aj5 (λ_=>.top) (sl g),mm g⟩) (hx:AWC P c x (Gx (A76 sl mm pre) Q') st):AWC P c x (Gx (AWC P c y Q) Q') st:=by
 refine hx.mono λe st h=>?_
 cases e with
 | normal=>exact Ash h hin hmin hk hy
 | _=>exact h
theorem A48 {x y z:Code} {Q Q' Q'':Exit->AS->Prop} {st:AS} (G:Type) (sl:G->List (Nat×AV)) (mm:G->List Blk) (pre:G->Prop) (hin:∀ g,pre g->Awn (mm g).length (sl g)) (hmin:∀ g,pre g->∀ b∈mm g,b.inb (mm g).length) (hk:∀ g,pre g->c.m0.length<=(mm g).length)
  (hy:∀ g,pre g->AWC P c z Q ⟨Aj5 (λ_=>.top) (sl g),mm g⟩) (hx:AWC P c x (Gx (AWC P c y (Gx (A76 sl mm pre) Q'')) Q') st):AWC P c x (Gx (AWC P c y (Gx (AWC P c z Q) Q'')) Q') st:=by
 refine hx.mono λe st h=>?_
 cases e with
 | normal =>
  refine AWC.mono h λe st h=>?_
  cases e with
  | normal=>exact Ash h hin hmin hk hy
  | _=>exact h
 | _=>exact h
def AV.inbB (n:Nat):AV->Bool
 | .s x=>x.inbB n
 | .tup xs=>xs.all (SV.inbB n)
 | .top=>true
theorem inb_of {n:Nat} {l:Lf} (h:l.inbB n=true):l.inb n=true:=by
 cases l with
 | fn f la lb =>
  simp only[Lf.inbB,zG,zJ] at h
  simp only[Lf.inb,zG,zJ]
  refine⟨λx hx=>?_,λx hx=>?_⟩
  ·have:=h.1 x hx;cases x <;> first|rfl|exact this
  ·have:=h.2 x hx;cases x <;> first|rfl|exact this
 | _=>first | rfl | exact h
theorem Apb {n:Nat} {x:SV} (h:x.inbB n=true):x.inb n:=by
 cases x with
 | one l=>exact inb_of h
 | agg ls=>exact λl hl=>inb_of (zJ.1 h l hl)
theorem An6 {n:Nat}:∀ {l:List (Nat×AV)},(l.all λp=>p.2.inbB n)=true->Awn n l
 | [],_=>trivial
 | (i,x)::r,h=>by
  simp only[wL,zG] at h
  refine⟨?_,An6 h.2⟩
  cases x with
  | s x=>exact Apb h.1
  | tup xs=>exact λy hy=>Apb (zJ.1 h.1 y hy)
  | top=>trivial
theorem Aa8 {n:Nat} {m:List Blk} (h:m.all (Blk.inbB n)=true):∀ b∈m,b.inb n:=by
 intro b hb
 have:=zJ.1 h b hb
 cases b with
 | box cs=>exact λl hl=>inb_of (zJ.1 this l hl)
 | _=>trivial
theorem Agw {l:List Oper} (M':List Blk) (e:M=M') (k:AWL P c ops Q l ⟨t,M'⟩):AWL P c ops Q l ⟨t,M⟩:=by subst e;exact k
end
section
variable {b:Bool} {j:Int} {n:Nat} {α:Type} {xs:List α} {x:Option α} {β σ:Type} {r u:α} {s:σ}
abbrev wI (n:Int):Int:=IntKind.i64.wrap n
def idx (xs:List α) (j:Int):Option α:=if 0<=j then xs[j.toNat]? else none
def cut (xs:List α) (lo hi:Int):Option (List α):=if 0<=lo/\lo<=hi/\hi<=xs.length then some ((xs.drop lo.toNat).take (hi.toNat-lo.toNat)) else none
inductive LR (σ β ρ:Type) where
 | cont (s:σ)
 | brk (b:β)
 | ret (r:ρ)
inductive LB (σ β:Type) where
 | cont (s:σ)
 | brk (b:β)
def B7 {ρ:Type} (f:σ->Option (LR σ β ρ)):Nat->σ->Option (Sum ρ β)
 | 0,_=>none
 | n+1,s=>match f s with
  | none=>none
  | some (.cont s')=>B7 f n s'
  | some (.brk b)=>some (.inr b)
  | some (.ret r)=>some (.inl r)
def Be (f:σ->Option (LB σ β)):Nat->σ->Option β
 | 0,_=>none
 | n+1,s=>match f s with
  | none=>none
  | some (.cont s')=>Be f n s'
  | some (.brk b)=>some b
def fuel:Nat:=1000000000000000000000000
theorem Ap {o:Option α} {f:α->Option β} {r:β} (h:o.bind f=some r):∃ u,o=some u/\f u=some r:=by
 cases o with
 | none=>cases h
 | some u=>exact⟨u,rfl,h⟩
theorem Adq {y:Option α} (hb:b=true) (h:(if b then x else y)=some r):x=some r:=by subst hb;exact h
theorem Adw {y:Option α} (hb:b=false) (h:(if b then x else y)=some r):y=some r:=by subst hb;exact h
theorem Ht {p:Prop} [Decidable p] (h:(if p then x else none)=some r):p/\x=some r:=by
 by_cases hp:p
 ·rw[if_pos hp] at h;exact⟨hp,h⟩
 ·rw[if_neg hp] at h;cases h
theorem Hu (h:idx xs j=some u):0<=j/\xs[j.toNat]? = some u:=Ht h
theorem Azi (h:idx xs j=some u):0<=j/\j<xs.length:=by
 obtain⟨h0,h1⟩:=Hu h
 have:=(zB.1 h1).1
 omega
theorem Al3 {ys:List α} {lo hi:Int} (h:cut xs lo hi=some ys):(0<=lo/\lo<=hi/\hi<=xs.length)/\ys=(xs.drop lo.toNat).take (hi.toNat-lo.toNat):=by
 unfold cut at h
 obtain⟨h0,h1⟩:=Ht h
 exact⟨h0,(zF h1).symm⟩
theorem Qs {f:σ->Option (LB σ β)} {x:β} (h:Be f n s=some x) :
  ∃ m y,n=m+1/\f s=some y/\(match y with | .cont s'=>Be f m s'=some x | .brk b=>b=x):=by
 cases n with
 | zero=>cases h
 | succ m =>
  rw[Be] at h
  cases hf:f s with
  | none=>rw[hf] at h;cases h
  | some y =>
   rw[hf] at h
   refine⟨m,y,rfl,rfl,?_⟩
   cases y with
   | cont s'=>exact h
   | brk b=>exact zF h
theorem Aae {ρ:Type} {f:σ->Option (LR σ β ρ)} {x:Sum ρ β} (h:B7 f n s=some x) :
  ∃ m y,n=m+1/\f s=some y/\(match y with | .cont s'=>B7 f m s'=some x | .brk b=>.inr b=x | .ret r=>.inl r=x):=by
 cases n with
 | zero=>cases h
 | succ m =>
  rw[B7] at h
  cases hf:f s with
  | none=>rw[hf] at h;cases h
  | some y =>
   rw[hf] at h
   refine⟨m,y,rfl,rfl,?_⟩
   cases y with
   | cont s'=>exact h
   | brk b=>exact zF h
   | ret r=>exact zF h
end
open Go.RowKit
section
variable {j:Int} {k:IntKind} {cs zl:List Lf} {e i n:Nat} {x:Operand}
theorem A1h (l:List UInt8):bl l=l.flatMap λb=>[.i .u8 b.toNat]:=by
 unfold bl
 induction l with
 | nil=>rfl
 | cons a l ih=>simp [xN,ih]
section lists
variable {α:Type} {f:α->List Lf} {sz:Nat}
theorem A4 (hf:∀ x,(f x).length=sz) (xs:List α):(xs.flatMap f).length=xs.length*sz:=by
 induction xs with
 | nil=>simp
 | cons a l ih=>simp [yY,ih,hf,wJ,zAe]
theorem Abg (hf:∀ x,(f x).length=sz) (xs:List α) (i:Nat):(xs.flatMap f).drop (i*sz)=(xs.drop i).flatMap f:=by
 induction xs generalizing i with
 | nil=>simp
 | cons a l ih =>
  cases i with
  | zero=>simp
  | succ i =>
   rw[yY,wJ,wW,zAe,<- kL,List.drop_left' (hf a),ih]
   rfl
theorem Abp (hf:∀ x,(f x).length=sz) (xs:List α) (i:Nat):(xs.flatMap f).take (i*sz)=(xs.take i).flatMap f:=by
 induction xs generalizing i with
 | nil=>simp
 | cons a l ih =>
  cases i with
  | zero=>simp
  | succ i =>
   rw[yY,wJ,wW,List.take_append,yJ (by rw[hf];omega),hf,jX,ih]
   rfl
theorem Wo (hf:∀ x,(f x).length=sz) {xs:List α} {u:α} (h:xs[i]? = some u):(xs.flatMap f).drop (i*sz)=f u++(xs.drop (i+1)).flatMap f:=by
 rw[Abg hf]
 have hi:=(zB.1 h).1
 have e:=(zB.1 h).2
 rw[xB hi,yY,e]
theorem Aop (hf:∀ x,(f x).length=sz) {xs:List α} (u:α) (h:i<xs.length):Eu (xs.flatMap f) (i*sz) (f u)=(xs.set i u).flatMap f:=by
 unfold Eu
 rw[Abp hf,hf,<- kS,Abg hf,kP,if_pos h,kW,yY,xE]
theorem Aps {a ls ls':List Lf} {o:Nat} (ho:o+ls.length<=a.length) (h:∃ t,cs.drop i=a++t) (hl:Eu a o ls=ls') (ha:a.length=ls'.length):Eu cs (i+o) ls=Eu cs i ls':=by
 obtain⟨t,ht⟩:=h
 subst hl
 unfold Eu
 have e1:cs.take (i+o)=cs.take i++a.take o:=by
  rw[List.take_add,ht,xG (by omega)]
 have e2:cs.drop (i+o+ls.length)=a.drop (o+ls.length)++t:=by
  rw[jD,<- kL,ht,List.drop_append_of_le_length ho]
 have e3:cs.drop (i+(a.take o++ls++a.drop (o+ls.length)).length)=t:=by
  rw[show(a.take o++ls++a.drop (o+ls.length)).length=a.length by simp only[zI,zR,yF];omega,<- kL,ht,List.drop_left]
 rw[e1,e2,e3]
 simp only[xE]
end lists
section
variable {P:Program} {c:Ctx} {st:AS} {ty:TypeId} {α:Type} {f:α->List Lf} {sz:Nat}
theorem Ny {t:Nat} {y:Operand} {xs:List α} {u:α} (si:SI P t e sz) (hf:∀ x,(f x).length=sz) (hx:Bg st x=.s (.one (.sl n cs))) (hcs:cs=xs.flatMap f) (hn:n=xs.length) (hy:Bg st y=.s (.one (.i k j))) (h:idx xs j=some u) :
  OpV P c st (.indexAddr t x y) ty (.s (.one (.cp (f u++(xs.drop (j.toNat+1)).flatMap f)))):=by
 obtain⟨h0,h1⟩:=Hu h
 have h2:=(Azi h).2
 have:=Ad6 (P:=P) (c:=c) (ty:=ty) si hx hy h0 (by rw[hn];exact h2)
 rwa [hcs,Wo hf h1] at this
theorem Gm {t e' kk p:Nat} {y:Operand} {xs:List α} {u:α} (si:SI P t e sz) (hf:∀ x,(f x).length=sz) (hx:Bg st x=.s (.one (.ls p n))) (hm:st.m[p]? = some (.arr e' sz kk cs)) (hcs:cs=xs.flatMap f) (hn:n=xs.length) (hy:Bg st y=.s (.one (.i k j))) (h:idx xs j=some u) :
  OpV P c st (.indexAddr t x y) ty (.s (.one (.ap p n (j.toNat*sz)))):=by
 have h2:=Azi h
 exact Adr si hx hy hm (by rw[hcs,A4 hf,hn]) h2.1 (by rw[hn];exact h2.2)
theorem Ap7 {t kk p:Nat} (o:Nat) {xs:List α} {u:α} {y:Lf} (ti:TI P t false 1) (hf:∀ x,(f x).length=sz) (hx:Bg st x=.s (.one (.ap p n (i*sz+o)))) (hm:st.m[p]? = some (.arr e sz kk cs)) (hcs:cs=xs.flatMap f) (hn:n=xs.length) (hu:xs[i]? = some u) (hy:(f u)[o]? = some y) :
  OpV P c st (.load t x) ty (.s (.one y)):=by
 refine T0 ti hx (.ap _ _ _ _ _ _ _ hm (by rw[hcs,A4 hf,hn])) ?_
 rw[hcs,<- kL,Wo hf hu,yP,kR (n:=o),zL (zB.1 hy).1,hy]
theorem Ox {t kk p s:Nat} (o:Nat) {ys:List Lf} {xs:List α} {u:α} (ti:TI P t true s) (hf:∀ x,(f x).length=sz) (hx:Bg st x=.s (.one (.ap p n (i*sz+o)))) (hm:st.m[p]? = some (.arr e sz kk cs)) (hcs:cs=xs.flatMap f) (hn:n=xs.length) (hu:xs[i]? = some u) (ho:o+s<=sz) (hy:((f u).drop o).take s=ys) :
  OpV P c st (.load t x) ty (.s (.agg ys)):=by
 have h:=Rb (P:=P) (c:=c) (ty:=ty) (st:=st) ti hx (.ap _ _ _ _ _ _ _ hm (by rw[hcs,A4 hf,hn])) (by
  rw[hcs,<- kL,Wo hf hu,yF,zI,hf];omega)
 rw[hcs,<- kL,Wo hf hu,List.drop_append_of_le_length (by rw[hf];omega),xG (by rw[yF,hf];omega),hy] at h
 exact h
theorem Ar9 {t:Nat} {xs ys:List α} {l h:Option Operand} {lo hi:Int} (si:SI P t e sz) (hf:∀ x,(f x).length=sz) (hx:Bg st x=.s (.one (.sl n cs))) (hcs:cs=xs.flatMap f) (hn:n=xs.length)
  (hl:Anr st l 0 lo.toNat) (hh:Anr st h n hi.toNat) (hc:cut xs lo hi=some ys):OpV P c st (.slice t x l h none) ty (.s (.one (.sl ys.length (ys.flatMap f)))):=by
 obtain⟨⟨h0,h1,h2⟩,rfl⟩:=Al3 hc
 have:=Avr (P:=P) (c:=c) (ty:=ty) si hx (by rw[hcs,A4 hf,hn]) hl hh (by omega) (by rw[hn];omega)
 rw[hcs,Abg hf,Abp hf] at this
 rw[zR,yF,kN (by omega)]
 exact this
end
section
variable {P:Program} {c:Ctx} {t:Nat->AV} {m:List Blk} {ops:Array Oper} {Q:Exit->AS->Prop} {rest:List Oper} {ty:TypeId} {pos:String} {af:Array Edge} {d:Tmp} {α:Type} {f:α->List Lf} {sz:Nat}
theorem Aku {t' k p s:Nat} (o:Nat) {y:Operand} {xs:List α} {u u':α} {v:SV} (hi:(P.info? t').map (·.size)=some s) (hf:∀ x,(f x).length=sz) (hx:Bg ⟨t,m⟩ x=.s (.one (.ap p n (i*sz+o)))) (hy:Bg ⟨t,m⟩ y=.s v) (hm:m[p]? = some (.arr e sz k cs)) (hcs:cs=xs.flatMap f) (hn:n=xs.length) (hk:k=0)
  (hv:v.cells.length=s) (hpub:∀ l∈v.cells,l.pubd=true) (hu:xs[i]? = some u) (ho:o+s<=sz) (hu':Eu (f u) o v.cells=f u')
  (kk:AWL P c ops Q rest ⟨t,m.set p (.arr e sz k ((xs.set i u').flatMap f))⟩):AWL P c ops Q (⟨none,.store t' x y,ty,pos,af,none⟩::rest) ⟨t,m⟩:=by
 have hil:=(zB.1 hu).1
 refine Amm hi hx hy hm (by rw[hcs,A4 hf,hn]) hv hpub (by omega) ?_ ?_
 ·rw[hcs,A4 hf]
  calc i*sz+o+s<=i*sz+sz:=by omega
   _=(i+1)*sz:=by rw[wJ,wW]
   _<=xs.length*sz:=xV _ hil
 ·have e:Eu cs (i*sz+o) v.cells=(xs.set i u').flatMap f:=by
   rw[hcs,Aps (a:=f u) (by rw[hv,hf];omega) ⟨_,Wo hf hu⟩ hu' (by rw[hf,hf]),Aop hf u' hil]
  rw[e]
  exact kk
theorem Azg {y:Operand} {t' t2 bytes p k mm:Nat} {ys:List Lf} {xs us:List α} {yv yv':SV} {m':List Blk} (hd:decide (d<c.nt)=true) (si:P.underlying t'=some (.slice e)) (ei:EI P e sz bytes zl) (h2:NI P t2) (hf:∀ x,(f x).length=sz) (hx:Bg ⟨t,m⟩ x=.s (.one (.ls p n))) (hy:Bg ⟨t,m⟩ y=.s yv)
  (hp:Aif m yv yv' m') (hm:m'[p]? = some (.arr e sz k cs)) (hcs:cs=xs.flatMap f) (hn:n=xs.length) (hsrc:Aji P yv' sz mm ys) (hys:ys=us.flatMap f) (hmm:mm=us.length) (hb:(xs.length+us.length)*bytes<=140737488355328) (hbp:0<bytes)
  (kk:AWL P c ops Q rest ⟨upd t d (.s (.one (.ls p (xs++us).length))),m'.set p (.arr e sz k ((xs++us).flatMap f))⟩) :
  AWL P c ops Q (⟨some d,.call { callee:=.builtin .append,args:=#[x,y],argTypes:=#[t',t2] },ty,pos,af,none⟩::rest) ⟨t,m⟩:=by
 subst hcs hn hys hmm
 refine A22 hd si ei h2 hx hy hp hm (A4 hf xs).symm hsrc ?_ hb ?_
 ·have:xs.length+us.length<=(xs.length+us.length)*bytes:=jC _ hbp
  simp only[maxLen];omega
 ·rw[<- kW,<- zI]
  exact kk
theorem Atr {z:α} (hz:f z=zl) (hf:∀ x,(f x).length=sz) (n:Nat):Agy zl (n*sz)=(List.replicate n z).flatMap f:=by
 subst hz
 apply wA
 intro j
 by_cases hs:sz=0
 ·have h1:(Agy (f z) (n*sz)).length=0:=by rw[J2,hs,Nat.mul_zero]
  have h2:((List.replicate n z).flatMap f).length=0:=by rw[A4 hf,hs,Nat.mul_zero]
  rw[yE h1,yE h2]
 have hsp:0<sz:=Nat.pos_of_ne_zero hs
 by_cases hj:j<n*sz
 ·have hq:j / sz<n:=Nat.div_lt_of_lt_mul (by rw[Nat.mul_comm];exact hj)
  have h1:(Agy (f z) (n*sz))[j]? = some ((f z).getD (j % sz) default):=by
   unfold Agy
   rw[zK,jQ hj,hf];rfl
  have hr:(List.replicate n z)[j / sz]? = some z:=by rw[List.getElem?_replicate,if_pos hq]
  have h2:=Wo hf hr
  have h3:((List.replicate n z).flatMap f)[j]? = (f z)[j % sz]? := by
   have e:j=j / sz*sz+j % sz:=by rw[Nat.mul_comm];exact(Nat.div_add_mod j sz).symm
   conv=>lhs;rw[e]
   rw[<- yP,h2,zL (by rw[hf];exact Nat.mod_lt _ hsp)]
  have hlt:j % sz<(f z).length:=by rw[hf];exact Nat.mod_lt _ hsp
  rw[h1,h3,zC hlt]
  simp [List.getD,zC hlt]
 ·rw[zZ (by rw[J2];omega),zZ (by rw[A4 hf];simpa using hj)]
end
open Go.RowKit
def eU8 (b:UInt8):List Lf:=[.i .u8 (b.toNat:Int)]
def eI (n:Int):List Lf:=[.i .i64 n]
def eB (b:Bool):List Lf:=[.b b]
def eL {α:Type} (f:α->List Lf) (xs:List α):List Lf:=[.sl xs.length (xs.flatMap f)]
theorem Asi (l:List UInt8):bl l=l.flatMap eU8:=A1h l
section
variable {P:Program} {c:Ctx} {st:AS} {ty:TypeId}
theorem Aho {s t e:TypeId} {x:Operand} {n:Nat} {cs:List Lf} {l:List UInt8} (hs:P.underlying s=some (.slice e)) (he:P.underlying e=some (.int .u8)) (ht:P.underlying t=some .string) (hx:Bg st x=.s (.one (.sl n cs))) (hn:n=l.length) (hcs:cs=l.flatMap eU8) :
  OpV P c st (.convert s t x) ty (.s (.one (.s ⟨l.toArray⟩))):=by
 subst hn;rw[<- Asi] at hcs;subst hcs
 exact Anh hs he ht hx
theorem Axa {f:FuncId} {x y:Operand} {ats:Array TypeId} {n m:Nat} {cs cs':List Lf} {a b:List UInt8} (xi:XI P f Extern.BytealgCompare.compare) (hx:Bg st x=.s (.one (.sl n cs))) (hn:n=a.length) (hcs:cs=a.flatMap eU8) (hy:Bg st y=.s (.one (.sl m cs'))) (hm:m=b.length) (hcs':cs'=b.flatMap eU8) :
  OpV P c st (.call { callee:=.value (.func f),args:=#[x,y],argTypes:=ats }) ty (.s (.one (.i .i64 (Ce a b)))):=by
 subst hn hm;rw[<- Asi] at hcs hcs';subst hcs hcs'
 exact A17 xi hx hy
theorem Atp {xt yt:TypeId} {x y:Operand} {p q:List UInt8} (hx:Bg st x=.s (.one (.s ⟨p.toArray⟩))) (hy:Bg st y=.s (.one (.s ⟨q.toArray⟩))):OpV P c st (.binOp .eql xt x y yt) ty (.s (.one (.b (p==q)))):=by
 have:=Axh (P:=P) (c:=c) (xt:=xt) (yt:=yt) (ty:=ty) hx hy
 have e:∀ l:List UInt8,(ByteArray.mk l.toArray).toList=l:=λl=>by rw[ByteArray.toList_eq]
 simpa [e] using this
theorem Au4 {xt yt:TypeId} {x y:Operand} {p q:List UInt8} (hx:Bg st x=.s (.one (.s ⟨p.toArray⟩))) (hy:Bg st y=.s (.one (.s ⟨q.toArray⟩))):OpV P c st (.binOp .neq xt x y yt) ty (.s (.one (.b (!(p==q))))):=by
 have:=Awm (P:=P) (c:=c) (xt:=xt) (yt:=yt) (ty:=ty) hx hy
 have e:∀ l:List UInt8,(ByteArray.mk l.toArray).toList=l:=λl=>by rw[ByteArray.toList_eq]
 simpa [e] using this
end
open Go.RowKit
section
variable {P:Program} {c:Ctx} {st:AS} {ty:TypeId} {α:Type} {f:α->List Lf} {sz:Nat}
theorem D9 {t s:Nat} {x:Operand} {l:Lf} {cs ys:List Lf} (ti:TI P t true s) (hx:Bg st x=.s (.one l)) (hp:Ady st l cs) (he:cs.take s=ys) (hs:s=ys.length):OpV P c st (.load t x) ty (.s (.agg ys)):=by
 have:=Rb (P:=P) (c:=c) (ty:=ty) ti hx hp (by rw[<- he,zR] at hs;omega)
 rwa [he] at this
theorem A00 {k:IntKind} {n:Int} {x:Operand} {xt:TypeId} (hx:Bg st x=.s (.one (.i k n))):OpV P c st (.unOp .neg xt x) ty (.s (.one (.i k (k.wrap (-n))))):=by
 intro a w S H r
 have h1:=Ax r x
 rw[hx] at h1
 have e1:a.eval x=.int k n:=T4 h1
 exact⟨_,D4 (.i _ _),λ_ _ _ _=>by simp [execOp,e1,Op.unary,Op.intArith]⟩
end
open Go.RowKit
section
variable {P:Program} {c:Ctx} {st:AS} {ty:TypeId} {k:IntKind} {n m:Int} {x y:Operand} {xt yt:TypeId}
theorem Ayw (hx:Bg st x=.s (.one (.i k n))) (hy:Bg st y=.s (.one (.i k m))) (h0:m≠0):OpV P c st (.binOp .quo xt x y yt) ty (.s (.one (.i k (k.wrap (n.tdiv m))))) :=
 Hq (u:=.int k n) (u':=.int k m) (z:=.int k (k.wrap (n.tdiv m))) hx hy rfl rfl (λw=>by
  simp [eqGuard,binOp,Op.intDiv,h0]) rfl rfl
end
end
open Go.RowKit
section
variable {k:(Nat->AV)->Prop} {x:AV} {listed:Array Bool} {ops:Array Oper} {b want:Bool} {all:List (List Blk)} {M last md:List Blk} {es:List Nat} {l:List Oper} {i j:Nat} {p:Nat->Bool} {o:Oper} {dj:Tmp}
def Af8 (acc:List Nat) (after:List Edge):Nat:=after.foldl (λs e=>if Region.binds .any e then s ||| (1 <<< e.on) ||| acc.getD e.on 0 else s) 0
def Md:List Oper->List Nat->List Nat
  | [],acc=>acc
  | o::r,acc=>Md r (acc++[Af8 acc o.after.toList])
theorem Ahs {acc:List Nat} {after:List Edge} (h:(Af8 acc after).testBit j=true):∃ e∈after,Region.binds .any e=true/\(e.on=j\/(acc.getD e.on 0).testBit j=true):=by
  have key:∀ (l:List Edge) (s:Nat),(l.foldl (λs e=>if Region.binds .any e then s ||| (1 <<< e.on) ||| acc.getD e.on 0 else s) s).testBit j=true ->
      s.testBit j=true\/∃ e∈l,Region.binds .any e=true/\(e.on=j\/(acc.getD e.on 0).testBit j=true):=by
    intro l
    induction l with
    | nil=>intro s h;exact .inl h
    | cons e l ih =>
      intro s h
      rw[w8] at h
      rcases ih _ h with h|⟨e',he,h⟩
      · cases hb:Region.binds .any e with
        | false=>rw[hb] at h;exact .inl h
        | true =>
          rw[hb,if_pos rfl,Nat.testBit_or,Nat.testBit_or,kO,kO] at h
          rcases h with(h|h)|h
          · exact .inl h
          · refine .inr ⟨e,yQ ..,hb,.inl ?_⟩
            rw[Nat.one_shiftLeft,Nat.testBit_two_pow] at h
            exact of_decide_eq_true h
          · exact .inr ⟨e,yQ ..,hb,.inr h⟩
      · exact .inr ⟨e',yH _ he,h⟩
  rcases key after 0 h with h|h
  · simp at h
  · exact h
def U9 (ops:Array Oper) (listed:Array Bool):Prop:=∀ (i:Nat) (o:Oper),ops[i]? = some o->listed.getD i false=true->Met listed o
theorem Acp:∀ (l:List Oper) (acc:List Nat) (i:Nat),i<acc.length->(Md l acc).getD i 0=acc.getD i 0
  | [],acc,i,_=>rfl
  | o::r,acc,i,h=>by
    rw[Md,Acp r _ i (by simp;omega)]
    simp [List.getD,zL h]
theorem Aa9 (hc:U9 ops listed):∀ (l:List Oper) (acc:List Nat),(∀ i o,l[i]? = some o->ops[acc.length+i]? = some o) ->
    (∀ i,i<acc.length->listed.getD i false=true->∀ j,(acc.getD i 0).testBit j=true->listed.getD j false=true) ->
    ∀ i,listed.getD i false=true->∀ j,((Md l acc).getD i 0).testBit j=true->listed.getD j false=true
  | [],acc,_,hp,i,hi,j,hj=>by
    by_cases h:i<acc.length
    · exact hp i h hi j hj
    · rw[Md] at hj
      simp [List.getD,zZ (by omega:acc.length<=i)] at hj
  | o::r,acc,ho,hp,i,hi,j,hj=>by
    refine Aa9 hc r (acc++[Af8 acc o.after.toList]) (λi' o' h=>?_) (λi' h' hl j' hj'=>?_) i hi j hj
    · have:=ho (i'+1) o' (by simpa using h)
      rw[<- this]
      congr 1
      simp;omega
    · simp only[zI,yD] at h'
      by_cases h:i'<acc.length
      · have e:(acc++[Af8 acc o.after.toList]).getD i' 0=acc.getD i' 0:=by simp [List.getD,zL h]
        rw[e] at hj'
        exact hp i' h hl j' hj'
      · have e0:i'=acc.length:=by omega
        have e:(acc++[Af8 acc o.after.toList]).getD i' 0=Af8 acc o.after.toList:=by simp [List.getD,e0]
        rw[e] at hj'
        obtain⟨ed,hed,hb,h1⟩:=Ahs hj'
        have hm:=hc i' o (by have:=ho 0 o rfl;rw[e0];exact this) hl
        have hon:=hm ed (by simpa using hed) hb
        rcases h1 with h1|h1
        · rw[<- h1];exact hon
        · by_cases h2:ed.on<acc.length
          · exact hp ed.on h2 hon j' h1
          · simp [List.getD,zZ (by omega:acc.length<=ed.on)] at h1
theorem Ae0 (hc:U9 ops listed) (ho:ops[i]? = some o) (hm:Met listed o) (hj:((Md ops.toList []).getD i 0).testBit j=true):listed.getD j false=true:=by
  have hil:i<ops.toList.length:=by have:=(yC.1 ho).1;simpa using this
  have key:∀ (l:List Oper) (acc:List Nat) (k:Nat),acc.length+k=i->l[k]? = some o->∃ acc',(Md l acc).getD i 0=Af8 acc' o.after.toList/\∀ q,q<acc'.length->(Md l acc).getD q 0=acc'.getD q 0:=by
    intro l
    induction l with
    | nil=>intro acc k _ h;simp at h
    | cons o' r ih =>
      intro acc k hk h
      cases k with
      | zero =>
        simp only[yV,z2] at h
        subst h
        refine⟨acc,?_,λq hq=>?_⟩
        · rw[Md,Acp r _ i (by simp;omega)]
          simp [List.getD,show i=acc.length by omega]
        · rw[Md,Acp r _ q (by simp;omega)]
          simp [List.getD,zL hq]
      | succ k=>exact ih _ k (by simp;omega) (by simpa using h)
  obtain⟨acc',h1,h2⟩:=key ops.toList [] i (by simp) (by simpa using ho)
  rw[h1] at hj
  obtain⟨ed,hed,hb,h3⟩:=Ahs hj
  have hon:=hm ed (by simpa using hed) hb
  rcases h3 with h3|h3
  · rw[<- h3];exact hon
  · by_cases hq:ed.on<acc'.length
    · refine Aa9 hc ops.toList [] (λi o h=>by simpa using h) (λi h=>by simp at h) ed.on hon j ?_
      rw[h2 _ hq];exact h3
    · simp [List.getD,zZ (by omega:acc'.length<=ed.on)] at h3
def mix (T:Nat->AV) (L:List Nat) (ζ:Nat->AV):Nat->AV:=λj=>cond (L.contains j) (T j) (ζ j)
def Xs (ws:List Nat) (es:List Nat) (i j:Nat):Bool:=(es.take j).all (λe=>(ws.getD i 0).testBit e)&&(es.drop j).all (λe=>e==i||(ws.getD e 0).testBit i)
def W8 (ops:Array Oper):Bool :=
  (List.range ops.size).all λi=>match ops[i]? with
    | none=>false
    | some o=>o.after.all (λe=>!Region.binds .any e||decide (e.on<i))&&(List.range ops.size).all (λj=>match ops[j]? with
        | none=>false
        | some p=>match p.dst with
            | none=>true
            | some d=>(decide (i=j) || !(o.dst==p.dst))&&(!(o.looksAt ops).contains d||o.after.any (λe=>e.on==j&&Region.binds .any e)))
theorem Ah4 (h:W8 ops=true):Zw ops:=by
  have hget:∀ (i:Nat) (o:Oper),ops[i]? = some o->(∀ e∈o.after,(!Region.binds .any e||decide (e.on<i))=true)/\∀ (j:Nat) (p:Oper),ops[j]? = some p->∀ d,p.dst=some d->((decide (i=j) || !(o.dst==p.dst))&&(!(o.looksAt ops).contains d||o.after.any (λe=>e.on==j&&Region.binds .any e)))=true:=by
    intro i o ho
    have hi:i<ops.size:=(yC.1 ho).1
    have h1:=zJ.1 h i (w6.2 hi)
    simp only[ho,zG] at h1
    refine⟨λe he=>by have:=h1.1;rw[w9] at this;exact this e he,λj p hp d hd=>?_⟩
    have hj:j<ops.size:=(yC.1 hp).1
    have h2:=zJ.1 h1.2 j (w6.2 hj)
    simp only[hp,hd] at h2
    rw[hd]
    exact h2
  refine⟨λi o ho e he hb=>?_,λi o j p ho hp hij d hd hpd=>?_,λi o j p d ho hp hpd hl=>?_⟩
  · have:=(hget i o ho).1 e he
    rw[hb] at this
    simpa using this
  · have:=(hget i o ho).2 j p hp d hpd
    rw[hd,hpd] at this
    simp [hij] at this
  · have:=(hget i o ho).2 j p hp d hpd
    simp only[zG,kO,xQ] at this
    rcases this.2 with h|h
    · have hc:(o.looksAt ops).contains d=true:=by simpa using hl
      rw[h] at hc;cases hc
    · rw[Array.any_eq_true] at h
      obtain⟨k,hk,h⟩:=h
      simp only[zG,beq_iff_eq] at h
      exact⟨_,Array.getElem_mem hk,h.1,h.2⟩
section
variable {P:Program} {c:Ctx} {t:Nat->AV} {m:List Blk} {Q:Exit->AS->Prop}
def A0t (P:Program) (c:Ctx) (ops:Array Oper) (T:Nat->AV) (M M':List Blk) (o:Oper) (x:AV):Prop :=
  ∀ ζ,AWL P c ops (λe st=>e=.normal/\st=⟨(match o.dst with|some d=>upd (mix T (o.looksAt ops) ζ) d x|none=>mix T (o.looksAt ops) ζ),M'⟩) [{ o with guard:=none }] ⟨mix T (o.looksAt ops) ζ,M⟩
def Avp (P:Program) (c:Ctx) (ops:Array Oper) (ws es:List Nat) (all:List (List Blk)) (i:Nat) (t:Nat->AV) (o:Oper) (x:AV):Prop :=
  (∃ md,Aah P c md ops t o x/\((∃ j,Xs ws es i j=true/\all[j]? = some md)\/∀ M∈all,Al6 md M))\/∀ M∈all,Aah P c M ops t o x
theorem Avp.congr {ws:List Nat} {t t':Nat->AV} (h:Avp P c ops ws es all i t o x) (ht:∀ y∈o.looksAt ops,t y=t' y):Avp P c ops ws es all i t' o x:=by
  rcases h with⟨md,h1,h2⟩|h
  · exact .inl ⟨md,h1.congr ht,h2⟩
  · exact .inr λM hM=>(h M hM).congr ht
def DE (P:Program) (c:Ctx) (ops:Array Oper) (ws es:List Nat) (all:List (List Blk)) (k:(Nat->AV)->Prop):Nat->List (List Blk)->List Oper->(Nat->AV)->Prop
  | _,Ms,[],t=>Ms.length=1/\k t
  | i,Ms,o::rest,t =>
    (es.contains i=false/\∃ x d,o.dst=some d/\d<c.nt/\Avp P c ops ws es all i t o x/\DE P c ops ws es all k (i+1) Ms rest (upd t d x)) \/
    (∃ j M M' Ms' x,es[j]? = some i/\Xs ws es i j=true/\all[j]? = some M/\all[j+1]? = some M'/\Ms=M::M'::Ms'/\Awf ops t o/\A0t P c ops t M M' o x/\(∀ d,o.dst=some d->d<c.nt) /\
      DE P c ops ws es all k (i+1) (M'::Ms') rest (match o.dst with|some d=>upd t d x|none=>t))
theorem Av1 {T T':Nat->AV} {L:List Nat} (h:∀ x∈L,T x=T' x) (ζ:Nat->AV):mix T L ζ=mix T' L ζ:=by
  funext j
  unfold mix
  cases hc:L.contains j with
  | false=>rfl
  | true=>exact h j (by simpa using hc)
theorem Awf.congr {t t':Nat->AV} (h:Awf ops t o) (ht:∀ y∈o.looksAt ops,t y=t' y):Awf ops t' o:=by
  rcases h with h|⟨j,want,dj,h1,h2,h3⟩
  · exact .inl h
  · exact .inr ⟨j,want,dj,h1,h2,by rw[<- ht dj (D7 h1 h2)];exact h3⟩
theorem A0t.congr {t t':Nat->AV} {M':List Blk} (h:A0t P c ops t M M' o x) (ht:∀ y∈o.looksAt ops,t y=t' y):A0t P c ops t' M M' o x:=by
  intro ζ
  have:=h ζ
  rwa [Av1 ht ζ] at this
theorem DE.get {ws:List Nat}:∀ {l:List Oper} {i:Nat} {Ms:List (List Blk)} {t:Nat->AV},DE P c ops ws es all k i Ms l t->(K6 l).Nodup->(∀ (q:Nat) (o:Oper),l[q]? = some o->∀ y∈o.looksAt ops,y∉K6 (l.drop q)) ->
    ∃ T,k T/\(∀ y,y∉K6 l->T y=t y)/\∀ (q:Nat) (o:Oper),l[q]? = some o ->
      (es.contains (i+q)=false/\∃ d,o.dst=some d/\d<c.nt/\Avp P c ops ws es all (i+q) T o (T d)) \/
      (∃ j M M' x,es[j]? = some (i+q)/\Xs ws es (i+q) j=true/\all[j]? = some M/\all[j+1]? = some M'/\Awf ops T o/\A0t P c ops T M M' o x/\∀ d,o.dst=some d->d<c.nt/\T d=x)
  | [],i,Ms,t,h,_,_=>⟨t,h.2,λ_ _=>rfl,λq o h=>by simp at h⟩
  | o::rest,i,Ms,t,h,hnd,hl=>by
    have hlook:∀ y∈o.looksAt ops,y∉K6 (o::rest):=λy hy=>by simpa using hl 0 o rfl y hy
    have hlt:∀ (q:Nat) (o':Oper),rest[q]? = some o'->∀ y∈o'.looksAt ops,y∉K6 (rest.drop q):=λq o' h' y hy=>by
      have:=hl (q+1) o' (by simpa using h') y hy
      simpa using this
    rcases h with⟨hne,x,d,hd,hdn,hg,hr⟩|⟨j,M,M',Ms',x,h1,h2,h3,h4,h5,h6,h7,h8,hr⟩
    · have hds:K6 (o::rest)=d::K6 rest:=by simp [K6,hd]
      rw[hds] at hnd hlook
      have hnd':=wE.1 hnd
      obtain⟨T,hk,hT,hG⟩:=DE.get hr hnd'.2 hlt
      have hTl:∀ y∈o.looksAt ops,t y=T y:=λy hy=>by
        have:=hlook y hy
        simp only[yB,not_or] at this
        rw[hT y this.2,Et,if_neg this.1]
      have hTd:T d=x:=by rw[hT d hnd'.1,Et,if_pos rfl]
      refine⟨T,hk,λy hy=>?_,λq o' h'=>?_⟩
      · rw[hds] at hy
        simp only[yB,not_or] at hy
        rw[hT y hy.2,Et,if_neg hy.1]
      · cases q with
        | zero =>
          simp only[yV,z2] at h'
          subst h'
          exact .inl ⟨hne,d,hd,hdn,by rw[hTd];exact hg.congr hTl⟩
        | succ q =>
          have:=hG q o' (by simpa using h')
          rw[show i+1+q=i+(q+1) by omega] at this
          exact this
    · cases hd:o.dst with
      | none =>
        have hds:K6 (o::rest)=K6 rest:=by simp [K6,hd]
        rw[hds] at hnd hlook
        rw[hd] at hr
        obtain⟨T,hk,hT,hG⟩:=DE.get hr hnd hlt
        have hTl:∀ y∈o.looksAt ops,t y=T y:=λy hy=>(hT y (hlook y hy)).symm
        refine⟨T,hk,λy hy=>hT y (by rw[hds] at hy;exact hy),λq o' h'=>?_⟩
        cases q with
        | zero =>
          simp only[yV,z2] at h'
          subst h'
          exact .inr ⟨j,M,M',x,h1,h2,h3,h4,h6.congr hTl,h7.congr hTl,λd h=>by rw[hd] at h;cases h⟩
        | succ q =>
          have:=hG q o' (by simpa using h')
          rw[show i+1+q=i+(q+1) by omega] at this
          exact this
      | some d =>
        have hds:K6 (o::rest)=d::K6 rest:=by simp [K6,hd]
        rw[hds] at hnd hlook
        have hnd':=wE.1 hnd
        rw[hd] at hr
        obtain⟨T,hk,hT0,hG⟩:=DE.get hr hnd'.2 hlt
        have hT:∀ y,y∉K6 rest->T y=upd t d x y:=hT0
        have hTl:∀ y∈o.looksAt ops,t y=T y:=λy hy=>by
          have:=hlook y hy
          simp only[yB,not_or] at this
          rw[hT y this.2,Et,if_neg this.1]
        have hTd:T d=x:=by rw[hT d hnd'.1,Et,if_pos rfl]
        refine⟨T,hk,λy hy=>?_,λq o' h'=>?_⟩
        · rw[hds] at hy
          simp only[yB,not_or] at hy
          rw[hT y hy.2,Et,if_neg hy.1]
        · cases q with
          | zero =>
            simp only[yV,z2] at h'
            subst h'
            refine .inr ⟨j,M,M',x,h1,h2,h3,h4,h6.congr hTl,h7.congr hTl,λd' h=>?_⟩
            rw[hd] at h
            cases h
            exact⟨h8 d hd,hTd⟩
          | succ q =>
            have:=hG q o' (by simpa using h')
            rw[show i+1+q=i+(q+1) by omega] at this
            exact this
theorem Amw {a:Act} {w:World} {K K':Act->World->Prop} {Q Q':Exit->Act->World->Prop} (h:∀ a w,K a w->K' a w) (hq:∀ e a w,e≠.normal->Q e a w->Q' e a w) (hh:o.wp P a w K Q):o.wp P a w K' Q':=by
  unfold Oper.wp at *
  generalize (execOp a.eval o).run P w=r at *
  cases r with
  | ok n w' =>
    cases n <;> simp only[Oper.upon] at hh ⊢ <;>
      first
        | exact h _ _ hh
        | exact Calls.mono hh (λe w'' he=>by cases e <;> first | exact h _ _ he | exact hq _ _ _ (by simp) he | exact he.imp λ_ he=>he.imp λ_ he=>hq _ _ _ (by simp) he)
        | exact Rows.mono hh (λ_ _ he=>h _ _ he)
        | exact hq _ _ _ (by simp) hh
        | exact hh.imp λ_ he=>he.imp λ_ he=>hq _ _ _ (by simp) he
        | exact hh
  | halt x w'=>cases x <;> simp only[Oper.upon] at hh ⊢ <;> first | exact hq _ _ _ (by simp) hh | exact hh.imp λ_ he=>he.imp λ_ he=>hq _ _ _ (by simp) he | exact hh
theorem Al6.refl (m:List Blk):Al6 m m:=⟨rfl,λ_ _ h=>.inr h,λ_ _ _ _ _ h=>h⟩
theorem Met.set (h:Met listed o):Met (listed.setIfInBounds i true) o:=by
  intro e he hb
  have:=h e he hb
  simp only[zH,kX] at this ⊢
  split
  · split <;> simp_all
  · exact this
theorem U9.set (h:U9 ops listed) (ho:ops[i]? = some o) (hm:Met listed o):U9 ops (listed.setIfInBounds i true):=by
  intro a oa ha hl
  by_cases e:a=i
  · subst e
    rw[ho] at ha
    cases ha
    exact hm.set
  · have:(listed.setIfInBounds i true).getD a false=listed.getD a false:=by
      simp only[zH,kX]
      rw[if_neg (λe'=>e e'.symm)]
    rw[this] at hl
    exact(h a oa ha hl).set
theorem Ade (hj:j<=es.length) (h1:∀ e∈es.take j,p e=true) (h2:∀ e∈es.drop j,p e=false):es.countP p=j:=by
  conv=>lhs;rw[<- xP j es]
  rw[List.countP_append,List.countP_eq_length.2 h1,List.countP_eq_zero.2 (λe he=>by rw[h2 e he];simp),zR]
  omega
theorem Axj (es ws:List Nat) (all:List (List Blk)) (hws:Md l []=ws) (hok:W8 l.toArray=true) (hnd:es.Nodup) (hes:(es.all λe=>decide (e<l.length))=true) (hall:all.length=es.length+1) (h0:all[0]? = some m) (hlast:all[es.length]? = some last)
    (h:DE P c l.toArray ws es all (λT=>Q .normal ⟨T,last⟩) 0 all l t):AWD P c Q l ⟨t,m⟩:=by
  subst hws
  have ok:=Ah4 hok
  have hdn:(K6 l).Nodup:=by
    have key:∀ (k:List Oper) (n:Nat),(∀ i o,k[i]? = some o->l[n+i]? = some o)->(K6 k).Nodup:=by
      intro k
      induction k with
      | nil=>intro n _;exact kM
      | cons o r ih =>
        intro n hk
        have ih':=ih (n+1) (λi o' h'=>by have:=hk (i+1) o' (by simpa using h');rw[<- this];congr 1;omega)
        cases hd:o.dst with
        | none=>simpa [K6,hd] using ih'
        | some d =>
          have hds:K6 (o::r)=d::K6 r:=by simp [K6,hd]
          rw[hds]
          refine wE.2 ⟨λhmem=>?_,ih'⟩
          unfold K6 at hmem
          rw[kC] at hmem
          obtain⟨p,hp,hpd⟩:=hmem
          obtain⟨q,hq,hqp⟩:=y9 hp
          have h1:=hk 0 o rfl
          have h2:=hk (q+1) p (by simp [hq,hqp])
          exact ok.ne n o (n+(q+1)) p (by simpa using h1) (by simpa using h2) (by omega) d hd hpd
    exact key l 0 (λi o h=>by simpa using h)
  obtain⟨T,hQ,hTt,hG⟩:=DE.get h hdn (A5y ok)
  let B:Array Bool->List Blk:=λlisted=>all.getD (es.countP λe=>listed.getD e false) []
  let HI:Array Bool->(Nat->Value)->Prop:=λlisted _=>U9 l.toArray listed
  have hws:∀ {listed:Array Bool},U9 l.toArray listed->∀ i,listed.getD i false=true->∀ j,((Md l []).getD i 0).testBit j=true->listed.getD j false=true:=λhc =>
    Aa9 hc l [] (λi o h=>by simpa using h) (λi h=>by simp at h)
  have hBj:∀ {j:Nat} {M:List Blk},all[j]? = some M->j<=es.length:=λh=>by
    have:=(zB.1 h).1;omega
  have huf:∀ {listed:Array Bool} {i:Nat},listed.size=l.toArray.size->i<l.length->listed.getD i true=false->listed.getD i false=false:=by
    intro listed i hs hi h
    simp only[zH] at h ⊢
    rw[z9 (by rw[hs];simpa using hi)] at h ⊢
    exact h
  have exact_:∀ {listed:Array Bool} {i j:Nat} {o:Oper} {M:List Blk},U9 l.toArray listed->l[i]? = some o->Met listed o->listed.getD i false=false->Xs (Md l []) es i j=true->all[j]? = some M->es.countP (λe=>listed.getD e false)=j:=by
    intro listed i j o M hc ho hmt hun hx hM
    unfold Xs at hx
    rw[zG,zJ,zJ] at hx
    refine Ade (hBj hM) (λe he=>?_) (λe he=>?_)
    · have:=Ae0 (ops:=l.toArray) hc (i:=i) (o:=o) (by simpa using ho) hmt (j:=e) (by simpa using hx.1 e he)
      exact this
    · have:=hx.2 e he
      rw[kO] at this
      cases hle:listed.getD e false with
      | false=>rfl
      | true =>
        rcases this with h|h
        · have e1:e=i:=by simpa using h
          rw[e1,hun] at hle;cases hle
        · have:=hws hc e hle i h
          rw[hun] at this;cases this
  have hBsame:∀ {listed:Array Bool} {i:Nat},es.contains i=false->B (listed.setIfInBounds i true)=B listed:=by
    intro listed i hi
    show all.getD _ []=all.getD _ []
    congr 1
    refine List.countP_congr λe he=>?_
    have : i ≠ e := fun e' => by subst e'; have : es.contains i = true := by simpa using he
                                 rw[hi] at this;cases this
    simp only[zH,xL this]
  have hlk:∀ {i:Nat} {o:Oper},l.toArray[i]? = some o->l[i]? = some o/\i<l.length:=λ{i o} h=>by
    have h':l[i]? = some o:=by simpa using h
    exact⟨h',(zB.1 h').1⟩
  refine Alh (T:=T) (B:=B) (HI:=HI) ok (λi o ho=>?_) hTt (λa w S H r=>⟨H,?_,?_⟩) (λlisted hs hl=>?_)
  · obtain⟨ho',hil⟩:=hlk ho
    rcases hG i o ho' with⟨hne,d,hd,hdn,hg⟩|⟨j,M,M',x,h1,h2,h3,h4,h5,h6,h7⟩
    · rw[yT] at hne hg
      refine .inl λlisted H hs hun hmt hc=>?_
      have hBmem:B listed∈all:=by
        have hle:es.countP (λe=>listed.getD e false)<all.length:=by have:=zAc (p:=λe=>listed.getD e false) (l:=es);omega
        show all.getD (es.countP λe=>listed.getD e false) []∈all
        simp only[List.getD,zC hle,yS]
        exact yW hle
      rcases hg with⟨md,hg,hmd⟩|hg
      · refine⟨md,⟨d,hd,hdn,hg⟩,?_,hBsame hne,hc.set ho hmt⟩
        rcases hmd with⟨j,hx,hM⟩|hmd
        · have:=exact_ hc ho' hmt (huf hs hil hun) hx hM
          show Al6 md (all.getD (es.countP λe=>listed.getD e false) [])
          rw[this]
          simp only[List.getD,hM,yS]
          exact Al6.refl md
        · exact hmd _ hBmem
      · exact⟨B listed,⟨d,hd,hdn,hg _ hBmem⟩,Al6.refl _,hBsame hne,hc.set ho hmt⟩
    · rw[yT] at h1 h2
      refine .inr ⟨h5,λlisted hs hun hmt a w S H r hc K Qn hK=>?_⟩
      have hcnt:=exact_ hc ho' hmt (huf hs hil hun) h2 h3
      have hcnt':es.countP (λe=>(listed.setIfInBounds i true).getD e false)=j+1:=by
        have hjl:=(zB.1 h1).1
        have hje:=(zB.1 h1).2
        have hx:=h2
        unfold Xs at hx
        rw[zG,zJ,zJ] at hx
        refine Ade (by omega) (λe he=>?_) (λe he=>?_)
        · by_cases hei:e=i
          · subst hei
            simp only[zH]
            rw[wB (by rw[hs];simpa using hil)];rfl
          · have hmem:e∈es.take j:=by
              rw[List.take_add_one,yG] at he
              rcases he with he|he
              · exact he
              · rw[h1] at he;simp at he;exact absurd he hei
            have:=Ae0 (ops:=l.toArray) hc (i:=i) (o:=o) ho hmt (j:=e) (by simpa using hx.1 e hmem)
            simp only[zH,xL (λe'=>hei e'.symm)] at this ⊢
            exact this
        · have hei:e≠i:=by
            intro e'
            subst e'
            obtain⟨q,hq,hqe⟩:=y9 he
            rw[List.getElem_drop] at hqe
            have:=(List.getElem_inj hnd).1 (hqe.trans hje.symm)
            omega
          have hd':e∈es.drop j:=by
            rw[<- kL] at he
            exact zAf he
          have:=hx.2 e hd'
          rw[kO] at this
          simp only[zH,xL (λe'=>hei e'.symm)]
          cases hle:listed.getD e false with
          | false=>simpa [zH] using hle
          | true =>
            rcases this with h|h
            · exact absurd (by simpa using h) hei
            · have h9:=hws hc e hle i h
              rw[huf hs hil hun] at h9;cases h9
      have hB1:B listed=M:=by show all.getD _ []=M;rw[hcnt];simp [List.getD,h3]
      have hB2:B (listed.setIfInBounds i true)=M':=by show all.getD _ []=M';rw[hcnt'];simp [List.getD,h4]
      have hlook:=Am8 (T:=T) ok hs ho hmt
      have hmix:mix T (o.looksAt l.toArray) (TL l.toArray T listed)=TL l.toArray T listed:=by
        funext y
        unfold mix
        cases hc':(o.looksAt l.toArray).contains y with
        | false=>rfl
        | true=>exact(hlook y (by simpa using hc')).symm
      have heff:=h6 (TL l.toArray T listed)
      rw[hmix] at heff
      rw[hB1] at r
      have hw:=heff a w S H r
      unfold wpList at hw
      rw[if_pos (by rfl)] at hw
      rcases hw with hw|⟨_,a',w',st',S',H',_,he,_⟩
      · refine Amw (P:=P) (o:=o) ?_ ?_ (show o.wp P a w _ _ from hw)
        · rintro a' w' ⟨st',S',H',r',_,rfl⟩
          refine hK a' w' S' H' ?_ (hc.set ho hmt)
          rw[hB2]
          cases hd:o.dst with
          | none =>
            rw[hd] at r'
            rw[<- Agb ho hd]
            exact r'
          | some d =>
            rw[hd] at r'
            rw[<- Asy (T:=T) ok hs ho hun hd,(h7 d hd).2]
            exact r'
        · rintro e a' w' hne ⟨st',S',H',r',he,_⟩
          exact absurd he hne
      · cases he
  · have:B (Array.replicate l.toArray.size false)=m:=by
      show all.getD _ []=m
      have h9:es.countP (λe=>(Array.replicate l.toArray.size false).getD e false)=0:=by
        refine List.countP_eq_zero.2 λe _=>?_
        simp only[zH,wP]
        split <;> simp
      rw[h9]
      simp [List.getD,h0]
    rw[this]
    exact r
  · intro i o _ hl
    simp only[zH,wP] at hl
    split at hl <;> simp at hl
  · have hin:∀ e∈es,e<l.length:=λe he=>by simpa using zJ.1 hes e he
    have h9:es.countP (λe=>listed.getD e false)=es.length:=by
      refine List.countP_eq_length.2 λe he=>?_
      have h1:=hl e (by simpa using hin e he)
      have h2:e<listed.size:=by rw[hs];simpa using hin e he
      simp only[zH,z9 h2,yS] at h1 ⊢
      exact h1
    have:B listed=last:=by
      show all.getD _ []=last
      rw[h9]
      simp [List.getD,hlast]
    rw[this]
    exact hQ
theorem Ui {id:Nat} (es ws:List Nat) (all:List (List Blk)) (hws:Md l []=ws) (hm:P.follows .mixedOrders=true) (hok:W8 l.toArray=true) (hnd:es.Nodup) (hes:(es.all λe=>decide (e<l.length))=true) (hall:all.length=es.length+1) (h0:all[0]? = some m) (hlast:all[es.length]? = some last)
    (h:DE P c l.toArray ws es all (λT=>Q .normal ⟨T,last⟩) 0 all l t):AWC P c (.region id l.toArray true) Q ⟨t,m⟩:=(Axj es ws all hws hok hnd hes hall h0 hlast h).awc hm
variable {ops:Array Oper} {ws es:List Nat} {all Ms:List (List Blk)} {k:(Nat->AV)->Prop} {rest:List Oper} {op:Op} {ty:TypeId} {pos:String} {af:Array Edge} {d:Tmp} {x:AV} {i:Nat}
def A7o (ws es:List Nat) (all:List (List Blk)) (i:Nat) (md:List Blk):Prop:=(∃ j,Xs ws es i j=true/\all[j]? = some md)\/∀ M∈all,Al6 md M
theorem A6 (j:Nat) (h:Xs ws es i j=true) (hm:all[j]? = some md):A7o ws es all i md:=.inl ⟨j,h,hm⟩
theorem Ax7 (h:k t):DE P c ops ws es all k i [M] [] t:=⟨rfl,h⟩
theorem ev (hs:A7o ws es all i md) (hi:es.contains i=false) (hd:decide (d<c.nt)=true) (h:OpV P c ⟨Ob t (Oper.looksAt ops ⟨some d,op,ty,pos,af,none⟩),md⟩ op ty x) (kk:DE P c ops ws es all k (i+1) Ms rest (upd t d x)):DE P c ops ws es all k i Ms (⟨some d,op,ty,pos,af,none⟩::rest) t :=
  .inl ⟨hi,x,d,rfl,of_decide_eq_true hd,.inl ⟨md,.inl ⟨.inl rfl,h.opD⟩,hs⟩,kk⟩
theorem emv (hi:es.contains i=false) (hd:decide (d<c.nt)=true) (h:∀ md,OpV P c ⟨Ob t (Oper.looksAt ops ⟨some d,op,ty,pos,af,none⟩),md⟩ op ty x) (kk:DE P c ops ws es all k (i+1) Ms rest (upd t d x)):DE P c ops ws es all k i Ms (⟨some d,op,ty,pos,af,none⟩::rest) t :=
  .inl ⟨hi,x,d,rfl,of_decide_eq_true hd,.inr λ_ _=>.inl ⟨.inl rfl,(h _).opD⟩,kk⟩
theorem evg (hs:A7o ws es all i md) (hi:es.contains i=false) (hd:decide (d<c.nt)=true) (hj:(ops[j]?).bind (·.dst)=some dj) (ht:t dj=.s (.one (.b want))) (h:OpV P c ⟨Ob t (Oper.looksAt ops ⟨some d,op,ty,pos,af,some (j,want)⟩),md⟩ op ty x) (kk:DE P c ops ws es all k (i+1) Ms rest (upd t d x)):DE P c ops ws es all k i Ms (⟨some d,op,ty,pos,af,some (j,want)⟩::rest) t :=
  .inl ⟨hi,x,d,rfl,of_decide_eq_true hd,.inl ⟨md,.inl ⟨.inr ⟨j,want,dj,rfl,hj,ht⟩,h.opD⟩,hs⟩,kk⟩
theorem ed (hs:A7o ws es all i md) (hi:es.contains i=false) (hd:decide (d<c.nt)=true) (h:OpD P c ⟨Ob t (Oper.looksAt ops ⟨some d,op,ty,pos,af,none⟩),md⟩ op ty x) (kk:DE P c ops ws es all k (i+1) Ms rest (upd t d x)):DE P c ops ws es all k i Ms (⟨some d,op,ty,pos,af,none⟩::rest) t :=
  .inl ⟨hi,x,d,rfl,of_decide_eq_true hd,.inl ⟨md,.inl ⟨.inl rfl,h⟩,hs⟩,kk⟩
theorem Als (hi:es.contains i=false) (hd:decide (d<c.nt)=true) (hj:(ops[j]?).bind (·.dst)=some dj) (ht:t dj=.s (.one (.b b))) (hb:(b==want)=false) (kk:DE P c ops ws es all k (i+1) Ms rest (upd t d (.tup []))):DE P c ops ws es all k i Ms (⟨some d,op,ty,pos,af,some (j,want)⟩::rest) t :=
  .inl ⟨hi,.tup [],d,rfl,of_decide_eq_true hd,.inr λ_ _=>.inr ⟨⟨j,want,dj,rfl,hj,.inr ⟨b,ht,hb⟩⟩,rfl⟩,kk⟩
theorem A0c (dj:Tmp) (ht:t dj=.s (.one (.b b))) (k1:b=true->DE P c ops ws es all k i Ms l (upd t dj (.s (.one (.b true))))) (k0:b=false->DE P c ops ws es all k i Ms l (upd t dj (.s (.one (.b false))))):DE P c ops ws es all k i Ms l t:=by
  cases b
  · have:=k0 rfl
    rwa [Sj ht] at this
  · have:=k1 rfl
    rwa [Sj ht] at this
theorem ee (j:Nat) {M':List Blk} (he:es[j]? = some i) (hx:Xs ws es i j=true) (h1:all[j]? = some M) (h2:all[j+1]? = some M') (hd:decide (d<c.nt)=true)
    (h:∀ ζ,AWL P c ops (λe st=>e=.normal/\st=⟨upd (mix t (Oper.looksAt ops ⟨some d,op,ty,pos,af,none⟩) ζ) d x,M'⟩) [⟨some d,op,ty,pos,af,none⟩] ⟨mix t (Oper.looksAt ops ⟨some d,op,ty,pos,af,none⟩) ζ,M⟩)
    (kk:DE P c ops ws es all k (i+1) (M'::Ms) rest (upd t d x)):DE P c ops ws es all k i (M::M'::Ms) (⟨some d,op,ty,pos,af,none⟩::rest) t :=
  .inr ⟨j,M,M',Ms,x,he,hx,h1,h2,rfl,.inl rfl,h,λd' h'=>by cases h';exact of_decide_eq_true hd,kk⟩
theorem eeg (j:Nat) {M':List Blk} {jj:Nat} (he:es[j]? = some i) (hx:Xs ws es i j=true) (h1:all[j]? = some M) (h2:all[j+1]? = some M') (hd:decide (d<c.nt)=true) (hj:(ops[jj]?).bind (·.dst)=some dj) (ht:t dj=.s (.one (.b want)))
    (h:∀ ζ,AWL P c ops (λe st=>e=.normal/\st=⟨upd (mix t (Oper.looksAt ops ⟨some d,op,ty,pos,af,some (jj,want)⟩) ζ) d x,M'⟩) [⟨some d,op,ty,pos,af,none⟩] ⟨mix t (Oper.looksAt ops ⟨some d,op,ty,pos,af,some (jj,want)⟩) ζ,M⟩)
    (kk:DE P c ops ws es all k (i+1) (M'::Ms) rest (upd t d x)):DE P c ops ws es all k i (M::M'::Ms) (⟨some d,op,ty,pos,af,some (jj,want)⟩::rest) t :=
  .inr ⟨j,M,M',Ms,x,he,hx,h1,h2,rfl,.inr ⟨jj,want,dj,rfl,hj,ht⟩,h,λd' h'=>by cases h';exact of_decide_eq_true hd,kk⟩
theorem ee0 (j:Nat) {M':List Blk} (he:es[j]? = some i) (hx:Xs ws es i j=true) (h1:all[j]? = some M) (h2:all[j+1]? = some M')
    (h:∀ ζ,AWL P c ops (λe st=>e=.normal/\st=⟨mix t (Oper.looksAt ops ⟨none,op,ty,pos,af,none⟩) ζ,M'⟩) [⟨none,op,ty,pos,af,none⟩] ⟨mix t (Oper.looksAt ops ⟨none,op,ty,pos,af,none⟩) ζ,M⟩)
    (kk:DE P c ops ws es all k (i+1) (M'::Ms) rest t):DE P c ops ws es all k i (M::M'::Ms) (⟨none,op,ty,pos,af,none⟩::rest) t :=
  .inr ⟨j,M,M',Ms,.top,he,hx,h1,h2,rfl,.inl rfl,h,(λd' h'=>by cases h'),kk⟩
theorem Aij {st:AS} {ops':Array Oper}:AWL P c ops' (λe s=>e=.normal/\s=st) [] st:=Ail ⟨rfl,rfl⟩
def Ane:List Blk->List Blk->Prop
  | [],[]=>True
  | .dead::r,b::r'=>(match b with | .arr .. =>False | _=>True)/\Ane r r'
  | a::r,b::r'=>a=b/\Ane r r'
  | _,_=>False
theorem Asm:∀ {md M:List Blk},Ane md M->Al6 md M
  | [],[],_=>Al6.refl []
  | [],_::_,h=>h.elim
  | a::r,[],h=>by cases a <;> exact h.elim
  | a::r,b::r',h=>by
    have h':(a=.dead/\(∀ e sz k cs,b≠.arr e sz k cs)/\Ane r r')\/(a=b/\Ane r r'):=by
      cases a with
      | dead=>exact .inl ⟨rfl,λe sz k cs e'=>by subst e';exact h.1,h.2⟩
      | hole=>exact .inr h
      | obj g mk cs=>exact .inr h
      | tab mk cs=>exact .inr h
      | arn e sz g n cap cs=>exact .inr h
      | box cs=>exact .inr h
      | arr e sz k cs=>exact .inr h
    have ih:=Asm (show Ane r r' by rcases h' with h'|h';exact h'.2.2;exact h'.2)
    refine⟨by simp [ih.len],λp x hx=>?_,λp e sz k cs hx=>?_⟩
    · cases p with
      | zero =>
        simp only[yV,z2] at hx
        subst hx
        rcases h' with h'|h'
        · exact .inl h'.1
        · exact .inr (by simp [h'.1])
      | succ p=>exact ih.at_ p x (by simpa using hx)
    · cases p with
      | zero =>
        simp only[yV,z2] at hx
        rcases h' with h'|h'
        · exact absurd hx (h'.2.1 e sz k cs)
        · simp [h'.1,hx]
      | succ p=>exact ih.arr p e sz k cs (by simpa using hx)
def Agp (md:List Blk):List (List Blk)->Prop
  | []=>True
  | M::r=>Ane md M/\Agp md r
theorem Ahp:∀ {l:List (List Blk)},Agp md l->∀ M∈l,Al6 md M
  | [],_,M,h=>by simp at h
  | N::r,h,M,hm=>by
    rcases yB.1 hm with rfl|hm
    · exact Asm h.1
    · exact Ahp h.2 M hm
theorem Fi (h:Agp md all):A7o ws es all i md:=.inr (Ahp h)
end
open Go.RowKit
section
variable {P:Program} {c:Ctx} {st:AS} {ty:TypeId}
theorem Aht {op:Op} {e sz n:Nat} {cs:List Lf} (hsz:0<sz) (h:Ahc P c st op ty e sz n cs):OpD P c st op ty (.s (.one (.sl n cs))):=by
  intro a w S H r dst pos af g K Q hK
  obtain⟨v,w',vals,hrun,hext,hin,hown,hls⟩:=h a w S H r
  unfold Oper.wp
  rw[hrun]
  let S':Dx:=λb i=>S b i\/(Cz v=some b/\i<cs.length)
  have hge:∀ b,Cz v=some b->w.heap.size<=b/\b<w'.heap.size:=by
    intro b hb
    rcases hown.2 with⟨hv,_⟩|⟨g',cap,cur,hv,h1,h2,_⟩
    · rw[hv] at hb;cases hb
    · rw[hv] at hb
      cases hb
      exact⟨h1,(yC.1 h2).1⟩
  have hext':Ext w S w' S':=⟨hext.os,hext.tape,hext.output,hext.size,hext.blk,λb i hs=>.inl (hext.sub b i hs),λb i hb hs=>by
    rcases hs with hs|hs
    · exact hext.back b i hb hs
    · have:=(hge b hs.1).1;omega⟩
  have hin':InH w' S':=⟨λb i hs=>by
    rcases hs with hs|hs
    · exact hin.1 b i hs
    · exact(hge b hs.1).2,hin.2.1.mono λb i hs=>⟨.inl hs,rfl⟩,hin.2.2.add λb i hs=>by
      rcases hs with hs|hs
      · exact .inl hs
      · refine .inr ⟨?_,λj hj=>by have:=r.sl.1 b j hj;have:=(hge b hs.1).1;omega⟩
        rcases hown.2 with⟨hv,_⟩|⟨g',cap,cur,hv,hbg,hg,_⟩
        · rw[hv] at hs;cases hs.1
        · have hb:Cz v=some b:=hs.1
          rw[hv] at hb
          cases hb
          have hi:i<vals.length:=by rw[<- hls.1];exact hs.2
          have:=hown.cells (g:=g') (by rw[hv];rfl) i _ (zC hi)
          rw[Addr.add_lit,yT] at this
          exact λh=>by rw[show w'.cell? ⟨g',i,none⟩=some _ from this] at h;cases h⟩
  refine hK v w' S' hext' hin' (D4 ?_)
  have hnl:n*sz=cs.length:=by rw[<- hown.1,hls.1]
  rcases hown.2 with⟨hv,h0⟩|⟨g',cap,cur,hv,hbg,hg,hnc,hcm,hcs,htake⟩
  · subst h0
    have:cs=[]:=yE (by rw[<- hnl,wZ])
    subst this
    rw[hv]
    exact .sl0 _ _
  · rw[hv]
    refine Rep.sl n cs g' 0 cap (λj=>vals.getD j undef) hnc hcm (λj l hl=>?_) (λj l hl=>?_)
    · have hj:j<cs.length:=(zB.1 hl).1
      obtain⟨u,hu,_⟩:=hls.get hl
      refine⟨.inr ⟨by rw[hv];simp [Cz],by omega⟩,?_⟩
      have:=hown.cells (g:=g') (by rw[hv];rfl) j u hu
      rw[Addr.add_lit] at this
      rw[this]
      simp [List.getD,hu]
    · obtain⟨u,hu,hr⟩:=hls.get hl
      have:vals.getD j undef=u:=by simp [List.getD,hu]
      rw[this]
      exact Rep.mono (λb i h=>⟨.inl h,rfl⟩) hr
variable {α:Type} {f:α->List Lf} {sz:Nat}
theorem Vz {callee:Operand} {g:FuncId} {la lb:List Lf} {args:Array Operand} {ats:Array TypeId} {xs:List SV} {r:AV} (hf:FnI P g) (hcal:Cal st callee g la lb) (ho:Xy st args.toList xs) (hp:(la.map SV.one++xs++lb.map SV.one).all (λx=>x.cells.all Lf.pubd)=true) (hc:Bc P g (la.map SV.one++xs++lb.map SV.one) (·=r)) :
    OpD P c st (.call { callee:=.value callee,args:=args,argTypes:=ats }) ty r:=by
  intro a w S H rr dst pos af gd K Q hK
  obtain⟨va,vb,hv,h1,h2⟩:=hcal.val rr
  have hsv:=Yd (Yd (Aes h1) (V0 rr ho)) (Aes h2)
  have hsr:Abx (Rep w S) (la.map SV.one++xs++lb.map SV.one) (va.toList++args.toList.map a.eval++vb.toList) :=
    ⟨hsv.1,λj x v hx hv'=>Aik (hsv.2 j x v hx hv') (zJ.1 hp x (zD hx))⟩
  unfold Oper.wp
  have hrun:(execOp a.eval ⟨dst,.call { callee:=.value callee,args:=args,argTypes:=ats },ty,pos,af,gd⟩).run P w=.ok (.enter g (va++args.map a.eval++vb)) w:=by
    simp [execOp,resolve,hv,Deferred.ofValue,invoke,hf.run]
  rw[hrun]
  refine(hc w S (va++args.map a.eval++vb) rr.sl (by simpa using hsr)).mono ?_
  rintro e w' ⟨v,x,S',rfl,rfl,hext,hin,hav⟩
  exact hK v w' S' hext hin (Acu hav)
end
section
variable {P:Program} {c:Ctx} {t:Nat->AV} {m:List Blk} {ops:Array Oper} {Q:Exit->AS->Prop} {rest:List Oper} {op:Op} {ty:TypeId} {pos:String} {af:Array Edge} {d:Tmp} {x:AV}
theorem sd (hd:decide (d<c.nt)=true) (h:OpD P c ⟨t,m⟩ op ty x) (k:AWL P c ops Q rest ⟨upd t d x,m⟩):AWL P c ops Q (⟨some d,op,ty,pos,af,none⟩::rest) ⟨t,m⟩:=by
  intro a w S H r
  refine wpList_plain rfl λK hK=>?_
  exact h a w S H r (some d) pos af none K _ (λv w' S' hext hin hav=>hK _ _ (k _ _ _ _ ((r.ext hext hin).put (of_decide_eq_true hd) hav)))
theorem A3y {t' e sz bytes len:Nat} {zl out:List Lf} {parts:Array (Nat×Operand)} {xs:List (Nat×SV)} (hd:decide (d<c.nt)=true) (si:P.underlying t'=some (.slice e)) (ei:EI P e sz bytes zl) (hp:Aci ⟨t,m⟩ parts.toList xs)
    (hb:Yk (λi:Nat=>some (i*sz,sz)) (Agy zl (len*sz)) xs out) (hout:out.all Lf.pubd=true) (hlen:len*sz<=16777216)
    (k:AWL P c ops Q rest ⟨upd t d (.s (.one (.ls m.length len))),m++[.arr e sz 0 out]⟩):AWL P c ops Q (⟨some d,.buildSlice t' len parts,ty,pos,af,none⟩::rest) ⟨t,m⟩ :=
  Yf ei.p (of_decide_eq_true hd) (Pb si ei hp hb (zJ.1 hout) hlen) k
end
end
open Go.RowKit
section
variable {P:Program} {c:Ctx} {st:AS} {t:Nat->AV} {m:List Blk} {ops:Array Oper} {Q:Exit->AS->Prop} {rest:List Oper} {ty:TypeId} {pos:String} {af:Array Edge} {d:Tmp}
theorem A96 {xt yt e n:Nat} {x:Operand} {cs:List Lf} (hd:decide (d<c.nt)=true) (hu:P.underlying xt=some (.slice e)) (hx:Bg ⟨t,m⟩ x=.s (.one (.sl n cs)))
  (k:∀ b,(b=true->n=0)->AWL P c ops Q rest ⟨upd t d (.s (.one (.b b))),m⟩):AWL P c ops Q (⟨some d,.binOp .eql xt x (.const (.slice none 0 0)) yt,ty,pos,af,none⟩::rest) ⟨t,m⟩:=by
 intro a w S H r
 have hx':=Ax r x
 rw[hx] at hx'
 have hx'':Rep w S (.sl n cs) (a.eval x):=hx'
 refine wpList_plain rfl λK hK=>?_
 unfold Oper.wp
 have key:∀ b,(b=true->n=0)->(execOp a.eval ⟨some d,.binOp .eql xt x (.const (.slice none 0 0)) yt,ty,pos,af,none⟩).run P w=.ok (.value (.bool b)) w->Oper.upon P ⟨some d,.binOp .eql xt x (.const (.slice none 0 0)) yt,ty,pos,af,none⟩ a K (QR c Q) ((execOp a.eval ⟨some d,.binOp .eql xt x (.const (.slice none 0 0)) yt,ty,pos,af,none⟩).run P w):=by
  intro b hb hrun
  rw[hrun]
  exact hK _ _ (k b hb _ _ _ _ (r.put (d:=d) (x:=.s (.one (.b b))) (of_decide_eq_true hd) (D4 (.b b))))
 generalize hv:a.eval x=v at hx''
 have hc:a.eval (.const (.slice none 0 0))=.slice none 0 0:=rfl
 cases hx'' with
 | sl0 ad cap =>
  refine key ad.isNone (λ_=>rfl) ?_
  cases ad <;> simp [execOp,hv,hc,eqGuard,binOp,run_underlying hu,run_equal_slice_nil w xt e _ _ _ hu]
 | sl n cs bk off cap vals hcn hm hs hr =>
  refine key false (λh=>by cases h) ?_
  simp [execOp,hv,hc,eqGuard,binOp,run_underlying hu,run_equal_slice_nil w xt e _ _ _ hu]
end
open Go.RowKit
section
variable {P:Program} {c:Ctx} {st:AS} {ty:TypeId}
theorem Aga {t:TypeId} {x:Operand} {e sz:Nat} (si:SI P t e sz) (hx:Bg st x=.s (.one (.raw (.slice none 0 0)))) :
  OpV P c st (.call { callee:=.builtin .cap,args:=#[x],argTypes:=#[t] }) ty (.s (.one (.i .i64 0))):=by
 intro a w S H r
 have hx':=Ax r x
 rw[hx] at hx'
 have hv:a.eval x=.slice none 0 0:=Ix hx'
 refine⟨.int .i64 0,D4 (.i _ _),λ_ _ _ _=>?_⟩
 simp [execOp,resolve,invoke,builtin,Builtin.cap_,run_underlying si.u,hv,goInt]
theorem Aih {t:TypeId} {x o:Operand} {e sz:Nat} {k:IntKind} (si:SI P t e sz) (hx:Bg st x=.s (.one (.raw (.slice none 0 0)))) (ho:Bg st o=.s (.one (.i k 0))) :
  OpV P c st (.slice t x none (some o) none) ty (.s (.one (.raw (.slice none 0 0)))):=by
 intro a w S H r
 have hx':=Ax r x
 rw[hx] at hx'
 have hv:a.eval x=.slice none 0 0:=Ix hx'
 refine⟨.slice none 0 0,D4 (.raw _ rfl),λ_ _ _ _=>?_⟩
 have hb:=T7 (P:=P) r ho (xS 0) 0 (zU _) .sliceAcap
 simp only[Int.toNat_zero] at hb
 simp [execOp,hv,Instr.sliceAt,Instr.slice,run_underlying si.u,Instr.sliceBounds,Cc si.i,hb]
end
section
variable {P:Program} {c:Ctx} {t:Nat->AV} {m:List Blk} {ops:Array Oper} {Q:Exit->AS->Prop} {rest:List Oper} {ty:TypeId} {pos:String} {af:Array Edge} {d:Tmp} {α:Type} {f:α->List Lf} {sz:Nat}
theorem A5h {x o:Operand} {t' e p n:Nat} {cs:List Lf} {xs:List α} {k:IntKind} {j:Int} (hd:decide (d<c.nt)=true) (si:SI P t' e sz) (hf:∀ x,(f x).length=sz) (hx:Bg ⟨t,m⟩ x=.s (.one (.ls p n))) (hm:m[p]? = some (.arr e sz 0 cs)) (hcs:cs=xs.flatMap f) (hn:n=xs.length) (ho:Bg ⟨t,m⟩ o=.s (.one (.i k j))) (h:0<=j/\j<=xs.length)
  (kk:AWL P c ops Q rest ⟨upd t d (.s (.one (.ls m.length (xs.take j.toNat).length))),m.set p .dead++[.arr e sz 0 ((xs.take j.toNat).flatMap f)]⟩) :
  AWL P c ops Q (⟨some d,.slice t' x none (some o) none,ty,pos,af,none⟩::rest) ⟨t,m⟩:=by
 intro a w S H r
 have hx':=Ax r x
 rw[hx] at hx'
 obtain⟨hp,_,hr⟩:=hx'
 have hnl:n*sz=cs.length:=by rw[hcs,A4 hf,hn]
 have hv:a.eval x=H p:=(hr _ _ _ _ hm).2 hnl
 obtain⟨hsz,hk,n0,vals,hown,hls,hst⟩:=r.bl p _ hm
 have hn0:n0=n:=O2 hown hsz (by rw[<- hls.1];exact hnl)
 subst hn0
 have hjn:j.toNat<=n0:=by omega
 have hfl:(xs.take j.toNat).flatMap f=cs.take (j.toNat*sz):=by rw[hcs,Abp hf]
 have htl:(xs.take j.toNat).length=j.toNat:=by rw[zR];omega
 have hsetl:m.set p .dead=m.set p .dead:=rfl
 have hhead:∃ v',(∀ dst pos af g,(execOp a.eval ⟨dst,.slice t' x none (some o) none,ty,pos,af,g⟩).run P w=.ok (.value v') w)/\w.ownsRow 0 e sz v' j.toNat (vals.take (j.toNat*sz))/\(∀ g,Cz v'=some g->Cz (H p)=some g)/\v'.oneCell'=true:=by
  have hvl:(vals.take (j.toNat*sz)).length=j.toNat*sz:=by rw[zR,hown.1,kN (xV _ hjn)]
  rcases hown.2 with⟨h1,h0⟩|⟨g,cap,cur,h1,h2,h3,h4,h5,h6,h7⟩
  ·have hj0:j=0:=by omega
   subst hj0
   have hb:=T7 (P:=P) r ho (xS 0) 0 (zU _) .sliceAcap
   simp only[Int.toNat_zero] at hb
   refine⟨.slice none 0 0,λ_ _ _ _=>by simp [execOp,hv,h1,Instr.sliceAt,Instr.slice,run_underlying si.u,Instr.sliceBounds,Cc si.i,hb],⟨hvl,.inl ⟨rfl,rfl⟩⟩,(λg hg=>by cases hg),rfl⟩
  ·have hb:=T7 (P:=P) r ho h.1 cap (by omega) .sliceAcap
   refine⟨.slice (some ⟨g,0,none⟩) j.toNat cap,λ_ _ _ _=>by simp [execOp,hv,h1,Instr.sliceAt,Instr.slice,run_underlying si.u,Instr.sliceBounds,Cc si.i,hb,show(⟨g,0,none⟩:Addr).add 0=⟨g,0,none⟩ from Addr.add_lit _ _ _],⟨hvl,.inr ⟨g,cap,cur,rfl,h2,h3,by omega,h5,h6,?_⟩⟩,λg' hg=>by rw[h1];exact hg,rfl⟩
   rw[<- h7,List.take_take,kN (xV _ hjn)]
 obtain⟨v',hrun,hown',hvo,hone⟩:=hhead
 have r1:Rel c ⟨t,m.set p .dead⟩ a w S (Te H p (H p)):=by
  refine r.change (p:=p) (b':=.dead) (v:=H p) (by simp) (by simp [hp]) (λq hq=>zS (λe=>hq e.symm)) (λb i h=>⟨h,rfl⟩) (λg _ h=>rfl) (λe sz k cs _ h=>by cases h)
   (λg _ _=>rfl) trivial (λg hg=>by cases hg) (λq b g i _ _ _ h=>h) (λg i _ _ h=>h) r.sl.two (zT _) rfl rfl rfl (λ_ _ h=>h)
 have hml:(m.set p Blk.dead).length=m.length:=by simp
 have r2:Rel c ⟨t,m.set p .dead++[.arr e sz 0 ((xs.take j.toNat).flatMap f)]⟩ a w S (Te (Te H p (H p)) m.length v'):=by
  refine r1.change (p:=m.length) (b':=.arr e sz 0 ((xs.take j.toNat).flatMap f)) (v:=v') (by simp) (by rw[<- hml];simp) (λq hq=>?_) (λb i h=>⟨h,rfl⟩) (λg h=>absurd h (by rw[hml];exact wF _)) (λe sz k cs h=>absurd h (by rw[hml];exact wF _))
   (λg _ _=>rfl) ⟨hsz,zU _,j.toNat,vals.take (j.toNat*sz),hown',?_,λg _ i hi=>absurd hi (zW _)⟩ (λg hg=>?_) (λq b g i _ _ _ h=>h) (λg i _ _ h=>h) r1.sl.two (zT _) rfl rfl rfl
  ·rcases zQ q (m.set p Blk.dead).length with h|h
   ·rw[zL h]
   ·rw[zZ (by simp at h ⊢;omega),zZ h]
  ·rw[hfl]
   refine⟨by rw[zR,zR,hls.1],λq l u h1 h2=>?_⟩
   rw[yR] at h1 h2
   split at h1
   ·rename_i hq
    rw[if_pos hq] at h2
    exact hls.2 q l u h1 h2
   ·cases h1
  ·have hg':Cz v'=some g:=hg
   have hgp:=hvo g hg'
   have hlo:=r.lo p _ g hm hgp
   refine⟨hlo.1,hlo.2,λq b _ hb hob=>?_,λi hi=>absurd (r.sb p _ g i hm hgp hi) (zW _)⟩
   by_cases hqp:q=p
   ·subst hqp
    have hb':(m.set q Blk.dead)[q]? = some b:=hb
    rw[zN hp] at hb'
    cases hb'
    cases hob
   ·have hb':(m.set p Blk.dead)[q]? = some b:=hb
    rw[zS (λe=>hqp e.symm)] at hb'
    rw[Bv H (H p) hqp] at hob
    exact hqp (r.inj q p b _ g hb' hm hob hgp)
 refine wpList_plain rfl λK hK=>?_
 unfold Oper.wp
 rw[hrun]
 refine hK _ _ (kk _ _ _ _ (r2.put (d:=d) (x:=.s (.one (.ls m.length (xs.take j.toNat).length))) (of_decide_eq_true hd) ?_))
 refine⟨by simp,⟨hone,by rw[Ba];exact(Qy hown').2⟩,λe2 sz2 k2 cs2 hm2=>?_⟩
 have e0:(m.set p Blk.dead++[.arr e sz 0 ((xs.take j.toNat).flatMap f)])[m.length]? = some (.arr e sz 0 ((xs.take j.toNat).flatMap f)):=by rw[<- hml];simp
 rw[e0] at hm2
 cases hm2
 exact⟨by rw[A4 hf];exact zT _,λ_=>(Ba _ _ _).symm⟩
end
open Go.RowKit
theorem Aoh {c:Ctx} {st:AS} {a:Act} {w:World} {S:Dx} {H:Nat->Value} (r:Rel c st a w S H) {p i:Nat} {cs:List Lf} {l l':Lf} {m':List Blk} (hm:st.m[p]? = some (.box cs)) (hi:cs[i]? = some l) (hp:Ab1 st.m l l' m') (hm':m'[p]? = some (.box cs)) :
  ∃ S' H',Rel c ⟨st.t,m'.set p (.box (cs.set i l'))⟩ a w S' H':=by
 obtain⟨S',k,g⟩:=hp.keeps (t:=st.t) r
 have r':=k.rel
 have hpl:p<m'.length:=(zB.1 hm').1
 obtain⟨gg,e,cur,h1,h2,h3⟩:=r.bl p _ hm
 obtain⟨gg',e',cur',h1',h2',h3'⟩:=r'.bl p _ hm'
 have e1:gg=gg':=by rw[h1] at h1';cases h1';rfl
 subst e1
 have e2:cur=cur':=by rw[h2] at h2';cases h2';rfl
 subst e2
 refine⟨S',Te H p (H p),r'.change (p:=p) (b':=.box (cs.set i l')) (v:=H p) (by simp) (by rw[zN hpl]) (λq hq=>zS (λe=>hq e.symm)) (λb i h=>⟨h,rfl⟩)
  (λg _ _=>rfl) (λe sz k cs _ h=>by cases h) (λg _ _=>rfl) ⟨gg,e',cur,h1',h2',?_⟩
  (λg hg=>⟨(r'.lo p _ g hm' hg).1,(r'.lo p _ g hm' hg).2,λq b hq hb ho=>hq (r'.inj q p b _ g hb hm' ho hg),λj hj=>r'.sb p (.box cs) g j hm' hg hj⟩) (λq b g i _ _ _ h=>h) (λg i _ _ h=>h) r'.sl.two (zT _) rfl rfl rfl⟩
 have hset:Te H p (H p)=H:=by
  funext q
  by_cases e':q=p
  ·subst e';exact Ba H q _
  ·exact Bv H _ e'
 rw[hset]
 have hmono:∀ l v,Bf w S' m' H l v->Bf w S' (m'.set p (.box (cs.set i l'))) H l v:=λl v =>
  Bf.mono (λb i h=>⟨h,rfl⟩) (by simp) (λ_ _=>rfl) (λq e sz k cs1 _ hmm=>by
   by_cases hq:q=p
   ·subst hq
    rw[zN hpl] at hmm
    cases hmm
   ·rw[zS (λe=>hq e.symm)] at hmm
    exact⟨k,cs1,hmm,rfl⟩)
 refine⟨by rw[xA];exact h3.1,λj x v hx hv=>?_⟩
 by_cases hj:j=i
 ·subst hj
  have hlt:j<cs.length:=(zB.1 hi).1
  rw[zN hlt] at hx
  cases hx
  exact Bf.of_rep (g v (h3.2 j l v hi hv))
 ·rw[zS (λe=>hj e.symm)] at hx
  exact hmono _ _ (h3'.2 j x v hx hv)
section
variable {a:Act} {c:Ctx} {m:List Blk} {t:Nat->AV} {H:Nat->Value} {S:Dx} {tt:TypeId} {w:World}
theorem Ax2 (r:Rel c ⟨t,m⟩ a w S H):Rel c ⟨t,m++[.hole]⟩ a w S (Te H m.length undef):=by
 refine r.change (p:=m.length) (b':=.hole) (v:=undef) (by simp) (by simp) (λq hq=>?_) (λb i h=>⟨h,rfl⟩) (λg h=>absurd h (wF _)) (λe sz k cs h=>absurd h (wF _))
  (λg _ _=>rfl) rfl (λg hg=>by cases hg) (λq b g i _ _ _ h=>h) (λg i _ _ h=>h) r.sl.two (zT _) rfl rfl rfl (λ_ h=>absurd h (wF _))
 rcases zQ q m.length with h|h
 ·rw[zL h]
 ·rw[zZ (by simp;omega),zZ h]
theorem Rel.fillBox (r:Rel c ⟨t,m⟩ a w S H) {p:Nat} (hm:m[p]? = some .hole) {e:TypeId} {cells:Array Value} {ls:List Lf} (hls:LsR (Bf w S m H) ls cells.toList) :
  Rel c ⟨t,m.set p (.box ls)⟩ a (w.alloc (.cells cells e)) S (Te H p (.pointer (some ⟨w.heap.size,0,none⟩))):=by
 have hx:Ext w S (w.alloc (.cells cells e)) S:=Ext.alloc w S _
 have hp:p<m.length:=(zB.1 hm).1
 have hH:H p=undef:=r.bl p _ hm
 have hf:=r.fresh (zT w.heap.size)
 have hkeep:∀ b i,S b i->S b i/\(w.alloc (.cells cells e)).cell? ⟨b,i,none⟩=w.cell? ⟨b,i,none⟩:=λb i h=>hx.keeps r.sl b i h
 have hoth:∀ q,q≠p->(m.set p (.box ls))[q]? = m[q]? := λq hq=>zS (λe=>hq e.symm)
 have hgr:∀ l v,Bf w S m H l v->Bf (w.alloc (.cells cells e)) S (m.set p (.box ls)) (Te H p (.pointer (some ⟨w.heap.size,0,none⟩))) l v:=λl v =>
  Bf.mono2 hkeep (by simp) (λq g hq hh=>by
   by_cases e1:q=p
   ·subst e1;exact(Aep (hH.symm.trans hh)).elim
   ·exact Bv H _ e1) (λq _ hne=>by
   by_cases e1:q=p
   ·subst e1;exact absurd hH hne
   ·rw[Bv H _ e1];exact hne) (λq e1 sz k cs hq hm1=>by
   by_cases e2:q=p
   ·subst e2;rw[zN hp] at hm1;cases hm1
   ·rw[hoth q e2] at hm1
    exact⟨k,cs,hm1,.inl ⟨rfl,Bv H _ e2⟩⟩)
 refine r.change (p:=p) (b':=.box ls) (by simp) (zN hp) hoth hkeep (λg _ h=>(Aep (hH.symm.trans h)).elim) (λe sz k cs _ h=>by cases h)
  (λg hg _=>hx.blk g hg) ⟨w.heap.size,e,cells,rfl,heap_alloc_new w _,hls.mono hgr⟩ (λg hg=>?_) (λq b g i _ _ _ h=>h) (λg i _ _ h=>h) (r.sl.ext hx).two hx.size rfl rfl rfl
 have hg':w.heap.size=g:=by simpa [Blk.own,Cz] using hg
 subst hg'
 exact⟨.inl r.ex.size,by simp,λq b _ hb=>hf.1 q b hb,λi hi=>absurd hi (hf.2 i)⟩
section
variable {P:Program} {c:Ctx} {t:Nat->AV} {m:List Blk} {ops:Array Oper} {Q:Exit->AS->Prop} {rest:List Oper} {ty:TypeId} {pos:String} {af:Array Edge} {d:Tmp}
theorem Ald {x:Code} (k:AWC P c x Q ⟨t,m++[.hole]⟩):AWC P c x Q ⟨t,m⟩:=Av7 _ (λ_ _ S _ r=>⟨S,_,Ax2 r⟩) k
theorem Afi {zl:List Lf} (p:Nat) (hd:decide (d<c.nt)=true) (zi:ZI P tt zl) (hm:m[p]? = some .hole)
  (k:AWL P c ops Q rest ⟨upd t d (.s (.one (.lp p 0))),m.set p (.box zl)⟩):AWL P c ops Q (⟨some d,.alloc tt,ty,pos,af,none⟩::rest) ⟨t,m⟩:=by
 obtain⟨i,z,hi,hz,hl,ho⟩:=zi.h
 subst hl
 intro a w S H r
 refine wpList_plain rfl λK hK=>?_
 unfold Oper.wp
 have hrun:(execOp a.eval ⟨some d,.alloc tt,ty,pos,af,none⟩).run P w=.ok (.value (.pointer (some ⟨w.heap.size,0,none⟩))) (w.alloc (.cells z.cells tt)):=by simp [execOp,Instr.alloc,zeroValue,typeInfo,hi,hz,newVar,newRow]
 rw[hrun]
 have r':=r.fillBox (e:=tt) (cells:=z.cells) hm (Ajg ho)
 have hp:p<m.length:=(zB.1 hm).1
 exact hK _ _ (k _ _ _ _ (r'.put (d:=d) (x:=.s (.one (.lp p 0))) (of_decide_eq_true hd) ⟨by simpa using hp,w.heap.size,Ba _ _ _,rfl⟩))
theorem A0z {y:Operand} {x:SV} (p:Nat) (hd:decide (d<c.nt)=true) (hx:Bg ⟨t,m⟩ y=.s x) (hm:m[p]? = some .hole)
  (k:AWL P c ops Q rest ⟨upd t d (.s (.one (.lp p 0))),m.set p (.box x.cells)⟩):AWL P c ops Q (⟨some d,.box tt y,ty,pos,af,none⟩::rest) ⟨t,m⟩:=by
 intro a w S H r
 have hy:=Ax r y
 rw[hx] at hy
 have hls:=T3 hy (λl v=>Bf.oneCell)
 refine wpList_plain rfl λK hK=>?_
 unfold Oper.wp
 have hrun:(execOp a.eval ⟨some d,.box tt y,ty,pos,af,none⟩).run P w=.ok (.value (.pointer (some ⟨w.heap.size,0,none⟩))) (w.alloc (.cells (a.eval y).cells tt)):=by simp [execOp,Instr.box,newVar,newRow]
 rw[hrun]
 have r':=r.fillBox (e:=tt) (cells:=(a.eval y).cells) hm hls
 have hp:p<m.length:=(zB.1 hm).1
 exact hK _ _ (k _ _ _ _ (r'.put (d:=d) (x:=.s (.one (.lp p 0))) (of_decide_eq_true hd) ⟨by simpa using hp,w.heap.size,Ba _ _ _,rfl⟩))
end
end
open Go.RowKit
section
variable {xs:Array Value} {b:Bool} {n:List Nat} {H:Nat->Value} {P:Program} {S:Dx} {w:World}
def A8m:Lf->Lf->Option Bool
 | .i k n,.i k' m=>if k=k' then some (decide (n=m)) else none
 | .b x,.b y=>some (x==y)
 | .s x,.s y=>some (x.toList==y.toList)
 | _,_=>none
def A0e:List Lf->List Lf->Option Bool
 | [],[]=>some true
 | a::l,b::r=>match A8m a b,A0e l r with
  | some x,some y=>some (x&&y)
  | _,_=>none
 | _,_=>none
def Lf.tag:Lf->Nat
 | .i _ _=>0
 | .b _=>1
 | .s _=>2
 | _=>3
def Ad8:Option TypeDesc->Nat
 | some (.int _)=>0
 | some .bool=>1
 | some .string=>2
 | _=>4
def Arc (P:Program):Nat->List Field->List Nat->Bool
 | _,[],[]=>true
 | i, f :: r, k :: ks => f.name != "_" && f.offset == i && Ad8 (P.underlying f.type) == k && Arc P (i + 1) r ks
 | _,_,_=>false
theorem Agn {t:TypeId} {i:Nat} {v:Value} (h:Ad8 (P.underlying t)<4) (hv:xs[i]? = some v):(part t xs i).run P w=.ok v w:=by
 cases hu:P.underlying t with
 | none=>rw[hu] at h;simp [Ad8] at h
 | some d=>rw[hu] at h;cases d <;> simp [Ad8] at h <;> simp [part,isAgg,run_underlying hu,hv]
theorem Uh {m:List Blk} {d:Nat} {ys:Array Value}:∀ (fs:List Field) (i:Nat) (ls ls':List Lf) (b:Bool),Arc P i fs (ls.map Lf.tag)=true->ls.map Lf.tag=ls'.map Lf.tag->A0e ls ls'=some b ->
  (∀ j l,ls[j]? = some l->∃ v,xs[i+j]? = some v/\Bf w S m H l v)->(∀ j l,ls'[j]? = some l->∃ v,ys[i+j]? = some v/\Bf w S m H l v) ->
  (Op.eqFields (d+1) xs ys fs).run P w=.ok b w
 | [],i,ls,ls',b,hf,_,he,_,_=>by
  cases ls with
  | cons _ _=>cases hf
  | nil =>
   cases ls' with
   | nil=>cases he;rfl
   | cons _ _=>cases he
 | f::fs,i,[],ls',b,hf,_,_,_,_=>by cases hf
 | f::fs,i,l::ls,[],b,_,_,he,_,_=>by cases he
 | f::fs,i,l::ls,l'::ls',b,hf,hl,he,hx,hy=>by
  simp only[xN,Arc,zG,bne_iff_ne,ne_eq,beq_iff_eq] at hf
  obtain⟨⟨⟨h1,h2⟩,h3⟩,h4⟩:=hf
  simp only[xN,List.cons.injEq] at hl
  obtain⟨hl1,hl2⟩:=hl
  obtain⟨v,hv,hr⟩:=hx 0 l rfl
  obtain⟨v',hv',hr'⟩:=hy 0 l' rfl
  unfold A0e at he
  cases e1:A8m l l' with
  | none=>rw[e1] at he;cases he
  | some x =>
  cases e2:A0e ls ls' with
  | none=>rw[e1,e2] at he;cases he
  | some y =>
  rw[e1,e2] at he
  obtain rfl:(x&&y)=b:=zF he
  have ht4:Ad8 (P.underlying f.type)<4:=by
   rw[h3];cases l <;> simp [Lf.tag]
  have heq:(Op.equalIn (d+1) f.type v v').run P w=.ok x w:=by
   cases hu:P.underlying f.type with
   | none=>rw[hu] at ht4;simp [Ad8] at ht4
   | some dd =>
    rw[hu] at h3
    cases l <;> cases l' <;> simp only[A8m,reduceCtorEq,z2] at e1
    ·rename_i k n k' m'
     by_cases hk:k=k'
     ·subst hk
      rw[if_pos rfl] at e1
      obtain rfl:=zF e1
      have q1:v=_:=T4 hr
      have q2:v'=_:=T4 hr'
      subst q1 q2
      cases dd <;> simp [Ad8,Lf.tag] at h3
      exact(run_equalIn_int w d f.type _ _ _ _ hu).trans (by rw[At8])
     ·rw[if_neg hk] at e1;cases e1
    ·subst e1
     have q1:v=_:=Aai hr
     have q2:v'=_:=Aai hr'
     subst q1 q2
     cases dd <;> simp [Ad8,Lf.tag] at h3
     simp [Op.equalIn,run_underlying hu]
    ·subst e1
     have q1:v=_:=Aqt hr
     have q2:v'=_:=Aqt hr'
     subst q1 q2
     cases dd <;> simp [Ad8,Lf.tag] at h3
     simp [Op.equalIn,run_underlying hu,beq_toListBytes]
  have ih:=Uh (d:=d) fs (i+1) ls ls' y h4 hl2 e2 (λj l h=>by have:=hx (j+1) l (by simpa using h);rwa [show i+(j+1)=i+1+j by omega] at this) (λj l h=>by have:=hy (j+1) l (by simpa using h);rwa [show i+(j+1)=i+1+j by omega] at this)
  unfold Op.eqFields
  rw[kR] at hv hv'
  rw[if_pos h1,h2]
  simp only[Sem.run_bind,Agn ht4 hv,Agn ht4 hv',Result.andThen_ok,heq]
  cases x
  ·simp
  ·simp [ih]
section
variable {P:Program} {c:Ctx} {st:AS} {ty:TypeId} {xt yt:TypeId} {x y:Operand}
structure EqT (P:Program) (t:TypeId) (n:List Nat):Prop where
 u:P.underlying t=some (.struct (P.fieldsOf t))
 h:P.stoodInHeld t=false
 g:P.eqGuardType P.depth t=false
 f:Arc P 0 (P.fieldsOf t).toList n=true
theorem A5x (et:EqT P xt n) {ls ls':List Lf} (hx:Bg st x=.s (.agg ls)) (hy:Bg st y=.s (.agg ls')) (hn:ls.map Lf.tag=n) (hn':ls'.map Lf.tag=n) (he:A0e ls ls'=some b) {a:Act} (r:Rel c st a w S H) :
  ∃ cs cs':Array Value,a.eval x=.agg cs/\a.eval y=.agg cs'/\(Op.equalIn 10000 xt (.agg cs) (.agg cs')).run P w=.ok b w:=by
 have h1:=Ax r x
 rw[hx] at h1
 have h2:=Ax r y
 rw[hy] at h2
 obtain⟨cs,e1,g1⟩:=h1
 obtain⟨cs',e2,g2⟩:=h2
 refine⟨cs,cs',e1,e2,?_⟩
 rw[run_equalIn_struct w 9999 xt cs cs' et.u et.h]
 refine Uh (d:=9998) (S:=S) (m:=st.m) (H:=H) _ 0 ls ls' b (by rw[hn];exact et.f) (hn.trans hn'.symm) he (λj l h=>?_) (λj l h=>?_)
 ·obtain⟨v,hv,hr⟩:=g1.get h
  exact⟨v,by simpa using hv,hr⟩
 ·obtain⟨v,hv,hr⟩:=g2.get h
  exact⟨v,by simpa using hv,hr⟩
theorem Asf (et:EqT P xt n) {ls ls':List Lf} (hx:Bg st x=.s (.agg ls)) (hy:Bg st y=.s (.agg ls')) (hn:ls.map Lf.tag=n) (hn':ls'.map Lf.tag=n) (he:A0e ls ls'=some b):OpV P c st (.binOp .neq xt x y yt) ty (.s (.one (.b (!b)))):=by
 intro a w S H r
 obtain⟨cs,cs',e1,e2,h⟩:=A5x et hx hy hn hn' he r
 refine⟨.bool (!b),D4 (.b _),λ_ _ _ _=>?_⟩
 simp only[execOp,e1,e2,Sem.run_bind,run_eqGuard_agg w _ xt x y cs cs' et.g,Result.andThen_ok,run_neq_struct,h]
 rfl
end
end
open Go.RowKit
theorem Asb {w:World} {S:Dx} {l:Lf} {v:Value} (h:Rep w S l v):Rep w S l.canon v:=by
 unfold Lf.canon
 split
 ·obtain rfl:=Ix h
  exact .sl0 _ _
 ·exact h
section
variable {k:(Nat->AV)->Prop} {ops:Array Oper} {T:Nat->AV} {place:Nat->Option (Nat×Nat)}
def Ajm (ops:Array Oper):Bool :=
 ((List.range ops.size).all λi=>match ops[i]? with
  | none=>false
  | some o=>o.dst.isSome&&o.after.all (λe=>decide (e.on<i))&&(List.range ops.size).all (λj=>match ops[j]? with
    | none=>false
    | some p=>(decide (i=j) || !(o.dst==p.dst))&&(match p.dst with
      | none=>false
      | some d=>!(o.looksAt ops).contains d||decide (j+1=ops.size)||o.after.any (λe=>e.on==j&&Region.binds .any e)))) &&
 (decide (0<ops.size)&&(match ops[ops.size-1]? with
  | none=>false
  | some o=>(List.range (ops.size-1)).all λj=>o.after.any (λe=>e.on==j&&Region.binds .any e)))
structure Atq (ops:Array Oper) (n:Nat):Prop where
 sz:ops.size=n+1
 dst:∀ (i:Nat) (o:Oper),ops[i]? = some o->∃ d,o.dst=some d
 lt:∀ (i:Nat) (o:Oper),ops[i]? = some o->∀ e∈o.after,e.on<i
 ne:∀ (i:Nat) (o:Oper) (j:Nat) (p:Oper),ops[i]? = some o->ops[j]? = some p->i≠j->o.dst≠p.dst
 ed:∀ (i:Nat) (o:Oper) (j:Nat) (p:Oper) (d:Tmp),ops[i]? = some o->ops[j]? = some p->p.dst=some d->j<n->d∈o.looksAt ops->∃ e∈o.after,e.on=j/\Region.binds .any e=true
 all:∀ (o:Oper) (j:Nat),ops[n]? = some o->j<n->∃ e∈o.after,e.on=j/\Region.binds .any e=true
theorem Aro (h:Ajm ops=true):Atq ops (ops.size-1):=by
 unfold Ajm at h
 simp only[zG] at h
 obtain⟨h0,hpos,hlast⟩:=h
 have hpos:=of_decide_eq_true hpos
 have key:∀ (i:Nat) (o:Oper),ops[i]? = some o->o.dst.isSome=true/\o.after.all (λe=>decide (e.on<i))=true/\∀ (j:Nat) (p:Oper),ops[j]? = some p->(decide (i=j) || !(o.dst==p.dst))=true/\(match p.dst with
      | none=>false
      | some d=>!(o.looksAt ops).contains d||decide (j+1=ops.size)||o.after.any (λe=>e.on==j&&Region.binds .any e))=true:=by
  intro i o hi
  have hil:i<ops.size:=(yC.1 hi).1
  have h1:=zJ.1 h0 i (w6.2 hil)
  rw[hi] at h1
  simp only[zG] at h1
  refine⟨h1.1.1,h1.1.2,λj p hj=>?_⟩
  have hjl:j<ops.size:=(yC.1 hj).1
  have h2:=zJ.1 h1.2 j (w6.2 hjl)
  rw[hj] at h2
  simp only[zG] at h2
  exact h2
 have hany:∀ {o:Oper} {j:Nat},o.after.any (λe=>e.on==j&&Region.binds .any e)=true->∃ e∈o.after,e.on=j/\Region.binds .any e=true:=by
  intro o j h
  rw[Array.any_eq_true] at h
  obtain⟨i',hi',h⟩:=h
  simp only[zG,beq_iff_eq] at h
  exact⟨_,Array.getElem_mem hi',h.1,h.2⟩
 refine⟨by omega,λi o hi=>Option.isSome_iff_exists.1 (key i o hi).1,λi o hi e he=>?_,λi o j p hi hj hne he=>?_,λi o j p d hi hj hd hjn hm=>?_,λo j ho hj=>?_⟩
 ·have:=(key i o hi).2.1
  rw[w9] at this
  exact of_decide_eq_true (this e he)
 ·have:=((key i o hi).2.2 j p hj).1
  simp only[kO,decide_eq_true_eq,xQ,beq_eq_false_iff_ne] at this
  rcases this with h|h
  ·exact hne h
  ·exact h he
 ·have:=((key i o hi).2.2 j p hj).2
  rw[hd] at this
  simp only[kO,xQ] at this
  rcases this with(h|h)|h
  ·rw[zAg] at h
   simp [hm] at h
  ·have:=of_decide_eq_true h
   omega
  ·exact hany h
 ·rw[ho] at hlast
  exact hany (zJ.1 hlast j (w6.2 hj))
section
variable {P:Program} {c:Ctx} {t:Nat->AV} {m:List Blk} {Q:Exit->AS->Prop}
open Classical in
noncomputable def TM (ops:Array Oper) (n:Nat) (T T':Nat->AV) (listed:Array Bool):Nat->AV :=
 if listed.getD n true=true then T' else λx=>if ∃ (i:Nat) (o:Oper),i<n/\ops[i]? = some o/\o.dst=some x/\listed.getD i true=false then .top else T x
open Classical in
theorem Au0 {n:Nat} (hok:Atq ops n) (hT:∀ (i:Nat) (o:Oper),i<n->ops[i]? = some o->∃ d,o.dst=some d/\d<c.nt/\Aah P c m ops T o (T d))
  {dl:Tmp} {xl:AV} {ol:Oper} (hol:ops[n]? = some ol) (hdl:ol.dst=some dl) (hln:dl<c.nt) (hgl:Aah P c m ops T ol xl) (hQ:Q .normal ⟨upd T dl xl,m⟩) :
  ∀ (fuel:Nat) (listed:Array Bool) (a:Act) (w:World) (S:Dx) (H:Nat->Value),listed.size=ops.size->(List.range ops.size).countP (λi=>!listed.getD i true)<=fuel ->
   (listed.getD n true=true->∀ j,j<n->listed.getD j true=true) ->
   Rel c ⟨TM ops n T (upd T dl xl) listed,m⟩ a w S H->wpAny P .any ops (QR c Q) fuel listed a w:=by
 have hsz1:=hok.sz
 have done:∀ (listed:Array Bool) (a:Act) (w:World) (S:Dx) (H:Nat->Value),listed.size=ops.size->Region.ready .any ops listed=[]->Rel c ⟨TM ops n T (upd T dl xl) listed,m⟩ a w S H->QR c Q .normal a w:=by
  intro listed a w S H hsz hr r
  have hall:∀ n i,i<n->i<ops.size->listed.getD i true=true:=by
   intro n
   induction n with
   | zero=>intro i h;omega
   | succ n ih =>
    intro i hi hio
    by_cases hb:listed.getD i true=true
    ·exact hb
    ·exfalso
     have hmem:i∈Region.ready .any ops listed:=by
      unfold Region.ready
      refine yO.2 ⟨w6.2 hio,?_⟩
      have hlt:=hok.lt i ops[i] (z9 hio)
      have hb':listed.getD i true=false:=by simpa using hb
      simp only[hb',wT,wG,z9 hio,xM,yS]
      rw[w9]
      intro e he
      have hel:=hlt e he
      have h1:=ih e.on (by omega) (by omega)
      have h2:listed.getD e.on false=true:=by
       simp only[zH] at h1 ⊢
       rw[z9 (by omega)] at h1 ⊢
       exact h1
      simp [h2]
     rw[hr] at hmem
     cases hmem
  have hTM:TM ops n T (upd T dl xl) listed=upd T dl xl:=by
   unfold TM
   rw[if_pos (hall (n+1) n (by omega) (by omega))]
  rw[hTM] at r
  exact⟨_,S,H,r,hQ⟩
 intro fuel
 induction fuel with
 | zero =>
  intro listed a w S H hsz hc _ r
  have hr:Region.ready .any ops listed=[]:=by
   unfold Region.ready
   rw[j5]
   intro i hi hb
   simp only[zG] at hb
   have:0<(List.range ops.size).countP (λi=>!listed.getD i true):=List.countP_pos_iff.2 ⟨i,hi,hb.1⟩
   omega
  exact⟨hr,done listed a w S H hsz hr r⟩
 | succ fuel ih =>
  intro listed a w S H hsz hc hinv r
  refine⟨λhr=>done listed a w S H hsz hr r,λi hi=>?_⟩
  unfold Region.ready at hi
  rw[yO] at hi
  obtain⟨hi1,hi2⟩:=hi
  have hio:i<ops.size:=w6.1 hi1
  have hget:ops[i]? = some ops[i]:=z9 hio
  simp only[zG,hget,xM,yS] at hi2
  obtain⟨hun,haf⟩:=hi2
  have hun':listed.getD i true=false:=by simpa using hun
  have hnl:listed.getD n true=false:=by
   cases hb:listed.getD n true with
   | false=>rfl
   | true =>
    by_cases hin:i=n
    ·subst hin;rw[hun'] at hb;cases hb
    ·rw[hinv hb i (by omega)] at hun';cases hun'
  have hedge:∀ (j:Nat) (e:Edge),e∈ops[i].after->e.on=j->Region.binds .any e=true->j<ops.size->listed.getD j true=true:=by
   intro j e he heo hbind hjl
   rw[w9] at haf
   have h1:=haf e he
   rw[hbind,heo] at h1
   simp only[yK,Bool.false_or] at h1
   simp only[zH] at h1 ⊢
   rw[z9 (by omega)] at h1 ⊢
   simpa using h1
  have hTMl:TM ops n T (upd T dl xl) listed=λx=>if ∃ (i:Nat) (o:Oper),i<n/\ops[i]? = some o/\o.dst=some x/\listed.getD i true=false then .top else T x:=by
   unfold TM
   rw[if_neg (by rw[hnl];simp)]
  have hlook:∀ y∈(ops[i]).looksAt ops,TM ops n T (upd T dl xl) listed y=T y:=by
   intro y hy
   rw[hTMl]
   simp only
   rw[if_neg]
   rintro⟨j,p,hjn,hj,hpd,hl⟩
   obtain⟨e,he,heo,hbind⟩:=hok.ed i _ j p y hget hj hpd hjn hy
   have:=hedge j e he heo hbind (by omega)
   rw[this] at hl
   cases hl
  have hsame:∀ j,i≠j->(listed.setIfInBounds i true).getD j true=listed.getD j true:=λj hij=>by
   simp only[zH,xL hij]
  have hself:(listed.setIfInBounds i true).getD i true=true:=by
   simp only[zH,wB (by omega:i<listed.size),yS]
  obtain⟨d,x,hd,hdn,hgood,hTM',hinv'⟩:∃ d x,(ops[i]).dst=some d/\d<c.nt/\Aah P c m ops T ops[i] x/\upd (TM ops n T (upd T dl xl) listed) d x=TM ops n T (upd T dl xl) (listed.setIfInBounds i true) /\
    ((listed.setIfInBounds i true).getD n true=true->∀ j,j<n->(listed.setIfInBounds i true).getD j true=true):=by
   by_cases hin:i=n
   ·subst hin
    rw[hget] at hol
    cases hol
    have hallj:∀ j,j<i->listed.getD j true=true:=λj hj=>by
     obtain⟨e,he,heo,hb⟩:=hok.all _ j hget hj
     exact hedge j e he heo hb (by omega)
    refine⟨dl,xl,hdl,hln,hgl,?_,λ_ j hj=>by rw[hsame j (by omega)];exact hallj j hj⟩
    have e1:TM ops i T (upd T dl xl) listed=T:=by
     rw[hTMl]
     funext y
     rw[if_neg]
     rintro⟨j,p,hjn,_,_,hl⟩
     rw[hallj j hjn] at hl
     cases hl
    rw[e1]
    unfold TM
    rw[if_pos hself]
   ·obtain⟨d,hd,hdn,hgood⟩:=hT i _ (by omega) hget
    refine⟨d,T d,hd,hdn,hgood,?_,λhb=>?_⟩
    ·rw[hTMl]
     unfold TM
     rw[if_neg (by rw[hsame n hin,hnl];simp)]
     funext x
     rw[Et]
     by_cases hx:x=d
     ·subst hx
      rw[if_pos rfl,if_neg]
      rintro⟨j,p,hjn,hj,hpd,hl⟩
      by_cases hij:i=j
      ·subst hij
       rw[hself] at hl
       cases hl
      ·exact hok.ne i _ j p hget hj hij (by rw[hd,hpd])
     ·rw[if_neg hx]
      by_cases hex:∃ (j:Nat) (p:Oper),j<n/\ops[j]? = some p/\p.dst=some x/\listed.getD j true=false
      ·rw[if_pos hex]
       obtain⟨j,p,hjn,hj,hpd,hl⟩:=hex
       rw[if_pos]
       have hij:i≠j:=by
        intro e;subst e
        rw[hget] at hj
        cases hj
        rw[hd] at hpd
        cases hpd
        exact hx rfl
       exact⟨j,p,hjn,hj,hpd,by rw[hsame j hij];exact hl⟩
      ·rw[if_neg hex,if_neg]
       rintro⟨j,p,hjn,hj,hpd,hl⟩
       refine hex ⟨j,p,hjn,hj,hpd,?_⟩
       by_cases hij:i=j
       ·subst hij;exact hun'
       ·rw[hsame j hij] at hl;exact hl
    ·rw[hsame n hin,hnl] at hb
     cases hb
  have hcnt:(List.range ops.size).countP (λj=>!(listed.setIfInBounds i true).getD j true)<=fuel:=by
   have:=Apv (λj=>!listed.getD j true) (λj=>!(listed.setIfInBounds i true).getD j true) (List.range ops.size) (λj _ hj=>by
    by_cases hij:i=j
    ·subst hij
     rw[hself] at hj
     cases hj
    ·rw[hsame j hij] at hj
     exact hj) hi1 hun (by rw[hself];rfl)
   omega
  generalize ho:ops[i]=o at *
  have next:∀ v w' S',Ext w S w' S'->InH w' S'->AVR (Bf w' S' m H) x v->wpAny P .any ops (QR c Q) fuel (listed.setIfInBounds i true) (a.put o.dst v) w':=by
   intro v w' S' hext hin hv
   rw[hd]
   refine ih _ _ w' S' H (by simpa using hsz) hcnt hinv' ?_
   rw[<- hTM']
   exact(r.ext hext hin).put hdn hv
  have hw:wpOp P ops (QR c Q) i (wpAny P .any ops (QR c Q) fuel (listed.setIfInBounds i true)) a w:=by
   unfold wpOp
   rw[hget]
   simp only
   have hrr:Rel c ⟨Ob T (o.looksAt ops),m⟩ a w S H:=by
    refine r.weak (λy=>?_)
    unfold Ob
    cases hc':(o.looksAt ops).contains y with
    | false=>exact .inr rfl
    | true=>exact .inl (hlook y (by simpa using hc')).symm
   rcases hgood with⟨hg,hop⟩|⟨hg,hx⟩
   ·have hwant:Region.wanted o (yielded ops a.tmps)=true:=by
     rcases hg with hg|⟨j,want,dj,h1,h2,h3⟩
     ·simp [Region.wanted,hg]
     ·have h4:=r.tm dj
      have h5:TM ops n T (upd T dl xl) listed dj=.s (.one (.b want)):=by rw[hlook dj (D7 h1 h2)];exact h3
      rw[show(⟨TM ops n T (upd T dl xl) listed,m⟩:AS).t dj=.s (.one (.b want)) from h5] at h4
      have hv:a.tmps.getD dj undef=.bool want:=Aai (h4:Rep w S (.b want) (a.tmps.getD dj undef))
      have hs:a.tmps[dj]? = some (.bool want):=by
       simp only[zH] at hv
       cases hq:a.tmps[dj]? with
       | none=>rw[hq] at hv;cases hv
       | some u=>rw[hq] at hv;simp only[yS] at hv;rw[hv]
      simp only[Region.wanted,h1,yielded,h2,zA,hs,beq_self_eq_true]
    rw[if_pos hwant]
    obtain⟨odst,oop,oty,opos,oaf,og⟩:=o
    exact .inl (hop a w S H hrr odst opos oaf og _ _ (λv w' S' h1 h2 h3=>next v w' S' h1 h2 h3))
   ·have hwant:Region.wanted o (yielded ops a.tmps)=false:=by
     obtain⟨j,want,dj,h1,h2,h3⟩:=hg
     have h4:=r.tm dj
     rw[show(⟨TM ops n T (upd T dl xl) listed,m⟩:AS).t dj=T dj from hlook dj (D7 h1 h2)] at h4
     simp only[Region.wanted,h1,yielded,h2,zA]
     rcases h3 with h3|⟨b,h3,hb⟩
     ·rw[h3] at h4
      obtain⟨vs,hv,_⟩:=h4
      simp only[zH] at hv
      cases hq:a.tmps[dj]? with
      | none=>rfl
      | some u=>rw[hq] at hv;simp only[yS] at hv;subst hv;rfl
     ·rw[h3] at h4
      have hv:a.tmps.getD dj undef=.bool b:=Aai (h4:Rep w S (.b b) (a.tmps.getD dj undef))
      simp only[zH] at hv
      cases hq:a.tmps[dj]? with
      | none=>rfl
      | some u =>
       rw[hq] at hv;simp only[yS] at hv;subst hv
       cases b <;> cases want <;> first|rfl|cases hb
    rw[if_neg (by rw[hwant];simp)]
    have:=next undef w S (Ext.refl w S) r.sl (by rw[hx];exact Hn)
    exact this
  exact hw
theorem DR.split:∀ {l:List Oper} {o:Oper} {t:Nat->AV},DR P c m ops k (l++[o]) t->DR P c m ops (λT=>∃ x d,o.dst=some d/\d<c.nt/\Aah P c m ops T o x/\k (upd T d x)) l t
 | [],o,t,h=>by
  obtain⟨x,d,h1,h2,h3,h4⟩:=h
  exact⟨x,d,h1,h2,h3,h4⟩
 | o'::l,o,t,h=>by
  obtain⟨x,d,h1,h2,h3,h4⟩:=h
  exact⟨x,d,h1,h2,h3,DR.split h4⟩
theorem A5n {id:Nat} {l:List Oper} (hm:P.follows .mixedOrders=true) (hok:Ajm l.toArray=true) (h:DR P c m l.toArray (λT=>Q .normal ⟨T,m⟩) l t):AWC P c (.region id l.toArray true) Q ⟨t,m⟩:=by
 have ok:=Aro hok
 have hne:l≠[]:=by
  intro e;subst e
  have:=ok.sz
  simp at this
 obtain⟨l0,ol,rfl⟩:∃ l0 ol,l=l0++[ol]:=⟨l.dropLast,l.getLast hne,(List.dropLast_concat_getLast hne).symm⟩
 have hn:(l0++[ol]).toArray.size-1=l0.length:=by simp
 rw[hn] at ok
 have h':=DR.split h
 have hgl:∀ {i:Nat} {o:Oper},l0[i]? = some o->(l0++[ol])[i]? = some o:=λ{i o} hi=>by
  rw[zL (zB.1 hi).1];exact hi
 have hnd:(K6 l0).Nodup:=by
  have aux:∀ (l:List Oper),(∀ (i:Nat) (o:Oper) (j:Nat) (p:Oper),l[i]? = some o->l[j]? = some p->i≠j->o.dst≠p.dst)->(K6 l).Nodup:=by
   intro l
   induction l with
   | nil=>intro _;exact kM
   | cons o l ih =>
    intro hne
    have ih':=ih (λi o' j p hi hj hij=>hne (i+1) o' (j+1) p (by simpa using hi) (by simpa using hj) (by omega))
    cases hd:o.dst with
    | none=>simpa [K6,hd] using ih'
    | some d =>
     have:K6 (o::l)=d::K6 l:=by simp [K6,hd]
     rw[this]
     refine wE.2 ⟨λhm=>?_,ih'⟩
     unfold K6 at hm
     rw[kC] at hm
     obtain⟨p,hp,hpd⟩:=hm
     obtain⟨j,hj,hjp⟩:=y9 hp
     exact hne 0 o (j+1) p rfl (by simp [zC hj,hjp]) (by omega) (by rw[hd,hpd])
  exact aux l0 (λi o j p hi hj=>ok.ne i o j p (by simpa using hgl hi) (by simpa using hgl hj))
 obtain⟨T,⟨x,d,hod,hdn,hgood,hQ⟩,hTt,hG⟩:=DR.get h' hnd (λi o hi y hy hm'=>by
  unfold K6 at hm'
  rw[kC] at hm'
  obtain⟨p,hp,hpd⟩:=hm'
  obtain⟨j,hj,hjp⟩:=y9 hp
  have hjb:i+j<l0.length:=by simp at hj;omega
  have hjl:l0[i+j]? = some p:=by
   rw[List.getElem_drop] at hjp
   rw[zC hjb,hjp]
  obtain⟨e,he,heo,_⟩:=ok.ed i o (i+j) p y (by simpa using hgl hi) (by simpa using hgl hjl) hpd hjb hy
  have:=ok.lt i o (by simpa using hgl hi) e he
  omega)
 intro a w S H r
 refine wp_region_any hm ?_
 have hG':∀ (i:Nat) (o:Oper),i<l0.length->((l0++[ol]).toArray)[i]? = some o->∃ d,o.dst=some d/\d<c.nt/\Aah P c m (l0++[ol]).toArray T o (T d):=λi o hi ho=>hG i o (by
  have:(l0++[ol])[i]? = some o:=by simpa using ho
  rwa [zL hi] at this)
 have hcnt:(List.range (l0++[ol]).toArray.size).countP (λi=>!(Array.replicate (l0++[ol]).toArray.size false).getD i true)<=(l0++[ol]).toArray.size:=by
  refine yU zAc ?_
  simp
 have hlf:(Array.replicate (l0++[ol]).toArray.size false).getD l0.length true=false:=by
  simp [zH]
 refine Au0 ok hG' (ol:=ol) (by simp) hod hdn hgood hQ (l0++[ol]).toArray.size (Array.replicate (l0++[ol]).toArray.size false) a _ S H (by simp) hcnt (λhb=>by rw[hlf] at hb;cases hb) ?_
 have r':Rel c ⟨t,m⟩ a w.drew S H:=r.ext (Ext.drew w S) (r.sl.ext (Ext.drew w S))
 refine r'.weak (λx=>?_)
 unfold TM
 rw[if_neg (by rw[hlf];simp)]
 by_cases hx:x∈K6 l0
 ·right
  rw[if_pos]
  unfold K6 at hx
  rw[kC] at hx
  obtain⟨p,hp,hpd⟩:=hx
  obtain⟨j,hj,hjp⟩:=y9 hp
  refine⟨j,p,hj,?_,hpd,?_⟩
  ·have:l0[j]? = some p:=by rw[zC hj,hjp]
   simpa using hgl this
  ·have:j<l0.length+1:=by omega
   simp [zH,this]
 ·left
  rw[if_neg,hTt x hx]
  rintro⟨i,o,hin,hi,hod,_⟩
  refine hx ?_
  unfold K6
  rw[kC]
  have hi':l0[i]? = some o:=by
   have:(l0++[ol])[i]? = some o:=by simpa using hi
   rwa [zL hin] at this
  exact⟨o,zD hi',hod⟩
end
theorem A51 {cs out:List Lf} {i off s:Nat} {x:SV} {rest:List (Nat×SV)} (cs':List Lf) (hp:place i=some (off,s)) (hl:x.cells.length=s) (hb:off+s<=cs.length) (he:Eu cs off x.cells=cs') (t:Yk place cs' rest out):Yk place cs ((i,x)::rest) out:=by
 subst he
 exact .cons _ _ _ _ _ _ _ hp hl hb t
end
open Go.RowKit
section
variable {P:Program} {c:Ctx} {st:AS} {ty:TypeId} {α:Type} {f:α->List Lf} {sz:Nat}
theorem A7m {w:World} {S:Dx} {v:Value} (h:Rep w S .nix v):∃ a,v=.slice a 0 0:=by cases h;exact⟨_,rfl⟩
theorem Ax0 {t e bytes:Nat} {zl:List Lf} (si:P.underlying t=some (.slice e)) (ei:EI P e sz bytes zl):OpD P c st (.buildSlice t 0 #[]) ty (.s (.one .nix)):=by
 intro a w S H r dst pos af g K Q hK
 obtain⟨i,z,hi,hz,hsize,hbytes,hzs,hzl,hzo⟩:=ei.h
 have hsi:(P.info? e).map (·.size)=some sz:=by rw[hi];simp [hsize]
 have hm0:madeCells (#[]:Array Value) 0 = #[]:=by simp [madeCells]
 have hrun:(execOp a.eval ⟨dst,.buildSlice t 0 #[],ty,pos,af,g⟩).run P w=.ok (.value (.slice (some ⟨w.heap.size,0,none⟩) 0 0)) (w.alloc (.cells #[] e)):=by
  simp [execOp,Instr.buildSlice,run_underlying si,Cc hsi,Instr.fill,newRow]
  simp [Array.range_zero']
 unfold Oper.wp
 rw[hrun]
 exact hK _ _ S (Ext.alloc w S _) (r.sl.ext (Ext.alloc w S _)) (D4 (.nix _))
theorem Ay3 {t' t2 e bytes n m:Nat} {zl ys:List Lf} {x y:Operand} {sy:SV} (si:P.underlying t'=some (.slice e)) (ei:EI P e sz bytes zl) (h2:NI P t2) (hx:Bg st x=.s (.one .nix)) (hy:Bg st y=.s sy) (hpub:sy.cells.all Lf.pubd=true) (hs:Aji P sy sz m ys)
  (hb:m*bytes<=140737488355328) (h63:m<=maxLen) (hn:n=m) :
  OpD P c st (.call { callee:=.builtin .append,args:=#[x,y],argTypes:=#[t',t2] }) ty (.s (.one (.sl n ys))):=by
 subst hn
 by_cases h0:n=0
 ·subst h0
  intro a w S H r dst pos af g K Q hK
  have hx':=Ax r x
  rw[hx] at hx'
  obtain⟨b,hv⟩:=A7m (hx':Rep w S .nix (a.eval x))
  have hy':=Ax r y
  rw[hy] at hy'
  obtain⟨news,hsrc,hl,hls⟩:=hs.src (Aik hy' hpub)
  obtain⟨i,z,hi,hz,hsize,hbytes,hzs,hzl,hzo⟩:=ei.h
  have hys:ys=[]:=yE (by rw[hl,wZ])
  subst hys
  have hnews:news=[]:=yE (by rw[<- hls.1];rfl)
  subst hnews
  have hrun:=Xq (P:=P) (w:=w) (t:=t') (t2:=t2) (ty:=ty) (n:=0) (cap:=0) (base:=b) si hi hsize h2 hsrc (zT _)
  unfold Oper.wp
  have:(execOp a.eval ⟨dst,.call { callee:=.builtin .append,args:=#[x,y],argTypes:=#[t',t2] },ty,pos,af,g⟩).run P w=.ok (.value (.slice b 0 0)) w:=by
   simp [execOp,resolve,invoke,builtin,hv,hrun]
  rw[this]
  exact hK _ _ S (Ext.refl w S) r.sl (D4 (.sl0 _ _))
 ·refine Aht (e:=e) (sz:=sz) ei.p λa w S H r=>?_
  have hx':=Ax r x
  rw[hx] at hx'
  obtain⟨b,hv⟩:=A7m (hx':Rep w S .nix (a.eval x))
  have hy':=Ax r y
  rw[hy] at hy'
  obtain⟨news,hsrc,hl,hls⟩:=hs.src (Aik hy' hpub)
  obtain⟨i,z,hi,hz,hsize,hbytes,hzs,hzl,hzo⟩:=ei.h
  subst hsize
  subst hbytes
  have hnl:news.length=n*i.size:=by rw[<- hls.1,hl]
  have hfc:∀ w1:World,(∀ a,w1.cell? a=w.cell? a)->(Builtin.firstCells i.size 0 (.slice b 0 0)).run P w1=.ok ([]:List Value).toArray w1:=λw1 _=>by
   cases b with
   | none=>simp [Builtin.firstCells]
   | some b=>simp only[Builtin.firstCells,loadCells,wZ];first | rfl | (unfold loadCellsFrom;rfl) | (simp [loadCellsFrom])
  have hrun:=Xk (P:=P) (w:=w) (t:=t') (t2:=t2) (ty:=ty) (n:=0) (m:=n) (cap:=0) (base:=b) (olds:=[]) si hi hz h2 hsrc hfc (by omega) (by simp only[maxLen] at h63;omega) (growslice_fits (by omega) (by rw[yT];exact hb))
  rw[yT] at hrun
  have hcap:=grownCap_ge w n 0 e
  have hcm:grownCap w n 0 e<=maxLen:=grownCap_le_maxLen w n 0 e h63
  have hx:Ext w S (w.drew.alloc (.cells (([]:List Value).toArray++news.toArray++Builtin.zeroCells z.cells (grownCap w n 0 e-n)) e)) S:=(Ext.drew w S).trans (Ext.alloc w.drew S _)
  refine⟨.slice (some ⟨w.heap.size,0,none⟩) n (grownCap w n 0 e),_,news,λ_ _ _ _=>by simp only[execOp,resolve,invoke,builtin];simp [hv,hrun],hx,r.sl.ext hx,?_,hls.mono λl v=>Rep.mono (hx.keeps r.sl)⟩
  refine⟨hnl,.inr ⟨w.heap.size,_,_,rfl,zT _,heap_alloc_new w.drew _,hcap,hcm,?_,?_⟩⟩
  ·simp only[wQ,yI,jG,size_zeroCells,hzs,hnl,yT,<- wJ]
   congr 1;omega
  ·rw[<- hnl]
   simp
theorem Ax3 {t' t2 e bytes:Nat} {zl:List Lf} {x y:Operand} {us:List α} (si:P.underlying t'=some (.slice e)) (ei:EI P e sz bytes zl) (h2:NI P t2) (hf:∀ x,(f x).length=sz) (hx:Bg st x=.s (.one .nix)) (hy:Bg st y=.s (.one (.sl us.length (us.flatMap f))))
  (hb:us.length*bytes<=140737488355328) (hbp:0<bytes):OpD P c st (.call { callee:=.builtin .append,args:=#[x,y],argTypes:=#[t',t2] }) ty (.s (.one (.sl us.length (us.flatMap f)))):=by
 refine Ay3 si ei h2 hx hy rfl (.sl _ _ _ (A4 hf us)) hb ?_ rfl
 have:us.length<=us.length*bytes:=jC _ hbp
 simp only[maxLen];omega
end
open Go.RowKit
section
variable {ls:List Lf} {x:Operand}
structure FT (P:Program) (s:TypeId) (f off:Nat) (ft:TypeId):Prop where
 h:∃ fs fld,P.underlying s=some (.struct fs)/\fs[f]? = some fld/\fld.offset=off/\fld.type=ft
section
variable {P:Program} {c:Ctx} {st:AS} {ty:TypeId}
theorem Arl {s f off ft:Nat} {y:Lf} (h:FT P s f off ft) (ti:TI P ft false 1) (hx:Bg st x=.s (.agg ls)) (hy:ls[off]? = some y):OpV P c st (.field s x f) ty (.s (.one y)):=by
 intro a w S H r
 have h1:=Ax r x
 rw[hx] at h1
 obtain⟨cs,hv,hl,hr⟩:=h1
 obtain⟨fs,fld,hu,hf,ho,ht⟩:=h.h
 have hj:off<cs.size:=by
  have:=(zB.1 hy).1
  rw[hl] at this
  simpa using this
 have hg:cs[off]? = some cs[off]:=z9 hj
 refine⟨cs[off],hr off y _ hy (by simp),λ_ _ _ _=>?_⟩
 subst ho ht
 simp [execOp,hv,Instr.field,run_underlying hu,hf,part,asAgg,ti.run_isAgg,hg]
theorem Aq4 {s f off ft sz:Nat} (h:FT P s f off ft) (ti:TI P ft true sz) (hx:Bg st x=.s (.agg ls)) (hb:off+sz<=ls.length):OpV P c st (.field s x f) ty (.s (.agg ((ls.drop off).take sz))):=by
 intro a w S H r
 have h1:=Ax r x
 rw[hx] at h1
 obtain⟨cs,hv,hl,hr⟩:=h1
 obtain⟨fs,fld,hu,hf,ho,ht⟩:=h.h
 have hsz:cs.size=ls.length:=by rw[hl];simp
 subst ho ht
 refine⟨.agg (cs.extract fld.offset (fld.offset+sz)),⟨_,rfl,by simp [hsz],λj l u hj hu=>?_⟩,λ_ _ _ _=>by simp [execOp,hv,Instr.field,run_underlying hu,hf,part,asAgg,ti.run_isAgg,Cc ti.i]⟩
 rw[yR] at hj
 split at hj
 ·rw[yP] at hj
  refine hr _ l u hj ?_
  rw[Array.toList_extract,List.extract_eq_take_drop,yR] at hu
  split at hu
  ·rw[yP] at hu;exact hu
  ·cases hu
 ·cases hj
end
end
open Go.RowKit
theorem Arr (zl:List Lf) (n:Nat):(Agy zl n).map Lf.canon=Agy (zl.map Lf.canon) n:=by
 unfold Agy
 rw[List.map_map,zP]
 apply xU
 intro j _
 simp only[Function.comp,List.getD_eq_getElem?_getD,zK]
 cases zl[j % zl.length]? <;> rfl
theorem Af5 {w:World} {S:Dx} {ls:List Lf} {vs:List Value} (h:LsR (Rep w S) ls vs):LsR (Rep w S) (ls.map Lf.canon) vs:=by
 refine⟨by simpa using h.1,λj l u hl hu=>?_⟩
 rw[zK] at hl
 cases hx:ls[j]? with
 | none=>rw[hx] at hl;cases hl
 | some l' =>
  rw[hx] at hl
  cases hl
  exact Asb (h.2 j l' u hx hu)
section
variable {P:Program} {c:Ctx} {t:Nat->AV} {m:List Blk} {ops:Array Oper} {Q:Exit->AS->Prop} {rest:List Oper} {ty:TypeId} {pos:String} {af:Array Edge} {d:Tmp} {α:Type} {f:α->List Lf} {sz:Nat}
theorem A5g {x y:Operand} {t' t2 e bytes:Nat} {zl:List Lf} {k kn:IntKind} {n:Int} {z:α} (hd:decide (d<c.nt)=true) (si:P.underlying t'=some (.slice e)) (ei:EI P e sz bytes zl) (h2:P.underlying t2=some (.int kn)) (hf:∀ x,(f x).length=sz) (hz:f z=zl.map Lf.canon) (hx:Bg ⟨t,m⟩ x=.s (.one (.raw (.slice none 0 0)))) (hy:Bg ⟨t,m⟩ y=.s (.one (.i k n)))
  (h:0<n/\n*(bytes:Int)<=281474976710656) (hb:0<bytes)
  (kk:AWL P c ops Q rest ⟨upd t d (.s (.one (.ls m.length (List.replicate n.toNat z).length))),m++[.arr e sz 0 ((List.replicate n.toNat z).flatMap f)]⟩) :
  AWL P c ops Q (⟨some d,.call { callee:=.builtin .append,args:=#[x,y],argTypes:=#[t',t2] },ty,pos,af,none⟩::rest) ⟨t,m⟩:=by
 obtain⟨N,rfl⟩:∃ N:Nat,n=(N:Int):=⟨n.toNat,by omega⟩
 have hN:0<N:=by omega
 have h48:N*bytes<=281474976710656:=by have:=h.2;rw[<- Int.natCast_mul] at this;omega
 have hle:N<=N*bytes:=jC _ hb
 rw[z6,List.length_replicate,<- Atr hz hf,<- Arr] at kk
 refine Yf (e:=e) (sz:=sz) (n:=N) (cs:=(Agy zl (N*sz)).map Lf.canon) ei.p (of_decide_eq_true hd) (λa w S H r=>?_) kk
 obtain⟨i,zz,hi,hzz,hsize,hbytes,hzs,hzl,hzo⟩:=ei.h
 have hx':=Ax r x
 rw[hx] at hx'
 have hv:a.eval x=.slice none 0 0:=Ix hx'
 have hy':=Ax r y
 rw[hy] at hy'
 have ev:a.eval y=.int k N:=T4 hy'
 subst hsize hbytes
 have hrun:=Lib.run_append_nil_zeros (P:=P) w t' t2 ty e i zz k kn si h2 hi hzz N hN ei.p (by omega) h48
 have hcap:=grownCap_ge w N 0 e
 have hcm:grownCap w N 0 e<=maxLen:=grownCap_le_maxLen w N 0 e (by simp only[maxLen];omega)
 have hlen1:(Builtin.zeroCells zz.cells N).size=N*i.size:=by rw[size_zeroCells,hzs]
 refine⟨.slice (some ⟨w.heap.size,0,none⟩) N (grownCap w N 0 e),w.drew.alloc (.cells (Builtin.zeroCells zz.cells N++Builtin.zeroCells zz.cells (grownCap w N 0 e-N)) e),(Builtin.zeroCells zz.cells N).toList,λ_ _ _ _=>by simp [execOp,resolve,invoke,builtin,hv,ev,hrun],?_,r.sl.ext ((Ext.drew w S).trans (Ext.alloc w.drew S _)),?_,?_⟩
 ·exact(Ext.drew w S).trans (Ext.alloc w.drew S _)
 ·refine⟨by rw[yL,hlen1],.inr ⟨w.heap.size,grownCap w N 0 e,_,rfl,zT _,heap_alloc_new w.drew _,hcap,hcm,?_,?_⟩⟩
  ·simp only[wQ,size_zeroCells,hzs,<- wJ]
   congr 1;omega
  ·simp only[kV]
   rw[kT (by rw[yL,hlen1])]
 ·have:=Ao9 (w:=w.drew.alloc (.cells (Builtin.zeroCells zz.cells N++Builtin.zeroCells zz.cells (grownCap w N 0 e-N)) e)) (S:=S) (z:=zz) (by rw[hzs];exact ei.p) hzo (N*i.size) (N*i.size) (zT _)
  have e2:(madeCells zz.cells (N*i.size)).toList.take (N*i.size)=(Builtin.zeroCells zz.cells N).toList:=by
   rw[yJ (by rw[yL,size_madeCells];exact zT _)]
   unfold madeCells Builtin.zeroCells
   rw[hzs]
  rw[e2] at this
  rw[<- hzl]
  exact Af5 this
end
open Go.RowKit
section
variable {cs:List Lf} {H:Nat->Value}
theorem Rel.canonArr {c:Ctx} {st:AS} {a:Act} {w:World} {S:Dx} (r:Rel c st a w S H) {e sz p:Nat} (hm:st.m[p]? = some (.arr e sz 0 cs)):Rel c ⟨st.t,st.m.set p (.arr e sz 0 (cs.map Lf.canon))⟩ a w S H:=by
 have hp:p<st.m.length:=(zB.1 hm).1
 obtain⟨hsz,hk,n0,vals,hown,hcs,hstb⟩:=r.bl p _ hm
 have hset:Te H p (H p)=H:=by
  funext q
  by_cases e':q=p
  ·rw[e',Ba]
  ·exact Bv H _ e'
 have hch:=r.change (m':=st.m.set p (.arr e sz 0 (cs.map Lf.canon))) (p:=p) (b':=.arr e sz 0 (cs.map Lf.canon)) (v:=H p) (w':=w) (S':=S)
  (by simp) (by rw[zN hp]) (λj hj=>zS (λe=>hj e.symm)) (λb j h=>⟨h,rfl⟩) (λ_ _ _=>rfl)
  (λe' sz' k' cs' _ h=>by cases h;exact⟨0,cs,hm,.inl ⟨by simp,rfl⟩⟩)
  (λg' _ _=>rfl) ?_ (λg' hg'=>?_) (λ_ _ _ _ _ _ _ hs=>hs) (λ_ _ _ _ hs=>hs) r.sl.two (zT _) rfl rfl rfl
 ·rw[hset] at hch;exact hch
 ·rw[hset]
  exact⟨hsz,zU _,n0,vals,hown,Af5 hcs,λg' _ j hj=>absurd hj (zW _)⟩
 ·have hownp:(Blk.arr e sz 0 cs).own (H p)=some g':=hg'
  exact⟨(r.lo p _ g' hm hownp).1,(r.lo p _ g' hm hownp).2,λj b hj hb ho=>hj (r.inj j p b _ g' hb hm ho hownp),λj hj=>(show j<0 from r.sb p _ g' j hm hownp hj)⟩
section
variable {P:Program} {c:Ctx} {t:Nat->AV} {m:List Blk} {ops:Array Oper} {Q:Exit->AS->Prop} {rest:List Oper} {ty:TypeId} {pos:String} {af:Array Edge} {d:Tmp} {α:Type} {f:α->List Lf} {sz:Nat}
theorem Aq8 {l:List Oper} {e p:Nat} (hm:m[p]? = some (.arr e sz 0 cs)) (k:AWL P c ops Q l ⟨t,m.set p (.arr e sz 0 (cs.map Lf.canon))⟩):AWL P c ops Q l ⟨t,m⟩ :=
 λa w S H r=>k a w S H (r.canonArr hm)
end
end
open Go.RowKit
section
variable {st:AS} {a:Act} {args:Array Value} {c:Ctx} {R:Ending->World->Prop} {Z:List (Nat×Obj)} {l n:Nat} {H:Nat->Value} {o:Obj} {rd:Option Nat} {P:Program} {S:Dx} {w:World}
def FW (rd:Option Nat):Fence:={ Fence.wide with round:=rd }
theorem Ah6 {f:FuncId} (h:Calls P f args w R):CallsIn (FW rd) n P f args w R :=
  (callsIn_wide (n:=n)).2 h
theorem Asp {row:String} {R:Value->World->Prop} (h:Rows P row args w R):RowsIn (FW rd) n P row args w R :=
  λc cs _=>let ⟨v,w',r,s⟩:=h c cs;⟨v,w',r,(stepsIn_wide).2 s⟩
def dsl (a:Act) (ds:List Deferred):Act:={ a with defers:=ds }
theorem Agj (a:Act) (ds:List Deferred) (d:Option Tmp) (v:Value):dsl (a.put d v) ds=(dsl a ds).put d v:=by cases d <;> rfl
theorem Od (a:Act) (d:Option Tmp) (v:Value):(a.put d v).defers=a.defers:=by cases d <;> rfl
theorem Aqf {ds:List Deferred} (h:a.defers=ds):dsl a ds=a:=by subst h;rfl
theorem Ai2 (a:Act) (ds:List Deferred):(dsl a ds).eval=a.eval:=by funext x;cases x <;> rfl
def ndf (o:Oper):Bool:=match o.op with
  | .defer _=>false
  | _=>true
section
variable {P:Program} {ops:Array Oper} {K K':Act->World->Prop} {Q1 Q2:Exit->Act->World->Prop} {ds:List Deferred} {rd:Option Nat}
theorem A14 {o:Oper} (hno:¬ LetsOut Q1) (hK:∀ a w,K a w->a.defers=[]) (hQ:∀ e a w,Q1 e a w->a.defers=[]) (h:o.wp P a w K Q1):a.defers=[]:=by
  unfold Oper.wp at h
  generalize (execOp a.eval o).run P w=r at h
  cases r with
  | ok nx w' =>
    cases nx with
    | value v=>have:=hK _ _ h;rwa [Od] at this
    | skip=>have:=hK _ _ h;rwa [Od] at this
    | defer d=>have:=hK _ _ h;rw[Od] at this;cases this
    | enter f args =>
      have h':Calls P f args w' _:=h
      obtain⟨e,w'',fr,hr,_⟩:=h' []
      cases e with
      | returned v=>have:=hK _ _ hr;rwa [Od] at this
      | panicked ch=>exact hQ _ _ _ hr
      | outgrown=>exact absurd hr hno
    | row row args =>
      have h':Rows P row args w' _:=h
      obtain⟨v,w'',hr,_⟩:=h' default []
      have:=hK _ _ hr;rwa [Od] at this
    | _=>exact absurd h id
  | halt x w' =>
    cases x with
    | panic v=>exact hQ _ _ _ h
    | _=>exact absurd h id
theorem A04 {o:Oper} (hd:ndf o=true) (hno:¬ LetsOut Q1) (hnd:∀ a w,K a w->a.defers=[]) (hK:∀ a w,K a w->K' (dsl a ds) w) (hQ:∀ e a w,Q1 e a w->Q2 e (dsl a ds) w)
    (h:o.wp P a w K Q1):o.wpIn (FW rd) 0 P (dsl a ds) w K' Q2:=by
  refine⟨λ_ _=>trivial,?_⟩
  have e2:o.semAt (FW rd).round (dsl a ds).eval=execOp a.eval o:=by
    rw[Ai2]
    cases rd with
    | none=>exact Oper.semAt_none _ _
    | some l=>exact Oper.semAt_some l _ o (λc hc=>by simp only[ndf,hc] at hd;cases hd)
  rw[e2]
  unfold Oper.wp at h
  generalize (execOp a.eval o).run P w=r at h
  cases r with
  | ok nx w' =>
    cases nx with
    | value v=>have:=hK _ _ h;rw[Agj] at this;exact this
    | skip=>have:=hK _ _ h;rw[Agj] at this;exact this
    | defer d=>have:=hnd _ _ h;rw[Od] at this;cases this
    | enter f args =>
      refine⟨λhh=>(by simp [FW,Fence.wide] at hh),Ah6 ?_⟩
      have h':Calls P f args w' _:=h
      refine h'.mono λe w'' hr=>?_
      cases e with
      | returned v=>have:=hK _ _ hr;rw[Agj] at this;exact this
      | panicked ch=>exact hQ _ _ _ hr
      | outgrown=>exact absurd hr hno
    | row row args =>
      refine⟨λhh=>(by simp [FW,Fence.wide] at hh),Asp ?_⟩
      have h':Rows P row args w' _:=h
      refine h'.mono λv w'' hr=>?_
      have:=hK _ _ hr;rw[Agj] at this;exact this
    | _=>exact absurd h id
  | halt x w' =>
    cases x with
    | panic v=>exact hQ _ _ _ h
    | _=>exact absurd h id
theorem Age (hno:¬ LetsOut Q1) (hQ:∀ e a w,Q1 e a w->a.defers=[]):∀ (l:List Oper) (a:Act) (w:World),wpList P ops Q1 l a w->a.defers=[]
  | [],a,w,h=>hQ _ _ _ h
  | o::rest,a,w,h=>by
    unfold wpList at h
    split at h
    · rcases h with h|h
      · exact A14 hno (λa w=>Age hno hQ rest a w) hQ h
      · exact absurd h.2 hno
    · have:=Age hno hQ rest _ _ h
      rwa [Od] at this
theorem Af7 (hno:¬ LetsOut Q1) (hnd:∀ e a w,Q1 e a w->a.defers=[]) (hQ:∀ e a w,Q1 e a w->Q2 e (dsl a ds) w):∀ (l:List Oper),l.all ndf=true->∀ (a:Act) (w:World),wpList P ops Q1 l a w->wpListIn (FW rd) 0 P ops Q2 l (dsl a ds) w
  | [],_,a,w,h=>hQ _ _ _ h
  | o::rest,hl,a,w,h=>by
    simp only[wL,zG] at hl
    unfold wpList at h
    unfold wpListIn
    have ih:=Af7 hno hnd hQ rest hl.2
    by_cases hw:Region.wanted o (yielded ops a.tmps)=true
    · rw[if_pos hw] at h
      rw[if_pos (show Region.wanted o (yielded ops (dsl a ds).tmps)=true from hw)]
      rcases h with h|h
      · exact A04 hl.1 hno (Age hno hnd rest) ih hQ h
      · exact absurd h.2 hno
    · rw[if_neg hw] at h
      rw[if_neg (show ¬ Region.wanted o (yielded ops (dsl a ds).tmps)=true from hw)]
      have:=ih _ _ h
      rw[Agj] at this
      exact⟨λ_ _=>trivial,this⟩
end
def A4g (m:List Blk) (H:Nat->Value) (g:Nat):Prop:=∃ (p:Nat) (b:Blk),m[p]? = some b/\b.own (H p)=some g
abbrev Ctx.now (c:Ctx) (st:AS) (w:World) (S:Dx) (H:Nat->Value):Ctx:=⟨w,S,c.nt,A4g st.m H,st.m,H⟩
theorem Rel.now (r:Rel c st a w S H):Rel (c.now st w S H) st a w S H :=
  ⟨r.nt,r.df,r.tm,r.bl,λp b g hb ho=>⟨.inr ⟨p,b,hb,ho⟩,(r.lo p b g hb ho).2⟩,r.inj,r.sb,r.sl,Aam.refl _ _ _,zT _,λ_ _ _ _=>rfl,
   λp e sz k cs hp hm=>⟨k,cs,hm,.inl ⟨rfl,rfl⟩⟩,λ_ _ h=>h⟩
theorem Aam.then_now {w':World} {S':Dx} (r:Rel c st a w S H) (x:Aam (A4g st.m H) w S w' S'):Aam c.X c.w0 c.S0 w' S':=by
  have k:=r.ex
  have nx:∀ b,b<c.w0.heap.size->¬ c.X b->¬ A4g st.m H b:=λb hb hx ⟨p,bb,h1,h2⟩=>by
    rcases(r.lo p bb b h1 h2).1 with h|h
    · omega
    · exact hx h
  refine⟨x.os.trans k.os,x.tape.trans k.tape,x.output.trans k.output,yU k.size x.size,λb hb hx=>?_,λb i hs=>x.sub b i (k.sub b i hs),λb i hs=>(x.stab b i (k.sub b i hs)).trans (k.stab b i hs),λb i hb hx hs=>?_⟩
  · exact(x.blk b (zY hb k.size) (nx b hb hx)).trans (k.blk b hb hx)
  · exact k.back b i hb hx (x.back b i (zY hb k.size) (nx b hb hx) hs)
theorem Rel.then_now {st':AS} {a':Act} {w':World} {S':Dx} {H':Nat->Value} (r:Rel c st a w S H) (r':Rel (c.now st w S H) st' a' w' S' H'):Rel c st' a' w' S' H':=by
  refine⟨r'.nt,r'.df,r'.tm,r'.bl,λp b g hb ho=>?_,r'.inj,r'.sb,r'.sl,Aam.then_now r r'.ex,yU r.kl r'.kl,λp g hp hh=>?_,λp e sz k cs hp hm=>?_,λp hp hne=>r'.ku p (zY hp r.kl) (r.ku p hp hne)⟩
  · obtain⟨h1,h2⟩:=r'.lo p b g hb ho
    refine⟨?_,h2⟩
    rcases h1 with h1|⟨q,bb,h3,h4⟩
    · exact .inl (yU r.ex.size h1)
    · exact(r.lo q bb g h3 h4).1
  · have h1:=r.kh p g hp hh
    exact(r'.kh p g (zY hp r.kl) (h1.trans hh)).trans h1
  · obtain⟨k1,cs1,h1,h2⟩:=r'.kr p e sz k cs (zY hp r.kl) hm
    obtain⟨k2,cs2,h3,h4⟩:=r.kr p e sz k1 cs1 hp h1
    refine⟨k2,cs2,h3,?_⟩
    rcases h2 with⟨h2,h5⟩|h2 <;> rcases h4 with⟨h4,h6⟩|h4
    · exact .inl ⟨h4.trans h2,h5.trans h6⟩
    · exact .inr (by omega)
    · exact .inr (by omega)
    · exact .inr (by omega)
theorem Aly {base:Nat} {m:List Blk} {b:Blk} {v:Value} {g:Nat} (h:Au9 base w S m H b v) (ho:b.own v=some g):∃ o,w.heap[g]? = some o/\Ag3 o=true:=by
  cases b with
  | dead=>cases ho
  | hole=>cases ho
  | obj g' mk cs =>
    obtain⟨h1,vs,o,h2,h3,_⟩:=h
    rw[h1] at ho
    have:g'=g:=by simpa [Blk.own,Cz] using ho
    subst this
    exact⟨o,h2,Amg h3⟩
  | tab mk cs =>
    obtain⟨g',h1,vs,o,h2,h3,_⟩:=h
    rw[h1] at ho
    have:g'=g:=by simpa [Blk.own,Cz] using ho
    subst this
    exact⟨o,h2,Amg h3⟩
  | arn e sz g' n cap cs =>
    obtain⟨h1,cur,h2,_⟩:=h
    rw[h1] at ho
    have:g'=g:=by simpa [Blk.own,Cz] using ho
    subst this
    exact⟨_,h2,rfl⟩
  | box cs =>
    obtain⟨g',e,cur,h1,h2,_⟩:=h
    rw[h1] at ho
    have:g'=g:=by simpa [Blk.own,Cz] using ho
    subst this
    exact⟨_,h2,rfl⟩
  | arr e sz k cs =>
    obtain⟨_,_,n,vals,h1,_⟩:=h
    rcases h1.2 with⟨hv,_⟩|⟨g',cap,cur,hv,_,hg,_⟩
    · rw[hv] at ho;cases ho
    · rw[hv] at ho
      have:g'=g:=by simpa [Blk.own,Cz] using ho
      subst this
      exact⟨_,hg,rfl⟩
def Zed (w:World) (Z:List (Nat×Obj)):Prop:=∀ x∈Z,w.heap[x.1]? = some x.2/\Ag3 x.2=false
theorem Zed.now {w':World} {S':Dx} (r:Rel c st a w S H) (x:Aam (A4g st.m H) w S w' S') (z:Zed w Z):Zed w' Z:=λy hy=>by
  obtain⟨h1,h2⟩:=z y hy
  refine⟨(x.blk y.1 (yC.1 h1).1 λ⟨p,b,h3,h4⟩=>?_).trans h1,h2⟩
  obtain⟨o,h5,h6⟩:=Aly (r.bl p b h3) h4
  rw[h1] at h5
  have:y.2=o:=zF h5
  rw[this,h6] at h2
  cases h2
theorem Zed.ext {w':World} {S':Dx} (x:Ext w S w' S') (z:Zed w Z):Zed w' Z:=λy hy=>by
  obtain⟨h1,h2⟩:=z y hy
  exact⟨(x.blk y.1 (yC.1 h1).1).trans h1,h2⟩
theorem Afn (h:Ag3 o=false):o.isCells=false:=by cases o <;> first|rfl|cases h
theorem Zy {o':Obj} (h:w.heap[l]? = some o) (ho:Ag3 o=false) (ho':Ag3 o'=false) (a:Addr):(w.putObj l o').cell? a=w.cell? a:=by
  have ho:=Afn ho
  have ho':=Afn ho'
  by_cases e:a.block=l
  · have h1:(w.putObj l o').heap[a.block]? = some o':=by rw[e];exact World.putObj_heap_same (yC.1 h).1
    have h2:w.heap[a.block]? = some o:=by rw[e];exact h
    unfold World.cell?
    rw[h1,h2]
    cases o <;> first|cases ho;done|(cases o' <;> first|rfl|(simp [Obj.isCells] at ho';done)|(simp [Obj.isCells] at ho;done))
  · exact World.cell?_of_block (World.putObj_heap_other e)
theorem Rel.putObj (r:Rel c st a w S H) (o':Obj) (h:w.heap[l]? = some o) (ho:Ag3 o=false) (ho':Ag3 o'=false) (hl:c.w0.heap.size<=l):Rel c st a (w.putObj l o') S H:=by
  have hc:=Zy (o':=o') h ho ho'
  have hk:∀ b i,S b i->S b i/\(w.putObj l o').cell? ⟨b,i,none⟩=w.cell? ⟨b,i,none⟩:=λb i hs=>⟨hs,hc _⟩
  have hg:∀ x v,Bf w S st.m H x v->Bf (w.putObj l o') S st.m H x v:=λx v=>Bf.mono hk (zT _) (λ_ _=>rfl) (λp e sz k cs _ hm=>⟨k,cs,hm,rfl⟩)
  have hb:∀ (p:Nat) (b:Blk) (g:Nat),st.m[p]? = some b->b.own (H p)=some g->(w.putObj l o').heap[g]? = w.heap[g]? := λp b g h1 h2=>by
    refine World.putObj_heap_other λe=>?_
    subst e
    obtain⟨o2,h5,h6⟩:=Aly (r.bl p b h1) h2
    rw[h] at h5
    have:o=o2:=zF h5
    rw[this,h6] at ho
    cases ho
  refine⟨r.nt,r.df,λi=>AVR.mono hg (r.tm i),λp b hbb=>?_,λp b g h1 h2=>⟨(r.lo p b g h1 h2).1,by rw[World.putObj_size];exact(r.lo p b g h1 h2).2⟩,r.inj,r.sb,r.sl.turn (·=l) (λg i e hs hn=>by
    subst e
    obtain⟨⟨cur,e',h1,_⟩,_⟩:=r.sl.2.2 g i hs hn
    rw[h] at h1
    cases h1
    cases ho) (λq _ hne=>World.putObj_heap_other hne) (by rw[World.putObj_size];exact zT _) (λb i hs=>hc _),?_,r.kl,r.kh,r.kr,r.ku⟩
  · have hr:=r.bl p b hbb
    have hbo:=hb p b
    cases b with
    | dead=>trivial
    | hole=>exact hr
    | obj g mk cs =>
      obtain⟨h1,vs,o,h2,h3,h4,h5⟩:=hr
      exact⟨h1,vs,o,(hbo g hbb (by rw[h1];rfl)).trans h2,h3,h4,h5.mono (λl v=>Rep.mono hk)⟩
    | tab mk cs =>
      obtain⟨g,h1,vs,o,h2,h3,h4,h5⟩:=hr
      exact⟨g,h1,vs,o,(hbo g hbb (by rw[h1];rfl)).trans h2,h3,h4,h5.mono (λl v=>Rep.mono hk)⟩
    | arn e sz g n cap cs =>
      obtain⟨h1,cur,h2,h3,h4⟩:=hr
      exact⟨h1,cur,(hbo g hbb (by rw[h1];rfl)).trans h2,h3,h4.mono hg⟩
    | box cs =>
      obtain⟨g,e,cur,h1,h2,h3⟩:=hr
      exact⟨g,e,cur,h1,(hbo g hbb (by rw[h1];rfl)).trans h2,h3.mono hg⟩
    | arr e sz k cs =>
      obtain⟨h0,hk1,n,vals,h1,h2,h3⟩:=hr
      exact⟨h0,hk1,n,vals,Iq h1 (λg hgo=>hbo g hbb hgo),h2.mono (λl v=>Rep.mono hk),h3⟩
  · have x:=r.ex
    exact⟨x.os,x.tape,x.output,by rw[World.putObj_size];exact x.size,λb hbb hx=>(World.putObj_heap_other (by omega)).trans (x.blk b hbb hx),x.sub,λb i hs=>(hc _).trans (x.stab b i hs),x.back⟩
theorem Zed.putObj (z:Zed w Z) (hl:∀ x∈Z,x.1≠l):Zed (w.putObj l o) Z:=λy hy =>
  ⟨(World.putObj_heap_other (hl y hy)).trans (z y hy).1,(z y hy).2⟩
end
open Go.RowKit
section
variable {st:AS} {n:AS->Prop} {a:Act} {body x:Code} {c:Ctx} {R:Ending->World->Prop} {fn:Func} {id:Nat} {H:Nat->Value} {P:Program} {S:Dx} {G:Type}
structure FrK where
 ds:List Deferred
 Z:List (Nat×Obj)
def Amd (Q:Exit->AS->Prop):Prop:=∀ st,¬ Q .outgrown st
def QI (c:Ctx) (ok:FrK->Prop) (K:FrK) (Q:Exit->AS->Prop):Exit->Act->World->Prop:=λe a w =>
 ∃ K' st S H a0,ok K'/\(∀ z∈K.Z,z∈K'.Z)/\a=dsl a0 K'.ds/\Rel c st a0 w S H/\Zed w K'.Z/\Q e st
def AWI (rd:Option Nat) (P:Program) (c:Ctx) (ok:FrK->Prop) (x:Code) (Q:Exit->AS->Prop) (st:AS):Prop :=
 Amd Q->∀ K,ok K->∀ a w S H,Rel c st a w S H->Zed w K.Z->x.wpIn (FW rd) 0 P (QI c ok K Q) (dsl a K.ds) w
section
variable {rd:Option Nat} {P:Program} {c:Ctx} {ok:FrK->Prop} {Q:Exit->AS->Prop} {t:Nat->AV} {m:List Blk}
theorem Amd.then (h:Amd Q):Amd (Gx n Q):=λst hs=>h st hs
theorem Amd.block (h:Amd Q):Amd (Gy id Q):=λst hs=>h st hs
theorem Gw {l:List Oper} (hnd:l.all ndf=true) (h:∀ w0 S0 X m0 H0,AWL P ⟨w0,S0,c.nt,X,m0,H0⟩ l.toArray Q l ⟨t,m⟩):AWI rd P c ok (.region id l.toArray false) Q ⟨t,m⟩:=by
 intro hq K hK a w S H r z
 refine wpIn_region_lit (Af7 (Q1:=QR (c.now ⟨t,m⟩ w S H) Q) ?_ ?_ ?_ l hnd a w (h _ _ _ _ _ a w S H r.now))
 ·rintro⟨a,w,st,S,H,_,h⟩;exact hq st h
 ·rintro e a w ⟨st,S,H,r,_⟩;exact r.df
 ·rintro e a' w' ⟨st',S',H',r',h⟩
  exact⟨K,st',S',H',a',hK,λ_ h=>h,rfl,r.then_now r',z.now r r'.ex,h⟩
theorem AWI.mono {Q Q':Exit->AS->Prop} (h:AWI rd P c ok x Q st) (hq:∀ e st,Q e st->Q' e st):AWI rd P c ok x Q' st:=by
 intro hn K hK a w S H r z
 refine wpIn_mono (h (λst hs=>hn st (hq _ _ hs)) K hK a w S H r z) ?_
 rintro e a w ⟨K',st,S,H,a0,h1,h2,h3,h4,h5,h6⟩
 exact⟨K',st,S,H,a0,h1,h2,h3,h4,h5,hq _ _ h6⟩
theorem Ag9 {y:Code} (h:AWI rd P c ok x (Gx (AWI rd P c ok y Q) Q) ⟨t,m⟩):AWI rd P c ok (.seq x y) Q ⟨t,m⟩:=by
 intro hn K hK a w S H r z
 refine wpIn_seq (wpIn_mono (h hn.then K hK a w S H r z) ?_)
 rintro e a w ⟨K',st,S,H,a0,h1,h2,rfl,h4,h5,h6⟩
 cases e with
 | normal =>
  have h6':AWI rd P c ok y Q st:=h6
  refine wpIn_mono (h6' hn K' h1 a0 w S H h4 h5) ?_
  rintro e a w ⟨K2,st,S,H,a0,g1,g2,g3,g4,g5,g6⟩
  exact⟨K2,st,S,H,a0,g1,λz hz=>g2 z (h2 z hz),g3,g4,g5,g6⟩
 | _=>exact⟨K',st,S,H,a0,h1,h2,rfl,h4,h5,h6⟩
theorem A75 (h:Q .normal ⟨t,m⟩):AWI rd P c ok .skip Q ⟨t,m⟩:=λ_ K hK a _ S H r z=>wpIn_skip ⟨K,_,S,H,a,hK,λ_ h=>h,rfl,r,z,h⟩
theorem A2q (h:Q .ret ⟨t,m⟩):AWI rd P c ok .ret Q ⟨t,m⟩:=λ_ K hK a _ S H r z=>wpIn_ret ⟨K,_,S,H,a,hK,λ_ h=>h,rfl,r,z,h⟩
theorem Ahl (h:AWI rd P c ok x (Gy id Q) ⟨t,m⟩):AWI rd P c ok (.block id x) Q ⟨t,m⟩:=by
 intro hn K hK a w S H r z
 refine wpIn_block (wpIn_mono (h hn.block K hK a w S H r z) ?_)
 rintro e a w ⟨K',st,S,H,a0,h1,h2,h3,h4,h5,hq⟩
 cases e with
 | exit id' =>
  simp only[Gy] at hq
  simp only[Exit.inBlock]
  split
  ·rename_i h;rw[if_pos h] at hq;exact⟨K',st,S,H,a0,h1,h2,h3,h4,h5,hq⟩
  ·rename_i h;rw[if_neg h] at hq;exact⟨K',st,S,H,a0,h1,h2,h3,h4,h5,hq⟩
 | _=>exact⟨K',st,S,H,a0,h1,h2,h3,h4,h5,hq⟩
theorem A2u {o:Operand} {y:Code} {b:Bool} (ho:Bg ⟨t,m⟩ o=.s (.one (.b b))) (h1:b=true->AWI rd P c ok x Q ⟨t,m⟩) (h0:b=false->AWI rd P c ok y Q ⟨t,m⟩):AWI rd P c ok (.cond o x y) Q ⟨t,m⟩:=by
 intro hn K hK a w S H r z
 have h:=Ax r o
 rw[ho] at h
 have hv:(dsl a K.ds).eval o=.bool b:=by rw[Ai2];exact Aai (h:Rep w S (.b b) (a.eval o))
 exact wpIn_cond_split hv (λhb=>h1 hb hn K hK a w S H r z) (λhb=>h0 hb hn K hK a w S H r z)
end
def Adn (D:Nat):Deferred:={ target:=.collected D,args:=#[] }
def okO (c:Ctx) (K:FrK):Prop:=∃ Ds:List Nat,K.ds=Ds.map Adn/\K.Z=Ds.map (λD=>(D,.deferred (some [])))/\Ds.Nodup/\∀ D∈Ds,c.w0.heap.size<=D
def okB (K:FrK):Prop:=K.ds=[]
theorem Adl (hR:∀ w',Rel c st a w' S H->∃ v,(results fn a.tmps).run P w'=.ok v w'/\R (.returned v) w') :
  ∀ (Ds:List Nat) (w:World),Ds.Nodup->(∀ D∈Ds,c.w0.heap.size<=D)->Zed w (Ds.map (λD=>(D,.deferred (some []))))->Rel c st a w S H->LeavesInM Fence.wide 0 P fn a.tmps R (Ds.map Adn) .returning w
 | [],w,_,_,_,r=>hR w r
 | D::Ds,w,hn,hge,z,r=>by
  have hD:w.heap[D]? = some (.deferred (some [])):=(z (D,.deferred (some [])) (yQ ..)).1
  refine⟨by simp,.inl ⟨D,w.putObj D (.deferred none),rfl,run_takeDeferred hD,Adl hR Ds _ (wE.1 hn).2 (λD' h=>hge D' (yH _ h)) ?_ (r.putObj _ hD rfl rfl (hge D (yQ ..)))⟩⟩
  refine Zed.putObj (λx hx=>z x (yH _ hx)) λx hx e=>?_
  rw[yA] at hx
  obtain⟨D',h1,rfl⟩:=hx
  exact(wE.1 hn).1 (e ▸ h1)
theorem Acn {f:FuncId} {args:List SV} {R:AV->Prop} (hf:P.funcs[f]? = some fn) (hb:fn.body=some body) {nt:Nat} (hnt:fn.ntmps=nt) (hn:args.length<=nt)
  (h:∀ w0 S0,AWI none P (Ctx.of w0 S0 nt) (okO (Ctx.of w0 S0 nt)) body (A0r P fn R) ⟨Aqv args,[]⟩):Bc P f args R:=by
 subst hnt
 intro w S vs hS hv
 refine callsIn_wide.1 (callsIn_of_wp_marks (n:=0) hf hb trivial ?_)
 have hlen:vs.size=args.length:=by have:=hv.1;simp at this;omega
 have hget:∀ i,(vs++Array.replicate (fn.ntmps-vs.size) undef).getD i undef=vs.getD i undef:=by
  intro i
  simp only[zH,jK]
  split
  ·rfl
  ·rename_i hi
   rw[wP]
   have:vs[i]? = none:=wV (by omega)
   rw[this]
   split <;> rfl
 have r0:Rel (Ctx.of w S fn.ntmps) ⟨Aqv args,[]⟩ { tmps:=vs++Array.replicate (fn.ntmps-vs.size) undef,defers:=[] } w S (λ_=>undef):=by
  refine⟨by simp;omega,rfl,λi=>?_,λp b h=>by simp at h,λp b g h=>by simp at h,λp q b b' g h=>by simp at h,λp b g i h=>by simp at h,hS,Aam.refl _ w S,zU _,λp g h=>absurd h (zW _),λp e sz k cs h=>absurd h (zW _),λp h=>absurd h (zW _)⟩
  rw[hget]
  show AVR _ (match args[i]? with|some x=>.s x|none=>.tup []) _
  cases ha:args[i]? with
  | none =>
   have:vs[i]? = none:=wV (by rw[hlen];exact wD.1 ha)
   simp only[zH,this,zAb]
   exact Hn
  | some x =>
   have hi:i<args.length:=(zB.1 ha).1
   have hi':i<vs.size:=by omega
   have:vs[i]? = some vs[i]:=z9 hi'
   simp only[zH,this,yS]
   exact SVR.mono (λ_ _=>Bf.of_rep) (hv.2 i x _ ha (by simp))
 have hno:Amd (A0r P fn R):=λst hs=>by rcases hs.1 with h|h <;> cases h
 refine wpIn_mono (h w S hno ⟨[],[]⟩ ⟨[],rfl,rfl,kM,λD h=>by cases h⟩ _ w S _ r0 (λx h=>by cases h)) ?_
 rintro e a w1 ⟨K',st,S1,H,a0,⟨Ds,h1,h2,h3,h4⟩,_,rfl,r,z,he,xs,ys,m',hx,hp,hR⟩
 have key:LeavesInM Fence.wide 0 P fn a0.tmps (λe w'=>∃ v x S',e=.returned v/\R x/\Ext w S w' S'/\InH w' S'/\AVR (Rep w' S') x v) (Ds.map Adn) .returning w1:=by
  refine Adl (c:=Ctx.of w S fn.ntmps) (st:=st) (S:=S1) (H:=H) (λw' r=>?_) Ds w1 h3 h4 (by rw[<- h2];exact z) r
  obtain⟨u,hu,hk⟩:=Afv r hx
  obtain⟨S2,k2,g2⟩:=hp.keeps r
  exact⟨u,hu,u,Y1 ys,S2,rfl,hR,k2.rel.ex.toExt (λ_ h=>h),k2.rel.sl,hk S2 ys g2⟩
 rw[<- h1] at key
 rcases he with rfl|rfl
 ·exact key
 ·exact key
structure Ayo (w:World) (S:Dx) (w':World) (S':Dx):Prop where
 st:∀ b i,S b i->S' b i/\w'.cell? ⟨b,i,none⟩=w.cell? ⟨b,i,none⟩
 sl:InH w' S'
def Aw2 (P:Program) (fc:FuncId) (cap:List Lf) (L:List (SV×SV)):Prop :=
 ∀ (l:Nat) (J:Nat->World->Dx->Prop) (Jx:World->Dx->Prop) (w:World) (S:Dx) (vs:Array Value),
  (∀ k w S w' S',J k w S->Ext w S w' S'->InH w' S'->J k w' S')->(∀ w S w' S',Jx w S->Ext w S w' S'->InH w' S'->Jx w' S') ->
  (∀ k x y w S v u,L[k]? = some (x,y)->J k w S->InH w S->SVR (Rep w S) x v->SVR (Rep w S) y u ->
   ∃ fn tmps assign body,(Instr.yield l #[v,u]).run P w=.ok (.round l fn tmps assign body) w /\
    RoundIn Fence.wide 0 P l fn tmps assign body w (λe w'=>∃ b S',e=.returned (.bool b)/\Ayo w S w' S'/\(if b then J (k+1) w' S' else Jx w' S'))) ->
  J 0 w S->InH w S->LsR (Rep w S) cap vs.toList ->
  Calls P fc (#[.func (.yield l) #[] #[]]++vs) w λe w'=>∃ v S',e=.returned v/\InH w' S'/\(J L.length w' S'\/Jx w' S')
def RQ (mm:G->List Blk) (pre:G->Prop) (jmp:Code->G->Prop):Exit->AS->Prop
 | .normal,st=>∃ g ex,pre g/\st.m=mm g++ex
 | .ret,st=>∃ g ex,jmp .ret g/\st.m=mm g++ex
 | .exit id,st=>∃ g ex,jmp (.exit id) g/\st.m=mm g++ex
 | _,_=>False
theorem Rel.swap {t t':Nat->AV} {m:List Blk} {a':Act} {w:World} (r:Rel c ⟨t',m⟩ a' w S H) (hn:a.tmps.size=c.nt) (hd:a.defers=[]) (tm:∀ i,AVR (Bf w S m H) (t i) (a.tmps.getD i undef)):Rel c ⟨t,m⟩ a w S H :=
 ⟨hn,hd,tm,r.bl,r.lo,r.inj,r.sb,r.sl,r.ex,r.kl,r.kh,r.kr,r.ku⟩
section
variable {P:Program} {c:Ctx} {Q:Exit->AS->Prop} {t:Nat->AV} {m:List Blk}
theorem A50 {go:Operand} {p1 p2:Tmp} {assign:Code} {fc:FuncId} {cap:List Lf} {L:List (SV×SV)} (mm:G->List Blk) (pre:Nat->G->Prop) (jmp:Code->G->Prop) (g0:G)
  (hg:Bg ⟨t,m⟩ go=.s (.one (.fn fc [] cap))) (hfc:FnI P fc) (hcap:cap.all Lf.pubd0=true) (hit:Aw2 P fc cap L) (hp1:decide (p1<c.nt)=true) (hp2:decide (p2<c.nt)=true)
  (h0:pre 0 g0) (hm:m=mm g0) (hlen:∀ g,(mm g).length=m.length) (hmin:∀ g,∀ b∈mm g,b.inb (mm g).length)
  (round:∀ k x y g l,L[k]? = some (x,y)->pre k g->∀ w0 S0 X H0,AWI (some l) P ⟨w0,S0,c.nt,X,mm g,H0⟩ okB assign
   (Gx (λst1=>∀ w0 S0 X H0,AWI (some l) P ⟨w0,S0,c.nt,X,st1.m,H0⟩ okB body (RQ mm (pre (k+1)) jmp) st1) (λ_ _=>False)) ⟨upd (upd t p1 (.s x)) p2 (.s y),mm g⟩)
  (done:∀ g,pre L.length g->Q .normal ⟨t,mm g⟩) (hret:∀ g,jmp .ret g->Q .ret ⟨t,mm g⟩) (hex:∀ id g,jmp (.exit id) g->Q (.exit id) ⟨t,mm g⟩) :
  AWI none P c (okO c) (.rangeFunc go #[p1,p2] assign body) Q ⟨t,m⟩:=by
 intro hq K hK a w S H r z
 obtain⟨Ds,hds,hZ,hnd,hge⟩:=hK
 have hp1':p1<c.nt:=of_decide_eq_true hp1
 have hp2':p2<c.nt:=of_decide_eq_true hp2
 have hgo:=Ax r go
 rw[hg] at hgo
 obtain⟨va,vb,hgv,hva,hvb⟩:=hgo
 have hva0:va = #[]:=Array.eq_empty_of_size_eq_zero (by have:=hva.1;simpa using this.symm)
 subst hva0
 refine wpIn_rangeFunc λfn _=>?_
 obtain⟨D,hD⟩:∃ D,D=w.heap.size:=⟨_,rfl⟩
 obtain⟨l,hl⟩:∃ l,l=w.heap.size+1:=⟨_,rfl⟩
 obtain⟨rec,hrec⟩:∃ rec:LoopState->Option Code->Loop,rec=λst pe=>{ state:=st,pending:=pe,fn,tmps:=a.tmps,params:=#[p1,p2],assign,body,defers:=w.heap.size }:=⟨_,rfl⟩
 obtain⟨W1,hW1⟩:∃ W1,(w.alloc (.deferred (some []))).alloc (.loop (rec .ready none))=W1:=⟨_,rfl⟩
 have hx1:Ext w S W1 S:=by rw[<- hW1];exact(Ext.alloc w S _).trans (Ext.alloc _ S _)
 have hS1:InH W1 S:=InH.ext hx1 r.sl
 have hL1:W1.heap[l]? = some (.loop (rec .ready none)):=by
  rw[<- hW1,hl];have:=World.alloc_heap_new (w.alloc (.deferred (some []))) (.loop (rec .ready none));rwa [World.size_alloc] at this
 have hD1:W1.heap[D]? = some (.deferred (some [])):=by
  rw[<- hW1,hD];exact(Below.heap_alloc _ _ _ (by simp)).trans (World.alloc_heap_new w _)
 have hcl:c.w0.heap.size<=l:=by rw[hl];exact yU r.ex.size (xO _)
 have hDl:D≠l:=by omega
 have hZl:∀ x∈K.Z,x.1<w.heap.size:=λx hx=>(yC.1 (z x hx).1).1
 let Zr:Obj->List (Nat×Obj):=λo=>(l,o)::(D,.deferred (some []))::K.Z
 have zput:∀ {w':World} {o:Obj} (o':Obj),Ag3 o'=false->Zed w' (Zr o)->Zed (w'.putObj l o') (Zr o'):=by
  intro w' o o' ho' zz x hx
  rcases yB.1 hx with rfl|hx
  ·exact⟨World.putObj_heap_same (yC.1 (zz (l,o) (yQ ..)).1).1,ho'⟩
  ·have h1:=zz x (yH _ hx)
   have hne:x.1≠l:=by
    rcases yB.1 hx with rfl|hx
    ·exact hDl
    ·have:=hZl x hx;omega
   exact⟨(World.putObj_heap_other hne).trans h1.1,h1.2⟩
 let J:Nat->World->Dx->Prop:=λk W S=>∃ g H,pre k g/\Rel c ⟨t,mm g⟩ a W S H/\Zed W (Zr (.loop (rec .ready none)))
 let Jx:World->Dx->Prop:=λW S=>∃ jc g H,jmp jc g/\(jc=.ret\/∃ id,jc=.exit id)/\Rel c ⟨t,mm g⟩ a W S H/\Zed W (Zr (.loop (rec .done (some jc))))
 have hJ0:J 0 W1 S:=by
  refine⟨g0,H,h0,by rw[<- hm];exact r.ext hx1 hS1,λx hx=>?_⟩
  rcases yB.1 hx with rfl|hx
  ·exact⟨hL1,rfl⟩
  ·rcases yB.1 hx with rfl|hx
   ·exact⟨hD1,rfl⟩
   ·exact(z.ext hx1) x hx
 have hcapR:LsR (Rep W1 S) cap vb.toList:=by
  refine⟨hvb.1,λj x v h1 h2=>?_⟩
  exact Rep.mono (hx1.keeps r.sl) (Dy.rep (hvb.2 j x v h1 h2) ((zJ.1 hcap) x (zD h1)))
 have hev:(dsl a K.ds).eval go=.func (.func fc) #[] vb:=by rw[Ai2];exact hgv
 refine⟨l,[Adn D],W1,{ target:=.fn (.func fc) vb,args:=#[.func (.yield l) #[] #[]] },W1,fc,#[.func (.yield l) #[] #[]]++vb,W1,?_,?_,λ_ _=>trivial,?_,λhh=>(by simp [FW,Fence.wide] at hh),?_⟩
 ·rw[<- hW1,hrec,hl,hD];exact run_enterLoop_outer _ _ _ _ _
 ·simp only[resolve,hev]
  simp [Deferred.ofValue,Act.eval]
 ·simp [invoke,hfc.run]
 ·refine Ah6 ((hit l J Jx W1 S vb ?_ ?_ ?_ hJ0 hS1 hcapR).mono ?_)
  ·rintro k w S w' S' ⟨g,H,h1,h2,h3⟩ hx hin
   exact⟨g,H,h1,h2.ext hx hin,h3.ext hx⟩
  ·rintro w S w' S' ⟨jc,g,H,h1,h1',h2,h3⟩ hx hin
   exact⟨jc,g,H,h1,h1',h2.ext hx hin,h3.ext hx⟩
  ·
   rintro k x0 y W S v u hxy ⟨g,H,hp,r1,z1⟩ hin hv hu
   have hl1:W.heap[l]? = some (.loop (rec .ready none)):=(z1 (l,_) (yQ ..)).1
   have hy:=run_yield (P:=P) (args:=#[v,u]) hl1 (by rw[hrec];rfl)
   rw[hrec] at hy
   have r2:Rel c ⟨upd (upd t p1 (.s x0)) p2 (.s y),mm g⟩ ((a.put (some p1) v).put (some p2) u) W S H :=
    (r1.put hp1' (show AVR _ (.s x0) v from SVR.mono (λ_ _ h=>Bf.of_rep h) hv)).put hp2' (show AVR _ (.s y) u from SVR.mono (λ_ _ h=>Bf.of_rep h) hu)
   refine⟨fn,_,assign,body,hy,roundIn_of_wpIn trivial ?_⟩
   have hA:=round k x0 y g l hxy hp W S (A4g (mm g) H) H (λst hs=>hs) ⟨[],Zr (.loop (rec .ready none))⟩ rfl _ W S H r2.now z1
   have hact:dsl ((a.put (some p1) v).put (some p2) u) []={ tmps:=(#[p1,p2].zip #[v,u]).foldl (λt (x:Tmp×Value)=>t.setIfInBounds x.1 x.2) a.tmps,defers:=[] }:=by simp [dsl,Act.put]
   rw[hact] at hA
   refine wpIn_mono hA ?_
   rintro e a1 w1 ⟨K1,st1,S1,H1,a10,hok1,hz1,rfl,r3,z3,hq1⟩
   cases e with
   | normal =>
    have hK1:K1.ds=[]:=hok1
    have z3':Zed w1 (Zr (.loop (rec .ready none))):=λx hx=>z3 x (hz1 x hx)
    have hl3:w1.heap[l]? = some (.loop (rec .ready none)):=(z3' (l,_) (yQ ..)).1
    refine⟨_,run_beginRound hl3 (by rw[hrec]),?_⟩
    have r3c:Rel c st1 a10 w1 S1 H1:=r2.then_now r3
    have hb3:({ rec .ready none with state:=.busy }:Loop)=rec .busy none:=by rw[hrec]
    rw[hb3]
    have r4:Rel c st1 a10 (w1.putObj l (.loop (rec .busy none))) S1 H1:=r3c.putObj _ hl3 rfl rfl hcl
    have z4:=zput (.loop (rec .busy none)) rfl z3'
    have hB:=hq1 (w1.putObj l (.loop (rec .busy none))) S1 (A4g st1.m H1) H1 (λst hs=>hs) ⟨[],Zr (.loop (rec .busy none))⟩ rfl a10 _ S1 H1 r4.now z4
    rw[hK1]
    refine wpIn_mono hB ?_
    have fin:∀ (st':AS) (a0':Act) (w3:World) (S3:Dx) (H3:Nat->Value) (K3:FrK) (g':G) (ex:List Blk) (o':Obj),(∀ z∈Zr (.loop (rec .busy none)),z∈K3.Z)->Rel (c.now st1 (w1.putObj l (.loop (rec .busy none))) S1 H1) st' a0' w3 S3 H3->Zed w3 K3.Z->st'.m=mm g'++ex->Ag3 o'=false ->
      w3.heap[l]? = some (.loop (rec .busy none))/\Ayo W S (w3.putObj l o') S3/\∃ H4,Rel c ⟨t,mm g'⟩ a (w3.putObj l o') S3 H4/\Zed (w3.putObj l o') (Zr o'):=by
     intro st' a0' w3 S3 H3 K3 g' ex o' hz3 r5 z5 hm' ho'
     have z5':Zed w3 (Zr (.loop (rec .busy none))):=λx hx=>z5 x (hz3 x hx)
     have hl5:w3.heap[l]? = some (.loop (rec .busy none)):=(z5' (l,_) (yQ ..)).1
     have hc2:=Zy (o':=.loop (rec .busy none)) hl3 rfl rfl
     have hc4:=Zy (o':=o') hl5 rfl ho'
     have r5':Rel (c.now st1 (w1.putObj l (.loop (rec .busy none))) S1 H1) ⟨st'.t,mm g'++ex⟩ a0' w3 S3 H3:=by rw[<- hm'];exact r5
     have r6:Rel c ⟨st'.t,mm g'++ex⟩ a0' w3 S3 H3:=r4.then_now r5'
     have r7:=(r6.putObj o' hl5 rfl ho' hcl).trim (t':=λ_=>.top) (λ_=>.inl rfl) (hmin g') (by rw[hlen];have:=r.kl;exact this)
     refine⟨hl5,⟨λb i hs=>?_,r7.sl⟩,H3,r7.swap r1.nt r1.df (λi=>?_),zput o' ho' z5'⟩
     ·have s1:=r3.ex.sub b i hs
      refine⟨r5.ex.sub b i s1,?_⟩
      exact(hc4 _).trans ((r5.ex.stab b i s1).trans ((hc2 _).trans (r3.ex.stab b i hs)))
     ·refine AVR.mono (λx v hx=>?_) (r1.tm i)
      have e3:Bf w3 S3 (mm g') H3 x v:=by
       have hl0:(mm g).length=m.length:=hlen g
       have hl1:(mm g).length<=st1.m.length:=r3.kl
       refine Bf.mono2 (λb i hs=>?_) (by rw[hlen g',hl0];exact zT _) (λp gg hp hh=>?_) (λp hp hne=>r5.ku p (zY hp hl1) (r3.ku p hp hne)) (λp e sz k cs hp hm=>?_) hx
       ·have s1:=r3.ex.sub b i hs
        exact⟨r5.ex.sub b i s1,(r5.ex.stab b i s1).trans ((hc2 _).trans (r3.ex.stab b i hs))⟩
       ·have h1:H1 p=H p:=r3.kh p gg hp hh
        exact(r5.kh p gg (zY hp hl1) (h1.trans hh)).trans h1
       ·have hm2:(mm g'++ex)[p]? = some (.arr e sz k cs):=by rw[zL (by rw[hlen g',<- hl0];exact hp)];exact hm
        obtain⟨k1,cs1,q1,q2⟩:=r5'.kr p e sz k cs (zY hp hl1) hm2
        obtain⟨k2,cs2,q3,q4⟩:=r3.kr p e sz k1 cs1 hp q1
        refine⟨k2,cs2,q3,?_⟩
        rcases q2 with⟨q2,q5⟩|q2 <;> rcases q4 with⟨q4,q6⟩|q4
        ·exact .inl ⟨q4.trans q2,q5.trans q6⟩
        ·exact .inr (by omega)
        ·exact .inr (by omega)
        ·exact .inr (by omega)
      exact Bf.mono (λb i hs=>⟨hs,hc4 _⟩) (zT _) (λ_ _=>rfl) (λp e sz k cs _ hm=>⟨k,cs,hm,rfl⟩) e3
    rintro e a3 w3 ⟨K3,st',S3,H3,a0',hok3,hz3,rfl,r5,z5,hq3⟩
    cases e with
    | normal =>
     obtain⟨g',ex,hp',hm'⟩:=hq3
     obtain⟨hl5,hks,H4,hr4,hz4⟩:=fin st' a0' w3 S3 H3 K3 g' ex (.loop (rec .ready none)) hz3 r5 z5 hm' rfl
     have he:=run_endRound (P:=P) none hl5
     rw[hrec] at he
     refine⟨_,_,he,true,S3,rfl,?_,?_⟩
     ·rw[hrec] at hks;exact hks
     ·refine⟨g',H4,hp',?_,?_⟩
      ·rw[hrec] at hr4;exact hr4
      ·rw[hrec] at hz4;rw[hrec];exact hz4
    | ret =>
     obtain⟨g',ex,hp',hm'⟩:=hq3
     obtain⟨hl5,hks,H4,hr4,hz4⟩:=fin st' a0' w3 S3 H3 K3 g' ex (.loop (rec .done (some .ret))) hz3 r5 z5 hm' rfl
     have he:=run_endRound (P:=P) (some .ret) hl5
     rw[hrec] at he
     refine⟨_,_,he,false,S3,rfl,?_,?_⟩
     ·rw[hrec] at hks;exact hks
     ·refine⟨.ret,g',H4,hp',.inl rfl,?_,?_⟩
      ·rw[hrec] at hr4;exact hr4
      ·rw[hrec] at hz4;rw[hrec];exact hz4
    | exit id =>
     obtain⟨g',ex,hp',hm'⟩:=hq3
     obtain⟨hl5,hks,H4,hr4,hz4⟩:=fin st' a0' w3 S3 H3 K3 g' ex (.loop (rec .done (some (.exit id)))) hz3 r5 z5 hm' rfl
     have he:=run_endRound (P:=P) (some (.exit id)) hl5
     rw[hrec] at he
     refine⟨_,_,he,false,S3,rfl,?_,?_⟩
     ·rw[hrec] at hks;exact hks
     ·refine⟨.exit id,g',H4,hp',.inr ⟨id,rfl⟩,?_,?_⟩
      ·rw[hrec] at hr4;exact hr4
      ·rw[hrec] at hz4;rw[hrec];exact hz4
    | goto lb=>exact absurd hq3 id
    | panic ch=>exact absurd hq3 id
    | outgrown=>exact absurd hq3 id
   | _=>exact hq1
  ·
   rintro e w5 ⟨v,S5,rfl,hin,hj⟩
   have okK:okO c ⟨Adn D::K.ds,(D,.deferred (some []))::K.Z⟩:=by
    refine⟨D::Ds,by rw[hds];rfl,by rw[hZ];rfl,wE.2 ⟨λhm=>?_,hnd⟩,λD' h=>?_⟩
    ·have:=hZl (D,.deferred (some [])) (by rw[hZ];exact yA.2 ⟨D,hm,rfl⟩)
     simp only at this
     omega
    ·rcases yB.1 h with rfl|h
     ·rw[hD];exact r.ex.size
     ·exact hge D' h
   rcases hj with⟨g,H5,hp,r5,z5⟩|⟨jc,g,H5,hp,hjc,r5,z5⟩
   ·have hl5:w5.heap[l]? = some (.loop (rec .ready none)):=(z5 (l,_) (yQ ..)).1
    have he:=run_endLoop (P:=P) hl5 (by rw[hrec];simp)
    refine⟨_,_,he,?_⟩
    rw[hrec]
    exact⟨⟨Adn D::K.ds,(D,.deferred (some []))::K.Z⟩,_,S5,H5,a,okK,λx hx=>yH _ hx,rfl,r5.putObj _ hl5 rfl rfl hcl,λx hx=>(zput (.loop _) rfl z5) x (yH _ hx),done g hp⟩
   ·have hl5:w5.heap[l]? = some (.loop (rec .done (some jc))):=(z5 (l,_) (yQ ..)).1
    have he:=run_endLoop (P:=P) hl5 (by rw[hrec];simp)
    refine⟨_,_,he,?_⟩
    rw[hrec]
    have post:∀ e,Q e ⟨t,mm g⟩->QI c (okO c) K Q e (dsl a (Adn D::K.ds)) (w5.putObj l (.loop { ({ state:=.done,pending:=some jc,fn,tmps:=a.tmps,params:=#[p1,p2],assign,body,defers:=w.heap.size }:Loop) with state:=.exhausted })):=λe hqe =>
     ⟨⟨Adn D::K.ds,(D,.deferred (some []))::K.Z⟩,_,S5,H5,a,okK,λx hx=>yH _ hx,rfl,r5.putObj _ hl5 rfl rfl hcl,λx hx=>(zput (.loop _) rfl z5) x (yH _ hx),hqe⟩
    rcases hjc with rfl|⟨id,rfl⟩
    ·exact wpIn_ret (post _ (hret g hp))
    ·exact wpIn_exit (post _ (hex id g hp))
end
end
open Go.RowKit
section
variable {P:Program} {c:Ctx} {ops:Array Oper} {Q:Exit->AS->Prop} {rest:List Oper} {ty:TypeId} {pos:String} {af:Array Edge} {d:Tmp} {t:Nat->AV} {m:List Blk}
theorem Ate {t':TypeId} {y:Operand} {x:SV} (hd:decide (d<c.nt)=true) (hx:Bg ⟨t,m⟩ y=.s x) (hpub:x.cells.all Lf.pubd=true)
  (k:AWL P c ops Q rest ⟨upd t d (.s (.one (.cp x.cells))),m⟩):AWL P c ops Q (⟨some d,.box t' y,ty,pos,af,none⟩::rest) ⟨t,m⟩:=by
 intro a w S H r
 have h:=Ax r y
 rw[hx] at h
 have hls:=T3 h (λl v=>Bf.oneCell)
 obtain⟨cells,hce⟩:∃ cells,cells=(a.eval y).cells:=⟨_,rfl⟩
 rw[<- hce] at hls
 have hrun:(execOp a.eval ⟨some d,.box t' y,ty,pos,af,none⟩).run P w=.ok (.value (.pointer (some ⟨w.heap.size,0,none⟩))) (w.alloc (.cells cells t')):=by
  rw[hce];simp [execOp,Instr.box,newVar,newRow]
 let S':Dx:=λb i=>S b i\/(b=w.heap.size/\i<cells.size)
 have hx1:Ext w S (w.alloc (.cells cells t')) S':=⟨rfl,rfl,rfl,by simp,λb hb=>Below.heap_alloc w _ b hb,λ_ _ h=>.inl h,λb i hb h=>by
  rcases h with h|⟨h,_⟩
  ·exact h
  ·omega⟩
 have hin:InH (w.alloc (.cells cells t')) S':=⟨λb i hs=>by
  rcases hs with hs|⟨rfl,_⟩
  ·exact zY (r.sl.1 b i hs) hx1.size
  ·simp,r.sl.2.1.mono (hx1.keeps r.sl),(r.sl.2.2.ext (Ext.alloc w S _) r.sl.1).add λb i hs=>by
   rcases hs with hs|⟨rfl,hi⟩
   ·exact .inl hs
   ·refine .inr ⟨?_,λj hj=>absurd (r.sl.1 _ j hj) (wF _)⟩
    unfold World.cell?
    rw[show(w.alloc (.cells cells t')).heap[(⟨w.heap.size,i,none⟩:Addr).block]? = some (.cells cells t') from heap_alloc_new w _]
    show cells[i]? ≠ none
    rw[z9 hi]
    exact λh=>by cases h⟩
 refine wpList_plain rfl λK hK=>?_
 unfold Oper.wp
 rw[hrun]
 refine hK _ _ (k _ _ _ _ ((r.ext hx1 hin).put (of_decide_eq_true hd) ?_))
 have hrep:Rep (w.alloc (.cells cells t')) S' (.cp x.cells) (.pointer (some ⟨w.heap.size,0,none⟩)):=by
  have hcell:∀ j,(w.alloc (.cells cells t')).cell? ⟨w.heap.size,j,none⟩=cells[j]? := λj=>by
   unfold World.cell?
   rw[show(w.alloc (.cells cells t')).heap[(⟨w.heap.size,j,none⟩:Addr).block]? = some (.cells cells t') from heap_alloc_new w _]
   rfl
  have hj:∀ (j:Nat) (l:Lf),x.cells[j]? = some l->∃ v,cells[j]? = some v/\Bf w S m H l v:=λj l hl=>by
   obtain⟨v,h1,h2⟩:=hls.get hl
   exact⟨v,by simpa using h1,h2⟩
  refine .cp x.cells w.heap.size 0 (λj=>cells.getD j undef) (λj l hl=>?_) (λj l hl=>?_)
  ·obtain⟨v,h1,h2⟩:=hj j l hl
   rw[yT]
   refine⟨.inr ⟨rfl,(yC.1 h1).1⟩,(hcell j).trans ?_⟩
   simp [h1]
  ·obtain⟨v,h1,h2⟩:=hj j l hl
   have:cells.getD j undef=v:=by simp [h1]
   rw[this]
   exact Rep.mono (hx1.keeps r.sl) (Bf.rep h2 ((zJ.1 hpub) l (zD hl)))
 exact hrep
end
section
variable {a:Act} {body x:Code} {L:List (SV×SV)} {l:List Oper} {id nt:Nat} {H:Nat->Value} {S:Dx} {w:World}
abbrev YK:=World->Dx->Prop
def A8w (K:YK):Prop:=∀ w S w' S',K w S->Ext w S w' S'->InH w' S'->K w' S'
def QY (nt:Nat) (Q:Exit->(Nat->AV)->YK->Prop):Exit->Act->World->Prop:=λe a w=>∃ t S H K,Rel (Ctx.of w S nt) ⟨t,[]⟩ a w S H/\K w S/\Q e t K
def Az4 (Q:Exit->(Nat->AV)->YK->Prop):Prop:=∀ t K,¬ Q .outgrown t K
def A32 (n:(Nat->AV)->YK->Prop) (Q:Exit->(Nat->AV)->YK->Prop):Exit->(Nat->AV)->YK->Prop
 | .normal,t,K=>n t K
 | e,t,K=>Q e t K
def Ai3 (id:Nat) (Q:Exit->(Nat->AV)->YK->Prop):Exit->(Nat->AV)->YK->Prop
 | .exit id',t,K=>if id'=id then Q .normal t K else Q (.exit id') t K
 | e,t,K=>Q e t K
def AWY (P:Program) (nt:Nat) (x:Code) (Q:Exit->(Nat->AV)->YK->Prop) (K:YK) (t:Nat->AV):Prop :=
 Az4 Q->∀ a w S H,Rel (Ctx.of w S nt) ⟨t,[]⟩ a w S H->K w S->x.wpIn Fence.wide 0 P (QY nt Q) a w
def Aw8 (P:Program) (nt:Nat) (ops:Array Oper) (Q:Exit->(Nat->AV)->YK->Prop) (K:YK) (l:List Oper) (t:Nat->AV):Prop :=
 Az4 Q->∀ a w S H,Rel (Ctx.of w S nt) ⟨t,[]⟩ a w S H->K w S->wpListIn Fence.wide 0 P ops (QY nt Q) l a w
theorem Rel.here {c:Ctx} {t:Nat->AV} (hn:c.nt=nt) (r:Rel c ⟨t,[]⟩ a w S H):Rel (Ctx.of w S nt) ⟨t,[]⟩ a w S H :=
 ⟨r.nt.trans hn,r.df,r.tm,λp b h=>by simp at h,λp b g h=>by simp at h,λp q b b' g h=>by simp at h,λp b g i h=>by simp at h,r.sl,Aam.refl _ w S,zU _,λp g h=>absurd h (zW _),λp e sz k cs h=>absurd h (zW _),λp h=>absurd h (zW _)⟩
theorem Rel.kept {t:Nat->AV} {w':World} {S':Dx} (r:Rel (Ctx.of w S nt) ⟨t,[]⟩ a w S H) (h:Ayo w S w' S'):Rel (Ctx.of w' S' nt) ⟨t,[]⟩ a w' S' H :=
 ⟨r.nt,r.df,λi=>AVR.mono (λl v=>Bf.mono h.st (zT _) (λ_ _=>rfl) (λp e sz k cs hp _=>by simp at hp)) (r.tm i),λp b h=>by simp at h,λp b g h=>by simp at h,λp q b b' g h=>by simp at h,λp b g i h=>by simp at h,h.sl,Aam.refl _ w' S',zU _,λp g h=>absurd h (zW _),λp e sz k cs h=>absurd h (zW _),λp h=>absurd h (zW _)⟩
theorem Xo {F:Fence} {n:Nat} {P:Program} {ops:Array Oper} {Q:Exit->Act->World->Prop} {l2:List Oper}:∀ (l1:List Oper) (a:Act) (w:World),wpListIn F n P ops (Exit.then (wpListIn F n P ops Q l2) Q) l1 a w->wpListIn F n P ops Q (l1++l2) a w
 | [],a,w,h=>h
 | o::l1,a,w,h=>by
  have ih:=Xo (F:=F) (n:=n) (P:=P) (ops:=ops) (Q:=Q) (l2:=l2) l1
  simp only[List.cons_append]
  unfold wpListIn at h ⊢
  split at h
  ·rename_i hw
   rw[if_pos hw]
   obtain⟨h1,h2⟩:=h
   refine⟨h1,?_⟩
   generalize (o.semAt F.round a.eval).run P w=r at h2
   have hlet:LetsOut (Exit.then (wpListIn F n P ops Q l2) Q)->LetsOut Q:=λ⟨a,w,h⟩=>⟨a,w,h⟩
   cases r with
   | ok nx w' =>
    cases nx with
    | value v=>exact ih _ _ h2
    | skip=>exact ih _ _ h2
    | defer d=>exact ih _ _ h2
    | enter f args =>
     refine⟨h2.1,h2.2.mono λe w'' hr=>?_⟩
     cases e with
     | returned v=>exact ih _ _ hr
     | panicked ch=>exact hr
     | outgrown=>exact hlet hr
    | row row args=>exact⟨h2.1,h2.2.mono λv w'' hr=>ih _ _ hr⟩
    | round l f tmps ag bd =>
     refine⟨h2.1,h2.2.mono λe w'' hr=>?_⟩
     cases e with
     | returned v=>exact ih _ _ hr
     | panicked ch=>exact hr
     | outgrown=>exact hlet hr
    | _=>exact absurd h2 id
   | halt x w' =>
    cases x with
    | panic v=>exact h2
    | _=>exact absurd h2 id
  ·rename_i hw
   rw[if_neg hw]
   exact⟨h.1,ih _ _ h.2⟩
section
variable {P:Program} {nt:Nat} {Q:Exit->(Nat->AV)->YK->Prop} {K:YK} {t:Nat->AV}
theorem A78 {y:Code} (h:AWY P nt x (A32 (λt K=>AWY P nt y Q K t) Q) K t):AWY P nt (.seq x y) Q K t:=by
 intro hn a w S H r hK
 refine wpIn_seq (wpIn_mono (h (λt K hs=>hn t K hs) a w S H r hK) ?_)
 rintro e a w ⟨t,S,H,K,r,hK,hq⟩
 cases e with
 | normal=>exact hq hn a w S H r hK
 | _=>exact⟨t,S,H,K,r,hK,hq⟩
theorem An3 {n:(Nat->AV)->YK->Prop} (h:n t K):A32 n Q .normal t K:=h
theorem Bd8 (h:Q .normal t K):Ai3 id Q .normal t K:=h
theorem A6p (h:Q .normal t K):AWY P nt .skip Q K t:=λ_ _ _ S H r hK=>wpIn_skip ⟨t,S,H,K,r,hK,h⟩
theorem Bak (h:Q (.exit id) t K):AWY P nt (.exit id) Q K t:=λ_ _ _ S H r hK=>wpIn_exit ⟨t,S,H,K,r,hK,h⟩
theorem Bd9 (h:Q .ret t K):AWY P nt .ret Q K t:=λ_ _ _ S H r hK=>wpIn_ret ⟨t,S,H,K,r,hK,h⟩
theorem A0n (h:AWY P nt x (Ai3 id Q) K t):AWY P nt (.block id x) Q K t:=by
 intro hn a w S H r hK
 refine wpIn_block (wpIn_mono (h (λt K hs=>hn t K hs) a w S H r hK) ?_)
 rintro e a w ⟨t,S,H,K,r,hK,hq⟩
 cases e with
 | exit id' =>
  simp only[Ai3] at hq
  simp only[Exit.inBlock]
  split
  ·rename_i h;rw[if_pos h] at hq;exact⟨t,S,H,K,r,hK,hq⟩
  ·rename_i h;rw[if_neg h] at hq;exact⟨t,S,H,K,r,hK,hq⟩
 | _=>exact⟨t,S,H,K,r,hK,hq⟩
theorem A2t {o:Operand} {y:Code} {b:Bool} (ho:Bg ⟨t,[]⟩ o=.s (.one (.b b))) (h1:b=true->AWY P nt x Q K t) (h0:b=false->AWY P nt y Q K t):AWY P nt (.cond o x y) Q K t:=by
 intro hn a w S H r hK
 have h:=Ax r o
 rw[ho] at h
 have hv:a.eval o=.bool b:=Aai (h:Rep w S (.b b) (a.eval o))
 exact wpIn_cond_split hv (λhb=>h1 hb hn a w S H r hK) (λhb=>h0 hb hn a w S H r hK)
theorem Aw1 {ops:Array Oper} {l1 l2:List Oper} (hK:A8w K) (hnd:l1.all ndf=true) (h:∀ w0 S0,AWL P (Ctx.of w0 S0 nt) ops (λe st=>e=.normal/\st.m=[]/\Aw8 P nt ops Q K l2 st.t) l1 ⟨t,[]⟩):Aw8 P nt ops Q K (l1++l2) t:=by
 intro hn a w S H r hk
 refine Xo l1 a w ?_
 have h1:=Af7 (rd:=none) (ds:=[]) (Q1:=QR (Ctx.of w S nt) (λe st=>e=.normal/\st.m=[]/\Aw8 P nt ops Q K l2 st.t)) (Q2:=Exit.then (wpListIn Fence.wide 0 P ops (QY nt Q) l2) (QY nt Q)) ?_ ?_ ?_ l1 hnd a w (h w S a w S H r)
 ·rw[Aqf r.df] at h1
  exact h1
 ·rintro⟨a,w,st,S,H,_,h,_⟩;cases h
 ·rintro e a w ⟨st,S,H,r,_⟩;exact r.df
 ·rintro e a' w' ⟨⟨t',m'⟩,S',H',r',rfl,hm,h⟩
  have hm':m'=[]:=hm
  subst hm'
  rw[Aqf r'.df]
  exact h hn a' w' S' H' (r'.here rfl) (hK _ _ _ _ hk (r'.ex.toExt (λ_ h=>h)) r'.sl)
theorem Akw {ops:Array Oper} (h:Q .normal t K):Aw8 P nt ops Q K [] t:=λ_ _ _ S H r hK=>⟨t,S,H,K,r,hK,h⟩
theorem Atv (h:Aw8 P nt l.toArray Q K l t):AWY P nt (.region id l.toArray false) Q K t:=λhn a w S H r hK=>wpIn_region_lit (h hn a w S H r hK)
theorem Aui (hK:A8w K) (hnd:l.all ndf=true) (h:∀ w0 S0,AWL P (Ctx.of w0 S0 nt) l.toArray (λe st=>e=.normal/\st.m=[]/\Aw8 P nt l.toArray Q K [] st.t) l ⟨t,[]⟩):AWY P nt (.region id l.toArray false) Q K t:=by
 refine Atv ?_
 have h1:=Aw1 (l2:=[]) hK hnd h
 rwa [xC] at h1
def A7s (P:Program) (l:Nat) (J:Nat->YK) (Jx:YK) (L:List (SV×SV)):Prop :=
 ∀ k x y w S v u,L[k]? = some (x,y)->J k w S->InH w S->SVR (Rep w S) x v->SVR (Rep w S) y u ->
   ∃ fn tmps assign body,(Instr.yield l #[v,u]).run P w=.ok (.round l fn tmps assign body) w /\
    RoundIn Fence.wide 0 P l fn tmps assign body w (λe w'=>∃ b S',e=.returned (.bool b)/\Ayo w S w' S'/\(if b then J (k+1) w' S' else Jx w' S'))
theorem Aug {x:SV} {v:Value} (h:SVR (Bf w S [] H) x v):SVR (Rep w S) x v:=by
 have h0:∀ l v,Dy w S [] H l v->Rep w S l v:=λl v h=>by
  cases l with
  | lp p off=>exact absurd h.1 (zW _)
  | ls p n=>exact absurd h.1 (zW _)
  | ap p n off=>exact absurd h.1 (zW _)
  | mp k p=>exact absurd h.1 (zW _)
  | _=>exact h
 refine SVR.mono (λl v h=>?_) h
 cases l with
 | lp p off=>exact absurd h.1 (zW _)
 | ls p n=>exact absurd h.1 (zW _)
 | ap p n off=>exact absurd h.1 (zW _)
 | mp k p=>exact absurd h.1 (zW _)
 | fn f a b =>
  obtain⟨va,vb,rfl,h1,h2⟩:=h
  refine .fn f a b va vb (by simpa using h1.1) (by simpa using h2.1) (λj l v hl hv=>h0 _ _ (h1.2 j l v hl (by simpa using hv))) (λj l v hl hv=>h0 _ _ (h2.2 j l v hl (by simpa using hv)))
 | _=>exact h0 _ _ h
theorem Awj {ops:Array Oper} {rest:List Oper} {o:Oper} {d:Tmp} {ty:Tmp} {ax ay:Operand} {ats:Array TypeId} {l:Nat} {J:Nat->YK} {Jx:YK} {k:Nat} {x y:SV}
  (ho:o.op=.call { callee:=.value (.tmp ty),args:=#[ax,ay],argTypes:=ats }) (hod:o.dst=some d) (hw:∀ a w S H,Rel (Ctx.of w S nt) ⟨t,[]⟩ a w S H->Region.wanted o (yielded ops a.tmps)=true)
  (hs:A7s P l J Jx L) (hd:decide (d<nt)=true) (hy:t ty=.s (.one (.raw (.func (.yield l) #[] #[])))) (hx:Bg ⟨t,[]⟩ ax=.s x) (hyy:Bg ⟨t,[]⟩ ay=.s y) (hL:L[k]? = some (x,y))
  (h1:Aw8 P nt ops Q (J (k+1)) rest (upd t d (.s (.one (.b true))))) (h0:Aw8 P nt ops Q Jx rest (upd t d (.s (.one (.b false))))):Aw8 P nt ops Q (J k) (o::rest) t:=by
 intro hn a w S H r hK
 have e1:=Ax r ax
 rw[hx] at e1
 have e2:=Ax r ay
 rw[hyy] at e2
 have e3:=r.tm ty
 have e3':AVR (Bf w S [] H) (t ty) (a.tmps.getD ty undef):=e3
 rw[hy] at e3'
 have hv:a.tmps.getD ty undef=.func (.yield l) #[] #[]:=Ix e3'
 obtain⟨fn,tmps,assign,body,hrun,hround⟩:=hs k x y w S (a.eval ax) (a.eval ay) hL hK r.sl (Aug e1) (Aug e2)
 have hev:(execOp a.eval o).run P w=.ok (.round l fn tmps assign body) w:=by
  obtain⟨odst,oop,oty,opos,oaf,og⟩:=o
  simp only at ho
  subst ho
  have hv':a.eval (.tmp ty)=.func (.yield l) #[] #[]:=hv
  simp only[execOp,resolve,hv',Deferred.ofValue,Sem.run_bind]
  simpa [invoke] using hrun
 have hsem:o.semAt Fence.wide.round a.eval=execOp a.eval o:=Oper.semAt_none _ _
 unfold wpListIn
 rw[if_pos (hw a w S H r)]
 refine⟨λ_ _=>trivial,?_⟩
 rw[hsem,hev]
 refine⟨λhh=>(by simp [Fence.wide] at hh),?_⟩
 refine hround.mono ?_
 rintro e w' ⟨b,S',rfl,hk,hj⟩
 have r':=(r.kept hk).put (d:=d) (x:=.s (.one (.b b))) (v:=.bool b) (of_decide_eq_true hd) (show AVR _ (.s (.one (.b b))) _ from Rep.b b)
 rw[hod]
 cases b with
 | true=>exact h1 hn _ _ _ _ (r'.here rfl) hj
 | false=>exact h0 hn _ _ _ _ (r'.here rfl) hj
theorem A94 {G:Type} (sl:G->List (Nat×AV)) (KK:G->YK) (pre:G->Prop) (μ:G->Nat) (g0:G) (p0:pre g0) (s0:Vd t (sl g0)) (hK0:K=KK g0) (hin:∀ g,pre g->Awn 0 (sl g))
  (round:∀ g,pre g->AWY P nt body (A32 (λt' K'=>∃ g',pre g'/\Vd t' (sl g')/\K'=KK g'/\μ g'<μ g) Q) (KK g) (Aj5 (λ_=>.top) (sl g))):AWY P nt (.loop body) Q K t:=by
 subst hK0
 intro hn a w S H r hK b k cs hro hb hr
 have key:∀ n,∀ g a w S H,pre g->μ g=n->Rel (Ctx.of w S nt) ⟨Aj5 (λ_=>.top) (sl g),[]⟩ a w S H->KK g w S ->
   ∃ e a' w',QY nt Q e a' w'/\ArrivesIn (Machine.fenced P Fence.wide) P (lone (b.atR a (.code body::.inLoop body::k)) cs w) b k cs e a' w':=by
  intro n
  induction n using Nat.strongRecOn with
  | _ n ih =>
   intro g a w S H hp hμ r hK
   obtain⟨e,a₁,w₁,hqq,harr⟩:=round g hp (λt K hs=>hn t K hs) a w S H r hK b (.inLoop body::k) cs hro hb hr
   obtain⟨t',S',H',K',r',hK',hqq⟩:=hqq
   cases e with
   | normal =>
    obtain⟨g',hp',hs',rfl,hlt⟩:=hqq
    have rt:Rel (Ctx.of w₁ S' nt) ⟨Aj5 (λ_=>.top) (sl g'),[]⟩ a₁ w₁ S' H':=r'.weak λi=>by
     rcases Qw hs' (hin g' hp') i with h|h
     ·exact .inr h
     ·exact .inl h.1
    obtain⟨e₂,a₂,w₂,hq₂,harr₂⟩:=ih (μ g') (hμ ▸ hlt) g' a₁ w₁ S' H' hp' rfl rt hK'
    exact⟨e₂,a₂,w₂,hq₂,.of_steps (StepsIn.trans harr (.one (fenced_calm (n:=0) hb hr rfl) stepR_inLoop)) harr₂⟩
   | exit id=>exact⟨_,_,w₁,⟨t',S',H',K',r',hK',hqq⟩,.pass (x:=.inLoop body) rfl (λ_ _=>.inl (by simp)) harr⟩
   | goto l=>exact⟨_,_,w₁,⟨t',S',H',K',r',hK',hqq⟩,.pass (x:=.inLoop body) rfl (λ_ _=>.inl (by simp)) harr⟩
   | ret=>exact⟨_,_,w₁,⟨t',S',H',K',r',hK',hqq⟩,.pass (x:=.inLoop body) rfl (λ_ _=>.inl (by simp)) harr⟩
   | panic ch=>exact⟨_,_,w₁,⟨t',S',H',K',r',hK',hqq⟩,.pass (x:=.inLoop body) rfl (λ_ _=>.inl (by simp)) harr⟩
   | outgrown=>exact⟨_,_,w₁,⟨t',S',H',K',r',hK',hqq⟩,.pass (x:=.inLoop body) rfl (λ_ _=>.inl (by simp)) harr⟩
 have rt:Rel (Ctx.of w S nt) ⟨Aj5 (λ_=>.top) (sl g0),[]⟩ a w S H:=r.weak λi=>by
  rcases Qw s0 (hin g0 p0) i with h|h
  ·exact .inr h
  ·exact .inl h.1
 obtain⟨e,a',w',hqq,harr⟩:=key _ g0 a w S H p0 rfl rt hK
 exact⟨e,a',w',hqq,.of_steps (.one (fenced_calm (n:=0) hb hr rfl) stepR_loop) harr⟩
end
theorem Avs {args:List SV} {vs:Array Value} (hn:args.length<=nt) (hS:InH w S) (hv:Abx (Rep w S) args vs.toList) :
  Rel (Ctx.of w S nt) ⟨Aqv args,[]⟩ { tmps:=vs++Array.replicate (nt-vs.size) undef,defers:=[] } w S (λ_=>undef):=by
 have hlen:vs.size=args.length:=by have:=hv.1;simp at this;omega
 have hget:∀ i,(vs++Array.replicate (nt-vs.size) undef).getD i undef=vs.getD i undef:=by
  intro i
  simp only[zH,jK]
  split
  ·rfl
  ·rename_i hi
   rw[wP]
   have:vs[i]? = none:=wV (by omega)
   rw[this]
   split <;> rfl
 refine⟨by simp;omega,rfl,λi=>?_,λp b h=>by simp at h,λp b g h=>by simp at h,λp q b b' g h=>by simp at h,λp b g i h=>by simp at h,hS,Aam.refl _ w S,zU _,λp g h=>absurd h (zW _),λp e sz k cs h=>absurd h (zW _),λp h=>absurd h (zW _)⟩
 rw[hget]
 show AVR _ (match args[i]? with|some x=>.s x|none=>.tup []) _
 cases ha:args[i]? with
 | none =>
  have:vs[i]? = none:=wV (by rw[hlen];exact wD.1 ha)
  simp only[zH,this,zAb]
  exact Hn
 | some x =>
  have hi:i<args.length:=(zB.1 ha).1
  have hi':i<vs.size:=by omega
  have:vs[i]? = some vs[i]:=z9 hi'
  simp only[zH,this,yS]
  exact SVR.mono (λ_ _=>Bf.of_rep) (hv.2 i x _ ha (by simp))
theorem Axy {P:Program} {fc:FuncId} {fn:Func} {cap:List Lf} (hf:P.funcs[fc]? = some fn) (hb:fn.body=some body) (hres:fn.results = #[]) (hnt:fn.ntmps=nt) (hn:cap.length+1<=nt)
  (h:∀ l J Jx,(∀ k,A8w (J k))->A8w Jx->A7s P l J Jx L->AWY P nt body (λe _ K=>(e=.normal\/e=.ret)/\(K=J L.length\/K=Jx)) (J 0) (Aqv (.one (.raw (.func (.yield l) #[] #[]))::cap.map .one))):Aw2 P fc cap L:=by
 subst hnt
 intro l J Jx w S vs hJ hJx hs h0 hS hcap
 refine callsIn_wide.1 (callsIn_of_wp (n:=0) hf hb trivial ?_)
 have hv:Abx (Rep w S) (.one (.raw (.func (.yield l) #[] #[]))::cap.map .one) ((#[Value.func (.yield l) #[] #[]]++vs:Array Value)).toList:=by
  refine⟨by have:=hcap.1;simp at this ⊢;omega,λj x v hx hv=>?_⟩
  cases j with
  | zero =>
   simp at hx hv
   subst hx;subst hv
   exact Rep.raw (.func (.yield l) #[] #[]) rfl
  | succ j =>
   simp at hx hv
   obtain⟨x',hx',rfl⟩:=hx
   exact hcap.2 j x' v hx' (by simpa using hv)
 have r0:=Avs (nt:=fn.ntmps) (by simpa using hn) hS hv
 refine wpIn_mono (h l J Jx (λk=>hJ k) hJx hs (λt K hs=>by rcases hs.1 with h|h <;> cases h) _ w S _ r0 h0) ?_
 rintro e a w1 ⟨t,S1,H,K,r,hK,he,hk⟩
 have hr:(results fn a.tmps).run P w1=.ok (.tuple #[]) w1:=by
  rw[Ac0,hres]
  simp
 have hfin:∃ v S',Ending.returned (.tuple #[])=.returned v/\InH w1 S'/\(J L.length w1 S'\/Jx w1 S'):=by
  refine⟨_,S1,rfl,r.sl,?_⟩
  rcases hk with rfl|rfl
  ·exact .inl hK
  ·exact .inr hK
 rcases he with rfl|rfl
 ·exact⟨r.df,_,hr,hfin⟩
 ·exact⟨r.df,_,hr,hfin⟩
end
end Go.Proofs.YtkblaobhhoebaaaGreat.Abs
