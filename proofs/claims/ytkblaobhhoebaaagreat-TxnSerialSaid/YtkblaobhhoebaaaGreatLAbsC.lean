/-
  A walk over abstract states: its rules, part C.
-/
import Derived.Test.YtkblaobhhoebaaaGreatLAbsB
import Derived.WalkKit
import Derived.Lib.Walk
import Derived.Lib.SliceRun
import Derived.Lib.JoinLaws
import Derived.Lib.AppendZeros
import Derived.Lib.AppendZerosOnto
import Derived.Lib.Overlaps
import Derived.Laws.Externs
import Derived.Laws.IdiomCopy
import Derived.Laws.NewBlocks
import Derived.Shelf.RegionOpenPlain
import Derived.Shelf.Spec.SlicesInsert
import Derived.Lib.ConvBytes
import Derived.Maps.Range
import Derived.Shelf.SlSortCmp.WholeK
import Derived.Shelf.SlSortCmp.NoneTotal
import Derived.Shelf.SortM.Plain
import Derived.Shelf.SortM.SortNone
import Derived.Shelf.SlicesE.Compact
import Derived.Conc.LoneSelect
import Derived.Test.YtkblaobhhoebaaaGreatLAbsA
import Derived.SizedLaws
import Derived.OpenShut
import Derived.ChangeKeysEq
import Derived.LaidEql
import Derived.Stop.Asserts
import Derived.Stop.IfaceNil
import Derived.RowKitTokens
import Derived.Lib.IfaceEq
set_option linter.unusedVariables false
set_option linter.unusedSimpArgs false
namespace Go.Proofs.YtkblaobhhoebaaaGreat.Abs
open Go.RowKit
structure FrK where
 ds:List Deferred
 Z:List (Nat×Obj)
def Aee (Q:Exit->AS->Prop):Prop:=∀ st,¬ Q .outgrown st
def QI (c:Ctx) (ok:FrK->Prop) (K:FrK) (Q:Exit->AS->Prop):Exit->Act->World->Prop:=λe a w =>
 ∃ K' st S H a0,ok K'/\(∀ z∈K.Z,z∈K'.Z)/\a=dsl a0 K'.ds/\Rel c st a0 w S H/\Zed w K'.Z/\Q e st
def AWI (rd:Option Nat) (P:Program) (c:Ctx) (ok:FrK->Prop) (x:Code) (Q:Exit->AS->Prop) (st:AS):Prop :=
 Aee Q->∀ K,ok K->∀ a w S H,Rel c st a w S H->Zed w K.Z->x.wpIn (FW rd) 0 P (QI c ok K Q) (dsl a K.ds) w
section
variable {rd:Option Nat} {P:Program} {c:Ctx} {ok:FrK->Prop} {Q:Exit->AS->Prop} {t:Nat->AV} {m:List Blk}
theorem Aee.then {n:AS->Prop} (h:Aee Q):Aee (Gh n Q):=λst hs=>h st hs
theorem Aee.block {id:Nat} (h:Aee Q):Aee (Em id Q):=λst hs=>h st hs
theorem Hd {id:Nat} {l:List Oper} (hnd:l.all ndf=true) (h:∀ w0 S0 X m0 H0,AWL P ⟨w0,S0,c.nt,X,m0,H0⟩ l.toArray Q l ⟨t,m⟩):AWI rd P c ok (.region id l.toArray false) Q ⟨t,m⟩:=by
 intro hq K hK a w S H r z
 refine wpIn_region_lit (Aan (Q1:=QR (c.now ⟨t,m⟩ w S H) Q) ?_ ?_ ?_ l hnd a w (h _ _ _ _ _ a w S H r.now))
 ·rintro⟨a,w,st,S,H,_,h⟩;exact hq st h
 ·rintro e a w ⟨st,S,H,r,_⟩;exact r.df
 ·rintro e a' w' ⟨st',S',H',r',h⟩
  exact⟨K,st',S',H',a',hK,λ_ h=>h,rfl,r.then_now r',z.now r r'.ex,h⟩
theorem AWI.mono {x:Code} {st:AS} {Q Q':Exit->AS->Prop} (h:AWI rd P c ok x Q st) (hq:∀ e st,Q e st->Q' e st):AWI rd P c ok x Q' st:=by
 intro hn K hK a w S H r z
 refine wpIn_mono (h (λst hs=>hn st (hq _ _ hs)) K hK a w S H r z) ?_
 rintro e a w ⟨K',st,S,H,a0,h1,h2,h3,h4,h5,h6⟩
 exact⟨K',st,S,H,a0,h1,h2,h3,h4,h5,hq _ _ h6⟩
theorem Aa7 {x y:Code} (h:AWI rd P c ok x (Gh (AWI rd P c ok y Q) Q) ⟨t,m⟩):AWI rd P c ok (.seq x y) Q ⟨t,m⟩:=by
 intro hn K hK a w S H r z
 refine wpIn_seq (wpIn_mono (h hn.then K hK a w S H r z) ?_)
 rintro e a w ⟨K',st,S,H,a0,h1,h2,rfl,h4,h5,h6⟩
 cases e with
 | normal =>
  have h6':AWI rd P c ok y Q st:=h6
  refine wpIn_mono (h6' hn K' h1 a0 w S H h4 h5) ?_
  rintro e a w ⟨K2,st,S,H,a0,g1,g2,g3,g4,g5,g6⟩
  exact⟨K2,st,S,H,a0,g1,λz hz=>g2 z (h2 z hz),g3,g4,g5,g6⟩
 | _=>exact⟨K',st,S,H,a0,h1,h2,rfl,h4,h5,h6⟩
theorem Aw6 (h:Q .normal ⟨t,m⟩):AWI rd P c ok .skip Q ⟨t,m⟩:=λ_ K hK a _ S H r z=>wpIn_skip ⟨K,_,S,H,a,hK,λ_ h=>h,rfl,r,z,h⟩
theorem Ar6 (h:Q .ret ⟨t,m⟩):AWI rd P c ok .ret Q ⟨t,m⟩:=λ_ K hK a _ S H r z=>wpIn_ret ⟨K,_,S,H,a,hK,λ_ h=>h,rfl,r,z,h⟩
theorem Abg {id:Nat} {x:Code} (h:AWI rd P c ok x (Em id Q) ⟨t,m⟩):AWI rd P c ok (.block id x) Q ⟨t,m⟩:=by
 intro hn K hK a w S H r z
 refine wpIn_block (wpIn_mono (h hn.block K hK a w S H r z) ?_)
 rintro e a w ⟨K',st,S,H,a0,h1,h2,h3,h4,h5,hq⟩
 cases e with
 | exit id' =>
  simp only[Em] at hq
  simp only[Exit.inBlock]
  split
  ·rename_i h;rw[if_pos h] at hq;exact⟨K',st,S,H,a0,h1,h2,h3,h4,h5,hq⟩
  ·rename_i h;rw[if_neg h] at hq;exact⟨K',st,S,H,a0,h1,h2,h3,h4,h5,hq⟩
 | _=>exact⟨K',st,S,H,a0,h1,h2,h3,h4,h5,hq⟩
theorem Ar5 {o:Operand} {x y:Code} {b:Bool} (ho:B2 ⟨t,m⟩ o=.s (.one (.b b))) (h1:b=true->AWI rd P c ok x Q ⟨t,m⟩) (h0:b=false->AWI rd P c ok y Q ⟨t,m⟩):AWI rd P c ok (.cond o x y) Q ⟨t,m⟩:=by
 intro hn K hK a w S H r z
 have h:=Ba r o
 rw[ho] at h
 have hv:(dsl a K.ds).eval o=.bool b:=by rw[Ac0];exact Tn (h:Rep w S (.b b) (a.eval o))
 exact wpIn_cond_split hv (λhb=>h1 hb hn K hK a w S H r z) (λhb=>h0 hb hn K hK a w S H r z)
end
def Ym (D:Nat):Deferred:={ target:=.collected D,args:=#[] }
def okO (c:Ctx) (K:FrK):Prop:=∃ Ds:List Nat,K.ds=Ds.map Ym/\K.Z=Ds.map (λD=>(D,.deferred (some [])))/\Ds.Nodup/\∀ D∈Ds,c.w0.heap.size<=D
def okB (K:FrK):Prop:=K.ds=[]
theorem Yj {P:Program} {fn:Func} {R:Ending->World->Prop} {c:Ctx} {st:AS} {a:Act} {S:Bz} {H:Nat->Value} (hR:∀ w',Rel c st a w' S H->∃ v,(results fn a.tmps).run P w'=.ok v w'/\R (.returned v) w') :
  ∀ (Ds:List Nat) (w:World),Ds.Nodup->(∀ D∈Ds,c.w0.heap.size<=D)->Zed w (Ds.map (λD=>(D,.deferred (some []))))->Rel c st a w S H->LeavesInM Fence.wide 0 P fn a.tmps R (Ds.map Ym) .returning w
 | [],w,_,_,_,r=>hR w r
 | D::Ds,w,hn,hge,z,r=>by
  have hD:w.heap[D]? = some (.deferred (some [])):=(z (D,.deferred (some [])) (yR ..)).1
  refine⟨by simp,.inl ⟨D,w.putObj D (.deferred none),rfl,run_takeDeferred hD,Yj hR Ds _ (xU.1 hn).2 (λD' h=>hge D' (yQ _ h)) ?_ (r.putObj _ hD rfl rfl (hge D (yR ..)))⟩⟩
  refine Zed.putObj (λx hx=>z x (yQ _ hx)) λx hx e=>?_
  rw[z8] at hx
  obtain⟨D',h1,rfl⟩:=hx
  exact(xU.1 hn).1 (e ▸ h1)
theorem Xl {P:Program} {f:FuncId} {fn:Func} {body:Code} {args:List SV} {R:AV->Prop} (hf:P.funcs[f]? = some fn) (hb:fn.body=some body) {nt:Nat} (hnt:fn.ntmps=nt) (hn:args.length<=nt)
  (h:∀ w0 S0,AWI none P (Ctx.of w0 S0 nt) (okO (Ctx.of w0 S0 nt)) body (Asw P fn R) ⟨Ar0 args,[]⟩):A6 P f args R:=by
 subst hnt
 intro w S vs hS hv
 refine callsIn_wide.1 (callsIn_of_wp_marks (n:=0) hf hb trivial ?_)
 have hlen:vs.size=args.length:=by have:=hv.1;simp at this;omega
 have hget:∀ i,(vs++Array.replicate (fn.ntmps-vs.size) undef).getD i undef=vs.getD i undef:=by
  intro i
  simp only[zF,jS]
  split
  ·rfl
  ·rename_i hi
   rw[wX]
   have:vs[i]? = none:=w6 (by omega)
   rw[this]
   split <;> rfl
 have r0:Rel (Ctx.of w S fn.ntmps) ⟨Ar0 args,[]⟩ { tmps:=vs++Array.replicate (fn.ntmps-vs.size) undef,defers:=[] } w S (λ_=>undef):=by
  refine⟨by simp;omega,rfl,λi=>?_,λp b h=>by simp at h,λp b g h=>by simp at h,λp q b b' g h=>by simp at h,λp b g i h=>by simp at h,hS,Vt.refl _ w S,zZ _,λp g h=>absurd h (zW _),λp e sz k cs h=>absurd h (zW _),λp h=>absurd h (zW _)⟩
  rw[hget]
  show AVR _ (match args[i]? with|some x=>.s x|none=>.tup []) _
  cases ha:args[i]? with
  | none =>
   have:vs[i]? = none:=w6 (by rw[hlen];exact wJ.1 ha)
   simp only[zF,this,zAc]
   exact H8
  | some x =>
   have hi:i<args.length:=(zB.1 ha).1
   have hi':i<vs.size:=by omega
   have:vs[i]? = some vs[i]:=zR hi'
   simp only[zF,this,yI]
   exact SVR.mono (λ_ _=>Bt.of_rep) (hv.2 i x _ ha (by simp))
 have hno:Aee (Asw P fn R):=λst hs=>by rcases hs.1 with h|h <;> cases h
 refine wpIn_mono (h w S hno ⟨[],[]⟩ ⟨[],rfl,rfl,kJ,λD h=>by cases h⟩ _ w S _ r0 (λx h=>by cases h)) ?_
 rintro e a w1 ⟨K',st,S1,H,a0,⟨Ds,h1,h2,h3,h4⟩,_,rfl,r,z,he,xs,ys,m',hx,hp,hR⟩
 have key:LeavesInM Fence.wide 0 P fn a0.tmps (λe w'=>∃ v x S',e=.returned v/\R x/\Ext w S w' S'/\InH w' S'/\AVR (Rep w' S') x v) (Ds.map Ym) .returning w1:=by
  refine Yj (c:=Ctx.of w S fn.ntmps) (st:=st) (S:=S1) (H:=H) (λw' r=>?_) Ds w1 h3 h4 (by rw[<- h2];exact z) r
  obtain⟨u,hu,hk⟩:=Zm r hx
  obtain⟨S2,k2,g2⟩:=hp.keeps r
  exact⟨u,hu,u,Acn ys,S2,rfl,hR,k2.rel.ex.toExt (λ_ h=>h),k2.rel.sl,hk S2 ys g2⟩
 rw[<- h1] at key
 rcases he with rfl|rfl
 ·exact key
 ·exact key
structure Aqd (w:World) (S:Bz) (w':World) (S':Bz):Prop where
 st:∀ b i,S b i->S' b i/\w'.cell? ⟨b,i,none⟩=w.cell? ⟨b,i,none⟩
 sl:InH w' S'
def Apn (P:Program) (fc:FuncId) (cap:List Lf) (L:List (SV×SV)):Prop :=
 ∀ (l:Nat) (J:Nat->World->Bz->Prop) (Jx:World->Bz->Prop) (w:World) (S:Bz) (vs:Array Value),
  (∀ k w S w' S',J k w S->Ext w S w' S'->InH w' S'->J k w' S')->(∀ w S w' S',Jx w S->Ext w S w' S'->InH w' S'->Jx w' S') ->
  (∀ k x y w S v u,L[k]? = some (x,y)->J k w S->InH w S->SVR (Rep w S) x v->SVR (Rep w S) y u ->
   ∃ fn tmps assign body,(Instr.yield l #[v,u]).run P w=.ok (.round l fn tmps assign body) w /\
    RoundIn Fence.wide 0 P l fn tmps assign body w (λe w'=>∃ b S',e=.returned (.bool b)/\Aqd w S w' S'/\(if b then J (k+1) w' S' else Jx w' S'))) ->
  J 0 w S->InH w S->LsR (Rep w S) cap vs.toList ->
  Calls P fc (#[.func (.yield l) #[] #[]]++vs) w λe w'=>∃ v S',e=.returned v/\InH w' S'/\(J L.length w' S'\/Jx w' S')
def RQ {G:Type} (mm:G->List Blk) (pre:G->Prop) (jmp:Code->G->Prop):Exit->AS->Prop
 | .normal,st=>∃ g ex,pre g/\st.m=mm g++ex
 | .ret,st=>∃ g ex,jmp .ret g/\st.m=mm g++ex
 | .exit id,st=>∃ g ex,jmp (.exit id) g/\st.m=mm g++ex
 | _,_=>False
theorem Rel.swap {c:Ctx} {t t':Nat->AV} {m:List Blk} {a a':Act} {w:World} {S:Bz} {H:Nat->Value} (r:Rel c ⟨t',m⟩ a' w S H) (hn:a.tmps.size=c.nt) (hd:a.defers=[]) (tm:∀ i,AVR (Bt w S m H) (t i) (a.tmps.getD i undef)):Rel c ⟨t,m⟩ a w S H :=
 ⟨hn,hd,tm,r.bl,r.lo,r.inj,r.sb,r.sl,r.ex,r.kl,r.kh,r.kr,r.ku⟩
section
variable {P:Program} {c:Ctx} {Q:Exit->AS->Prop} {t:Nat->AV} {m:List Blk}
theorem Awj {go:Operand} {p1 p2:Tmp} {assign body:Code} {fc:FuncId} {cap:List Lf} {L:List (SV×SV)} {G:Type} (mm:G->List Blk) (pre:Nat->G->Prop) (jmp:Code->G->Prop) (g0:G)
  (hg:B2 ⟨t,m⟩ go=.s (.one (.fn fc [] cap))) (hfc:FnI P fc) (hcap:cap.all Lf.pubd0=true) (hit:Apn P fc cap L) (hp1:decide (p1<c.nt)=true) (hp2:decide (p2<c.nt)=true)
  (h0:pre 0 g0) (hm:m=mm g0) (hlen:∀ g,(mm g).length=m.length) (hmin:∀ g,∀ b∈mm g,b.inb (mm g).length)
  (round:∀ k x y g l,L[k]? = some (x,y)->pre k g->∀ w0 S0 X H0,AWI (some l) P ⟨w0,S0,c.nt,X,mm g,H0⟩ okB assign
   (Gh (λst1=>∀ w0 S0 X H0,AWI (some l) P ⟨w0,S0,c.nt,X,st1.m,H0⟩ okB body (RQ mm (pre (k+1)) jmp) st1) (λ_ _=>False)) ⟨upd (upd t p1 (.s x)) p2 (.s y),mm g⟩)
  (done:∀ g,pre L.length g->Q .normal ⟨t,mm g⟩) (hret:∀ g,jmp .ret g->Q .ret ⟨t,mm g⟩) (hex:∀ id g,jmp (.exit id) g->Q (.exit id) ⟨t,mm g⟩) :
  AWI none P c (okO c) (.rangeFunc go #[p1,p2] assign body) Q ⟨t,m⟩:=by
 intro hq K hK a w S H r z
 obtain⟨Ds,hds,hZ,hnd,hge⟩:=hK
 have hp1':p1<c.nt:=of_decide_eq_true hp1
 have hp2':p2<c.nt:=of_decide_eq_true hp2
 have hgo:=Ba r go
 rw[hg] at hgo
 obtain⟨va,vb,hgv,hva,hvb⟩:=hgo
 have hva0:va = #[]:=Array.eq_empty_of_size_eq_zero (by have:=hva.1;simpa using this.symm)
 subst hva0
 refine wpIn_rangeFunc λfn _=>?_
 obtain⟨D,hD⟩:∃ D,D=w.heap.size:=⟨_,rfl⟩
 obtain⟨l,hl⟩:∃ l,l=w.heap.size+1:=⟨_,rfl⟩
 obtain⟨rec,hrec⟩:∃ rec:LoopState->Option Code->Loop,rec=λst pe=>{ state:=st,pending:=pe,fn,tmps:=a.tmps,params:=#[p1,p2],assign,body,defers:=w.heap.size }:=⟨_,rfl⟩
 obtain⟨W1,hW1⟩:∃ W1,(w.alloc (.deferred (some []))).alloc (.loop (rec .ready none))=W1:=⟨_,rfl⟩
 have hx1:Ext w S W1 S:=by rw[<- hW1];exact(Ext.alloc w S _).trans (Ext.alloc _ S _)
 have hS1:InH W1 S:=InH.ext hx1 r.sl
 have hL1:W1.heap[l]? = some (.loop (rec .ready none)):=by
  rw[<- hW1,hl];have:=World.alloc_heap_new (w.alloc (.deferred (some []))) (.loop (rec .ready none));rwa [World.size_alloc] at this
 have hD1:W1.heap[D]? = some (.deferred (some [])):=by
  rw[<- hW1,hD];exact(Below.heap_alloc _ _ _ (by simp)).trans (World.alloc_heap_new w _)
 have hcl:c.w0.heap.size<=l:=by rw[hl];exact yP r.ex.size (xL _)
 have hDl:D≠l:=by omega
 have hZl:∀ x∈K.Z,x.1<w.heap.size:=λx hx=>(yA.1 (z x hx).1).1
 let Zr:Obj->List (Nat×Obj):=λo=>(l,o)::(D,.deferred (some []))::K.Z
 have zput:∀ {w':World} {o:Obj} (o':Obj),Aa5 o'=false->Zed w' (Zr o)->Zed (w'.putObj l o') (Zr o'):=by
  intro w' o o' ho' zz x hx
  rcases yM.1 hx with rfl|hx
  ·exact⟨World.putObj_heap_same (yA.1 (zz (l,o) (yR ..)).1).1,ho'⟩
  ·have h1:=zz x (yQ _ hx)
   have hne:x.1≠l:=by
    rcases yM.1 hx with rfl|hx
    ·exact hDl
    ·have:=hZl x hx;omega
   exact⟨(World.putObj_heap_other hne).trans h1.1,h1.2⟩
 let J:Nat->World->Bz->Prop:=λk W S=>∃ g H,pre k g/\Rel c ⟨t,mm g⟩ a W S H/\Zed W (Zr (.loop (rec .ready none)))
 let Jx:World->Bz->Prop:=λW S=>∃ jc g H,jmp jc g/\(jc=.ret\/∃ id,jc=.exit id)/\Rel c ⟨t,mm g⟩ a W S H/\Zed W (Zr (.loop (rec .done (some jc))))
 have hJ0:J 0 W1 S:=by
  refine⟨g0,H,h0,by rw[<- hm];exact r.ext hx1 hS1,λx hx=>?_⟩
  rcases yM.1 hx with rfl|hx
  ·exact⟨hL1,rfl⟩
  ·rcases yM.1 hx with rfl|hx
   ·exact⟨hD1,rfl⟩
   ·exact(z.ext hx1) x hx
 have hcapR:LsR (Rep W1 S) cap vb.toList:=by
  refine⟨hvb.1,λj x v h1 h2=>?_⟩
  exact Rep.mono (hx1.keeps r.sl) (Df.rep (hvb.2 j x v h1 h2) ((zL.1 hcap) x (zG h1)))
 have hev:(dsl a K.ds).eval go=.func (.func fc) #[] vb:=by rw[Ac0];exact hgv
 refine⟨l,[Ym D],W1,{ target:=.fn (.func fc) vb,args:=#[.func (.yield l) #[] #[]] },W1,fc,#[.func (.yield l) #[] #[]]++vb,W1,?_,?_,λ_ _=>trivial,?_,λhh=>(by simp [FW,Fence.wide] at hh),?_⟩
 ·rw[<- hW1,hrec,hl,hD];exact run_enterLoop_outer _ _ _ _ _
 ·simp only[resolve,hev]
  simp [Deferred.ofValue,Act.eval]
 ·simp [invoke,hfc.run]
 ·refine Abt ((hit l J Jx W1 S vb ?_ ?_ ?_ hJ0 hS1 hcapR).mono ?_)
  ·rintro k w S w' S' ⟨g,H,h1,h2,h3⟩ hx hin
   exact⟨g,H,h1,h2.ext hx hin,h3.ext hx⟩
  ·rintro w S w' S' ⟨jc,g,H,h1,h1',h2,h3⟩ hx hin
   exact⟨jc,g,H,h1,h1',h2.ext hx hin,h3.ext hx⟩
  ·
   rintro k x0 y W S v u hxy ⟨g,H,hp,r1,z1⟩ hin hv hu
   have hl1:W.heap[l]? = some (.loop (rec .ready none)):=(z1 (l,_) (yR ..)).1
   have hy:=run_yield (P:=P) (args:=#[v,u]) hl1 (by rw[hrec];rfl)
   rw[hrec] at hy
   have r2:Rel c ⟨upd (upd t p1 (.s x0)) p2 (.s y),mm g⟩ ((a.put (some p1) v).put (some p2) u) W S H :=
    (r1.put hp1' (show AVR _ (.s x0) v from SVR.mono (λ_ _ h=>Bt.of_rep h) hv)).put hp2' (show AVR _ (.s y) u from SVR.mono (λ_ _ h=>Bt.of_rep h) hu)
   refine⟨fn,_,assign,body,hy,roundIn_of_wpIn trivial ?_⟩
   have hA:=round k x0 y g l hxy hp W S (Akb (mm g) H) H (λst hs=>hs) ⟨[],Zr (.loop (rec .ready none))⟩ rfl _ W S H r2.now z1
   have hact:dsl ((a.put (some p1) v).put (some p2) u) []={ tmps:=(#[p1,p2].zip #[v,u]).foldl (λt (x:Tmp×Value)=>t.setIfInBounds x.1 x.2) a.tmps,defers:=[] }:=by simp [dsl,Act.put]
   rw[hact] at hA
   refine wpIn_mono hA ?_
   rintro e a1 w1 ⟨K1,st1,S1,H1,a10,hok1,hz1,rfl,r3,z3,hq1⟩
   cases e with
   | normal =>
    have hK1:K1.ds=[]:=hok1
    have z3':Zed w1 (Zr (.loop (rec .ready none))):=λx hx=>z3 x (hz1 x hx)
    have hl3:w1.heap[l]? = some (.loop (rec .ready none)):=(z3' (l,_) (yR ..)).1
    refine⟨_,run_beginRound hl3 (by rw[hrec]),?_⟩
    have r3c:Rel c st1 a10 w1 S1 H1:=r2.then_now r3
    have hb3:({ rec .ready none with state:=.busy }:Loop)=rec .busy none:=by rw[hrec]
    rw[hb3]
    have r4:Rel c st1 a10 (w1.putObj l (.loop (rec .busy none))) S1 H1:=r3c.putObj _ hl3 rfl rfl hcl
    have z4:=zput (.loop (rec .busy none)) rfl z3'
    have hB:=hq1 (w1.putObj l (.loop (rec .busy none))) S1 (Akb st1.m H1) H1 (λst hs=>hs) ⟨[],Zr (.loop (rec .busy none))⟩ rfl a10 _ S1 H1 r4.now z4
    rw[hK1]
    refine wpIn_mono hB ?_
    have fin:∀ (st':AS) (a0':Act) (w3:World) (S3:Bz) (H3:Nat->Value) (K3:FrK) (g':G) (ex:List Blk) (o':Obj),(∀ z∈Zr (.loop (rec .busy none)),z∈K3.Z)->Rel (c.now st1 (w1.putObj l (.loop (rec .busy none))) S1 H1) st' a0' w3 S3 H3->Zed w3 K3.Z->st'.m=mm g'++ex->Aa5 o'=false ->
      w3.heap[l]? = some (.loop (rec .busy none))/\Aqd W S (w3.putObj l o') S3/\∃ H4,Rel c ⟨t,mm g'⟩ a (w3.putObj l o') S3 H4/\Zed (w3.putObj l o') (Zr o'):=by
     intro st' a0' w3 S3 H3 K3 g' ex o' hz3 r5 z5 hm' ho'
     have z5':Zed w3 (Zr (.loop (rec .busy none))):=λx hx=>z5 x (hz3 x hx)
     have hl5:w3.heap[l]? = some (.loop (rec .busy none)):=(z5' (l,_) (yR ..)).1
     have hc2:=Wb (o':=.loop (rec .busy none)) hl3 rfl rfl
     have hc4:=Wb (o':=o') hl5 rfl ho'
     have r5':Rel (c.now st1 (w1.putObj l (.loop (rec .busy none))) S1 H1) ⟨st'.t,mm g'++ex⟩ a0' w3 S3 H3:=by rw[<- hm'];exact r5
     have r6:Rel c ⟨st'.t,mm g'++ex⟩ a0' w3 S3 H3:=r4.then_now r5'
     have r7:=(r6.putObj o' hl5 rfl ho' hcl).trim (t':=λ_=>.top) (λ_=>.inl rfl) (hmin g') (by rw[hlen];have:=r.kl;exact this)
     refine⟨hl5,⟨λb i hs=>?_,r7.sl⟩,H3,r7.swap r1.nt r1.df (λi=>?_),zput o' ho' z5'⟩
     ·have s1:=r3.ex.sub b i hs
      refine⟨r5.ex.sub b i s1,?_⟩
      exact(hc4 _).trans ((r5.ex.stab b i s1).trans ((hc2 _).trans (r3.ex.stab b i hs)))
     ·refine AVR.mono (λx v hx=>?_) (r1.tm i)
      have e3:Bt w3 S3 (mm g') H3 x v:=by
       have hl0:(mm g).length=m.length:=hlen g
       have hl1:(mm g).length<=st1.m.length:=r3.kl
       refine Bt.mono2 (λb i hs=>?_) (by rw[hlen g',hl0];exact zO _) (λp gg hp hh=>?_) (λp hp hne=>r5.ku p (z6 hp hl1) (r3.ku p hp hne)) (λp e sz k cs hp hm=>?_) hx
       ·have s1:=r3.ex.sub b i hs
        exact⟨r5.ex.sub b i s1,(r5.ex.stab b i s1).trans ((hc2 _).trans (r3.ex.stab b i hs))⟩
       ·have h1:H1 p=H p:=r3.kh p gg hp hh
        exact(r5.kh p gg (z6 hp hl1) (h1.trans hh)).trans h1
       ·have hm2:(mm g'++ex)[p]? = some (.arr e sz k cs):=by rw[zK (by rw[hlen g',<- hl0];exact hp)];exact hm
        obtain⟨k1,cs1,q1,q2⟩:=r5'.kr p e sz k cs (z6 hp hl1) hm2
        obtain⟨k2,cs2,q3,q4⟩:=r3.kr p e sz k1 cs1 hp q1
        refine⟨k2,cs2,q3,?_⟩
        rcases q2 with⟨q2,q5⟩|q2 <;> rcases q4 with⟨q4,q6⟩|q4
        ·exact .inl ⟨q4.trans q2,q5.trans q6⟩
        ·exact .inr (by omega)
        ·exact .inr (by omega)
        ·exact .inr (by omega)
      exact Bt.mono (λb i hs=>⟨hs,hc4 _⟩) (zO _) (λ_ _=>rfl) (λp e sz k cs _ hm=>⟨k,cs,hm,rfl⟩) e3
    rintro e a3 w3 ⟨K3,st',S3,H3,a0',hok3,hz3,rfl,r5,z5,hq3⟩
    cases e with
    | normal =>
     obtain⟨g',ex,hp',hm'⟩:=hq3
     obtain⟨hl5,hks,H4,hr4,hz4⟩:=fin st' a0' w3 S3 H3 K3 g' ex (.loop (rec .ready none)) hz3 r5 z5 hm' rfl
     have he:=run_endRound (P:=P) none hl5
     rw[hrec] at he
     refine⟨_,_,he,true,S3,rfl,?_,?_⟩
     ·rw[hrec] at hks;exact hks
     ·refine⟨g',H4,hp',?_,?_⟩
      ·rw[hrec] at hr4;exact hr4
      ·rw[hrec] at hz4;rw[hrec];exact hz4
    | ret =>
     obtain⟨g',ex,hp',hm'⟩:=hq3
     obtain⟨hl5,hks,H4,hr4,hz4⟩:=fin st' a0' w3 S3 H3 K3 g' ex (.loop (rec .done (some .ret))) hz3 r5 z5 hm' rfl
     have he:=run_endRound (P:=P) (some .ret) hl5
     rw[hrec] at he
     refine⟨_,_,he,false,S3,rfl,?_,?_⟩
     ·rw[hrec] at hks;exact hks
     ·refine⟨.ret,g',H4,hp',.inl rfl,?_,?_⟩
      ·rw[hrec] at hr4;exact hr4
      ·rw[hrec] at hz4;rw[hrec];exact hz4
    | exit id =>
     obtain⟨g',ex,hp',hm'⟩:=hq3
     obtain⟨hl5,hks,H4,hr4,hz4⟩:=fin st' a0' w3 S3 H3 K3 g' ex (.loop (rec .done (some (.exit id)))) hz3 r5 z5 hm' rfl
     have he:=run_endRound (P:=P) (some (.exit id)) hl5
     rw[hrec] at he
     refine⟨_,_,he,false,S3,rfl,?_,?_⟩
     ·rw[hrec] at hks;exact hks
     ·refine⟨.exit id,g',H4,hp',.inr ⟨id,rfl⟩,?_,?_⟩
      ·rw[hrec] at hr4;exact hr4
      ·rw[hrec] at hz4;rw[hrec];exact hz4
    | goto lb=>exact absurd hq3 id
    | panic ch=>exact absurd hq3 id
    | outgrown=>exact absurd hq3 id
   | _=>exact hq1
  ·
   rintro e w5 ⟨v,S5,rfl,hin,hj⟩
   have okK:okO c ⟨Ym D::K.ds,(D,.deferred (some []))::K.Z⟩:=by
    refine⟨D::Ds,by rw[hds];rfl,by rw[hZ];rfl,xU.2 ⟨λhm=>?_,hnd⟩,λD' h=>?_⟩
    ·have:=hZl (D,.deferred (some [])) (by rw[hZ];exact z8.2 ⟨D,hm,rfl⟩)
     simp only at this
     omega
    ·rcases yM.1 h with rfl|h
     ·rw[hD];exact r.ex.size
     ·exact hge D' h
   rcases hj with⟨g,H5,hp,r5,z5⟩|⟨jc,g,H5,hp,hjc,r5,z5⟩
   ·have hl5:w5.heap[l]? = some (.loop (rec .ready none)):=(z5 (l,_) (yR ..)).1
    have he:=run_endLoop (P:=P) hl5 (by rw[hrec];simp)
    refine⟨_,_,he,?_⟩
    rw[hrec]
    exact⟨⟨Ym D::K.ds,(D,.deferred (some []))::K.Z⟩,_,S5,H5,a,okK,λx hx=>yQ _ hx,rfl,r5.putObj _ hl5 rfl rfl hcl,λx hx=>(zput (.loop _) rfl z5) x (yQ _ hx),done g hp⟩
   ·have hl5:w5.heap[l]? = some (.loop (rec .done (some jc))):=(z5 (l,_) (yR ..)).1
    have he:=run_endLoop (P:=P) hl5 (by rw[hrec];simp)
    refine⟨_,_,he,?_⟩
    rw[hrec]
    have post:∀ e,Q e ⟨t,mm g⟩->QI c (okO c) K Q e (dsl a (Ym D::K.ds)) (w5.putObj l (.loop { ({ state:=.done,pending:=some jc,fn,tmps:=a.tmps,params:=#[p1,p2],assign,body,defers:=w.heap.size }:Loop) with state:=.exhausted })):=λe hqe =>
     ⟨⟨Ym D::K.ds,(D,.deferred (some []))::K.Z⟩,_,S5,H5,a,okK,λx hx=>yQ _ hx,rfl,r5.putObj _ hl5 rfl rfl hcl,λx hx=>(zput (.loop _) rfl z5) x (yQ _ hx),hqe⟩
    rcases hjc with rfl|⟨id,rfl⟩
    ·exact wpIn_ret (post _ (hret g hp))
    ·exact wpIn_exit (post _ (hex id g hp))
end
open Go.RowKit
section
variable {P:Program} {c:Ctx} {ops:Array Oper} {Q:Exit->AS->Prop} {rest:List Oper} {ty:TypeId} {pos:String} {af:Array Edge} {d:Tmp} {t:Nat->AV} {m:List Blk}
theorem Akf {t':TypeId} {y:Operand} {x:SV} (hd:decide (d<c.nt)=true) (hx:B2 ⟨t,m⟩ y=.s x) (hpub:x.cells.all Lf.pubd=true)
  (k:AWL P c ops Q rest ⟨upd t d (.s (.one (.cp x.cells))),m⟩):AWL P c ops Q (⟨some d,.box t' y,ty,pos,af,none⟩::rest) ⟨t,m⟩:=by
 intro a w S H r
 have h:=Ba r y
 rw[hx] at h
 have hls:=R2 h (λl v=>Bt.oneCell)
 obtain⟨cells,hce⟩:∃ cells,cells=(a.eval y).cells:=⟨_,rfl⟩
 rw[<- hce] at hls
 have hrun:(execOp a.eval ⟨some d,.box t' y,ty,pos,af,none⟩).run P w=.ok (.value (.pointer (some ⟨w.heap.size,0,none⟩))) (w.alloc (.cells cells t')):=by
  rw[hce];simp [execOp,Instr.box,newVar,newRow]
 let S':Bz:=λb i=>S b i\/(b=w.heap.size/\i<cells.size)
 have hx1:Ext w S (w.alloc (.cells cells t')) S':=⟨rfl,rfl,rfl,by simp,λb hb=>Below.heap_alloc w _ b hb,λ_ _ h=>.inl h,λb i hb h=>by
  rcases h with h|⟨h,_⟩
  ·exact h
  ·omega⟩
 have hin:InH (w.alloc (.cells cells t')) S':=⟨λb i hs=>by
  rcases hs with hs|⟨rfl,_⟩
  ·exact z6 (r.sl.1 b i hs) hx1.size
  ·simp,r.sl.2.1.mono (hx1.keeps r.sl),(r.sl.2.2.ext (Ext.alloc w S _) r.sl.1).add λb i hs=>by
   rcases hs with hs|⟨rfl,hi⟩
   ·exact .inl hs
   ·refine .inr ⟨?_,λj hj=>absurd (r.sl.1 _ j hj) (wS _)⟩
    unfold World.cell?
    rw[show(w.alloc (.cells cells t')).heap[(⟨w.heap.size,i,none⟩:Addr).block]? = some (.cells cells t') from heap_alloc_new w _]
    show cells[i]? ≠ none
    rw[zR hi]
    exact λh=>by cases h⟩
 refine wpList_plain rfl λK hK=>?_
 unfold Oper.wp
 rw[hrun]
 refine hK _ _ (k _ _ _ _ ((r.ext hx1 hin).put (of_decide_eq_true hd) ?_))
 have hrep:Rep (w.alloc (.cells cells t')) S' (.cp x.cells) (.pointer (some ⟨w.heap.size,0,none⟩)):=by
  have hcell:∀ j,(w.alloc (.cells cells t')).cell? ⟨w.heap.size,j,none⟩=cells[j]? := λj=>by
   unfold World.cell?
   rw[show(w.alloc (.cells cells t')).heap[(⟨w.heap.size,j,none⟩:Addr).block]? = some (.cells cells t') from heap_alloc_new w _]
   rfl
  have hj:∀ (j:Nat) (l:Lf),x.cells[j]? = some l->∃ v,cells[j]? = some v/\Bt w S m H l v:=λj l hl=>by
   obtain⟨v,h1,h2⟩:=hls.get hl
   exact⟨v,by simpa using h1,h2⟩
  refine .cp x.cells w.heap.size 0 (λj=>cells.getD j undef) (λj l hl=>?_) (λj l hl=>?_)
  ·obtain⟨v,h1,h2⟩:=hj j l hl
   rw[yK]
   refine⟨.inr ⟨rfl,(yA.1 h1).1⟩,(hcell j).trans ?_⟩
   simp [h1]
  ·obtain⟨v,h1,h2⟩:=hj j l hl
   have:cells.getD j undef=v:=by simp [h1]
   rw[this]
   exact Rep.mono (hx1.keeps r.sl) (Bt.rep h2 ((zL.1 hpub) l (zG hl)))
 exact hrep
end
abbrev YK:=World->Bz->Prop
def Axg (K:YK):Prop:=∀ w S w' S',K w S->Ext w S w' S'->InH w' S'->K w' S'
def QY (nt:Nat) (Q:Exit->(Nat->AV)->YK->Prop):Exit->Act->World->Prop:=λe a w=>∃ t S H K,Rel (Ctx.of w S nt) ⟨t,[]⟩ a w S H/\K w S/\Q e t K
def Arz (Q:Exit->(Nat->AV)->YK->Prop):Prop:=∀ t K,¬ Q .outgrown t K
def Aua (n:(Nat->AV)->YK->Prop) (Q:Exit->(Nat->AV)->YK->Prop):Exit->(Nat->AV)->YK->Prop
 | .normal,t,K=>n t K
 | e,t,K=>Q e t K
def Acu (id:Nat) (Q:Exit->(Nat->AV)->YK->Prop):Exit->(Nat->AV)->YK->Prop
 | .exit id',t,K=>if id'=id then Q .normal t K else Q (.exit id') t K
 | e,t,K=>Q e t K
def AWY (P:Program) (nt:Nat) (x:Code) (Q:Exit->(Nat->AV)->YK->Prop) (K:YK) (t:Nat->AV):Prop :=
 Arz Q->∀ a w S H,Rel (Ctx.of w S nt) ⟨t,[]⟩ a w S H->K w S->x.wpIn Fence.wide 0 P (QY nt Q) a w
def Ao7 (P:Program) (nt:Nat) (ops:Array Oper) (Q:Exit->(Nat->AV)->YK->Prop) (K:YK) (l:List Oper) (t:Nat->AV):Prop :=
 Arz Q->∀ a w S H,Rel (Ctx.of w S nt) ⟨t,[]⟩ a w S H->K w S->wpListIn Fence.wide 0 P ops (QY nt Q) l a w
theorem Rel.here {c:Ctx} {t:Nat->AV} {a:Act} {w:World} {S:Bz} {H:Nat->Value} {nt:Nat} (hn:c.nt=nt) (r:Rel c ⟨t,[]⟩ a w S H):Rel (Ctx.of w S nt) ⟨t,[]⟩ a w S H :=
 ⟨r.nt.trans hn,r.df,r.tm,λp b h=>by simp at h,λp b g h=>by simp at h,λp q b b' g h=>by simp at h,λp b g i h=>by simp at h,r.sl,Vt.refl _ w S,zZ _,λp g h=>absurd h (zW _),λp e sz k cs h=>absurd h (zW _),λp h=>absurd h (zW _)⟩
theorem Rel.kept {t:Nat->AV} {a:Act} {w w':World} {S S':Bz} {H:Nat->Value} {nt:Nat} (r:Rel (Ctx.of w S nt) ⟨t,[]⟩ a w S H) (h:Aqd w S w' S'):Rel (Ctx.of w' S' nt) ⟨t,[]⟩ a w' S' H :=
 ⟨r.nt,r.df,λi=>AVR.mono (λl v=>Bt.mono h.st (zO _) (λ_ _=>rfl) (λp e sz k cs hp _=>by simp at hp)) (r.tm i),λp b h=>by simp at h,λp b g h=>by simp at h,λp q b b' g h=>by simp at h,λp b g i h=>by simp at h,h.sl,Vt.refl _ w' S',zZ _,λp g h=>absurd h (zW _),λp e sz k cs h=>absurd h (zW _),λp h=>absurd h (zW _)⟩
theorem Ud {F:Fence} {n:Nat} {P:Program} {ops:Array Oper} {Q:Exit->Act->World->Prop} {l2:List Oper}:∀ (l1:List Oper) (a:Act) (w:World),wpListIn F n P ops (Exit.then (wpListIn F n P ops Q l2) Q) l1 a w->wpListIn F n P ops Q (l1++l2) a w
 | [],a,w,h=>h
 | o::l1,a,w,h=>by
  have ih:=Ud (F:=F) (n:=n) (P:=P) (ops:=ops) (Q:=Q) (l2:=l2) l1
  simp only[List.cons_append]
  unfold wpListIn at h ⊢
  split at h
  ·rename_i hw
   rw[if_pos hw]
   obtain⟨h1,h2⟩:=h
   refine⟨h1,?_⟩
   generalize (o.semAt F.round a.eval).run P w=r at h2
   have hlet:LetsOut (Exit.then (wpListIn F n P ops Q l2) Q)->LetsOut Q:=λ⟨a,w,h⟩=>⟨a,w,h⟩
   cases r with
   | ok nx w' =>
    cases nx with
    | value v=>exact ih _ _ h2
    | skip=>exact ih _ _ h2
    | defer d=>exact ih _ _ h2
    | enter f args =>
     refine⟨h2.1,h2.2.mono λe w'' hr=>?_⟩
     cases e with
     | returned v=>exact ih _ _ hr
     | panicked ch=>exact hr
     | outgrown=>exact hlet hr
    | row row args=>exact⟨h2.1,h2.2.mono λv w'' hr=>ih _ _ hr⟩
    | round l f tmps ag bd =>
     refine⟨h2.1,h2.2.mono λe w'' hr=>?_⟩
     cases e with
     | returned v=>exact ih _ _ hr
     | panicked ch=>exact hr
     | outgrown=>exact hlet hr
    | _=>exact absurd h2 id
   | halt x w' =>
    cases x with
    | panic v=>exact h2
    | _=>exact absurd h2 id
  ·rename_i hw
   rw[if_neg hw]
   exact⟨h.1,ih _ _ h.2⟩
section
variable {P:Program} {nt:Nat} {Q:Exit->(Nat->AV)->YK->Prop} {K:YK} {t:Nat->AV}
theorem Aw5 {x y:Code} (h:AWY P nt x (Aua (λt K=>AWY P nt y Q K t) Q) K t):AWY P nt (.seq x y) Q K t:=by
 intro hn a w S H r hK
 refine wpIn_seq (wpIn_mono (h (λt K hs=>hn t K hs) a w S H r hK) ?_)
 rintro e a w ⟨t,S,H,K,r,hK,hq⟩
 cases e with
 | normal=>exact hq hn a w S H r hK
 | _=>exact⟨t,S,H,K,r,hK,hq⟩
theorem Af1 {n:(Nat->AV)->YK->Prop} (h:n t K):Aua n Q .normal t K:=h
theorem Azp {id:Nat} (h:Q .normal t K):Acu id Q .normal t K:=h
theorem Aw7 (h:Q .normal t K):AWY P nt .skip Q K t:=λ_ _ _ S H r hK=>wpIn_skip ⟨t,S,H,K,r,hK,h⟩
theorem Ayd {id:Nat} (h:Q (.exit id) t K):AWY P nt (.exit id) Q K t:=λ_ _ _ S H r hK=>wpIn_exit ⟨t,S,H,K,r,hK,h⟩
theorem A0r (h:Q .ret t K):AWY P nt .ret Q K t:=λ_ _ _ S H r hK=>wpIn_ret ⟨t,S,H,K,r,hK,h⟩
theorem Arm {id:Nat} {x:Code} (h:AWY P nt x (Acu id Q) K t):AWY P nt (.block id x) Q K t:=by
 intro hn a w S H r hK
 refine wpIn_block (wpIn_mono (h (λt K hs=>hn t K hs) a w S H r hK) ?_)
 rintro e a w ⟨t,S,H,K,r,hK,hq⟩
 cases e with
 | exit id' =>
  simp only[Acu] at hq
  simp only[Exit.inBlock]
  split
  ·rename_i h;rw[if_pos h] at hq;exact⟨t,S,H,K,r,hK,hq⟩
  ·rename_i h;rw[if_neg h] at hq;exact⟨t,S,H,K,r,hK,hq⟩
 | _=>exact⟨t,S,H,K,r,hK,hq⟩
theorem Atj {o:Operand} {x y:Code} {b:Bool} (ho:B2 ⟨t,[]⟩ o=.s (.one (.b b))) (h1:b=true->AWY P nt x Q K t) (h0:b=false->AWY P nt y Q K t):AWY P nt (.cond o x y) Q K t:=by
 intro hn a w S H r hK
 have h:=Ba r o
 rw[ho] at h
 have hv:a.eval o=.bool b:=Tn (h:Rep w S (.b b) (a.eval o))
 exact wpIn_cond_split hv (λhb=>h1 hb hn a w S H r hK) (λhb=>h0 hb hn a w S H r hK)
theorem Ao5 {ops:Array Oper} {l1 l2:List Oper} (hK:Axg K) (hnd:l1.all ndf=true) (h:∀ w0 S0,AWL P (Ctx.of w0 S0 nt) ops (λe st=>e=.normal/\st.m=[]/\Ao7 P nt ops Q K l2 st.t) l1 ⟨t,[]⟩):Ao7 P nt ops Q K (l1++l2) t:=by
 intro hn a w S H r hk
 refine Ud l1 a w ?_
 have h1:=Aan (rd:=none) (ds:=[]) (Q1:=QR (Ctx.of w S nt) (λe st=>e=.normal/\st.m=[]/\Ao7 P nt ops Q K l2 st.t)) (Q2:=Exit.then (wpListIn Fence.wide 0 P ops (QY nt Q) l2) (QY nt Q)) ?_ ?_ ?_ l1 hnd a w (h w S a w S H r)
 ·rw[Ain r.df] at h1
  exact h1
 ·rintro⟨a,w,st,S,H,_,h,_⟩;cases h
 ·rintro e a w ⟨st,S,H,r,_⟩;exact r.df
 ·rintro e a' w' ⟨⟨t',m'⟩,S',H',r',rfl,hm,h⟩
  have hm':m'=[]:=hm
  subst hm'
  rw[Ain r'.df]
  exact h hn a' w' S' H' (r'.here rfl) (hK _ _ _ _ hk (r'.ex.toExt (λ_ h=>h)) r'.sl)
theorem Ae5 {ops:Array Oper} (h:Q .normal t K):Ao7 P nt ops Q K [] t:=λ_ _ _ S H r hK=>⟨t,S,H,K,r,hK,h⟩
theorem Ams {id:Nat} {l:List Oper} (h:Ao7 P nt l.toArray Q K l t):AWY P nt (.region id l.toArray false) Q K t:=λhn a w S H r hK=>wpIn_region_lit (h hn a w S H r hK)
theorem Alk {id:Nat} {l:List Oper} (hK:Axg K) (hnd:l.all ndf=true) (h:∀ w0 S0,AWL P (Ctx.of w0 S0 nt) l.toArray (λe st=>e=.normal/\st.m=[]/\Ao7 P nt l.toArray Q K [] st.t) l ⟨t,[]⟩):AWY P nt (.region id l.toArray false) Q K t:=by
 refine Ams ?_
 have h1:=Ao5 (l2:=[]) hK hnd h
 rwa [xG] at h1
def Avb (P:Program) (l:Nat) (J:Nat->YK) (Jx:YK) (L:List (SV×SV)):Prop :=
 ∀ k x y w S v u,L[k]? = some (x,y)->J k w S->InH w S->SVR (Rep w S) x v->SVR (Rep w S) y u ->
   ∃ fn tmps assign body,(Instr.yield l #[v,u]).run P w=.ok (.round l fn tmps assign body) w /\
    RoundIn Fence.wide 0 P l fn tmps assign body w (λe w'=>∃ b S',e=.returned (.bool b)/\Aqd w S w' S'/\(if b then J (k+1) w' S' else Jx w' S'))
theorem Am4 {w:World} {S:Bz} {H:Nat->Value} {x:SV} {v:Value} (h:SVR (Bt w S [] H) x v):SVR (Rep w S) x v:=by
 have h0:∀ l v,Df w S [] H l v->Rep w S l v:=λl v h=>by
  cases l with
  | lp p off=>exact absurd h.1 (zW _)
  | ls p n=>exact absurd h.1 (zW _)
  | ap p n off=>exact absurd h.1 (zW _)
  | mp k p=>exact absurd h.1 (zW _)
  | _=>exact h
 refine SVR.mono (λl v h=>?_) h
 cases l with
 | lp p off=>exact absurd h.1 (zW _)
 | ls p n=>exact absurd h.1 (zW _)
 | ap p n off=>exact absurd h.1 (zW _)
 | mp k p=>exact absurd h.1 (zW _)
 | fn f a b =>
  obtain⟨va,vb,rfl,h1,h2⟩:=h
  refine .fn f a b va vb (by simpa using h1.1) (by simpa using h2.1) (λj l v hl hv=>h0 _ _ (h1.2 j l v hl (by simpa using hv))) (λj l v hl hv=>h0 _ _ (h2.2 j l v hl (by simpa using hv)))
 | _=>exact h0 _ _ h
theorem Ap1 {ops:Array Oper} {rest:List Oper} {o:Oper} {d:Tmp} {ty:Tmp} {ax ay:Operand} {ats:Array TypeId} {l:Nat} {J:Nat->YK} {Jx:YK} {L:List (SV×SV)} {k:Nat} {x y:SV}
  (ho:o.op=.call { callee:=.value (.tmp ty),args:=#[ax,ay],argTypes:=ats }) (hod:o.dst=some d) (hw:∀ a w S H,Rel (Ctx.of w S nt) ⟨t,[]⟩ a w S H->Region.wanted o (yielded ops a.tmps)=true)
  (hs:Avb P l J Jx L) (hd:decide (d<nt)=true) (hy:t ty=.s (.one (.raw (.func (.yield l) #[] #[])))) (hx:B2 ⟨t,[]⟩ ax=.s x) (hyy:B2 ⟨t,[]⟩ ay=.s y) (hL:L[k]? = some (x,y))
  (h1:Ao7 P nt ops Q (J (k+1)) rest (upd t d (.s (.one (.b true))))) (h0:Ao7 P nt ops Q Jx rest (upd t d (.s (.one (.b false))))):Ao7 P nt ops Q (J k) (o::rest) t:=by
 intro hn a w S H r hK
 have e1:=Ba r ax
 rw[hx] at e1
 have e2:=Ba r ay
 rw[hyy] at e2
 have e3:=r.tm ty
 have e3':AVR (Bt w S [] H) (t ty) (a.tmps.getD ty undef):=e3
 rw[hy] at e3'
 have hv:a.tmps.getD ty undef=.func (.yield l) #[] #[]:=Eu e3'
 obtain⟨fn,tmps,assign,body,hrun,hround⟩:=hs k x y w S (a.eval ax) (a.eval ay) hL hK r.sl (Am4 e1) (Am4 e2)
 have hev:(execOp a.eval o).run P w=.ok (.round l fn tmps assign body) w:=by
  obtain⟨odst,oop,oty,opos,oaf,og⟩:=o
  simp only at ho
  subst ho
  have hv':a.eval (.tmp ty)=.func (.yield l) #[] #[]:=hv
  simp only[execOp,resolve,hv',Deferred.ofValue,Sem.run_bind]
  simpa [invoke] using hrun
 have hsem:o.semAt Fence.wide.round a.eval=execOp a.eval o:=Oper.semAt_none _ _
 unfold wpListIn
 rw[if_pos (hw a w S H r)]
 refine⟨λ_ _=>trivial,?_⟩
 rw[hsem,hev]
 refine⟨λhh=>(by simp [Fence.wide] at hh),?_⟩
 refine hround.mono ?_
 rintro e w' ⟨b,S',rfl,hk,hj⟩
 have r':=(r.kept hk).put (d:=d) (x:=.s (.one (.b b))) (v:=.bool b) (of_decide_eq_true hd) (show AVR _ (.s (.one (.b b))) _ from Rep.b b)
 rw[hod]
 cases b with
 | true=>exact h1 hn _ _ _ _ (r'.here rfl) hj
 | false=>exact h0 hn _ _ _ _ (r'.here rfl) hj
theorem Axx {body:Code} {G:Type} (sl:G->List (Nat×AV)) (KK:G->YK) (pre:G->Prop) (μ:G->Nat) (g0:G) (p0:pre g0) (s0:Nm t (sl g0)) (hK0:K=KK g0) (hin:∀ g,pre g->Ai7 0 (sl g))
  (round:∀ g,pre g->AWY P nt body (Aua (λt' K'=>∃ g',pre g'/\Nm t' (sl g')/\K'=KK g'/\μ g'<μ g) Q) (KK g) (Zf (λ_=>.top) (sl g))):AWY P nt (.loop body) Q K t:=by
 subst hK0
 intro hn a w S H r hK b k cs hro hb hr
 have key:∀ n,∀ g a w S H,pre g->μ g=n->Rel (Ctx.of w S nt) ⟨Zf (λ_=>.top) (sl g),[]⟩ a w S H->KK g w S ->
   ∃ e a' w',QY nt Q e a' w'/\ArrivesIn (Machine.fenced P Fence.wide) P (lone (b.atR a (.code body::.inLoop body::k)) cs w) b k cs e a' w':=by
  intro n
  induction n using Nat.strongRecOn with
  | _ n ih =>
   intro g a w S H hp hμ r hK
   obtain⟨e,a₁,w₁,hqq,harr⟩:=round g hp (λt K hs=>hn t K hs) a w S H r hK b (.inLoop body::k) cs hro hb hr
   obtain⟨t',S',H',K',r',hK',hqq⟩:=hqq
   cases e with
   | normal =>
    obtain⟨g',hp',hs',rfl,hlt⟩:=hqq
    have rt:Rel (Ctx.of w₁ S' nt) ⟨Zf (λ_=>.top) (sl g'),[]⟩ a₁ w₁ S' H':=r'.weak λi=>by
     rcases Nx hs' (hin g' hp') i with h|h
     ·exact .inr h
     ·exact .inl h.1
    obtain⟨e₂,a₂,w₂,hq₂,harr₂⟩:=ih (μ g') (hμ ▸ hlt) g' a₁ w₁ S' H' hp' rfl rt hK'
    exact⟨e₂,a₂,w₂,hq₂,.of_steps (StepsIn.trans harr (.one (fenced_calm (n:=0) hb hr rfl) stepR_inLoop)) harr₂⟩
   | exit id=>exact⟨_,_,w₁,⟨t',S',H',K',r',hK',hqq⟩,.pass (x:=.inLoop body) rfl (λ_ _=>.inl (by simp)) harr⟩
   | goto l=>exact⟨_,_,w₁,⟨t',S',H',K',r',hK',hqq⟩,.pass (x:=.inLoop body) rfl (λ_ _=>.inl (by simp)) harr⟩
   | ret=>exact⟨_,_,w₁,⟨t',S',H',K',r',hK',hqq⟩,.pass (x:=.inLoop body) rfl (λ_ _=>.inl (by simp)) harr⟩
   | panic ch=>exact⟨_,_,w₁,⟨t',S',H',K',r',hK',hqq⟩,.pass (x:=.inLoop body) rfl (λ_ _=>.inl (by simp)) harr⟩
   | outgrown=>exact⟨_,_,w₁,⟨t',S',H',K',r',hK',hqq⟩,.pass (x:=.inLoop body) rfl (λ_ _=>.inl (by simp)) harr⟩
 have rt:Rel (Ctx.of w S nt) ⟨Zf (λ_=>.top) (sl g0),[]⟩ a w S H:=r.weak λi=>by
  rcases Nx s0 (hin g0 p0) i with h|h
  ·exact .inr h
  ·exact .inl h.1
 obtain⟨e,a',w',hqq,harr⟩:=key _ g0 a w S H p0 rfl rt hK
 exact⟨e,a',w',hqq,.of_steps (.one (fenced_calm (n:=0) hb hr rfl) stepR_loop) harr⟩
end
theorem Amf {args:List SV} {w:World} {S:Bz} {vs:Array Value} {nt:Nat} (hn:args.length<=nt) (hS:InH w S) (hv:Yv (Rep w S) args vs.toList) :
  Rel (Ctx.of w S nt) ⟨Ar0 args,[]⟩ { tmps:=vs++Array.replicate (nt-vs.size) undef,defers:=[] } w S (λ_=>undef):=by
 have hlen:vs.size=args.length:=by have:=hv.1;simp at this;omega
 have hget:∀ i,(vs++Array.replicate (nt-vs.size) undef).getD i undef=vs.getD i undef:=by
  intro i
  simp only[zF,jS]
  split
  ·rfl
  ·rename_i hi
   rw[wX]
   have:vs[i]? = none:=w6 (by omega)
   rw[this]
   split <;> rfl
 refine⟨by simp;omega,rfl,λi=>?_,λp b h=>by simp at h,λp b g h=>by simp at h,λp q b b' g h=>by simp at h,λp b g i h=>by simp at h,hS,Vt.refl _ w S,zZ _,λp g h=>absurd h (zW _),λp e sz k cs h=>absurd h (zW _),λp h=>absurd h (zW _)⟩
 rw[hget]
 show AVR _ (match args[i]? with|some x=>.s x|none=>.tup []) _
 cases ha:args[i]? with
 | none =>
  have:vs[i]? = none:=w6 (by rw[hlen];exact wJ.1 ha)
  simp only[zF,this,zAc]
  exact H8
 | some x =>
  have hi:i<args.length:=(zB.1 ha).1
  have hi':i<vs.size:=by omega
  have:vs[i]? = some vs[i]:=zR hi'
  simp only[zF,this,yI]
  exact SVR.mono (λ_ _=>Bt.of_rep) (hv.2 i x _ ha (by simp))
theorem Aog {P:Program} {fc:FuncId} {fn:Func} {body:Code} {cap:List Lf} {L:List (SV×SV)} (hf:P.funcs[fc]? = some fn) (hb:fn.body=some body) (hres:fn.results = #[]) {nt:Nat} (hnt:fn.ntmps=nt) (hn:cap.length+1<=nt)
  (h:∀ l J Jx,(∀ k,Axg (J k))->Axg Jx->Avb P l J Jx L->AWY P nt body (λe _ K=>(e=.normal\/e=.ret)/\(K=J L.length\/K=Jx)) (J 0) (Ar0 (.one (.raw (.func (.yield l) #[] #[]))::cap.map .one))):Apn P fc cap L:=by
 subst hnt
 intro l J Jx w S vs hJ hJx hs h0 hS hcap
 refine callsIn_wide.1 (callsIn_of_wp (n:=0) hf hb trivial ?_)
 have hv:Yv (Rep w S) (.one (.raw (.func (.yield l) #[] #[]))::cap.map .one) ((#[Value.func (.yield l) #[] #[]]++vs:Array Value)).toList:=by
  refine⟨by have:=hcap.1;simp at this ⊢;omega,λj x v hx hv=>?_⟩
  cases j with
  | zero =>
   simp at hx hv
   subst hx;subst hv
   exact Rep.raw (.func (.yield l) #[] #[]) rfl
  | succ j =>
   simp at hx hv
   obtain⟨x',hx',rfl⟩:=hx
   exact hcap.2 j x' v hx' (by simpa using hv)
 have r0:=Amf (nt:=fn.ntmps) (by simpa using hn) hS hv
 refine wpIn_mono (h l J Jx (λk=>hJ k) hJx hs (λt K hs=>by rcases hs.1 with h|h <;> cases h) _ w S _ r0 h0) ?_
 rintro e a w1 ⟨t,S1,H,K,r,hK,he,hk⟩
 have hr:(results fn a.tmps).run P w1=.ok (.tuple #[]) w1:=by
  rw[Xo,hres]
  simp
 have hfin:∃ v S',Ending.returned (.tuple #[])=.returned v/\InH w1 S'/\(J L.length w1 S'\/Jx w1 S'):=by
  refine⟨_,S1,rfl,r.sl,?_⟩
  rcases hk with rfl|rfl
  ·exact .inl hK
  ·exact .inr hK
 rcases he with rfl|rfl
 ·exact⟨r.df,_,hr,hfin⟩
 ·exact⟨r.df,_,hr,hfin⟩
open Go.RowKit
def Rm {α σ:Type} (f:σ->α->Option (σ ⊕ (Nat×σ))):List α->σ->Option (σ ⊕ (Nat×σ))
 | [],s=>some (.inl s)
 | x::xs,s=>match f s x with
  | none=>none
  | some (.inl s')=>Rm f xs s'
  | some (.inr j)=>some (.inr j)
def Ad5 {σ ρ:Type} (k kr:σ->Option ρ) (ke:Nat->σ->Option ρ):σ ⊕ (Nat×σ)->Option ρ
 | .inl s=>k s
 | .inr (0,s)=>kr s
 | .inr (n+1,s)=>ke n s
def Avp:Code->Nat
 | .exit id=>id+1
 | _=>0
theorem Afx {α σ:Type} {f:σ->α->Option (σ ⊕ (Nat×σ))} {x:α} {xs:List α} {s:σ} {r:σ ⊕ (Nat×σ)} (h:Rm f (x::xs) s=some r) :
  ∃ y,f s x=some y/\(∀ s',y=.inl s'->Rm f xs s'=some r)/\∀ j,y=.inr j->r=.inr j:=by
 unfold Rm at h
 cases hf:f s x with
 | none=>rw[hf] at h;cases h
 | some y =>
  rw[hf] at h
  refine⟨y,rfl,λs' e=>?_,λj e=>?_⟩
  ·subst e;exact h
  ·subst e;exact(zD h).symm
section
variable {P:Program} {c:Ctx} {Q:Exit->AS->Prop} {t:Nat->AV} {m:List Blk}
theorem RQ.mono {G:Type} {mm:G->List Blk} {p p':G->Prop} {j j':Code->G->Prop} (hp:∀ g,p g->p' g) (hj:∀ c g,j c g->j' c g):∀ e st,RQ mm p j e st->RQ mm p' j' e st:=by
 intro e st h
 cases e with
 | normal=>obtain⟨g,ex,h1,h2⟩:=h;exact⟨g,ex,hp g h1,h2⟩
 | ret=>obtain⟨g,ex,h1,h2⟩:=h;exact⟨g,ex,hj _ g h1,h2⟩
 | exit id=>obtain⟨g,ex,h1,h2⟩:=h;exact⟨g,ex,hj _ g h1,h2⟩
 | _=>exact h
theorem Agu {go:Operand} {p1 p2:Tmp} {assign body:Code} {fc:FuncId} {cap:List Lf} {α σ:Type} (f:σ->α->Option (σ ⊕ (Nat×σ))) (Lst:List α) (sx sy:α->SV) (mm:σ->List Blk) (s0:σ) {rr:σ ⊕ (Nat×σ)} (hr:Rm f Lst s0=some rr)
  (hg:B2 ⟨t,m⟩ go=.s (.one (.fn fc [] cap))) (hfc:FnI P fc) (hcap:cap.all Lf.pubd0=true) (hit:Apn P fc cap (Lst.map λx=>(sx x,sy x))) (hp1:decide (p1<c.nt)=true) (hp2:decide (p2<c.nt)=true)
  (hm:m=mm s0) (hlen:∀ g,(mm g).length=m.length) (hmin:∀ g,∀ b∈mm g,b.inb (mm g).length)
  (round:∀ x s y l,f s x=some y->∀ w0 S0 X H0,AWI (some l) P ⟨w0,S0,c.nt,X,mm s,H0⟩ okB assign
   (Gh (λst1=>∀ w0 S0 X H0,AWI (some l) P ⟨w0,S0,c.nt,X,st1.m,H0⟩ okB body (RQ mm (λs'=>y=.inl s') (λjc s'=>y=.inr (Avp jc,s'))) st1) (λ_ _=>False)) ⟨upd (upd t p1 (.s (sx x))) p2 (.s (sy x)),mm s⟩)
  (done:∀ s,rr=.inl s->Q .normal ⟨t,mm s⟩) (hret:∀ s,rr=.inr (0,s)->Q .ret ⟨t,mm s⟩) (hex:∀ id s,rr=.inr (id+1,s)->Q (.exit id) ⟨t,mm s⟩) :
  AWI none P c (okO c) (.rangeFunc go #[p1,p2] assign body) Q ⟨t,m⟩:=by
 refine Awj (L:=Lst.map λx=>(sx x,sy x)) mm (λk s=>Rm f (Lst.drop k) s=some rr) (λjc s=>rr=.inr (Avp jc,s)) s0 hg hfc hcap hit hp1 hp2 hr hm hlen hmin ?_ (λg h=>?_) (λg h=>hret g h) (λid g h=>hex id g h)
 ·intro k X Y s l hk hp w0 S0 X0 H0
  rw[zQ] at hk
  cases hx:Lst[k]? with
  | none=>rw[hx] at hk;cases hk
  | some x =>
   rw[hx] at hk
   simp only[xE,zJ,Prod.mk.injEq] at hk
   obtain⟨rfl,rfl⟩:=hk
   have hlt:=(zB.1 hx).1
   have hd:Lst.drop k=x::Lst.drop (k+1):=by
    rw[wD hlt,(zB.1 hx).2]
   rw[hd] at hp
   obtain⟨y,hy,h1,h2⟩:=Afx hp
   refine(round x s y l hy w0 S0 X0 H0).mono λe st h=>?_
   cases e with
   | normal =>
    exact λw0 S0 X0 H0=>AWI.mono (h w0 S0 X0 H0) (RQ.mono (λs' h=>h1 s' h) (λjc s' h=>h2 _ h))
   | _=>exact h
 ·have h':Rm f (Lst.drop (Lst.map λx=>(sx x,sy x)).length) g=some rr:=h
  rw[zY,jW] at h'
  exact done g (zD h').symm
end
open Go.RowKit
abbrev Ahl:=List (List Bool×List Blk)
def Abp:Ahl->List Bool->Option (List Blk)
  | [],_=>none
  | (b,M)::r,bits=>if b==bits then some M else Abp r bits
theorem Aiv:∀ {tbl:Ahl} {bits:List Bool} {M:List Blk},Abp tbl bits=some M->(bits,M)∈tbl
  | (b,N)::r,bits,M,h=>by
    unfold Abp at h
    by_cases hb:(b==bits)=true
    · rw[if_pos hb] at h
      cases h
      have:b=bits:=by simpa using hb
      subst this
      exact yR ..
    · rw[if_neg hb] at h
      exact yQ _ (Aiv h)
theorem Yh:∀ {es:List Nat} {a b:Nat},(a,b)∈es.zip es->a=b/\a∈es
  | [],_,_,h=>by simp at h
  | e::r,a,b,h=>by
    rw[List.zip_cons_cons] at h
    rcases yM.1 h with h|h
    · cases h;exact⟨rfl,yR ..⟩
    · obtain⟨h1,h2⟩:=Yh h
      exact⟨h1,yQ _ h2⟩
def Ki (es:List Nat) (listed:Array Bool):List Bool:=es.map λe=>listed.getD e false
def W8 (ws es:List Nat) (i:Nat) (bits:List Bool):Bool:=(es.zip bits).all λx=>(!((ws.getD i 0).testBit x.1)||x.2)&&(!(x.1==i||(ws.getD x.1 0).testBit i) || !x.2)
def Age (ws es:List Nat) (bits:List Bool):Bool:=(es.zip bits).all λx=>!x.2||(es.zip bits).all λy=>!((ws.getD x.1 0).testBit y.1)||y.2
def Aaj:Nat->List (List Bool)
  | 0=>[[]]
  | n+1=>(Aaj n).map (false::·)++(Aaj n).map (true::·)
theorem Aaq:∀ {n:Nat} {bits:List Bool},bits.length=n->bits∈Aaj n
  | 0,[],_=>zP.2 rfl
  | 0,_::_,h=>by simp at h
  | n+1,[],h=>by simp at h
  | n+1,b::bits,h=>by
    have ih:=Aaq (n:=n) (bits:=bits) (by simpa using h)
    unfold Aaj
    rw[yC]
    cases b with
    | false=>exact .inl (z8.2 ⟨bits,ih,rfl⟩)
    | true=>exact .inr (z8.2 ⟨bits,ih,rfl⟩)
def Avh (ws es:List Nat) (tbl:Ahl):Bool:=(Aaj es.length).all λbits=>!Age ws es bits||(Abp tbl bits).isSome
def Adv (p:List Bool->Bool) (Q:List Bool->List Blk->Prop) (tbl:Ahl):Prop:=∀ e∈tbl,p e.1=true->Q e.1 e.2
theorem Fj {p:List Bool->Bool} {Q:List Bool->List Blk->Prop}:Adv p Q []:=λe h=>by cases h
theorem Cm {p:List Bool->Bool} {Q:List Bool->List Blk->Prop} {b:List Bool} {M:List Blk} {r:Ahl} (_:p b=true) (q:Q b M) (h:Adv p Q r):Adv p Q ((b,M)::r):=λe he hp=>by
  rcases yM.1 he with rfl|he
  · exact q
  · exact h e he hp
theorem Bu {p:List Bool->Bool} {Q:List Bool->List Blk->Prop} {b:List Bool} {M:List Blk} {r:Ahl} (hf:p b=false) (h:Adv p Q r):Adv p Q ((b,M)::r):=λe he hp=>by
  rcases yM.1 he with rfl|he
  · have hp':p b=true:=hp
    rw[hf] at hp';cases hp'
  · exact h e he hp
section
variable {P:Program} {c:Ctx} {t:Nat->AV} {m:List Blk} {Q:Exit->AS->Prop}
def Anw (P:Program) (c:Ctx) (ops:Array Oper) (ws es:List Nat) (tbl:Ahl) (i:Nat) (t:Nat->AV) (o:Oper) (x:AV):Prop :=
  (∃ md,T6 P c md ops t o x/\Adv (W8 ws es i) (λ_ M=>Acr md M) tbl)\/Adv (W8 ws es i) (λ_ M=>T6 P c M ops t o x) tbl
theorem Anw.congr {ops:Array Oper} {ws es:List Nat} {tbl:Ahl} {i:Nat} {t t':Nat->AV} {o:Oper} {x:AV} (h:Anw P c ops ws es tbl i t o x) (ht:∀ y∈o.looksAt ops,t y=t' y):Anw P c ops ws es tbl i t' o x:=by
  rcases h with⟨md,h1,h2⟩|h
  · exact .inl ⟨md,h1.congr ht,h2⟩
  · exact .inr λe he hp=>(h e he hp).congr ht
def DM (P:Program) (c:Ctx) (ops:Array Oper) (ws es:List Nat) (tbl:Ahl) (k:(Nat->AV)->Prop):Nat->List Oper->(Nat->AV)->Prop
  | _,[],t=>k t
  | i,o::rest,t =>
    (es.contains i=false/\∃ x d,o.dst=some d/\d<c.nt/\Anw P c ops ws es tbl i t o x/\DM P c ops ws es tbl k (i+1) rest (upd t d x)) \/
    (∃ j x,es[j]? = some i/\Aoi ops t o/\Adv (W8 ws es i) (λb M=>∃ M',Abp tbl (b.set j true)=some M'/\Arb P c ops t M M' o x) tbl/\(∀ d,o.dst=some d->d<c.nt) /\
      DM P c ops ws es tbl k (i+1) rest (match o.dst with|some d=>upd t d x|none=>t))
theorem DM.get {ops:Array Oper} {ws es:List Nat} {tbl:Ahl} {k:(Nat->AV)->Prop}:∀ {l:List Oper} {i:Nat} {t:Nat->AV},DM P c ops ws es tbl k i l t->(Ir l).Nodup->(∀ (q:Nat) (o:Oper),l[q]? = some o->∀ y∈o.looksAt ops,y∉Ir (l.drop q)) ->
    ∃ T,k T/\(∀ y,y∉Ir l->T y=t y)/\∀ (q:Nat) (o:Oper),l[q]? = some o ->
      (es.contains (i+q)=false/\∃ d,o.dst=some d/\d<c.nt/\Anw P c ops ws es tbl (i+q) T o (T d)) \/
      (∃ j x,es[j]? = some (i+q)/\Aoi ops T o/\Adv (W8 ws es (i+q)) (λb M=>∃ M',Abp tbl (b.set j true)=some M'/\Arb P c ops T M M' o x) tbl/\∀ d,o.dst=some d->d<c.nt/\T d=x)
  | [],i,t,h,_,_=>⟨t,h,λ_ _=>rfl,λq o h=>by simp at h⟩
  | o::rest,i,t,h,hnd,hl=>by
    have hlook:∀ y∈o.looksAt ops,y∉Ir (o::rest):=λy hy=>by simpa using hl 0 o rfl y hy
    have hlt:∀ (q:Nat) (o':Oper),rest[q]? = some o'->∀ y∈o'.looksAt ops,y∉Ir (rest.drop q):=λq o' h' y hy=>by
      have:=hl (q+1) o' (by simpa using h') y hy
      simpa using this
    rcases h with⟨hne,x,d,hd,hdn,hg,hr⟩|⟨j,x,h1,h6,h7,h8,hr⟩
    · have hds:Ir (o::rest)=d::Ir rest:=by simp [Ir,hd]
      rw[hds] at hnd hlook
      have hnd':=xU.1 hnd
      obtain⟨T,hk,hT,hG⟩:=DM.get hr hnd'.2 hlt
      have hTl:∀ y∈o.looksAt ops,t y=T y:=λy hy=>by
        have:=hlook y hy
        simp only[yM,not_or] at this
        rw[hT y this.2,Ej,if_neg this.1]
      have hTd:T d=x:=by rw[hT d hnd'.1,Ej,if_pos rfl]
      refine⟨T,hk,λy hy=>?_,λq o' h'=>?_⟩
      · rw[hds] at hy
        simp only[yM,not_or] at hy
        rw[hT y hy.2,Ej,if_neg hy.1]
      · cases q with
        | zero =>
          simp only[yT,zJ] at h'
          subst h'
          exact .inl ⟨hne,d,hd,hdn,by rw[hTd];exact hg.congr hTl⟩
        | succ q =>
          have:=hG q o' (by simpa using h')
          rw[show i+1+q=i+(q+1) by omega] at this
          exact this
    · have fin:∀ {T:Nat->AV},(∀ y∈o.looksAt ops,t y=T y)->Adv (W8 ws es i) (λb M=>∃ M',Abp tbl (b.set j true)=some M'/\Arb P c ops T M M' o x) tbl:=λhTl e he hp=>by
        obtain⟨M',h3,h4⟩:=h7 e he hp
        exact⟨M',h3,h4.congr hTl⟩
      cases hd:o.dst with
      | none =>
        have hds:Ir (o::rest)=Ir rest:=by simp [Ir,hd]
        rw[hds] at hnd hlook
        rw[hd] at hr
        obtain⟨T,hk,hT,hG⟩:=DM.get hr hnd hlt
        have hTl:∀ y∈o.looksAt ops,t y=T y:=λy hy=>(hT y (hlook y hy)).symm
        refine⟨T,hk,λy hy=>hT y (by rw[hds] at hy;exact hy),λq o' h'=>?_⟩
        cases q with
        | zero =>
          simp only[yT,zJ] at h'
          subst h'
          exact .inr ⟨j,x,h1,h6.congr hTl,fin hTl,λd h=>by rw[hd] at h;cases h⟩
        | succ q =>
          have:=hG q o' (by simpa using h')
          rw[show i+1+q=i+(q+1) by omega] at this
          exact this
      | some d =>
        have hds:Ir (o::rest)=d::Ir rest:=by simp [Ir,hd]
        rw[hds] at hnd hlook
        have hnd':=xU.1 hnd
        rw[hd] at hr
        obtain⟨T,hk,hT0,hG⟩:=DM.get hr hnd'.2 hlt
        have hT:∀ y,y∉Ir rest->T y=upd t d x y:=hT0
        have hTl:∀ y∈o.looksAt ops,t y=T y:=λy hy=>by
          have:=hlook y hy
          simp only[yM,not_or] at this
          rw[hT y this.2,Ej,if_neg this.1]
        have hTd:T d=x:=by rw[hT d hnd'.1,Ej,if_pos rfl]
        refine⟨T,hk,λy hy=>?_,λq o' h'=>?_⟩
        · rw[hds] at hy
          simp only[yM,not_or] at hy
          rw[hT y hy.2,Ej,if_neg hy.1]
        · cases q with
          | zero =>
            simp only[yT,zJ] at h'
            subst h'
            refine .inr ⟨j,x,h1,h6.congr hTl,fin hTl,λd' h=>?_⟩
            rw[hd] at h
            cases h
            exact⟨h8 d hd,hTd⟩
          | succ q =>
            have:=hG q o' (by simpa using h')
            rw[show i+1+q=i+(q+1) by omega] at this
            exact this
theorem Apd {l:List Oper} (es ws:List Nat) (tbl:Ahl) {last:List Blk} (hws:Lg l []=ws) (hok:Aae l.toArray=true) (hnd:es.Nodup) (hes:(es.all λe=>decide (e<l.length))=true) (hfull:Avh ws es tbl=true) (h0:Abp tbl (es.map λ_=>false)=some m) (hlast:Abp tbl (es.map λ_=>true)=some last)
    (h:DM P c l.toArray ws es tbl (λT=>Q .normal ⟨T,last⟩) 0 l t):AWD P c Q l ⟨t,m⟩:=by
  subst hws
  have ok:=Abr hok
  have hdn:(Ir l).Nodup:=by
    have key:∀ (k:List Oper) (n:Nat),(∀ i o,k[i]? = some o->l[n+i]? = some o)->(Ir k).Nodup:=by
      intro k
      induction k with
      | nil=>intro n _;exact kJ
      | cons o r ih =>
        intro n hk
        have ih':=ih (n+1) (λi o' h'=>by have:=hk (i+1) o' (by simpa using h');rw[<- this];congr 1;omega)
        cases hd:o.dst with
        | none=>simpa [Ir,hd] using ih'
        | some d =>
          have hds:Ir (o::r)=d::Ir r:=by simp [Ir,hd]
          rw[hds]
          refine xU.2 ⟨λhmem=>?_,ih'⟩
          unfold Ir at hmem
          rw[wG] at hmem
          obtain⟨p,hp,hpd⟩:=hmem
          obtain⟨q,hq,hqp⟩:=yU hp
          have h1:=hk 0 o rfl
          have h2:=hk (q+1) p (by simp [hq,hqp])
          exact ok.ne n o (n+(q+1)) p (by simpa using h1) (by simpa using h2) (by omega) d hd hpd
    exact key l 0 (λi o h=>by simpa using h)
  obtain⟨T,hQ,hTt,hG⟩:=DM.get h hdn (Avs ok)
  let B:Array Bool->List Blk:=λlisted=>(Abp tbl (Ki es listed)).getD []
  let HI:Array Bool->(Nat->Value)->Prop:=λlisted _=>Sd l.toArray listed
  have hws:∀ {listed:Array Bool},Sd l.toArray listed->∀ i,listed.getD i false=true->∀ j,((Lg l []).getD i 0).testBit j=true->listed.getD j false=true:=λhc =>
    Ww hc l [] (λi o h=>by simpa using h) (λi h=>by simp at h)
  have huf:∀ {listed:Array Bool} {i:Nat},listed.size=l.toArray.size->i<l.length->listed.getD i true=false->listed.getD i false=false:=by
    intro listed i hs hi h
    simp only[zF] at h ⊢
    rw[zR (by rw[hs];simpa using hi)] at h ⊢
    exact h
  have hzip:∀ {listed:Array Bool} {x:Nat×Bool},x∈es.zip (Ki es listed)->x.2=listed.getD x.1 false/\x.1∈es:=by
    intro listed x hx
    unfold Ki at hx
    rw[List.zip_map_right] at hx
    obtain⟨y,hy,rfl⟩:=z8.1 hx
    obtain⟨a,b⟩:=y
    have hab:=Yh hy
    obtain⟨rfl,hm⟩:=hab
    exact⟨rfl,hm⟩
  have hclosed:∀ {listed:Array Bool},Sd l.toArray listed->Age (Lg l []) es (Ki es listed)=true:=by
    intro listed hc
    unfold Age
    rw[zL]
    intro x hx
    obtain⟨h1,_⟩:=hzip hx
    cases hb:x.2 with
    | false=>rfl
    | true =>
      simp only[zAb,Bool.false_or]
      rw[zL]
      intro y hy
      obtain⟨h2,_⟩:=hzip hy
      cases hw:((Lg l []).getD x.1 0).testBit y.1 with
      | false=>rfl
      | true =>
        rw[h1] at hb
        rw[h2,hws hc x.1 hb y.1 hw]
        rfl
  have hmem:∀ {listed:Array Bool},Sd l.toArray listed->(Ki es listed,B listed)∈tbl:=by
    intro listed hc
    have hf:=(zL.1 hfull) (Ki es listed) (Aaq (by simp [Ki]))
    rw[hclosed hc] at hf
    simp only[zAb,Bool.false_or,j2] at hf
    obtain⟨M,hM⟩:=hf
    have:B listed=M:=by show(Abp tbl (Ki es listed)).getD []=M;rw[hM];rfl
    rw[this]
    exact Aiv hM
  have hcons:∀ {listed:Array Bool} {i:Nat} {o:Oper},Sd l.toArray listed->l[i]? = some o->Met listed o->listed.getD i false=false->W8 (Lg l []) es i (Ki es listed)=true:=by
    intro listed i o hc ho hmt hun
    unfold W8
    rw[zL]
    intro x hx
    obtain⟨h1,_⟩:=hzip hx
    rw[zS,wQ,wQ]
    constructor
    · cases hw:((Lg l []).getD i 0).testBit x.1 with
      | false=>exact .inl rfl
      | true =>
        right
        rw[h1]
        exact Z5 (ops:=l.toArray) hc (i:=i) (o:=o) (by simpa using ho) hmt (j:=x.1) hw
    · cases hb:x.2 with
      | false=>exact .inr rfl
      | true =>
        left
        rw[h1] at hb
        simp only[xS,Bool.or_eq_false_iff]
        constructor
        · cases he:(x.1==i) with
          | false=>rfl
          | true =>
            have:x.1=i:=by simpa using he
            rw[this,hun] at hb;cases hb
        · cases hw:((Lg l []).getD x.1 0).testBit i with
          | false=>rfl
          | true =>
            have:=hws hc x.1 hb i hw
            rw[hun] at this;cases this
  have hbsame:∀ {listed:Array Bool} {i:Nat},es.contains i=false->Ki es (listed.setIfInBounds i true)=Ki es listed:=by
    intro listed i hi
    unfold Ki
    refine kW λe he=>?_
    have : i ≠ e := fun e' => by subst e'; have : es.contains i = true := by simpa using he
                                 rw[hi] at this;cases this
    simp only[zF,yV this]
  have hlk:∀ {i:Nat} {o:Oper},l.toArray[i]? = some o->l[i]? = some o/\i<l.length:=λ{i o} h=>by
    have h':l[i]? = some o:=by simpa using h
    exact⟨h',(zB.1 h').1⟩
  refine Adc (T:=T) (B:=B) (HI:=HI) ok (λi o ho=>?_) hTt (λa w S H r=>⟨H,?_,?_⟩) (λlisted hs hl=>?_)
  · obtain⟨ho',hil⟩:=hlk ho
    rcases hG i o ho' with⟨hne,d,hd,hdn,hg⟩|⟨j,x,h1,h5,h6,h7⟩
    · rw[yK] at hne hg
      refine .inl λlisted H hs hun hmt hc=>?_
      have hBs:B (listed.setIfInBounds i true)=B listed:=by
        show(Abp tbl (Ki es (listed.setIfInBounds i true))).getD []=_
        rw[hbsame hne]
      have hm:=hmem hc
      have hcs:=hcons hc ho' hmt (huf hs hil hun)
      rcases hg with⟨md,hg,hmd⟩|hg
      · exact⟨md,⟨d,hd,hdn,hg⟩,hmd _ hm hcs,hBs,hc.set ho hmt⟩
      · exact⟨B listed,⟨d,hd,hdn,hg _ hm hcs⟩,Acr.refl _,hBs,hc.set ho hmt⟩
    · rw[yK] at h1 h6
      refine .inr ⟨h5,λlisted hs hun hmt a w S H r hc K Qn hK=>?_⟩
      have hm:=hmem hc
      have hcs:=hcons hc ho' hmt (huf hs hil hun)
      obtain⟨M',hM',h6⟩:=h6 _ hm hcs
      have hbits:Ki es (listed.setIfInBounds i true)=(Ki es listed).set j true:=by
        refine wE λq=>?_
        unfold Ki
        rw[zQ,kL,zY,zQ]
        have hjl:=(zB.1 h1).1
        by_cases e:j=q
        · subst e
          rw[if_pos rfl,if_pos hjl,h1]
          simp only[xE,zJ,zF]
          rw[xF (by rw[hs];simpa using hil)]
          rfl
        · rw[if_neg e]
          cases hq:es[q]? with
          | none=>rfl
          | some e' =>
            have hne:i≠e':=λe''=>by
              subst e''
              have hql:=(zB.1 hq).1
              have h8:=(zB.1 hq).2
              have h9:=(zB.1 h1).2
              exact e ((List.getElem_inj hnd).1 (h9.trans h8.symm))
            simp only[xE,zJ,zF]
            rw[yV hne]
      have hB2:B (listed.setIfInBounds i true)=M':=by
        show(Abp tbl (Ki es (listed.setIfInBounds i true))).getD []=M'
        rw[hbits,hM']
        rfl
      have hlook:=Agv (T:=T) ok hs ho hmt
      have hmix:mix T (o.looksAt l.toArray) (TL l.toArray T listed)=TL l.toArray T listed:=by
        funext y
        unfold mix
        cases hc':(o.looksAt l.toArray).contains y with
        | false=>rfl
        | true=>exact(hlook y (by simpa using hc')).symm
      have heff:=h6 (TL l.toArray T listed)
      rw[hmix] at heff
      have hw:=heff a w S H r
      unfold wpList at hw
      rw[if_pos (by rfl)] at hw
      rcases hw with hw|⟨_,a',w',st',S',H',_,he,_⟩
      · refine Aec (P:=P) (o:=o) ?_ ?_ (show o.wp P a w _ _ from hw)
        · rintro a' w' ⟨st',S',H',r',_,rfl⟩
          refine hK a' w' S' H' ?_ (hc.set ho hmt)
          rw[hB2]
          cases hd:o.dst with
          | none =>
            rw[hd] at r'
            rw[<- Zv ho hd]
            exact r'
          | some d =>
            rw[hd] at r'
            rw[<- All (T:=T) ok hs ho hun hd,(h7 d hd).2]
            exact r'
        · rintro e a' w' hne ⟨st',S',H',r',he,_⟩
          exact absurd he hne
      · cases he
  · have:B (Array.replicate l.toArray.size false)=m:=by
      have e1:Ki es (Array.replicate l.toArray.size false)=es.map λ_=>false:=by
        unfold Ki
        refine kW λe _=>?_
        simp only[zF,wX]
        split <;> rfl
      show(Abp tbl (Ki es (Array.replicate l.toArray.size false))).getD []=m
      rw[e1,h0]
      rfl
    rw[this]
    exact r
  · intro i o _ hl
    simp only[zF,wX] at hl
    split at hl <;> simp at hl
  · have hin:∀ e∈es,e<l.length:=λe he=>by simpa using zL.1 hes e he
    have e1:Ki es listed=es.map λ_=>true:=by
      unfold Ki
      refine kW λe he=>?_
      have h1:=hl e (by simpa using hin e he)
      have h2:e<listed.size:=by rw[hs];simpa using hin e he
      simp only[zF,zR h2,yI] at h1 ⊢
      exact h1
    have:B listed=last:=by
      show(Abp tbl (Ki es listed)).getD []=last
      rw[e1,hlast]
      rfl
    rw[this]
    exact hQ
theorem Am2 {id:Nat} {l:List Oper} (es ws:List Nat) (tbl:Ahl) {last:List Blk} (hws:Lg l []=ws) (hm:P.follows .mixedOrders=true) (hok:Aae l.toArray=true) (hnd:es.Nodup) (hes:(es.all λe=>decide (e<l.length))=true) (hfull:Avh ws es tbl=true) (h0:Abp tbl (es.map λ_=>false)=some m) (hlast:Abp tbl (es.map λ_=>true)=some last)
    (h:DM P c l.toArray ws es tbl (λT=>Q .normal ⟨T,last⟩) 0 l t):AWC P c (.region id l.toArray true) Q ⟨t,m⟩:=(Apd es ws tbl hws hok hnd hes hfull h0 hlast h).awc hm
variable {ops:Array Oper} {ws es:List Nat} {tbl:Ahl} {k:(Nat->AV)->Prop} {rest:List Oper} {op:Op} {ty:TypeId} {pos:String} {af:Array Edge} {d:Tmp} {x:AV} {i:Nat}
theorem Av6 {md:List Blk} (h:Adv (W8 ws es i) (λ_ M=>Aa8 md M) tbl):Adv (W8 ws es i) (λ_ M=>Acr md M) tbl:=λe he hp=>Ag2 (h e he hp)
theorem Avx (h:k t):DM P c ops ws es tbl k i [] t:=h
theorem mev {md:List Blk} (hs:Adv (W8 ws es i) (λ_ M=>Aa8 md M) tbl) (hi:es.contains i=false) (hd:decide (d<c.nt)=true) (h:OpV P c ⟨Q5 t (Oper.looksAt ops ⟨some d,op,ty,pos,af,none⟩),md⟩ op ty x) (kk:DM P c ops ws es tbl k (i+1) rest (upd t d x)):DM P c ops ws es tbl k i (⟨some d,op,ty,pos,af,none⟩::rest) t :=
  .inl ⟨hi,x,d,rfl,of_decide_eq_true hd,.inl ⟨md,.inl ⟨.inl rfl,h.opD⟩,Av6 hs⟩,kk⟩
theorem med {md:List Blk} (hs:Adv (W8 ws es i) (λ_ M=>Aa8 md M) tbl) (hi:es.contains i=false) (hd:decide (d<c.nt)=true) (h:OpD P c ⟨Q5 t (Oper.looksAt ops ⟨some d,op,ty,pos,af,none⟩),md⟩ op ty x) (kk:DM P c ops ws es tbl k (i+1) rest (upd t d x)):DM P c ops ws es tbl k i (⟨some d,op,ty,pos,af,none⟩::rest) t :=
  .inl ⟨hi,x,d,rfl,of_decide_eq_true hd,.inl ⟨md,.inl ⟨.inl rfl,h⟩,Av6 hs⟩,kk⟩
theorem Avi (hi:es.contains i=false) (hd:decide (d<c.nt)=true) (h:∀ md,OpV P c ⟨Q5 t (Oper.looksAt ops ⟨some d,op,ty,pos,af,none⟩),md⟩ op ty x) (kk:DM P c ops ws es tbl k (i+1) rest (upd t d x)):DM P c ops ws es tbl k i (⟨some d,op,ty,pos,af,none⟩::rest) t :=
  .inl ⟨hi,x,d,rfl,of_decide_eq_true hd,.inr λ_ _ _=>.inl ⟨.inl rfl,(h _).opD⟩,kk⟩
theorem mee (j:Nat) (he:es[j]? = some i) (hd:decide (d<c.nt)=true)
    (h:Adv (W8 ws es i) (λb M=>∃ M',Abp tbl (b.set j true)=some M'/\∀ ζ,AWL P c ops (λe st=>e=.normal/\st=⟨upd (mix t (Oper.looksAt ops ⟨some d,op,ty,pos,af,none⟩) ζ) d x,M'⟩) [⟨some d,op,ty,pos,af,none⟩] ⟨mix t (Oper.looksAt ops ⟨some d,op,ty,pos,af,none⟩) ζ,M⟩) tbl)
    (kk:DM P c ops ws es tbl k (i+1) rest (upd t d x)):DM P c ops ws es tbl k i (⟨some d,op,ty,pos,af,none⟩::rest) t :=
  .inr ⟨j,x,he,.inl rfl,h,λd' h'=>by cases h';exact of_decide_eq_true hd,kk⟩
theorem Ayu (j:Nat) (he:es[j]? = some i)
    (h:Adv (W8 ws es i) (λb M=>∃ M',Abp tbl (b.set j true)=some M'/\∀ ζ,AWL P c ops (λe st=>e=.normal/\st=⟨mix t (Oper.looksAt ops ⟨none,op,ty,pos,af,none⟩) ζ,M'⟩) [⟨none,op,ty,pos,af,none⟩] ⟨mix t (Oper.looksAt ops ⟨none,op,ty,pos,af,none⟩) ζ,M⟩) tbl)
    (kk:DM P c ops ws es tbl k (i+1) rest t):DM P c ops ws es tbl k i (⟨none,op,ty,pos,af,none⟩::rest) t :=
  .inr ⟨j,.top,he,.inl rfl,h,(λd' h'=>by cases h'),kk⟩
end
open Go.RowKit
theorem Adm {P:Program} {c:Ctx} {st:AS} {op:Op} {ty:TypeId} {e sz n:Nat} {cs:List Lf} (h:Aet P c st op ty e sz n cs):Aet P c st op ty e sz n (cs.map Lf.canon):=by
 intro a w S H r
 obtain⟨v,w',vals,hrun,hext,hin,hown,hls⟩:=h a w S H r
 exact⟨v,w',vals,hrun,hext,hin,hown,Adp hls⟩
theorem Ahi {P:Program} {c:Ctx} {st:AS} {ty:TypeId} {t e sz bytes len:Nat} {zl out out':List Lf} {parts:Array (Nat×Operand)} {xs:List (Nat×SV)} (si:P.underlying t=some (.slice e)) (ei:EI P e sz bytes zl) (hp:Yy st parts.toList xs)
  (hb:Wj (λi:Nat=>some (i*sz,sz)) (Aax zl (len*sz)) xs out) (hout:out.all Lf.pubd=true) (hlen:len*sz<=16777216) (he:out.map Lf.canon=out'):OpD P c st (.buildSlice t len parts) ty (.s (.one (.sl len out'))) :=
 he ▸ Abj ei.p (Adm (Rx si ei hp hb (zL.1 hout) hlen))
section
variable {P:Program} {c:Ctx} {ops:Array Oper} {ws es:List Nat} {tbl:Ahl} {k:(Nat->AV)->Prop} {t:Nat->AV} {rest:List Oper} {op:Op} {ty:TypeId} {pos:String} {af:Array Edge} {d:Tmp} {x:AV} {i:Nat}
theorem Av3 (hi:es.contains i=false) (hd:decide (d<c.nt)=true) (h:Adv (W8 ws es i) (λ_ M=>OpV P c ⟨Q5 t (Oper.looksAt ops ⟨some d,op,ty,pos,af,none⟩),M⟩ op ty x) tbl) (kk:DM P c ops ws es tbl k (i+1) rest (upd t d x)):DM P c ops ws es tbl k i (⟨some d,op,ty,pos,af,none⟩::rest) t :=
 .inl ⟨hi,x,d,rfl,of_decide_eq_true hd,.inr λe he hp=>.inl ⟨.inl rfl,(h e he hp).opD⟩,kk⟩
end
theorem Ahr {P:Program} {c:Ctx} {id:Nat} {x y:Code} {Q Q':Exit->AS->Prop} {st:AS} (G:Type) (sl:G->List (Nat×AV)) (mm:G->List Blk) (pre:G->Prop) (hin:∀ g,pre g->Ai7 (mm g).length (sl g)) (hmin:∀ g,pre g->∀ b∈mm g,b.inb (mm g).length) (hk:∀ g,pre g->c.m0.length<=(mm g).length)
  (hy:∀ g,pre g->AWC P c y Q ⟨Zf (λ_=>.top) (sl g),mm g⟩) (hx:AWC P c x (Em id (Gh (Auy sl mm pre) Q')) st):AWC P c x (Em id (Gh (AWC P c y Q) Q')) st:=by
 refine hx.mono λe st h=>?_
 cases e with
 | normal=>exact Ac2 h hin hmin hk hy
 | exit id' =>
  simp only[Em] at h ⊢
  split
  ·rename_i he
   rw[if_pos he] at h
   exact Ac2 h hin hmin hk hy
  ·rename_i he
   rw[if_neg he] at h
   exact h
 | _=>exact h
open Go.RowKit Go.Proofs Go.Lib
theorem Gl {P:Program} (w:World) (dT sT ty elem:TypeId) (b o dLen dCap:Nat) (a:Addr) (sLen sCap sz q:Nat) (cs:List Value)
  (hu:P.underlying dT=some (.slice elem)) (hs:(P.info? elem).map (·.size)=some sz) (hq:Nat.min sLen dLen=q) (hn:cs.length=q*sz)
  (hsrc:∀ j v,cs[j]? = some v->w.cell? (a.add j)=some v) (hc:∀ j,j<cs.length->(w.cell? ⟨b,o+j,none⟩).isSome=true) (hf:∀ j,j<cs.length->w.frozen? ⟨b,o+j,none⟩=false) (h1:∀ v∈cs,v.oneCell'=true) :
  (Builtin.copy_ #[dT,sT] ty #[.slice (some ⟨b,o,none⟩) dLen dCap,.slice (some a) sLen sCap]).run P w=.ok (goInt q) (w.setCells b o cs):=by
 have ld:=run_loadCells_list (P:=P) w a cs hsrc
 have sd:=run_storeCells_cells (P:=P) b o cs 0 w (by simpa using hc) (by simpa using hf) h1
 rw[hn] at ld
 cases hi:P.info? elem with
 | none=>simp [hi] at hs
 | some i =>
  have e:i.size=sz:=by simpa [hi] using hs
  simp [Builtin.copy_,run_underlying hu,Builtin.lenOf,Builtin.firstCells,sizeOf,typeInfo,hi,e,hq,ld,sd]
def Afd {α:Type} (o:Nat) (vs L:List α):List α:=L.take o++vs++L.drop (o+vs.length)
theorem Wo {α:Type} {o:Nat} {vs L:List α} (h:o+vs.length<=L.length):(Afd o vs L).length=L.length:=by
 simp only[Afd,zH,zN,yB];omega
theorem Aok {α:Type} (L:List α) (o:Nat) (v:α) (h:o<L.length):L.set o v=L.take o++v::L.drop (o+1):=by
 rw[kP,if_pos h]
theorem Lb (b:Nat) (t:TypeId):∀ (vs:List Value) (o:Nat) (w:World) (cur:Array Value),w.heap[b]? = some (.cells cur t (0,0))->o+vs.length<=cur.size ->
  (w.setCells b o vs).heap[b]? = some (.cells (Afd o vs cur.toList).toArray t (0,0))/\(w.setCells b o vs).heap.size=w.heap.size/\(∀ g,g≠b->(w.setCells b o vs).heap[g]? = w.heap[g]?) /\
   (w.setCells b o vs).os=w.os/\(w.setCells b o vs).tape=w.tape/\(w.setCells b o vs).output=w.output
 | [],o,w,cur,h,hl=>by
  refine⟨?_,rfl,λ_ _=>rfl,rfl,rfl,rfl⟩
  show w.heap[b]? = _
  rw[h]
  simp [Afd,xI]
 | v::vs,o,w,cur,h,hl=>by
  rw[xD] at hl
  have hb:=yA.1 h
  have h1:(w.setCell ⟨b,o,none⟩ v).heap[b]? = some (.cells (cur.setIfInBounds o v) t (0,0)):=by
   simp only[World.setCell,kD,if_true,h,xE]
   rfl
  obtain⟨h2,h3,h4,h5,h6,h7⟩:=Lb b t vs (o+1) (w.setCell ⟨b,o,none⟩ v) (cur.setIfInBounds o v) h1 (by rw[Array.size_setIfInBounds];omega)
  have e0:w.setCells b o (v::vs)=(w.setCell ⟨b,o,none⟩ v).setCells b (o+1) vs:=rfl
  rw[e0]
  refine⟨?_,by rw[h3];simp [World.setCell],λg hg=>by rw[h4 g hg];simp only[World.setCell,kD];rw[if_neg (λe=>hg e.symm)],h5,h6,h7⟩
  rw[h2]
  congr 3
  have ho:o<cur.toList.length:=by rw[zX];omega
  have es:(cur.setIfInBounds o v).toList=cur.toList.take o++v::cur.toList.drop (o+1):=by
   rw[Array.toList_setIfInBounds,Aok _ _ _ ho]
  unfold Afd
  rw[es,xD]
  have hto:(cur.toList.take o).length=o:=by rw[zN];omega
  have e1:(cur.toList.take o++v::cur.toList.drop (o+1)).take (o+1)=cur.toList.take o++[v]:=by
   rw[List.take_append,yO (by omega),hto,show o+1-o=1 by omega];rfl
  have e2:(cur.toList.take o++v::cur.toList.drop (o+1)).drop (o+1+vs.length)=cur.toList.drop (o+(vs.length+1)):=by
   rw[List.drop_append,w7 (by omega),hto,show o+1+vs.length-o=vs.length+1 by omega,List.drop_succ_cons,kY,wZ]
   congr 1;omega
  rw[e1,e2]
  simp
theorem Aql {α:Type} (L vs D:List α) (a s m:Nat) (hv:vs.length=s) (hD:D.length=m) (hL:a+s+m<=L.length) :
  (Afd a vs (Afd (a+s) D L)).take (a+s+m)=L.take a++vs++D:=by
 unfold Afd
 have h1:(L.take (a+s)++D++L.drop (a+s+D.length)).take a=L.take a:=by
  rw[xM,xY (by rw[zN];omega),List.take_take,wV (by omega)]
 have h2:(L.take (a+s)++D++L.drop (a+s+D.length)).drop (a+vs.length)=D++L.drop (a+s+D.length):=by
  rw[xM,hv,List.drop_left' (by rw[zN];omega)]
 rw[h1,h2,<- xM,wK (by simp only[zH,zN];omega)]
theorem Ahk {α:Type} (L vs:List α) (a s:Nat) (hv:vs.length=s) (hL:a+s<=L.length):(Afd a vs L).take (a+s)=L.take a++vs:=by
 unfold Afd
 rw[wK (by simp only[zH,zN];omega)]
structure Aao (E sz b n:Nat) (w w':World) (v:Value) (vals:List Value):Prop where
 os:w'.os=w.os
 tape:w'.tape=w.tape
 output:w'.output=w.output
 size:w.heap.size<=w'.heap.size
 blk:∀ g,g<w.heap.size->g≠b->w'.heap[g]? = w.heap[g]?
 row:∃ G cap cur,(G=b\/w.heap.size<=G)/\v=.slice (some ⟨G,0,none⟩) n cap/\w'.heap[G]? = some (.cells cur E (0,0))/\n<=cap/\cap<=maxLen/\cur.size=cap*sz/\cur.toList.take (n*sz)=vals
theorem V6 {E sz b n c:Nat} {w:World} {cur:Array Value} {vs:List Value} (hg:w.heap[b]? = some (.cells cur E (0,0))) (hc:n+1<=c) (hm:c<=maxLen) (hs:cur.size=c*sz) (hv:vs.length=sz) :
  Aao E sz b (n+1) w (w.setCells b (n*sz) vs) (.slice (some ⟨b,0,none⟩) (n+1) c) (cur.toList.take (n*sz)++vs):=by
 have hfit:n*sz+vs.length<=cur.size:=by
  rw[hs,hv]
  have:=yZ sz hc
  rw[wR,kI] at this
  exact this
 obtain⟨h1,h2,h3,h4,h5,h6⟩:=Lb b E vs (n*sz) w cur hg hfit
 refine⟨h4,h5,h6,by rw[h2];exact zO _,λg _ hne=>h3 g hne,b,c,_,.inl rfl,rfl,h1,hc,hm,?_,?_⟩
 ·rw[yE,Wo (by rw[zX];exact hfit),zX,hs]
 ·rw[xA,wR,kI]
  exact Ahk _ _ _ _ hv (by rw[zX];omega)
theorem Sw {E sz b n c i:Nat} {w:World} {cur:Array Value} {vs:List Value} (hg:w.heap[b]? = some (.cells cur E (0,0))) (hi:i<n) (hc:n+1<=c) (hm:c<=maxLen) (hs:cur.size=c*sz) (hv:vs.length=sz) :
  Aao E sz b (n+1) w ((w.drew.setCells b ((i+1)*sz) ((cur.toList.take (n*sz)).drop (i*sz))).setCells b (i*sz) vs) (.slice (some ⟨b,0,none⟩) (n+1) c)
   ((cur.toList.take (n*sz)).take (i*sz)++vs++(cur.toList.take (n*sz)).drop (i*sz)):=by
 have hle:(n+1)*sz<=cur.size:=by rw[hs];exact yZ sz hc
 have hin:i*sz<=n*sz:=yZ sz (Nat.le_of_lt hi)
 have ei:(i+1)*sz=i*sz+sz:=by rw[wR,kI]
 have en:(n+1)*sz=n*sz+sz:=by rw[wR,kI]
 have hdl:((cur.toList.take (n*sz)).drop (i*sz)).length=n*sz-i*sz:=by rw[yB,zN,zX];omega
 have hl0:cur.toList.length=cur.size:=zX
 obtain⟨h1,h2,h3,h4,h5,h6⟩:=Lb b E ((cur.toList.take (n*sz)).drop (i*sz)) ((i+1)*sz) w.drew cur hg (by omega)
 have hp1:=Wo (o:=(i+1)*sz) (vs:=(cur.toList.take (n*sz)).drop (i*sz)) (L:=cur.toList) (by omega)
 obtain⟨k1,k2,k3,k4,k5,k6⟩:=Lb b E vs (i*sz) _ _ h1 (by rw[yE,hp1];omega)
 rw[xA] at k1
 have hp2:=Wo (o:=i*sz) (vs:=vs) (L:=Afd ((i+1)*sz) ((cur.toList.take (n*sz)).drop (i*sz)) cur.toList) (by rw[hp1];omega)
 refine⟨k4.trans h4,k5.trans h5,k6.trans h6,by rw[k2,h2];exact zO _,λg _ hne=>(k3 g hne).trans (h3 g hne),b,c,_,.inl rfl,rfl,k1,hc,hm,?_,?_⟩
 ·rw[yE,hp2,hp1,hl0,hs]
 ·rw[xA,List.take_take,wV hin]
  have:=Aql cur.toList vs ((cur.toList.take (n*sz)).drop (i*sz)) (i*sz) sz (n*sz-i*sz) hv hdl (by omega)
  rw[<- ei,show(i+1)*sz+(n*sz-i*sz)=(n+1)*sz by omega] at this
  exact this
theorem N0 {E sz b n c:Nat} {w:World} {row:Array Value} {vals:List Value} (hc:n<=c) (hm:c<=maxLen) (hs:row.size=c*sz) (hv:row.toList.take (n*sz)=vals) :
  Aao E sz b n w (w.drew.alloc (.cells row E)) (.slice (some ⟨w.heap.size,0,none⟩) n c) vals:=by
 refine⟨rfl,rfl,rfl,by simp,λg hg _=>Below.heap_alloc w.drew _ g hg,w.heap.size,c,row,.inr (zO _),rfl,?_,hc,hm,hs,hv⟩
 show(w.heap.push (.cells row E))[w.heap.size]? = _
 simp
theorem Akl {α:Type} (L vs D:List α) (a s m:Nat) (hv:vs.length=s) (hD:D.length=m) (hL:a+s+m<=L.length) :
  (Afd (a+s) D (Afd a vs L)).take (a+s+m)=L.take a++vs++D:=by
 have h1:(Afd a vs L).take (a+s)=L.take a++vs:=Ahk _ _ _ _ hv (by omega)
 show((Afd a vs L).take (a+s)++D++_).take (a+s+m)=_
 rw[h1,wK (by simp only[zH,zN];omega)]
theorem Ui {E sz n c i:Nat} {w:World} {row:Array Value} {xs vs D:List Value} (hi:i<n) (hc:n+1<=c) (hm:c<=maxLen) (hs:row.size=c*sz) (hv:vs.length=sz) (hD:D.length=(n-i)*sz) (ht:row.toList.take (i*sz)=xs) :
  Aao E sz w.heap.size (n+1) w ((((w.alloc (.cells row E)).drew.setCells w.heap.size (i*sz) vs).drew).setCells w.heap.size ((i+1)*sz) D) (.slice (some ⟨w.heap.size,0,none⟩) (n+1) c) (xs++vs++D):=by
 have hle:(n+1)*sz<=row.size:=by rw[hs];exact yZ sz hc
 have ei:(i+1)*sz=i*sz+sz:=by rw[wR,kI]
 have e3:(i+1)*sz+(n-i)*sz=(n+1)*sz:=by rw[<- wR];congr 1;omega
 have hl0:row.toList.length=row.size:=zX
 have hg:(w.alloc (.cells row E)).drew.heap[w.heap.size]? = some (.cells row E (0,0)):=by
  show(w.heap.push (.cells row E))[w.heap.size]? = _
  simp
 obtain⟨h1,h2,h3,h4,h5,h6⟩:=Lb w.heap.size E vs (i*sz) _ row hg (by omega)
 have hp1:=Wo (o:=i*sz) (vs:=vs) (L:=row.toList) (by omega)
 obtain⟨k1,k2,k3,k4,k5,k6⟩:=Lb w.heap.size E D ((i+1)*sz) (((w.alloc (.cells row E)).drew.setCells w.heap.size (i*sz) vs).drew) _ h1 (by rw[yE,hp1];omega)
 rw[xA] at k1
 have hp2:=Wo (o:=(i+1)*sz) (vs:=D) (L:=Afd (i*sz) vs row.toList) (by rw[hp1];omega)
 refine⟨k4.trans h4,k5.trans h5,k6.trans h6,?_,λg hg2 hne=>((k3 g hne).trans (h3 g hne)).trans (Below.heap_alloc w _ g hg2),w.heap.size,c,_,.inl rfl,rfl,k1,hc,hm,?_,?_⟩
 ·rw[k2]
  show w.heap.size<=((w.alloc (.cells row E)).drew.setCells w.heap.size (i*sz) vs).heap.size
  rw[h2]
  show w.heap.size<=(w.heap.push _).size
  rw[Array.size_push];omega
 ·rw[yE,hp2,hp1,hl0,hs]
 ·rw[xA,<- ht,<- e3,ei]
  exact Akl row.toList vs D (i*sz) sz ((n-i)*sz) hv hD (by omega)
theorem Yc {P:Program} {F E sz:Nat} {cs vs:List Lf} {n i:Nat} (hsz:0<sz) (hcl:cs.length=n*sz) (hvl:vs.length=sz)
  (hmain:∀ (w:World) (v1:Value) (vb vc:Nat) (cur2:Array Value) (xs ys:List Value),w.ownsRow 0 E sz v1 n xs->w.heap[vb]? = some (.cells cur2 E (0,0))->(∀ j y,ys[j]? = some y->w.cell? ⟨vb,j,none⟩=some y)->ys.length=sz->Cz v1≠some vb ->
   (∀ x∈xs,x.oneCell'=true)->(∀ y∈ys,y.oneCell'=true) ->
   Calls P F #[v1,.int .i64 i,.slice (some ⟨vb,0,none⟩) 1 vc] w λe w'=>∃ v b,e=.returned v/\Aao E sz b (n+1) w w' v (xs.take (i*sz)++ys++xs.drop (i*sz))/\(Cz v1=some b\/w.heap.size<=b)) :
  Cv P F [.arr E sz 0 cs,.arr E sz 0 vs] [.one (.ls 0 n),.one (.i .i64 (i:Int)),.one (.ls 1 1)] (λy m'=>y=.s (.one (.ls 0 (n+1)))/\m'=[.arr E sz 0 (cs.take (i*sz)++vs++cs.drop (i*sz)),.dead]):=by
 intro w S H args hS hm hv
 obtain⟨hl,hv⟩:=hv
 obtain⟨v1,v2,v3,rfl⟩:∃ a b c,args = #[a,b,c]:=by
  obtain⟨l⟩:=args
  have h3:l.length=3:=hl.symm
  match l,h3 with
  | [a,b,c],_=>exact⟨a,b,c,rfl⟩
 have g0:=hv 0 _ v1 rfl rfl
 have g1:=hv 1 _ v2 rfl rfl
 have g2:=hv 2 _ v3 rfl rfl
 obtain⟨_,_,h0⟩:=(show Bt w S _ H (.ls 0 n) v1 from g0)
 have hv1:v1=H 0:=(h0 E sz 0 cs rfl).2 hcl.symm
 obtain⟨_,_,h2⟩:=(show Bt w S _ H (.ls 1 1) v3 from g2)
 have hv3:v3=H 1:=(h2 E sz 0 vs rfl).2 (by rw[kI];exact hvl.symm)
 have hv2:v2=.int .i64 i:=by
  cases (show Rep w S (.i .i64 i) v2 from g1)
  rfl
 subst hv1 hv3 hv2
 obtain⟨_,_,n0,xs,hown,hxs,_⟩:=hm.bl 0 _ rfl
 obtain⟨_,_,m0,ys,hown2,hys,_⟩:=hm.bl 1 _ rfl
 have hn0:n0=n:=L0 hown hsz (by rw[<- hxs.1];exact hcl.symm)
 have hm0:m0=1:=L0 hown2 hsz (by rw[<- hys.1,kI];exact hvl.symm)
 subst hn0 hm0
 rcases hown2.2 with⟨_,h⟩|⟨vb,vc,cur2,e2,_,hg2,hc2,_,hs2,ht2⟩
 ·omega
 have hyl:ys.length=sz:=by rw[<- hys.1];exact hvl
 have hlsO:∀ {ls:List Lf} {us:List Value},LsR (Rep w S) ls us->∀ u∈us,u.oneCell'=true:=λ{ls us} h u hu=>by
  obtain⟨j,hj⟩:=xJ.1 hu
  have hjl:j<ls.length:=by rw[h.1];exact(zB.1 hj).1
  exact(h.2 j _ u (zC hjl) hj).oneCell
 have hcell:∀ j y,ys[j]? = some y->w.cell? ⟨vb,j,none⟩=some y:=λj y hj=>by
  unfold World.cell?
  rw[hg2]
  have hjl:=(zB.1 hj).1
  rw[<- ht2,yF] at hj
  split at hj
  ·simpa using hj
  ·cases hj
 have hown0:Cz (H 0)≠some vb:=λh=>by
  have h1:Blk.own (.arr E sz 0 vs) (H 1)=some vb:=by rw[e2];rfl
  have:=hm.inj 0 1 _ _ vb rfl rfl h h1
  cases this
 have hpk:∀ p g,p<2->H p≠.pointer (some ⟨g,0,none⟩):=λp g hp e=>by
  match p,hp with
  | 0,_=>rcases hown.2 with⟨h,_⟩ | ⟨_,_,_,h,_⟩ <;> (rw[h] at e;cases e)
  | 1,_=>rw[e2] at e;cases e
 rw[e2] at hown2 ⊢
 refine(hmain w (H 0) vb vc cur2 xs ys hown hg2 hcell hyl hown0 (hlsO hxs) (hlsO hys)).mono ?_
 rintro e w' ⟨v,b,rfl,r,hb⟩
 obtain⟨G,cap,cur,hG,hve,hrow,hcn,hcm,hcs,hct⟩:=r.row
 have hSb:∀ g j,S g j->g<w.heap.size/\g≠b:=λg j hs=>by
  refine⟨hS.1 g j hs,λe=>?_⟩
  subst e
  rcases hb with h|h
  ·have:=hm.sb 0 _ g j rfl h hs
   exact zW _ this
  ·have:=hS.1 g j hs;omega
 have hkeep:∀ g j,S g j->S g j/\w'.cell? ⟨g,j,none⟩=w.cell? ⟨g,j,none⟩:=λg j hs=>⟨hs,World.cell?_of_block (w:=w) (r.blk g (hSb g j hs).1 (hSb g j hs).2)⟩
 have hGS:∀ j,¬ S G j:=λj hs=>by
  rcases hG with rfl|h
  ·exact(hSb _ j hs).2 rfl
  ·have:=hS.1 G j hs;omega
 have hbX:∀ g,g=b->g<w.heap.size->Ady [.arr E sz 0 cs,.arr E sz 0 vs] H g:=λg e hlt=>by
  subst e
  rcases hb with h|h
  ·exact⟨0,_,rfl,h⟩
  ·omega
 have hexists:∃ o,w'.heap[G]? = some o:=⟨_,hrow⟩
 have hnl:(cs.take (i*sz)++vs++cs.drop (i*sz)).length=(n0+1)*sz:=by
  simp only[zH,zN,yB,hvl,hcl,wR,kI]
  omega
 refine⟨v,_,_,S,λp=>if p=0 then v else H p,rfl,⟨rfl,rfl⟩,⟨r.os,r.tape,r.output,r.size,λg hlt hx=>r.blk g hlt (λe=>hx (hbX g e hlt)),λ_ _ h=>h,λg j hs=>(hkeep g j hs).2,λ_ _ _ _ h=>h⟩,
  hS.turn (·=b) (λg j e hs=>absurd e (hSb g j hs).2) (λg hg hne=>r.blk g hg hne) r.size (λg j hs=>(hkeep g j hs).2),⟨?_,?_,?_,?_⟩,?_,⟨show 2<=2 by decide,λp g hp h=>absurd h (hpk p g hp),λp e' sz' k cs' hp h=>?_,λp hp hne=>?_⟩,?_⟩
 ·intro p bb hbb
  match p,hbb with
  | 1,hbb=>cases hbb;trivial
  | 0,hbb =>
   cases hbb
   refine⟨hsz,zZ _,n0+1,xs.take (i*sz)++ys++xs.drop (i*sz),⟨?_,.inr ⟨G,cap,cur,hve,zZ _,hrow,hcn,hcm,hcs,hct⟩⟩,?_,λ_ _ _ h=>absurd h (zW _)⟩
   ·have:xs.length=n0*sz:=by rw[<- hxs.1];exact hcl
    simp only[zH,zN,yB,hyl,this,wR,kI]
    omega
   ·have key:∀ {l1 l2:List Lf} {u1 u2:List Value},LsR (Rep w' S) l1 u1->LsR (Rep w' S) l2 u2->LsR (Rep w' S) (l1++l2) (u1++u2):=λ{l1 l2 u1 u2} h1 h2=>by
     refine⟨by rw[zH,zH,h1.1,h2.1],λj l u hl hu=>?_⟩
     rw[List.getElem?_append] at hl hu
     rw[h1.1] at hl
     split at hl
     ·next hj=>rw[if_pos hj] at hu;exact h1.2 j l u hl hu
     ·next hj=>rw[if_neg hj] at hu;exact h2.2 _ l u hl hu
    have hx':LsR (Rep w' S) cs xs:=hxs.mono λ_ _=>Rep.mono hkeep
    have hy':LsR (Rep w' S) vs ys:=hys.mono λ_ _=>Rep.mono hkeep
    refine key (key ⟨by rw[zN,zN,hx'.1],λj l u hl hu=>?_⟩ hy') ⟨by rw[yB,yB,hx'.1],λj l u hl hu=>?_⟩
    ·rw[yF] at hl hu
     split at hl
     ·next hj=>rw[if_pos hj] at hu;exact hx'.2 j l u hl hu
     ·cases hl
    ·rw[yH] at hl hu
     exact hx'.2 _ l u hl hu
  | p+2,hbb=>cases hbb
 ·intro p bb g hbb ho
  match p,hbb with
  | 1,hbb=>cases hbb;cases ho
  | 0,hbb =>
   cases hbb
   have:some G=some g:=by rw[<- ho];show _=Cz v;rw[hve];rfl
   cases this
   exact(yA.1 hrow).1
  | p+2,hbb=>cases hbb
 ·intro p q b1 b2 g h1 h2 o1 o2
  match p,q,h1,h2 with
  | 1,_,h1,_=>cases h1;cases o1
  | 0,1,_,h2=>cases h2;cases o2
  | 0,0,_,_=>rfl
  | 0,q+2,_,h2=>cases h2
  | p+2,_,h1,_=>cases h1
 ·intro p bb g j hbb ho hs
  match p,hbb with
  | 1,hbb=>cases hbb;cases ho
  | 0,hbb =>
   cases hbb
   have:some G=some g:=by rw[<- ho];show _=Cz v;rw[hve];rfl
   cases this
   exact absurd hs (hGS j)
  | p+2,hbb=>cases hbb
 ·intro p bb g hbb ho
  match p,hbb with
  | 1,hbb=>cases hbb;cases ho
  | 0,hbb =>
   cases hbb
   have:some G=some g:=by rw[<- ho];show _=Cz v;rw[hve];rfl
   cases this
   rcases hG with h|h
   ·by_cases hlt:G<w.heap.size
    ·exact .inr (hbX G h hlt)
    ·exact .inl (by omega)
   ·exact .inl h
  | p+2,hbb=>cases hbb
 ·match p,hp,h with
  | 0,_,h =>
   cases h
   exact⟨0,cs,rfl,.inr (by rw[hnl,hcl];exact Nat.mul_lt_mul_of_pos_right (wM _) hsz)⟩
  | 1,_,h=>cases h
 ·match p,hp,hne with
  | 0,_,_=>show v≠undef;rw[hve];exact λh=>by cases h
  | 1,_,hne=>exact hne
 ·show Df w' S [.arr E sz 0 (cs.take (i*sz)++vs++cs.drop (i*sz)),.dead] (λp=>if p=0 then v else H p) (.ls 0 (n0+1)) v
  refine⟨show 0<2 by decide,⟨by rw[hve];rfl,by show v≠undef;rw[hve];exact λh=>by cases h⟩,λe' sz' k cs' h=>?_⟩
  cases h
  exact⟨kC hnl.symm,λ_=>rfl⟩
section
variable {P:Program} {c:Ctx} {Q:Exit->AS->Prop} {t:Nat->AV} {m:List Blk}
theorem Av5 {l:Nat} (h:Q .normal ⟨t,m⟩):AWC P c (.label l) Q ⟨t,m⟩:=λ_ _ S H r=>wp_label ⟨⟨t,m⟩,S,H,r,h⟩
theorem Avn {x:Code} (hg:∀ l st,¬ Q (.goto l) st) (h:AWC P c x Q ⟨t,m⟩):AWC P c (.scope x) Q ⟨t,m⟩:=λa w S H r =>
 wp_scope_straight (wp_mono (h a w S H r) λe a' w' hq=>by
  cases e with
  | goto l =>
   obtain⟨st,S',H',hr,hq⟩:=hq
   exact absurd hq (hg l _)
  | _=>exact hq)
end
def An9 {α:Type} (by_:Nat) (xs:List α) (i:Int) (vs:List α):Option (List α):=match vs with
 | [x]=>if (0<=i/\i<=(xs.length:Int))/\(xs.length+1)*by_<=140737488355328 then some (xs.take i.toNat++x::xs.drop i.toNat) else none
 | _=>none
theorem Amb {P:Program} {F E sz by_:Nat} {α:Type} {f:α->List Lf} (hf:∀ x,(f x).length=sz) (hB:∀ {cs vs:List Lf} {n i:Nat},cs.length=n*sz->vs.length=sz->i<=n->(n+1)*by_<=140737488355328 ->
   Cv P F [.arr E sz 0 cs,.arr E sz 0 vs] [.one (.ls 0 n),.one (.i .i64 (i:Int)),.one (.ls 1 1)] (λy m'=>y=.s (.one (.ls 0 (n+1)))/\m'=[.arr E sz 0 (cs.take (i*sz)++vs++cs.drop (i*sz)),.dead]))
  {xs:List α} {i:Int} {vs r:List α} (h:An9 by_ xs i vs=some r) :
  Cv P F [.arr E sz 0 (xs.flatMap f),.arr E sz 0 (vs.flatMap f)] [.one (.ls 0 xs.length),.one (.i .i64 i),.one (.ls 1 vs.length)] (λy m'=>y=.s (.one (.ls 0 r.length))/\m'=[.arr E sz 0 (r.flatMap f),.dead]):=by
 unfold An9 at h
 match vs,h with
 | [x],h =>
  obtain⟨⟨⟨h0,h1⟩,h2⟩,h⟩:=B5 h
  obtain rfl:=zD h
  have hb:=hB (cs:=xs.flatMap f) (vs:=[x].flatMap f) (n:=xs.length) (i:=i.toNat) (Aq hf xs) (by rw[Aq hf,yD,kI]) (by omega) h2
  rw[Int.toNat_of_nonneg h0] at hb
  refine hb.mono ?_
  rintro y m' ⟨rfl,rfl⟩
  have e1:(xs.take i.toNat++x::xs.drop i.toNat).length=xs.length+1:=by
   rw[zH,xD,zN,yB];omega
  rw[e1]
  refine⟨rfl,?_⟩
  rw[w9,Wy hf,yW,W9 hf,<- xM]
  simp
theorem Rel.fillRow {c:Ctx} {t:Nat->AV} {m:List Blk} {a:Act} {w w':World} {S S':Bz} {H H':Nat->Value} (r:Rel c ⟨t,m⟩ a w S H) {p:Nat} (hm:m[p]? = some .hole) (hp0:c.m0.length<=p) {e sz:Nat} {cs:List Lf}
  (hx:Ext w S w' S') (hin:InH w' S') (mem:Mem w' S' [.arr e sz 0 cs] H') (hown:∀ g,Cz (H' 0)=some g->w.heap.size<=g) :
  Rel c ⟨t,m.set p (.arr e sz 0 cs)⟩ a w' S' (Mr H p (H' 0)):=by
 have hp:p<m.length:=(zB.1 hm).1
 have hH:H p=undef:=r.bl p _ hm
 obtain⟨hsz,hk,n,vals,h1,h2,h3⟩:=mem.bl 0 _ rfl
 refine r.changeM (p:=p) (b':=.arr e sz 0 cs) (v:=H' 0) (by simp) (zI hp) (λq hq=>zM (λe=>hq e.symm)) (hx.keeps r.sl) (λg _ h=>(Zh (hH.symm.trans h)).elim)
  (λe sz k cs _ h _=>by rcases h with h|h;exact absurd hH h;omega) (λg hg _=>hx.blk g hg) ⟨hsz,zZ _,n,vals,h1,h2,λ_ _ _ h=>absurd h (zW _)⟩ (λg hg=>?_)
  (λq b g i _ hb ho hs=>hx.back g i (r.lo q b g hb ho).2 hs) (λg i hg _ hs=>hx.back g i (z6 hg r.ex.size) hs) hin hx.size hx.os hx.tape hx.output
 have hge:=hown g hg
 refine⟨.inl (yP r.ex.size hge),mem.hp 0 _ g rfl hg,λq b _ hb ho=>?_,λi hs=>mem.sb 0 _ g i rfl hg hs⟩
 have:=(r.lo q b g hb ho).2
 omega
section
variable {P:Program} {c:Ctx} {t:Nat->AV} {M:List Blk} {ops:Array Oper} {Q:Exit->AS->Prop} {rest:List Oper} {ty:TypeId} {pos:String} {af:Array Edge} {d:Tmp}
theorem Xh {callee:Operand} {f:FuncId} {args:Array Operand} {ats:Array TypeId} {xs:List SV} {e sz n:Nat} {cs:List Lf} {α:Type} {g:α->List Lf} {ys:List α} (p:Nat) (hd:decide (d<c.nt)=true) (hf:FnI P f) (hcal:Cal ⟨t,M⟩ callee f [] []) (ho:Xi ⟨t,M⟩ args.toList xs)
  (hc:Cv P f [] xs (λy m'=>y=.s (.one (.ls 0 n))/\m'=[.arr e sz 0 cs])) (hpub:xs.all (λx=>x.inbB 0)=true) (hg:∀ x,(g x).length=sz) (hcs:cs=ys.flatMap g) (hn:n=ys.length) (hm:M[p]? = some .hole) (hp0:Nat.ble c.m0.length p=true)
  (k:AWL P c ops Q rest ⟨upd t d (.s (.one (.ls p n))),M.set p (.arr e sz 0 cs)⟩):AWL P c ops Q (⟨some d,.call { callee:=.value callee,args:=args,argTypes:=ats },ty,pos,af,none⟩::rest) ⟨t,M⟩:=by
 subst hcs hn
 intro a w S H r
 obtain⟨vs,hvs,hrun⟩:=Z4 (pos:=pos) (af:=af) (ty:=ty) (ats:=ats) r hf hcal ho (some d)
 refine wpList_plain rfl λK hK=>?_
 unfold Oper.wp
 rw[hrun]
 have hvs':Yv (Bt w S [] H) xs vs.toList:=by
  have tie:Tie [] M H H (λj=>j):=⟨λp h=>absurd h (zW _),λ_ _=>rfl,λp b h=>by cases h⟩
  have e:xs.map (SV.ren (λj=>j))=xs:=by
   have hl:∀ l:Lf,l.ren0 (λj=>j)=l:=λl=>by cases l <;> rfl
   have hl2:∀ l:Lf,l.ren (λj=>j)=l:=λl=>by
    cases l with
    | fn f a b =>
     show Lf.fn f (a.map _) (b.map _)=_
     rw[show(Lf.ren0 λj=>j)=id from funext hl,kZ,kZ]
    | _=>rfl
   have hs:∀ x:SV,x.ren (λj=>j)=x:=λx=>by
    cases x with
    | one l=>show SV.one _=_;rw[hl2]
    | agg ls=>show SV.agg _=_;rw[show(Lf.ren λj=>j)=id from funext hl2,kZ]
   rw[show(SV.ren λj=>j)=id from funext hs,kZ]
  exact tie.svsDown hpub (by rw[e];simpa using hvs)
 refine(hc w S H vs r.sl ⟨λp b h=>by simp at h,λp b g h=>by simp at h,λp q b b' g h=>by simp at h,λp b g i h=>by simp at h⟩ hvs').mono ?_
 rintro e' w' ⟨v,y,m',S',H',rfl,⟨rfl,rfl⟩,ext,hin,mem',hown',_,hav⟩
 have hx:Ext w S w' S':=ext.toExt (λb ⟨q,bb,h,_⟩=>by simp at h)
 have r':=r.fillRow hm (wH hp0) hx hin mem' (λg hg=>by
  rcases hown' 0 _ g rfl hg with h|⟨q,bb,h,_⟩
  ·exact h
  ·simp at h)
 have hp:p<M.length:=(zB.1 hm).1
 obtain⟨_,ho1,hv⟩:=(show Df w' S' [.arr e sz 0 (ys.flatMap g)] H' (.ls 0 ys.length) v from hav)
 have hvH:=(hv e sz 0 _ rfl).2 (Aq hg ys).symm
 refine hK _ _ (k _ _ _ _ (r'.put (of_decide_eq_true hd) ?_))
 show Df w' S' (M.set p (.arr e sz 0 (ys.flatMap g))) (Mr H p (H' 0)) (.ls p ys.length) v
 refine⟨by simpa using hp,⟨ho1.1,by rw[Bm];exact ho1.2⟩,λe2 sz2 k2 cs2 h2=>?_⟩
 rw[zI hp] at h2
 cases h2
 exact⟨kC (Aq hg ys).symm,λ_=>by rw[Bm];exact hvH⟩
end
open Go.RowKit Go.Lib
open Go.RowKit Go.MapKept
open Go.ChangeMaps (setBlock)
def J8 (vof:List Value->Value) (ks:List Value):List (List Value)->Obj->Prop:=λvss o =>
 ∃ es clock,o=.map es clock/\Stamped es clock/\es.toList.map (·.key)=ks/\es.toList.map (·.val)=vss.map vof
def Adw (vof:List Value->Value) (es:Array MapEntry) (clock:Nat):List (List Value)->Obj->Prop:=λvss o=>o=.map es clock/\es.toList.map (·.val)=vss.map vof
def Aka (g since:Nat) (seen:Array Nat) (c0:Nat):List (List Value)->Obj->Prop:=λ_ o=>o=.mapIter (some g) since seen c0
def Vm (vs:List Value):Value:=.agg vs.toArray
def Agm (vs:List Value):Value:=vs.headD undef
theorem Rel.newObj {c:Ctx} {st:AS} {a:Act} {w:World} {S:Bz} {H:Nat->Value} (r:Rel c st a w S H) {o:Obj} {mk:List (List Value)->Obj->Prop} {vss:List (List Value)} {css:List (List Lf)} (ho:Ai9 o=true) (hmk:mk vss o)
  (hl:Anl (Rep w S) css vss):Rel c ⟨st.t,st.m++[.obj w.heap.size mk css]⟩ a (w.alloc o) S (Mr H st.m.length (.pointer (some ⟨w.heap.size,0,none⟩))):=by
 have hx:Ext w S (w.alloc o) S:=Ext.alloc w S _
 have hk:=hx.keeps r.sl
 have hf:=r.fresh (zO w.heap.size)
 refine r.change (b':=.obj w.heap.size mk css) (by simp) (by simp) (λq hq=>?_) hk (λg h=>absurd h (wS _)) (λe sz k cs h=>absurd h (wS _))
  (λg hg _=>Below.heap_alloc w o g hg) ⟨rfl,vss,o,heap_alloc_new w o,ho,hmk,hl.mono (λl v=>Rep.mono hk)⟩ (λg hg=>?_) (λq b g i _ _ _ h=>h) (λg i _ _ h=>h) (r.sl.ext hx).two hx.size rfl rfl rfl
 ·rcases zU q st.m.length with h|h
  ·rw[zK h]
  ·rw[yL (by simp;omega),yL h]
 ·have:w.heap.size=g:=by simpa [Blk.own,Cz] using hg
  subst this
  exact⟨.inl r.ex.size,by simp,λq b _ hb=>hf.1 q b hb,λi hi=>absurd hi (hf.2 i)⟩
theorem Sv (w:World) (g:Nat) (o:Obj):(setBlock w g o).heap.size=w.heap.size:=by simp [setBlock]
theorem Rel.setObj {c:Ctx} {st:AS} {a:Act} {w:World} {S:Bz} {H:Nat->Value} (r:Rel c st a w S H) {p g:Nat} {mk mk':List (List Value)->Obj->Prop} {css css':List (List Lf)} {o:Obj} {vss:List (List Value)}
  (hm:st.m[p]? = some (.obj g mk css)) (ho:Ai9 o=true) (hmk:mk' vss o) (hl:Anl (Rep w S) css' vss):∃ H',Rel c ⟨st.t,st.m.set p (.obj g mk' css')⟩ a (setBlock w g o) S H'/\∀ b i,S b i->S b i/\(setBlock w g o).cell? ⟨b,i,none⟩=w.cell? ⟨b,i,none⟩:=by
 have hp:p<st.m.length:=(zB.1 hm).1
 obtain⟨h1,vs0,o0,h2,h3,h4,h5⟩:=r.bl p _ hm
 have hlo:=r.lo p _ g hm (by rw[h1];rfl)
 have hset:=heap_set (o':=o) h2
 have hcell:∀ b i,S b i->(setBlock w g o).cell? ⟨b,i,none⟩=w.cell? ⟨b,i,none⟩:=λb i hs=>by
  refine World.cell?_of_block (w:=w) (hset.2 b λe=>?_)
  subst e
  have:=r.sb p _ b i hm (by rw[h1];rfl) hs
  exact absurd this (zW _)
 have hk:∀ b i,S b i->S b i/\(setBlock w g o).cell? ⟨b,i,none⟩=w.cell? ⟨b,i,none⟩:=λb i hs=>⟨hs,hcell b i hs⟩
 refine⟨_,r.change (m':=st.m.set p (.obj g mk' css')) (b':=.obj g mk' css') (v:=H p) (by simp) (by rw[zI hp]) (λq hq=>by rw[zM (Ne.symm hq)]) hk (λ_ _ _=>rfl) (λe sz k cs _ h=>by cases h)
  (λg' _ hg'=>hset.2 g' λe=>?_) ⟨h1,vss,o,hset.1,ho,hmk,hl.mono (λl v=>Rep.mono hk)⟩ (λg' hg'=>?_) (λq b g i _ _ _ h=>h) (λg i _ _ h=>h) (r.sl.turn2 (kC (Sv w g o).symm) hcell) (kC (Sv w g o).symm) rfl rfl rfl,hk⟩
 ·subst e
  exact hg' _ hm (by rw[h1];rfl)
 ·have hg2:g=g':=by
   rw[h1] at hg'
   simpa [Blk.own,Cz] using hg'
  subst hg2
  exact⟨hlo.1,by rw[Sv];exact hlo.2,λq b hq hb ho'=>hq (r.inj q p b _ g hb hm ho' (by rw[h1];rfl)),λi hi=>absurd (r.sb p _ g i hm (by rw[h1];rfl) hi) (zW _)⟩
section
variable {P:Program} {c:Ctx} {ops:Array Oper} {Q:Exit->AS->Prop} {rest:List Oper} {ty:TypeId} {pos:String} {af:Array Edge} {d:Tmp} {t:Nat->AV} {m:List Blk}
theorem Apr {tm:TypeId} (vof:List Value->Value) (hd:decide (d<c.nt)=true)
  (k:∀ g,AWL P c ops Q rest ⟨upd t d (.s (.one (.raw (.map (some g))))),m++[.obj g (J8 vof []) []]⟩):AWL P c ops Q (⟨some d,.makeMap tm none,ty,pos,af,none⟩::rest) ⟨t,m⟩:=by
 intro a w S H r
 refine wpList_plain rfl λK hK=>?_
 unfold Oper.wp
 have hrun:(execOp a.eval ⟨some d,.makeMap tm none,ty,pos,af,none⟩).run P w=.ok (.value (.map (some w.heap.size))) (w.alloc (.map #[] 0)):=by
  simp [execOp,Instr.makeMap]
 rw[hrun]
 have r':=r.newObj (o:=.map #[] 0) (mk:=J8 vof []) (vss:=[]) (css:=[]) rfl ⟨#[],0,rfl,stamped_empty 0,rfl,rfl⟩ ⟨rfl,λj cs vs h=>by simp at h⟩
 exact hK _ _ (k w.heap.size _ _ _ _ (r'.put (d:=d) (x:=.s (.one (.raw (.map (some w.heap.size))))) (of_decide_eq_true hd) (Fl (.raw _ rfl))))
theorem Acm {st:AS} {a:Act} {w:World} {S:Bz} {H:Nat->Value} (r:Rel c st a w S H) {x:Operand} {g:Nat} (hx:B2 st x=.s (.one (.raw (.map (some g))))):a.eval x=.map (some g):=by
 have h:=Ba r x
 rw[hx] at h
 exact Eu h
theorem Aio {st:AS} {a:Act} {w:World} {S:Bz} {H:Nat->Value} (r:Rel c st a w S H) {x:Operand} {s:ByteArray} (hx:B2 st x=.s (.one (.s s))):a.eval x=.string s:=by
 have h:=Ba r x
 rw[hx] at h
 exact Ajx h
theorem Aha {es:Array MapEntry} {ss:List ByteArray} (h:es.toList.map (·.key)=ss.map .string):∀ x∈es.toList,IsKey .string x.key:=λx hx=>by
 have:x.key∈ss.map Value.string:=by rw[<- h];exact z8.2 ⟨x,hx,rfl⟩
 obtain⟨s,_,hs⟩:=z8.1 this
 rw[<- hs];trivial
theorem Sq {α β:Type} (f:α->α) (g:α->β) (h:β->β) (hgh:∀ x,g (f x)=h (g x)):∀ (l:List α) (i:Nat),(l.modify i f).map g=(l.map g).modify i h
 | [],i=>by cases i <;> rfl
 | x::l,0=>by simp [List.modify,hgh]
 | x::l,i+1=>by
  have:=Sq f g h hgh l i
  simp [List.modify] at this ⊢
  exact this
theorem O3 {α:Type} (v:α):∀ (l:List α) (i:Nat),l.modify i (λ_=>v)=l.set i v
 | [],i=>by cases i <;> rfl
 | x::l,0=>rfl
 | x::l,i+1=>by
  have:=O3 v l i
  simp [List.modify] at this ⊢
  exact this
theorem Anv {tm kt et:TypeId} {x y z:Operand} {g p:Nat} {ss:List ByteArray} {css:List (List Lf)} {s:ByteArray} {ls:List Lf} (hu:P.underlying tm=some (.map kt et)) (hkt:P.underlying kt=some .string)
  (hx:B2 ⟨t,m⟩ x=.s (.one (.raw (.map (some g))))) (hy:B2 ⟨t,m⟩ y=.s (.one (.s s))) (hz:B2 ⟨t,m⟩ z=.s (.agg ls)) (hpub:ls.all Lf.pubd=true) (hm:m[p]? = some (.obj g (J8 Vm (ss.map .string)) css))
  (k1:∀ j,ss[j]? = some s->AWL P c ops Q rest ⟨t,m.set p (.obj g (J8 Vm (ss.map .string)) (css.set j ls))⟩)
  (k2:s∉ss->AWL P c ops Q rest ⟨t,m.set p (.obj g (J8 Vm ((ss++[s]).map .string)) (css++[ls]))⟩) :
  AWL P c ops Q (⟨none,.mapUpdate tm x y z,ty,pos,af,none⟩::rest) ⟨t,m⟩:=by
 intro a w S H r
 obtain⟨h1,vss,o,h2,h3,⟨es,clock,rfl,hst,hks,hvs⟩,h5⟩:=r.bl p _ hm
 have ex:=Acm r hx
 have ey:=Aio r hy
 have hzr:=Ba r z
 rw[hz] at hzr
 obtain⟨vz,ez,hzl⟩:=hzr
 have hzl':LsR (Rep w S) ls vz.toList:=⟨hzl.1,λj l v e1 e2=>(hzl.2 j l v e1 e2).rep (zL.1 hpub l (zG e1))⟩
 have hkey:=Aha hks
 have hlen:css.length=vss.length:=h5.1
 have hev:es.size=vss.length:=by
  have:=congrArg List.length hvs
  simpa using this
 have hes:es.size=ss.length:=by
  have:=congrArg List.length hks
  simpa using this
 refine wpList_plain rfl λK hK=>?_
 unfold Oper.wp
 rcases findNow_spec (d:=.string) (k:=.string s) trivial es.toList 0 hkey with⟨f1,f2⟩|⟨j,e,f1,f2,f3⟩
 ·have hns:s∉ss:=λhs=>by
   have:Value.string s∈es.toList.map (·.key):=by rw[hks];exact z8.2 ⟨s,hs,rfl⟩
   obtain⟨e,he,hek⟩:=z8.1 this
   exact f2 e he hek
  have hrun:(execOp a.eval ⟨none,.mapUpdate tm x y z,ty,pos,af,none⟩).run P w=.ok .skip (setBlock w g (.map (es.push { key:=.string s,val:=.agg vz,born:=clock }) (clock+1))):=by
   simp [execOp,ex,ey,ez,Instr.mapUpdate,run_underlying hu,MapKept.run_getObj_map h2,run_checkKey (k:=.string s) hkt trivial,run_findKey hkt f1,run_setObj_map _ h2,Result.andThen,setBlock]
  rw[hrun]
  have hl2:Anl (Rep w S) (css++[ls]) (vss++[vz.toList]):=⟨by simp [hlen],λi cs vs e1 e2=>by
   rcases zU i css.length with hi|hi
   ·rw[zK hi] at e1
    rw[zK (by omega)] at e2
    exact h5.2 i cs vs e1 e2
   ·rw[z2 hi] at e1
    rw[z2 (by omega),<- hlen] at e2
    rcases kS (i-css.length) with h0|h0
    ·rw[h0] at e1 e2
     obtain rfl:=zD e1
     obtain rfl:=zD e2
     exact hzl'
    ·rw[yL (by rw[yD];omega)] at e1;cases e1⟩
  obtain⟨H',r',_⟩:=r.setObj (mk':=J8 Vm ((ss++[s]).map .string)) (css':=css++[ls]) (vss:=vss++[vz.toList]) (o:=.map (es.push { key:=.string s,val:=.agg vz,born:=clock }) (clock+1)) hm rfl
   ⟨_,_,rfl,stamped_push hst f2,by simp [hks],by simp [hvs,Vm]⟩ hl2
  exact hK _ _ (k2 hns _ _ _ _ r')
 ·rw[yK] at f1
  have hj:j<es.size:=by
   have:=(zB.1 f2).1
   simpa using this
  have hsj:ss[j]? = some s:=by
   have:(es.toList.map (·.key))[j]? = some (.string s):=by rw[zQ,f2];simp [f3]
   rw[hks,zQ] at this
   cases hsj:ss[j]? with
   | none=>rw[hsj] at this;cases this
   | some s'=>rw[hsj] at this;simpa using this
  have hej:es[j]? = some e:=by rw[<- wB];exact f2
  have hrun:(execOp a.eval ⟨none,.mapUpdate tm x y z,ty,pos,af,none⟩).run P w=.ok .skip (setBlock w g (.map (es.modify j λe=>{ e with key:=.string s,val:=.agg vz }) clock)):=by
   simp [execOp,ex,ey,ez,Instr.mapUpdate,run_underlying hu,MapKept.run_getObj_map h2,run_checkKey (k:=.string s) hkt trivial,run_findKey hkt f1,run_setObj_map _ h2,Result.andThen,setBlock,hej,f3,run_keyThatStays (d:=.string) (k:=.string s) trivial]
  rw[hrun]
  have hmk:(es.modify j λe=>{ e with key:=.string s,val:=.agg vz }).toList.map (·.key)=ss.map .string:=by
   rw[j0,Sq (λe:MapEntry=>{ e with key:=.string s,val:=.agg vz }) (λe:MapEntry=>e.key) (λ_=>Value.string s) (λ_=>rfl),O3,hks,<- kQ]
   congr 1
   apply wE
   intro i
   rw[kL]
   by_cases hij:j=i
   ·subst hij;rw[if_pos rfl,if_pos (by omega),hsj]
   ·rw[if_neg hij]
  have hmv:(es.modify j λe=>{ e with key:=.string s,val:=.agg vz }).toList.map (·.val)=(vss.set j vz.toList).map Vm:=by
   rw[j0,Sq (λe:MapEntry=>{ e with key:=.string s,val:=.agg vz }) (λe:MapEntry=>e.val) (λ_=>Value.agg vz) (λ_=>rfl),O3,hvs,kQ]
   simp [Vm]
  have hl2:Anl (Rep w S) (css.set j ls) (vss.set j vz.toList):=⟨by simp [hlen],λi cs vs e1 e2=>by
   rw[kL] at e1 e2
   by_cases hij:j=i
   ·subst hij
    rw[if_pos rfl,if_pos (by omega)] at e1 e2
    obtain rfl:=zD e1
    obtain rfl:=zD e2
    exact hzl'
   ·rw[if_neg hij] at e1 e2
    exact h5.2 i cs vs e1 e2⟩
  obtain⟨H',r',_⟩:=r.setObj (mk':=J8 Vm (ss.map .string)) (css':=css.set j ls) (vss:=vss.set j vz.toList) (o:=.map (es.modify j λe=>{ e with key:=.string s,val:=.agg vz }) clock) hm rfl
   ⟨_,_,rfl,stamped_modify hst j _ (λ_ _=>rfl) (λe' _ he'=>by rw[hej] at he';cases he';exact f3.symm),hmk,hmv⟩ hl2
  exact hK _ _ (k1 j hsj _ _ _ _ r')
theorem Atu {tm kt et:TypeId} {x y:Operand} {g p:Nat} {ss:List ByteArray} {css:List (List Lf)} {s:ByteArray} (hu:P.underlying tm=some (.map kt et)) (hkt:P.underlying kt=some .string)
  (hx:B2 ⟨t,m⟩ x=.s (.one (.raw (.map (some g))))) (hy:B2 ⟨t,m⟩ y=.s (.one (.s s))) (hm:m[p]? = some (.obj g (J8 Vm (ss.map .string)) css))
  (k1:∀ j,ss[j]? = some s->AWL P c ops Q rest ⟨t,m.set p (.obj g (J8 Vm ((ss.eraseIdx j).map .string)) (css.eraseIdx j))⟩)
  (k2:s∉ss->AWL P c ops Q rest ⟨t,m.set p (.obj g (J8 Vm (ss.map .string)) css)⟩) {ats:Array TypeId} (hat:ats = #[tm,kt]) :
  AWL P c ops Q (⟨none,.call { callee:=.builtin .delete,args:=#[x,y],argTypes:=ats },ty,pos,af,none⟩::rest) ⟨t,m⟩:=by
 subst hat
 intro a w S H r
 obtain⟨h1,vss,o,h2,h3,⟨es,clock,rfl,hst,hks,hvs⟩,h5⟩:=r.bl p _ hm
 have ex:=Acm r hx
 have ey:=Aio r hy
 have hkey:=Aha hks
 have hlen:css.length=vss.length:=h5.1
 refine wpList_plain rfl λK hK=>?_
 unfold Oper.wp
 rcases findNow_spec (d:=.string) (k:=.string s) trivial es.toList 0 hkey with⟨f1,f2⟩|⟨j,e,f1,f2,f3⟩
 ·have hns:s∉ss:=λhs=>by
   have:Value.string s∈es.toList.map (·.key):=by rw[hks];exact z8.2 ⟨s,hs,rfl⟩
   obtain⟨e,he,hek⟩:=z8.1 this
   exact f2 e he hek
  have hrun:(execOp a.eval ⟨none,.call { callee:=.builtin .delete,args:=#[x,y],argTypes:=#[tm,kt] },ty,pos,af,none⟩).run P w=.ok (.value (.tuple #[])) (setBlock w g (.map es clock)):=by
   simp [execOp,resolve,invoke,builtin,ex,ey,Builtin.delete_,run_underlying hu,MapKept.run_getObj_map h2,run_checkKey (k:=.string s) hkt trivial,run_findKey hkt f1,run_setObj_map _ h2,Result.andThen,setBlock]
  rw[hrun]
  obtain⟨H',r',_⟩:=r.setObj (mk':=J8 Vm (ss.map .string)) (css':=css) (vss:=vss) (o:=.map es clock) hm rfl ⟨_,_,rfl,hst,hks,hvs⟩ h5
  exact hK _ _ (k2 hns _ _ _ _ r')
 ·rw[yK] at f1
  have hj:j<es.size:=by
   have:=(zB.1 f2).1
   simpa using this
  have hsj:ss[j]? = some s:=by
   have:(es.toList.map (·.key))[j]? = some (.string s):=by rw[zQ,f2];simp [f3]
   rw[hks,zQ] at this
   cases hsj:ss[j]? with
   | none=>rw[hsj] at this;cases this
   | some s'=>rw[hsj] at this;simpa using this
  have hrun:(execOp a.eval ⟨none,.call { callee:=.builtin .delete,args:=#[x,y],argTypes:=#[tm,kt] },ty,pos,af,none⟩).run P w=.ok (.value (.tuple #[])) (setBlock w g (.map (es.eraseIdxIfInBounds j) clock)):=by
   simp [execOp,resolve,invoke,builtin,ex,ey,Builtin.delete_,run_underlying hu,MapKept.run_getObj_map h2,run_checkKey (k:=.string s) hkt trivial,run_findKey hkt f1,run_setObj_map _ h2,Result.andThen,setBlock]
  rw[hrun]
  have herase:(es.eraseIdxIfInBounds j).toList=es.toList.eraseIdx j:=by
   unfold Array.eraseIdxIfInBounds
   rw[dif_pos hj,Array.toList_eraseIdx]
  obtain⟨H',r',_⟩:=r.setObj (mk':=J8 Vm ((ss.eraseIdx j).map .string)) (css':=css.eraseIdx j) (vss:=vss.eraseIdx j) (o:=.map (es.eraseIdxIfInBounds j) clock) hm rfl
   ⟨_,_,rfl,stamped_erase hst j,by rw[herase,Go.ChangeMaps.map_eraseIdx,hks,Go.ChangeMaps.map_eraseIdx],by rw[herase,Go.ChangeMaps.map_eraseIdx,hvs,Go.ChangeMaps.map_eraseIdx]⟩
   ⟨by rw[List.length_eraseIdx,List.length_eraseIdx,hlen],λi cs vs e1 e2=>by
    rw[List.getElem?_eraseIdx] at e1 e2
    by_cases hij:i<j
    ·rw[if_pos hij] at e1 e2;exact h5.2 i cs vs e1 e2
    ·rw[if_neg hij] at e1 e2;exact h5.2 (i+1) cs vs e1 e2⟩
  exact hK _ _ (k1 j hsj _ _ _ _ r')
theorem Amd {tm kt et:TypeId} {x:Operand} {g p:Nat} {ks:List Value} {css:List (List Lf)} {vof:List Value->Value} (hd:decide (d<c.nt)=true) (hu:P.underlying tm=some (.map kt et))
  (hx:B2 ⟨t,m⟩ x=.s (.one (.raw (.map (some g))))) (hm:m[p]? = some (.obj g (J8 vof ks) css))
  (k:∀ es clock q,Stamped es clock->es.toList.map (·.key)=ks->es.size=css.length ->
   AWL P c ops Q rest ⟨upd t d (.s (.one (.raw (.pointer (some ⟨q,0,none⟩))))),m.set p (.obj g (Adw vof es clock) css)++[.obj q (Aka g clock #[] clock) []]⟩) :
  AWL P c ops Q (⟨some d,.range tm x,ty,pos,af,none⟩::rest) ⟨t,m⟩:=by
 intro a w S H r
 obtain⟨h1,vss,o,h2,h3,⟨es,clock,rfl,hst,hks,hvs⟩,h5⟩:=r.bl p _ hm
 have ex:=Acm r hx
 refine wpList_plain rfl λK hK=>?_
 unfold Oper.wp
 have hrun:(execOp a.eval ⟨some d,.range tm x,ty,pos,af,none⟩).run P w=.ok (.value (.pointer (some ⟨w.heap.size,0,none⟩))) (w.alloc (.mapIter (some g) clock #[] clock)):=by
  simp [execOp,ex,run_range_map w tm kt et g es clock hu h2]
 rw[hrun]
 have hb:setBlock w g (.map es clock)=w:=by
  unfold setBlock
  have hlt:=(yA.1 h2).1
  have:w.heap.setIfInBounds g (.map es clock)=w.heap:=by
   apply Array.ext_getElem?
   intro i
   rw[kX]
   by_cases e:g=i
   ·subst e;rw[if_pos rfl,if_pos hlt,h2]
   ·rw[if_neg e]
  rw[this]
 obtain⟨H1,r1,_⟩:=r.setObj (mk':=Adw vof es clock) (css':=css) (vss:=vss) (o:=.map es clock) hm rfl ⟨rfl,hvs⟩ h5
 rw[hb] at r1
 have r2:=r1.newObj (o:=.mapIter (some g) clock #[] clock) (mk:=Aka g clock #[] clock) (vss:=[]) (css:=[]) rfl rfl ⟨rfl,λj cs vs h=>by simp at h⟩
 have hsz:es.size=css.length:=by
  have:=congrArg List.length hvs
  rw[h5.1];simpa using this
 exact hK _ _ (k es clock w.heap.size hst hks hsz _ _ _ _ (r2.put (d:=d) (x:=.s (.one (.raw (.pointer (some ⟨w.heap.size,0,none⟩))))) (of_decide_eq_true hd) (Fl (.raw _ rfl))))
theorem Arl {w:World} {S:Bz} {es:Array MapEntry} {css:List (List Lf)} {vss:List (List Value)} {ss:List ByteArray} (hks:es.toList.map (·.key)=ss.map .string) (hvs:es.toList.map (·.val)=vss.map Vm) (h5:Anl (Rep w S) css vss) {j:Nat} {e:MapEntry} (hj:es[j]? = some e) :
  ∃ s cs vs,ss[j]? = some s/\css[j]? = some cs/\LsR (Rep w S) cs vs/\e.key=.string s/\e.val=.agg vs.toArray:=by
 have hj':es.toList[j]? = some e:=by rw[wB];exact hj
 have h1:(ss.map Value.string)[j]? = some e.key:=by rw[<- hks,zQ,hj'];rfl
 have h2:(vss.map Vm)[j]? = some e.val:=by rw[<- hvs,zQ,hj'];rfl
 rw[zQ] at h1 h2
 cases hs:ss[j]? with
 | none=>rw[hs] at h1;cases h1
 | some s =>
 cases hv:vss[j]? with
 | none=>rw[hv] at h2;cases h2
 | some vs =>
 have hlt:j<css.length:=by rw[h5.1];exact(zB.1 hv).1
 rw[hs] at h1;rw[hv] at h2
 exact⟨s,_,vs,rfl,zC hlt,h5.2 j _ vs (zC hlt) hv,(zD h1).symm,(zD h2).symm⟩
theorem Ao1 {x:Operand} {g q p pi since c0:Nat} {es:Array MapEntry} {clock:Nat} {seen:Array Nat} {css:List (List Lf)} {ss:List ByteArray} (hd:decide (d<c.nt)=true)
  (hx:B2 ⟨t,m⟩ x=.s (.one (.raw (.pointer (some ⟨q,0,none⟩))))) (hm:m[p]? = some (.obj g (Adw Vm es clock) css)) (hi:m[pi]? = some (.obj q (Aka g since seen c0) [])) (hold:∀ x∈es.toList,x.born<since) (hsc:since<=c0)
  (hks:es.toList.map (·.key)=ss.map .string)
  (k0:(leftOf es seen).size=0->AWL P c ops Q rest ⟨upd t d (.tup [.one (.b false)]),m⟩)
  (k1:∀ (j:Nat) e s cs,es[j]? = some e->e∈(leftOf es seen).toList->ss[j]? = some s->css[j]? = some cs->AWL P c ops Q rest ⟨upd t d (.tup [.one (.b true),.one (.s s),.agg cs]),m.set pi (.obj q (Aka g since (seen.push e.born) clock) [])⟩) :
  AWL P c ops Q (⟨some d,.next x false,ty,pos,af,none⟩::rest) ⟨t,m⟩:=by
 intro a w S H r
 obtain⟨g1,vss,o,g2,g3,⟨rfl,hvs⟩,g5⟩:=r.bl p _ hm
 obtain⟨i1,vss2,o2,i2,i3,rfl,i5⟩:=r.bl pi _ hi
 have ex:a.eval x=.pointer (some ⟨q,0,none⟩):=by
  have h:=Ba r x
  rw[hx] at h
  exact Eu h
 have hrw:(execOp a.eval ⟨some d,.next x false,ty,pos,af,none⟩).run P w=((Instr.next (.pointer (some ⟨q,0,none⟩)) false ty).run P w).andThen λv w'=>.ok (.value v) w':=by
  simp [execOp,ex]
 refine wpList_plain rfl λK hK=>?_
 unfold Oper.wp
 rw[hrw]
 rcases run_next_at (P:=P) w ty q g since c0 seen es clock i2 g2 hold hsc with⟨h0,hr⟩|⟨e,he,w1,hw1,hr⟩
 ·rw[hr]
  exact hK _ _ (k0 h0 _ _ _ _ (r.put (d:=d) (x:=.tup [.one (.b false)]) (of_decide_eq_true hd) ⟨_,rfl,rfl,λj x u h1 h2=>by
   cases j with
   | zero=>obtain rfl:=zD h1;obtain rfl:=zD h2;exact Bt.of_rep (m:=m) (H:=H) (.b _)
   | succ j=>simp at h1⟩))
 ·rw[hr]
  have hmem:e∈es.toList:=by unfold leftOf at he;simp at he ⊢;exact he.1
  obtain⟨j,hj⟩:=xJ.1 hmem
  have hj':es[j]? = some e:=by rw[<- wB];exact hj
  have r1:Rel c ⟨t,m⟩ a w1 S H:=by
   rcases hw1 with rfl|rfl
   ·exact r
   ·exact r.ext (Ext.drew w S) (r.sl.ext (Ext.drew w S))
  obtain⟨g1',vss',o',g2',g3',⟨ho',hvs'⟩,g5'⟩:=r1.bl p _ hm
  obtain⟨s,cs,vs,e1,e2,e3,e4,e5⟩:=Arl hks hvs' g5' hj'
  obtain⟨H',r2,hk2⟩:=r1.setObj (mk':=Aka g since (seen.push e.born) clock) (css':=[]) (vss:=[]) (o:=.mapIter (some g) since (seen.push e.born) clock) hi rfl rfl ⟨rfl,λj cs vs h=>by simp at h⟩
  refine hK _ _ (k1 j e s cs hj' he e1 e2 _ _ _ _ (r2.put (d:=d) (x:=.tup [.one (.b true),.one (.s s),.agg cs]) (of_decide_eq_true hd) ⟨_,rfl,rfl,λi x u h1 h2=>?_⟩))
  match i with
  | 0=>obtain rfl:=zD h1;obtain rfl:=zD h2;exact Bt.of_rep (m:=m.set pi (.obj q (Aka g since (seen.push e.born) clock) [])) (H:=H') (.b _)
  | 1=>obtain rfl:=zD h1;obtain rfl:=zD h2;rw[e4];exact Bt.of_rep (m:=m.set pi (.obj q (Aka g since (seen.push e.born) clock) [])) (H:=H') (.s _)
  | 2=>obtain rfl:=zD h1;obtain rfl:=zD h2;rw[e5];exact⟨_,rfl,show LsR _ _ vs.toArray.toList from by rw[xA];exact e3.mono λl v h=>Bt.of_rep (Rep.mono hk2 h)⟩
  | i+3=>simp at h1
theorem Amr {x:Operand} {g q p pi since:Nat} {es:Array MapEntry} {clock:Nat} {seen:Array Nat} {css:List (List Lf)} {ss:List ByteArray} {j:Nat} {e:MapEntry} {s:ByteArray} {cs:List Lf} (hd:decide (d<c.nt)=true)
  (hx:B2 ⟨t,m⟩ x=.s (.one (.raw (.pointer (some ⟨q,0,none⟩))))) (hm:m[p]? = some (.obj g (Adw Vm es clock) css)) (hi:m[pi]? = some (.obj q (Aka g since (seen.push e.born) clock) [])) (hn:(es.toList.map (·.born)).Nodup)
  (hks:es.toList.map (·.key)=ss.map .string) (hj:es[j]? = some e) (hs:ss[j]? = some s) (hcs:css[j]? = some cs)
  (k:AWL P c ops Q rest ⟨upd t d (.tup [.one (.s s),.agg cs]),m⟩) :
  AWL P c ops Q (⟨some d,.entry x,ty,pos,af,none⟩::rest) ⟨t,m⟩:=by
 intro a w S H r
 obtain⟨g1,vss,o,g2,g3,⟨rfl,hvs⟩,g5⟩:=r.bl p _ hm
 obtain⟨i1,vss2,o2,i2,i3,rfl,i5⟩:=r.bl pi _ hi
 have ex:a.eval x=.pointer (some ⟨q,0,none⟩):=by
  have h:=Ba r x
  rw[hx] at h
  exact Eu h
 obtain⟨s',cs',vs,e1,e2,e3,e4,e5⟩:=Arl hks hvs g5 hj
 rw[hs] at e1;rw[hcs] at e2
 obtain rfl:=zD e1
 obtain rfl:=zD e2
 have hmem:e∈es.toList:=zG (i:=j) (by rw[wB];exact hj)
 have hrw:(execOp a.eval ⟨some d,.entry x,ty,pos,af,none⟩).run P w=.ok (.value (.tuple #[e.key,e.val])) w:=by
  simp [execOp,ex,run_entry_at w q g since seen es clock e i2 g2 hmem hn]
 refine wpList_plain rfl λK hK=>?_
 unfold Oper.wp
 rw[hrw]
 refine hK _ _ (k _ _ _ _ (r.put (d:=d) (x:=.tup [.one (.s s),.agg cs]) (of_decide_eq_true hd) ⟨_,rfl,rfl,λi x u h1 h2=>?_⟩))
 match i with
 | 0=>obtain rfl:=zD h1;obtain rfl:=zD h2;rw[e4];exact Bt.of_rep (m:=m) (H:=H) (.s _)
 | 1=>obtain rfl:=zD h1;obtain rfl:=zD h2;rw[e5];exact⟨_,rfl,show LsR _ _ vs.toArray.toList from by rw[xA];exact e3.mono λl v h=>Bt.of_rep h⟩
 | i+2=>simp at h1
end
open Go.RowKit Go.Shelf Go.Sort
open Go.Proofs (sortWorldK)
theorem Ame {R:Lf->Value->Prop}:∀ {a b:List Lf} {vs:List Value},LsR R (a++b) vs->LsR R a (vs.take a.length)/\LsR R b (vs.drop a.length):=λ{a b vs} h=>by
 obtain⟨h1,h2⟩:=h
 rw[zH] at h1
 refine⟨⟨by rw[zN];omega,λj l v e1 e2=>?_⟩,⟨by rw[yB];omega,λj l v e1 e2=>?_⟩⟩
 ·have hj:=(zB.1 e1).1
  rw[yF,if_pos hj] at e2
  exact h2 j l v (by rw[zK hj];exact e1) e2
 ·rw[yH] at e2
  exact h2 (a.length+j) l v (by rw[z2 (by omega)];simpa using e1) e2
theorem Aoo {R:Lf->Value->Prop} {a b:List Lf} {va vb:List Value} (ha:LsR R a va) (hb:LsR R b vb):LsR R (a++b) (va++vb):=by
 refine⟨by rw[zH,zH,ha.1,hb.1],λj l v e1 e2=>?_⟩
 rcases zU j a.length with hj|hj
 ·rw[zK hj] at e1
  rw[zK (by rw[<- ha.1];exact hj)] at e2
  exact ha.2 j l v e1 e2
 ·rw[z2 hj] at e1
  rw[z2 (by rw[<- ha.1];exact hj),<- ha.1] at e2
  exact hb.2 _ l v e1 e2
theorem Arp {α:Type} {f:α->List Lf} {R:Lf->Value->Prop}:∀ {xs:List α} {vals:List Value},LsR R (xs.flatMap f) vals->∃ d:List { p:α×List Value // LsR R (f p.1) p.2 },d.map (λp=>p.1.1)=xs/\d.flatMap (λp=>p.1.2)=vals
 | [],vals,h=>by
  have:vals=[]:=z7 h.1.symm
  exact⟨[],rfl,this.symm⟩
 | x::xs,vals,h=>by
  rw[yW] at h
  obtain⟨h1,h2⟩:=Ame h
  obtain⟨d,e1,e2⟩:=Arp h2
  refine⟨⟨(x,vals.take (f x).length),h1⟩::d,by rw[xO,e1],?_⟩
  rw[yW,e2]
  exact xI ..
theorem Al0 {α:Type} {f:α->List Lf} {R:Lf->Value->Prop}:∀ d:List { p:α×List Value // LsR R (f p.1) p.2 },LsR R ((d.map (λp=>p.1.1)).flatMap f) (d.flatMap (λp=>p.1.2))
 | []=>⟨rfl,λj l v h=>by simp at h⟩
 | p::d=>by
  rw[xO,yW,yW]
  exact Aoo p.2 (Al0 d)
theorem Apt {β γ:Type} {g:β->List γ} {k:Nat} (hk:∀ x,(g x).length=k) (xs:List β) {j i:Nat} (hi:i<k) (hj:j<xs.length):(xs.flatMap g)[j*k+i]? = (g xs[j])[i]? := by
 have e:(xs.flatMap g)[j*k+i]? = ((xs.flatMap g).drop (j*k))[i]? := by rw[yH]
 have h2:(xs.flatMap g).drop (j*k)=(xs.drop j).flatMap g:=by
  clear e hj
  induction xs generalizing j with
  | nil=>simp
  | cons a l ih =>
   cases j with
   | zero=>simp
   | succ j =>
    rw[yW,List.drop_append,List.drop_succ_cons,<- ih,hk]
    rw[List.drop_eq_nil_of_le (by rw[hk,jH];omega),wZ]
    congr 1
    rw[jH];omega
 rw[e,h2,wD hj,yW,zK (by rw[hk];exact hi)]
theorem Acb {β:Type} [Inhabited β] {enc:β->List Value} {k:Nat} (hk:∀ x,(enc x).length=k) (d:Array β):(flatK enc k d).toList=d.toList.flatMap enc:=by
 have hlen:(d.toList.flatMap enc).length=d.size*k:=by
  have:∀ l:List β,(l.flatMap enc).length=l.length*k:=λl=>by
   induction l with
   | nil=>simp
   | cons a l ih=>rw[yW,zH,ih,hk,xD,jH,j3]
  rw[this];simp
 apply List.ext_getElem
 ·rw[hlen];simp
 ·intro t h1 h2
  rw[hlen] at h2
  have k0:0<k:=by
   rcases kS k with h|h
   ·rw[h] at h2;simp at h2
   ·exact h
  have hj:t / k<d.size:=zAf (by rw[j5];exact h2)
  have hi:t % k<k:=zAe _ k0
  have ht:(flatK enc k d)[t]! = (flatK enc k d)[t]'(by simpa using h2):=getElem!_pos _ t _
  have e1:(flatK enc k d).toList[t]=(enc d[t / k])[t % k]'(by rw[hk];exact hi):=by
   rw[jV,<- ht,get_flatK enc k d t h2,getElem!_pos d _ hj,getElem!_pos _ _ (by rw[hk];exact hi)]
  have e2:=Apt hk d.toList (j:=t / k) hi (by simpa using hj)
  have e3:t / k*k+t % k=t:=by rw[j5];exact Nat.div_add_mod t k
  have e4:d.toList[t / k]'(by simpa using hj)=d[t / k]:=jV ..
  rw[e3,zC (by rw[hlen];exact h2),e4,zC (by rw[hk];exact hi)] at e2
  rw[e1,zD e2]
section
variable {β:Type} [Inhabited β] {enc:β->List Value} {k:Nat} {w:World} {b n:Nat} {d:Array β} {os:Array Obj} {cur:Array Value} {e:TypeId}
theorem As6 (hb:w.heap[b]? = some (.cells cur e (0,0))) (hd:d.size*k<=cur.size):(sortWorldK enc k w b 0 n d os).heap[b]? = some (.cells ((flatK enc k d).toList++cur.toList.drop (d.size*k)).toArray e (0,0)):=by
 have hlt:=(yA.1 hb).1
 have h1:(sortWorldK enc k w b 0 n d os).heap[b]? = (putRowK enc k (Sort.ahead w n) b 0 d).heap[b]? := by
  show((putRowK enc k (Sort.ahead w n) b 0 d).heap++os)[b]? = _
  rw[jC (by simp [putRowK,Sort.ahead];exact hlt)]
 rw[h1]
 show((Sort.ahead w n).heap.modify b _)[b]? = _
 rw[kD,if_pos rfl]
 show(w.heap[b]?).map _=_
 rw[hb]
 show some (Obj.cells (putCells id 0 (flatK enc k d) cur) e (0,0))=_
 congr 2
 apply Array.ext_getElem?
 intro i
 rw[putCells,Array.getElem?_mapIdx]
 simp only[size_flatK,zZ,true_and,yK,Nat.sub_zero,id]
 have hto:((flatK enc k d).toList++cur.toList.drop (d.size*k)).toArray[i]? = ((flatK enc k d).toList++cur.toList.drop (d.size*k))[i]? := List.getElem?_toArray ..
 rw[hto]
 rcases zU i (d.size*k) with hi|hi
 ·rw[zK (by simpa using hi),wB,zR (show i<cur.size by omega),zR (show i<(flatK enc k d).size by simpa using hi),xE,if_pos hi,getElem!_pos]
 ·rw[z2 (by simpa using hi),yH,wB,zX,size_flatK,show d.size*k+(i-d.size*k)=i by omega]
  cases cur[i]? with
  | none=>rfl
  | some v=>rw[xE,if_neg (by omega)]
theorem Ze {i:Nat} (hi:i<w.heap.size) (hne:i≠b):(sortWorldK enc k w b 0 n d os).heap[i]? = w.heap[i]? := by
 have h1:(sortWorldK enc k w b 0 n d os).heap[i]? = (putRowK enc k (Sort.ahead w n) b 0 d).heap[i]? := by
  show((putRowK enc k (Sort.ahead w n) b 0 d).heap++os)[i]? = _
  rw[jC (by simp [putRowK,Sort.ahead];exact hi)]
 rw[h1]
 show((Sort.ahead w n).heap.modify b _)[i]? = _
 rw[kD,if_neg (λh=>hne h.symm)]
 rfl
theorem Acj:w.heap.size<=(sortWorldK enc k w b 0 n d os).heap.size:=by
 show _<=((putRowK enc k (Sort.ahead w n) b 0 d).heap++os).size
 rw[yY]
 simp [putRowK,Sort.ahead]
end
theorem Awq {P:Program} {ρ:Ren} (L:Go.Proofs.SlLaysF0.n6 P ρ) {α:Type} {f:α->List Lf} {e sz g:Nat} (cf:α->α->Int) (hf:∀ x,(f x).length=sz) (hsz:0<sz)
  (aE:∀ w,(isAgg (ρ.t 24)).run P w=.ok true w) (zE:∀ w,(Go.sizeOf (ρ.t 24)).run P w=.ok sz w) (hO:SWO (Go.Proofs.ltOf cf)) (eg:∀ args w,(callFunc g args).run P w=.ok (.enter g args) w)
  (hg:∀ (W:World) (S:Bz) (x y:α) (vx vy:List Value),(∀ b i,S b i->b<W.heap.size)->LsR (Rep W S) (f x) vx->LsR (Rep W S) (f y) vy->Calls P g #[.agg vx.toArray,.agg vy.toArray] W λe w'=>e=.returned (.int .i64 (cf x y))/\∃ q os',w'=grow (W.drewN q) os')
  {xs ys:List α} (hn:xs.length<=1000000000000000000) (hys:∀ zs:List α,zs.Perm xs->zs.Pairwise (λa b=>Go.Proofs.ltOf cf b a=false)->zs=ys) :
  Cv P (ρ.f 6) [.arr e sz 0 (xs.flatMap f)] [.one (.ls 0 xs.length),.one (.raw (.func (.func g) #[] #[]))] (λy m'=>y=.tup []/\m'=[.arr e sz 0 (ys.flatMap f)]):=by
 intro w S H vs hin mem hvs
 obtain⟨hvl,hvr⟩:=hvs
 obtain⟨v0,v1,rfl⟩:∃ v0 v1,vs = #[v0,v1]:=by
  obtain⟨l⟩:=vs
  match l,hvl with
  | [a,b],_=>exact⟨a,b,rfl⟩
 have hv1:v1=.func (.func g) #[] #[]:=Eu (hvr 1 _ v1 rfl rfl)
 obtain⟨_,_,hv0⟩:=(show Df w S [.arr e sz 0 (xs.flatMap f)] H (.ls 0 xs.length) v0 from hvr 0 _ v0 rfl rfl)
 have hv0:=(hv0 e sz 0 _ rfl).2 (Aq hf xs).symm
 obtain⟨_,_,n',vals,hown,hls,_⟩:=mem.bl 0 _ rfl
 have hn':n'=xs.length:=L0 hown hsz (by rw[<- hls.1,Aq hf])
 subst hn'
 have hin':=hin
 subst hv1
 have none0:xs.length=0->(∃ p cap,v0=.slice p 0 cap)->Calls P (ρ.f 6) #[v0,.func (.func g) #[] #[]] w λe' w'=>∃ v x m' S' H',e'=.returned v/\(x=.tup []/\m'=[.arr e sz 0 (ys.flatMap f)])/\Vt (Ady [.arr e sz 0 (xs.flatMap f)] H) w S w' S'/\InH w' S'/\Mem w' S' m' H' /\
   (∀ (p:Nat) (b:Blk) (g:Nat),m'[p]? = some b->b.own (H' p)=some g->w.heap.size<=g\/Ady [.arr e sz 0 (xs.flatMap f)] H g)/\Axi [.arr e sz 0 (xs.flatMap f)] H m' H'/\AVR (Bt w' S' m' H') x v:=λh0 ⟨p,cap,hp⟩=>by
  have hx:xs=[]:=z7 h0
  have hy:ys=xs:=(hys xs (List.Perm.refl _) (by rw[hx];exact List.Pairwise.nil)).symm
  subst hp
  refine(Go.Proofs.AnyF.slices_SortFunc_none { L with } p cap _ w).mono ?_
  rintro e' w' ⟨rfl,rfl⟩
  rw[hy]
  exact⟨_,.tup [],_,S,H,rfl,⟨rfl,rfl⟩,Vt.refl _ _ _,hin,mem,λp b g hb ho=>.inr ⟨p,b,hb,ho⟩,⟨zO _,λ_ _ _ _=>rfl,λp e' sz' k cs _ hm=>⟨k,cs,hm,.inl ⟨rfl,rfl⟩⟩,λ_ _ h=>h⟩,H8⟩
 rcases hown.2 with⟨hH,h0⟩|⟨blk,cap,cur,hH,_,hheap,hcap,hmax,hcs,hvals⟩
 ·exact none0 h0 ⟨none,0,hv0.trans hH⟩
 rcases kS xs.length with h0|hpos
 ·exact none0 h0 ⟨_,_,by rw[hv0,hH,h0]⟩
 obtain⟨d,hd1,hd2⟩:=Arp hls
 have hdl:d.length=xs.length:=by rw[<- hd1,zY]
 obtain⟨p0,hp0⟩:∃ p0,d[0]? = some p0:=⟨_,zC (by omega)⟩
 let β:={ p:α×List Value // LsR (Rep w S) (f p.1) p.2 }
 let _:Inhabited β:=⟨p0⟩
 let enc:β->List Value:=λp=>p.1.2
 have hk:∀ x:β,(enc x).length=sz:=λx=>by rw[<- x.2.1,hf]
 have h1:∀ x:β,∀ v∈enc x,v.oneCell'=true:=λx v hv=>by
  obtain⟨j,hj⟩:=xJ.1 hv
  have hjl:j<(f x.1.1).length:=by rw[x.2.1];exact(zB.1 hj).1
  exact Rep.oneCell (x.2.2 j _ v (zC hjl) hj)
 have hblk:blk<w.heap.size:=(yA.1 hheap).1
 have hnoS:∀ i,¬ S blk i:=λi hi=>absurd (mem.sb 0 _ blk i rfl (by show Cz (H 0)=_;rw[hH];rfl) hi) (zW _)
 have hflat:(flatK enc sz d.toArray).toList=vals:=by rw[Acb hk];exact hd2
 have hcurlen:d.toArray.size*sz<=cur.size:=by
  rw[hcs];simp only[yE,hdl];exact yZ _ hcap
 have hH':HoldsK enc sz w blk 0 d.toArray:=λj hj=>by
  rw[size_flatK,yE] at hj
  have hjv:j<vals.length:=by rw[<- hls.1,Aq hf,<- hdl];exact hj
  have hval:(flatK enc sz d.toArray)[j]! = vals[j]:=by
   rw[getElem!_pos _ _ (by rw[size_flatK,yE];exact hj),<- jV]
   simp only[hflat]
  have hcur:cur.toList[j]? = some vals[j]:=by
   have:(cur.toList.take (xs.length*sz))[j]? = some vals[j]:=by rw[hvals,zC hjv]
   rw[yF] at this
   split at this
   ·exact this
   ·cases this
  refine⟨?_,?_⟩
  ·rw[yK,cell_of_row w _ _ cur e (0,0) hheap,hval]
   simpa using hcur
  ·rw[yK]
   unfold World.frozen?
   rw[hheap]
   simp
 have hcmp:Go.Proofs.CmpLays P g #[] enc sz (λx y:β=>cf x.1.1 y.1.1) blk 0 d.toArray.size w:=λm os dk hdk x y=>by
  have hkeep:∀ b i,S b i->S b i/\(sortWorldK enc sz w blk 0 m dk os).cell? ⟨b,i,none⟩=w.cell? ⟨b,i,none⟩:=λb i hs =>
   ⟨hs,World.cell?_of_block (w:=w) (Ze (hin.1 b i hs) λe=>hnoS i (e ▸ hs))⟩
  have:=hg (sortWorldK enc sz w blk 0 m dk os) S x.1.1 y.1.1 x.1.2 y.1.2 (λb i hs=>z6 (hin.1 b i hs) Acj) (x.2.mono λl v=>Rep.mono hkeep) (y.2.mono λl v=>Rep.mono hkeep)
  simpa using this
 have hO':SWO (Go.Proofs.ltOf (λx y:β=>cf x.1.1 y.1.1)):=⟨λx=>hO.irrefl x.1.1,λx y z=>hO.trans x.1.1 y.1.1 z.1.1,λx y z=>hO.ntrans x.1.1 y.1.1 z.1.1⟩
 have hcon:=Go.Proofs.AnyQ.slices_SortFunc L sz aE zE enc hk h1 (λx y:β=>cf x.1.1 y.1.1) hO' g #[] blk 0 cap d.toArray w eg hcmp hH' hblk (by rw[yE,hdl];omega)
 rw[hv0,hH]
 rw[yE,hdl] at hcon
 refine hcon.mono ?_
 rintro e' w' ⟨rfl,d',n2,os,hperm,hsort,rfl⟩
 obtain⟨hps,_,hpp⟩:=hperm
 have hds:d'.size=xs.length:=by rw[hps,yE,hdl]
 have hpl:d'.toList.Perm d:=by
  have e1:d'.extract 0 xs.length=d':=by rw[<- hds];simp
  have e2:d.toArray.extract 0 xs.length=d.toArray:=by rw[<- hdl];simp
  rw[e1,e2] at hpp
  simpa using hpp
 have hz:d'.toList.map (λp=>p.1.1)=ys:=by
  refine hys _ ?_ ?_
  ·rw[<- hd1];exact hpl.map _
  ·rw[wF]
   refine yN.2 λi j hi hj hij=>?_
   rw[zX] at hi hj
   have:=hsort i j (zZ _) hij (by omega)
   rw[getElem!_pos d' j (by omega),getElem!_pos d' i (by omega)] at this
   exact this
 have hyl:ys.length=xs.length:=by rw[<- hz,zY,zX,hds]
 have hsame:=As6 (enc:=enc) (k:=sz) (n:=n2) (d:=d') (os:=os) hheap (by rw[hds];rw[yE,hdl] at hcurlen;exact hcurlen)
 have hkeep:∀ b i,S b i->S b i/\(sortWorldK enc sz w blk 0 n2 d' os).cell? ⟨b,i,none⟩=w.cell? ⟨b,i,none⟩:=λb i hs =>
  ⟨hs,World.cell?_of_block (w:=w) (Ze (hin.1 b i hs) λe=>hnoS i (e ▸ hs))⟩
 have hin2:InH (sortWorldK enc sz w blk 0 n2 d' os) S:=hin.turn (·=blk) (λg i e hs=>absurd (e ▸ hs) (hnoS i)) (λq hq hne=>Ze hq hne) Acj λb i hs=>(hkeep b i hs).2
 have hlenv:(d'.toList.flatMap enc).length=xs.length*sz:=by rw[<- Acb hk,zX,size_flatK,hds]
 have hownX:Ady [.arr e sz 0 (xs.flatMap f)] H blk:=⟨0,_,rfl,by show Cz (H 0)=_;rw[hH];rfl⟩
 refine⟨_,.tup [],[.arr e sz 0 (ys.flatMap f)],S,H,rfl,⟨rfl,rfl⟩,⟨rfl,rfl,rfl,Acj,λb hb hx=>Ze hb λe=>hx (e ▸ hownX),λb i hs=>hs,λb i hs=>(hkeep b i hs).2,λb i _ _ hs=>hs⟩,hin2,⟨λp b hb=>?_,λp b g' hb ho=>?_,λp q b b' g' hb hb' _ _=>?_,λp b g' i hb ho hs=>?_⟩,λp b g' hb ho=>?_,⟨zO _,λ_ _ _ _=>rfl,λp e' sz' k' cs' hp hm=>?_,λ_ _ h=>h⟩,H8⟩
 ·match p with
  | 0 =>
   obtain rfl:=zD hb
   refine⟨hsz,zZ _,xs.length,d'.toList.flatMap enc,⟨hlenv,.inr ⟨blk,cap,_,hH,zZ _,hsame,hcap,hmax,?_,?_⟩⟩,?_,λg' _ i hi=>absurd hi (zW _)⟩
   ·rw[yE,zH,zX,size_flatK,yB,zX,hds,hcs]
    have:=yZ sz hcap
    omega
   ·rw[Acb hk,xA,xY (by rw[hlenv];exact zO _),<- hlenv,yJ]
   ·rw[<- hz]
    exact(Al0 d'.toList).mono λl v=>Rep.mono hkeep
  | p+1=>simp at hb
 ·match p with
  | 0 =>
   obtain rfl:=zD hb
   have hg':Cz (H 0)=some g':=ho
   rw[hH] at hg'
   obtain rfl:blk=g':=by simpa [Cz] using hg'
   exact z6 hblk Acj
  | p+1=>simp at hb
 ·match p,q with
  | 0,0=>rfl
  | 0,q+1=>simp at hb'
  | p+1,_=>simp at hb
 ·match p with
  | 0 =>
   obtain rfl:=zD hb
   have hg':Cz (H 0)=some g':=ho
   rw[hH] at hg'
   obtain rfl:blk=g':=by simpa [Cz] using hg'
   exact absurd hs (hnoS i)
  | p+1=>simp at hb
 ·match p with
  | 0 =>
   obtain rfl:=zD hb
   exact .inr ⟨0,_,rfl,ho⟩
  | p+1=>simp at hb
 ·match p with
  | 0 =>
   obtain⟨rfl,rfl,rfl,rfl⟩:e=e'/\sz=sz'/\0=k'/\ys.flatMap f=cs':=by simpa using hm
   exact⟨0,_,rfl,.inl ⟨by rw[Aq hf,Aq hf,hyl],rfl⟩⟩
  | p+1=>simp at hp
open Go.RowKit
theorem Ah7 {ls:List Lf} (h:Aff (.int .i64) ls):∃ n:Int,(-9223372036854775808<=n/\n<=9223372036854775807)/\ls=eI n:=by
 obtain⟨n,hw,rfl⟩:=h
 exact⟨n,Ar8 hw,rfl⟩
theorem Aww {k:IntKind} {n:Int} (h:(Lit.int k n).wf=true):k.min<=n/\n<=k.max:=by
 simp only[Lit.wf,zS,decide_eq_true_eq] at h
 exact h
theorem Apl {ls:List Lf} (h:Aff (.int .u8) ls):∃ a:UInt8,True/\ls=eU8 a:=by
 obtain⟨n,hw,rfl⟩:=h
 obtain⟨h1,h2⟩:=Aww hw
 simp [IntKind.min,IntKind.max,IntKind.bits,IntKind.signed] at h1 h2
 refine⟨UInt8.ofNat n.toNat,trivial,?_⟩
 show _=[Lf.i .u8 _]
 rw[show((UInt8.ofNat n.toNat).toNat:Int)=n by rw[UInt8.toNat_ofNat'];omega]
theorem Agc {ls:List Lf} (h:Aff .bool ls):∃ b:Bool,True/\ls=eB b:=by
 obtain⟨b,rfl⟩:=h
 exact⟨b,trivial,rfl⟩
theorem Al3 {α:Type} {e:Sh} {f:α->List Lf} {Q:α->Prop} (he:∀ {r},Aff e r->∃ x,Q x/\r=f x) {ls:List Lf} (h:Aff (.sl e) ls):∃ xs:List α,(xs.length<=maxLen/\∀ x∈xs,Q x)/\ls=eL f xs:=by
 obtain⟨rows,hl,hr,rfl⟩:=h
 have:∃ xs:List α,(∀ x∈xs,Q x)/\rows=xs.map f:=by
  clear hl
  induction rows with
  | nil=>exact⟨[],λ_ h=>by simp at h,rfl⟩
  | cons r rs ih =>
   obtain⟨x,hq,hx⟩:=he (hr r (yR ..))
   obtain⟨xs,hqs,hxs⟩:=ih (λr h=>hr r (yQ _ h))
   exact⟨x::xs,λy hy=>by rcases yM.1 hy with rfl|hy;exact hq;exact hqs y hy,by rw[hx,hxs];rfl⟩
 obtain⟨xs,hq,rfl⟩:=this
 exact⟨xs,⟨by simpa using hl,hq⟩,by rw[eL,List.flatMap,zY]⟩
theorem X3 {n:Int} (h1:-9223372036854775808<=n) (h2:n<=9223372036854775807):wI n=n:=by
 unfold wI IntKind.wrap
 simp [IntKind.bits,IntKind.signed]
 omega
theorem Bs {n:Nat} (h:n<=1000000000000000000):n<fuel:=by unfold fuel;omega
theorem A3 {α:Type} (xs:List α) (i:Nat):idx xs (i:Int)=xs[i]? := by
 unfold idx
 rw[if_pos (xV i),zT]
theorem Asi {α:Type} {xs:List α} {j:Int} (h0:0<=j) (h1:j<xs.length):∃ x,idx xs j=some x/\xs[j.toNat]? = some x:=by
 have h:j.toNat<xs.length:=by omega
 exact⟨xs[j.toNat],by unfold idx;rw[if_pos h0,zC h],zC h⟩
theorem Awn {α:Type} {xs:List α} {j:Int} {x:α} (h0:0<=j) (h:xs[j.toNat]? = some x):idx xs j=some x:=by
 unfold idx
 rw[if_pos h0,h]
theorem Aaw {α:Type} {xs:List α} {lo hi:Int} (h0:0<=lo) (h1:lo<=hi) (h2:hi<=xs.length):cut xs lo hi=some ((xs.drop lo.toNat).take (hi.toNat-lo.toNat)):=by
 unfold cut
 rw[if_pos ⟨h0,h1,h2⟩]
theorem Cj {σ β:Type} {f:σ->Option (LB σ β)} {P:σ->Prop} {μ:σ->Nat} {R:β->Prop}
  (h:∀ s,P s->(∃ s',f s=some (.cont s')/\P s'/\μ s'<μ s)\/∃ b,f s=some (.brk b)/\R b):∀ (n:Nat) (s:σ),P s->μ s<n->∃ b,B8 f n s=some b/\R b
 | 0,s,_,hm=>by omega
 | n+1,s,hp,hm=>by
  rcases h s hp with⟨s',hf,hp',hlt⟩|⟨b,hf,hr⟩
  ·obtain⟨b,hb,hr⟩:=Cj h n s' hp' (by omega)
   exact⟨b,by rw[B8,hf];exact hb,hr⟩
  ·exact⟨b,by rw[B8,hf],hr⟩
theorem Cr {σ β ρ:Type} {f:σ->Option (LR σ β ρ)} {P:σ->Prop} {μ:σ->Nat} {R:Sum ρ β->Prop}
  (h:∀ s,P s->(∃ s',f s=some (.cont s')/\P s'/\μ s'<μ s)\/(∃ b,f s=some (.brk b)/\R (.inr b))\/∃ r,f s=some (.ret r)/\R (.inl r)):∀ (n:Nat) (s:σ),P s->μ s<n->∃ b,Gj f n s=some b/\R b
 | 0,s,_,hm=>by omega
 | n+1,s,hp,hm=>by
  rcases h s hp with⟨s',hf,hp',hlt⟩|⟨b,hf,hr⟩|⟨b,hf,hr⟩
  ·obtain⟨b,hb,hr⟩:=Cr h n s' hp' (by omega)
   exact⟨b,by rw[Gj,hf];exact hb,hr⟩
  ·exact⟨.inr b,by rw[Gj,hf],hr⟩
  ·exact⟨.inl b,by rw[Gj,hf],hr⟩
theorem Uq {α σ β τ:Type} {f:τ->Option (LB τ β)} (st:σ->Nat->τ) (xs:List α) (g:σ->α->σ) (out:σ->β) (hl:xs.length<1000000000000000000000000)
  (h1:∀ acc i x,xs[i]? = some x->f (st acc i)=some (.cont (st (g acc x) (i+1)))) (h2:∀ acc,f (st acc xs.length)=some (.brk (out acc))) (a0:σ):B8 f fuel (st a0 0)=some (out (xs.foldl g a0)):=by
 have key:∀ (k i:Nat) (acc:σ) (n:Nat),k+i=xs.length->k<n->B8 f n (st acc i)=some (out ((xs.drop i).foldl g acc)):=by
  intro k
  induction k with
  | zero =>
   intro i acc n hi hn
   obtain⟨m,rfl⟩:∃ m,n=m+1:=⟨n-1,by omega⟩
   have:i=xs.length:=by omega
   subst this
   rw[B8,h2,jW]
   rfl
  | succ k ih =>
   intro i acc n hi hn
   obtain⟨m,rfl⟩:∃ m,n=m+1:=⟨n-1,by omega⟩
   have hlt:i<xs.length:=by omega
   rw[B8,h1 acc i xs[i] (zC hlt),wD hlt,kO]
   exact ih (i+1) _ m (by omega) (by omega)
 have:=key xs.length 0 a0 fuel (by omega) hl
 rwa [List.drop_zero] at this
theorem T3 (x y:UInt8):x<y\/x=y\/y<x:=by
 rcases kN x.toNat y.toNat with h|h|h
 ·exact .inl (xK.2 h)
 ·exact .inr (.inl (UInt8.toNat_inj.1 h))
 ·exact .inr (.inr (xK.2 h))
theorem Lc {x y:UInt8} (h:x<y):¬ y<x:=λh'=>by
 have:=xK.1 h
 have:=xK.1 h'
 omega
theorem Ab3 {x y z:UInt8} (h:x<y) (h':y<z):x<z:=by
 have h1:=xK.1 h
 have h2:=xK.1 h'
 exact xK.2 (by omega)
theorem cmpL_self:∀ a:List UInt8,Dp a a=0
 | []=>rfl
 | x::xs=>by unfold Dp;rw[if_neg (xB x),if_neg (xB x)];exact cmpL_self xs
theorem Sc:∀ a b:List UInt8,Dp a b = -Dp b a
 | [],[]=>rfl
 | [],_::_=>rfl
 | _::_,[]=>rfl
 | x::xs,y::ys=>by
  unfold Dp
  rcases T3 x y with h|h|h
  ·rw[if_pos h,if_neg (Lc h),if_pos h]
  ·subst h
   rw[if_neg (xB x),if_neg (xB x),if_neg (xB x),if_neg (xB x)];exact Sc xs ys
  ·rw[if_neg (Lc h),if_pos h,if_pos h];rfl
theorem Sm:∀ {a b:List UInt8},Dp a b=0->a=b
 | [],[],_=>rfl
 | [],_::_,h=>by cases h
 | _::_,[],h=>by cases h
 | x::xs,y::ys,h=>by
  unfold Dp at h
  rcases T3 x y with h1|h1|h1
  ·rw[if_pos h1] at h;cases h
  ·subst h1
   rw[if_neg (xB x),if_neg (xB x)] at h
   rw[Sm h]
  ·rw[if_neg (Lc h1),if_pos h1] at h;cases h
theorem Ks:∀ {a b c:List UInt8},Dp a b<=0->Dp b c<=0->Dp a c<=0/\(Dp a b<0\/Dp b c<0->Dp a c<0)
 | [],b,[],h1,h2=>⟨xQ _,λh=>by
   cases b with
   | nil=>rcases h with h | h <;> simp [Dp] at h
   | cons y ys=>simp [Dp] at h2⟩
 | [],_,_::_,_,_=>⟨by simp [Dp],λ_=>by simp [Dp]⟩
 | _::_,[],_,h1,_=>by simp [Dp] at h1
 | _::_,_::_,[],_,h2=>by simp [Dp] at h2
 | x::xs,y::ys,z::zs,h1,h2=>by
  unfold Dp at h1 h2 ⊢
  rcases T3 x y with e1|e1|e1
  ·rcases T3 y z with e2|e2|e2
   ·rw[if_pos (Ab3 e1 e2)];exact⟨by decide,λ_=>by decide⟩
   ·subst e2;rw[if_pos e1];exact⟨by decide,λ_=>by decide⟩
   ·rw[if_neg (Lc e2),if_pos e2] at h2;exact absurd h2 (by decide)
  ·subst e1
   rw[if_neg (xB x),if_neg (xB x)] at h1 ⊢
   rcases T3 x z with e2|e2|e2
   ·rw[if_pos e2];exact⟨by decide,λ_=>by decide⟩
   ·subst e2
    simp only[xB,if_false] at h2 ⊢
    exact Ks h1 h2
   ·rw[if_neg (Lc e2),if_pos e2] at h2;exact absurd h2 (by decide)
  ·rw[if_neg (Lc e1),if_pos e1] at h1;exact absurd h1 (by decide)
theorem Zo {a b:List UInt8}:0<=Dp a b↔Dp b a<=0:=by rw[Sc a b];omega
open Go.Sort
def Aux {α:Type} (kf:α->List UInt8) (x:α):List α->List α
 | []=>[x]
 | y::l=>if Dp (kf x) (kf y)<0 then x::y::l else y::Aux kf x l
def Acx {α:Type} (kf:α->List UInt8):List α->List α
 | []=>[]
 | x::l=>Aux kf x (Acx kf l)
def Li {α:Type} (kf:α->List UInt8) (l:List α):Prop:=l.Pairwise (λa b=>Dp (kf a) (kf b)<0)
def Hz {α:Type} (kf:α->List UInt8) (l:List α):Prop:=l.Pairwise (λa b=>kf a≠kf b)
section
variable {α:Type} {kf:α->List UInt8}
theorem Zu (x:α):∀ l:List α,(Aux kf x l).Perm (x::l)
 | []=>List.Perm.refl _
 | y::l=>by
  unfold Aux
  split
  ·exact List.Perm.refl _
  ·exact((Zu x l).cons y).trans (List.Perm.swap x y l)
theorem J6:∀ l:List α,(Acx kf l).Perm l
 | []=>List.Perm.refl _
 | x::l=>(Zu x (Acx kf l)).trans ((J6 l).cons x)
theorem Ad8 {x:α}:∀ {l:List α},Li kf l->(∀ y∈l,kf x≠kf y)->Li kf (Aux kf x l)
 | [],_,_=>wT _ _
 | y::l,h,hd=>by
  obtain⟨h1,h2⟩:=xP.1 h
  unfold Aux
  split
  ·rename_i hlt
   refine xP.2 ⟨λz hz=>?_,h⟩
   rcases yM.1 hz with rfl|hz
   ·exact hlt
   ·exact(Ks (by omega) (jA (h1 z hz))).2 (.inl hlt)
  ·rename_i hge
   refine xP.2 ⟨λz hz=>?_,Ad8 h2 λz hz=>hd z (yQ _ hz)⟩
   rcases yM.1 ((Zu x l).mem_iff.1 hz) with rfl|hz
   ·have h3:=Zo.1 (show 0<=Dp (kf z) (kf y) by omega)
    rcases Int.lt_or_eq_of_le h3 with h|h
    ·exact h
    ·exact absurd (Sm h).symm (hd y (yR ..))
   ·exact h1 z hz
theorem Hz.perm {a b:List α} (h:a.Perm b):Hz kf a↔Hz kf b:=h.pairwise_iff λh=>Ne.symm h
theorem Sn:∀ {l:List α},Hz kf l->Li kf (Acx kf l)
 | [],_=>List.Pairwise.nil
 | x::l,h=>by
  obtain⟨h1,h2⟩:=xP.1 h
  exact Ad8 (Sn h2) λy hy=>h1 y ((J6 l).mem_iff.1 hy)
theorem Li.dist {l:List α} (h:Li kf l):Hz kf l:=h.imp λh e=>by rw[e,cmpL_self] at h;exact absurd h (by decide)
theorem Aap {a b:List α} (ha:Li kf a) (hb:Li kf b) (h:a.Perm b):a=b :=
 List.Perm.eq_of_pairwise (le:=λa b=>Dp (kf a) (kf b)<0) (λa b _ _ h1 h2=>by rw[Sc] at h2;omega) ha hb h
theorem Wr {l:List α} (h:Hz kf l):l.Nodup:=h.imp λh e=>h (by rw[e])
theorem Aod {a b:List α} (ha:Li kf a) (hb:Li kf b) (h:∀ x,x∈a↔x∈b):a=b :=
 Aap ha hb ((List.perm_ext_iff_of_nodup (Wr ha.dist) (Wr hb.dist)).2 h)
theorem Ahp {l:List α} {x:α}:x∈Acx kf l↔x∈l:=(J6 l).mem_iff
theorem Ai6 {a b:List α} (h:a.Perm b) (hd:Hz kf a):Acx kf a=Acx kf b:=Aap (Sn hd) (Sn ((Hz.perm h).1 hd)) (((J6 a).trans h).trans (J6 b).symm)
theorem A0h:SWO (Go.Proofs.ltOf λa b:α=>Dp (kf a) (kf b)):=by
 refine⟨λx=>?_,λx y z h1 h2=>?_,λx y z h1 h2=>?_⟩
 ·unfold Go.Proofs.ltOf;rw[decide_eq_false_iff_not];dsimp only;rw[cmpL_self];decide
 ·unfold Go.Proofs.ltOf at *
  dsimp only at *
  rw[decide_eq_true_eq] at *
  exact(Ks (jA h1) (jA h2)).2 (.inl h1)
 ·unfold Go.Proofs.ltOf at *
  dsimp only at *
  rw[decide_eq_false_iff_not] at *
  have h3:=Zo.1 (show 0<=Dp (kf x) (kf y) by omega)
  have h4:=Zo.1 (show 0<=Dp (kf y) (kf z) by omega)
  have:=Zo.2 (Ks h4 h3).1
  omega
theorem Ajj {xs:List α} (hd:Hz kf xs) (zs:List α) (hp:zs.Perm xs) (hs:zs.Pairwise (λa b=>Go.Proofs.ltOf (λa b:α=>Dp (kf a) (kf b)) b a=false)):zs=Acx kf xs:=by
 have hdz:Hz kf zs:=(Hz.perm hp).2 hd
 refine Aap ?_ (Sn hd) (hp.trans (J6 xs).symm)
 refine(List.Pairwise.and hs hdz).imp λ⟨h1,h2⟩=>?_
 unfold Go.Proofs.ltOf at h1
 rw[decide_eq_false_iff_not] at h1
 have h3:=Zo.1 (Int.not_lt.1 h1)
 rcases Int.lt_or_eq_of_le h3 with h|h
 ·exact h
 ·exact absurd (Sm h) h2
def Sb (kf:α->List UInt8) (t:List α) (x:α):List α:=x::t.filter (λy=>!(kf y==kf x))
def Yw (kf:α->List UInt8) (t:List α) (k:List UInt8):List α:=t.filter (λy=>!(kf y==k))
theorem Akv {t:List α} (hd:Hz kf t) {j:Nat} {k:List UInt8} (hj:(t.map kf)[j]? = some k):t.filter (λy=>!(kf y==k))=t.eraseIdx j:=by
 induction t generalizing j with
 | nil=>simp at hj
 | cons y l ih =>
  obtain⟨h1,h2⟩:=xP.1 hd
  cases j with
  | zero =>
   have hk:kf y=k:=by simpa using hj
   rw[jI,if_neg (by simp [hk]),List.eraseIdx_cons_zero,List.filter_eq_self]
   intro z hz
   have:=h1 z hz
   rw[hk] at this
   simp [Ne.symm this]
  | succ j =>
   rw[xO,jL] at hj
   have hm:k∈l.map kf:=zG hj
   obtain⟨z,hz,hzk⟩:=z8.1 hm
   have hne:kf y≠k:=by rw[<- hzk];exact h1 z hz
   rw[jI,if_pos (by simp [hne]),ih h2 hj,List.eraseIdx_cons_succ]
theorem Aak {t:List α} {k:List UInt8} (hk:k∉t.map kf):t.filter (λy=>!(kf y==k))=t:=by
 rw[List.filter_eq_self]
 intro y hy
 have:kf y≠k:=λe=>hk (z8.2 ⟨y,hy,e⟩)
 simp [this]
theorem Aqg {t:List α} {j:Nat} (x:α) (hj:j<t.length):(t.set j x).Perm (x::t.eraseIdx j):=by
 rw[kP,if_pos hj,List.eraseIdx_eq_take_drop_succ]
 exact List.perm_middle
theorem Acf {t t':List α} (hp:t'.Perm t) (hd:Hz kf t') {j:Nat} {x:α} (hj:(t'.map kf)[j]? = some (kf x)):(t'.set j x).Perm (Sb kf t x)/\(t'.set j x).map kf=t'.map kf/\Hz kf (t'.set j x):=by
 have hlt:j<t'.length:=by simpa using(zB.1 hj).1
 have e:(t'.set j x).map kf=t'.map kf:=by
  rw[kQ]
  apply wE
  intro i
  rw[kL]
  by_cases h:j=i
  ·subst h;rw[if_pos rfl,if_pos (by simpa using hlt),hj]
  ·rw[if_neg h]
 refine⟨(Aqg x hlt).trans ?_,e,?_⟩
 ·unfold Sb
  rw[<- Akv hd hj]
  exact(hp.filter _).cons x
 ·unfold Hz at *
  have:=(wF (f:=kf) (R:=(·≠·)) (l:=t')).2 hd
  rw[<- e] at this
  exact wF.1 this
theorem Aif {t t':List α} (hp:t'.Perm t) (hd:Hz kf t') {x:α} (hx:kf x∉t'.map kf):(t'++[x]).Perm (Sb kf t x)/\Hz kf (t'++[x]):=by
 have hx':kf x∉t.map kf:=λh=>hx ((hp.map kf).mem_iff.2 h)
 refine⟨?_,?_⟩
 ·unfold Sb
  rw[Aak hx']
  exact(List.perm_append_comm.trans (List.Perm.refl _)).trans (hp.cons x)
 ·refine wN.2 ⟨hd,wT _ _,λa ha b hb=>?_⟩
  rw[zP.1 hb]
  exact λe=>hx (z8.2 ⟨a,ha,e⟩)
theorem At7 {t t':List α} (hp:t'.Perm t) (hd:Hz kf t') {j:Nat} {k:List UInt8} (hj:(t'.map kf)[j]? = some k):(t'.eraseIdx j).Perm (Yw kf t k)/\Hz kf (t'.eraseIdx j):=by
 refine⟨?_,hd.sublist (List.eraseIdx_sublist ..)⟩
 unfold Yw
 rw[<- Akv hd hj]
 exact hp.filter _
theorem Al1 {t t':List α} (hp:t'.Perm t) {k:List UInt8} (hk:k∉t'.map kf):t'.Perm (Yw kf t k):=by
 unfold Yw
 rw[Aak λh=>hk ((hp.map kf).mem_iff.2 h)]
 exact hp
end
theorem Ape {α:Type} (l:List α):(List.range l.length).filterMap (l[·]?)=l:=by
 have key:∀ n,n<=l.length->(List.range n).filterMap (l[·]?)=l.take n:=λn=>by
  induction n with
  | zero=>intro _;simp
  | succ n ih =>
   intro h
   rw[List.range_succ,List.filterMap_append,ih (by omega),zV (by omega)]
   simp [zC (show n<l.length by omega)]
 rw[key _ (zO _),yJ]
theorem Aj3 {α:Type} {l:List α} {ps:List Nat} (hn:ps.Nodup) (hl:∀ j∈ps,j<l.length) (ha:∀ j,j<l.length->j∈ps):(ps.filterMap (l[·]?)).Perm l:=by
 have hp:ps.Perm (List.range l.length):=(List.perm_ext_iff_of_nodup hn List.nodup_range).2 λj=>⟨λh=>wL.2 (hl j h),λh=>ha j (wL.1 h)⟩
 have:=hp.filterMap (l[·]?)
 rwa [Ape] at this
theorem Aug {es:Array MapEntry} (hn:(es.toList.map (·.born)).Nodup) {i j:Nat} {e e':MapEntry} (hi:es[i]? = some e') (hj:es[j]? = some e):(e'.born=e.born\/i∈([]:List Nat))↔i=j:=by
 have hi':es.toList[i]? = some e':=by rw[wB];exact hi
 have hj':es.toList[j]? = some e:=by rw[wB];exact hj
 constructor
 ·rintro(h|h)
  ·have h1:=(zB.1 hi').1
   have h2:=(zB.1 hj').1
   rcases kN i j with hlt|heq|hgt
   ·exact absurd (by rw[w8,w8,(zB.1 hi').2,(zB.1 hj').2];exact h) ((yN.1 hn) i j (by simpa using h1) (by simpa using h2) hlt)
   ·exact heq
   ·exact absurd (by rw[w8,w8,(zB.1 hi').2,(zB.1 hj').2];exact h.symm) ((yN.1 hn) j i (by simpa using h2) (by simpa using h1) hgt)
  ·simp at h
 ·rintro rfl
  rw[hi'] at hj'
  cases hj'
  exact .inl rfl
open Go.RowKit Go.MapKept
open Go.ChangeMaps (setBlock)
theorem Akc (H:Nat->Value) (p:Nat):Mr H p (H p)=H:=by
 funext q
 by_cases h:q=p
 ·subst h;rw[Bm]
 ·rw[Bw _ _ h]
theorem Q8 {α β:Type} (f:α->β):∀ {l:List α},(l.map f).Nodup->l.Nodup
 | [],_=>kJ
 | x::l,h=>by
  rw[xO,xU] at h
  exact xU.2 ⟨λhx=>h.1 (z8.2 ⟨x,hx,rfl⟩),Q8 f h.2⟩
theorem Rel.retab {c:Ctx} {t:Nat->AV} {m:List Blk} {a:Act} {w:World} {S:Bz} {H:Nat->Value} (r:Rel c ⟨t,m⟩ a w S H) {p g:Nat} {b b':Blk} {mk:List (List Value)->Obj->Prop} {cs:List (List Lf)}
  (hm:m[p]? = some b) (hbb:b=.obj g mk cs\/b=.tab mk cs) (hbb':b'=.obj g mk cs\/b'=.tab mk cs) (hH:H p=.pointer (some ⟨g,0,none⟩)):Rel c ⟨t,m.set p b'⟩ a w S H:=by
 have hp:p<m.length:=(zB.1 hm).1
 have hob:b.own (H p)=some g:=by rcases hbb with rfl|rfl <;> rw[hH] <;> rfl
 have hlo:=r.lo p _ g hm hob
 have hbl:=r.bl p _ hm
 have hcont:∃ vs o,w.heap[g]? = some o/\Ai9 o=true/\mk vs o/\Anl (Rep w S) cs vs:=by
  rcases hbb with rfl|rfl
  ·obtain⟨_,h⟩:=hbl;exact h
  ·obtain⟨g',h1,h⟩:=hbl
   rw[hH] at h1;cases h1
   exact h
 have hst:b'.stab=0:=by rcases hbb' with rfl|rfl <;> rfl
 have hst0:b.stab=0:=by rcases hbb with rfl|rfl <;> rfl
 have:=r.change (m':=m.set p b') (b':=b') (v:=H p) (w':=w) (S':=S) (by simp) (by rw[zI hp]) (λq hq=>by rw[zM (Ne.symm hq)]) (λb i hs=>⟨hs,rfl⟩) (λ_ _ _=>rfl) (λe sz k cs _ h=>by rcases hbb' with rfl|rfl <;> cases h)
  (λg' _ hg'=>rfl) (by rcases hbb' with rfl|rfl;exact⟨hH,hcont⟩;exact⟨g,hH,hcont⟩) (λg' hg'=>?_) (λq b g i _ _ _ h=>h) (λg i _ _ h=>h) r.sl.two (zO _) rfl rfl rfl (λh=>by rcases h with h|h <;> rcases hbb' with rfl|rfl <;> cases h)
 ·rw[Akc] at this
  exact this
 ·have hg2:g=g':=by
   have:b'.own (H p)=some g:=by rcases hbb' with rfl|rfl <;> rw[hH] <;> rfl
   rw[this] at hg'
   exact zD hg'
  subst hg2
  exact⟨hlo.1,hlo.2,λq b2 hq hb ho'=>hq (r.inj q p b2 _ g hb hm ho' hob),λi hi=>absurd (r.sb p _ g i hm hob hi) (by rw[hst0];exact zW _)⟩
theorem Rel.toTab {c:Ctx} {t:Nat->AV} {m:List Blk} {a:Act} {w:World} {S:Bz} {H:Nat->Value} (r:Rel c ⟨t,m⟩ a w S H) {p g:Nat} {mk:List (List Value)->Obj->Prop} {cs:List (List Lf)} (hm:m[p]? = some (.obj g mk cs)):Rel c ⟨t,m.set p (.tab mk cs)⟩ a w S H :=
 r.retab hm (.inl rfl) (.inr rfl) (r.bl p _ hm).1
theorem Rel.ofTab {c:Ctx} {t:Nat->AV} {m:List Blk} {a:Act} {w:World} {S:Bz} {H:Nat->Value} (r:Rel c ⟨t,m⟩ a w S H) {p:Nat} {mk:List (List Value)->Obj->Prop} {cs:List (List Lf)} (hm:m[p]? = some (.tab mk cs)):∃ g,H p=.pointer (some ⟨g,0,none⟩)/\Rel c ⟨t,m.set p (.obj g mk cs)⟩ a w S H:=by
 obtain⟨g,h1,_⟩:=r.bl p _ hm
 exact⟨g,h1,r.retab hm (.inr rfl) (.inl rfl) h1⟩
def Ald:Lf->Value
 | .i k n=>.int k n
 | .b x=>.bool x
 | .s x=>.string x
 | _=>undef
def Tr (l:List Lf):Value:=.agg (l.map Ald).toArray
theorem At0 {w:World} {S:Bz} {m:List Blk} {H:Nat->Value} {l:Lf} {v:Value} (h:Bt w S m H l v) (ht:l.tag<3):v=Ald l:=by
 cases l <;> simp [Lf.tag] at ht
 ·exact Sk h
 ·exact Tn h
 ·exact Ajx h
theorem Ap0 {w:World} {S:Bz} {m:List Blk} {H:Nat->Value} {ls:List Lf} {vs:List Value} (h:LsR (Bt w S m H) ls vs) (ht:∀ l∈ls,l.tag<3):vs=ls.map Ald:=by
 apply wE
 intro j
 rw[zQ]
 rcases zU j ls.length with hj|hj
 ·have hv:j<vs.length:=by rw[<- h.1];exact hj
  rw[zC hj,zC hv]
  exact congrArg some (At0 (h.2 j _ _ (zC hj) (zC hv)) (ht _ (xZ hj)))
 ·rw[yL hj,yL (by rw[<- h.1];exact hj)];rfl
theorem Ac7 {w:World} {S:Bz} {m:List Blk} {H:Nat->Value} {l:Lf} (ht:l.tag<3):Bt w S m H l (Ald l):=by
 cases l <;> simp [Lf.tag] at ht
 ·exact .i _ _
 ·exact .b _
 ·exact .s _
section
variable {P:Program} {kt:TypeId} {n:List Nat}
theorem Wv {w:World} {em:Bool} {d:Nat} {xs:Array Value}:∀ (fs:List Field) (i:Nat) (n:List Nat),Ajq P i fs n=true->(∀ k∈n,k<3)->(∀ j,j<n.length->∃ v,xs[i+j]? = some v) ->
  (forIn fs PUnit.unit (fun f (_ : PUnit) => if f.name ≠ "_" then (do
       let v <- part f.type xs f.offset
       Instr.checkKey em (d+1) f.type v
       pure (ForInStep.yield PUnit.unit):Sem (ForInStep PUnit))
      else pure (ForInStep.yield PUnit.unit))).run P w=.ok PUnit.unit w
 | [],_,_,_,_,_=>by simp
 | f::fs,i,[],h,_,_=>by cases h
 | f::fs,i,k::ks,h,ht,hx=>by
  simp only[Ajq,zS,bne_iff_ne,ne_eq,beq_iff_eq] at h
  obtain⟨⟨⟨h1,h2⟩,h3⟩,h4⟩:=h
  obtain⟨v,hv⟩:=hx 0 (by simp)
  have hk:=ht k (yR ..)
  have ht4:Yp (P.underlying f.type)<4:=by rw[h3];omega
  have hc:(Instr.checkKey em (d+1) f.type v).run P w=.ok () w:=by
   cases hu:P.underlying f.type with
   | none=>rw[hu] at ht4;simp [Yp] at ht4
   | some dd =>
    rw[hu] at h3 ht4
    cases dd <;> simp [Yp] at ht4 <;> simp [Instr.checkKey,run_underlying hu]
  have ih:=Wv (w:=w) (em:=em) (d:=d) fs (i+1) ks h4 (λx hx=>ht x (yQ _ hx)) (λj hj=>by
   obtain⟨v,hv⟩:=hx (j+1) (by simpa using hj)
   exact⟨v,by rw[show i+1+j=i+(j+1) by omega];exact hv⟩)
  rw[kF] at hv
  rw[List.forIn_cons]
  simp only[Sem.run_bind,h2,h1,ne_eq,not_false_eq_true,if_true,Aad ht4 hv,Result.andThen_ok,hc,Sem.run_pure]
  exact ih
theorem Up {w:World} {em:Bool} {ls:List Lf} (et:EqT P kt n) (hn:ls.map Lf.tag=n) (ht:∀ l∈ls,l.tag<3):(Instr.checkKey em 10000 kt (Tr ls)).run P w=.ok () w:=by
 show(Instr.checkKey em (9998+1+1) kt (.agg _)).run P w=_
 rw[Instr.checkKey]
 simp only[Sem.run_bind,run_underlying et.u,Result.andThen_ok]
 rw[<- Array.forIn_toList]
 have:=Wv (w:=w) (em:=em) (d:=9998) (xs:=(ls.map Ald).toArray) _ 0 n et.f (λk hk=>by
  rw[<- hn] at hk
  obtain⟨l,hl,rfl⟩:=z8.1 hk
  exact ht l hl) (λj hj=>by
  have hl:j<ls.length:=by rw[<- hn] at hj;simpa using hj
  exact⟨Ald ls[j],by simp [hl]⟩)
 rw[this]
 simp
structure Afa (κ:Type) [DecidableEq κ] (P:Program) (kt:TypeId) (e:κ->List Lf) (n:List Nat):Prop where
 et:EqT P kt n
 tag:∀ k,(e k).map Lf.tag=n
 low:∀ x∈n,x<3
 eq:∀ k k',Auv (e k) (e k')=some (decide (k=k'))
variable {κ:Type} [DecidableEq κ] {e:κ->List Lf}
theorem Afa.lt (h:Afa κ P kt e n) (k:κ):∀ l∈e k,l.tag<3:=λl hl=>h.low _ (by rw[<- h.tag k];exact z8.2 ⟨l,hl,rfl⟩)
theorem Afa.equal (h:Afa κ P kt e n) (w:World) (k k':κ):(Op.equal kt (Tr (e k)) (Tr (e k'))).run P w=.ok (decide (k=k')) w:=by
 show(Op.equalIn (9999+1) kt (.agg _) (.agg _)).run P w=_
 rw[run_equalIn_struct w 9999 kt _ _ h.et.u h.et.h]
 refine Wm (d:=9998) (S:=λ_ _=>False) (m:=[]) (H:=λ_=>undef) _ 0 (e k) (e k') _ (by rw[h.tag];exact h.et.f) ((h.tag k).trans (h.tag k').symm) (h.eq k k') (λj l hl=>?_) (λj l hl=>?_)
 ·exact⟨Ald l,by simp [hl],Ac7 (h.lt k l (zG hl))⟩
 ·exact⟨Ald l,by simp [hl],Ac7 (h.lt k' l (zG hl))⟩
theorem Afa.inj (h:Afa κ P kt e n) {k k':κ} (hk:Tr (e k)=Tr (e k')):k=k':=by
 have h1:=h.equal default k k'
 rw[hk,h.equal default k' k'] at h1
 have:decide (k'=k')=decide (k=k'):=by injection h1
 rw[decide_eq_true rfl] at this
 exact of_decide_eq_true this.symm
theorem Afa.asking (h:Afa κ P kt e n) (w:World) (k:κ):∀ (es:List MapEntry) (ks:List κ) (i:Nat),es.map (·.key)=ks.map (λk=>Tr (e k)) ->
  ((Instr.findAsking kt (Tr (e k)) es i).run P w=.ok none w/\k∉ks)\/∃ j x,(Instr.findAsking kt (Tr (e k)) es i).run P w=.ok (some (i+j,x.val)) w/\es[j]? = some x/\ks[j]? = some k
 | [],[],i,_=>.inl ⟨by simp [Instr.findAsking],by simp⟩
 | [],_::_,i,h=>by cases h
 | _::_,[],i,h=>by cases h
 | x::es,k'::ks,i,hk=>by
  simp only[xO,List.cons.injEq] at hk
  obtain⟨hk1,hk2⟩:=hk
  by_cases hkk:k=k'
  ·subst hkk
   refine .inr ⟨0,x,?_,rfl,rfl⟩
   simp [Instr.findAsking,hk1,h.equal]
  ·rcases h.asking w k es ks (i+1) hk2 with⟨h1,h2⟩|⟨j,y,h1,h2,h3⟩
   ·refine .inl ⟨by simp [Instr.findAsking,hk1,h.equal,hkk,h1],?_⟩
    rw[yM];rintro(h|h);exact hkk h;exact h2 h
   ·refine .inr ⟨j+1,y,?_,by simpa using h2,by simpa using h3⟩
    simp [Instr.findAsking,hk1,h.equal,hkk,h1,jN,j3 1 j]
theorem Afa.find (h:Afa κ P kt e n) (w:World) (k:κ) {es:List MapEntry} {ks:List κ} (hk:es.map (·.key)=ks.map (λk=>Tr (e k))) :
  ((Instr.findKey kt (Tr (e k)) es).run P w=.ok none w/\k∉ks)\/∃ j x,(Instr.findKey kt (Tr (e k)) es).run P w=.ok (some (j,x.val)) w/\es[j]? = some x/\ks[j]? = some k:=by
 have hf:(Instr.findKey kt (Tr (e k)) es).run P w=(Instr.findAsking kt (Tr (e k)) es).run P w:=by
  cases es with
  | nil=>simp [Instr.findKey,run_underlying h.et.u,Result.andThen,Instr.findNow,Instr.findAsking]
  | cons x es =>
   have:Instr.findNow (.struct (P.fieldsOf kt)) (Tr (e k)) (x::es) 0=none:=by simp [Instr.findNow,Instr.sameNow]
   simp [Instr.findKey,run_underlying h.et.u,Result.andThen,this]
 rw[hf]
 rcases h.asking w k es ks 0 hk with h|⟨j,x,h1,h2,h3⟩
 ·exact .inl h
 ·rw[yK] at h1
  exact .inr ⟨j,x,h1,h2,h3⟩
theorem Ab7 (l:Lf) (h:l.tag<3) (d:Nat):Instr.sameBits d (Ald l) (Ald l)=true:=by
 cases l <;> simp [Lf.tag] at h <;> cases d <;> simp [Ald,Instr.sameBits] <;> exact(bytes_beq _ _).2 rfl
theorem Afa.stays (h:Afa κ P kt e n) (w:World) (k:κ):(Instr.keyThatStays (Tr (e k)) (Tr (e k))).run P w=.ok (Tr (e k)) w:=by
 have hs:Instr.sameBits 10000 (Tr (e k)) (Tr (e k))=true:=by
  show Instr.sameBits (9999+1) (.agg _) (.agg _)=true
  simp only[Instr.sameBits,beq_self_eq_true,wY,zL]
  intro p hp
  obtain⟨i,hi,hpe⟩:=yU hp
  rw[List.getElem_zip] at hpe
  rw[<- hpe]
  simp only[w8]
  exact Ab7 _ (h.lt k _ (xZ _)) 9999
 simp [Instr.keyThatStays,hs]
end
section
variable {κ:Type} [DecidableEq κ]
def Wi (M:List (κ×Int)) (k:κ) (i:Int):List (κ×Int):=if M.any (λx=>decide (x.1=k)) then M.map (λx=>if x.1=k then(x.1,i) else x) else M++[(k,i)]
def Adr (M:List (κ×Int)) (k:κ):Bool:=M.any (λx=>decide (x.1=k))
def Ajd (M:List (κ×Int)) (k:κ):Int:=match M.find? (λx=>decide (x.1=k)) with|some x=>x.2|none=>0
def Po (e:κ->List Lf) (M:List (κ×Int)):List Value:=(M.map (·.1)).map (λk=>Tr (e k))
def He (M:List (κ×Int)):List (List Lf):=M.map λx=>[.i .i64 x.2]
abbrev U3 (e:κ->List Lf) (M:List (κ×Int)):Blk:=.tab (J8 Agm (Po e M)) (He M)
theorem Ss {M:List (κ×Int)} {k:κ}:Adr M k=true↔k∈M.map (·.1):=by
 unfold Adr
 rw[yX,z8]
 constructor
 ·rintro⟨x,h1,h2⟩;exact⟨x,h1,of_decide_eq_true h2⟩
 ·rintro⟨x,h1,h2⟩;exact⟨x,h1,decide_eq_true h2⟩
theorem Ae6 {M:List (κ×Int)} {k:κ} {i:Int} (h:k∉M.map (·.1)):Wi M k i=M++[(k,i)]:=by
 unfold Wi
 rw[if_neg]
 intro hh
 exact h (Ss.1 hh)
theorem Ap3 {M:List (κ×Int)} {k:κ} {i:Int} {j:Nat} (hd:(M.map (·.1)).Nodup) (hj:(M.map (·.1))[j]? = some k):Wi M k i=M.set j (k,i):=by
 have hj':=zB.1 hj
 obtain⟨hlt,hk⟩:=hj'
 have hlt':j<M.length:=by simpa using hlt
 rw[w8] at hk
 unfold Wi
 rw[if_pos (show(M.any λx=>decide (x.1=k))=true from Ss.2 (zG hj))]
 apply List.ext_getElem (by simp)
 intro q h1 h2
 rw[w8,List.getElem_set]
 by_cases hq:j=q
 ·subst hq;rw[if_pos rfl,if_pos hk,hk]
 ·rw[if_neg hq,if_neg]
  intro he
  have h3:q<M.length:=by simpa using h2
  have h4:q<(M.map (·.1)).length:=by simpa using h3
  rcases kN j q with h5|h5|h5
  ·exact(yN.1 hd) j q hlt h4 h5 (by rw[w8,w8,hk];exact he.symm)
  ·exact hq h5
  ·exact(yN.1 hd) q j h4 hlt h5 (by rw[w8,w8,hk];exact he)
theorem Ap2 {M:List (κ×Int)} {k:κ} {j:Nat} (hd:(M.map (·.1)).Nodup) (hj:(M.map (·.1))[j]? = some k):∃ x,M[j]? = some x/\Ajd M k=x.2:=by
 induction M generalizing j with
 | nil=>simp at hj
 | cons y M ih =>
  rw[xO,xU] at hd
  cases j with
  | zero =>
   have:y.1=k:=by simpa using hj
   refine⟨y,rfl,?_⟩
   unfold Ajd
   rw[kU,decide_eq_true this]
  | succ j =>
   have hj':(M.map (·.1))[j]? = some k:=by simpa using hj
   obtain⟨x,h1,h2⟩:=ih hd.2 hj'
   refine⟨x,by simpa using h1,?_⟩
   have hne:y.1≠k:=λhe=>hd.1 (by rw[he];exact zG hj')
   unfold Ajd at h2 ⊢
   rw[kU,decide_eq_false hne]
   exact h2
theorem Aol {M:List (κ×Int)} {k:κ} (h:k∉M.map (·.1)):Ajd M k=0:=by
 unfold Ajd
 rw[w4.2 λx hx=>by
  intro hh
  exact h (z8.2 ⟨x,hx,of_decide_eq_true hh⟩)]
end
section
variable {P:Program} {c:Ctx} {ops:Array Oper} {Q:Exit->AS->Prop} {rest:List Oper} {ty:TypeId} {pos:String} {af:Array Edge} {d:Tmp} {t:Nat->AV} {m:List Blk}
variable {κ:Type} [DecidableEq κ] {e:κ->List Lf} {n:List Nat} {kt:TypeId}
omit [DecidableEq κ] in
theorem Aom {tm:TypeId} (e:κ->List Lf) (hd:decide (d<c.nt)=true)
  (k:AWL P c ops Q rest ⟨upd t d (.s (.one (.mp 0 m.length))),m++[U3 e []]⟩):AWL P c ops Q (⟨some d,.makeMap tm none,ty,pos,af,none⟩::rest) ⟨t,m⟩:=by
 intro a w S H r
 refine wpList_plain rfl λK hK=>?_
 unfold Oper.wp
 have hrun:(execOp a.eval ⟨some d,.makeMap tm none,ty,pos,af,none⟩).run P w=.ok (.value (.map (some w.heap.size))) (w.alloc (.map #[] 0)):=by
  simp [execOp,Instr.makeMap]
 rw[hrun]
 have r1:=r.newObj (o:=.map #[] 0) (mk:=J8 Agm (Po e [])) (vss:=[]) (css:=[]) rfl ⟨#[],0,rfl,stamped_empty 0,rfl,rfl⟩ ⟨rfl,λj cs vs h=>by simp at h⟩
 have r2:=r1.toTab (p:=m.length) (g:=w.heap.size) (mk:=J8 Agm (Po e [])) (cs:=[]) (by simp)
 have e2:(m++[Blk.obj w.heap.size (J8 Agm (Po e [])) []]).set m.length (.tab (J8 Agm (Po e [])) [])=m++[U3 e []]:=by simp [He]
 rw[e2] at r2
 exact hK _ _ (k _ _ _ _ (r2.put (d:=d) (x:=.s (.one (.mp 0 m.length))) (of_decide_eq_true hd) ⟨by simp,w.heap.size,Bm _ _ _,rfl⟩))
theorem Acg {st:AS} {a:Act} {w:World} {S:Bz} {H:Nat->Value} (r:Rel c st a w S H) {x:Operand} {k p g:Nat} (hx:B2 st x=.s (.one (.mp k p))) (hH:H p=.pointer (some ⟨g,0,none⟩)):a.eval x=Yo k g:=by
 have h:=Ba r x
 rw[hx] at h
 obtain⟨_,g',h1,h2⟩:=h
 rw[hH] at h1;cases h1
 exact h2
theorem Ahw (K:Afa κ P kt e n) {st:AS} {a:Act} {w:World} {S:Bz} {H:Nat->Value} (r:Rel c st a w S H) {y:Operand} {k:κ} (hy:B2 st y=.s (.agg (e k))):a.eval y=Tr (e k):=by
 have h:=Ba r y
 rw[hy] at h
 obtain⟨vs,h1,h2⟩:=h
 rw[h1]
 unfold Tr
 rw[<- Ap0 h2 (K.lt k)]
theorem Atl {tm et:TypeId} (K:Afa κ P kt e n) {x y z:Operand} {p:Nat} {M:List (κ×Int)} {k:κ} {i:Int} (hu:P.underlying tm=some (.map kt et))
  (hx:B2 ⟨t,m⟩ x=.s (.one (.mp 0 p))) (hy:B2 ⟨t,m⟩ y=.s (.agg (e k))) (hz:B2 ⟨t,m⟩ z=.s (.one (.i .i64 i))) (hm:m[p]? = some (U3 e M))
  (kk:AWL P c ops Q rest ⟨t,m.set p (U3 e (Wi M k i))⟩) :
  AWL P c ops Q (⟨none,.mapUpdate tm x y z,ty,pos,af,none⟩::rest) ⟨t,m⟩:=by
 intro a w S H r0
 have ey0:=Ahw K r0 hy
 obtain⟨g,hH,r⟩:=r0.ofTab hm
 have hp:p<m.length:=(zB.1 hm).1
 have ex:=Acg r0 hx hH
 have ez:a.eval z=.int .i64 i:=by
  have h:=Ba r0 z
  rw[hz] at h
  exact Sk h
 have hmo:(m.set p (Blk.obj g (J8 Agm (Po e M)) (He M)))[p]? = some (.obj g (J8 Agm (Po e M)) (He M)):=zI hp
 obtain⟨h1,vss,o,h2,h3,⟨es,clock,rfl,hst,hks,hvs⟩,h5⟩:=r.bl p _ hmo
 have hkeys:es.toList.map (·.key)=(M.map (·.1)).map (λk=>Tr (e k)):=hks
 have hlen:(He M).length=vss.length:=h5.1
 have hlM:M.length=vss.length:=by rw[<- hlen];simp [He]
 have hesM:es.size=M.length:=by
  have:=congrArg List.length hkeys
  simpa using this
 have hnd:(M.map (·.1)).Nodup:=by
  have h:=hst.2.2
  rw[hkeys] at h
  exact Q8 _ h
 have fin:∀ {w':World} {H':Nat->Value} {o:Obj} {M':List (κ×Int)},Rel c ⟨t,(m.set p (Blk.obj g (J8 Agm (Po e M)) (He M))).set p (.obj g (J8 Agm (Po e M')) (He M'))⟩ a w' S H'->Rel c ⟨t,m.set p (U3 e M')⟩ a w' S H':=λ{w' H' o M'} r'=>by
  have r'':=r'.toTab (p:=p) (g:=g) (mk:=J8 Agm (Po e M')) (cs:=He M') (by rw[jJ,zI hp])
  rw[jJ,jJ] at r''
  exact r''
 refine wpList_plain rfl λKK hK=>?_
 unfold Oper.wp
 rcases K.find w k hkeys with⟨f1,f2⟩|⟨j,x',f1,f2,f3⟩
 ·have hrun:(execOp a.eval ⟨none,.mapUpdate tm x y z,ty,pos,af,none⟩).run P w=.ok .skip (setBlock w g (.map (es.push { key:=Tr (e k),val:=.int .i64 i,born:=clock }) (clock+1))):=by
   simp [execOp,ex,ey0,ez,Yo,Instr.mapUpdate,run_underlying hu,MapKept.run_getObj_map h2,Up K.et (K.tag k) (K.lt k),f1,run_setObj_map _ h2,Result.andThen,setBlock]
  rw[hrun]
  have hput:=Ae6 (i:=i) f2
  have hne:∀ x∈es.toList,x.key≠Tr (e k):=λx hx he=>by
   have:Tr (e k)∈(M.map (·.1)).map (λk=>Tr (e k)):=by rw[<- hkeys,<- he];exact z8.2 ⟨x,hx,rfl⟩
   obtain⟨k',hk',he'⟩:=z8.1 this
   rw[K.inj he'] at hk'
   exact f2 hk'
  obtain⟨H',r',_⟩:=r.setObj (mk':=J8 Agm (Po e (Wi M k i))) (css':=He (Wi M k i)) (vss:=vss++[[.int .i64 i]]) (o:=.map (es.push { key:=Tr (e k),val:=.int .i64 i,born:=clock }) (clock+1)) hmo rfl
   ⟨_,_,rfl,stamped_push hst hne,by rw[hput];simp [hkeys,Po],by simp [hvs,Agm]⟩ (by
    rw[hput]
    refine⟨by simp [He,hlM],λq cs vs e1 e2=>?_⟩
    rcases zU q M.length with hq|hq
    ·refine h5.2 q cs vs ?_ (by rw[zK (by omega)] at e2;exact e2)
     have:(He (M++[(k,i)]))[q]? = (He M)[q]? := by unfold He;rw[xC,zK (by simpa using hq)]
     rw[<- this];exact e1
    ·rw[z2 (by omega),<- hlM] at e2
     have:(He (M++[(k,i)]))[q]? = ([[Lf.i .i64 i]]:List (List Lf))[q-M.length]? := by unfold He;rw[xC,z2 (by simpa using hq)];simp
     rw[this] at e1
     rcases kS (q-M.length) with h0|h0
     ·rw[h0] at e1 e2
      obtain rfl:=zD e1
      obtain rfl:=zD e2
      exact⟨rfl,λj l v a b=>by
       cases j with
       | zero=>obtain rfl:=zD a;obtain rfl:=zD b;exact .i _ _
       | succ j=>simp at a⟩
     ·rw[yL (by rw[yD];omega)] at e1;cases e1)
  exact hK _ _ (kk _ _ _ _ (fin (o:=.map #[] 0) r'))
 ·have hj:j<es.size:=by
   have:=(zB.1 f2).1
   simpa using this
  have hjM:j<M.length:=by omega
  have hkj:x'.key=Tr (e k):=by
   have h6:(es.toList.map (·.key))[j]? = some x'.key:=by rw[zQ,f2];rfl
   rw[hkeys,zQ,f3] at h6
   exact(zD h6).symm
  have hej:es[j]? = some x':=by rw[<- wB];exact f2
  have hrun:(execOp a.eval ⟨none,.mapUpdate tm x y z,ty,pos,af,none⟩).run P w=.ok .skip (setBlock w g (.map (es.modify j λE=>{ E with key:=Tr (e k),val:=.int .i64 i }) clock)):=by
   simp [execOp,ex,ey0,ez,Yo,Instr.mapUpdate,run_underlying hu,MapKept.run_getObj_map h2,Up K.et (K.tag k) (K.lt k),f1,run_setObj_map _ h2,Result.andThen,setBlock,hej,hkj,K.stays]
  rw[hrun]
  have hput:=Ap3 (i:=i) hnd f3
  have hmk:(es.modify j λE=>{ E with key:=Tr (e k),val:=.int .i64 i }).toList.map (·.key)=Po e (M.set j (k,i)):=by
   rw[j0,Sq (λE:MapEntry=>{ E with key:=Tr (e k),val:=.int .i64 i }) (λE:MapEntry=>E.key) (λ_=>Tr (e k)) (λ_=>rfl),O3,hkeys]
   unfold Po
   rw[kQ,kQ]
  have hmv:(es.modify j λE=>{ E with key:=Tr (e k),val:=.int .i64 i }).toList.map (·.val)=(vss.set j [.int .i64 i]).map Agm:=by
   rw[j0,Sq (λE:MapEntry=>{ E with key:=Tr (e k),val:=.int .i64 i }) (λE:MapEntry=>E.val) (λ_=>Value.int .i64 i) (λ_=>rfl),O3,hvs,kQ]
   rfl
  obtain⟨H',r',_⟩:=r.setObj (mk':=J8 Agm (Po e (Wi M k i))) (css':=He (Wi M k i)) (vss:=vss.set j [.int .i64 i]) (o:=.map (es.modify j λE=>{ E with key:=Tr (e k),val:=.int .i64 i }) clock) hmo rfl
   ⟨_,_,rfl,stamped_modify hst j _ (λ_ _=>rfl) (λe' _ he'=>by rw[hej] at he';cases he';exact hkj.symm),by rw[hput];exact hmk,hmv⟩ (by
    rw[hput]
    refine⟨by simp [He,hlM],λq cs vs e1 e2=>?_⟩
    have e1':((He M).set j [.i .i64 i])[q]? = some cs:=by rw[<- e1];unfold He;rw[kQ]
    rw[kL] at e1' e2
    by_cases hq:j=q
    ·subst hq
     rw[if_pos rfl,if_pos (by omega)] at e1' e2
     obtain rfl:=zD e1'
     obtain rfl:=zD e2
     exact⟨rfl,λj l v a b=>by
       cases j with
       | zero=>obtain rfl:=zD a;obtain rfl:=zD b;exact .i _ _
       | succ j=>simp at a⟩
    ·rw[if_neg hq] at e1' e2
     exact h5.2 q cs vs e1' e2)
  exact hK _ _ (kk _ _ _ _ (fin (o:=.map #[] 0) r'))
omit [DecidableEq κ] in
theorem Ai0 {tm et:TypeId} {x:Operand} {p:Nat} {M:List (κ×Int)} (hu:P.underlying tm=some (.map kt et)) (hx:B2 ⟨t,m⟩ x=.s (.one (.mp 0 p))) (hm:m[p]? = some (U3 e M)) :
  OpV P c ⟨t,m⟩ (.call { callee:=.builtin .len,args:=#[x],argTypes:=#[tm] }) ty (.s (.one (.i .i64 (M.length:Int)))):=by
 intro a w S H r
 obtain⟨g,hH,vss,o,h2,h3,⟨es,clock,rfl,hst,hks,hvs⟩,h5⟩:=r.bl p _ hm
 have ex:=Acg r hx hH
 have hesM:es.size=M.length:=by
  have:=congrArg List.length hks
  simpa [Po] using this
 refine⟨.int .i64 M.length,Fl (.i _ _),λ_ _ _ _=>?_⟩
 simp [execOp,resolve,invoke,builtin,Builtin.len_,run_underlying hu,ex,Yo,MapKept.run_getObj_map h2,Result.andThen,goInt,hesM]
theorem Ajf {tm et:TypeId} (K:Afa κ P kt e n) {x y:Operand} {p:Nat} {M:List (κ×Int)} {k:κ} (hu:P.underlying tm=some (.map kt et)) (zi:(P.info? et).bind (·.zero)=some (.int .i64 0)) (hx:B2 ⟨t,m⟩ x=.s (.one (.mp 0 p))) (hy:B2 ⟨t,m⟩ y=.s (.agg (e k))) (hm:m[p]? = some (U3 e M)) :
  OpV P c ⟨t,m⟩ (.lookup tm x y true) ty (.tup [.one (.i .i64 (Ajd M k)),.one (.b (Adr M k))]):=by
 intro a w S H r
 have ey0:=Ahw K r hy
 obtain⟨g,hH,vss,o,h2,h3,⟨es,clock,rfl,hst,hks,hvs⟩,h5⟩:=r.bl p _ hm
 have ex:=Acg r hx hH
 have hkeys:es.toList.map (·.key)=(M.map (·.1)).map (λk=>Tr (e k)):=hks
 have hnd:(M.map (·.1)).Nodup:=by
  have h:=hst.2.2
  rw[hkeys] at h
  exact Q8 _ h
 have tup:∀ (n:Int) (b:Bool),AVR (Bt w S m H) (.tup [.one (.i .i64 n),.one (.b b)]) (.tuple #[.int .i64 n,.bool b]):=λn b=>⟨_,rfl,rfl,λi x u h1 h2=>by
  match i with
  | 0=>obtain rfl:=zD h1;obtain rfl:=zD h2;exact Bt.of_rep (m:=m) (H:=H) (.i _ _)
  | 1=>obtain rfl:=zD h1;obtain rfl:=zD h2;exact Bt.of_rep (m:=m) (H:=H) (.b _)
  | i+2=>simp at h1⟩
 rcases K.find w k hkeys with⟨f1,f2⟩|⟨j,x',f1,f2,f3⟩
 ·have e1:Adr M k=false:=by
   cases hh:Adr M k with
   | false=>rfl
   | true=>exact absurd (Ss.1 hh) f2
  rw[e1,Aol f2]
  have hz:(zeroValue et).run P w=.ok (.int .i64 0) w:=by
   cases hi:P.info? et with
   | none=>rw[hi] at zi;cases zi
   | some inf =>
    rw[hi] at zi
    have hz0:inf.zero=some (.int .i64 0):=zi
    simp [zeroValue,typeInfo,hi,hz0,Result.andThen]
  refine⟨_,tup 0 false,λ_ _ _ _=>?_⟩
  simp [execOp,ex,ey0,Yo,Instr.lookup,run_underlying hu,MapKept.run_getObj_map h2,Up K.et (K.tag k) (K.lt k),f1,Result.andThen,hz]
 ·obtain⟨y',h6,h7⟩:=Ap2 hnd f3
  have e1:Adr M k=true:=Ss.2 (zG f3)
  rw[e1,h7]
  have hv:x'.val=.int .i64 y'.2:=by
   have h8:(es.toList.map (·.val))[j]? = some x'.val:=by rw[zQ,f2];rfl
   rw[hvs,zQ] at h8
   cases hvj:vss[j]? with
   | none=>rw[hvj] at h8;cases h8
   | some vs =>
    rw[hvj] at h8
    have h9:=h5.2 j [.i .i64 y'.2] vs (by unfold He;rw[zQ,h6];rfl) hvj
    have h10:Agm vs=x'.val:=zD h8
    rw[<- h10]
    match vs,h9 with
    | [v],h9=>exact Sk (Bt.of_rep (m:=m) (H:=H) (h9.2 0 _ v rfl rfl))
    | [],h9=>have:=h9.1;cases this
    | _::_::_,h9=>have:=h9.1;simp at this
  refine⟨_,tup y'.2 true,λ_ _ _ _=>?_⟩
  simp [execOp,ex,ey0,Yo,Instr.lookup,run_underlying hu,MapKept.run_getObj_map h2,Up K.et (K.tag k) (K.lt k),f1,Result.andThen,hv]
theorem Rel.fillTab {c:Ctx} {t:Nat->AV} {m:List Blk} {a:Act} {w w':World} {S S':Bz} {H H':Nat->Value} (r:Rel c ⟨t,m⟩ a w S H) {p:Nat} (hm:m[p]? = some .hole) {mk:List (List Value)->Obj->Prop} {cs:List (List Lf)}
  (hx:Ext w S w' S') (hin:InH w' S') (mem:Mem w' S' [.tab mk cs] H') (hown:∀ g,Cz (H' 0)=some g->w.heap.size<=g) :
  Rel c ⟨t,m.set p (.tab mk cs)⟩ a w' S' (Mr H p (H' 0)):=by
 have hp:p<m.length:=(zB.1 hm).1
 have hH:H p=undef:=r.bl p _ hm
 refine r.changeM (p:=p) (b':=.tab mk cs) (v:=H' 0) (by simp) (zI hp) (λq hq=>zM (λe=>hq e.symm)) (hx.keeps r.sl) (λg _ h=>(Zh (hH.symm.trans h)).elim)
  (λe sz k cs _ h he=>by cases he) (λg hg _=>hx.blk g hg) (mem.bl 0 _ rfl) (λg hg=>?_)
  (λq b g i _ hb ho hs=>hx.back g i (r.lo q b g hb ho).2 hs) (λg i hg _ hs=>hx.back g i (z6 hg r.ex.size) hs) hin hx.size hx.os hx.tape hx.output
 have hge:=hown g hg
 refine⟨.inl (yP r.ex.size hge),mem.hp 0 _ g rfl hg,λq b _ hb ho=>?_,λi hs=>mem.sb 0 _ g i rfl hg hs⟩
 have:=(r.lo q b g hb ho).2
 omega
theorem Aex {M:List Blk} {callee:Operand} {f:FuncId} {args:Array Operand} {ats:Array TypeId} {xs:List SV} {mk:List (List Value)->Obj->Prop} {cs:List (List Lf)} {kd:Nat} (p:Nat) (hd:decide (d<c.nt)=true) (hf:FnI P f) (hcal:Cal ⟨t,M⟩ callee f [] []) (ho:Xi ⟨t,M⟩ args.toList xs)
  (hc:Cv P f [] xs (λy m'=>y=.s (.one (.mp kd 0))/\m'=[.tab mk cs])) (hpub:xs.all (λx=>x.inbB 0)=true) (hm:M[p]? = some .hole) (hp0:Nat.ble c.m0.length p=true)
  (k:AWL P c ops Q rest ⟨upd t d (.s (.one (.mp kd p))),M.set p (.tab mk cs)⟩):AWL P c ops Q (⟨some d,.call { callee:=.value callee,args:=args,argTypes:=ats },ty,pos,af,none⟩::rest) ⟨t,M⟩:=by
 intro a w S H r
 obtain⟨vs,hvs,hrun⟩:=Z4 (pos:=pos) (af:=af) (ty:=ty) (ats:=ats) r hf hcal ho (some d)
 refine wpList_plain rfl λK hK=>?_
 unfold Oper.wp
 rw[hrun]
 have hvs':Yv (Bt w S [] H) xs vs.toList:=by
  have tie:Tie [] M H H (λj=>j):=⟨λp h=>absurd h (zW _),λ_ _=>rfl,λp b h=>by cases h⟩
  have e:xs.map (SV.ren (λj=>j))=xs:=by
   have hl:∀ l:Lf,l.ren0 (λj=>j)=l:=λl=>by cases l <;> rfl
   have hl2:∀ l:Lf,l.ren (λj=>j)=l:=λl=>by
    cases l with
    | fn f a b =>
     show Lf.fn f (a.map _) (b.map _)=_
     rw[show(Lf.ren0 λj=>j)=id from funext hl,kZ,kZ]
    | _=>rfl
   have hs:∀ x:SV,x.ren (λj=>j)=x:=λx=>by
    cases x with
    | one l=>show SV.one _=_;rw[hl2]
    | agg ls=>show SV.agg _=_;rw[show(Lf.ren λj=>j)=id from funext hl2,kZ]
   rw[show(SV.ren λj=>j)=id from funext hs,kZ]
  exact tie.svsDown hpub (by rw[e];simpa using hvs)
 refine(hc w S H vs r.sl ⟨λp b h=>by simp at h,λp b g h=>by simp at h,λp q b b' g h=>by simp at h,λp b g i h=>by simp at h⟩ hvs').mono ?_
 rintro e' w' ⟨v,y,m',S',H',rfl,⟨rfl,rfl⟩,ext,hin,mem',hown',_,hav⟩
 have hx:Ext w S w' S':=ext.toExt (λb ⟨q,bb,h,_⟩=>by simp at h)
 have r':=r.fillTab hm hx hin mem' (λg hg=>by
  rcases hown' 0 _ g rfl hg with h|⟨q,bb,h,_⟩
  ·exact h
  ·simp at h)
 have hp:p<M.length:=(zB.1 hm).1
 obtain⟨_,g,hg,hv⟩:=(show Df w' S' [.tab mk cs] H' (.mp kd 0) v from hav)
 refine hK _ _ (k _ _ _ _ (r'.put (of_decide_eq_true hd) ?_))
 exact⟨by simpa using hp,g,by rw[Bm];exact hg,hv⟩
theorem A0l (a b:List UInt8):((⟨a.toArray⟩:ByteArray).toList==(⟨b.toArray⟩:ByteArray).toList)=decide (a=b):=by
 have h:∀ l:List UInt8,(⟨l.toArray⟩:ByteArray).toList=l:=λl=>by rw[ByteArray.toList_eq]
 rw[h,h]
 by_cases e:a=b
 ·subst e;simp
 ·simp [e]
theorem Azs {α:Type} [BEq α] [LawfulBEq α] [DecidableEq α] (a b:α):(a==b)=decide (a=b):=by
 by_cases h:a=b
 ·subst h;simp
 ·simp [h]
end
open Go.RowKit Go.Shelf Go.Sort
def V4:Int->Value:=Value.int .i64
theorem Aky (xs:List Int):xs.flatMap eI=xs.map λn=>.i .i64 n:=by
 induction xs with
 | nil=>rfl
 | cons x xs ih=>rw[yW,xO,ih];rfl
theorem Atx {w:World} {S:Bz} {xs:List Int} {vals:List Value} (h:LsR (Rep w S) (xs.flatMap eI) vals):vals=xs.map V4:=by
 rw[Aky] at h
 apply wE
 intro j
 rw[zQ]
 rcases zU j xs.length with hj|hj
 ·have hv:j<vals.length:=by rw[<- h.1];simpa using hj
  rw[zC hj,zC hv]
  exact congrArg some (Sk (Bt.of_rep (m:=[]) (H:=λ_=>undef) (h.2 j (.i .i64 xs[j]) vals[j] (by rw[zQ,zC hj];rfl) (zC hv))))
 ·rw[yL hj,yL (by rw[<- h.1];simpa using hj)];rfl
theorem Ahx {w:World} {S:Bz} (xs:List Int):LsR (Rep w S) (xs.flatMap eI) (xs.map V4):=by
 rw[Aky]
 refine⟨by simp,λj l v h1 h2=>?_⟩
 rw[zQ] at h1 h2
 cases hx:xs[j]? with
 | none=>rw[hx] at h1;cases h1
 | some x=>rw[hx] at h1 h2;cases h1;cases h2;exact .i _ _
section
variable {w:World} {b n:Nat} {d:Array Int} {os:Array Obj} {cur:Array Value} {e:TypeId}
theorem Akq (hb:w.heap[b]? = some (.cells cur e (0,0))) (hd:d.size<=cur.size):(grow (putRow V4 (Sort.ahead w n) b 0 d) os).heap[b]? = some (.cells (d.toList.map V4++cur.toList.drop d.size).toArray e (0,0)):=by
 have hlt:=(yA.1 hb).1
 have h1:(grow (putRow V4 (Sort.ahead w n) b 0 d) os).heap[b]? = (putRow V4 (Sort.ahead w n) b 0 d).heap[b]? := by
  show((putRow V4 (Sort.ahead w n) b 0 d).heap++os)[b]? = _
  rw[jC (by simp [putRow,Sort.ahead,mapBlock];exact hlt)]
 rw[h1]
 show((Sort.ahead w n).heap.modify b _)[b]? = _
 rw[kD,if_pos rfl]
 show(w.heap[b]?).map _=_
 rw[hb]
 show some (Obj.cells (putCells V4 0 d cur) e (0,0))=_
 congr 2
 apply Array.ext_getElem?
 intro i
 rw[putCells,Array.getElem?_mapIdx]
 simp only[zZ,true_and,yK,Nat.sub_zero]
 have hto:(d.toList.map V4++cur.toList.drop d.size).toArray[i]? = (d.toList.map V4++cur.toList.drop d.size)[i]? := List.getElem?_toArray ..
 rw[hto]
 rcases zU i d.size with hi|hi
 ·rw[zK (by simpa using hi),zR (show i<cur.size by omega),zQ,wB,zR hi,xE,if_pos hi,getElem!_pos d i hi]
  rfl
 ·rw[z2 (by simpa using hi),yH,wB,zY,zX,show d.size+(i-d.size)=i by omega]
  cases cur[i]? with
  | none=>rfl
  | some v=>rw[xE,if_neg (by omega)]
theorem Ur {i:Nat} (hi:i<w.heap.size) (hne:i≠b):(grow (putRow V4 (Sort.ahead w n) b 0 d) os).heap[i]? = w.heap[i]? := by
 have h1:(grow (putRow V4 (Sort.ahead w n) b 0 d) os).heap[i]? = (putRow V4 (Sort.ahead w n) b 0 d).heap[i]? := by
  show((putRow V4 (Sort.ahead w n) b 0 d).heap++os)[i]? = _
  rw[jC (by simp [putRow,Sort.ahead,mapBlock];exact hi)]
 rw[h1]
 show((Sort.ahead w n).heap.modify b _)[i]? = _
 rw[kD,if_neg (λh=>hne h.symm)]
 rfl
theorem X5:w.heap.size<=(grow (putRow V4 (Sort.ahead w n) b 0 d) os).heap.size:=by
 show _<=((putRow V4 (Sort.ahead w n) b 0 d).heap++os).size
 rw[yY]
 simp [putRow,Sort.ahead,mapBlock]
end
structure Ax2 (P:Program) (e:TypeId) (w:World) (S:Bz) (H:Nat->Value) (xs:List Int) (blk cap:Nat) (cur:Array Value):Prop where
 h:H 0=.slice (some ⟨blk,0,none⟩) xs.length cap
 heap:w.heap[blk]? = some (.cells cur e (0,0))
 fits:xs.length<=cap
 most:cap<=maxLen
 cs:cur.size=cap*1
 vals:cur.toList.take xs.length=xs.map V4
 lt:blk<w.heap.size
 noS:∀ i,¬ S blk i
theorem Ax2.holds {P:Program} {e:TypeId} {w:World} {S:Bz} {H:Nat->Value} {xs:List Int} {blk cap:Nat} {cur:Array Value} (h:Ax2 P e w S H xs blk cap cur):Holds (Value.int .i64) w blk 0 xs.toArray:=λj hj=>by
 rw[yE] at hj
 have hcur:cur.toList[j]? = some (.int .i64 xs[j]):=by
  have:(cur.toList.take xs.length)[j]? = some (V4 xs[j]):=by rw[h.vals,zQ,zC hj];rfl
  rw[yF,if_pos hj] at this
  exact this
 refine⟨?_,?_⟩
 ·rw[yK,cell_of_row w _ _ cur e (0,0) h.heap,getElem!_pos _ _ (by simpa using hj)]
  simpa using hcur
 ·rw[yK]
  unfold World.frozen?
  rw[h.heap]
  simp
theorem Al6 {P:Program} {e:TypeId} {w:World} {S:Bz} {H:Nat->Value} {xs:List Int} (mem:Mem w S [.arr e 1 0 (xs.flatMap eI)] H):(H 0=.slice none 0 0/\xs=[])\/∃ blk cap cur,Ax2 P e w S H xs blk cap cur:=by
 have hf:∀ x:Int,(eI x).length=1:=λ_=>rfl
 obtain⟨_,_,n',vals,hown,hls,_⟩:=mem.bl 0 _ rfl
 have hn':n'=xs.length:=L0 hown (by decide) (by rw[<- hls.1,Aq hf])
 subst hn'
 have hv:=Atx hls
 rcases hown.2 with⟨hH,h0⟩|⟨blk,cap,cur,hH,_,hheap,hcap,hmax,hcs,hvals⟩
 ·exact .inl ⟨hH,z7 h0⟩
 ·refine .inr ⟨blk,cap,cur,hH,hheap,hcap,hmax,hcs,?_,(yA.1 hheap).1,λi hi=>absurd (mem.sb 0 _ blk i rfl (by show Cz (H 0)=_;rw[hH];rfl) hi) (zW _)⟩
  rw[k9] at hvals
  rw[hvals,hv]
theorem Ati {P:Program} {ρ:Ren} (L:Go.Proofs.SlLaysM.n5 P ρ) {e:Nat} {xs:List Int} (hn:xs.length<=1000000000000000000) :
  Cv P (ρ.f 5) [.arr e 1 0 (xs.flatMap eI)] [.one (.ls 0 xs.length)] (λy m'=>y=.tup []/\m'=[.arr e 1 0 ((xs.mergeSort λx y=>decide (x<=y)).flatMap eI)]):=by
 have hf:∀ x:Int,(eI x).length=1:=λ_=>rfl
 intro w S H vs hin mem hvs
 obtain⟨hvl,hvr⟩:=hvs
 obtain⟨v0,rfl⟩:∃ v0,vs = #[v0]:=by
  obtain⟨l⟩:=vs
  match l,hvl with
  | [a],_=>exact⟨a,rfl⟩
 obtain⟨_,_,hv0⟩:=(show Df w S [.arr e 1 0 (xs.flatMap eI)] H (.ls 0 xs.length) v0 from hvr 0 _ v0 rfl rfl)
 have hv0':=(hv0 e 1 0 _ rfl).2 (Aq hf xs).symm
 rcases Al6 (P:=P) mem with⟨hH,rfl⟩|⟨blk,cap,cur,R⟩
 ·rw[hv0',hH]
  refine(Go.Proofs.AnyM.slices_Sort_int_none L none 0 w).mono ?_
  rintro e' w' ⟨rfl,rfl⟩
  have hy:([]:List Int).mergeSort (λx y=>decide (x<=y))=[]:=by simp
  rw[hy]
  exact⟨_,.tup [],_,S,H,rfl,⟨rfl,rfl⟩,Vt.refl _ _ _,hin,mem,λp b g hb ho=>.inr ⟨p,b,hb,ho⟩,⟨zO _,λ_ _ _ _=>rfl,λp e' sz' k cs _ hm=>⟨k,cs,hm,.inl ⟨rfl,rfl⟩⟩,λ_ _ h=>h⟩,H8⟩
 have hH:=R.h
 have hcon:=Go.Proofs.AnyM.slices_Sort_int L blk 0 cap xs w R.holds R.lt (by omega)
 rw[hv0',hH]
 refine hcon.mono ?_
 rintro e' w' ⟨rfl,n2,os,rfl⟩
 generalize hys:xs.mergeSort (λx y=>decide (x<=y))=ys
 have hyl:ys.length=xs.length:=by rw[<- hys,jU]
 have hsame:(grow (putRow V4 (Sort.ahead w n2) blk 0 ys.toArray) os).heap[blk]? = _:=Akq (n:=n2) (os:=os) (d:=ys.toArray) R.heap (by rw[yE,hyl,R.cs];have:=R.fits;omega)
 have hkeep:∀ b i,S b i->S b i/\(grow (putRow V4 (Sort.ahead w n2) blk 0 ys.toArray) os).cell? ⟨b,i,none⟩=w.cell? ⟨b,i,none⟩:=λb i hs =>
  ⟨hs,World.cell?_of_block (w:=w) (Ur (hin.1 b i hs) λe=>R.noS i (e ▸ hs))⟩
 have hin2:InH (grow (putRow V4 (Sort.ahead w n2) blk 0 ys.toArray) os) S:=hin.turn (·=blk) (λg i e hs=>absurd (e ▸ hs) (R.noS i)) (λq hq hne=>Ur hq hne) X5 λb i hs=>(hkeep b i hs).2
 have hownX:Ady [.arr e 1 0 (xs.flatMap eI)] H blk:=⟨0,_,rfl,by show Cz (H 0)=_;rw[hH];rfl⟩
 refine⟨_,.tup [],[.arr e 1 0 (ys.flatMap eI)],S,H,rfl,⟨rfl,rfl⟩,⟨rfl,rfl,rfl,X5,λb hb hx=>Ur hb λe=>hx (e ▸ hownX),λb i hs=>hs,λb i hs=>(hkeep b i hs).2,λb i _ _ hs=>hs⟩,hin2,⟨λp b hb=>?_,λp b g' hb ho=>?_,λp q b b' g' hb hb' _ _=>?_,λp b g' i hb ho hs=>?_⟩,λp b g' hb ho=>?_,⟨zO _,λ_ _ _ _=>rfl,λp e' sz' k' cs' hp hm=>?_,λ_ _ h=>h⟩,H8⟩
 ·match p with
  | 0 =>
   obtain rfl:=zD hb
   refine⟨by decide,zZ _,xs.length,ys.map V4,⟨by rw[zY,hyl];omega,.inr ⟨blk,cap,_,hH,zZ _,hsame,R.fits,R.most,?_,?_⟩⟩,Ahx ys,λg' _ i hi=>absurd hi (zW _)⟩
   ·rw[yE,zH,zY,yB,zX,zX,yE,hyl,R.cs]
    have:=R.fits
    omega
   ·rw[xA,k9,xY (by rw[zY];simp [hyl]),<- hyl]
    have:ys.toArray.toList.map V4=ys.map V4:=by simp
    rw[this,<- zY (f:=V4),yJ]
  | p+1=>simp at hb
 ·match p with
  | 0 =>
   obtain rfl:=zD hb
   have hg':Cz (H 0)=some g':=ho
   rw[hH] at hg'
   obtain rfl:blk=g':=by simpa [Cz] using hg'
   exact z6 R.lt X5
  | p+1=>simp at hb
 ·match p,q with
  | 0,0=>rfl
  | 0,q+1=>simp at hb'
  | p+1,_=>simp at hb
 ·match p with
  | 0 =>
   obtain rfl:=zD hb
   have hg':Cz (H 0)=some g':=ho
   rw[hH] at hg'
   obtain rfl:blk=g':=by simpa [Cz] using hg'
   exact absurd hs (R.noS i)
  | p+1=>simp at hb
 ·match p with
  | 0 =>
   obtain rfl:=zD hb
   exact .inr ⟨0,_,rfl,ho⟩
  | p+1=>simp at hb
 ·match p with
  | 0 =>
   obtain⟨rfl,rfl,rfl,rfl⟩:e=e'/\1=sz'/\0=k'/\ys.flatMap eI=cs':=by simpa using hm
   exact⟨0,_,rfl,.inl ⟨by rw[Aq hf,Aq hf,hyl],rfl⟩⟩
  | p+1=>simp at hp
def Aj6 (xs:List Int):List Int:=Go.Lib.compactUpTo xs.toArray xs.toArray.size
theorem Azh {e:Nat} {w w':World} {S S':Bz} {H:Nat->Value} {xs zs:List Int} {v:Value} (hx:Vt (Ady [.arr e 1 0 (xs.flatMap eI)] H) w S w' S') (hin:InH w' S') (hown:w'.ownsRow 0 e 1 v zs.length (zs.map V4))
  (hv:∀ g,Cz v=some g->g<w'.heap.size/\(w.heap.size<=g\/Ady [.arr e 1 0 (xs.flatMap eI)] H g)/\∀ i,¬ S' g i) :
  ∃ v' x m' S'' H',Ending.returned v=.returned v'/\(x=.s (.one (.ls 1 zs.length))/\m'=[.dead,.arr e 1 0 (zs.flatMap eI)])/\Vt (Ady [.arr e 1 0 (xs.flatMap eI)] H) w S w' S''/\InH w' S''/\Mem w' S'' m' H' /\
   (∀ (p:Nat) (b:Blk) (g:Nat),m'[p]? = some b->b.own (H' p)=some g->w.heap.size<=g\/Ady [.arr e 1 0 (xs.flatMap eI)] H g)/\Axi [.arr e 1 0 (xs.flatMap eI)] H m' H'/\AVR (Bt w' S'' m' H') x v':=by
 have hf:∀ x:Int,(eI x).length=1:=λ_=>rfl
 have h01:Mr H 1 v 0=H 0:=Bw _ _ (by decide)
 obtain⟨ho1,ho2⟩:=Sy hown
 refine⟨v,_,_,S',Mr H 1 v,rfl,⟨rfl,rfl⟩,hx,hin,⟨λp b hb=>?_,λp b g' hb ho=>?_,λp q b b' g' hb hb' ho ho'=>?_,λp b g' i hb ho hs=>?_⟩,λp b g' hb ho=>?_,⟨by simp,λp g hp hh=>?_,λp e' sz' k' cs' hp hm=>?_,λp hp h=>?_⟩,?_⟩
 ·match p with
  | 0=>obtain rfl:=zD hb;trivial
  | 1 =>
   obtain rfl:=zD hb
   rw[Bm]
   exact⟨by decide,zZ _,_,_,hown,Ahx zs,λg' _ i hi=>absurd hi (zW _)⟩
  | p+2=>simp at hb
 ·match p with
  | 0=>obtain rfl:=zD hb;cases ho
  | 1=>obtain rfl:=zD hb;rw[Bm] at ho;exact(hv g' ho).1
  | p+2=>simp at hb
 ·match p,q with
  | 0,_=>obtain rfl:=zD hb;cases ho
  | _,0=>obtain rfl:=zD hb';cases ho'
  | 1,1=>rfl
  | p+2,_=>simp at hb
  | _,q+2=>simp at hb'
 ·match p with
  | 0=>obtain rfl:=zD hb;cases ho
  | 1=>obtain rfl:=zD hb;rw[Bm] at ho;exact absurd hs ((hv g' ho).2.2 i)
  | p+2=>simp at hb
 ·match p with
  | 0=>obtain rfl:=zD hb;cases ho
  | 1=>obtain rfl:=zD hb;rw[Bm] at ho;exact(hv g' ho).2.1
  | p+2=>simp at hb
 ·match p with
  | 0=>exact h01
  | p+1=>simp at hp
 ·match p with
  | 0=>cases hm
  | p+1=>simp at hp
 ·match p with
  | 0=>rw[h01];exact h
  | p+1=>simp at hp
 ·refine⟨by simp,⟨ho1,by rw[Bm];exact ho2⟩,λe' sz k cs hm=>?_⟩
  obtain⟨rfl,rfl,rfl,rfl⟩:e=e'/\1=sz/\0=k/\zs.flatMap eI=cs:=by simpa using hm
  exact⟨by rw[Aq hf];omega,λ_=>(Bm _ _ _).symm⟩
theorem Asa {P:Program} {ρ:Ren} (L:Go.Proofs.SlLaysE.n43 P ρ) {e:Nat} {xs:List Int} (hn:xs.length<=1000000000000000000) (heq:Go.Proofs.EqlAt P (ρ.t 23) (Value.int .i64) (λx y=>decide (x=y))) (hne:Go.Proofs.NeqAt P (ρ.t 23) (Value.int .i64) (λx y=>decide (x=y))) (v23:∀ w,(zeroValue (ρ.t 23)).run P w=.ok (.int .i64 0) w)
  (hnil:A6 P (ρ.f 43) [.one (.raw (.slice none 0 0))] (·=.s (.one (.raw (.slice none 0 0))))) :
  Cv P (ρ.f 43) [.arr e 1 0 (xs.flatMap eI)] [.one (.ls 0 xs.length)] (λy m'=>y=.s (.one (.ls 1 (Aj6 xs).length))/\m'=[.dead,.arr e 1 0 ((Aj6 xs).flatMap eI)]):=by
 have hf:∀ x:Int,(eI x).length=1:=λ_=>rfl
 intro w S H vs hin mem hvs
 obtain⟨hvl,hvr⟩:=hvs
 obtain⟨v0,rfl⟩:∃ v0,vs = #[v0]:=by
  obtain⟨l⟩:=vs
  match l,hvl with
  | [a],_=>exact⟨a,rfl⟩
 obtain⟨_,_,hv0⟩:=(show Df w S [.arr e 1 0 (xs.flatMap eI)] H (.ls 0 xs.length) v0 from hvr 0 _ v0 rfl rfl)
 have hv0':=(hv0 e 1 0 _ rfl).2 (Aq hf xs).symm
 rcases Al6 (P:=P) mem with⟨hH,rfl⟩|⟨blk,cap,cur,R⟩
 ·rw[hv0',hH]
  refine(hnil w S #[.slice none 0 0] hin ⟨rfl,λj x u h1 h2=>?_⟩).mono ?_
  ·cases j with
   | zero=>obtain rfl:=zD h1;obtain rfl:=zD h2;exact .raw _ rfl
   | succ j=>simp at h1
  rintro e' w' ⟨v,x,S',rfl,rfl,ext,hin',hav⟩
  have hvn:v=.slice none 0 0:=Eu (Bt.of_rep (m:=[]) (H:=H) hav)
  subst hvn
  have hx:Vt (Ady [.arr e 1 0 (([]:List Int).flatMap eI)] H) w S w' S':=⟨ext.os,ext.tape,ext.output,ext.size,λb hb _=>ext.blk b hb,ext.sub,λb i hs=>(ext.keeps hin b i hs).2,λb i hb _ hs=>ext.back b i hb hs⟩
  exact Azh (zs:=[]) hx hin' ⟨rfl,.inl ⟨rfl,rfl⟩⟩ (λg hg=>by cases hg)
 have hH:=R.h
 have hO:Go.Proofs.OneCell (Value.int .i64):=λ_=>rfl
 have hcon:=Go.Proofs.AnyE.slices_Compact L (Value.int .i64) hO heq hne 0 v23 blk 0 cap xs.toArray w R.holds (by rw[yE];omega) (by rw[yE];exact R.fits)
 rw[hv0',hH]
 rw[yE] at hcon
 refine hcon.mono ?_
 rintro e' w' ⟨rfl,n2,rfl⟩
 have hcz:Go.Lib.compactUpTo xs.toArray xs.length=Aj6 xs:=by unfold Aj6;rw[yE]
 rw[hcz]
 have hzl:(Aj6 xs).length<=xs.length:=by
  unfold Aj6 Go.Lib.compactUpTo
  rw[zY]
  refine yP (wC _ _) ?_
  rw[List.length_range,yE]
  exact zO _
 generalize Aj6 xs=zs at hzl
 generalize hds:(zs++List.replicate (xs.length-zs.length) (0:Int)).toArray=ds
 have hdsz:ds.size=xs.length:=by rw[<- hds,yE,zH,zAd];omega
 have hdt:ds.toList.take zs.length=zs:=by rw[<- hds,xA,wK];rfl
 have hw:putRow (Value.int .i64) (Sort.ahead w n2) blk 0 ds=grow (putRow V4 (Sort.ahead w n2) blk 0 ds) #[]:=(grow_empty _).symm
 rw[hw]
 have hsame:(grow (putRow V4 (Sort.ahead w n2) blk 0 ds) #[]).heap[blk]? = _:=Akq (n:=n2) (os:=#[]) (d:=ds) R.heap (by rw[hdsz,R.cs];have:=R.fits;omega)
 have hkeep:∀ b i,S b i->S b i/\(grow (putRow V4 (Sort.ahead w n2) blk 0 ds) #[]).cell? ⟨b,i,none⟩=w.cell? ⟨b,i,none⟩:=λb i hs =>
  ⟨hs,World.cell?_of_block (w:=w) (Ur (hin.1 b i hs) λe=>R.noS i (e ▸ hs))⟩
 have hin2:InH (grow (putRow V4 (Sort.ahead w n2) blk 0 ds) #[]) S:=hin.turn (·=blk) (λg i e hs=>absurd (e ▸ hs) (R.noS i)) (λq hq hne=>Ur hq hne) X5 λb i hs=>(hkeep b i hs).2
 have hownX:Ady [.arr e 1 0 (xs.flatMap eI)] H blk:=⟨0,_,rfl,by show Cz (H 0)=_;rw[hH];rfl⟩
 refine Azh ⟨rfl,rfl,rfl,X5,λb hb hx=>Ur hb λe=>hx (e ▸ hownX),λb i hs=>hs,λb i hs=>(hkeep b i hs).2,λb i _ _ hs=>hs⟩ hin2 ⟨by rw[zY,k9],.inr ⟨blk,cap,_,rfl,zZ _,hsame,by have:=R.fits;omega,R.most,?_,?_⟩⟩ (λg hg=>?_)
 ·rw[yE,zH,zY,yB,zX,zX,hdsz,R.cs]
  have:=R.fits
  omega
 ·rw[xA,k9,xY (by simpa [hdsz] using hzl),<- List.map_take]
  exact congrArg (List.map V4) hdt
 ·obtain rfl:blk=g:=by simpa [Cz] using hg
  exact⟨z6 R.lt X5,.inr hownX,R.noS⟩
theorem nn {b:Bool} (h:b=false):¬ b=true:=λh'=>by rw[h] at h';cases h'
theorem Zs {α:Type} {xs:List α} {p:α->Bool} (h:∀ x∈xs,p x=false):xs.find? p=none:=w4.2 λx hx=>by rw[h x hx];decide
theorem Afv {α ρ:Type} (xs:List α) (p:α->Bool) (g:α->ρ) (f:Int->Option (LR Int Unit ρ)) (hl:xs.length<=1000000000000000000)
  (h:∀ (i:Nat) x,xs[i]? = some x->f (i:Int)=some (if p x then .ret (g x) else .cont ((i+1:Nat):Int))) (hend:f (xs.length:Int)=some (.brk ())) :
  Gj f fuel 0=some (match xs.find? p with|some x=>.inl (g x)|none=>.inr ()):=by
 obtain⟨v,hv,hr⟩:=Cr (f:=f) (P:=λs=>∃ i:Nat,i<=xs.length/\s=(i:Int)/\xs.find? p=(xs.drop i).find? p) (μ:=λs=>xs.length-s.toNat)
  (R:=λr=>r=(match xs.find? p with|some x=>Sum.inl (g x)|none=>Sum.inr ())) (by
   rintro _ ⟨i,hi,rfl,hp⟩
   rcases zU i xs.length with hlt|hge
   ·have hx:=zC hlt
    have hf:=h i _ hx
    have hd:xs.drop i=xs[i]::xs.drop (i+1):=wD hlt
    cases hpx:p xs[i] with
    | true =>
     rw[hpx,if_pos rfl] at hf
     refine .inr (.inr ⟨_,hf,?_⟩)
     rw[hp,hd,kU,hpx]
    | false =>
     rw[hpx,if_neg (by decide)] at hf
     refine .inl ⟨_,hf,⟨i+1,hlt,rfl,?_⟩,by simp only[zT];omega⟩
     rw[hp,hd,kU,hpx]
   ·have e:i=xs.length:=by omega
    subst e
    refine .inr (.inl ⟨(),hend,?_⟩)
    rw[hp,jW];rfl) fuel 0 ⟨0,zZ _,rfl,rfl⟩ (Bs (by show xs.length-0<=_;omega))
 rw[hv,hr]
theorem Ayy {α ρ:Type} (xs:List α) (p:α->Bool) (no:ρ) (f:Int->Option (LR Int Unit ρ)) (hl:xs.length<=1000000000000000000)
  (h:∀ (i:Nat) x,xs[i]? = some x->f (i:Int)=some (if p x then .cont ((i+1:Nat):Int) else .ret no)) (hend:f (xs.length:Int)=some (.brk ())) :
  Gj f fuel 0=some (if xs.all p then .inr () else .inl no):=by
 rw[Afv xs (λx=>!p x) (λ_=>no) f hl (λi x hx=>by
  rw[h i x hx]
  cases p x <;> rfl) hend]
 cases ha:xs.all p with
 | true =>
  rw[Zs λx hx=>by rw[zL.1 ha x hx];rfl];rfl
 | false =>
  obtain⟨x,hx,hp⟩:=List.all_eq_false.1 ha
  cases hf:xs.find? (λx=>!p x) with
  | none=>exact absurd (w4.1 hf x hx) (by simpa using hp)
  | some y=>rfl
theorem Ajm {α β:Type} (xs:List α) (g:α->List β) (f:Int×List β->Option (LB (Int×List β) (List β))) (k:Nat) (hg:∀ x,(g x).length<=k) (hl:xs.length<=1000000000000000000)
  (h:∀ (i:Nat) x acc,xs[i]? = some x->acc.length<=i*k->f ((i:Int),acc)=some (.cont (((i+1:Nat):Int),acc++g x))) (hend:∀ acc,f ((xs.length:Int),acc)=some (.brk acc)) :
  B8 f fuel (0,[])=some (xs.flatMap g):=by
 obtain⟨v,hv,hr⟩:=Cj (f:=f) (P:=λs=>∃ i:Nat,i<=xs.length/\s=((i:Int),(xs.take i).flatMap g)) (μ:=λs=>xs.length-s.1.toNat) (R:=λv=>v=xs.flatMap g) (by
  rintro _ ⟨i,hi,rfl⟩
  rcases zU i xs.length with hlt|hge
  ·left
   have hlen:((xs.take i).flatMap g).length<=i*k:=by
    have key:∀ l:List α,(l.flatMap g).length<=l.length*k:=λl=>by
     induction l with
     | nil=>simp
     | cons a l ih =>
      rw[yW,zH,xD,jH]
      have:=hg a
      omega
    have:=key (xs.take i)
    rwa [zN,wV hi] at this
   refine⟨_,h i _ _ (zC hlt) hlen,⟨i+1,hlt,?_⟩,by simp only[zT];omega⟩
   rw[zV hlt,w9];simp
  ·right
   have e:i=xs.length:=by omega
   subst e
   exact⟨_,hend _,by rw[yJ]⟩) fuel (0,[]) ⟨0,zZ _,by simp⟩ (Bs (by show xs.length-0<=_;omega))
 rw[hv,hr]
theorem Y9 {α β:Type} (xs:List α) (p:α->Bool) (g:α->β):xs.flatMap (λx=>if p x then[g x] else[])=(xs.filter p).map g:=by
 induction xs with
 | nil=>rfl
 | cons x xs ih =>
  rw[yW,ih,jI]
  cases p x <;> rfl
theorem Aqm {α β:Type} (xs:List α) (g:α->β):xs.flatMap (λx=>[g x])=xs.map g:=by
 induction xs with
 | nil=>rfl
 | cons x xs ih=>rw[yW,ih];rfl
def Apo (l:List Int):Prop:=l.Pairwise (· < ·)
theorem Al7 {xs:List Int} (hs:xs.Pairwise (·<=·)):Apo (Aj6 xs)/\∀ x,x∈Aj6 xs↔x∈xs:=by
 have key:∀ m,m<=xs.length->Apo (Go.Lib.compactUpTo xs.toArray m)/\(∀ x,x∈Go.Lib.compactUpTo xs.toArray m↔x∈xs.take m):=λm=>by
  induction m with
  | zero=>intro _;exact⟨by simp [Go.Lib.compactUpTo,Apo],λx=>by simp [Go.Lib.compactUpTo]⟩
  | succ m ih =>
   intro hm
   obtain⟨h1,h2⟩:=ih (by omega)
   have hlt:m<xs.length:=by omega
   have hU:Go.Lib.compactUpTo xs.toArray (m+1)=Go.Lib.compactUpTo xs.toArray m++(if Go.Lib.keeps xs.toArray m then[xs[m]] else[]):=by
    unfold Go.Lib.compactUpTo
    rw[List.range_succ,List.filter_append,xC]
    congr 1
    rw[jI]
    cases Go.Lib.keeps xs.toArray m with
    | true =>
     rw[if_pos rfl,if_pos rfl]
     simp [zC hlt]
    | false=>rfl
   rw[hU,zV hlt]
   have hle:∀ x∈xs.take m,x<=xs[m]:=λx hx=>by
    obtain⟨j,hj,rfl⟩:=yU hx
    rw[jQ]
    have hjm:j<m:=by rw[zN] at hj;omega
    exact(yN.1 hs) j m (by omega) hlt hjm
   by_cases h0:m=0
   ·subst h0
    have hk:Go.Lib.keeps xs.toArray 0=true:=by unfold Go.Lib.keeps;simp
    rw[hk,if_pos rfl]
    refine⟨?_,λx=>by simp [Go.Lib.compactUpTo]⟩
    simp [Go.Lib.compactUpTo,Apo]
   have hm1:m-1<xs.length:=by omega
   have hkk:Go.Lib.keeps xs.toArray m=decide (xs[m]≠xs[m-1]):=by
    unfold Go.Lib.keeps
    rw[getElem!_pos xs.toArray m (by simpa using hlt),getElem!_pos xs.toArray (m-1) (by simpa using hm1)]
    simp [h0]
   rw[hkk]
   have hlast:xs[m-1]∈xs.take m:=List.mem_iff_getElem.2 ⟨m-1,by rw[zN];omega,by rw[jQ]⟩
   by_cases he:xs[m]=xs[m-1]
   ·rw[if_neg (by simp [he]),xG]
    refine⟨h1,λx=>?_⟩
    rw[h2,yC,zP]
    constructor
    ·exact .inl
    ·rintro(h|rfl)
     ·exact h
     ·rw[he];exact hlast
   ·rw[if_pos (by simp [he])]
    have hll:xs[m-1]<=xs[m]:=hle _ hlast
    have hlt2:∀ x∈xs.take m,x<xs[m]:=λx hx=>by
     obtain⟨j,hj,rfl⟩:=yU hx
     rw[jQ]
     have hjm:j<m:=by rw[zN] at hj;omega
     have:xs[j]<=xs[m-1]:=by
      rcases zU j (m-1) with h|h
      ·exact(yN.1 hs) j (m-1) (by omega) hm1 h
      ·have:j=m-1:=by omega
       subst this;exact xQ _
     omega
    refine⟨wN.2 ⟨h1,wT _ _,λa ha b hb=>?_⟩,λx=>?_⟩
    ·rw[zP.1 hb];exact hlt2 a ((h2 a).1 ha)
    ·rw[yC,yC,h2]
 have:=key xs.length (zO _)
 unfold Aj6
 rw[yE]
 rw[yJ] at this
 exact this
def Ae7 (l:List Int):List Int:=Aj6 (l.mergeSort λx y=>decide (x<=y))
theorem As5 (l:List Int):(l.mergeSort λx y=>decide (x<=y)).Pairwise (·<=·):=by
 have:=List.pairwise_mergeSort (le:=λx y:Int=>decide (x<=y)) (λa b c h1 h2=>by rw[decide_eq_true_eq] at *;omega) (λa b=>by simp;omega) l
 exact this.imp λh=>of_decide_eq_true h
theorem Akn {l:List Int} {x:Int}:x∈Ae7 l↔x∈l:=((Al7 (As5 l)).2 x).trans (List.mem_mergeSort ..)
theorem Amg (l:List Int):(Ae7 l).length<=l.length:=by
 unfold Ae7 Aj6 Go.Lib.compactUpTo
 rw[zY]
 refine yP (wC _ _) ?_
 rw[List.length_range,yE,jU]
 exact zO _
open Go.RowKit Go.MapKept Go.Conc
open Go.ChangeMaps (setBlock)
open Go.RowKit
section
variable {P:Program} {c:Ctx} {st:AS} {ty:TypeId}
theorem Ahh {xt:TypeId} {x:Operand} {n:Int} (hu:P.underlying xt=some (.int .i64)) (hx:B2 st x=.s (.one (.i .i64 n))):OpV P c st (.makeInterface xt x) ty (.s (.one (.raw (.iface xt (.int .i64 n))))):=by
 intro a w S H r
 have h1:=Ba r x
 rw[hx] at h1
 have e1:a.eval x=.int .i64 n:=Sk h1
 exact⟨.iface xt (.int .i64 n),Fl (.raw _ rfl),λ_ _ _ _=>by simp [execOp,e1,Instr.makeInterface,run_underlying hu]⟩
end
theorem ccI {P:Program} {c:Ctx} {x y:Code} {o:Operand} {t:Nat->AV} {m:List Blk} {Q:Exit->AS->Prop} {b:Bool} {α:Type} {u v:Option α} {r:α} (h:(if b then u else v)=some r) (ho:B2 ⟨t,m⟩ o=.s (.one (.b b)))
  (h1:u=some r->AWC P c x Q ⟨t,m⟩) (h0:v=some r->AWC P c y Q ⟨t,m⟩):AWC P c (.cond o x y) Q ⟨t,m⟩:=B1 ho (λhc=>h1 (P8 hc h)) (λhc=>h0 (P3 hc h))
theorem Ag0 {P:Program} {f:FuncId} {x y:Value} {r:Lf} {v:Value} (hr:∀ w S,Rep w S r v) (h:∀ w,Calls P f #[x,y] w λe w'=>e=.returned v/\w'=w):A6 P f [.one (.raw x),.one (.raw y)] (·=.s (.one r)):=by
 intro w S vs hS hv
 have hvs:vs = #[x,y]:=by
  obtain⟨l⟩:=vs
  obtain⟨hl,hg⟩:=hv
  match l,hl with
  | [v1,v2],_ =>
   have g1:Rep w S (.raw x) v1:=hg 0 _ v1 rfl rfl
   have g2:Rep w S (.raw y) v2:=hg 1 _ v2 rfl rfl
   cases g1;cases g2;rfl
 subst hvs
 refine(h w).mono ?_
 rintro e w' ⟨rfl,rfl⟩
 exact⟨v,_,S,rfl,rfl,Ext.refl _ _,hS,hr _ _⟩
open Go.RowKit
def Axh (st:AS):Op->Option SV
 | .move x=>match B2 st x with
  | .s v=>some v
  | _=>none
 | .assign x=>match B2 st x with
  | .s v=>some v
  | _=>none
 | .pick b x y=>match B2 st b with
  | .s (.one (.b true))=>match B2 st x with
   | .s v=>some v
   | _=>none
  | .s (.one (.b false))=>match B2 st y with
   | .s v=>some v
   | _=>none
  | _=>none
 | _=>none
theorem Ank {P:Program} {c:Ctx} {st:AS} {op:Op} {ty:TypeId} {v:SV} (h:Axh st op=some v):OpV P c st op ty (.s v):=by
 unfold Axh at h
 split at h
 ·split at h
  ·rename_i hx;cases h;exact Bj hx
  ·cases h
 ·split at h
  ·rename_i hx;cases h;exact Hh hx
  ·cases h
 ·split at h
  ·rename_i hb
   split at h
   ·rename_i hx;cases h;exact Cp hb hx
   ·cases h
  ·rename_i hb
   split at h
   ·rename_i hx;cases h;exact Cn hb hx
   ·cases h
  ·cases h
 ·cases h
def Akj (nt:Nat) (m:List Blk) (ops:Array Oper):Nat->List Oper->(Nat->AV)->Option (List Oper×(Nat->AV))
 | 0,l,t=>some (l,t)
 | n+1,l,t=>match l with
  | []=>none
  | o::rest=>match o with
   | ⟨some d,op,_,_,_,g⟩=>match decide (d<nt) with
    | true=>match g with
     | none=>match Axh ⟨t,m⟩ op with
      | some v=>Akj nt m ops n rest (upd t d (.s v))
      | none=>none
     | some (j,want)=>match (ops[j]?).bind (·.dst) with
      | some dj=>match t dj with
       | .s (.one (.b b))=>match b==want with
        | false=>Akj nt m ops n rest (upd t d (.tup []))
        | true=>match decide (dj<nt) with
         | true=>match Axh ⟨t,m⟩ op with
          | some v=>Akj nt m ops n rest (upd t d (.s v))
          | none=>none
         | false=>none
       | _=>none
      | none=>none
    | false=>none
   | _=>none
theorem rm {P:Program} {c:Ctx} {m:List Blk} {ops:Array Oper} {Q:Exit->AS->Prop} (n:Nat) {l l':List Oper} {t t':Nat->AV} (h:Akj c.nt m ops n l t=some (l',t')) (k:AWL P c ops Q l' ⟨t',m⟩):AWL P c ops Q l ⟨t,m⟩:=by
 induction n generalizing l t with
 | zero=>cases h;exact k
 | succ n ih =>
  unfold Akj at h
  split at h
  ·cases h
  split at h
  ·rename_i rest d op ty pos af g
   split at h
   ·rename_i hd
    split at h
    ·split at h
     ·rename_i v hv
      exact sv hd (Ank hv) (ih h)
     ·cases h
    ·rename_i j want
     split at h
     ·rename_i dj hj
      split at h
      ·rename_i b ht
       split at h
       ·rename_i hb
        exact Ay7 hd hj ht hb (ih h)
       ·rename_i hb
        split at h
        ·rename_i hn
         split at h
         ·rename_i v hv
          have hb:b=want:=by simpa using hb
          subst hb
          exact son hn hj ht (sv hd (Ank hv) (ih h))
         ·cases h
        ·cases h
      ·cases h
     ·cases h
   ·cases h
  ·cases h
theorem dnT {P:Program} {fn:Func} {R:AV->Prop} {st:AS} {t:Tmp} {x:SV} (hr:fn.results.toList=[.tmp t]) (hx:st.t t=.s x) (hp:x.cells.all Lf.pubd=true) (hR:R (.s x)):Asw P fn R .ret st :=
 ⟨Or.inr rfl,[x],[x],st.m,by rw[hr];exact Au (.tmp _ _ hx) A4,Bq (by simpa using hp),hR⟩
theorem dnA {P:Program} {fn:Func} {R:AV->Prop} {st:AS} {t:Tmp} {ty:TypeId} {sz:Nat} {l:Lf} {cs:List Lf} (hr:fn.results.toList=[.cell t ty]) (ti:TI P ty true sz) (ht:st.t t=.s (.one l)) (hp:Aba st l cs) (hy:sz<=cs.length) (hb:(cs.take sz).all Lf.pubd=true) (hR:R (.s (.agg (cs.take sz)))):Asw P fn R .ret st :=
 ⟨Or.inr rfl,[.agg (cs.take sz)],[.agg (cs.take sz)],st.m,by rw[hr];exact Au (.agg _ _ _ _ _ ti ht hp hy) A4,Bq (by simpa [SV.cells] using hb),hR⟩
theorem evs {α:Prop} {md:List Blk} {all:List (List Blk)} (k:Zp md all->α) (h:Zp md all):α:=k h
section
variable {P:Program} {c:Ctx} {t:Nat->AV} {m:List Blk} {ops:Array Oper} {Q:Exit->AS->Prop} {rest:List Oper} {ty ty':TypeId} {pos pos':String} {af af':Array Edge} {d e:Tmp}
theorem csr {id:Nat} {l:List Oper} {y:Code} (h:AWL P c l.toArray (Gh (AWC P c y Q) Q) l ⟨t,m⟩):AWC P c (.seq (.region id l.toArray false) y) Q ⟨t,m⟩:=Bb (Bg h)
theorem fl {s f off:Nat} {x y:Operand} {p o q:Nat} {T:TypeId} {cs:List Lf} {z:Lf} (fi:FI P s f off) (ti:TI P T false 1) (h1:decide (d<c.nt)=true) (hx:B2 ⟨t,m⟩ x=.s (.one (.lp p o))) (h2:decide (e<c.nt)=true) (hy:B2 ⟨upd t d (.s (.one (.lp p (o+off)))),m⟩ y=.s (.one (.lp p q))) (hm:m[p]? = some (.box cs)) (hz:(cs.drop q)[0]? = some z)
  (k:AWL P c ops Q rest ⟨upd (upd t d (.s (.one (.lp p (o+off))))) e (.s (.one z)),m⟩):AWL P c ops Q (⟨some d,.fieldAddr s x f,ty,pos,af,none⟩::⟨some e,.load T y,ty',pos',af',none⟩::rest) ⟨t,m⟩ :=
 sv h1 (Ah fi hx) (sv h2 (C5 ti hy (.lp _ _ _ hm) hz) k)
end
open Go.RowKit
theorem R.{u} {α:Sort u} {a:α}:a=a:=rfl
section
variable {P:Program} {c:Ctx} {t:Nat->AV} {m:List Blk} {ops:Array Oper} {Q:Exit->AS->Prop} {rest:List Oper} {ty:TypeId} {pos:String} {af:Array Edge} {d:Tmp}
theorem ld {T:TypeId} {sz:Nat} {x:Operand} {p off:Nat} {cs:List Lf} (ti:TI P T true sz) (h1:decide (d<c.nt)=true) (hx:B2 ⟨t,m⟩ x=.s (.one (.lp p off))) (hm:m[p]? = some (.box cs)) (hy:Nat.ble sz (cs.drop off).length=true)
  (k:AWL P c ops Q rest ⟨upd t d (.s (.agg ((cs.drop off).take sz))),m⟩):AWL P c ops Q (⟨some d,.load T x,ty,pos,af,none⟩::rest) ⟨t,m⟩ :=
 sv h1 (Uh ti hx (.lp _ _ _ hm) (wH hy)) k
theorem sst {t':TypeId} {x y:Operand} {p off sz:Nat} {v:SV} {cs:List Lf} (hi:(P.info? t').map (·.size)=some sz) (hx:B2 ⟨t,m⟩ x=.s (.one (.lp p off))) (hy:B2 ⟨t,m⟩ y=.s v) (hm:m[p]? = some (.box cs))
  (hv:v.cells.length=sz) (hfit:Nat.ble (off+sz) cs.length=true)
  (k:AWL P c ops Q rest ⟨t,m.set p (.box (Ky cs off v.cells))⟩):AWL P c ops Q (⟨none,.store t' x y,ty,pos,af,none⟩::rest) ⟨t,m⟩ :=
 Axf hi hx hy hm hv (wH hfit) k
theorem ssI {l:List Oper} (dj:Tmp) {b:Bool} {α:Type} {u v:Option α} {r:α} (h:(if b then u else v)=some r) (ht:t dj=.s (.one (.b b))) (k1:u=some r->AWL P c ops Q l ⟨upd t dj (.s (.one (.b true))),m⟩) (k0:v=some r->AWL P c ops Q l ⟨upd t dj (.s (.one (.b false))),m⟩):AWL P c ops Q l ⟨t,m⟩ :=
 Ama dj ht (λhc=>k1 (P8 hc h)) (λhc=>k0 (P3 hc h))
theorem ra {st:AS} {t:Tmp} {ty:TypeId} {sz:Nat} {p off:Nat} {cs:List Lf} (ti:TI P ty true sz) (h:st.t t=.s (.one (.lp p off))) (hm:st.m[p]? = some (.box cs)) (hy:Nat.ble sz (cs.drop off).length=true):Aqv P st (.cell t ty) (.agg ((cs.drop off).take sz)) :=
 .agg _ _ _ _ _ ti h (.lp _ _ _ hm) (wH hy)
theorem rt {st:AS} {t:Tmp} {x:SV} (h:st.t t=.s x):Aqv P st (.tmp t) x:=.tmp _ _ h
theorem dn {fn:Func} {R':AV->Prop} {st:AS} {xs ys:List SV} {m':List Blk} (hr:Aah P st fn.results.toList xs) (hp:W6 st.m xs ys m') (h:R' (Acn ys)):Asw P fn R' .ret st:=⟨Or.inr rfl,xs,ys,m',hr,hp,h⟩
theorem A0p {ws es:List Nat} {all:List (List Blk)} {k:(Nat->AV)->Prop} {i:Nat} {Ms:List (List Blk)} {l:List Oper} (dj:Tmp) {y:AV} (z:AV) (ht:t dj=y) (e:y=z) (kk:DE P c ops ws es all k i Ms l (upd t dj z)):DE P c ops ws es all k i Ms l t:=by
 subst e
 have:upd t dj y=t:=by
  funext j
  rw[Ej]
  split
  ·rename_i h;rw[h,ht]
  ·rfl
 rwa [this] at kk
end
open Go.RowKit
def cjB (n:Nat) (sl:List (Nat×AV)) (mm:List Blk):Bool:=(sl.all λp=>p.2.inbB mm.length)&&mm.all (Blk.inbB mm.length)&&Nat.ble n mm.length
theorem An8 {n:Nat} {sl:List (Nat×AV)} {mm:List Blk} (h:cjB n sl mm=true):Ai7 mm.length sl/\(∀ b∈mm,b.inb mm.length)/\n<=mm.length:=by
 unfold cjB at h
 simp only[zS] at h
 exact⟨T9 h.1.1,M1 h.1.2,wH h.2⟩
section
variable {P:Program} {c:Ctx} {Q Q' Q'':Exit->AS->Prop} {st:AS}
theorem cj {x y:Code} (G:Type) (sl:G->List (Nat×AV)) (mm:G->List Blk) (pre:G->Prop) (hb:∀ g,cjB c.m0.length (sl g) (mm g)=true)
  (hy:∀ g,pre g->AWC P c y Q ⟨Zf (λ_=>.top) (sl g),mm g⟩) (hx:AWC P c x (Gh (Auy sl mm pre) Q') st):AWC P c x (Gh (AWC P c y Q) Q') st :=
 Ayc G sl mm pre (λg _=>(An8 (hb g)).1) (λg _=>(An8 (hb g)).2.1) (λg _=>(An8 (hb g)).2.2) hy hx
theorem cj3 {x y z:Code} (G:Type) (sl:G->List (Nat×AV)) (mm:G->List Blk) (pre:G->Prop) (hb:∀ g,cjB c.m0.length (sl g) (mm g)=true)
  (hy:∀ g,pre g->AWC P c z Q ⟨Zf (λ_=>.top) (sl g),mm g⟩) (hx:AWC P c x (Gh (AWC P c y (Gh (Auy sl mm pre) Q'')) Q') st):AWC P c x (Gh (AWC P c y (Gh (AWC P c z Q) Q'')) Q') st :=
 Awf G sl mm pre (λg _=>(An8 (hb g)).1) (λg _=>(An8 (hb g)).2.1) (λg _=>(An8 (hb g)).2.2) hy hx
theorem lpo {body:Code} {G:Type} (sl:G->List (Nat×AV)) (mm:G->List Blk) (pre:G->Prop) (μ:G->Nat) (g0:G) (p0:pre g0) (s0:Nm st.t (sl g0)) (ex:List Blk) (m0:st.m=mm g0++ex) (hb:∀ g,cjB c.m0.length (sl g) (mm g)=true)
  (round:∀ g,pre g->AWC P c body (Gh (λst'=>∃ g' ex',pre g'/\Nm st'.t (sl g')/\st'.m=mm g'++ex'/\μ g'<μ g) Q) ⟨Zf (λ_=>.top) (sl g),mm g⟩):AWC P c (.loop body) Q st :=
 Aoq sl mm pre μ g0 p0 s0 ex m0 (λg _=>(An8 (hb g)).1) (λg _=>(An8 (hb g)).2.1) (λg _=>(An8 (hb g)).2.2) round
theorem lo {ty t:TypeId} {sz:Nat} {x:Operand} {p off:Nat} {cs:List Lf} (ti:TI P t true sz) (hx:B2 st x=.s (.one (.lp p off))) (hm:st.m[p]? = some (.box cs)) (hy:Nat.ble sz (cs.drop off).length=true):OpV P c st (.load t x) ty (.s (.agg ((cs.drop off).take sz))) :=
 Uh ti hx (.lp _ _ _ hm) (wH hy)
theorem l1 {ty t:TypeId} {x:Operand} {p off:Nat} {cs:List Lf} {y:Lf} (ti:TI P t false 1) (hx:B2 st x=.s (.one (.lp p off))) (hm:st.m[p]? = some (.box cs)) (hy:(cs.drop off)[0]? = some y):OpV P c st (.load t x) ty (.s (.one y)) :=
 C5 ti hx (.lp _ _ _ hm) hy
end
end Go.Proofs.YtkblaobhhoebaaaGreat.Abs
