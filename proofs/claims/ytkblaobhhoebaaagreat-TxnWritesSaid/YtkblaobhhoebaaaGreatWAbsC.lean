/-
  A walk over abstract states: its rules, part C.
-/
import Derived.Test.YtkblaobhhoebaaaGreatWAbsB
import Derived.WalkKit
import Derived.Lib.Walk
import Derived.Lib.SliceRun
import Derived.Lib.JoinLaws
import Derived.Lib.AppendZeros
import Derived.Lib.AppendZerosOnto
import Derived.Lib.Overlaps
import Derived.Laws.Externs
import Derived.Laws.IdiomCopy
import Derived.Laws.NewBlocks
import Derived.Shelf.RegionOpenPlain
import Derived.Shelf.Spec.SlicesInsert
import Derived.Lib.ConvBytes
import Derived.Maps.Range
import Derived.Shelf.SlSortCmp.WholeK
import Derived.Shelf.SlSortCmp.NoneTotal
import Derived.Shelf.SortM.Plain
import Derived.Shelf.SortM.SortNone
import Derived.Shelf.SlicesE.Compact
import Derived.Conc.LoneSelect
import Derived.Test.YtkblaobhhoebaaaGreatWAbsA
import Derived.SizedLaws
import Derived.OpenShut
import Derived.ChangeKeysEq
import Derived.LaidEql
import Derived.Stop.Asserts
import Derived.Stop.IfaceNil
import Derived.RowKitTokens
import Derived.Lib.IfaceEq
set_option linter.unusedVariables false
set_option linter.unusedSimpArgs false
namespace Go.Proofs.YtkblaobhhoebaaaGreat.Abs
open Go.RowKit
section
variable {P:Program} {c:Ctx} {ops:Array Oper} {Q:Exit→AS→Prop} {rest:List Oper} {ty:TypeId} {pos:String} {af:Array Edge} {d:Tmp} {t:Nat→AV} {m:List Blk}
theorem Anw {t':TypeId} {y:Operand} {x:SV} (hd:decide (d<c.nt)=true) (hx:Cs ⟨t,m⟩ y=.s x) (hpub:x.cells.all Lf.pubd=true)
  (k:AWL P c ops Q rest ⟨upd t d (.s (.one (.cp x.cells))),m⟩):AWL P c ops Q (⟨some d,.box t' y,ty,pos,af,none⟩::rest) ⟨t,m⟩:=by
 intro a w S H r
 have h:=Bw r y
 rw [hx] at h
 have hls:=Ud h (fun l v=>Cj.oneCell)
 obtain ⟨cells,hce⟩:∃ cells,cells=(a.eval y).cells:=⟨_,rfl⟩
 rw [← hce] at hls
 have hrun:(execOp a.eval ⟨some d,.box t' y,ty,pos,af,none⟩).run P w=.ok (.value (.pointer (some ⟨w.heap.size,0,none⟩))) (w.alloc (.cells cells t')):=by
  rw [hce];simp [execOp,Instr.box,newVar,newRow]
 let S':Cg:=fun b i=>S b i∨(b=w.heap.size∧i<cells.size)
 have hx1:Ext w S (w.alloc (.cells cells t')) S':=⟨rfl,rfl,rfl,by simp,fun b hb=>Below.heap_alloc w _ b hb,fun _ _ h=>.inl h,fun b i hb h=>by
  rcases h with h | ⟨h,_⟩
  ·exact h
  ·omega⟩
 have hin:InH (w.alloc (.cells cells t')) S':=⟨fun b i hs=>by
  rcases hs with hs | ⟨rfl,_⟩
  ·exact zU (r.sl.1 b i hs) hx1.size
  ·simp,r.sl.2.1.mono (hx1.keeps r.sl),(r.sl.2.2.ext (Ext.alloc w S _) r.sl.1).add fun b i hs=>by
   rcases hs with hs | ⟨rfl,hi⟩
   ·exact .inl hs
   ·refine .inr ⟨?_,fun j hj=>absurd (r.sl.1 _ j hj) (wJ _)⟩
    unfold World.cell?
    rw [show (w.alloc (.cells cells t')).heap[(⟨w.heap.size,i,none⟩:Addr).block]? = some (.cells cells t') from heap_alloc_new w _]
    show cells[i]? ≠ none
    rw [zP hi]
    exact fun h=>by cases h⟩
 refine wpList_plain rfl fun K hK=>?_
 unfold Oper.wp
 rw [hrun]
 refine hK _ _ (k _ _ _ _ ((r.ext hx1 hin).put (of_decide_eq_true hd) ?_))
 have hrep:Rep (w.alloc (.cells cells t')) S' (.cp x.cells) (.pointer (some ⟨w.heap.size,0,none⟩)):=by
  have hcell:∀ j,(w.alloc (.cells cells t')).cell? ⟨w.heap.size,j,none⟩=cells[j]? := fun j=>by
   unfold World.cell?
   rw [show (w.alloc (.cells cells t')).heap[(⟨w.heap.size,j,none⟩:Addr).block]? = some (.cells cells t') from heap_alloc_new w _]
   rfl
  have hj:∀ (j:Nat) (l:Lf),x.cells[j]? = some l→∃ v,cells[j]? = some v∧Cj w S m H l v:=fun j l hl=>by
   obtain ⟨v,h1,h2⟩:=hls.get hl
   exact ⟨v,by simpa using h1,h2⟩
  refine .cp x.cells w.heap.size 0 (fun j=>cells.getD j undef) (fun j l hl=>?_) (fun j l hl=>?_)
  ·obtain ⟨v,h1,h2⟩:=hj j l hl
   rw [yH]
   refine ⟨.inr ⟨rfl,(z7.1 h1).1⟩,(hcell j).trans ?_⟩
   simp [h1]
  ·obtain ⟨v,h1,h2⟩:=hj j l hl
   have:cells.getD j undef=v:=by simp [h1]
   rw [this]
   exact Rep.mono (hx1.keeps r.sl) (Cj.rep h2 ((zJ.1 hpub) l (zI hl)))
 exact hrep
end
abbrev YK:=World→Cg→Prop
def Axk (K:YK):Prop:=∀ w S w' S',K w S→Ext w S w' S'→InH w' S'→K w' S'
def QY (nt:Nat) (Q:Exit→(Nat→AV)→YK→Prop):Exit→Act→World→Prop:=fun e a w=>∃ t S H K,Rel (Ctx.of w S nt) ⟨t,[]⟩ a w S H∧K w S∧Q e t K
def Arm (Q:Exit→(Nat→AV)→YK→Prop):Prop:=∀ t K,¬ Q .outgrown t K
def As3 (n:(Nat→AV)→YK→Prop) (Q:Exit→(Nat→AV)→YK→Prop):Exit→(Nat→AV)→YK→Prop
 | .normal,t,K=>n t K
 | e,t,K=>Q e t K
def Adi (id:Nat) (Q:Exit→(Nat→AV)→YK→Prop):Exit→(Nat→AV)→YK→Prop
 | .exit id',t,K=>if id'=id then Q .normal t K else Q (.exit id') t K
 | e,t,K=>Q e t K
def AWY (P:Program) (nt:Nat) (x:Code) (Q:Exit→(Nat→AV)→YK→Prop) (K:YK) (t:Nat→AV):Prop :=
 Arm Q→∀ a w S H,Rel (Ctx.of w S nt) ⟨t,[]⟩ a w S H→K w S→x.wpIn Fence.wide 0 P (QY nt Q) a w
def Apm (P:Program) (nt:Nat) (ops:Array Oper) (Q:Exit→(Nat→AV)→YK→Prop) (K:YK) (l:List Oper) (t:Nat→AV):Prop :=
 Arm Q→∀ a w S H,Rel (Ctx.of w S nt) ⟨t,[]⟩ a w S H→K w S→wpListIn Fence.wide 0 P ops (QY nt Q) l a w
theorem Rel.here {c:Ctx} {t:Nat→AV} {a:Act} {w:World} {S:Cg} {H:Nat→Value} {nt:Nat} (hn:c.nt=nt) (r:Rel c ⟨t,[]⟩ a w S H):Rel (Ctx.of w S nt) ⟨t,[]⟩ a w S H :=
 ⟨r.nt.trans hn,r.df,r.tm,fun p b h=>by simp at h,fun p b g h=>by simp at h,fun p q b b' g h=>by simp at h,fun p b g i h=>by simp at h,r.sl,Vf.refl _ w S,zY _,fun p g h=>absurd h (zT _),fun p e sz k cs h=>absurd h (zT _),fun p h=>absurd h (zT _)⟩
theorem Rel.kept {t:Nat→AV} {a:Act} {w w':World} {S S':Cg} {H:Nat→Value} {nt:Nat} (r:Rel (Ctx.of w S nt) ⟨t,[]⟩ a w S H) (h:Apn w S w' S'):Rel (Ctx.of w' S' nt) ⟨t,[]⟩ a w' S' H :=
 ⟨r.nt,r.df,fun i=>AVR.mono (fun l v=>Cj.mono h.st (zN _) (fun _ _=>rfl) (fun p e sz k cs hp _=>by simp at hp)) (r.tm i),fun p b h=>by simp at h,fun p b g h=>by simp at h,fun p q b b' g h=>by simp at h,fun p b g i h=>by simp at h,h.sl,Vf.refl _ w' S',zY _,fun p g h=>absurd h (zT _),fun p e sz k cs h=>absurd h (zT _),fun p h=>absurd h (zT _)⟩
theorem Tv {F:Fence} {n:Nat} {P:Program} {ops:Array Oper} {Q:Exit→Act→World→Prop} {l2:List Oper}:∀ (l1:List Oper) (a:Act) (w:World),wpListIn F n P ops (Exit.then (wpListIn F n P ops Q l2) Q) l1 a w→wpListIn F n P ops Q (l1++l2) a w
 | [],a,w,h=>h
 | o::l1,a,w,h=>by
  have ih:=Tv (F:=F) (n:=n) (P:=P) (ops:=ops) (Q:=Q) (l2:=l2) l1
  simp only [List.cons_append]
  unfold wpListIn at h ⊢
  split at h
  ·rename_i hw
   rw [if_pos hw]
   obtain ⟨h1,h2⟩:=h
   refine ⟨h1,?_⟩
   generalize (o.semAt F.round a.eval).run P w=r at h2
   have hlet:LetsOut (Exit.then (wpListIn F n P ops Q l2) Q)→LetsOut Q:=fun ⟨a,w,h⟩=>⟨a,w,h⟩
   cases r with
   | ok nx w' =>
    cases nx with
    | value v=>exact ih _ _ h2
    | skip=>exact ih _ _ h2
    | defer d=>exact ih _ _ h2
    | enter f args =>
     refine ⟨h2.1,h2.2.mono fun e w'' hr=>?_⟩
     cases e with
     | returned v=>exact ih _ _ hr
     | panicked ch=>exact hr
     | outgrown=>exact hlet hr
    | row row args=>exact ⟨h2.1,h2.2.mono fun v w'' hr=>ih _ _ hr⟩
    | round l f tmps ag bd =>
     refine ⟨h2.1,h2.2.mono fun e w'' hr=>?_⟩
     cases e with
     | returned v=>exact ih _ _ hr
     | panicked ch=>exact hr
     | outgrown=>exact hlet hr
    | _=>exact absurd h2 id
   | halt x w' =>
    cases x with
    | panic v=>exact h2
    | _=>exact absurd h2 id
  ·rename_i hw
   rw [if_neg hw]
   exact ⟨h.1,ih _ _ h.2⟩
section
variable {P:Program} {nt:Nat} {Q:Exit→(Nat→AV)→YK→Prop} {K:YK} {t:Nat→AV}
theorem Awb {x y:Code} (h:AWY P nt x (As3 (fun t K=>AWY P nt y Q K t) Q) K t):AWY P nt (.seq x y) Q K t:=by
 intro hn a w S H r hK
 refine wpIn_seq (wpIn_mono (h (fun t K hs=>hn t K hs) a w S H r hK) ?_)
 rintro e a w ⟨t,S,H,K,r,hK,hq⟩
 cases e with
 | normal=>exact hq hn a w S H r hK
 | _=>exact ⟨t,S,H,K,r,hK,hq⟩
theorem Ag3 {n:(Nat→AV)→YK→Prop} (h:n t K):As3 n Q .normal t K:=h
theorem A1h {id:Nat} (h:Q .normal t K):Adi id Q .normal t K:=h
theorem Avh (h:Q .normal t K):AWY P nt .skip Q K t:=fun _ _ _ S H r hK=>wpIn_skip ⟨t,S,H,K,r,hK,h⟩
theorem Azd {id:Nat} (h:Q (.exit id) t K):AWY P nt (.exit id) Q K t:=fun _ _ _ S H r hK=>wpIn_exit ⟨t,S,H,K,r,hK,h⟩
theorem A1j (h:Q .ret t K):AWY P nt .ret Q K t:=fun _ _ _ S H r hK=>wpIn_ret ⟨t,S,H,K,r,hK,h⟩
theorem Aq8 {id:Nat} {x:Code} (h:AWY P nt x (Adi id Q) K t):AWY P nt (.block id x) Q K t:=by
 intro hn a w S H r hK
 refine wpIn_block (wpIn_mono (h (fun t K hs=>hn t K hs) a w S H r hK) ?_)
 rintro e a w ⟨t,S,H,K,r,hK,hq⟩
 cases e with
 | exit id' =>
  simp only [Adi] at hq
  simp only [Exit.inBlock]
  split
  ·rename_i h;rw [if_pos h] at hq;exact ⟨t,S,H,K,r,hK,hq⟩
  ·rename_i h;rw [if_neg h] at hq;exact ⟨t,S,H,K,r,hK,hq⟩
 | _=>exact ⟨t,S,H,K,r,hK,hq⟩
theorem At3 {o:Operand} {x y:Code} {b:Bool} (ho:Cs ⟨t,[]⟩ o=.s (.one (.b b))) (h1:b=true→AWY P nt x Q K t) (h0:b=false→AWY P nt y Q K t):AWY P nt (.cond o x y) Q K t:=by
 intro hn a w S H r hK
 have h:=Bw r o
 rw [ho] at h
 have hv:a.eval o=.bool b:=Tt (h:Rep w S (.b b) (a.eval o))
 exact wpIn_cond_split hv (fun hb=>h1 hb hn a w S H r hK) (fun hb=>h0 hb hn a w S H r hK)
theorem Apc {ops:Array Oper} {l1 l2:List Oper} (hK:Axk K) (hnd:l1.all ndf=true) (h:∀ w0 S0,AWL P (Ctx.of w0 S0 nt) ops (fun e st=>e=.normal∧st.m=[]∧Apm P nt ops Q K l2 st.t) l1 ⟨t,[]⟩):Apm P nt ops Q K (l1++l2) t:=by
 intro hn a w S H r hk
 refine Tv l1 a w ?_
 have h1:=Zl (rd:=none) (ds:=[]) (Q1:=QR (Ctx.of w S nt) (fun e st=>e=.normal∧st.m=[]∧Apm P nt ops Q K l2 st.t)) (Q2:=Exit.then (wpListIn Fence.wide 0 P ops (QY nt Q) l2) (QY nt Q)) ?_ ?_ ?_ l1 hnd a w (h w S a w S H r)
 ·rw [Aie r.df] at h1
  exact h1
 ·rintro ⟨a,w,st,S,H,_,h,_⟩;cases h
 ·rintro e a w ⟨st,S,H,r,_⟩;exact r.df
 ·rintro e a' w' ⟨⟨t',m'⟩,S',H',r',rfl,hm,h⟩
  have hm':m'=[]:=hm
  subst hm'
  rw [Aie r'.df]
  exact h hn a' w' S' H' (r'.here rfl) (hK _ _ _ _ hk (r'.ex.toExt (fun _ h=>h)) r'.sl)
theorem Aeb {ops:Array Oper} (h:Q .normal t K):Apm P nt ops Q K [] t:=fun _ _ _ S H r hK=>⟨t,S,H,K,r,hK,h⟩
theorem Amy {id:Nat} {l:List Oper} (h:Apm P nt l.toArray Q K l t):AWY P nt (.region id l.toArray false) Q K t:=fun hn a w S H r hK=>wpIn_region_lit (h hn a w S H r hK)
theorem Alz {id:Nat} {l:List Oper} (hK:Axk K) (hnd:l.all ndf=true) (h:∀ w0 S0,AWL P (Ctx.of w0 S0 nt) l.toArray (fun e st=>e=.normal∧st.m=[]∧Apm P nt l.toArray Q K [] st.t) l ⟨t,[]⟩):AWY P nt (.region id l.toArray false) Q K t:=by
 refine Amy ?_
 have h1:=Apc (l2:=[]) hK hnd h
 rwa [xF] at h1
def Awf (P:Program) (l:Nat) (J:Nat→YK) (Jx:YK) (L:List (SV × SV)):Prop :=
 ∀ k x y w S v u,L[k]? = some (x,y)→J k w S→InH w S→SVR (Rep w S) x v→SVR (Rep w S) y u →
   ∃ fn tmps assign body,(Instr.yield l #[v,u]).run P w=.ok (.round l fn tmps assign body) w ∧
    RoundIn Fence.wide 0 P l fn tmps assign body w (fun e w'=>∃ b S',e=.returned (.bool b)∧Apn w S w' S'∧(if b then J (k+1) w' S' else Jx w' S'))
theorem An6 {w:World} {S:Cg} {H:Nat→Value} {x:SV} {v:Value} (h:SVR (Cj w S [] H) x v):SVR (Rep w S) x v:=by
 have h0:∀ l v,F7 w S [] H l v→Rep w S l v:=fun l v h=>by
  cases l with
  | lp p off=>exact absurd h.1 (zT _)
  | ls p n=>exact absurd h.1 (zT _)
  | ap p n off=>exact absurd h.1 (zT _)
  | mp k p=>exact absurd h.1 (zT _)
  | _=>exact h
 refine SVR.mono (fun l v h=>?_) h
 cases l with
 | lp p off=>exact absurd h.1 (zT _)
 | ls p n=>exact absurd h.1 (zT _)
 | ap p n off=>exact absurd h.1 (zT _)
 | mp k p=>exact absurd h.1 (zT _)
 | fn f a b =>
  obtain ⟨va,vb,rfl,h1,h2⟩:=h
  refine .fn f a b va vb (by simpa using h1.1) (by simpa using h2.1) (fun j l v hl hv=>h0 _ _ (h1.2 j l v hl (by simpa using hv))) (fun j l v hl hv=>h0 _ _ (h2.2 j l v hl (by simpa using hv)))
 | _=>exact h0 _ _ h
theorem Apt {ops:Array Oper} {rest:List Oper} {o:Oper} {d:Tmp} {ty:Tmp} {ax ay:Operand} {ats:Array TypeId} {l:Nat} {J:Nat→YK} {Jx:YK} {L:List (SV × SV)} {k:Nat} {x y:SV}
  (ho:o.op=.call { callee:=.value (.tmp ty),args:=#[ax,ay],argTypes:=ats }) (hod:o.dst=some d) (hw:∀ a w S H,Rel (Ctx.of w S nt) ⟨t,[]⟩ a w S H→Region.wanted o (yielded ops a.tmps)=true)
  (hs:Awf P l J Jx L) (hd:decide (d<nt)=true) (hy:t ty=.s (.one (.raw (.func (.yield l) #[] #[])))) (hx:Cs ⟨t,[]⟩ ax=.s x) (hyy:Cs ⟨t,[]⟩ ay=.s y) (hL:L[k]? = some (x,y))
  (h1:Apm P nt ops Q (J (k+1)) rest (upd t d (.s (.one (.b true))))) (h0:Apm P nt ops Q Jx rest (upd t d (.s (.one (.b false))))):Apm P nt ops Q (J k) (o::rest) t:=by
 intro hn a w S H r hK
 have e1:=Bw r ax
 rw [hx] at e1
 have e2:=Bw r ay
 rw [hyy] at e2
 have e3:=r.tm ty
 have e3':AVR (Cj w S [] H) (t ty) (a.tmps.getD ty undef):=e3
 rw [hy] at e3'
 have hv:a.tmps.getD ty undef=.func (.yield l) #[] #[]:=Lh e3'
 obtain ⟨fn,tmps,assign,body,hrun,hround⟩:=hs k x y w S (a.eval ax) (a.eval ay) hL hK r.sl (An6 e1) (An6 e2)
 have hev:(execOp a.eval o).run P w=.ok (.round l fn tmps assign body) w:=by
  obtain ⟨odst,oop,oty,opos,oaf,og⟩:=o
  simp only at ho
  subst ho
  have hv':a.eval (.tmp ty)=.func (.yield l) #[] #[]:=hv
  simp only [execOp,resolve,hv',Deferred.ofValue,Sem.run_bind]
  simpa [invoke] using hrun
 have hsem:o.semAt Fence.wide.round a.eval=execOp a.eval o:=Oper.semAt_none _ _
 unfold wpListIn
 rw [if_pos (hw a w S H r)]
 refine ⟨fun _ _=>trivial,?_⟩
 rw [hsem,hev]
 refine ⟨fun hh=>(by simp [Fence.wide] at hh),?_⟩
 refine hround.mono ?_
 rintro e w' ⟨b,S',rfl,hk,hj⟩
 have r':=(r.kept hk).put (d:=d) (x:=.s (.one (.b b))) (v:=.bool b) (of_decide_eq_true hd) (show AVR _ (.s (.one (.b b))) _ from Rep.b b)
 rw [hod]
 cases b with
 | true=>exact h1 hn _ _ _ _ (r'.here rfl) hj
 | false=>exact h0 hn _ _ _ _ (r'.here rfl) hj
theorem Azq {body:Code} {G:Type} (sl:G→List (Nat × AV)) (KK:G→YK) (pre:G→Prop) (μ:G→Nat) (g0:G) (p0:pre g0) (s0:W7 t (sl g0)) (hK0:K=KK g0) (hin:∀ g,pre g→Aod 0 (sl g))
  (round:∀ g,pre g→AWY P nt body (As3 (fun t' K'=>∃ g',pre g'∧W7 t' (sl g')∧K'=KK g'∧μ g'<μ g) Q) (KK g) (Adw (fun _=>.top) (sl g))):AWY P nt (.loop body) Q K t:=by
 subst hK0
 intro hn a w S H r hK b k cs hro hb hr
 have key:∀ n,∀ g a w S H,pre g→μ g=n→Rel (Ctx.of w S nt) ⟨Adw (fun _=>.top) (sl g),[]⟩ a w S H→KK g w S →
   ∃ e a' w',QY nt Q e a' w'∧ArrivesIn (Machine.fenced P Fence.wide) P (lone (b.atR a (.code body::.inLoop body::k)) cs w) b k cs e a' w':=by
  intro n
  induction n using Nat.strongRecOn with
  | _ n ih =>
   intro g a w S H hp hμ r hK
   obtain ⟨e,a₁,w₁,hqq,harr⟩:=round g hp (fun t K hs=>hn t K hs) a w S H r hK b (.inLoop body::k) cs hro hb hr
   obtain ⟨t',S',H',K',r',hK',hqq⟩:=hqq
   cases e with
   | normal =>
    obtain ⟨g',hp',hs',rfl,hlt⟩:=hqq
    have rt:Rel (Ctx.of w₁ S' nt) ⟨Adw (fun _=>.top) (sl g'),[]⟩ a₁ w₁ S' H':=r'.weak fun i=>by
     rcases Qo hs' (hin g' hp') i with h | h
     ·exact .inr h
     ·exact .inl h.1
    obtain ⟨e₂,a₂,w₂,hq₂,harr₂⟩:=ih (μ g') (hμ ▸ hlt) g' a₁ w₁ S' H' hp' rfl rt hK'
    exact ⟨e₂,a₂,w₂,hq₂,.of_steps (StepsIn.trans harr (.one (fenced_calm (n:=0) hb hr rfl) stepR_inLoop)) harr₂⟩
   | exit id=>exact ⟨_,_,w₁,⟨t',S',H',K',r',hK',hqq⟩,.pass (x:=.inLoop body) rfl (fun _ _=>.inl (by simp)) harr⟩
   | goto l=>exact ⟨_,_,w₁,⟨t',S',H',K',r',hK',hqq⟩,.pass (x:=.inLoop body) rfl (fun _ _=>.inl (by simp)) harr⟩
   | ret=>exact ⟨_,_,w₁,⟨t',S',H',K',r',hK',hqq⟩,.pass (x:=.inLoop body) rfl (fun _ _=>.inl (by simp)) harr⟩
   | panic ch=>exact ⟨_,_,w₁,⟨t',S',H',K',r',hK',hqq⟩,.pass (x:=.inLoop body) rfl (fun _ _=>.inl (by simp)) harr⟩
   | outgrown=>exact ⟨_,_,w₁,⟨t',S',H',K',r',hK',hqq⟩,.pass (x:=.inLoop body) rfl (fun _ _=>.inl (by simp)) harr⟩
 have rt:Rel (Ctx.of w S nt) ⟨Adw (fun _=>.top) (sl g0),[]⟩ a w S H:=r.weak fun i=>by
  rcases Qo s0 (hin g0 p0) i with h | h
  ·exact .inr h
  ·exact .inl h.1
 obtain ⟨e,a',w',hqq,harr⟩:=key _ g0 a w S H p0 rfl rt hK
 exact ⟨e,a',w',hqq,.of_steps (.one (fenced_calm (n:=0) hb hr rfl) stepR_loop) harr⟩
end
theorem Amc {args:List SV} {w:World} {S:Cg} {vs:Array Value} {nt:Nat} (hn:args.length≤nt) (hS:InH w S) (hv:Xs (Rep w S) args vs.toList) :
  Rel (Ctx.of w S nt) ⟨All args,[]⟩ { tmps:=vs++Array.replicate (nt-vs.size) undef,defers:=[] } w S (fun _=>undef):=by
 have hlen:vs.size=args.length:=by have:=hv.1;simp at this;omega
 have hget:∀ i,(vs++Array.replicate (nt-vs.size) undef).getD i undef=vs.getD i undef:=by
  intro i
  simp only [zF,kR]
  split
  ·rfl
  ·rename_i hi
   rw [wD]
   have:vs[i]? = none:=xS (by omega)
   rw [this]
   split <;> rfl
 refine ⟨by simp;omega,rfl,fun i=>?_,fun p b h=>by simp at h,fun p b g h=>by simp at h,fun p q b b' g h=>by simp at h,fun p b g i h=>by simp at h,hS,Vf.refl _ w S,zY _,fun p g h=>absurd h (zT _),fun p e sz k cs h=>absurd h (zT _),fun p h=>absurd h (zT _)⟩
 rw [hget]
 show AVR _ (match args[i]? with | some x=>.s x | none=>.tup []) _
 cases ha:args[i]? with
 | none =>
  have:vs[i]? = none:=xS (by rw [hlen];exact xR.1 ha)
  simp only [zF,this,jG]
  exact I6
 | some x =>
  have hi:i<args.length:=(zC.1 ha).1
  have hi':i<vs.size:=by omega
  have:vs[i]? = some vs[i]:=zP hi'
  simp only [zF,this,yF]
  exact SVR.mono (fun _ _=>Cj.of_rep) (hv.2 i x _ ha (by simp))
theorem Ap6 {P:Program} {fc:FuncId} {fn:Func} {body:Code} {cap:List Lf} {L:List (SV × SV)} (hf:P.funcs[fc]? = some fn) (hb:fn.body=some body) (hres:fn.results = #[]) {nt:Nat} (hnt:fn.ntmps=nt) (hn:cap.length+1≤nt)
  (h:∀ l J Jx,(∀ k,Axk (J k))→Axk Jx→Awf P l J Jx L→AWY P nt body (fun e _ K=>(e=.normal∨e=.ret)∧(K=J L.length∨K=Jx)) (J 0) (All (.one (.raw (.func (.yield l) #[] #[]))::cap.map .one))):Aqr P fc cap L:=by
 subst hnt
 intro l J Jx w S vs hJ hJx hs h0 hS hcap
 refine callsIn_wide.1 (callsIn_of_wp (n:=0) hf hb trivial ?_)
 have hv:Xs (Rep w S) (.one (.raw (.func (.yield l) #[] #[]))::cap.map .one) ((#[Value.func (.yield l) #[] #[]]++vs:Array Value)).toList:=by
  refine ⟨by have:=hcap.1;simp at this ⊢;omega,fun j x v hx hv=>?_⟩
  cases j with
  | zero =>
   simp at hx hv
   subst hx;subst hv
   exact Rep.raw (.func (.yield l) #[] #[]) rfl
  | succ j =>
   simp at hx hv
   obtain ⟨x',hx',rfl⟩:=hx
   exact hcap.2 j x' v hx' (by simpa using hv)
 have r0:=Amc (nt:=fn.ntmps) (by simpa using hn) hS hv
 refine wpIn_mono (h l J Jx (fun k=>hJ k) hJx hs (fun t K hs=>by rcases hs.1 with h | h <;> cases h) _ w S _ r0 h0) ?_
 rintro e a w1 ⟨t,S1,H,K,r,hK,he,hk⟩
 have hr:(results fn a.tmps).run P w1=.ok (.tuple #[]) w1:=by
  rw [Xi,hres]
  simp
 have hfin:∃ v S',Ending.returned (.tuple #[])=.returned v∧InH w1 S'∧(J L.length w1 S'∨Jx w1 S'):=by
  refine ⟨_,S1,rfl,r.sl,?_⟩
  rcases hk with rfl | rfl
  ·exact .inl hK
  ·exact .inr hK
 rcases he with rfl | rfl
 ·exact ⟨r.df,_,hr,hfin⟩
 ·exact ⟨r.df,_,hr,hfin⟩
end Go.Proofs.YtkblaobhhoebaaaGreat.Abs
namespace Go.Proofs.YtkblaobhhoebaaaGreat.Abs
open Go.RowKit
def Rp {α σ:Type} (f:σ→α→Option (σ ⊕ (Nat × σ))):List α→σ→Option (σ ⊕ (Nat × σ))
 | [],s=>some (.inl s)
 | x::xs,s=>match f s x with
  | none=>none
  | some (.inl s')=>Rp f xs s'
  | some (.inr j)=>some (.inr j)
def Ae0 {σ ρ:Type} (k kr:σ→Option ρ) (ke:Nat→σ→Option ρ):σ ⊕ (Nat × σ)→Option ρ
 | .inl s=>k s
 | .inr (0,s)=>kr s
 | .inr (n+1,s)=>ke n s
def Av9:Code→Nat
 | .exit id=>id+1
 | _=>0
theorem Agl {α σ:Type} {f:σ→α→Option (σ ⊕ (Nat × σ))} {x:α} {xs:List α} {s:σ} {r:σ ⊕ (Nat × σ)} (h:Rp f (x::xs) s=some r) :
  ∃ y,f s x=some y∧(∀ s',y=.inl s'→Rp f xs s'=some r)∧∀ j,y=.inr j→r=.inr j:=by
 unfold Rp at h
 cases hf:f s x with
 | none=>rw [hf] at h;cases h
 | some y =>
  rw [hf] at h
  refine ⟨y,rfl,fun s' e=>?_,fun j e=>?_⟩
  ·subst e;exact h
  ·subst e;exact (zD h).symm
section
variable {P:Program} {c:Ctx} {Q:Exit→AS→Prop} {t:Nat→AV} {m:List Blk}
theorem RQ.mono {G:Type} {mm:G→List Blk} {p p':G→Prop} {j j':Code→G→Prop} (hp:∀ g,p g→p' g) (hj:∀ c g,j c g→j' c g):∀ e st,RQ mm p j e st→RQ mm p' j' e st:=by
 intro e st h
 cases e with
 | normal=>obtain ⟨g,ex,h1,h2⟩:=h;exact ⟨g,ex,hp g h1,h2⟩
 | ret=>obtain ⟨g,ex,h1,h2⟩:=h;exact ⟨g,ex,hj _ g h1,h2⟩
 | exit id=>obtain ⟨g,ex,h1,h2⟩:=h;exact ⟨g,ex,hj _ g h1,h2⟩
 | _=>exact h
theorem Ag9 {go:Operand} {p1 p2:Tmp} {assign body:Code} {fc:FuncId} {cap:List Lf} {α σ:Type} (f:σ→α→Option (σ ⊕ (Nat × σ))) (Lst:List α) (sx sy:α→SV) (mm:σ→List Blk) (s0:σ) {rr:σ ⊕ (Nat × σ)} (hr:Rp f Lst s0=some rr)
  (hg:Cs ⟨t,m⟩ go=.s (.one (.fn fc [] cap))) (hfc:FnI P fc) (hcap:cap.all Lf.pubd0=true) (hit:Aqr P fc cap (Lst.map fun x=>(sx x,sy x))) (hp1:decide (p1<c.nt)=true) (hp2:decide (p2<c.nt)=true)
  (hm:m=mm s0) (hlen:∀ g,(mm g).length=m.length) (hmin:∀ g,∀ b ∈ mm g,b.inb (mm g).length)
  (round:∀ x s y l,f s x=some y→∀ w0 S0 X H0,AWI (some l) P ⟨w0,S0,c.nt,X,mm s,H0⟩ okB assign
   (O4 (fun st1=>∀ w0 S0 X H0,AWI (some l) P ⟨w0,S0,c.nt,X,st1.m,H0⟩ okB body (RQ mm (fun s'=>y=.inl s') (fun jc s'=>y=.inr (Av9 jc,s'))) st1) (fun _ _=>False)) ⟨upd (upd t p1 (.s (sx x))) p2 (.s (sy x)),mm s⟩)
  (done:∀ s,rr=.inl s→Q .normal ⟨t,mm s⟩) (hret:∀ s,rr=.inr (0,s)→Q .ret ⟨t,mm s⟩) (hex:∀ id s,rr=.inr (id+1,s)→Q (.exit id) ⟨t,mm s⟩) :
  AWI none P c (okO c) (.rangeFunc go #[p1,p2] assign body) Q ⟨t,m⟩:=by
 refine Au2 (L:=Lst.map fun x=>(sx x,sy x)) mm (fun k s=>Rp f (Lst.drop k) s=some rr) (fun jc s=>rr=.inr (Av9 jc,s)) s0 hg hfc hcap hit hp1 hp2 hr hm hlen hmin ?_ (fun g h=>?_) (fun g h=>hret g h) (fun id g h=>hex id g h)
 ·intro k X Y s l hk hp w0 S0 X0 H0
  rw [zQ] at hk
  cases hx:Lst[k]? with
  | none=>rw [hx] at hk;cases hk
  | some x =>
   rw [hx] at hk
   simp only [yY,zV,Prod.mk.injEq] at hk
   obtain ⟨rfl,rfl⟩:=hk
   have hlt:=(zC.1 hx).1
   have hd:Lst.drop k=x::Lst.drop (k+1):=by
    rw [wY hlt,(zC.1 hx).2]
   rw [hd] at hp
   obtain ⟨y,hy,h1,h2⟩:=Agl hp
   refine (round x s y l hy w0 S0 X0 H0).mono fun e st h=>?_
   cases e with
   | normal =>
    exact fun w0 S0 X0 H0=>AWI.mono (h w0 S0 X0 H0) (RQ.mono (fun s' h=>h1 s' h) (fun jc s' h=>h2 _ h))
   | _=>exact h
 ·have h':Rp f (Lst.drop (Lst.map fun x=>(sx x,sy x)).length) g=some rr:=h
  rw [z8,List.drop_length] at h'
  exact done g (zD h').symm
end
end Go.Proofs.YtkblaobhhoebaaaGreat.Abs
namespace Go.Proofs.YtkblaobhhoebaaaGreat.Abs
open Go.RowKit
end Go.Proofs.YtkblaobhhoebaaaGreat.Abs
namespace Go.Proofs.YtkblaobhhoebaaaGreat.Abs
open Go.RowKit
abbrev Aia:=List (List Bool × List Blk)
def Abd:Aia→List Bool→Option (List Blk)
  | [],_=>none
  | (b,M)::r,bits=>if b == bits then some M else Abd r bits
theorem Aiy:∀ {tbl:Aia} {bits:List Bool} {M:List Blk},Abd tbl bits=some M→(bits,M) ∈ tbl
  | (b,N)::r,bits,M,h=>by
    unfold Abd at h
    by_cases hb:(b == bits)=true
    · rw [if_pos hb] at h
      cases h
      have:b=bits:=by simpa using hb
      subst this
      exact yX ..
    · rw [if_neg hb] at h
      exact yV _ (Aiy h)
theorem Yg:∀ {es:List Nat} {a b:Nat},(a,b) ∈ es.zip es→a=b∧a ∈ es
  | [],_,_,h=>by simp at h
  | e::r,a,b,h=>by
    rw [List.zip_cons_cons] at h
    rcases yM.1 h with h | h
    · cases h;exact ⟨rfl,yX ..⟩
    · obtain ⟨h1,h2⟩:=Yg h
      exact ⟨h1,yV _ h2⟩
def Ma (es:List Nat) (listed:Array Bool):List Bool:=es.map fun e=>listed.getD e false
def Wt (ws es:List Nat) (i:Nat) (bits:List Bool):Bool:=(es.zip bits).all fun x=>(!((ws.getD i 0).testBit x.1) || x.2) && (!(x.1 == i || (ws.getD x.1 0).testBit i) || !x.2)
def Agq (ws es:List Nat) (bits:List Bool):Bool:=(es.zip bits).all fun x=>!x.2 || (es.zip bits).all fun y=>!((ws.getD x.1 0).testBit y.1) || y.2
def Aad:Nat→List (List Bool)
  | 0=>[[]]
  | n+1=>(Aad n).map (false::·)++(Aad n).map (true::·)
theorem Zv:∀ {n:Nat} {bits:List Bool},bits.length=n→bits ∈ Aad n
  | 0,[],_=>zW.2 rfl
  | 0,_::_,h=>by simp at h
  | n+1,[],h=>by simp at h
  | n+1,b::bits,h=>by
    have ih:=Zv (n:=n) (bits:=bits) (by simpa using h)
    unfold Aad
    rw [yL]
    cases b with
    | false=>exact .inl (yP.2 ⟨bits,ih,rfl⟩)
    | true=>exact .inr (yP.2 ⟨bits,ih,rfl⟩)
def Aui (ws es:List Nat) (tbl:Aia):Bool:=(Aad es.length).all fun bits=>!Agq ws es bits || (Abd tbl bits).isSome
def Aek (p:List Bool→Bool) (Q:List Bool→List Blk→Prop) (tbl:Aia):Prop:=∀ e ∈ tbl,p e.1=true→Q e.1 e.2
theorem G6 {p:List Bool→Bool} {Q:List Bool→List Blk→Prop}:Aek p Q []:=fun e h=>by cases h
theorem Cx {p:List Bool→Bool} {Q:List Bool→List Blk→Prop} {b:List Bool} {M:List Blk} {r:Aia} (_:p b=true) (q:Q b M) (h:Aek p Q r):Aek p Q ((b,M)::r):=fun e he hp=>by
  rcases yM.1 he with rfl | he
  · exact q
  · exact h e he hp
theorem Cd {p:List Bool→Bool} {Q:List Bool→List Blk→Prop} {b:List Bool} {M:List Blk} {r:Aia} (hf:p b=false) (h:Aek p Q r):Aek p Q ((b,M)::r):=fun e he hp=>by
  rcases yM.1 he with rfl | he
  · have hp':p b=true:=hp
    rw [hf] at hp';cases hp'
  · exact h e he hp
section
variable {P:Program} {c:Ctx} {t:Nat→AV} {m:List Blk} {Q:Exit→AS→Prop}
def Am1 (P:Program) (c:Ctx) (ops:Array Oper) (ws es:List Nat) (tbl:Aia) (i:Nat) (t:Nat→AV) (o:Oper) (x:AV):Prop :=
  (∃ md,Ui P c md ops t o x∧Aek (Wt ws es i) (fun _ M=>Ac7 md M) tbl)∨Aek (Wt ws es i) (fun _ M=>Ui P c M ops t o x) tbl
theorem Am1.congr {ops:Array Oper} {ws es:List Nat} {tbl:Aia} {i:Nat} {t t':Nat→AV} {o:Oper} {x:AV} (h:Am1 P c ops ws es tbl i t o x) (ht:∀ y ∈ o.looksAt ops,t y=t' y):Am1 P c ops ws es tbl i t' o x:=by
  rcases h with ⟨md,h1,h2⟩ | h
  · exact .inl ⟨md,h1.congr ht,h2⟩
  · exact .inr fun e he hp=>(h e he hp).congr ht
def DM (P:Program) (c:Ctx) (ops:Array Oper) (ws es:List Nat) (tbl:Aia) (k:(Nat→AV)→Prop):Nat→List Oper→(Nat→AV)→Prop
  | _,[],t=>k t
  | i,o::rest,t =>
    (es.contains i=false∧∃ x d,o.dst=some d∧d<c.nt∧Am1 P c ops ws es tbl i t o x∧DM P c ops ws es tbl k (i+1) rest (upd t d x)) ∨
    (∃ j x,es[j]? = some i∧Aox ops t o∧Aek (Wt ws es i) (fun b M=>∃ M',Abd tbl (b.set j true)=some M'∧Ard P c ops t M M' o x) tbl∧(∀ d,o.dst=some d→d<c.nt) ∧
      DM P c ops ws es tbl k (i+1) rest (match o.dst with | some d=>upd t d x | none=>t))
theorem DM.get {ops:Array Oper} {ws es:List Nat} {tbl:Aia} {k:(Nat→AV)→Prop}:∀ {l:List Oper} {i:Nat} {t:Nat→AV},DM P c ops ws es tbl k i l t→(Lk l).Nodup→(∀ (q:Nat) (o:Oper),l[q]? = some o→∀ y ∈ o.looksAt ops,y ∉ Lk (l.drop q)) →
    ∃ T,k T∧(∀ y,y ∉ Lk l→T y=t y)∧∀ (q:Nat) (o:Oper),l[q]? = some o →
      (es.contains (i+q)=false∧∃ d,o.dst=some d∧d<c.nt∧Am1 P c ops ws es tbl (i+q) T o (T d)) ∨
      (∃ j x,es[j]? = some (i+q)∧Aox ops T o∧Aek (Wt ws es (i+q)) (fun b M=>∃ M',Abd tbl (b.set j true)=some M'∧Ard P c ops T M M' o x) tbl∧∀ d,o.dst=some d→d<c.nt∧T d=x)
  | [],i,t,h,_,_=>⟨t,h,fun _ _=>rfl,fun q o h=>by simp at h⟩
  | o::rest,i,t,h,hnd,hl=>by
    have hlook:∀ y ∈ o.looksAt ops,y ∉ Lk (o::rest):=fun y hy=>by simpa using hl 0 o rfl y hy
    have hlt:∀ (q:Nat) (o':Oper),rest[q]? = some o'→∀ y ∈ o'.looksAt ops,y ∉ Lk (rest.drop q):=fun q o' h' y hy=>by
      have:=hl (q+1) o' (by simpa using h') y hy
      simpa using this
    rcases h with ⟨hne,x,d,hd,hdn,hg,hr⟩ | ⟨j,x,h1,h6,h7,h8,hr⟩
    · have hds:Lk (o::rest)=d::Lk rest:=by simp [Lk,hd]
      rw [hds] at hnd hlook
      have hnd':=xV.1 hnd
      obtain ⟨T,hk,hT,hG⟩:=DM.get hr hnd'.2 hlt
      have hTl:∀ y ∈ o.looksAt ops,t y=T y:=fun y hy=>by
        have:=hlook y hy
        simp only [yM,not_or] at this
        rw [hT y this.2,Ha,if_neg this.1]
      have hTd:T d=x:=by rw [hT d hnd'.1,Ha,if_pos rfl]
      refine ⟨T,hk,fun y hy=>?_,fun q o' h'=>?_⟩
      · rw [hds] at hy
        simp only [yM,not_or] at hy
        rw [hT y hy.2,Ha,if_neg hy.1]
      · cases q with
        | zero =>
          simp only [yQ,zV] at h'
          subst h'
          exact .inl ⟨hne,d,hd,hdn,by rw [hTd];exact hg.congr hTl⟩
        | succ q =>
          have:=hG q o' (by simpa using h')
          rw [show i+1+q=i+(q+1) by omega] at this
          exact this
    · have fin:∀ {T:Nat→AV},(∀ y ∈ o.looksAt ops,t y=T y)→Aek (Wt ws es i) (fun b M=>∃ M',Abd tbl (b.set j true)=some M'∧Ard P c ops T M M' o x) tbl:=fun hTl e he hp=>by
        obtain ⟨M',h3,h4⟩:=h7 e he hp
        exact ⟨M',h3,h4.congr hTl⟩
      cases hd:o.dst with
      | none =>
        have hds:Lk (o::rest)=Lk rest:=by simp [Lk,hd]
        rw [hds] at hnd hlook
        rw [hd] at hr
        obtain ⟨T,hk,hT,hG⟩:=DM.get hr hnd hlt
        have hTl:∀ y ∈ o.looksAt ops,t y=T y:=fun y hy=>(hT y (hlook y hy)).symm
        refine ⟨T,hk,fun y hy=>hT y (by rw [hds] at hy;exact hy),fun q o' h'=>?_⟩
        cases q with
        | zero =>
          simp only [yQ,zV] at h'
          subst h'
          exact .inr ⟨j,x,h1,h6.congr hTl,fin hTl,fun d h=>by rw [hd] at h;cases h⟩
        | succ q =>
          have:=hG q o' (by simpa using h')
          rw [show i+1+q=i+(q+1) by omega] at this
          exact this
      | some d =>
        have hds:Lk (o::rest)=d::Lk rest:=by simp [Lk,hd]
        rw [hds] at hnd hlook
        have hnd':=xV.1 hnd
        rw [hd] at hr
        obtain ⟨T,hk,hT0,hG⟩:=DM.get hr hnd'.2 hlt
        have hT:∀ y,y ∉ Lk rest→T y=upd t d x y:=hT0
        have hTl:∀ y ∈ o.looksAt ops,t y=T y:=fun y hy=>by
          have:=hlook y hy
          simp only [yM,not_or] at this
          rw [hT y this.2,Ha,if_neg this.1]
        have hTd:T d=x:=by rw [hT d hnd'.1,Ha,if_pos rfl]
        refine ⟨T,hk,fun y hy=>?_,fun q o' h'=>?_⟩
        · rw [hds] at hy
          simp only [yM,not_or] at hy
          rw [hT y hy.2,Ha,if_neg hy.1]
        · cases q with
          | zero =>
            simp only [yQ,zV] at h'
            subst h'
            refine .inr ⟨j,x,h1,h6.congr hTl,fin hTl,fun d' h=>?_⟩
            rw [hd] at h
            cases h
            exact ⟨h8 d hd,hTd⟩
          | succ q =>
            have:=hG q o' (by simpa using h')
            rw [show i+1+q=i+(q+1) by omega] at this
            exact this
theorem Ao1 {l:List Oper} (es ws:List Nat) (tbl:Aia) {last:List Blk} (hws:Nb l []=ws) (hok:Aaj l.toArray=true) (hnd:es.Nodup) (hes:(es.all fun e=>decide (e<l.length))=true) (hfull:Aui ws es tbl=true) (h0:Abd tbl (es.map fun _=>false)=some m) (hlast:Abd tbl (es.map fun _=>true)=some last)
    (h:DM P c l.toArray ws es tbl (fun T=>Q .normal ⟨T,last⟩) 0 l t):AWD P c Q l ⟨t,m⟩:=by
  subst hws
  have ok:=Abi hok
  have hdn:(Lk l).Nodup:=by
    have key:∀ (k:List Oper) (n:Nat),(∀ i o,k[i]? = some o→l[n+i]? = some o)→(Lk k).Nodup:=by
      intro k
      induction k with
      | nil=>intro n _;exact w6
      | cons o r ih =>
        intro n hk
        have ih':=ih (n+1) (fun i o' h'=>by have:=hk (i+1) o' (by simpa using h');rw [← this];congr 1;omega)
        cases hd:o.dst with
        | none=>simpa [Lk,hd] using ih'
        | some d =>
          have hds:Lk (o::r)=d::Lk r:=by simp [Lk,hd]
          rw [hds]
          refine xV.2 ⟨fun hmem=>?_,ih'⟩
          unfold Lk at hmem
          rw [xX] at hmem
          obtain ⟨p,hp,hpd⟩:=hmem
          obtain ⟨q,hq,hqp⟩:=yR hp
          have h1:=hk 0 o rfl
          have h2:=hk (q+1) p (by simp [hq,hqp])
          exact ok.ne n o (n+(q+1)) p (by simpa using h1) (by simpa using h2) (by omega) d hd hpd
    exact key l 0 (fun i o h=>by simpa using h)
  obtain ⟨T,hQ,hTt,hG⟩:=DM.get h hdn (Awn ok)
  let B:Array Bool→List Blk:=fun listed=>(Abd tbl (Ma es listed)).getD []
  let HI:Array Bool→(Nat→Value)→Prop:=fun listed _=>R3 l.toArray listed
  have hws:∀ {listed:Array Bool},R3 l.toArray listed→∀ i,listed.getD i false=true→∀ j,((Nb l []).getD i 0).testBit j=true→listed.getD j false=true:=fun hc =>
    W8 hc l [] (fun i o h=>by simpa using h) (fun i h=>by simp at h)
  have huf:∀ {listed:Array Bool} {i:Nat},listed.size=l.toArray.size→i<l.length→listed.getD i true=false→listed.getD i false=false:=by
    intro listed i hs hi h
    simp only [zF] at h ⊢
    rw [zP (by rw [hs];simpa using hi)] at h ⊢
    exact h
  have hzip:∀ {listed:Array Bool} {x:Nat × Bool},x ∈ es.zip (Ma es listed)→x.2=listed.getD x.1 false∧x.1 ∈ es:=by
    intro listed x hx
    unfold Ma at hx
    rw [List.zip_map_right] at hx
    obtain ⟨y,hy,rfl⟩:=yP.1 hx
    obtain ⟨a,b⟩:=y
    have hab:=Yg hy
    obtain ⟨rfl,hm⟩:=hab
    exact ⟨rfl,hm⟩
  have hclosed:∀ {listed:Array Bool},R3 l.toArray listed→Agq (Nb l []) es (Ma es listed)=true:=by
    intro listed hc
    unfold Agq
    rw [zJ]
    intro x hx
    obtain ⟨h1,_⟩:=hzip hx
    cases hb:x.2 with
    | false=>rfl
    | true =>
      simp only [jJ,Bool.false_or]
      rw [zJ]
      intro y hy
      obtain ⟨h2,_⟩:=hzip hy
      cases hw:((Nb l []).getD x.1 0).testBit y.1 with
      | false=>rfl
      | true =>
        rw [h1] at hb
        rw [h2,hws hc x.1 hb y.1 hw]
        rfl
  have hmem:∀ {listed:Array Bool},R3 l.toArray listed→(Ma es listed,B listed) ∈ tbl:=by
    intro listed hc
    have hf:=(zJ.1 hfull) (Ma es listed) (Zv (by simp [Ma]))
    rw [hclosed hc] at hf
    simp only [jJ,Bool.false_or,jS] at hf
    obtain ⟨M,hM⟩:=hf
    have:B listed=M:=by show (Abd tbl (Ma es listed)).getD []=M;rw [hM];rfl
    rw [this]
    exact Aiy hM
  have hcons:∀ {listed:Array Bool} {i:Nat} {o:Oper},R3 l.toArray listed→l[i]? = some o→Met listed o→listed.getD i false=false→Wt (Nb l []) es i (Ma es listed)=true:=by
    intro listed i o hc ho hmt hun
    unfold Wt
    rw [zJ]
    intro x hx
    obtain ⟨h1,_⟩:=hzip hx
    rw [yA,wR,wR]
    constructor
    · cases hw:((Nb l []).getD i 0).testBit x.1 with
      | false=>exact .inl rfl
      | true =>
        right
        rw [h1]
        exact Aac (ops:=l.toArray) hc (i:=i) (o:=o) (by simpa using ho) hmt (j:=x.1) hw
    · cases hb:x.2 with
      | false=>exact .inr rfl
      | true =>
        left
        rw [h1] at hb
        simp only [xW,Bool.or_eq_false_iff]
        constructor
        · cases he:(x.1 == i) with
          | false=>rfl
          | true =>
            have:x.1=i:=by simpa using he
            rw [this,hun] at hb;cases hb
        · cases hw:((Nb l []).getD x.1 0).testBit i with
          | false=>rfl
          | true =>
            have:=hws hc x.1 hb i hw
            rw [hun] at this;cases this
  have hbsame:∀ {listed:Array Bool} {i:Nat},es.contains i=false→Ma es (listed.setIfInBounds i true)=Ma es listed:=by
    intro listed i hi
    unfold Ma
    refine kK fun e he=>?_
    have : i ≠ e := fun e' => by subst e'; have : es.contains i = true := by simpa using he
                                 rw [hi] at this;cases this
    simp only [zF,yS this]
  have hlk:∀ {i:Nat} {o:Oper},l.toArray[i]? = some o→l[i]? = some o∧i<l.length:=fun {i o} h=>by
    have h':l[i]? = some o:=by simpa using h
    exact ⟨h',(zC.1 h').1⟩
  refine Ad6 (T:=T) (B:=B) (HI:=HI) ok (fun i o ho=>?_) hTt (fun a w S H r=>⟨H,?_,?_⟩) (fun listed hs hl=>?_)
  · obtain ⟨ho',hil⟩:=hlk ho
    rcases hG i o ho' with ⟨hne,d,hd,hdn,hg⟩ | ⟨j,x,h1,h5,h6,h7⟩
    · rw [yH] at hne hg
      refine .inl fun listed H hs hun hmt hc=>?_
      have hBs:B (listed.setIfInBounds i true)=B listed:=by
        show (Abd tbl (Ma es (listed.setIfInBounds i true))).getD []=_
        rw [hbsame hne]
      have hm:=hmem hc
      have hcs:=hcons hc ho' hmt (huf hs hil hun)
      rcases hg with ⟨md,hg,hmd⟩ | hg
      · exact ⟨md,⟨d,hd,hdn,hg⟩,hmd _ hm hcs,hBs,hc.set ho hmt⟩
      · exact ⟨B listed,⟨d,hd,hdn,hg _ hm hcs⟩,Ac7.refl _,hBs,hc.set ho hmt⟩
    · rw [yH] at h1 h6
      refine .inr ⟨h5,fun listed hs hun hmt a w S H r hc K Qn hK=>?_⟩
      have hm:=hmem hc
      have hcs:=hcons hc ho' hmt (huf hs hil hun)
      obtain ⟨M',hM',h6⟩:=h6 _ hm hcs
      have hbits:Ma es (listed.setIfInBounds i true)=(Ma es listed).set j true:=by
        refine wB fun q=>?_
        unfold Ma
        rw [zQ,w9,z8,zQ]
        have hjl:=(zC.1 h1).1
        by_cases e:j=q
        · subst e
          rw [if_pos rfl,if_pos hjl,h1]
          simp only [yY,zV,zF]
          rw [xA (by rw [hs];simpa using hil)]
          rfl
        · rw [if_neg e]
          cases hq:es[q]? with
          | none=>rfl
          | some e' =>
            have hne:i≠e':=fun e''=>by
              subst e''
              have hql:=(zC.1 hq).1
              have h8:=(zC.1 hq).2
              have h9:=(zC.1 h1).2
              exact e ((List.getElem_inj hnd).1 (h9.trans h8.symm))
            simp only [yY,zV,zF]
            rw [yS hne]
      have hB2:B (listed.setIfInBounds i true)=M':=by
        show (Abd tbl (Ma es (listed.setIfInBounds i true))).getD []=M'
        rw [hbits,hM']
        rfl
      have hlook:=Ag8 (T:=T) ok hs ho hmt
      have hmix:mix T (o.looksAt l.toArray) (TL l.toArray T listed)=TL l.toArray T listed:=by
        funext y
        unfold mix
        cases hc':(o.looksAt l.toArray).contains y with
        | false=>rfl
        | true=>exact (hlook y (by simpa using hc')).symm
      have heff:=h6 (TL l.toArray T listed)
      rw [hmix] at heff
      have hw:=heff a w S H r
      unfold wpList at hw
      rw [if_pos (by rfl)] at hw
      rcases hw with hw | ⟨_,a',w',st',S',H',_,he,_⟩
      · refine Ael (P:=P) (o:=o) ?_ ?_ (show o.wp P a w _ _ from hw)
        · rintro a' w' ⟨st',S',H',r',_,rfl⟩
          refine hK a' w' S' H' ?_ (hc.set ho hmt)
          rw [hB2]
          cases hd:o.dst with
          | none =>
            rw [hd] at r'
            rw [← Aan ho hd]
            exact r'
          | some d =>
            rw [hd] at r'
            rw [← Aln (T:=T) ok hs ho hun hd,(h7 d hd).2]
            exact r'
        · rintro e a' w' hne ⟨st',S',H',r',he,_⟩
          exact absurd he hne
      · cases he
  · have:B (Array.replicate l.toArray.size false)=m:=by
      have e1:Ma es (Array.replicate l.toArray.size false)=es.map fun _=>false:=by
        unfold Ma
        refine kK fun e _=>?_
        simp only [zF,wD]
        split <;> rfl
      show (Abd tbl (Ma es (Array.replicate l.toArray.size false))).getD []=m
      rw [e1,h0]
      rfl
    rw [this]
    exact r
  · intro i o _ hl
    simp only [zF,wD] at hl
    split at hl <;> simp at hl
  · have hin:∀ e ∈ es,e<l.length:=fun e he=>by simpa using zJ.1 hes e he
    have e1:Ma es listed=es.map fun _=>true:=by
      unfold Ma
      refine kK fun e he=>?_
      have h1:=hl e (by simpa using hin e he)
      have h2:e<listed.size:=by rw [hs];simpa using hin e he
      simp only [zF,zP h2,yF] at h1 ⊢
      exact h1
    have:B listed=last:=by
      show (Abd tbl (Ma es listed)).getD []=last
      rw [e1,hlast]
      rfl
    rw [this]
    exact hQ
theorem Ane {id:Nat} {l:List Oper} (es ws:List Nat) (tbl:Aia) {last:List Blk} (hws:Nb l []=ws) (hm:P.follows .mixedOrders=true) (hok:Aaj l.toArray=true) (hnd:es.Nodup) (hes:(es.all fun e=>decide (e<l.length))=true) (hfull:Aui ws es tbl=true) (h0:Abd tbl (es.map fun _=>false)=some m) (hlast:Abd tbl (es.map fun _=>true)=some last)
    (h:DM P c l.toArray ws es tbl (fun T=>Q .normal ⟨T,last⟩) 0 l t):AWC P c (.region id l.toArray true) Q ⟨t,m⟩:=(Ao1 es ws tbl hws hok hnd hes hfull h0 hlast h).awc hm
variable {ops:Array Oper} {ws es:List Nat} {tbl:Aia} {k:(Nat→AV)→Prop} {rest:List Oper} {op:Op} {ty:TypeId} {pos:String} {af:Array Edge} {d:Tmp} {x:AV} {i:Nat}
theorem Awa {md:List Blk} (h:Aek (Wt ws es i) (fun _ M=>Aa6 md M) tbl):Aek (Wt ws es i) (fun _ M=>Ac7 md M) tbl:=fun e he hp=>Agx (h e he hp)
theorem Aw0 (h:k t):DM P c ops ws es tbl k i [] t:=h
theorem mev {md:List Blk} (hs:Aek (Wt ws es i) (fun _ M=>Aa6 md M) tbl) (hi:es.contains i=false) (hd:decide (d<c.nt)=true) (h:OpV P c ⟨Rb t (Oper.looksAt ops ⟨some d,op,ty,pos,af,none⟩),md⟩ op ty x) (kk:DM P c ops ws es tbl k (i+1) rest (upd t d x)):DM P c ops ws es tbl k i (⟨some d,op,ty,pos,af,none⟩::rest) t :=
  .inl ⟨hi,x,d,rfl,of_decide_eq_true hd,.inl ⟨md,.inl ⟨.inl rfl,h.opD⟩,Awa hs⟩,kk⟩
theorem med {md:List Blk} (hs:Aek (Wt ws es i) (fun _ M=>Aa6 md M) tbl) (hi:es.contains i=false) (hd:decide (d<c.nt)=true) (h:OpD P c ⟨Rb t (Oper.looksAt ops ⟨some d,op,ty,pos,af,none⟩),md⟩ op ty x) (kk:DM P c ops ws es tbl k (i+1) rest (upd t d x)):DM P c ops ws es tbl k i (⟨some d,op,ty,pos,af,none⟩::rest) t :=
  .inl ⟨hi,x,d,rfl,of_decide_eq_true hd,.inl ⟨md,.inl ⟨.inl rfl,h⟩,Awa hs⟩,kk⟩
theorem Avi (hi:es.contains i=false) (hd:decide (d<c.nt)=true) (h:∀ md,OpV P c ⟨Rb t (Oper.looksAt ops ⟨some d,op,ty,pos,af,none⟩),md⟩ op ty x) (kk:DM P c ops ws es tbl k (i+1) rest (upd t d x)):DM P c ops ws es tbl k i (⟨some d,op,ty,pos,af,none⟩::rest) t :=
  .inl ⟨hi,x,d,rfl,of_decide_eq_true hd,.inr fun _ _ _=>.inl ⟨.inl rfl,(h _).opD⟩,kk⟩
theorem mee (j:Nat) (he:es[j]? = some i) (hd:decide (d<c.nt)=true)
    (h:Aek (Wt ws es i) (fun b M=>∃ M',Abd tbl (b.set j true)=some M'∧∀ ζ,AWL P c ops (fun e st=>e=.normal∧st=⟨upd (mix t (Oper.looksAt ops ⟨some d,op,ty,pos,af,none⟩) ζ) d x,M'⟩) [⟨some d,op,ty,pos,af,none⟩] ⟨mix t (Oper.looksAt ops ⟨some d,op,ty,pos,af,none⟩) ζ,M⟩) tbl)
    (kk:DM P c ops ws es tbl k (i+1) rest (upd t d x)):DM P c ops ws es tbl k i (⟨some d,op,ty,pos,af,none⟩::rest) t :=
  .inr ⟨j,x,he,.inl rfl,h,fun d' h'=>by cases h';exact of_decide_eq_true hd,kk⟩
theorem Azh (j:Nat) (he:es[j]? = some i)
    (h:Aek (Wt ws es i) (fun b M=>∃ M',Abd tbl (b.set j true)=some M'∧∀ ζ,AWL P c ops (fun e st=>e=.normal∧st=⟨mix t (Oper.looksAt ops ⟨none,op,ty,pos,af,none⟩) ζ,M'⟩) [⟨none,op,ty,pos,af,none⟩] ⟨mix t (Oper.looksAt ops ⟨none,op,ty,pos,af,none⟩) ζ,M⟩) tbl)
    (kk:DM P c ops ws es tbl k (i+1) rest t):DM P c ops ws es tbl k i (⟨none,op,ty,pos,af,none⟩::rest) t :=
  .inr ⟨j,.top,he,.inl rfl,h,(fun d' h'=>by cases h'),kk⟩
end
end Go.Proofs.YtkblaobhhoebaaaGreat.Abs
namespace Go.Proofs.YtkblaobhhoebaaaGreat.Abs
open Go.RowKit
theorem Ad2 {P:Program} {c:Ctx} {st:AS} {op:Op} {ty:TypeId} {e sz n:Nat} {cs:List Lf} (h:Ae6 P c st op ty e sz n cs):Ae6 P c st op ty e sz n (cs.map Lf.canon):=by
 intro a w S H r
 obtain ⟨v,w',vals,hrun,hext,hin,hown,hls⟩:=h a w S H r
 exact ⟨v,w',vals,hrun,hext,hin,hown,Afx hls⟩
theorem Ah3 {P:Program} {c:Ctx} {st:AS} {ty:TypeId} {t e sz bytes len:Nat} {zl out out':List Lf} {parts:Array (Nat × Operand)} {xs:List (Nat × SV)} (si:P.underlying t=some (.slice e)) (ei:EI P e sz bytes zl) (hp:Z4 st parts.toList xs)
  (hb:Xd (fun i:Nat=>some (i*sz,sz)) (Aar zl (len*sz)) xs out) (hout:out.all Lf.pubd=true) (hlen:len*sz≤16777216) (he:out.map Lf.canon=out'):OpD P c st (.buildSlice t len parts) ty (.s (.one (.sl len out'))) :=
 he ▸ Abk ei.p (Ad2 (Rj si ei hp hb (zJ.1 hout) hlen))
section
variable {P:Program} {c:Ctx} {ops:Array Oper} {ws es:List Nat} {tbl:Aia} {k:(Nat→AV)→Prop} {t:Nat→AV} {rest:List Oper} {op:Op} {ty:TypeId} {pos:String} {af:Array Edge} {d:Tmp} {x:AV} {i:Nat}
theorem Avq (hi:es.contains i=false) (hd:decide (d<c.nt)=true) (h:Aek (Wt ws es i) (fun _ M=>OpV P c ⟨Rb t (Oper.looksAt ops ⟨some d,op,ty,pos,af,none⟩),M⟩ op ty x) tbl) (kk:DM P c ops ws es tbl k (i+1) rest (upd t d x)):DM P c ops ws es tbl k i (⟨some d,op,ty,pos,af,none⟩::rest) t :=
 .inl ⟨hi,x,d,rfl,of_decide_eq_true hd,.inr fun e he hp=>.inl ⟨.inl rfl,(h e he hp).opD⟩,kk⟩
end
theorem Arr {P:Program} {c:Ctx} {id:Nat} {x y:Code} {Q Q':Exit→AS→Prop} {st:AS} (G:Type) (sl:G→List (Nat × AV)) (mm:G→List Blk) (pre:G→Prop) (hin:∀ g,pre g→Aod (mm g).length (sl g)) (hmin:∀ g,pre g→∀ b ∈ mm g,b.inb (mm g).length) (hk:∀ g,pre g→c.m0.length≤(mm g).length)
  (hy:∀ g,pre g→AWC P c y Q ⟨Adw (fun _=>.top) (sl g),mm g⟩) (hx:AWC P c x (M1 id (O4 (Auc sl mm pre) Q')) st):AWC P c x (M1 id (O4 (AWC P c y Q) Q')) st:=by
 refine hx.mono fun e st h=>?_
 cases e with
 | normal=>exact Ade h hin hmin hk hy
 | exit id' =>
  simp only [M1] at h ⊢
  split
  ·rename_i he
   rw [if_pos he] at h
   exact Ade h hin hmin hk hy
  ·rename_i he
   rw [if_neg he] at h
   exact h
 | _=>exact h
end Go.Proofs.YtkblaobhhoebaaaGreat.Abs
namespace Go.Proofs.YtkblaobhhoebaaaGreat.Abs
open Go.RowKit Go.Proofs Go.Lib
theorem Ik {P:Program} (w:World) (dT sT ty elem:TypeId) (b o dLen dCap:Nat) (a:Addr) (sLen sCap sz q:Nat) (cs:List Value)
  (hu:P.underlying dT=some (.slice elem)) (hs:(P.info? elem).map (·.size)=some sz) (hq:Nat.min sLen dLen=q) (hn:cs.length=q*sz)
  (hsrc:∀ j v,cs[j]? = some v→w.cell? (a.add j)=some v) (hc:∀ j,j<cs.length→(w.cell? ⟨b,o+j,none⟩).isSome=true) (hf:∀ j,j<cs.length→w.frozen? ⟨b,o+j,none⟩=false) (h1:∀ v ∈ cs,v.oneCell'=true) :
  (Builtin.copy_ #[dT,sT] ty #[.slice (some ⟨b,o,none⟩) dLen dCap,.slice (some a) sLen sCap]).run P w=.ok (goInt q) (w.setCells b o cs):=by
 have ld:=run_loadCells_list (P:=P) w a cs hsrc
 have sd:=run_storeCells_cells (P:=P) b o cs 0 w (by simpa using hc) (by simpa using hf) h1
 rw [hn] at ld
 cases hi:P.info? elem with
 | none=>simp [hi] at hs
 | some i =>
  have e:i.size=sz:=by simpa [hi] using hs
  simp [Builtin.copy_,run_underlying hu,Builtin.lenOf,Builtin.firstCells,sizeOf,typeInfo,hi,e,hq,ld,sd]
def Af8 {α:Type} (o:Nat) (vs L:List α):List α:=L.take o++vs++L.drop (o+vs.length)
theorem W3 {α:Type} {o:Nat} {vs L:List α} (h:o+vs.length≤L.length):(Af8 o vs L).length=L.length:=by
 simp only [Af8,zH,zL,yD];omega
theorem Aql {α:Type} (L:List α) (o:Nat) (v:α) (h:o<L.length):L.set o v=L.take o++v::L.drop (o+1):=by
 rw [kT,if_pos h]
theorem Na (b:Nat) (t:TypeId):∀ (vs:List Value) (o:Nat) (w:World) (cur:Array Value),w.heap[b]? = some (.cells cur t (0,0))→o+vs.length≤cur.size →
  (w.setCells b o vs).heap[b]? = some (.cells (Af8 o vs cur.toList).toArray t (0,0))∧(w.setCells b o vs).heap.size=w.heap.size∧(∀ g,g≠b→(w.setCells b o vs).heap[g]? = w.heap[g]?) ∧
   (w.setCells b o vs).os=w.os∧(w.setCells b o vs).tape=w.tape∧(w.setCells b o vs).output=w.output
 | [],o,w,cur,h,hl=>by
  refine ⟨?_,rfl,fun _ _=>rfl,rfl,rfl,rfl⟩
  show w.heap[b]? = _
  rw [h]
  simp [Af8,xJ]
 | v::vs,o,w,cur,h,hl=>by
  rw [yT] at hl
  have hb:=z7.1 h
  have h1:(w.setCell ⟨b,o,none⟩ v).heap[b]? = some (.cells (cur.setIfInBounds o v) t (0,0)):=by
   simp only [World.setCell,wQ,if_true,h,yY]
   rfl
  obtain ⟨h2,h3,h4,h5,h6,h7⟩:=Na b t vs (o+1) (w.setCell ⟨b,o,none⟩ v) (cur.setIfInBounds o v) h1 (by rw [Array.size_setIfInBounds];omega)
  have e0:w.setCells b o (v::vs)=(w.setCell ⟨b,o,none⟩ v).setCells b (o+1) vs:=rfl
  rw [e0]
  refine ⟨?_,by rw [h3];simp [World.setCell],fun g hg=>by rw [h4 g hg];simp only [World.setCell,wQ];rw [if_neg (fun e=>hg e.symm)],h5,h6,h7⟩
  rw [h2]
  congr 3
  have ho:o<cur.toList.length:=by rw [yC];omega
  have es:(cur.setIfInBounds o v).toList=cur.toList.take o++v::cur.toList.drop (o+1):=by
   rw [Array.toList_setIfInBounds,Aql _ _ _ ho]
  unfold Af8
  rw [es,yT]
  have hto:(cur.toList.take o).length=o:=by rw [zL];omega
  have e1:(cur.toList.take o++v::cur.toList.drop (o+1)).take (o+1)=cur.toList.take o++[v]:=by
   rw [List.take_append,y9 (by omega),hto,show o+1-o=1 by omega];rfl
  have e2:(cur.toList.take o++v::cur.toList.drop (o+1)).drop (o+1+vs.length)=cur.toList.drop (o+(vs.length+1)):=by
   rw [List.drop_append,wW (by omega),hto,show o+1+vs.length-o=vs.length+1 by omega,List.drop_succ_cons,kN,wX]
   congr 1;omega
  rw [e1,e2]
  simp
theorem Apu {α:Type} (L vs D:List α) (a s m:Nat) (hv:vs.length=s) (hD:D.length=m) (hL:a+s+m≤L.length) :
  (Af8 a vs (Af8 (a+s) D L)).take (a+s+m)=L.take a++vs++D:=by
 unfold Af8
 have h1:(L.take (a+s)++D++L.drop (a+s+D.length)).take a=L.take a:=by
  rw [xO,wG (by rw [zL];omega),List.take_take,kC (by omega)]
 have h2:(L.take (a+s)++D++L.drop (a+s+D.length)).drop (a+vs.length)=D++L.drop (a+s+D.length):=by
  rw [xO,hv,List.drop_left' (by rw [zL];omega)]
 rw [h1,h2,← xO,x9 (by simp only [zH,zL];omega)]
theorem Aip {α:Type} (L vs:List α) (a s:Nat) (hv:vs.length=s) (hL:a+s≤L.length):(Af8 a vs L).take (a+s)=L.take a++vs:=by
 unfold Af8
 rw [x9 (by simp only [zH,zL];omega)]
structure Aam (E sz b n:Nat) (w w':World) (v:Value) (vals:List Value):Prop where
 os:w'.os=w.os
 tape:w'.tape=w.tape
 output:w'.output=w.output
 size:w.heap.size≤w'.heap.size
 blk:∀ g,g<w.heap.size→g≠b→w'.heap[g]? = w.heap[g]?
 row:∃ G cap cur,(G=b∨w.heap.size≤G)∧v=.slice (some ⟨G,0,none⟩) n cap∧w'.heap[G]? = some (.cells cur E (0,0))∧n≤cap∧cap≤maxLen∧cur.size=cap*sz∧cur.toList.take (n*sz)=vals
theorem Wb {E sz b n c:Nat} {w:World} {cur:Array Value} {vs:List Value} (hg:w.heap[b]? = some (.cells cur E (0,0))) (hc:n+1≤c) (hm:c≤maxLen) (hs:cur.size=c*sz) (hv:vs.length=sz) :
  Aam E sz b (n+1) w (w.setCells b (n*sz) vs) (.slice (some ⟨b,0,none⟩) (n+1) c) (cur.toList.take (n*sz)++vs):=by
 have hfit:n*sz+vs.length≤cur.size:=by
  rw [hs,hv]
  have:=xC sz hc
  rw [xP,wN] at this
  exact this
 obtain ⟨h1,h2,h3,h4,h5,h6⟩:=Na b E vs (n*sz) w cur hg hfit
 refine ⟨h4,h5,h6,by rw [h2];exact zN _,fun g _ hne=>h3 g hne,b,c,_,.inl rfl,rfl,h1,hc,hm,?_,?_⟩
 ·rw [yB,W3 (by rw [yC];exact hfit),yC,hs]
 ·rw [yW,xP,wN]
  exact Aip _ _ _ _ hv (by rw [yC];omega)
theorem Ss {E sz b n c i:Nat} {w:World} {cur:Array Value} {vs:List Value} (hg:w.heap[b]? = some (.cells cur E (0,0))) (hi:i<n) (hc:n+1≤c) (hm:c≤maxLen) (hs:cur.size=c*sz) (hv:vs.length=sz) :
  Aam E sz b (n+1) w ((w.drew.setCells b ((i+1)*sz) ((cur.toList.take (n*sz)).drop (i*sz))).setCells b (i*sz) vs) (.slice (some ⟨b,0,none⟩) (n+1) c)
   ((cur.toList.take (n*sz)).take (i*sz)++vs++(cur.toList.take (n*sz)).drop (i*sz)):=by
 have hle:(n+1)*sz≤cur.size:=by rw [hs];exact xC sz hc
 have hin:i*sz≤n*sz:=xC sz (Nat.le_of_lt hi)
 have ei:(i+1)*sz=i*sz+sz:=by rw [xP,wN]
 have en:(n+1)*sz=n*sz+sz:=by rw [xP,wN]
 have hdl:((cur.toList.take (n*sz)).drop (i*sz)).length=n*sz-i*sz:=by rw [yD,zL,yC];omega
 have hl0:cur.toList.length=cur.size:=yC
 obtain ⟨h1,h2,h3,h4,h5,h6⟩:=Na b E ((cur.toList.take (n*sz)).drop (i*sz)) ((i+1)*sz) w.drew cur hg (by omega)
 have hp1:=W3 (o:=(i+1)*sz) (vs:=(cur.toList.take (n*sz)).drop (i*sz)) (L:=cur.toList) (by omega)
 obtain ⟨k1,k2,k3,k4,k5,k6⟩:=Na b E vs (i*sz) _ _ h1 (by rw [yB,hp1];omega)
 rw [yW] at k1
 have hp2:=W3 (o:=i*sz) (vs:=vs) (L:=Af8 ((i+1)*sz) ((cur.toList.take (n*sz)).drop (i*sz)) cur.toList) (by rw [hp1];omega)
 refine ⟨k4.trans h4,k5.trans h5,k6.trans h6,by rw [k2,h2];exact zN _,fun g _ hne=>(k3 g hne).trans (h3 g hne),b,c,_,.inl rfl,rfl,k1,hc,hm,?_,?_⟩
 ·rw [yB,hp2,hp1,hl0,hs]
 ·rw [yW,List.take_take,kC hin]
  have:=Apu cur.toList vs ((cur.toList.take (n*sz)).drop (i*sz)) (i*sz) sz (n*sz-i*sz) hv hdl (by omega)
  rw [← ei,show (i+1)*sz+(n*sz-i*sz)=(n+1)*sz by omega] at this
  exact this
theorem Pb {E sz b n c:Nat} {w:World} {row:Array Value} {vals:List Value} (hc:n≤c) (hm:c≤maxLen) (hs:row.size=c*sz) (hv:row.toList.take (n*sz)=vals) :
  Aam E sz b n w (w.drew.alloc (.cells row E)) (.slice (some ⟨w.heap.size,0,none⟩) n c) vals:=by
 refine ⟨rfl,rfl,rfl,by simp,fun g hg _=>Below.heap_alloc w.drew _ g hg,w.heap.size,c,row,.inr (zN _),rfl,?_,hc,hm,hs,hv⟩
 show (w.heap.push (.cells row E))[w.heap.size]? = _
 simp
theorem Al5 {α:Type} (L vs D:List α) (a s m:Nat) (hv:vs.length=s) (hD:D.length=m) (hL:a+s+m≤L.length) :
  (Af8 (a+s) D (Af8 a vs L)).take (a+s+m)=L.take a++vs++D:=by
 have h1:(Af8 a vs L).take (a+s)=L.take a++vs:=Aip _ _ _ _ hv (by omega)
 show ((Af8 a vs L).take (a+s)++D++_).take (a+s+m)=_
 rw [h1,x9 (by simp only [zH,zL];omega)]
theorem T4 {E sz n c i:Nat} {w:World} {row:Array Value} {xs vs D:List Value} (hi:i<n) (hc:n+1≤c) (hm:c≤maxLen) (hs:row.size=c*sz) (hv:vs.length=sz) (hD:D.length=(n-i)*sz) (ht:row.toList.take (i*sz)=xs) :
  Aam E sz w.heap.size (n+1) w ((((w.alloc (.cells row E)).drew.setCells w.heap.size (i*sz) vs).drew).setCells w.heap.size ((i+1)*sz) D) (.slice (some ⟨w.heap.size,0,none⟩) (n+1) c) (xs++vs++D):=by
 have hle:(n+1)*sz≤row.size:=by rw [hs];exact xC sz hc
 have ei:(i+1)*sz=i*sz+sz:=by rw [xP,wN]
 have e3:(i+1)*sz+(n-i)*sz=(n+1)*sz:=by rw [← xP];congr 1;omega
 have hl0:row.toList.length=row.size:=yC
 have hg:(w.alloc (.cells row E)).drew.heap[w.heap.size]? = some (.cells row E (0,0)):=by
  show (w.heap.push (.cells row E))[w.heap.size]? = _
  simp
 obtain ⟨h1,h2,h3,h4,h5,h6⟩:=Na w.heap.size E vs (i*sz) _ row hg (by omega)
 have hp1:=W3 (o:=i*sz) (vs:=vs) (L:=row.toList) (by omega)
 obtain ⟨k1,k2,k3,k4,k5,k6⟩:=Na w.heap.size E D ((i+1)*sz) (((w.alloc (.cells row E)).drew.setCells w.heap.size (i*sz) vs).drew) _ h1 (by rw [yB,hp1];omega)
 rw [yW] at k1
 have hp2:=W3 (o:=(i+1)*sz) (vs:=D) (L:=Af8 (i*sz) vs row.toList) (by rw [hp1];omega)
 refine ⟨k4.trans h4,k5.trans h5,k6.trans h6,?_,fun g hg2 hne=>((k3 g hne).trans (h3 g hne)).trans (Below.heap_alloc w _ g hg2),w.heap.size,c,_,.inl rfl,rfl,k1,hc,hm,?_,?_⟩
 ·rw [k2]
  show w.heap.size≤((w.alloc (.cells row E)).drew.setCells w.heap.size (i*sz) vs).heap.size
  rw [h2]
  show w.heap.size≤(w.heap.push _).size
  rw [Array.size_push];omega
 ·rw [yB,hp2,hp1,hl0,hs]
 ·rw [yW,← ht,← e3,ei]
  exact Al5 row.toList vs D (i*sz) sz ((n-i)*sz) hv hD (by omega)
theorem Xj {P:Program} {F E sz:Nat} {cs vs:List Lf} {n i:Nat} (hsz:0<sz) (hcl:cs.length=n*sz) (hvl:vs.length=sz)
  (hmain:∀ (w:World) (v1:Value) (vb vc:Nat) (cur2:Array Value) (xs ys:List Value),w.ownsRow 0 E sz v1 n xs→w.heap[vb]? = some (.cells cur2 E (0,0))→(∀ j y,ys[j]? = some y→w.cell? ⟨vb,j,none⟩=some y)→ys.length=sz→Eu v1≠some vb →
   (∀ x ∈ xs,x.oneCell'=true)→(∀ y ∈ ys,y.oneCell'=true) →
   Calls P F #[v1,.int .i64 i,.slice (some ⟨vb,0,none⟩) 1 vc] w fun e w'=>∃ v b,e=.returned v∧Aam E sz b (n+1) w w' v (xs.take (i*sz)++ys++xs.drop (i*sz))∧(Eu v1=some b∨w.heap.size≤b)) :
  Dl P F [.arr E sz 0 cs,.arr E sz 0 vs] [.one (.ls 0 n),.one (.i .i64 (i:Int)),.one (.ls 1 1)] (fun y m'=>y=.s (.one (.ls 0 (n+1)))∧m'=[.arr E sz 0 (cs.take (i*sz)++vs++cs.drop (i*sz)),.dead]):=by
 intro w S H args hS hm hv
 obtain ⟨hl,hv⟩:=hv
 obtain ⟨v1,v2,v3,rfl⟩:∃ a b c,args = #[a,b,c]:=by
  obtain ⟨l⟩:=args
  have h3:l.length=3:=hl.symm
  match l,h3 with
  | [a,b,c],_=>exact ⟨a,b,c,rfl⟩
 have g0:=hv 0 _ v1 rfl rfl
 have g1:=hv 1 _ v2 rfl rfl
 have g2:=hv 2 _ v3 rfl rfl
 obtain ⟨_,_,h0⟩:=(show Cj w S _ H (.ls 0 n) v1 from g0)
 have hv1:v1=H 0:=(h0 E sz 0 cs rfl).2 hcl.symm
 obtain ⟨_,_,h2⟩:=(show Cj w S _ H (.ls 1 1) v3 from g2)
 have hv3:v3=H 1:=(h2 E sz 0 vs rfl).2 (by rw [wN];exact hvl.symm)
 have hv2:v2=.int .i64 i:=by
  cases (show Rep w S (.i .i64 i) v2 from g1)
  rfl
 subst hv1 hv3 hv2
 obtain ⟨_,_,n0,xs,hown,hxs,_⟩:=hm.bl 0 _ rfl
 obtain ⟨_,_,m0,ys,hown2,hys,_⟩:=hm.bl 1 _ rfl
 have hn0:n0=n:=Pw hown hsz (by rw [← hxs.1];exact hcl.symm)
 have hm0:m0=1:=Pw hown2 hsz (by rw [← hys.1,wN];exact hvl.symm)
 subst hn0 hm0
 rcases hown2.2 with ⟨_,h⟩ | ⟨vb,vc,cur2,e2,_,hg2,hc2,_,hs2,ht2⟩
 ·omega
 have hyl:ys.length=sz:=by rw [← hys.1];exact hvl
 have hlsO:∀ {ls:List Lf} {us:List Value},LsR (Rep w S) ls us→∀ u ∈ us,u.oneCell'=true:=fun {ls us} h u hu=>by
  obtain ⟨j,hj⟩:=xY.1 hu
  have hjl:j<ls.length:=by rw [h.1];exact (zC.1 hj).1
  exact (h.2 j _ u (zB hjl) hj).oneCell
 have hcell:∀ j y,ys[j]? = some y→w.cell? ⟨vb,j,none⟩=some y:=fun j y hj=>by
  unfold World.cell?
  rw [hg2]
  have hjl:=(zC.1 hj).1
  rw [← ht2,yN] at hj
  split at hj
  ·simpa using hj
  ·cases hj
 have hown0:Eu (H 0)≠some vb:=fun h=>by
  have h1:Blk.own (.arr E sz 0 vs) (H 1)=some vb:=by rw [e2];rfl
  have:=hm.inj 0 1 _ _ vb rfl rfl h h1
  cases this
 have hpk:∀ p g,p<2→H p≠.pointer (some ⟨g,0,none⟩):=fun p g hp e=>by
  match p,hp with
  | 0,_=>rcases hown.2 with ⟨h,_⟩ | ⟨_,_,_,h,_⟩ <;> (rw [h] at e;cases e)
  | 1,_=>rw [e2] at e;cases e
 rw [e2] at hown2 ⊢
 refine (hmain w (H 0) vb vc cur2 xs ys hown hg2 hcell hyl hown0 (hlsO hxs) (hlsO hys)).mono ?_
 rintro e w' ⟨v,b,rfl,r,hb⟩
 obtain ⟨G,cap,cur,hG,hve,hrow,hcn,hcm,hcs,hct⟩:=r.row
 have hSb:∀ g j,S g j→g<w.heap.size∧g≠b:=fun g j hs=>by
  refine ⟨hS.1 g j hs,fun e=>?_⟩
  subst e
  rcases hb with h | h
  ·have:=hm.sb 0 _ g j rfl h hs
   exact zT _ this
  ·have:=hS.1 g j hs;omega
 have hkeep:∀ g j,S g j→S g j∧w'.cell? ⟨g,j,none⟩=w.cell? ⟨g,j,none⟩:=fun g j hs=>⟨hs,World.cell?_of_block (w:=w) (r.blk g (hSb g j hs).1 (hSb g j hs).2)⟩
 have hGS:∀ j,¬ S G j:=fun j hs=>by
  rcases hG with rfl | h
  ·exact (hSb _ j hs).2 rfl
  ·have:=hS.1 G j hs;omega
 have hbX:∀ g,g=b→g<w.heap.size→Aef [.arr E sz 0 cs,.arr E sz 0 vs] H g:=fun g e hlt=>by
  subst e
  rcases hb with h | h
  ·exact ⟨0,_,rfl,h⟩
  ·omega
 have hexists:∃ o,w'.heap[G]? = some o:=⟨_,hrow⟩
 have hnl:(cs.take (i*sz)++vs++cs.drop (i*sz)).length=(n0+1)*sz:=by
  simp only [zH,zL,yD,hvl,hcl,xP,wN]
  omega
 refine ⟨v,_,_,S,fun p=>if p=0 then v else H p,rfl,⟨rfl,rfl⟩,⟨r.os,r.tape,r.output,r.size,fun g hlt hx=>r.blk g hlt (fun e=>hx (hbX g e hlt)),fun _ _ h=>h,fun g j hs=>(hkeep g j hs).2,fun _ _ _ _ h=>h⟩,
  hS.turn (·=b) (fun g j e hs=>absurd e (hSb g j hs).2) (fun g hg hne=>r.blk g hg hne) r.size (fun g j hs=>(hkeep g j hs).2),⟨?_,?_,?_,?_⟩,?_,⟨show 2≤2 by decide,fun p g hp h=>absurd h (hpk p g hp),fun p e' sz' k cs' hp h=>?_,fun p hp hne=>?_⟩,?_⟩
 ·intro p bb hbb
  match p,hbb with
  | 1,hbb=>cases hbb;trivial
  | 0,hbb =>
   cases hbb
   refine ⟨hsz,zY _,n0+1,xs.take (i*sz)++ys++xs.drop (i*sz),⟨?_,.inr ⟨G,cap,cur,hve,zY _,hrow,hcn,hcm,hcs,hct⟩⟩,?_,fun _ _ _ h=>absurd h (zT _)⟩
   ·have:xs.length=n0*sz:=by rw [← hxs.1];exact hcl
    simp only [zH,zL,yD,hyl,this,xP,wN]
    omega
   ·have key:∀ {l1 l2:List Lf} {u1 u2:List Value},LsR (Rep w' S) l1 u1→LsR (Rep w' S) l2 u2→LsR (Rep w' S) (l1++l2) (u1++u2):=fun {l1 l2 u1 u2} h1 h2=>by
     refine ⟨by rw [zH,zH,h1.1,h2.1],fun j l u hl hu=>?_⟩
     rw [List.getElem?_append] at hl hu
     rw [h1.1] at hl
     split at hl
     ·next hj=>rw [if_pos hj] at hu;exact h1.2 j l u hl hu
     ·next hj=>rw [if_neg hj] at hu;exact h2.2 _ l u hl hu
    have hx':LsR (Rep w' S) cs xs:=hxs.mono fun _ _=>Rep.mono hkeep
    have hy':LsR (Rep w' S) vs ys:=hys.mono fun _ _=>Rep.mono hkeep
    refine key (key ⟨by rw [zL,zL,hx'.1],fun j l u hl hu=>?_⟩ hy') ⟨by rw [yD,yD,hx'.1],fun j l u hl hu=>?_⟩
    ·rw [yN] at hl hu
     split at hl
     ·next hj=>rw [if_pos hj] at hu;exact hx'.2 j l u hl hu
     ·cases hl
    ·rw [yG] at hl hu
     exact hx'.2 _ l u hl hu
  | p+2,hbb=>cases hbb
 ·intro p bb g hbb ho
  match p,hbb with
  | 1,hbb=>cases hbb;cases ho
  | 0,hbb =>
   cases hbb
   have:some G=some g:=by rw [← ho];show _=Eu v;rw [hve];rfl
   cases this
   exact (z7.1 hrow).1
  | p+2,hbb=>cases hbb
 ·intro p q b1 b2 g h1 h2 o1 o2
  match p,q,h1,h2 with
  | 1,_,h1,_=>cases h1;cases o1
  | 0,1,_,h2=>cases h2;cases o2
  | 0,0,_,_=>rfl
  | 0,q+2,_,h2=>cases h2
  | p+2,_,h1,_=>cases h1
 ·intro p bb g j hbb ho hs
  match p,hbb with
  | 1,hbb=>cases hbb;cases ho
  | 0,hbb =>
   cases hbb
   have:some G=some g:=by rw [← ho];show _=Eu v;rw [hve];rfl
   cases this
   exact absurd hs (hGS j)
  | p+2,hbb=>cases hbb
 ·intro p bb g hbb ho
  match p,hbb with
  | 1,hbb=>cases hbb;cases ho
  | 0,hbb =>
   cases hbb
   have:some G=some g:=by rw [← ho];show _=Eu v;rw [hve];rfl
   cases this
   rcases hG with h | h
   ·by_cases hlt:G<w.heap.size
    ·exact .inr (hbX G h hlt)
    ·exact .inl (by omega)
   ·exact .inl h
  | p+2,hbb=>cases hbb
 ·match p,hp,h with
  | 0,_,h =>
   cases h
   exact ⟨0,cs,rfl,.inr (by rw [hnl,hcl];exact Nat.mul_lt_mul_of_pos_right (zG _) hsz)⟩
  | 1,_,h=>cases h
 ·match p,hp,hne with
  | 0,_,_=>show v≠undef;rw [hve];exact fun h=>by cases h
  | 1,_,hne=>exact hne
 ·show F7 w' S [.arr E sz 0 (cs.take (i*sz)++vs++cs.drop (i*sz)),.dead] (fun p=>if p=0 then v else H p) (.ls 0 (n0+1)) v
  refine ⟨show 0<2 by decide,⟨by rw [hve];rfl,by show v≠undef;rw [hve];exact fun h=>by cases h⟩,fun e' sz' k cs' h=>?_⟩
  cases h
  exact ⟨kF hnl.symm,fun _=>rfl⟩
section
variable {P:Program} {c:Ctx} {Q:Exit→AS→Prop} {t:Nat→AV} {m:List Blk}
theorem Awo {l:Nat} (h:Q .normal ⟨t,m⟩):AWC P c (.label l) Q ⟨t,m⟩:=fun _ _ S H r=>wp_label ⟨⟨t,m⟩,S,H,r,h⟩
theorem Avt {x:Code} (hg:∀ l st,¬ Q (.goto l) st) (h:AWC P c x Q ⟨t,m⟩):AWC P c (.scope x) Q ⟨t,m⟩:=fun a w S H r =>
 wp_scope_straight (wp_mono (h a w S H r) fun e a' w' hq=>by
  cases e with
  | goto l =>
   obtain ⟨st,S',H',hr,hq⟩:=hq
   exact absurd hq (hg l _)
  | _=>exact hq)
end
def Aoe {α:Type} (by_:Nat) (xs:List α) (i:Int) (vs:List α):Option (List α):=match vs with
 | [x]=>if (0≤i∧i≤(xs.length:Int))∧(xs.length+1)*by_≤140737488355328 then some (xs.take i.toNat++x::xs.drop i.toNat) else none
 | _=>none
theorem An3 {P:Program} {F E sz by_:Nat} {α:Type} {f:α→List Lf} (hf:∀ x,(f x).length=sz) (hB:∀ {cs vs:List Lf} {n i:Nat},cs.length=n*sz→vs.length=sz→i≤n→(n+1)*by_≤140737488355328 →
   Dl P F [.arr E sz 0 cs,.arr E sz 0 vs] [.one (.ls 0 n),.one (.i .i64 (i:Int)),.one (.ls 1 1)] (fun y m'=>y=.s (.one (.ls 0 (n+1)))∧m'=[.arr E sz 0 (cs.take (i*sz)++vs++cs.drop (i*sz)),.dead]))
  {xs:List α} {i:Int} {vs r:List α} (h:Aoe by_ xs i vs=some r) :
  Dl P F [.arr E sz 0 (xs.flatMap f),.arr E sz 0 (vs.flatMap f)] [.one (.ls 0 xs.length),.one (.i .i64 i),.one (.ls 1 vs.length)] (fun y m'=>y=.s (.one (.ls 0 r.length))∧m'=[.arr E sz 0 (r.flatMap f),.dead]):=by
 unfold Aoe at h
 match vs,h with
 | [x],h =>
  obtain ⟨⟨⟨h0,h1⟩,h2⟩,h⟩:=Cp h
  obtain rfl:=zD h
  have hb:=hB (cs:=xs.flatMap f) (vs:=[x].flatMap f) (n:=xs.length) (i:=i.toNat) (Au hf xs) (by rw [Au hf,yE,wN]) (by omega) h2
  rw [Int.toNat_of_nonneg h0] at hb
  refine hb.mono ?_
  rintro y m' ⟨rfl,rfl⟩
  have e1:(xs.take i.toNat++x::xs.drop i.toNat).length=xs.length+1:=by
   rw [zH,yT,zL,yD];omega
  rw [e1]
  refine ⟨rfl,?_⟩
  rw [kL,Wu hf,xD,W9 hf,← xO]
  simp
theorem Rel.fillRow {c:Ctx} {t:Nat→AV} {m:List Blk} {a:Act} {w w':World} {S S':Cg} {H H':Nat→Value} (r:Rel c ⟨t,m⟩ a w S H) {p:Nat} (hm:m[p]? = some .hole) (hp0:c.m0.length≤p) {e sz:Nat} {cs:List Lf}
  (hx:Ext w S w' S') (hin:InH w' S') (mem:Mem w' S' [.arr e sz 0 cs] H') (hown:∀ g,Eu (H' 0)=some g→w.heap.size≤g) :
  Rel c ⟨t,m.set p (.arr e sz 0 cs)⟩ a w' S' (Ry H p (H' 0)):=by
 have hp:p<m.length:=(zC.1 hm).1
 have hH:H p=undef:=r.bl p _ hm
 obtain ⟨hsz,hk,n,vals,h1,h2,h3⟩:=mem.bl 0 _ rfl
 refine r.changeM (p:=p) (b':=.arr e sz 0 cs) (v:=H' 0) (by simp) (zS hp) (fun q hq=>z6 (fun e=>hq e.symm)) (hx.keeps r.sl) (fun g _ h=>(Zg (hH.symm.trans h)).elim)
  (fun e sz k cs _ h _=>by rcases h with h | h;exact absurd hH h;omega) (fun g hg _=>hx.blk g hg) ⟨hsz,zY _,n,vals,h1,h2,fun _ _ _ h=>absurd h (zT _)⟩ (fun g hg=>?_)
  (fun q b g i _ hb ho hs=>hx.back g i (r.lo q b g hb ho).2 hs) (fun g i hg _ hs=>hx.back g i (zU hg r.ex.size) hs) hin hx.size hx.os hx.tape hx.output
 have hge:=hown g hg
 refine ⟨.inl (yO r.ex.size hge),mem.hp 0 _ g rfl hg,fun q b _ hb ho=>?_,fun i hs=>mem.sb 0 _ g i rfl hg hs⟩
 have:=(r.lo q b g hb ho).2
 omega
section
variable {P:Program} {c:Ctx} {t:Nat→AV} {M:List Blk} {ops:Array Oper} {Q:Exit→AS→Prop} {rest:List Oper} {ty:TypeId} {pos:String} {af:Array Edge} {d:Tmp}
theorem Wq {callee:Operand} {f:FuncId} {args:Array Operand} {ats:Array TypeId} {xs:List SV} {e sz n:Nat} {cs:List Lf} {α:Type} {g:α→List Lf} {ys:List α} (p:Nat) (hd:decide (d<c.nt)=true) (hf:FnI P f) (hcal:Cal ⟨t,M⟩ callee f [] []) (ho:X8 ⟨t,M⟩ args.toList xs)
  (hc:Dl P f [] xs (fun y m'=>y=.s (.one (.ls 0 n))∧m'=[.arr e sz 0 cs])) (hpub:xs.all (fun x=>x.inbB 0)=true) (hg:∀ x,(g x).length=sz) (hcs:cs=ys.flatMap g) (hn:n=ys.length) (hm:M[p]? = some .hole) (hp0:Nat.ble c.m0.length p=true)
  (k:AWL P c ops Q rest ⟨upd t d (.s (.one (.ls p n))),M.set p (.arr e sz 0 cs)⟩):AWL P c ops Q (⟨some d,.call { callee:=.value callee,args:=args,argTypes:=ats },ty,pos,af,none⟩::rest) ⟨t,M⟩:=by
 subst hcs hn
 intro a w S H r
 obtain ⟨vs,hvs,hrun⟩:=Zz (pos:=pos) (af:=af) (ty:=ty) (ats:=ats) r hf hcal ho (some d)
 refine wpList_plain rfl fun K hK=>?_
 unfold Oper.wp
 rw [hrun]
 have hvs':Xs (Cj w S [] H) xs vs.toList:=by
  have tie:Tie [] M H H (fun j=>j):=⟨fun p h=>absurd h (zT _),fun _ _=>rfl,fun p b h=>by cases h⟩
  have e:xs.map (SV.ren (fun j=>j))=xs:=by
   have hl:∀ l:Lf,l.ren0 (fun j=>j)=l:=fun l=>by cases l <;> rfl
   have hl2:∀ l:Lf,l.ren (fun j=>j)=l:=fun l=>by
    cases l with
    | fn f a b =>
     show Lf.fn f (a.map _) (b.map _)=_
     rw [show (Lf.ren0 fun j=>j)=id from funext hl,kO,kO]
    | _=>rfl
   have hs:∀ x:SV,x.ren (fun j=>j)=x:=fun x=>by
    cases x with
    | one l=>show SV.one _=_;rw [hl2]
    | agg ls=>show SV.agg _=_;rw [show (Lf.ren fun j=>j)=id from funext hl2,kO]
   rw [show (SV.ren fun j=>j)=id from funext hs,kO]
  exact tie.svsDown hpub (by rw [e];simpa using hvs)
 refine (hc w S H vs r.sl ⟨fun p b h=>by simp at h,fun p b g h=>by simp at h,fun p q b b' g h=>by simp at h,fun p b g i h=>by simp at h⟩ hvs').mono ?_
 rintro e' w' ⟨v,y,m',S',H',rfl,⟨rfl,rfl⟩,ext,hin,mem',hown',_,hav⟩
 have hx:Ext w S w' S':=ext.toExt (fun b ⟨q,bb,h,_⟩=>by simp at h)
 have r':=r.fillRow hm (wZ hp0) hx hin mem' (fun g hg=>by
  rcases hown' 0 _ g rfl hg with h | ⟨q,bb,h,_⟩
  ·exact h
  ·simp at h)
 have hp:p<M.length:=(zC.1 hm).1
 obtain ⟨_,ho1,hv⟩:=(show F7 w' S' [.arr e sz 0 (ys.flatMap g)] H' (.ls 0 ys.length) v from hav)
 have hvH:=(hv e sz 0 _ rfl).2 (Au hg ys).symm
 refine hK _ _ (k _ _ _ _ (r'.put (of_decide_eq_true hd) ?_))
 show F7 w' S' (M.set p (.arr e sz 0 (ys.flatMap g))) (Ry H p (H' 0)) (.ls p ys.length) v
 refine ⟨by simpa using hp,⟨ho1.1,by rw [Cc];exact ho1.2⟩,fun e2 sz2 k2 cs2 h2=>?_⟩
 rw [zS hp] at h2
 cases h2
 exact ⟨kF (Au hg ys).symm,fun _=>by rw [Cc];exact hvH⟩
end
end Go.Proofs.YtkblaobhhoebaaaGreat.Abs
namespace Go.Proofs.YtkblaobhhoebaaaGreat.Abs
open Go.RowKit Go.Lib
end Go.Proofs.YtkblaobhhoebaaaGreat.Abs
namespace Go.Proofs.YtkblaobhhoebaaaGreat.Abs
open Go.RowKit Go.MapKept
open Go.ChangeMaps (setBlock)
def Mr (vof:List Value→Value) (ks:List Value):List (List Value)→Obj→Prop:=fun vss o =>
 ∃ es clock,o=.map es clock∧Stamped es clock∧es.toList.map (·.key)=ks∧es.toList.map (·.val)=vss.map vof
def Aeu (vof:List Value→Value) (es:Array MapEntry) (clock:Nat):List (List Value)→Obj→Prop:=fun vss o=>o=.map es clock∧es.toList.map (·.val)=vss.map vof
def Akz (g since:Nat) (seen:Array Nat) (c0:Nat):List (List Value)→Obj→Prop:=fun _ o=>o=.mapIter (some g) since seen c0
def Vh (vs:List Value):Value:=.agg vs.toArray
def Agr (vs:List Value):Value:=vs.headD undef
theorem Rel.newObj {c:Ctx} {st:AS} {a:Act} {w:World} {S:Cg} {H:Nat→Value} (r:Rel c st a w S H) {o:Obj} {mk:List (List Value)→Obj→Prop} {vss:List (List Value)} {css:List (List Lf)} (ho:Ake o=true) (hmk:mk vss o)
  (hl:Al6 (Rep w S) css vss):Rel c ⟨st.t,st.m++[.obj w.heap.size mk css]⟩ a (w.alloc o) S (Ry H st.m.length (.pointer (some ⟨w.heap.size,0,none⟩))):=by
 have hx:Ext w S (w.alloc o) S:=Ext.alloc w S _
 have hk:=hx.keeps r.sl
 have hf:=r.fresh (zN w.heap.size)
 refine r.change (b':=.obj w.heap.size mk css) (by simp) (by simp) (fun q hq=>?_) hk (fun g h=>absurd h (wJ _)) (fun e sz k cs h=>absurd h (wJ _))
  (fun g hg _=>Below.heap_alloc w o g hg) ⟨rfl,vss,o,heap_alloc_new w o,ho,hmk,hl.mono (fun l v=>Rep.mono hk)⟩ (fun g hg=>?_) (fun q b g i _ _ _ h=>h) (fun g i _ _ h=>h) (r.sl.ext hx).two hx.size rfl rfl rfl
 ·rcases zO q st.m.length with h | h
  ·rw [zK h]
  ·rw [yJ (by simp;omega),yJ h]
 ·have:w.heap.size=g:=by simpa [Blk.own,Eu] using hg
  subst this
  exact ⟨.inl r.ex.size,by simp,fun q b _ hb=>hf.1 q b hb,fun i hi=>absurd hi (hf.2 i)⟩
theorem Sy (w:World) (g:Nat) (o:Obj):(setBlock w g o).heap.size=w.heap.size:=by simp [setBlock]
theorem Rel.setObj {c:Ctx} {st:AS} {a:Act} {w:World} {S:Cg} {H:Nat→Value} (r:Rel c st a w S H) {p g:Nat} {mk mk':List (List Value)→Obj→Prop} {css css':List (List Lf)} {o:Obj} {vss:List (List Value)}
  (hm:st.m[p]? = some (.obj g mk css)) (ho:Ake o=true) (hmk:mk' vss o) (hl:Al6 (Rep w S) css' vss):∃ H',Rel c ⟨st.t,st.m.set p (.obj g mk' css')⟩ a (setBlock w g o) S H'∧∀ b i,S b i→S b i∧(setBlock w g o).cell? ⟨b,i,none⟩=w.cell? ⟨b,i,none⟩:=by
 have hp:p<st.m.length:=(zC.1 hm).1
 obtain ⟨h1,vs0,o0,h2,h3,h4,h5⟩:=r.bl p _ hm
 have hlo:=r.lo p _ g hm (by rw [h1];rfl)
 have hset:=heap_set (o':=o) h2
 have hcell:∀ b i,S b i→(setBlock w g o).cell? ⟨b,i,none⟩=w.cell? ⟨b,i,none⟩:=fun b i hs=>by
  refine World.cell?_of_block (w:=w) (hset.2 b fun e=>?_)
  subst e
  have:=r.sb p _ b i hm (by rw [h1];rfl) hs
  exact absurd this (zT _)
 have hk:∀ b i,S b i→S b i∧(setBlock w g o).cell? ⟨b,i,none⟩=w.cell? ⟨b,i,none⟩:=fun b i hs=>⟨hs,hcell b i hs⟩
 refine ⟨_,r.change (m':=st.m.set p (.obj g mk' css')) (b':=.obj g mk' css') (v:=H p) (by simp) (by rw [zS hp]) (fun q hq=>by rw [z6 (Ne.symm hq)]) hk (fun _ _ _=>rfl) (fun e sz k cs _ h=>by cases h)
  (fun g' _ hg'=>hset.2 g' fun e=>?_) ⟨h1,vss,o,hset.1,ho,hmk,hl.mono (fun l v=>Rep.mono hk)⟩ (fun g' hg'=>?_) (fun q b g i _ _ _ h=>h) (fun g i _ _ h=>h) (r.sl.turn2 (kF (Sy w g o).symm) hcell) (kF (Sy w g o).symm) rfl rfl rfl,hk⟩
 ·subst e
  exact hg' _ hm (by rw [h1];rfl)
 ·have hg2:g=g':=by
   rw [h1] at hg'
   simpa [Blk.own,Eu] using hg'
  subst hg2
  exact ⟨hlo.1,by rw [Sy];exact hlo.2,fun q b hq hb ho'=>hq (r.inj q p b _ g hb hm ho' (by rw [h1];rfl)),fun i hi=>absurd (r.sb p _ g i hm (by rw [h1];rfl) hi) (zT _)⟩
section
variable {P:Program} {c:Ctx} {ops:Array Oper} {Q:Exit→AS→Prop} {rest:List Oper} {ty:TypeId} {pos:String} {af:Array Edge} {d:Tmp} {t:Nat→AV} {m:List Blk}
theorem Apw {tm:TypeId} (vof:List Value→Value) (hd:decide (d<c.nt)=true)
  (k:∀ g,AWL P c ops Q rest ⟨upd t d (.s (.one (.raw (.map (some g))))),m++[.obj g (Mr vof []) []]⟩):AWL P c ops Q (⟨some d,.makeMap tm none,ty,pos,af,none⟩::rest) ⟨t,m⟩:=by
 intro a w S H r
 refine wpList_plain rfl fun K hK=>?_
 unfold Oper.wp
 have hrun:(execOp a.eval ⟨some d,.makeMap tm none,ty,pos,af,none⟩).run P w=.ok (.value (.map (some w.heap.size))) (w.alloc (.map #[] 0)):=by
  simp [execOp,Instr.makeMap]
 rw [hrun]
 have r':=r.newObj (o:=.map #[] 0) (mk:=Mr vof []) (vss:=[]) (css:=[]) rfl ⟨#[],0,rfl,stamped_empty 0,rfl,rfl⟩ ⟨rfl,fun j cs vs h=>by simp at h⟩
 exact hK _ _ (k w.heap.size _ _ _ _ (r'.put (d:=d) (x:=.s (.one (.raw (.map (some w.heap.size))))) (of_decide_eq_true hd) (Jq (.raw _ rfl))))
theorem Adm {st:AS} {a:Act} {w:World} {S:Cg} {H:Nat→Value} (r:Rel c st a w S H) {x:Operand} {g:Nat} (hx:Cs st x=.s (.one (.raw (.map (some g))))):a.eval x=.map (some g):=by
 have h:=Bw r x
 rw [hx] at h
 exact Lh h
theorem Aim {st:AS} {a:Act} {w:World} {S:Cg} {H:Nat→Value} (r:Rel c st a w S H) {x:Operand} {s:ByteArray} (hx:Cs st x=.s (.one (.s s))):a.eval x=.string s:=by
 have h:=Bw r x
 rw [hx] at h
 exact Akj h
theorem Aiu {es:Array MapEntry} {ss:List ByteArray} (h:es.toList.map (·.key)=ss.map .string):∀ x ∈ es.toList,IsKey .string x.key:=fun x hx=>by
 have:x.key ∈ ss.map Value.string:=by rw [← h];exact yP.2 ⟨x,hx,rfl⟩
 obtain ⟨s,_,hs⟩:=yP.1 this
 rw [← hs];trivial
theorem Si {α β:Type} (f:α→α) (g:α→β) (h:β→β) (hgh:∀ x,g (f x)=h (g x)):∀ (l:List α) (i:Nat),(l.modify i f).map g=(l.map g).modify i h
 | [],i=>by cases i <;> rfl
 | x::l,0=>by simp [List.modify,hgh]
 | x::l,i+1=>by
  have:=Si f g h hgh l i
  simp [List.modify] at this ⊢
  exact this
theorem Pn {α:Type} (v:α):∀ (l:List α) (i:Nat),l.modify i (fun _=>v)=l.set i v
 | [],i=>by cases i <;> rfl
 | x::l,0=>rfl
 | x::l,i+1=>by
  have:=Pn v l i
  simp [List.modify] at this ⊢
  exact this
theorem Ak7 {tm kt et:TypeId} {x y z:Operand} {g p:Nat} {ss:List ByteArray} {css:List (List Lf)} {s:ByteArray} {ls:List Lf} (hu:P.underlying tm=some (.map kt et)) (hkt:P.underlying kt=some .string)
  (hx:Cs ⟨t,m⟩ x=.s (.one (.raw (.map (some g))))) (hy:Cs ⟨t,m⟩ y=.s (.one (.s s))) (hz:Cs ⟨t,m⟩ z=.s (.agg ls)) (hpub:ls.all Lf.pubd=true) (hm:m[p]? = some (.obj g (Mr Vh (ss.map .string)) css))
  (k1:∀ j,ss[j]? = some s→AWL P c ops Q rest ⟨t,m.set p (.obj g (Mr Vh (ss.map .string)) (css.set j ls))⟩)
  (k2:s ∉ ss→AWL P c ops Q rest ⟨t,m.set p (.obj g (Mr Vh ((ss++[s]).map .string)) (css++[ls]))⟩) :
  AWL P c ops Q (⟨none,.mapUpdate tm x y z,ty,pos,af,none⟩::rest) ⟨t,m⟩:=by
 intro a w S H r
 obtain ⟨h1,vss,o,h2,h3,⟨es,clock,rfl,hst,hks,hvs⟩,h5⟩:=r.bl p _ hm
 have ex:=Adm r hx
 have ey:=Aim r hy
 have hzr:=Bw r z
 rw [hz] at hzr
 obtain ⟨vz,ez,hzl⟩:=hzr
 have hzl':LsR (Rep w S) ls vz.toList:=⟨hzl.1,fun j l v e1 e2=>(hzl.2 j l v e1 e2).rep (zJ.1 hpub l (zI e1))⟩
 have hkey:=Aiu hks
 have hlen:css.length=vss.length:=h5.1
 have hev:es.size=vss.length:=by
  have:=congrArg List.length hvs
  simpa using this
 have hes:es.size=ss.length:=by
  have:=congrArg List.length hks
  simpa using this
 refine wpList_plain rfl fun K hK=>?_
 unfold Oper.wp
 rcases findNow_spec (d:=.string) (k:=.string s) trivial es.toList 0 hkey with ⟨f1,f2⟩ | ⟨j,e,f1,f2,f3⟩
 ·have hns:s ∉ ss:=fun hs=>by
   have:Value.string s ∈ es.toList.map (·.key):=by rw [hks];exact yP.2 ⟨s,hs,rfl⟩
   obtain ⟨e,he,hek⟩:=yP.1 this
   exact f2 e he hek
  have hrun:(execOp a.eval ⟨none,.mapUpdate tm x y z,ty,pos,af,none⟩).run P w=.ok .skip (setBlock w g (.map (es.push { key:=.string s,val:=.agg vz,born:=clock }) (clock+1))):=by
   simp [execOp,ex,ey,ez,Instr.mapUpdate,run_underlying hu,MapKept.run_getObj_map h2,run_checkKey (k:=.string s) hkt trivial,run_findKey hkt f1,run_setObj_map _ h2,Result.andThen,setBlock]
  rw [hrun]
  have hl2:Al6 (Rep w S) (css++[ls]) (vss++[vz.toList]):=⟨by simp [hlen],fun i cs vs e1 e2=>by
   rcases zO i css.length with hi | hi
   ·rw [zK hi] at e1
    rw [zK (by omega)] at e2
    exact h5.2 i cs vs e1 e2
   ·rw [zX hi] at e1
    rw [zX (by omega),← hlen] at e2
    rcases kI (i-css.length) with h0 | h0
    ·rw [h0] at e1 e2
     obtain rfl:=zD e1
     obtain rfl:=zD e2
     exact hzl'
    ·rw [yJ (by rw [yE];omega)] at e1;cases e1⟩
  obtain ⟨H',r',_⟩:=r.setObj (mk':=Mr Vh ((ss++[s]).map .string)) (css':=css++[ls]) (vss:=vss++[vz.toList]) (o:=.map (es.push { key:=.string s,val:=.agg vz,born:=clock }) (clock+1)) hm rfl
   ⟨_,_,rfl,stamped_push hst f2,by simp [hks],by simp [hvs,Vh]⟩ hl2
  exact hK _ _ (k2 hns _ _ _ _ r')
 ·rw [yH] at f1
  have hj:j<es.size:=by
   have:=(zC.1 f2).1
   simpa using this
  have hsj:ss[j]? = some s:=by
   have:(es.toList.map (·.key))[j]? = some (.string s):=by rw [zQ,f2];simp [f3]
   rw [hks,zQ] at this
   cases hsj:ss[j]? with
   | none=>rw [hsj] at this;cases this
   | some s'=>rw [hsj] at this;simpa using this
  have hej:es[j]? = some e:=by rw [← xZ];exact f2
  have hrun:(execOp a.eval ⟨none,.mapUpdate tm x y z,ty,pos,af,none⟩).run P w=.ok .skip (setBlock w g (.map (es.modify j fun e=>{ e with key:=.string s,val:=.agg vz }) clock)):=by
   simp [execOp,ex,ey,ez,Instr.mapUpdate,run_underlying hu,MapKept.run_getObj_map h2,run_checkKey (k:=.string s) hkt trivial,run_findKey hkt f1,run_setObj_map _ h2,Result.andThen,setBlock,hej,f3,run_keyThatStays (d:=.string) (k:=.string s) trivial]
  rw [hrun]
  have hmk:(es.modify j fun e=>{ e with key:=.string s,val:=.agg vz }).toList.map (·.key)=ss.map .string:=by
   rw [jL,Si (fun e:MapEntry=>{ e with key:=.string s,val:=.agg vz }) (fun e:MapEntry=>e.key) (fun _=>Value.string s) (fun _=>rfl),Pn,hks,← kJ]
   congr 1
   apply wB
   intro i
   rw [w9]
   by_cases hij:j=i
   ·subst hij;rw [if_pos rfl,if_pos (by omega),hsj]
   ·rw [if_neg hij]
  have hmv:(es.modify j fun e=>{ e with key:=.string s,val:=.agg vz }).toList.map (·.val)=(vss.set j vz.toList).map Vh:=by
   rw [jL,Si (fun e:MapEntry=>{ e with key:=.string s,val:=.agg vz }) (fun e:MapEntry=>e.val) (fun _=>Value.agg vz) (fun _=>rfl),Pn,hvs,kJ]
   simp [Vh]
  have hl2:Al6 (Rep w S) (css.set j ls) (vss.set j vz.toList):=⟨by simp [hlen],fun i cs vs e1 e2=>by
   rw [w9] at e1 e2
   by_cases hij:j=i
   ·subst hij
    rw [if_pos rfl,if_pos (by omega)] at e1 e2
    obtain rfl:=zD e1
    obtain rfl:=zD e2
    exact hzl'
   ·rw [if_neg hij] at e1 e2
    exact h5.2 i cs vs e1 e2⟩
  obtain ⟨H',r',_⟩:=r.setObj (mk':=Mr Vh (ss.map .string)) (css':=css.set j ls) (vss:=vss.set j vz.toList) (o:=.map (es.modify j fun e=>{ e with key:=.string s,val:=.agg vz }) clock) hm rfl
   ⟨_,_,rfl,stamped_modify hst j _ (fun _ _=>rfl) (fun e' _ he'=>by rw [hej] at he';cases he';exact f3.symm),hmk,hmv⟩ hl2
  exact hK _ _ (k1 j hsj _ _ _ _ r')
theorem Arz {tm kt et:TypeId} {x y:Operand} {g p:Nat} {ss:List ByteArray} {css:List (List Lf)} {s:ByteArray} (hu:P.underlying tm=some (.map kt et)) (hkt:P.underlying kt=some .string)
  (hx:Cs ⟨t,m⟩ x=.s (.one (.raw (.map (some g))))) (hy:Cs ⟨t,m⟩ y=.s (.one (.s s))) (hm:m[p]? = some (.obj g (Mr Vh (ss.map .string)) css))
  (k1:∀ j,ss[j]? = some s→AWL P c ops Q rest ⟨t,m.set p (.obj g (Mr Vh ((ss.eraseIdx j).map .string)) (css.eraseIdx j))⟩)
  (k2:s ∉ ss→AWL P c ops Q rest ⟨t,m.set p (.obj g (Mr Vh (ss.map .string)) css)⟩) {ats:Array TypeId} (hat:ats = #[tm,kt]) :
  AWL P c ops Q (⟨none,.call { callee:=.builtin .delete,args:=#[x,y],argTypes:=ats },ty,pos,af,none⟩::rest) ⟨t,m⟩:=by
 subst hat
 intro a w S H r
 obtain ⟨h1,vss,o,h2,h3,⟨es,clock,rfl,hst,hks,hvs⟩,h5⟩:=r.bl p _ hm
 have ex:=Adm r hx
 have ey:=Aim r hy
 have hkey:=Aiu hks
 have hlen:css.length=vss.length:=h5.1
 refine wpList_plain rfl fun K hK=>?_
 unfold Oper.wp
 rcases findNow_spec (d:=.string) (k:=.string s) trivial es.toList 0 hkey with ⟨f1,f2⟩ | ⟨j,e,f1,f2,f3⟩
 ·have hns:s ∉ ss:=fun hs=>by
   have:Value.string s ∈ es.toList.map (·.key):=by rw [hks];exact yP.2 ⟨s,hs,rfl⟩
   obtain ⟨e,he,hek⟩:=yP.1 this
   exact f2 e he hek
  have hrun:(execOp a.eval ⟨none,.call { callee:=.builtin .delete,args:=#[x,y],argTypes:=#[tm,kt] },ty,pos,af,none⟩).run P w=.ok (.value (.tuple #[])) (setBlock w g (.map es clock)):=by
   simp [execOp,resolve,invoke,builtin,ex,ey,Builtin.delete_,run_underlying hu,MapKept.run_getObj_map h2,run_checkKey (k:=.string s) hkt trivial,run_findKey hkt f1,run_setObj_map _ h2,Result.andThen,setBlock]
  rw [hrun]
  obtain ⟨H',r',_⟩:=r.setObj (mk':=Mr Vh (ss.map .string)) (css':=css) (vss:=vss) (o:=.map es clock) hm rfl ⟨_,_,rfl,hst,hks,hvs⟩ h5
  exact hK _ _ (k2 hns _ _ _ _ r')
 ·rw [yH] at f1
  have hj:j<es.size:=by
   have:=(zC.1 f2).1
   simpa using this
  have hsj:ss[j]? = some s:=by
   have:(es.toList.map (·.key))[j]? = some (.string s):=by rw [zQ,f2];simp [f3]
   rw [hks,zQ] at this
   cases hsj:ss[j]? with
   | none=>rw [hsj] at this;cases this
   | some s'=>rw [hsj] at this;simpa using this
  have hrun:(execOp a.eval ⟨none,.call { callee:=.builtin .delete,args:=#[x,y],argTypes:=#[tm,kt] },ty,pos,af,none⟩).run P w=.ok (.value (.tuple #[])) (setBlock w g (.map (es.eraseIdxIfInBounds j) clock)):=by
   simp [execOp,resolve,invoke,builtin,ex,ey,Builtin.delete_,run_underlying hu,MapKept.run_getObj_map h2,run_checkKey (k:=.string s) hkt trivial,run_findKey hkt f1,run_setObj_map _ h2,Result.andThen,setBlock]
  rw [hrun]
  have herase:(es.eraseIdxIfInBounds j).toList=es.toList.eraseIdx j:=by
   unfold Array.eraseIdxIfInBounds
   rw [dif_pos hj,Array.toList_eraseIdx]
  obtain ⟨H',r',_⟩:=r.setObj (mk':=Mr Vh ((ss.eraseIdx j).map .string)) (css':=css.eraseIdx j) (vss:=vss.eraseIdx j) (o:=.map (es.eraseIdxIfInBounds j) clock) hm rfl
   ⟨_,_,rfl,stamped_erase hst j,by rw [herase,Go.ChangeMaps.map_eraseIdx,hks,Go.ChangeMaps.map_eraseIdx],by rw [herase,Go.ChangeMaps.map_eraseIdx,hvs,Go.ChangeMaps.map_eraseIdx]⟩
   ⟨by rw [List.length_eraseIdx,List.length_eraseIdx,hlen],fun i cs vs e1 e2=>by
    rw [List.getElem?_eraseIdx] at e1 e2
    by_cases hij:i<j
    ·rw [if_pos hij] at e1 e2;exact h5.2 i cs vs e1 e2
    ·rw [if_neg hij] at e1 e2;exact h5.2 (i+1) cs vs e1 e2⟩
  exact hK _ _ (k1 j hsj _ _ _ _ r')
theorem An7 {tm kt et:TypeId} {x:Operand} {g p:Nat} {ks:List Value} {css:List (List Lf)} {vof:List Value→Value} (hd:decide (d<c.nt)=true) (hu:P.underlying tm=some (.map kt et))
  (hx:Cs ⟨t,m⟩ x=.s (.one (.raw (.map (some g))))) (hm:m[p]? = some (.obj g (Mr vof ks) css))
  (k:∀ es clock q,Stamped es clock→es.toList.map (·.key)=ks→es.size=css.length →
   AWL P c ops Q rest ⟨upd t d (.s (.one (.raw (.pointer (some ⟨q,0,none⟩))))),m.set p (.obj g (Aeu vof es clock) css)++[.obj q (Akz g clock #[] clock) []]⟩) :
  AWL P c ops Q (⟨some d,.range tm x,ty,pos,af,none⟩::rest) ⟨t,m⟩:=by
 intro a w S H r
 obtain ⟨h1,vss,o,h2,h3,⟨es,clock,rfl,hst,hks,hvs⟩,h5⟩:=r.bl p _ hm
 have ex:=Adm r hx
 refine wpList_plain rfl fun K hK=>?_
 unfold Oper.wp
 have hrun:(execOp a.eval ⟨some d,.range tm x,ty,pos,af,none⟩).run P w=.ok (.value (.pointer (some ⟨w.heap.size,0,none⟩))) (w.alloc (.mapIter (some g) clock #[] clock)):=by
  simp [execOp,ex,run_range_map w tm kt et g es clock hu h2]
 rw [hrun]
 have hb:setBlock w g (.map es clock)=w:=by
  unfold setBlock
  have hlt:=(z7.1 h2).1
  have:w.heap.setIfInBounds g (.map es clock)=w.heap:=by
   apply Array.ext_getElem?
   intro i
   rw [kM]
   by_cases e:g=i
   ·subst e;rw [if_pos rfl,if_pos hlt,h2]
   ·rw [if_neg e]
  rw [this]
 obtain ⟨H1,r1,_⟩:=r.setObj (mk':=Aeu vof es clock) (css':=css) (vss:=vss) (o:=.map es clock) hm rfl ⟨rfl,hvs⟩ h5
 rw [hb] at r1
 have r2:=r1.newObj (o:=.mapIter (some g) clock #[] clock) (mk:=Akz g clock #[] clock) (vss:=[]) (css:=[]) rfl rfl ⟨rfl,fun j cs vs h=>by simp at h⟩
 have hsz:es.size=css.length:=by
  have:=congrArg List.length hvs
  rw [h5.1];simpa using this
 exact hK _ _ (k es clock w.heap.size hst hks hsz _ _ _ _ (r2.put (d:=d) (x:=.s (.one (.raw (.pointer (some ⟨w.heap.size,0,none⟩))))) (of_decide_eq_true hd) (Jq (.raw _ rfl))))
theorem Are {w:World} {S:Cg} {es:Array MapEntry} {css:List (List Lf)} {vss:List (List Value)} {ss:List ByteArray} (hks:es.toList.map (·.key)=ss.map .string) (hvs:es.toList.map (·.val)=vss.map Vh) (h5:Al6 (Rep w S) css vss) {j:Nat} {e:MapEntry} (hj:es[j]? = some e) :
  ∃ s cs vs,ss[j]? = some s∧css[j]? = some cs∧LsR (Rep w S) cs vs∧e.key=.string s∧e.val=.agg vs.toArray:=by
 have hj':es.toList[j]? = some e:=by rw [xZ];exact hj
 have h1:(ss.map Value.string)[j]? = some e.key:=by rw [← hks,zQ,hj'];rfl
 have h2:(vss.map Vh)[j]? = some e.val:=by rw [← hvs,zQ,hj'];rfl
 rw [zQ] at h1 h2
 cases hs:ss[j]? with
 | none=>rw [hs] at h1;cases h1
 | some s =>
 cases hv:vss[j]? with
 | none=>rw [hv] at h2;cases h2
 | some vs =>
 have hlt:j<css.length:=by rw [h5.1];exact (zC.1 hv).1
 rw [hs] at h1;rw [hv] at h2
 exact ⟨s,_,vs,rfl,zB hlt,h5.2 j _ vs (zB hlt) hv,(zD h1).symm,(zD h2).symm⟩
theorem Ap5 {x:Operand} {g q p pi since c0:Nat} {es:Array MapEntry} {clock:Nat} {seen:Array Nat} {css:List (List Lf)} {ss:List ByteArray} (hd:decide (d<c.nt)=true)
  (hx:Cs ⟨t,m⟩ x=.s (.one (.raw (.pointer (some ⟨q,0,none⟩))))) (hm:m[p]? = some (.obj g (Aeu Vh es clock) css)) (hi:m[pi]? = some (.obj q (Akz g since seen c0) [])) (hold:∀ x ∈ es.toList,x.born<since) (hsc:since≤c0)
  (hks:es.toList.map (·.key)=ss.map .string)
  (k0:(leftOf es seen).size=0→AWL P c ops Q rest ⟨upd t d (.tup [.one (.b false)]),m⟩)
  (k1:∀ (j:Nat) e s cs,es[j]? = some e→e ∈ (leftOf es seen).toList→ss[j]? = some s→css[j]? = some cs→AWL P c ops Q rest ⟨upd t d (.tup [.one (.b true),.one (.s s),.agg cs]),m.set pi (.obj q (Akz g since (seen.push e.born) clock) [])⟩) :
  AWL P c ops Q (⟨some d,.next x false,ty,pos,af,none⟩::rest) ⟨t,m⟩:=by
 intro a w S H r
 obtain ⟨g1,vss,o,g2,g3,⟨rfl,hvs⟩,g5⟩:=r.bl p _ hm
 obtain ⟨i1,vss2,o2,i2,i3,rfl,i5⟩:=r.bl pi _ hi
 have ex:a.eval x=.pointer (some ⟨q,0,none⟩):=by
  have h:=Bw r x
  rw [hx] at h
  exact Lh h
 have hrw:(execOp a.eval ⟨some d,.next x false,ty,pos,af,none⟩).run P w=((Instr.next (.pointer (some ⟨q,0,none⟩)) false ty).run P w).andThen fun v w'=>.ok (.value v) w':=by
  simp [execOp,ex]
 refine wpList_plain rfl fun K hK=>?_
 unfold Oper.wp
 rw [hrw]
 rcases run_next_at (P:=P) w ty q g since c0 seen es clock i2 g2 hold hsc with ⟨h0,hr⟩ | ⟨e,he,w1,hw1,hr⟩
 ·rw [hr]
  exact hK _ _ (k0 h0 _ _ _ _ (r.put (d:=d) (x:=.tup [.one (.b false)]) (of_decide_eq_true hd) ⟨_,rfl,rfl,fun j x u h1 h2=>by
   cases j with
   | zero=>obtain rfl:=zD h1;obtain rfl:=zD h2;exact Cj.of_rep (m:=m) (H:=H) (.b _)
   | succ j=>simp at h1⟩))
 ·rw [hr]
  have hmem:e ∈ es.toList:=by unfold leftOf at he;simp at he ⊢;exact he.1
  obtain ⟨j,hj⟩:=xY.1 hmem
  have hj':es[j]? = some e:=by rw [← xZ];exact hj
  have r1:Rel c ⟨t,m⟩ a w1 S H:=by
   rcases hw1 with rfl | rfl
   ·exact r
   ·exact r.ext (Ext.drew w S) (r.sl.ext (Ext.drew w S))
  obtain ⟨g1',vss',o',g2',g3',⟨ho',hvs'⟩,g5'⟩:=r1.bl p _ hm
  obtain ⟨s,cs,vs,e1,e2,e3,e4,e5⟩:=Are hks hvs' g5' hj'
  obtain ⟨H',r2,hk2⟩:=r1.setObj (mk':=Akz g since (seen.push e.born) clock) (css':=[]) (vss:=[]) (o:=.mapIter (some g) since (seen.push e.born) clock) hi rfl rfl ⟨rfl,fun j cs vs h=>by simp at h⟩
  refine hK _ _ (k1 j e s cs hj' he e1 e2 _ _ _ _ (r2.put (d:=d) (x:=.tup [.one (.b true),.one (.s s),.agg cs]) (of_decide_eq_true hd) ⟨_,rfl,rfl,fun i x u h1 h2=>?_⟩))
  match i with
  | 0=>obtain rfl:=zD h1;obtain rfl:=zD h2;exact Cj.of_rep (m:=m.set pi (.obj q (Akz g since (seen.push e.born) clock) [])) (H:=H') (.b _)
  | 1=>obtain rfl:=zD h1;obtain rfl:=zD h2;rw [e4];exact Cj.of_rep (m:=m.set pi (.obj q (Akz g since (seen.push e.born) clock) [])) (H:=H') (.s _)
  | 2=>obtain rfl:=zD h1;obtain rfl:=zD h2;rw [e5];exact ⟨_,rfl,show LsR _ _ vs.toArray.toList from by rw [yW];exact e3.mono fun l v h=>Cj.of_rep (Rep.mono hk2 h)⟩
  | i+3=>simp at h1
theorem Ani {x:Operand} {g q p pi since:Nat} {es:Array MapEntry} {clock:Nat} {seen:Array Nat} {css:List (List Lf)} {ss:List ByteArray} {j:Nat} {e:MapEntry} {s:ByteArray} {cs:List Lf} (hd:decide (d<c.nt)=true)
  (hx:Cs ⟨t,m⟩ x=.s (.one (.raw (.pointer (some ⟨q,0,none⟩))))) (hm:m[p]? = some (.obj g (Aeu Vh es clock) css)) (hi:m[pi]? = some (.obj q (Akz g since (seen.push e.born) clock) [])) (hn:(es.toList.map (·.born)).Nodup)
  (hks:es.toList.map (·.key)=ss.map .string) (hj:es[j]? = some e) (hs:ss[j]? = some s) (hcs:css[j]? = some cs)
  (k:AWL P c ops Q rest ⟨upd t d (.tup [.one (.s s),.agg cs]),m⟩) :
  AWL P c ops Q (⟨some d,.entry x,ty,pos,af,none⟩::rest) ⟨t,m⟩:=by
 intro a w S H r
 obtain ⟨g1,vss,o,g2,g3,⟨rfl,hvs⟩,g5⟩:=r.bl p _ hm
 obtain ⟨i1,vss2,o2,i2,i3,rfl,i5⟩:=r.bl pi _ hi
 have ex:a.eval x=.pointer (some ⟨q,0,none⟩):=by
  have h:=Bw r x
  rw [hx] at h
  exact Lh h
 obtain ⟨s',cs',vs,e1,e2,e3,e4,e5⟩:=Are hks hvs g5 hj
 rw [hs] at e1;rw [hcs] at e2
 obtain rfl:=zD e1
 obtain rfl:=zD e2
 have hmem:e ∈ es.toList:=zI (i:=j) (by rw [xZ];exact hj)
 have hrw:(execOp a.eval ⟨some d,.entry x,ty,pos,af,none⟩).run P w=.ok (.value (.tuple #[e.key,e.val])) w:=by
  simp [execOp,ex,run_entry_at w q g since seen es clock e i2 g2 hmem hn]
 refine wpList_plain rfl fun K hK=>?_
 unfold Oper.wp
 rw [hrw]
 refine hK _ _ (k _ _ _ _ (r.put (d:=d) (x:=.tup [.one (.s s),.agg cs]) (of_decide_eq_true hd) ⟨_,rfl,rfl,fun i x u h1 h2=>?_⟩))
 match i with
 | 0=>obtain rfl:=zD h1;obtain rfl:=zD h2;rw [e4];exact Cj.of_rep (m:=m) (H:=H) (.s _)
 | 1=>obtain rfl:=zD h1;obtain rfl:=zD h2;rw [e5];exact ⟨_,rfl,show LsR _ _ vs.toArray.toList from by rw [yW];exact e3.mono fun l v h=>Cj.of_rep h⟩
 | i+2=>simp at h1
end
end Go.Proofs.YtkblaobhhoebaaaGreat.Abs
namespace Go.Proofs.YtkblaobhhoebaaaGreat.Abs
open Go.RowKit Go.Shelf Go.Sort
open Go.Proofs (sortWorldK)
theorem Anq {R:Lf→Value→Prop}:∀ {a b:List Lf} {vs:List Value},LsR R (a++b) vs→LsR R a (vs.take a.length)∧LsR R b (vs.drop a.length):=fun {a b vs} h=>by
 obtain ⟨h1,h2⟩:=h
 rw [zH] at h1
 refine ⟨⟨by rw [zL];omega,fun j l v e1 e2=>?_⟩,⟨by rw [yD];omega,fun j l v e1 e2=>?_⟩⟩
 ·have hj:=(zC.1 e1).1
  rw [yN,if_pos hj] at e2
  exact h2 j l v (by rw [zK hj];exact e1) e2
 ·rw [yG] at e2
  exact h2 (a.length+j) l v (by rw [zX (by omega)];simpa using e1) e2
theorem Aof {R:Lf→Value→Prop} {a b:List Lf} {va vb:List Value} (ha:LsR R a va) (hb:LsR R b vb):LsR R (a++b) (va++vb):=by
 refine ⟨by rw [zH,zH,ha.1,hb.1],fun j l v e1 e2=>?_⟩
 rcases zO j a.length with hj | hj
 ·rw [zK hj] at e1
  rw [zK (by rw [← ha.1];exact hj)] at e2
  exact ha.2 j l v e1 e2
 ·rw [zX hj] at e1
  rw [zX (by rw [← ha.1];exact hj),← ha.1] at e2
  exact hb.2 _ l v e1 e2
theorem Ars {α:Type} {f:α→List Lf} {R:Lf→Value→Prop}:∀ {xs:List α} {vals:List Value},LsR R (xs.flatMap f) vals→∃ d:List { p:α × List Value // LsR R (f p.1) p.2 },d.map (fun p=>p.1.1)=xs∧d.flatMap (fun p=>p.1.2)=vals
 | [],vals,h=>by
  have:vals=[]:=zZ h.1.symm
  exact ⟨[],rfl,this.symm⟩
 | x::xs,vals,h=>by
  rw [xD] at h
  obtain ⟨h1,h2⟩:=Anq h
  obtain ⟨d,e1,e2⟩:=Ars h2
  refine ⟨⟨(x,vals.take (f x).length),h1⟩::d,by rw [wF,e1],?_⟩
  rw [xD,e2]
  exact xJ ..
theorem Am8 {α:Type} {f:α→List Lf} {R:Lf→Value→Prop}:∀ d:List { p:α × List Value // LsR R (f p.1) p.2 },LsR R ((d.map (fun p=>p.1.1)).flatMap f) (d.flatMap (fun p=>p.1.2))
 | []=>⟨rfl,fun j l v h=>by simp at h⟩
 | p::d=>by
  rw [wF,xD,xD]
  exact Aof p.2 (Am8 d)
theorem Ao2 {β γ:Type} {g:β→List γ} {k:Nat} (hk:∀ x,(g x).length=k) (xs:List β) {j i:Nat} (hi:i<k) (hj:j<xs.length):(xs.flatMap g)[j*k+i]? = (g xs[j])[i]? := by
 have e:(xs.flatMap g)[j*k+i]? = ((xs.flatMap g).drop (j*k))[i]? := by rw [yG]
 have h2:(xs.flatMap g).drop (j*k)=(xs.drop j).flatMap g:=by
  clear e hj
  induction xs generalizing j with
  | nil=>simp
  | cons a l ih =>
   cases j with
   | zero=>simp
   | succ j =>
    rw [xD,List.drop_append,List.drop_succ_cons,← ih,hk]
    rw [List.drop_eq_nil_of_le (by rw [hk,jD];omega),wX]
    congr 1
    rw [jD];omega
 rw [e,h2,wY hj,xD,zK (by rw [hk];exact hi)]
theorem Adr {β:Type} [Inhabited β] {enc:β→List Value} {k:Nat} (hk:∀ x,(enc x).length=k) (d:Array β):(flatK enc k d).toList=d.toList.flatMap enc:=by
 have hlen:(d.toList.flatMap enc).length=d.size*k:=by
  have:∀ l:List β,(l.flatMap enc).length=l.length*k:=fun l=>by
   induction l with
   | nil=>simp
   | cons a l ih=>rw [xD,zH,ih,hk,yT,jD,j5]
  rw [this];simp
 apply List.ext_getElem
 ·rw [hlen];simp
 ·intro t h1 h2
  rw [hlen] at h2
  have k0:0<k:=by
   rcases kI k with h | h
   ·rw [h] at h2;simp at h2
   ·exact h
  have hj:t / k<d.size:=Nat.div_lt_of_lt_mul (by rw [Nat.mul_comm];exact h2)
  have hi:t % k<k:=Nat.mod_lt _ k0
  have ht:(flatK enc k d)[t]! = (flatK enc k d)[t]'(by simpa using h2):=getElem!_pos _ t _
  have e1:(flatK enc k d).toList[t]=(enc d[t / k])[t % k]'(by rw [hk];exact hi):=by
   rw [jH,← ht,get_flatK enc k d t h2,getElem!_pos d _ hj,getElem!_pos _ _ (by rw [hk];exact hi)]
  have e2:=Ao2 hk d.toList (j:=t / k) hi (by simpa using hj)
  have e3:t / k*k+t % k=t:=by rw [Nat.mul_comm];exact Nat.div_add_mod t k
  have e4:d.toList[t / k]'(by simpa using hj)=d[t / k]:=jH ..
  rw [e3,zB (by rw [hlen];exact h2),e4,zB (by rw [hk];exact hi)] at e2
  rw [e1,zD e2]
section
variable {β:Type} [Inhabited β] {enc:β→List Value} {k:Nat} {w:World} {b n:Nat} {d:Array β} {os:Array Obj} {cur:Array Value} {e:TypeId}
theorem Asj (hb:w.heap[b]? = some (.cells cur e (0,0))) (hd:d.size*k≤cur.size):(sortWorldK enc k w b 0 n d os).heap[b]? = some (.cells ((flatK enc k d).toList++cur.toList.drop (d.size*k)).toArray e (0,0)):=by
 have hlt:=(z7.1 hb).1
 have h1:(sortWorldK enc k w b 0 n d os).heap[b]? = (putRowK enc k (Sort.ahead w n) b 0 d).heap[b]? := by
  show ((putRowK enc k (Sort.ahead w n) b 0 d).heap++os)[b]? = _
  rw [kS (by simp [putRowK,Sort.ahead];exact hlt)]
 rw [h1]
 show ((Sort.ahead w n).heap.modify b _)[b]? = _
 rw [wQ,if_pos rfl]
 show (w.heap[b]?).map _=_
 rw [hb]
 show some (Obj.cells (putCells id 0 (flatK enc k d) cur) e (0,0))=_
 congr 2
 apply Array.ext_getElem?
 intro i
 rw [putCells,Array.getElem?_mapIdx]
 simp only [size_flatK,zY,true_and,yH,Nat.sub_zero,id]
 have hto:((flatK enc k d).toList++cur.toList.drop (d.size*k)).toArray[i]? = ((flatK enc k d).toList++cur.toList.drop (d.size*k))[i]? := List.getElem?_toArray ..
 rw [hto]
 rcases zO i (d.size*k) with hi | hi
 ·rw [zK (by simpa using hi),xZ,zP (show i<cur.size by omega),zP (show i<(flatK enc k d).size by simpa using hi),yY,if_pos hi,getElem!_pos]
 ·rw [zX (by simpa using hi),yG,xZ,yC,size_flatK,show d.size*k+(i-d.size*k)=i by omega]
  cases cur[i]? with
  | none=>rfl
  | some v=>rw [yY,if_neg (by omega)]
theorem Ze {i:Nat} (hi:i<w.heap.size) (hne:i≠b):(sortWorldK enc k w b 0 n d os).heap[i]? = w.heap[i]? := by
 have h1:(sortWorldK enc k w b 0 n d os).heap[i]? = (putRowK enc k (Sort.ahead w n) b 0 d).heap[i]? := by
  show ((putRowK enc k (Sort.ahead w n) b 0 d).heap++os)[i]? = _
  rw [kS (by simp [putRowK,Sort.ahead];exact hi)]
 rw [h1]
 show ((Sort.ahead w n).heap.modify b _)[i]? = _
 rw [wQ,if_neg (fun h=>hne h.symm)]
 rfl
theorem Acm:w.heap.size≤(sortWorldK enc k w b 0 n d os).heap.size:=by
 show _≤((putRowK enc k (Sort.ahead w n) b 0 d).heap++os).size
 rw [yU]
 simp [putRowK,Sort.ahead]
end
theorem Auh {P:Program} {ρ:Ren} (L:Go.Proofs.SlLaysF0.n6 P ρ) {α:Type} {f:α→List Lf} {e sz g:Nat} (cf:α→α→Int) (hf:∀ x,(f x).length=sz) (hsz:0<sz)
  (aE:∀ w,(isAgg (ρ.t 24)).run P w=.ok true w) (zE:∀ w,(Go.sizeOf (ρ.t 24)).run P w=.ok sz w) (hO:SWO (Go.Proofs.ltOf cf)) (eg:∀ args w,(callFunc g args).run P w=.ok (.enter g args) w)
  (hg:∀ (W:World) (S:Cg) (x y:α) (vx vy:List Value),(∀ b i,S b i→b<W.heap.size)→LsR (Rep W S) (f x) vx→LsR (Rep W S) (f y) vy→Calls P g #[.agg vx.toArray,.agg vy.toArray] W fun e w'=>e=.returned (.int .i64 (cf x y))∧∃ q os',w'=grow (W.drewN q) os')
  {xs ys:List α} (hn:xs.length≤1000000000000000000) (hys:∀ zs:List α,zs.Perm xs→zs.Pairwise (fun a b=>Go.Proofs.ltOf cf b a=false)→zs=ys) :
  Dl P (ρ.f 6) [.arr e sz 0 (xs.flatMap f)] [.one (.ls 0 xs.length),.one (.raw (.func (.func g) #[] #[]))] (fun y m'=>y=.tup []∧m'=[.arr e sz 0 (ys.flatMap f)]):=by
 intro w S H vs hin mem hvs
 obtain ⟨hvl,hvr⟩:=hvs
 obtain ⟨v0,v1,rfl⟩:∃ v0 v1,vs = #[v0,v1]:=by
  obtain ⟨l⟩:=vs
  match l,hvl with
  | [a,b],_=>exact ⟨a,b,rfl⟩
 have hv1:v1=.func (.func g) #[] #[]:=Lh (hvr 1 _ v1 rfl rfl)
 obtain ⟨_,_,hv0⟩:=(show F7 w S [.arr e sz 0 (xs.flatMap f)] H (.ls 0 xs.length) v0 from hvr 0 _ v0 rfl rfl)
 have hv0:=(hv0 e sz 0 _ rfl).2 (Au hf xs).symm
 obtain ⟨_,_,n',vals,hown,hls,_⟩:=mem.bl 0 _ rfl
 have hn':n'=xs.length:=Pw hown hsz (by rw [← hls.1,Au hf])
 subst hn'
 have hin':=hin
 subst hv1
 have none0:xs.length=0→(∃ p cap,v0=.slice p 0 cap)→Calls P (ρ.f 6) #[v0,.func (.func g) #[] #[]] w fun e' w'=>∃ v x m' S' H',e'=.returned v∧(x=.tup []∧m'=[.arr e sz 0 (ys.flatMap f)])∧Vf (Aef [.arr e sz 0 (xs.flatMap f)] H) w S w' S'∧InH w' S'∧Mem w' S' m' H' ∧
   (∀ (p:Nat) (b:Blk) (g:Nat),m'[p]? = some b→b.own (H' p)=some g→w.heap.size≤g∨Aef [.arr e sz 0 (xs.flatMap f)] H g)∧Axc [.arr e sz 0 (xs.flatMap f)] H m' H'∧AVR (Cj w' S' m' H') x v:=fun h0 ⟨p,cap,hp⟩=>by
  have hx:xs=[]:=zZ h0
  have hy:ys=xs:=(hys xs (List.Perm.refl _) (by rw [hx];exact List.Pairwise.nil)).symm
  subst hp
  refine (Go.Proofs.AnyF.slices_SortFunc_none { L with } p cap _ w).mono ?_
  rintro e' w' ⟨rfl,rfl⟩
  rw [hy]
  exact ⟨_,.tup [],_,S,H,rfl,⟨rfl,rfl⟩,Vf.refl _ _ _,hin,mem,fun p b g hb ho=>.inr ⟨p,b,hb,ho⟩,⟨zN _,fun _ _ _ _=>rfl,fun p e' sz' k cs _ hm=>⟨k,cs,hm,.inl ⟨rfl,rfl⟩⟩,fun _ _ h=>h⟩,I6⟩
 rcases hown.2 with ⟨hH,h0⟩ | ⟨blk,cap,cur,hH,_,hheap,hcap,hmax,hcs,hvals⟩
 ·exact none0 h0 ⟨none,0,hv0.trans hH⟩
 rcases kI xs.length with h0 | hpos
 ·exact none0 h0 ⟨_,_,by rw [hv0,hH,h0]⟩
 obtain ⟨d,hd1,hd2⟩:=Ars hls
 have hdl:d.length=xs.length:=by rw [← hd1,z8]
 obtain ⟨p0,hp0⟩:∃ p0,d[0]? = some p0:=⟨_,zB (by omega)⟩
 let β:={ p:α × List Value // LsR (Rep w S) (f p.1) p.2 }
 let _:Inhabited β:=⟨p0⟩
 let enc:β→List Value:=fun p=>p.1.2
 have hk:∀ x:β,(enc x).length=sz:=fun x=>by rw [← x.2.1,hf]
 have h1:∀ x:β,∀ v ∈ enc x,v.oneCell'=true:=fun x v hv=>by
  obtain ⟨j,hj⟩:=xY.1 hv
  have hjl:j<(f x.1.1).length:=by rw [x.2.1];exact (zC.1 hj).1
  exact Rep.oneCell (x.2.2 j _ v (zB hjl) hj)
 have hblk:blk<w.heap.size:=(z7.1 hheap).1
 have hnoS:∀ i,¬ S blk i:=fun i hi=>absurd (mem.sb 0 _ blk i rfl (by show Eu (H 0)=_;rw [hH];rfl) hi) (zT _)
 have hflat:(flatK enc sz d.toArray).toList=vals:=by rw [Adr hk];exact hd2
 have hcurlen:d.toArray.size*sz≤cur.size:=by
  rw [hcs];simp only [yB,hdl];exact xC _ hcap
 have hH':HoldsK enc sz w blk 0 d.toArray:=fun j hj=>by
  rw [size_flatK,yB] at hj
  have hjv:j<vals.length:=by rw [← hls.1,Au hf,← hdl];exact hj
  have hval:(flatK enc sz d.toArray)[j]! = vals[j]:=by
   rw [getElem!_pos _ _ (by rw [size_flatK,yB];exact hj),← jH]
   simp only [hflat]
  have hcur:cur.toList[j]? = some vals[j]:=by
   have:(cur.toList.take (xs.length*sz))[j]? = some vals[j]:=by rw [hvals,zB hjv]
   rw [yN] at this
   split at this
   ·exact this
   ·cases this
  refine ⟨?_,?_⟩
  ·rw [yH,cell_of_row w _ _ cur e (0,0) hheap,hval]
   simpa using hcur
  ·rw [yH]
   unfold World.frozen?
   rw [hheap]
   simp
 have hcmp:Go.Proofs.CmpLays P g #[] enc sz (fun x y:β=>cf x.1.1 y.1.1) blk 0 d.toArray.size w:=fun m os dk hdk x y=>by
  have hkeep:∀ b i,S b i→S b i∧(sortWorldK enc sz w blk 0 m dk os).cell? ⟨b,i,none⟩=w.cell? ⟨b,i,none⟩:=fun b i hs =>
   ⟨hs,World.cell?_of_block (w:=w) (Ze (hin.1 b i hs) fun e=>hnoS i (e ▸ hs))⟩
  have:=hg (sortWorldK enc sz w blk 0 m dk os) S x.1.1 y.1.1 x.1.2 y.1.2 (fun b i hs=>zU (hin.1 b i hs) Acm) (x.2.mono fun l v=>Rep.mono hkeep) (y.2.mono fun l v=>Rep.mono hkeep)
  simpa using this
 have hO':SWO (Go.Proofs.ltOf (fun x y:β=>cf x.1.1 y.1.1)):=⟨fun x=>hO.irrefl x.1.1,fun x y z=>hO.trans x.1.1 y.1.1 z.1.1,fun x y z=>hO.ntrans x.1.1 y.1.1 z.1.1⟩
 have hcon:=Go.Proofs.AnyQ.slices_SortFunc L sz aE zE enc hk h1 (fun x y:β=>cf x.1.1 y.1.1) hO' g #[] blk 0 cap d.toArray w eg hcmp hH' hblk (by rw [yB,hdl];omega)
 rw [hv0,hH]
 rw [yB,hdl] at hcon
 refine hcon.mono ?_
 rintro e' w' ⟨rfl,d',n2,os,hperm,hsort,rfl⟩
 obtain ⟨hps,_,hpp⟩:=hperm
 have hds:d'.size=xs.length:=by rw [hps,yB,hdl]
 have hpl:d'.toList.Perm d:=by
  have e1:d'.extract 0 xs.length=d':=by rw [← hds];simp
  have e2:d.toArray.extract 0 xs.length=d.toArray:=by rw [← hdl];simp
  rw [e1,e2] at hpp
  simpa using hpp
 have hz:d'.toList.map (fun p=>p.1.1)=ys:=by
  refine hys _ ?_ ?_
  ·rw [← hd1];exact hpl.map _
  ·rw [wK]
   refine yK.2 fun i j hi hj hij=>?_
   rw [yC] at hi hj
   have:=hsort i j (zY _) hij (by omega)
   rw [getElem!_pos d' j (by omega),getElem!_pos d' i (by omega)] at this
   exact this
 have hyl:ys.length=xs.length:=by rw [← hz,z8,yC,hds]
 have hsame:=Asj (enc:=enc) (k:=sz) (n:=n2) (d:=d') (os:=os) hheap (by rw [hds];rw [yB,hdl] at hcurlen;exact hcurlen)
 have hkeep:∀ b i,S b i→S b i∧(sortWorldK enc sz w blk 0 n2 d' os).cell? ⟨b,i,none⟩=w.cell? ⟨b,i,none⟩:=fun b i hs =>
  ⟨hs,World.cell?_of_block (w:=w) (Ze (hin.1 b i hs) fun e=>hnoS i (e ▸ hs))⟩
 have hin2:InH (sortWorldK enc sz w blk 0 n2 d' os) S:=hin.turn (·=blk) (fun g i e hs=>absurd (e ▸ hs) (hnoS i)) (fun q hq hne=>Ze hq hne) Acm fun b i hs=>(hkeep b i hs).2
 have hlenv:(d'.toList.flatMap enc).length=xs.length*sz:=by rw [← Adr hk,yC,size_flatK,hds]
 have hownX:Aef [.arr e sz 0 (xs.flatMap f)] H blk:=⟨0,_,rfl,by show Eu (H 0)=_;rw [hH];rfl⟩
 refine ⟨_,.tup [],[.arr e sz 0 (ys.flatMap f)],S,H,rfl,⟨rfl,rfl⟩,⟨rfl,rfl,rfl,Acm,fun b hb hx=>Ze hb fun e=>hx (e ▸ hownX),fun b i hs=>hs,fun b i hs=>(hkeep b i hs).2,fun b i _ _ hs=>hs⟩,hin2,⟨fun p b hb=>?_,fun p b g' hb ho=>?_,fun p q b b' g' hb hb' _ _=>?_,fun p b g' i hb ho hs=>?_⟩,fun p b g' hb ho=>?_,⟨zN _,fun _ _ _ _=>rfl,fun p e' sz' k' cs' hp hm=>?_,fun _ _ h=>h⟩,I6⟩
 ·match p with
  | 0 =>
   obtain rfl:=zD hb
   refine ⟨hsz,zY _,xs.length,d'.toList.flatMap enc,⟨hlenv,.inr ⟨blk,cap,_,hH,zY _,hsame,hcap,hmax,?_,?_⟩⟩,?_,fun g' _ i hi=>absurd hi (zT _)⟩
   ·rw [yB,zH,yC,size_flatK,yD,yC,hds,hcs]
    have:=xC sz hcap
    omega
   ·rw [Adr hk,yW,wG (by rw [hlenv];exact zN _),← hlenv,yI]
   ·rw [← hz]
    exact (Am8 d'.toList).mono fun l v=>Rep.mono hkeep
  | p+1=>simp at hb
 ·match p with
  | 0 =>
   obtain rfl:=zD hb
   have hg':Eu (H 0)=some g':=ho
   rw [hH] at hg'
   obtain rfl:blk=g':=by simpa [Eu] using hg'
   exact zU hblk Acm
  | p+1=>simp at hb
 ·match p,q with
  | 0,0=>rfl
  | 0,q+1=>simp at hb'
  | p+1,_=>simp at hb
 ·match p with
  | 0 =>
   obtain rfl:=zD hb
   have hg':Eu (H 0)=some g':=ho
   rw [hH] at hg'
   obtain rfl:blk=g':=by simpa [Eu] using hg'
   exact absurd hs (hnoS i)
  | p+1=>simp at hb
 ·match p with
  | 0 =>
   obtain rfl:=zD hb
   exact .inr ⟨0,_,rfl,ho⟩
  | p+1=>simp at hb
 ·match p with
  | 0 =>
   obtain ⟨rfl,rfl,rfl,rfl⟩:e=e'∧sz=sz'∧0=k'∧ys.flatMap f=cs':=by simpa using hm
   exact ⟨0,_,rfl,.inl ⟨by rw [Au hf,Au hf,hyl],rfl⟩⟩
  | p+1=>simp at hp
end Go.Proofs.YtkblaobhhoebaaaGreat.Abs
namespace Go.Proofs.YtkblaobhhoebaaaGreat.Abs
open Go.RowKit
theorem Ai0 {ls:List Lf} (h:Aff (.int .i64) ls):∃ n:Int,(-9223372036854775808≤n∧n≤9223372036854775807)∧ls=eI n:=by
 obtain ⟨n,hw,rfl⟩:=h
 exact ⟨n,Atf hw,rfl⟩
theorem Ava {k:IntKind} {n:Int} (h:(Lit.int k n).wf=true):k.min≤n∧n≤k.max:=by
 simp only [Lit.wf,yA,decide_eq_true_eq] at h
 exact h
theorem Aj5 {ls:List Lf} (h:Aff (.int .u8) ls):∃ a:UInt8,True∧ls=eU8 a:=by
 obtain ⟨n,hw,rfl⟩:=h
 obtain ⟨h1,h2⟩:=Ava hw
 simp [IntKind.min,IntKind.max,IntKind.bits,IntKind.signed] at h1 h2
 refine ⟨UInt8.ofNat n.toNat,trivial,?_⟩
 show _=[Lf.i .u8 _]
 rw [show ((UInt8.ofNat n.toNat).toNat:Int)=n by rw [UInt8.toNat_ofNat'];omega]
theorem Z8 {ls:List Lf} (h:Aff .bool ls):∃ b:Bool,True∧ls=eB b:=by
 obtain ⟨b,rfl⟩:=h
 exact ⟨b,trivial,rfl⟩
theorem Afn {α:Type} {e:Sh} {f:α→List Lf} {Q:α→Prop} (he:∀ {r},Aff e r→∃ x,Q x∧r=f x) {ls:List Lf} (h:Aff (.sl e) ls):∃ xs:List α,(xs.length≤maxLen∧∀ x ∈ xs,Q x)∧ls=eL f xs:=by
 obtain ⟨rows,hl,hr,rfl⟩:=h
 have:∃ xs:List α,(∀ x ∈ xs,Q x)∧rows=xs.map f:=by
  clear hl
  induction rows with
  | nil=>exact ⟨[],fun _ h=>by simp at h,rfl⟩
  | cons r rs ih =>
   obtain ⟨x,hq,hx⟩:=he (hr r (yX ..))
   obtain ⟨xs,hqs,hxs⟩:=ih (fun r h=>hr r (yV _ h))
   exact ⟨x::xs,fun y hy=>by rcases yM.1 hy with rfl | hy;exact hq;exact hqs y hy,by rw [hx,hxs];rfl⟩
 obtain ⟨xs,hq,rfl⟩:=this
 exact ⟨xs,⟨by simpa using hl,hq⟩,by rw [eL,List.flatMap,z8]⟩
end Go.Proofs.YtkblaobhhoebaaaGreat.Abs
namespace Go.Proofs.YtkblaobhhoebaaaGreat.Abs
theorem Cb {n:Int} (h1:-9223372036854775808≤n) (h2:n≤9223372036854775807):wI n=n:=by
 unfold wI IntKind.wrap
 simp [IntKind.bits,IntKind.signed]
 omega
theorem Ce {n:Nat} (h:n≤1000000000000000000):n<fuel:=by unfold fuel;omega
theorem Bn {α:Type} (xs:List α) (i:Nat):idx xs (i:Int)=xs[i]? := by
 unfold idx
 rw [if_pos (xK i),zR]
theorem Asq {α:Type} {xs:List α} {j:Int} (h0:0≤j) (h1:j<xs.length):∃ x,idx xs j=some x∧xs[j.toNat]? = some x:=by
 have h:j.toNat<xs.length:=by omega
 exact ⟨xs[j.toNat],by unfold idx;rw [if_pos h0,zB h],zB h⟩
theorem Aws {α:Type} {xs:List α} {j:Int} {x:α} (h0:0≤j) (h:xs[j.toNat]? = some x):idx xs j=some x:=by
 unfold idx
 rw [if_pos h0,h]
theorem Aaq {α:Type} {xs:List α} {lo hi:Int} (h0:0≤lo) (h1:lo≤hi) (h2:hi≤xs.length):cut xs lo hi=some ((xs.drop lo.toNat).take (hi.toNat-lo.toNat)):=by
 unfold cut
 rw [if_pos ⟨h0,h1,h2⟩]
theorem C9 {σ β:Type} {f:σ→Option (LB σ β)} {P:σ→Prop} {μ:σ→Nat} {R:β→Prop}
  (h:∀ s,P s→(∃ s',f s=some (.cont s')∧P s'∧μ s'<μ s)∨∃ b,f s=some (.brk b)∧R b):∀ (n:Nat) (s:σ),P s→μ s<n→∃ b,Ct f n s=some b∧R b
 | 0,s,_,hm=>by omega
 | n+1,s,hp,hm=>by
  rcases h s hp with ⟨s',hf,hp',hlt⟩ | ⟨b,hf,hr⟩
  ·obtain ⟨b,hb,hr⟩:=C9 h n s' hp' (by omega)
   exact ⟨b,by rw [Ct,hf];exact hb,hr⟩
  ·exact ⟨b,by rw [Ct,hf],hr⟩
theorem Dh {σ β ρ:Type} {f:σ→Option (LR σ β ρ)} {P:σ→Prop} {μ:σ→Nat} {R:Sum ρ β→Prop}
  (h:∀ s,P s→(∃ s',f s=some (.cont s')∧P s'∧μ s'<μ s)∨(∃ b,f s=some (.brk b)∧R (.inr b))∨∃ r,f s=some (.ret r)∧R (.inl r)):∀ (n:Nat) (s:σ),P s→μ s<n→∃ b,Lj f n s=some b∧R b
 | 0,s,_,hm=>by omega
 | n+1,s,hp,hm=>by
  rcases h s hp with ⟨s',hf,hp',hlt⟩ | ⟨b,hf,hr⟩ | ⟨b,hf,hr⟩
  ·obtain ⟨b,hb,hr⟩:=Dh h n s' hp' (by omega)
   exact ⟨b,by rw [Lj,hf];exact hb,hr⟩
  ·exact ⟨.inr b,by rw [Lj,hf],hr⟩
  ·exact ⟨.inl b,by rw [Lj,hf],hr⟩
theorem Xz {α σ β τ:Type} {f:τ→Option (LB τ β)} (st:σ→Nat→τ) (xs:List α) (g:σ→α→σ) (out:σ→β) (hl:xs.length<1000000000000000000000000)
  (h1:∀ acc i x,xs[i]? = some x→f (st acc i)=some (.cont (st (g acc x) (i+1)))) (h2:∀ acc,f (st acc xs.length)=some (.brk (out acc))) (a0:σ):Ct f fuel (st a0 0)=some (out (xs.foldl g a0)):=by
 have key:∀ (k i:Nat) (acc:σ) (n:Nat),k+i=xs.length→k<n→Ct f n (st acc i)=some (out ((xs.drop i).foldl g acc)):=by
  intro k
  induction k with
  | zero =>
   intro i acc n hi hn
   obtain ⟨m,rfl⟩:∃ m,n=m+1:=⟨n-1,by omega⟩
   have:i=xs.length:=by omega
   subst this
   rw [Ct,h2,List.drop_length]
   rfl
  | succ k ih =>
   intro i acc n hi hn
   obtain ⟨m,rfl⟩:∃ m,n=m+1:=⟨n-1,by omega⟩
   have hlt:i<xs.length:=by omega
   rw [Ct,h1 acc i xs[i] (zB hlt),wY hlt,kZ]
   exact ih (i+1) _ m (by omega) (by omega)
 have:=key xs.length 0 a0 fuel (by omega) hl
 rwa [List.drop_zero] at this
end Go.Proofs.YtkblaobhhoebaaaGreat.Abs
namespace Go.Proofs.YtkblaobhhoebaaaGreat.Abs
theorem T2 (x y:UInt8):x<y∨x=y∨y<x:=by
 rcases w8 x.toNat y.toNat with h | h | h
 ·exact .inl (xG.2 h)
 ·exact .inr (.inl (UInt8.toNat_inj.1 h))
 ·exact .inr (.inr (xG.2 h))
theorem M5 {x y:UInt8} (h:x<y):¬ y<x:=fun h'=>by
 have:=xG.1 h
 have:=xG.1 h'
 omega
theorem Acw {x y z:UInt8} (h:x<y) (h':y<z):x<z:=by
 have h1:=xG.1 h
 have h2:=xG.1 h'
 exact xG.2 (by omega)
theorem Px:∀ a:List UInt8,Gg a a=0
 | []=>rfl
 | x::xs=>by unfold Gg;rw [if_neg (xB x),if_neg (xB x)];exact Px xs
theorem Se:∀ a b:List UInt8,Gg a b = -Gg b a
 | [],[]=>rfl
 | [],_::_=>rfl
 | _::_,[]=>rfl
 | x::xs,y::ys=>by
  unfold Gg
  rcases T2 x y with h | h | h
  ·rw [if_pos h,if_neg (M5 h),if_pos h]
  ·subst h
   rw [if_neg (xB x),if_neg (xB x),if_neg (xB x),if_neg (xB x)];exact Se xs ys
  ·rw [if_neg (M5 h),if_pos h,if_pos h];rfl
theorem R0:∀ {a b:List UInt8},Gg a b=0→a=b
 | [],[],_=>rfl
 | [],_::_,h=>by cases h
 | _::_,[],h=>by cases h
 | x::xs,y::ys,h=>by
  unfold Gg at h
  rcases T2 x y with h1 | h1 | h1
  ·rw [if_pos h1] at h;cases h
  ·subst h1
   rw [if_neg (xB x),if_neg (xB x)] at h
   rw [R0 h]
  ·rw [if_neg (M5 h1),if_pos h1] at h;cases h
theorem M8:∀ {a b c:List UInt8},Gg a b≤0→Gg b c≤0→Gg a c≤0∧(Gg a b<0∨Gg b c<0→Gg a c<0)
 | [],b,[],h1,h2=>⟨xU _,fun h=>by
   cases b with
   | nil=>rcases h with h | h <;> simp [Gg] at h
   | cons y ys=>simp [Gg] at h2⟩
 | [],_,_::_,_,_=>⟨by simp [Gg],fun _=>by simp [Gg]⟩
 | _::_,[],_,h1,_=>by simp [Gg] at h1
 | _::_,_::_,[],_,h2=>by simp [Gg] at h2
 | x::xs,y::ys,z::zs,h1,h2=>by
  unfold Gg at h1 h2 ⊢
  rcases T2 x y with e1 | e1 | e1
  ·rcases T2 y z with e2 | e2 | e2
   ·rw [if_pos (Acw e1 e2)];exact ⟨by decide,fun _=>by decide⟩
   ·subst e2;rw [if_pos e1];exact ⟨by decide,fun _=>by decide⟩
   ·rw [if_neg (M5 e2),if_pos e2] at h2;exact absurd h2 (by decide)
  ·subst e1
   rw [if_neg (xB x),if_neg (xB x)] at h1 ⊢
   rcases T2 x z with e2 | e2 | e2
   ·rw [if_pos e2];exact ⟨by decide,fun _=>by decide⟩
   ·subst e2
    simp only [xB,if_false] at h2 ⊢
    exact M8 h1 h2
   ·rw [if_neg (M5 e2),if_pos e2] at h2;exact absurd h2 (by decide)
  ·rw [if_neg (M5 e1),if_pos e1] at h1;exact absurd h1 (by decide)
theorem Aai {a b:List UInt8}:0≤Gg a b ↔ Gg b a≤0:=by rw [Se a b];omega
open Go.Sort
def Aug {α:Type} (kf:α→List UInt8) (x:α):List α→List α
 | []=>[x]
 | y::l=>if Gg (kf x) (kf y)<0 then x::y::l else y::Aug kf x l
def Adh {α:Type} (kf:α→List UInt8):List α→List α
 | []=>[]
 | x::l=>Aug kf x (Adh kf l)
def Tk {α:Type} (kf:α→List UInt8) (l:List α):Prop:=l.Pairwise (fun a b=>Gg (kf a) (kf b)<0)
def Pk {α:Type} (kf:α→List UInt8) (l:List α):Prop:=l.Pairwise (fun a b=>kf a≠kf b)
section
variable {α:Type} {kf:α→List UInt8}
theorem Zs (x:α):∀ l:List α,(Aug kf x l).Perm (x::l)
 | []=>List.Perm.refl _
 | y::l=>by
  unfold Aug
  split
  ·exact List.Perm.refl _
  ·exact ((Zs x l).cons y).trans (List.Perm.swap x y l)
theorem L9:∀ l:List α,(Adh kf l).Perm l
 | []=>List.Perm.refl _
 | x::l=>(Zs x (Adh kf l)).trans ((L9 l).cons x)
theorem Aft {x:α}:∀ {l:List α},Tk kf l→(∀ y ∈ l,kf x≠kf y)→Tk kf (Aug kf x l)
 | [],_,_=>wL _ _
 | y::l,h,hd=>by
  obtain ⟨h1,h2⟩:=wH.1 h
  unfold Aug
  split
  ·rename_i hlt
   refine wH.2 ⟨fun z hz=>?_,h⟩
   rcases yM.1 hz with rfl | hz
   ·exact hlt
   ·exact (M8 (by omega) (kP (h1 z hz))).2 (.inl hlt)
  ·rename_i hge
   refine wH.2 ⟨fun z hz=>?_,Aft h2 fun z hz=>hd z (yV _ hz)⟩
   rcases yM.1 ((Zs x l).mem_iff.1 hz) with rfl | hz
   ·have h3:=Aai.1 (show 0≤Gg (kf z) (kf y) by omega)
    rcases Int.lt_or_eq_of_le h3 with h | h
    ·exact h
    ·exact absurd (R0 h).symm (hd y (yX ..))
   ·exact h1 z hz
theorem Pk.perm {a b:List α} (h:a.Perm b):Pk kf a ↔ Pk kf b:=h.pairwise_iff fun h=>Ne.symm h
theorem Tn:∀ {l:List α},Pk kf l→Tk kf (Adh kf l)
 | [],_=>List.Pairwise.nil
 | x::l,h=>by
  obtain ⟨h1,h2⟩:=wH.1 h
  exact Aft (Tn h2) fun y hy=>h1 y ((L9 l).mem_iff.1 hy)
theorem Tk.dist {l:List α} (h:Tk kf l):Pk kf l:=h.imp fun h e=>by rw [e,Px] at h;exact absurd h (by decide)
theorem Ac2 {a b:List α} (ha:Tk kf a) (hb:Tk kf b) (h:a.Perm b):a=b :=
 List.Perm.eq_of_pairwise (le:=fun a b=>Gg (kf a) (kf b)<0) (fun a b _ _ h1 h2=>by rw [Se] at h2;omega) ha hb h
theorem Aqh {l:List α} {x:α}:x ∈ Adh kf l ↔ x ∈ l:=(L9 l).mem_iff
theorem Ajs {a b:List α} (h:a.Perm b) (hd:Pk kf a):Adh kf a=Adh kf b:=Ac2 (Tn hd) (Tn ((Pk.perm h).1 hd)) (((L9 a).trans h).trans (L9 b).symm)
theorem A1t:SWO (Go.Proofs.ltOf fun a b:α=>Gg (kf a) (kf b)):=by
 refine ⟨fun x=>?_,fun x y z h1 h2=>?_,fun x y z h1 h2=>?_⟩
 ·unfold Go.Proofs.ltOf;rw [decide_eq_false_iff_not];dsimp only;rw [Px];decide
 ·unfold Go.Proofs.ltOf at *
  dsimp only at *
  rw [decide_eq_true_eq] at *
  exact (M8 (kP h1) (kP h2)).2 (.inl h1)
 ·unfold Go.Proofs.ltOf at *
  dsimp only at *
  rw [decide_eq_false_iff_not] at *
  have h3:=Aai.1 (show 0≤Gg (kf x) (kf y) by omega)
  have h4:=Aai.1 (show 0≤Gg (kf y) (kf z) by omega)
  have:=Aai.2 (M8 h4 h3).1
  omega
theorem Aj1 {xs:List α} (hd:Pk kf xs) (zs:List α) (hp:zs.Perm xs) (hs:zs.Pairwise (fun a b=>Go.Proofs.ltOf (fun a b:α=>Gg (kf a) (kf b)) b a=false)):zs=Adh kf xs:=by
 have hdz:Pk kf zs:=(Pk.perm hp).2 hd
 refine Ac2 ?_ (Tn hd) (hp.trans (L9 xs).symm)
 refine (List.Pairwise.and hs hdz).imp fun ⟨h1,h2⟩=>?_
 unfold Go.Proofs.ltOf at h1
 rw [decide_eq_false_iff_not] at h1
 have h3:=Aai.1 (Int.not_lt.1 h1)
 rcases Int.lt_or_eq_of_le h3 with h | h
 ·exact h
 ·exact absurd (R0 h) h2
def Sa (kf:α→List UInt8) (t:List α) (x:α):List α:=x::t.filter (fun y=>!(kf y == kf x))
def Ab4 (kf:α→List UInt8) (t:List α) (k:List UInt8):List α:=t.filter (fun y=>!(kf y == k))
theorem Ame {t:List α} (hd:Pk kf t) {j:Nat} {k:List UInt8} (hj:(t.map kf)[j]? = some k):t.filter (fun y=>!(kf y == k))=t.eraseIdx j:=by
 induction t generalizing j with
 | nil=>simp at hj
 | cons y l ih =>
  obtain ⟨h1,h2⟩:=wH.1 hd
  cases j with
  | zero =>
   have hk:kf y=k:=by simpa using hj
   rw [kH,if_neg (by simp [hk]),List.eraseIdx_cons_zero,zAa]
   intro z hz
   have:=h1 z hz
   rw [hk] at this
   simp [Ne.symm this]
  | succ j =>
   rw [wF,kV] at hj
   have hm:k ∈ l.map kf:=zI hj
   obtain ⟨z,hz,hzk⟩:=yP.1 hm
   have hne:kf y≠k:=by rw [← hzk];exact h1 z hz
   rw [kH,if_pos (by simp [hne]),ih h2 hj,List.eraseIdx_cons_succ]
theorem Z2 {t:List α} {k:List UInt8} (hk:k ∉ t.map kf):t.filter (fun y=>!(kf y == k))=t:=by
 rw [zAa]
 intro y hy
 have:kf y≠k:=fun e=>hk (yP.2 ⟨y,hy,e⟩)
 simp [this]
theorem Aqd {t:List α} {j:Nat} (x:α) (hj:j<t.length):(t.set j x).Perm (x::t.eraseIdx j):=by
 rw [kT,if_pos hj,List.eraseIdx_eq_take_drop_succ]
 exact List.perm_middle
theorem Acn {t t':List α} (hp:t'.Perm t) (hd:Pk kf t') {j:Nat} {x:α} (hj:(t'.map kf)[j]? = some (kf x)):(t'.set j x).Perm (Sa kf t x)∧(t'.set j x).map kf=t'.map kf∧Pk kf (t'.set j x):=by
 have hlt:j<t'.length:=by simpa using (zC.1 hj).1
 have e:(t'.set j x).map kf=t'.map kf:=by
  rw [kJ]
  apply wB
  intro i
  rw [w9]
  by_cases h:j=i
  ·subst h;rw [if_pos rfl,if_pos (by simpa using hlt),hj]
  ·rw [if_neg h]
 refine ⟨(Aqd x hlt).trans ?_,e,?_⟩
 ·unfold Sa
  rw [← Ame hd hj]
  exact (hp.filter _).cons x
 ·unfold Pk at *
  have:=(wK (f:=kf) (R:=(·≠·)) (l:=t')).2 hd
  rw [← e] at this
  exact wK.1 this
theorem Ai7 {t t':List α} (hp:t'.Perm t) (hd:Pk kf t') {x:α} (hx:kf x ∉ t'.map kf):(t'++[x]).Perm (Sa kf t x)∧Pk kf (t'++[x]):=by
 have hx':kf x ∉ t.map kf:=fun h=>hx ((hp.map kf).mem_iff.2 h)
 refine ⟨?_,?_⟩
 ·unfold Sa
  rw [Z2 hx']
  exact (List.perm_append_comm.trans (List.Perm.refl _)).trans (hp.cons x)
 ·refine wT.2 ⟨hd,wL _ _,fun a ha b hb=>?_⟩
  rw [zW.1 hb]
  exact fun e=>hx (yP.2 ⟨a,ha,e⟩)
theorem Ar9 {t t':List α} (hp:t'.Perm t) (hd:Pk kf t') {j:Nat} {k:List UInt8} (hj:(t'.map kf)[j]? = some k):(t'.eraseIdx j).Perm (Ab4 kf t k)∧Pk kf (t'.eraseIdx j):=by
 refine ⟨?_,hd.sublist (List.eraseIdx_sublist ..)⟩
 unfold Ab4
 rw [← Ame hd hj]
 exact hp.filter _
theorem An8 {t t':List α} (hp:t'.Perm t) {k:List UInt8} (hk:k ∉ t'.map kf):t'.Perm (Ab4 kf t k):=by
 unfold Ab4
 rw [Z2 fun h=>hk ((hp.map kf).mem_iff.2 h)]
 exact hp
end
end Go.Proofs.YtkblaobhhoebaaaGreat.Abs
namespace Go.Proofs.YtkblaobhhoebaaaGreat.Abs
theorem Aor {α:Type} (l:List α):(List.range l.length).filterMap (l[·]?)=l:=by
 have key:∀ n,n≤l.length→(List.range n).filterMap (l[·]?)=l.take n:=fun n=>by
  induction n with
  | zero=>intro _;simp
  | succ n ih =>
   intro h
   rw [List.range_succ,List.filterMap_append,ih (by omega),zM (by omega)]
   simp [zB (show n<l.length by omega)]
 rw [key _ (zN _),yI]
theorem Ajp {α:Type} {l:List α} {ps:List Nat} (hn:ps.Nodup) (hl:∀ j ∈ ps,j<l.length) (ha:∀ j,j<l.length→j ∈ ps):(ps.filterMap (l[·]?)).Perm l:=by
 have hp:ps.Perm (List.range l.length):=(List.perm_ext_iff_of_nodup hn List.nodup_range).2 fun j=>⟨fun h=>wA.2 (hl j h),fun h=>ha j (wA.1 h)⟩
 have:=hp.filterMap (l[·]?)
 rwa [Aor] at this
theorem Ar7 {es:Array MapEntry} (hn:(es.toList.map (·.born)).Nodup) {i j:Nat} {e e':MapEntry} (hi:es[i]? = some e') (hj:es[j]? = some e):(e'.born=e.born∨i ∈ ([]:List Nat)) ↔ i=j:=by
 have hi':es.toList[i]? = some e':=by rw [xZ];exact hi
 have hj':es.toList[j]? = some e:=by rw [xZ];exact hj
 constructor
 ·rintro (h | h)
  ·have h1:=(zC.1 hi').1
   have h2:=(zC.1 hj').1
   rcases w8 i j with hlt | heq | hgt
   ·exact absurd (by rw [wO,wO,(zC.1 hi').2,(zC.1 hj').2];exact h) ((yK.1 hn) i j (by simpa using h1) (by simpa using h2) hlt)
   ·exact heq
   ·exact absurd (by rw [wO,wO,(zC.1 hi').2,(zC.1 hj').2];exact h.symm) ((yK.1 hn) j i (by simpa using h2) (by simpa using h1) hgt)
  ·simp at h
 ·rintro rfl
  rw [hi'] at hj'
  cases hj'
  exact .inl rfl
end Go.Proofs.YtkblaobhhoebaaaGreat.Abs
namespace Go.Proofs.YtkblaobhhoebaaaGreat.Abs
open Go.RowKit Go.MapKept
open Go.ChangeMaps (setBlock)
theorem Alr (H:Nat→Value) (p:Nat):Ry H p (H p)=H:=by
 funext q
 by_cases h:q=p
 ·subst h;rw [Cc]
 ·rw [Cr _ _ h]
theorem Rk {α β:Type} (f:α→β):∀ {l:List α},(l.map f).Nodup→l.Nodup
 | [],_=>w6
 | x::l,h=>by
  rw [wF,xV] at h
  exact xV.2 ⟨fun hx=>h.1 (yP.2 ⟨x,hx,rfl⟩),Rk f h.2⟩
theorem Rel.retab {c:Ctx} {t:Nat→AV} {m:List Blk} {a:Act} {w:World} {S:Cg} {H:Nat→Value} (r:Rel c ⟨t,m⟩ a w S H) {p g:Nat} {b b':Blk} {mk:List (List Value)→Obj→Prop} {cs:List (List Lf)}
  (hm:m[p]? = some b) (hbb:b=.obj g mk cs∨b=.tab mk cs) (hbb':b'=.obj g mk cs∨b'=.tab mk cs) (hH:H p=.pointer (some ⟨g,0,none⟩)):Rel c ⟨t,m.set p b'⟩ a w S H:=by
 have hp:p<m.length:=(zC.1 hm).1
 have hob:b.own (H p)=some g:=by rcases hbb with rfl | rfl <;> rw [hH] <;> rfl
 have hlo:=r.lo p _ g hm hob
 have hbl:=r.bl p _ hm
 have hcont:∃ vs o,w.heap[g]? = some o∧Ake o=true∧mk vs o∧Al6 (Rep w S) cs vs:=by
  rcases hbb with rfl | rfl
  ·obtain ⟨_,h⟩:=hbl;exact h
  ·obtain ⟨g',h1,h⟩:=hbl
   rw [hH] at h1;cases h1
   exact h
 have hst:b'.stab=0:=by rcases hbb' with rfl | rfl <;> rfl
 have hst0:b.stab=0:=by rcases hbb with rfl | rfl <;> rfl
 have:=r.change (m':=m.set p b') (b':=b') (v:=H p) (w':=w) (S':=S) (by simp) (by rw [zS hp]) (fun q hq=>by rw [z6 (Ne.symm hq)]) (fun b i hs=>⟨hs,rfl⟩) (fun _ _ _=>rfl) (fun e sz k cs _ h=>by rcases hbb' with rfl | rfl <;> cases h)
  (fun g' _ hg'=>rfl) (by rcases hbb' with rfl | rfl;exact ⟨hH,hcont⟩;exact ⟨g,hH,hcont⟩) (fun g' hg'=>?_) (fun q b g i _ _ _ h=>h) (fun g i _ _ h=>h) r.sl.two (zN _) rfl rfl rfl (fun h=>by rcases h with h | h <;> rcases hbb' with rfl | rfl <;> cases h)
 ·rw [Alr] at this
  exact this
 ·have hg2:g=g':=by
   have:b'.own (H p)=some g:=by rcases hbb' with rfl | rfl <;> rw [hH] <;> rfl
   rw [this] at hg'
   exact zD hg'
  subst hg2
  exact ⟨hlo.1,hlo.2,fun q b2 hq hb ho'=>hq (r.inj q p b2 _ g hb hm ho' hob),fun i hi=>absurd (r.sb p _ g i hm hob hi) (by rw [hst0];exact zT _)⟩
theorem Rel.toTab {c:Ctx} {t:Nat→AV} {m:List Blk} {a:Act} {w:World} {S:Cg} {H:Nat→Value} (r:Rel c ⟨t,m⟩ a w S H) {p g:Nat} {mk:List (List Value)→Obj→Prop} {cs:List (List Lf)} (hm:m[p]? = some (.obj g mk cs)):Rel c ⟨t,m.set p (.tab mk cs)⟩ a w S H :=
 r.retab hm (.inl rfl) (.inr rfl) (r.bl p _ hm).1
theorem Rel.ofTab {c:Ctx} {t:Nat→AV} {m:List Blk} {a:Act} {w:World} {S:Cg} {H:Nat→Value} (r:Rel c ⟨t,m⟩ a w S H) {p:Nat} {mk:List (List Value)→Obj→Prop} {cs:List (List Lf)} (hm:m[p]? = some (.tab mk cs)):∃ g,H p=.pointer (some ⟨g,0,none⟩)∧Rel c ⟨t,m.set p (.obj g mk cs)⟩ a w S H:=by
 obtain ⟨g,h1,_⟩:=r.bl p _ hm
 exact ⟨g,h1,r.retab hm (.inr rfl) (.inl rfl) h1⟩
def Alh:Lf→Value
 | .i k n=>.int k n
 | .b x=>.bool x
 | .s x=>.string x
 | _=>undef
def Ti (l:List Lf):Value:=.agg (l.map Alh).toArray
theorem Atv {w:World} {S:Cg} {m:List Blk} {H:Nat→Value} {l:Lf} {v:Value} (h:Cj w S m H l v) (ht:l.tag<3):v=Alh l:=by
 cases l <;> simp [Lf.tag] at ht
 ·exact Ta h
 ·exact Tt h
 ·exact Akj h
theorem Apb {w:World} {S:Cg} {m:List Blk} {H:Nat→Value} {ls:List Lf} {vs:List Value} (h:LsR (Cj w S m H) ls vs) (ht:∀ l ∈ ls,l.tag<3):vs=ls.map Alh:=by
 apply wB
 intro j
 rw [zQ]
 rcases zO j ls.length with hj | hj
 ·have hv:j<vs.length:=by rw [← h.1];exact hj
  rw [zB hj,zB hv]
  exact congrArg some (Atv (h.2 j _ _ (zB hj) (zB hv)) (ht _ (xN hj)))
 ·rw [yJ hj,yJ (by rw [← h.1];exact hj)];rfl
theorem Ae2 {w:World} {S:Cg} {m:List Blk} {H:Nat→Value} {l:Lf} (ht:l.tag<3):Cj w S m H l (Alh l):=by
 cases l <;> simp [Lf.tag] at ht
 ·exact .i _ _
 ·exact .b _
 ·exact .s _
section
variable {P:Program} {kt:TypeId} {n:List Nat}
theorem Wv {w:World} {em:Bool} {d:Nat} {xs:Array Value}:∀ (fs:List Field) (i:Nat) (n:List Nat),Akb P i fs n=true→(∀ k ∈ n,k<3)→(∀ j,j<n.length→∃ v,xs[i+j]? = some v) →
  (forIn fs PUnit.unit (fun f (_ : PUnit) => if f.name ≠ "_" then (do
       let v ← part f.type xs f.offset
       Instr.checkKey em (d+1) f.type v
       pure (ForInStep.yield PUnit.unit):Sem (ForInStep PUnit))
      else pure (ForInStep.yield PUnit.unit))).run P w=.ok PUnit.unit w
 | [],_,_,_,_,_=>by simp
 | f::fs,i,[],h,_,_=>by cases h
 | f::fs,i,k::ks,h,ht,hx=>by
  simp only [Akb,yA,bne_iff_ne,ne_eq,beq_iff_eq] at h
  obtain ⟨⟨⟨h1,h2⟩,h3⟩,h4⟩:=h
  obtain ⟨v,hv⟩:=hx 0 (by simp)
  have hk:=ht k (yX ..)
  have ht4:Y9 (P.underlying f.type)<4:=by rw [h3];omega
  have hc:(Instr.checkKey em (d+1) f.type v).run P w=.ok () w:=by
   cases hu:P.underlying f.type with
   | none=>rw [hu] at ht4;simp [Y9] at ht4
   | some dd =>
    rw [hu] at h3 ht4
    cases dd <;> simp [Y9] at ht4 <;> simp [Instr.checkKey,run_underlying hu]
  have ih:=Wv (w:=w) (em:=em) (d:=d) fs (i+1) ks h4 (fun x hx=>ht x (yV _ hx)) (fun j hj=>by
   obtain ⟨v,hv⟩:=hx (j+1) (by simpa using hj)
   exact ⟨v,by rw [show i+1+j=i+(j+1) by omega];exact hv⟩)
  rw [kE] at hv
  rw [List.forIn_cons]
  simp only [Sem.run_bind,h2,h1,ne_eq,not_false_eq_true,if_true,Aak ht4 hv,Result.andThen_ok,hc,Sem.run_pure]
  exact ih
theorem Uq {w:World} {em:Bool} {ls:List Lf} (et:EqT P kt n) (hn:ls.map Lf.tag=n) (ht:∀ l ∈ ls,l.tag<3):(Instr.checkKey em 10000 kt (Ti ls)).run P w=.ok () w:=by
 show (Instr.checkKey em (9998+1+1) kt (.agg _)).run P w=_
 rw [Instr.checkKey]
 simp only [Sem.run_bind,run_underlying et.u,Result.andThen_ok]
 rw [← Array.forIn_toList]
 have:=Wv (w:=w) (em:=em) (d:=9998) (xs:=(ls.map Alh).toArray) _ 0 n et.f (fun k hk=>by
  rw [← hn] at hk
  obtain ⟨l,hl,rfl⟩:=yP.1 hk
  exact ht l hl) (fun j hj=>by
  have hl:j<ls.length:=by rw [← hn] at hj;simpa using hj
  exact ⟨Alh ls[j],by simp [hl]⟩)
 rw [this]
 simp
structure Aga (κ:Type) [DecidableEq κ] (P:Program) (kt:TypeId) (e:κ→List Lf) (n:List Nat):Prop where
 et:EqT P kt n
 tag:∀ k,(e k).map Lf.tag=n
 low:∀ x ∈ n,x<3
 eq:∀ k k',Aue (e k) (e k')=some (decide (k=k'))
variable {κ:Type} [DecidableEq κ] {e:κ→List Lf}
theorem Aga.lt (h:Aga κ P kt e n) (k:κ):∀ l ∈ e k,l.tag<3:=fun l hl=>h.low _ (by rw [← h.tag k];exact yP.2 ⟨l,hl,rfl⟩)
theorem Aga.equal (h:Aga κ P kt e n) (w:World) (k k':κ):(Op.equal kt (Ti (e k)) (Ti (e k'))).run P w=.ok (decide (k=k')) w:=by
 show (Op.equalIn (9999+1) kt (.agg _) (.agg _)).run P w=_
 rw [run_equalIn_struct w 9999 kt _ _ h.et.u h.et.h]
 refine Ww (d:=9998) (S:=fun _ _=>False) (m:=[]) (H:=fun _=>undef) _ 0 (e k) (e k') _ (by rw [h.tag];exact h.et.f) ((h.tag k).trans (h.tag k').symm) (h.eq k k') (fun j l hl=>?_) (fun j l hl=>?_)
 ·exact ⟨Alh l,by simp [hl],Ae2 (h.lt k l (zI hl))⟩
 ·exact ⟨Alh l,by simp [hl],Ae2 (h.lt k' l (zI hl))⟩
theorem Aga.inj (h:Aga κ P kt e n) {k k':κ} (hk:Ti (e k)=Ti (e k')):k=k':=by
 have h1:=h.equal default k k'
 rw [hk,h.equal default k' k'] at h1
 have:decide (k'=k')=decide (k=k'):=by injection h1
 rw [decide_eq_true rfl] at this
 exact of_decide_eq_true this.symm
theorem Aga.asking (h:Aga κ P kt e n) (w:World) (k:κ):∀ (es:List MapEntry) (ks:List κ) (i:Nat),es.map (·.key)=ks.map (fun k=>Ti (e k)) →
  ((Instr.findAsking kt (Ti (e k)) es i).run P w=.ok none w∧k ∉ ks)∨∃ j x,(Instr.findAsking kt (Ti (e k)) es i).run P w=.ok (some (i+j,x.val)) w∧es[j]? = some x∧ks[j]? = some k
 | [],[],i,_=>.inl ⟨by simp [Instr.findAsking],by simp⟩
 | [],_::_,i,h=>by cases h
 | _::_,[],i,h=>by cases h
 | x::es,k'::ks,i,hk=>by
  simp only [wF,List.cons.injEq] at hk
  obtain ⟨hk1,hk2⟩:=hk
  by_cases hkk:k=k'
  ·subst hkk
   refine .inr ⟨0,x,?_,rfl,rfl⟩
   simp [Instr.findAsking,hk1,h.equal]
  ·rcases h.asking w k es ks (i+1) hk2 with ⟨h1,h2⟩ | ⟨j,y,h1,h2,h3⟩
   ·refine .inl ⟨by simp [Instr.findAsking,hk1,h.equal,hkk,h1],?_⟩
    rw [yM];rintro (h | h);exact hkk h;exact h2 h
   ·refine .inr ⟨j+1,y,?_,by simpa using h2,by simpa using h3⟩
    simp [Instr.findAsking,hk1,h.equal,hkk,h1,kX,j5 1 j]
theorem Aga.find (h:Aga κ P kt e n) (w:World) (k:κ) {es:List MapEntry} {ks:List κ} (hk:es.map (·.key)=ks.map (fun k=>Ti (e k))) :
  ((Instr.findKey kt (Ti (e k)) es).run P w=.ok none w∧k ∉ ks)∨∃ j x,(Instr.findKey kt (Ti (e k)) es).run P w=.ok (some (j,x.val)) w∧es[j]? = some x∧ks[j]? = some k:=by
 have hf:(Instr.findKey kt (Ti (e k)) es).run P w=(Instr.findAsking kt (Ti (e k)) es).run P w:=by
  cases es with
  | nil=>simp [Instr.findKey,run_underlying h.et.u,Result.andThen,Instr.findNow,Instr.findAsking]
  | cons x es =>
   have:Instr.findNow (.struct (P.fieldsOf kt)) (Ti (e k)) (x::es) 0=none:=by simp [Instr.findNow,Instr.sameNow]
   simp [Instr.findKey,run_underlying h.et.u,Result.andThen,this]
 rw [hf]
 rcases h.asking w k es ks 0 hk with h | ⟨j,x,h1,h2,h3⟩
 ·exact .inl h
 ·rw [yH] at h1
  exact .inr ⟨j,x,h1,h2,h3⟩
theorem Acp (l:Lf) (h:l.tag<3) (d:Nat):Instr.sameBits d (Alh l) (Alh l)=true:=by
 cases l <;> simp [Lf.tag] at h <;> cases d <;> simp [Alh,Instr.sameBits] <;> exact (bytes_beq _ _).2 rfl
theorem Aga.stays (h:Aga κ P kt e n) (w:World) (k:κ):(Instr.keyThatStays (Ti (e k)) (Ti (e k))).run P w=.ok (Ti (e k)) w:=by
 have hs:Instr.sameBits 10000 (Ti (e k)) (Ti (e k))=true:=by
  show Instr.sameBits (9999+1) (.agg _) (.agg _)=true
  simp only [Instr.sameBits,beq_self_eq_true,wM,zJ]
  intro p hp
  obtain ⟨i,hi,hpe⟩:=yR hp
  rw [List.getElem_zip] at hpe
  rw [← hpe]
  simp only [wO]
  exact Acp _ (h.lt k _ (xN _)) 9999
 simp [Instr.keyThatStays,hs]
end
section
variable {κ:Type} [DecidableEq κ]
def Wi (M:List (κ × Int)) (k:κ) (i:Int):List (κ × Int):=if M.any (fun x=>decide (x.1=k)) then M.map (fun x=>if x.1=k then (x.1,i) else x) else M++[(k,i)]
def Afv (M:List (κ × Int)) (k:κ):Bool:=M.any (fun x=>decide (x.1=k))
def Aji (M:List (κ × Int)) (k:κ):Int:=match M.find? (fun x=>decide (x.1=k)) with | some x=>x.2 | none=>0
def Qa (e:κ→List Lf) (M:List (κ × Int)):List Value:=(M.map (·.1)).map (fun k=>Ti (e k))
def Js (M:List (κ × Int)):List (List Lf):=M.map fun x=>[.i .i64 x.2]
abbrev U3 (e:κ→List Lf) (M:List (κ × Int)):Blk:=.tab (Mr Agr (Qa e M)) (Js M)
theorem Sl {M:List (κ × Int)} {k:κ}:Afv M k=true ↔ k ∈ M.map (·.1):=by
 unfold Afv
 rw [w4,yP]
 constructor
 ·rintro ⟨x,h1,h2⟩;exact ⟨x,h1,of_decide_eq_true h2⟩
 ·rintro ⟨x,h1,h2⟩;exact ⟨x,h1,decide_eq_true h2⟩
theorem Aew {M:List (κ × Int)} {k:κ} {i:Int} (h:k ∉ M.map (·.1)):Wi M k i=M++[(k,i)]:=by
 unfold Wi
 rw [if_neg]
 intro hh
 exact h (Sl.1 hh)
theorem Aoo {M:List (κ × Int)} {k:κ} {i:Int} {j:Nat} (hd:(M.map (·.1)).Nodup) (hj:(M.map (·.1))[j]? = some k):Wi M k i=M.set j (k,i):=by
 have hj':=zC.1 hj
 obtain ⟨hlt,hk⟩:=hj'
 have hlt':j<M.length:=by simpa using hlt
 rw [wO] at hk
 unfold Wi
 rw [if_pos (show (M.any fun x=>decide (x.1=k))=true from Sl.2 (zI hj))]
 apply List.ext_getElem (by simp)
 intro q h1 h2
 rw [wO,List.getElem_set]
 by_cases hq:j=q
 ·subst hq;rw [if_pos rfl,if_pos hk,hk]
 ·rw [if_neg hq,if_neg]
  intro he
  have h3:q<M.length:=by simpa using h2
  have h4:q<(M.map (·.1)).length:=by simpa using h3
  rcases w8 j q with h5 | h5 | h5
  ·exact (yK.1 hd) j q hlt h4 h5 (by rw [wO,wO,hk];exact he.symm)
  ·exact hq h5
  ·exact (yK.1 hd) q j h4 hlt h5 (by rw [wO,wO,hk];exact he)
theorem Apx {M:List (κ × Int)} {k:κ} {j:Nat} (hd:(M.map (·.1)).Nodup) (hj:(M.map (·.1))[j]? = some k):∃ x,M[j]? = some x∧Aji M k=x.2:=by
 induction M generalizing j with
 | nil=>simp at hj
 | cons y M ih =>
  rw [wF,xV] at hd
  cases j with
  | zero =>
   have:y.1=k:=by simpa using hj
   refine ⟨y,rfl,?_⟩
   unfold Aji
   rw [jO,decide_eq_true this]
  | succ j =>
   have hj':(M.map (·.1))[j]? = some k:=by simpa using hj
   obtain ⟨x,h1,h2⟩:=ih hd.2 hj'
   refine ⟨x,by simpa using h1,?_⟩
   have hne:y.1≠k:=fun he=>hd.1 (by rw [he];exact zI hj')
   unfold Aji at h2 ⊢
   rw [jO,decide_eq_false hne]
   exact h2
theorem Aoy {M:List (κ × Int)} {k:κ} (h:k ∉ M.map (·.1)):Aji M k=0:=by
 unfold Aji
 rw [kQ.2 fun x hx=>by
  intro hh
  exact h (yP.2 ⟨x,hx,of_decide_eq_true hh⟩)]
end
section
variable {P:Program} {c:Ctx} {ops:Array Oper} {Q:Exit→AS→Prop} {rest:List Oper} {ty:TypeId} {pos:String} {af:Array Edge} {d:Tmp} {t:Nat→AV} {m:List Blk}
variable {κ:Type} [DecidableEq κ] {e:κ→List Lf} {n:List Nat} {kt:TypeId}
omit [DecidableEq κ] in
theorem Ap0 {tm:TypeId} (e:κ→List Lf) (hd:decide (d<c.nt)=true)
  (k:AWL P c ops Q rest ⟨upd t d (.s (.one (.mp 0 m.length))),m++[U3 e []]⟩):AWL P c ops Q (⟨some d,.makeMap tm none,ty,pos,af,none⟩::rest) ⟨t,m⟩:=by
 intro a w S H r
 refine wpList_plain rfl fun K hK=>?_
 unfold Oper.wp
 have hrun:(execOp a.eval ⟨some d,.makeMap tm none,ty,pos,af,none⟩).run P w=.ok (.value (.map (some w.heap.size))) (w.alloc (.map #[] 0)):=by
  simp [execOp,Instr.makeMap]
 rw [hrun]
 have r1:=r.newObj (o:=.map #[] 0) (mk:=Mr Agr (Qa e [])) (vss:=[]) (css:=[]) rfl ⟨#[],0,rfl,stamped_empty 0,rfl,rfl⟩ ⟨rfl,fun j cs vs h=>by simp at h⟩
 have r2:=r1.toTab (p:=m.length) (g:=w.heap.size) (mk:=Mr Agr (Qa e [])) (cs:=[]) (by simp)
 have e2:(m++[Blk.obj w.heap.size (Mr Agr (Qa e [])) []]).set m.length (.tab (Mr Agr (Qa e [])) [])=m++[U3 e []]:=by simp [Js]
 rw [e2] at r2
 exact hK _ _ (k _ _ _ _ (r2.put (d:=d) (x:=.s (.one (.mp 0 m.length))) (of_decide_eq_true hd) ⟨by simp,w.heap.size,Cc _ _ _,rfl⟩))
theorem Ab5 {st:AS} {a:Act} {w:World} {S:Cg} {H:Nat→Value} (r:Rel c st a w S H) {x:Operand} {k p g:Nat} (hx:Cs st x=.s (.one (.mp k p))) (hH:H p=.pointer (some ⟨g,0,none⟩)):a.eval x=Yj k g:=by
 have h:=Bw r x
 rw [hx] at h
 obtain ⟨_,g',h1,h2⟩:=h
 rw [hH] at h1;cases h1
 exact h2
theorem Aix (K:Aga κ P kt e n) {st:AS} {a:Act} {w:World} {S:Cg} {H:Nat→Value} (r:Rel c st a w S H) {y:Operand} {k:κ} (hy:Cs st y=.s (.agg (e k))):a.eval y=Ti (e k):=by
 have h:=Bw r y
 rw [hy] at h
 obtain ⟨vs,h1,h2⟩:=h
 rw [h1]
 unfold Ti
 rw [← Apb h2 (K.lt k)]
theorem As7 {tm et:TypeId} (K:Aga κ P kt e n) {x y z:Operand} {p:Nat} {M:List (κ × Int)} {k:κ} {i:Int} (hu:P.underlying tm=some (.map kt et))
  (hx:Cs ⟨t,m⟩ x=.s (.one (.mp 0 p))) (hy:Cs ⟨t,m⟩ y=.s (.agg (e k))) (hz:Cs ⟨t,m⟩ z=.s (.one (.i .i64 i))) (hm:m[p]? = some (U3 e M))
  (kk:AWL P c ops Q rest ⟨t,m.set p (U3 e (Wi M k i))⟩) :
  AWL P c ops Q (⟨none,.mapUpdate tm x y z,ty,pos,af,none⟩::rest) ⟨t,m⟩:=by
 intro a w S H r0
 have ey0:=Aix K r0 hy
 obtain ⟨g,hH,r⟩:=r0.ofTab hm
 have hp:p<m.length:=(zC.1 hm).1
 have ex:=Ab5 r0 hx hH
 have ez:a.eval z=.int .i64 i:=by
  have h:=Bw r0 z
  rw [hz] at h
  exact Ta h
 have hmo:(m.set p (Blk.obj g (Mr Agr (Qa e M)) (Js M)))[p]? = some (.obj g (Mr Agr (Qa e M)) (Js M)):=zS hp
 obtain ⟨h1,vss,o,h2,h3,⟨es,clock,rfl,hst,hks,hvs⟩,h5⟩:=r.bl p _ hmo
 have hkeys:es.toList.map (·.key)=(M.map (·.1)).map (fun k=>Ti (e k)):=hks
 have hlen:(Js M).length=vss.length:=h5.1
 have hlM:M.length=vss.length:=by rw [← hlen];simp [Js]
 have hesM:es.size=M.length:=by
  have:=congrArg List.length hkeys
  simpa using this
 have hnd:(M.map (·.1)).Nodup:=by
  have h:=hst.2.2
  rw [hkeys] at h
  exact Rk _ h
 have fin:∀ {w':World} {H':Nat→Value} {o:Obj} {M':List (κ × Int)},Rel c ⟨t,(m.set p (Blk.obj g (Mr Agr (Qa e M)) (Js M))).set p (.obj g (Mr Agr (Qa e M')) (Js M'))⟩ a w' S H'→Rel c ⟨t,m.set p (U3 e M')⟩ a w' S H':=fun {w' H' o M'} r'=>by
  have r'':=r'.toTab (p:=p) (g:=g) (mk:=Mr Agr (Qa e M')) (cs:=Js M') (by rw [j6,zS hp])
  rw [j6,j6] at r''
  exact r''
 refine wpList_plain rfl fun KK hK=>?_
 unfold Oper.wp
 rcases K.find w k hkeys with ⟨f1,f2⟩ | ⟨j,x',f1,f2,f3⟩
 ·have hrun:(execOp a.eval ⟨none,.mapUpdate tm x y z,ty,pos,af,none⟩).run P w=.ok .skip (setBlock w g (.map (es.push { key:=Ti (e k),val:=.int .i64 i,born:=clock }) (clock+1))):=by
   simp [execOp,ex,ey0,ez,Yj,Instr.mapUpdate,run_underlying hu,MapKept.run_getObj_map h2,Uq K.et (K.tag k) (K.lt k),f1,run_setObj_map _ h2,Result.andThen,setBlock]
  rw [hrun]
  have hput:=Aew (i:=i) f2
  have hne:∀ x ∈ es.toList,x.key≠Ti (e k):=fun x hx he=>by
   have:Ti (e k) ∈ (M.map (·.1)).map (fun k=>Ti (e k)):=by rw [← hkeys,← he];exact yP.2 ⟨x,hx,rfl⟩
   obtain ⟨k',hk',he'⟩:=yP.1 this
   rw [K.inj he'] at hk'
   exact f2 hk'
  obtain ⟨H',r',_⟩:=r.setObj (mk':=Mr Agr (Qa e (Wi M k i))) (css':=Js (Wi M k i)) (vss:=vss++[[.int .i64 i]]) (o:=.map (es.push { key:=Ti (e k),val:=.int .i64 i,born:=clock }) (clock+1)) hmo rfl
   ⟨_,_,rfl,stamped_push hst hne,by rw [hput];simp [hkeys,Qa],by simp [hvs,Agr]⟩ (by
    rw [hput]
    refine ⟨by simp [Js,hlM],fun q cs vs e1 e2=>?_⟩
    rcases zO q M.length with hq | hq
    ·refine h5.2 q cs vs ?_ (by rw [zK (by omega)] at e2;exact e2)
     have:(Js (M++[(k,i)]))[q]? = (Js M)[q]? := by unfold Js;rw [wE,zK (by simpa using hq)]
     rw [← this];exact e1
    ·rw [zX (by omega),← hlM] at e2
     have:(Js (M++[(k,i)]))[q]? = ([[Lf.i .i64 i]]:List (List Lf))[q-M.length]? := by unfold Js;rw [wE,zX (by simpa using hq)];simp
     rw [this] at e1
     rcases kI (q-M.length) with h0 | h0
     ·rw [h0] at e1 e2
      obtain rfl:=zD e1
      obtain rfl:=zD e2
      exact ⟨rfl,fun j l v a b=>by
       cases j with
       | zero=>obtain rfl:=zD a;obtain rfl:=zD b;exact .i _ _
       | succ j=>simp at a⟩
     ·rw [yJ (by rw [yE];omega)] at e1;cases e1)
  exact hK _ _ (kk _ _ _ _ (fin (o:=.map #[] 0) r'))
 ·have hj:j<es.size:=by
   have:=(zC.1 f2).1
   simpa using this
  have hjM:j<M.length:=by omega
  have hkj:x'.key=Ti (e k):=by
   have h6:(es.toList.map (·.key))[j]? = some x'.key:=by rw [zQ,f2];rfl
   rw [hkeys,zQ,f3] at h6
   exact (zD h6).symm
  have hej:es[j]? = some x':=by rw [← xZ];exact f2
  have hrun:(execOp a.eval ⟨none,.mapUpdate tm x y z,ty,pos,af,none⟩).run P w=.ok .skip (setBlock w g (.map (es.modify j fun E=>{ E with key:=Ti (e k),val:=.int .i64 i }) clock)):=by
   simp [execOp,ex,ey0,ez,Yj,Instr.mapUpdate,run_underlying hu,MapKept.run_getObj_map h2,Uq K.et (K.tag k) (K.lt k),f1,run_setObj_map _ h2,Result.andThen,setBlock,hej,hkj,K.stays]
  rw [hrun]
  have hput:=Aoo (i:=i) hnd f3
  have hmk:(es.modify j fun E=>{ E with key:=Ti (e k),val:=.int .i64 i }).toList.map (·.key)=Qa e (M.set j (k,i)):=by
   rw [jL,Si (fun E:MapEntry=>{ E with key:=Ti (e k),val:=.int .i64 i }) (fun E:MapEntry=>E.key) (fun _=>Ti (e k)) (fun _=>rfl),Pn,hkeys]
   unfold Qa
   rw [kJ,kJ]
  have hmv:(es.modify j fun E=>{ E with key:=Ti (e k),val:=.int .i64 i }).toList.map (·.val)=(vss.set j [.int .i64 i]).map Agr:=by
   rw [jL,Si (fun E:MapEntry=>{ E with key:=Ti (e k),val:=.int .i64 i }) (fun E:MapEntry=>E.val) (fun _=>Value.int .i64 i) (fun _=>rfl),Pn,hvs,kJ]
   rfl
  obtain ⟨H',r',_⟩:=r.setObj (mk':=Mr Agr (Qa e (Wi M k i))) (css':=Js (Wi M k i)) (vss:=vss.set j [.int .i64 i]) (o:=.map (es.modify j fun E=>{ E with key:=Ti (e k),val:=.int .i64 i }) clock) hmo rfl
   ⟨_,_,rfl,stamped_modify hst j _ (fun _ _=>rfl) (fun e' _ he'=>by rw [hej] at he';cases he';exact hkj.symm),by rw [hput];exact hmk,hmv⟩ (by
    rw [hput]
    refine ⟨by simp [Js,hlM],fun q cs vs e1 e2=>?_⟩
    have e1':((Js M).set j [.i .i64 i])[q]? = some cs:=by rw [← e1];unfold Js;rw [kJ]
    rw [w9] at e1' e2
    by_cases hq:j=q
    ·subst hq
     rw [if_pos rfl,if_pos (by omega)] at e1' e2
     obtain rfl:=zD e1'
     obtain rfl:=zD e2
     exact ⟨rfl,fun j l v a b=>by
       cases j with
       | zero=>obtain rfl:=zD a;obtain rfl:=zD b;exact .i _ _
       | succ j=>simp at a⟩
    ·rw [if_neg hq] at e1' e2
     exact h5.2 q cs vs e1' e2)
  exact hK _ _ (kk _ _ _ _ (fin (o:=.map #[] 0) r'))
omit [DecidableEq κ] in
theorem Ajq {tm et:TypeId} {x:Operand} {p:Nat} {M:List (κ × Int)} (hu:P.underlying tm=some (.map kt et)) (hx:Cs ⟨t,m⟩ x=.s (.one (.mp 0 p))) (hm:m[p]? = some (U3 e M)) :
  OpV P c ⟨t,m⟩ (.call { callee:=.builtin .len,args:=#[x],argTypes:=#[tm] }) ty (.s (.one (.i .i64 (M.length:Int)))):=by
 intro a w S H r
 obtain ⟨g,hH,vss,o,h2,h3,⟨es,clock,rfl,hst,hks,hvs⟩,h5⟩:=r.bl p _ hm
 have ex:=Ab5 r hx hH
 have hesM:es.size=M.length:=by
  have:=congrArg List.length hks
  simpa [Qa] using this
 refine ⟨.int .i64 M.length,Jq (.i _ _),fun _ _ _ _=>?_⟩
 simp [execOp,resolve,invoke,builtin,Builtin.len_,run_underlying hu,ex,Yj,MapKept.run_getObj_map h2,Result.andThen,goInt,hesM]
theorem Akf {tm et:TypeId} (K:Aga κ P kt e n) {x y:Operand} {p:Nat} {M:List (κ × Int)} {k:κ} (hu:P.underlying tm=some (.map kt et)) (zi:(P.info? et).bind (·.zero)=some (.int .i64 0)) (hx:Cs ⟨t,m⟩ x=.s (.one (.mp 0 p))) (hy:Cs ⟨t,m⟩ y=.s (.agg (e k))) (hm:m[p]? = some (U3 e M)) :
  OpV P c ⟨t,m⟩ (.lookup tm x y true) ty (.tup [.one (.i .i64 (Aji M k)),.one (.b (Afv M k))]):=by
 intro a w S H r
 have ey0:=Aix K r hy
 obtain ⟨g,hH,vss,o,h2,h3,⟨es,clock,rfl,hst,hks,hvs⟩,h5⟩:=r.bl p _ hm
 have ex:=Ab5 r hx hH
 have hkeys:es.toList.map (·.key)=(M.map (·.1)).map (fun k=>Ti (e k)):=hks
 have hnd:(M.map (·.1)).Nodup:=by
  have h:=hst.2.2
  rw [hkeys] at h
  exact Rk _ h
 have tup:∀ (n:Int) (b:Bool),AVR (Cj w S m H) (.tup [.one (.i .i64 n),.one (.b b)]) (.tuple #[.int .i64 n,.bool b]):=fun n b=>⟨_,rfl,rfl,fun i x u h1 h2=>by
  match i with
  | 0=>obtain rfl:=zD h1;obtain rfl:=zD h2;exact Cj.of_rep (m:=m) (H:=H) (.i _ _)
  | 1=>obtain rfl:=zD h1;obtain rfl:=zD h2;exact Cj.of_rep (m:=m) (H:=H) (.b _)
  | i+2=>simp at h1⟩
 rcases K.find w k hkeys with ⟨f1,f2⟩ | ⟨j,x',f1,f2,f3⟩
 ·have e1:Afv M k=false:=by
   cases hh:Afv M k with
   | false=>rfl
   | true=>exact absurd (Sl.1 hh) f2
  rw [e1,Aoy f2]
  have hz:(zeroValue et).run P w=.ok (.int .i64 0) w:=by
   cases hi:P.info? et with
   | none=>rw [hi] at zi;cases zi
   | some inf =>
    rw [hi] at zi
    have hz0:inf.zero=some (.int .i64 0):=zi
    simp [zeroValue,typeInfo,hi,hz0,Result.andThen]
  refine ⟨_,tup 0 false,fun _ _ _ _=>?_⟩
  simp [execOp,ex,ey0,Yj,Instr.lookup,run_underlying hu,MapKept.run_getObj_map h2,Uq K.et (K.tag k) (K.lt k),f1,Result.andThen,hz]
 ·obtain ⟨y',h6,h7⟩:=Apx hnd f3
  have e1:Afv M k=true:=Sl.2 (zI f3)
  rw [e1,h7]
  have hv:x'.val=.int .i64 y'.2:=by
   have h8:(es.toList.map (·.val))[j]? = some x'.val:=by rw [zQ,f2];rfl
   rw [hvs,zQ] at h8
   cases hvj:vss[j]? with
   | none=>rw [hvj] at h8;cases h8
   | some vs =>
    rw [hvj] at h8
    have h9:=h5.2 j [.i .i64 y'.2] vs (by unfold Js;rw [zQ,h6];rfl) hvj
    have h10:Agr vs=x'.val:=zD h8
    rw [← h10]
    match vs,h9 with
    | [v],h9=>exact Ta (Cj.of_rep (m:=m) (H:=H) (h9.2 0 _ v rfl rfl))
    | [],h9=>have:=h9.1;cases this
    | _::_::_,h9=>have:=h9.1;simp at this
  refine ⟨_,tup y'.2 true,fun _ _ _ _=>?_⟩
  simp [execOp,ex,ey0,Yj,Instr.lookup,run_underlying hu,MapKept.run_getObj_map h2,Uq K.et (K.tag k) (K.lt k),f1,Result.andThen,hv]
theorem Rel.fillTab {c:Ctx} {t:Nat→AV} {m:List Blk} {a:Act} {w w':World} {S S':Cg} {H H':Nat→Value} (r:Rel c ⟨t,m⟩ a w S H) {p:Nat} (hm:m[p]? = some .hole) {mk:List (List Value)→Obj→Prop} {cs:List (List Lf)}
  (hx:Ext w S w' S') (hin:InH w' S') (mem:Mem w' S' [.tab mk cs] H') (hown:∀ g,Eu (H' 0)=some g→w.heap.size≤g) :
  Rel c ⟨t,m.set p (.tab mk cs)⟩ a w' S' (Ry H p (H' 0)):=by
 have hp:p<m.length:=(zC.1 hm).1
 have hH:H p=undef:=r.bl p _ hm
 refine r.changeM (p:=p) (b':=.tab mk cs) (v:=H' 0) (by simp) (zS hp) (fun q hq=>z6 (fun e=>hq e.symm)) (hx.keeps r.sl) (fun g _ h=>(Zg (hH.symm.trans h)).elim)
  (fun e sz k cs _ h he=>by cases he) (fun g hg _=>hx.blk g hg) (mem.bl 0 _ rfl) (fun g hg=>?_)
  (fun q b g i _ hb ho hs=>hx.back g i (r.lo q b g hb ho).2 hs) (fun g i hg _ hs=>hx.back g i (zU hg r.ex.size) hs) hin hx.size hx.os hx.tape hx.output
 have hge:=hown g hg
 refine ⟨.inl (yO r.ex.size hge),mem.hp 0 _ g rfl hg,fun q b _ hb ho=>?_,fun i hs=>mem.sb 0 _ g i rfl hg hs⟩
 have:=(r.lo q b g hb ho).2
 omega
theorem Afw {M:List Blk} {callee:Operand} {f:FuncId} {args:Array Operand} {ats:Array TypeId} {xs:List SV} {mk:List (List Value)→Obj→Prop} {cs:List (List Lf)} {kd:Nat} (p:Nat) (hd:decide (d<c.nt)=true) (hf:FnI P f) (hcal:Cal ⟨t,M⟩ callee f [] []) (ho:X8 ⟨t,M⟩ args.toList xs)
  (hc:Dl P f [] xs (fun y m'=>y=.s (.one (.mp kd 0))∧m'=[.tab mk cs])) (hpub:xs.all (fun x=>x.inbB 0)=true) (hm:M[p]? = some .hole) (hp0:Nat.ble c.m0.length p=true)
  (k:AWL P c ops Q rest ⟨upd t d (.s (.one (.mp kd p))),M.set p (.tab mk cs)⟩):AWL P c ops Q (⟨some d,.call { callee:=.value callee,args:=args,argTypes:=ats },ty,pos,af,none⟩::rest) ⟨t,M⟩:=by
 intro a w S H r
 obtain ⟨vs,hvs,hrun⟩:=Zz (pos:=pos) (af:=af) (ty:=ty) (ats:=ats) r hf hcal ho (some d)
 refine wpList_plain rfl fun K hK=>?_
 unfold Oper.wp
 rw [hrun]
 have hvs':Xs (Cj w S [] H) xs vs.toList:=by
  have tie:Tie [] M H H (fun j=>j):=⟨fun p h=>absurd h (zT _),fun _ _=>rfl,fun p b h=>by cases h⟩
  have e:xs.map (SV.ren (fun j=>j))=xs:=by
   have hl:∀ l:Lf,l.ren0 (fun j=>j)=l:=fun l=>by cases l <;> rfl
   have hl2:∀ l:Lf,l.ren (fun j=>j)=l:=fun l=>by
    cases l with
    | fn f a b =>
     show Lf.fn f (a.map _) (b.map _)=_
     rw [show (Lf.ren0 fun j=>j)=id from funext hl,kO,kO]
    | _=>rfl
   have hs:∀ x:SV,x.ren (fun j=>j)=x:=fun x=>by
    cases x with
    | one l=>show SV.one _=_;rw [hl2]
    | agg ls=>show SV.agg _=_;rw [show (Lf.ren fun j=>j)=id from funext hl2,kO]
   rw [show (SV.ren fun j=>j)=id from funext hs,kO]
  exact tie.svsDown hpub (by rw [e];simpa using hvs)
 refine (hc w S H vs r.sl ⟨fun p b h=>by simp at h,fun p b g h=>by simp at h,fun p q b b' g h=>by simp at h,fun p b g i h=>by simp at h⟩ hvs').mono ?_
 rintro e' w' ⟨v,y,m',S',H',rfl,⟨rfl,rfl⟩,ext,hin,mem',hown',_,hav⟩
 have hx:Ext w S w' S':=ext.toExt (fun b ⟨q,bb,h,_⟩=>by simp at h)
 have r':=r.fillTab hm hx hin mem' (fun g hg=>by
  rcases hown' 0 _ g rfl hg with h | ⟨q,bb,h,_⟩
  ·exact h
  ·simp at h)
 have hp:p<M.length:=(zC.1 hm).1
 obtain ⟨_,g,hg,hv⟩:=(show F7 w' S' [.tab mk cs] H' (.mp kd 0) v from hav)
 refine hK _ _ (k _ _ _ _ (r'.put (of_decide_eq_true hd) ?_))
 exact ⟨by simpa using hp,g,by rw [Cc];exact hg,hv⟩
theorem A1f (a b:List UInt8):((⟨a.toArray⟩:ByteArray).toList == (⟨b.toArray⟩:ByteArray).toList)=decide (a=b):=by
 have h:∀ l:List UInt8,(⟨l.toArray⟩:ByteArray).toList=l:=fun l=>by rw [ByteArray.toList_eq]
 rw [h,h]
 by_cases e:a=b
 ·subst e;simp
 ·simp [e]
theorem A1k {α:Type} [BEq α] [LawfulBEq α] [DecidableEq α] (a b:α):(a == b)=decide (a=b):=by
 by_cases h:a=b
 ·subst h;simp
 ·simp [h]
end
end Go.Proofs.YtkblaobhhoebaaaGreat.Abs
namespace Go.Proofs.YtkblaobhhoebaaaGreat.Abs
open Go.RowKit Go.Shelf Go.Sort
def Wa:Int→Value:=Value.int .i64
theorem An5 (xs:List Int):xs.flatMap eI=xs.map fun n=>.i .i64 n:=by
 induction xs with
 | nil=>rfl
 | cons x xs ih=>rw [xD,wF,ih];rfl
theorem Asr {w:World} {S:Cg} {xs:List Int} {vals:List Value} (h:LsR (Rep w S) (xs.flatMap eI) vals):vals=xs.map Wa:=by
 rw [An5] at h
 apply wB
 intro j
 rw [zQ]
 rcases zO j xs.length with hj | hj
 ·have hv:j<vals.length:=by rw [← h.1];simpa using hj
  rw [zB hj,zB hv]
  exact congrArg some (Ta (Cj.of_rep (m:=[]) (H:=fun _=>undef) (h.2 j (.i .i64 xs[j]) vals[j] (by rw [zQ,zB hj];rfl) (zB hv))))
 ·rw [yJ hj,yJ (by rw [← h.1];simpa using hj)];rfl
theorem Aiz {w:World} {S:Cg} (xs:List Int):LsR (Rep w S) (xs.flatMap eI) (xs.map Wa):=by
 rw [An5]
 refine ⟨by simp,fun j l v h1 h2=>?_⟩
 rw [zQ] at h1 h2
 cases hx:xs[j]? with
 | none=>rw [hx] at h1;cases h1
 | some x=>rw [hx] at h1 h2;cases h1;cases h2;exact .i _ _
section
variable {w:World} {b n:Nat} {d:Array Int} {os:Array Obj} {cur:Array Value} {e:TypeId}
theorem Amw (hb:w.heap[b]? = some (.cells cur e (0,0))) (hd:d.size≤cur.size):(grow (putRow Wa (Sort.ahead w n) b 0 d) os).heap[b]? = some (.cells (d.toList.map Wa++cur.toList.drop d.size).toArray e (0,0)):=by
 have hlt:=(z7.1 hb).1
 have h1:(grow (putRow Wa (Sort.ahead w n) b 0 d) os).heap[b]? = (putRow Wa (Sort.ahead w n) b 0 d).heap[b]? := by
  show ((putRow Wa (Sort.ahead w n) b 0 d).heap++os)[b]? = _
  rw [kS (by simp [putRow,Sort.ahead,mapBlock];exact hlt)]
 rw [h1]
 show ((Sort.ahead w n).heap.modify b _)[b]? = _
 rw [wQ,if_pos rfl]
 show (w.heap[b]?).map _=_
 rw [hb]
 show some (Obj.cells (putCells Wa 0 d cur) e (0,0))=_
 congr 2
 apply Array.ext_getElem?
 intro i
 rw [putCells,Array.getElem?_mapIdx]
 simp only [zY,true_and,yH,Nat.sub_zero]
 have hto:(d.toList.map Wa++cur.toList.drop d.size).toArray[i]? = (d.toList.map Wa++cur.toList.drop d.size)[i]? := List.getElem?_toArray ..
 rw [hto]
 rcases zO i d.size with hi | hi
 ·rw [zK (by simpa using hi),zP (show i<cur.size by omega),zQ,xZ,zP hi,yY,if_pos hi,getElem!_pos d i hi]
  rfl
 ·rw [zX (by simpa using hi),yG,xZ,z8,yC,show d.size+(i-d.size)=i by omega]
  cases cur[i]? with
  | none=>rfl
  | some v=>rw [yY,if_neg (by omega)]
theorem Ur {i:Nat} (hi:i<w.heap.size) (hne:i≠b):(grow (putRow Wa (Sort.ahead w n) b 0 d) os).heap[i]? = w.heap[i]? := by
 have h1:(grow (putRow Wa (Sort.ahead w n) b 0 d) os).heap[i]? = (putRow Wa (Sort.ahead w n) b 0 d).heap[i]? := by
  show ((putRow Wa (Sort.ahead w n) b 0 d).heap++os)[i]? = _
  rw [kS (by simp [putRow,Sort.ahead,mapBlock];exact hi)]
 rw [h1]
 show ((Sort.ahead w n).heap.modify b _)[i]? = _
 rw [wQ,if_neg (fun h=>hne h.symm)]
 rfl
theorem Xm:w.heap.size≤(grow (putRow Wa (Sort.ahead w n) b 0 d) os).heap.size:=by
 show _≤((putRow Wa (Sort.ahead w n) b 0 d).heap++os).size
 rw [yU]
 simp [putRow,Sort.ahead,mapBlock]
end
structure Az5 (P:Program) (e:TypeId) (w:World) (S:Cg) (H:Nat→Value) (xs:List Int) (blk cap:Nat) (cur:Array Value):Prop where
 h:H 0=.slice (some ⟨blk,0,none⟩) xs.length cap
 heap:w.heap[blk]? = some (.cells cur e (0,0))
 fits:xs.length≤cap
 most:cap≤maxLen
 cs:cur.size=cap*1
 vals:cur.toList.take xs.length=xs.map Wa
 lt:blk<w.heap.size
 noS:∀ i,¬ S blk i
theorem Az5.holds {P:Program} {e:TypeId} {w:World} {S:Cg} {H:Nat→Value} {xs:List Int} {blk cap:Nat} {cur:Array Value} (h:Az5 P e w S H xs blk cap cur):Holds (Value.int .i64) w blk 0 xs.toArray:=fun j hj=>by
 rw [yB] at hj
 have hcur:cur.toList[j]? = some (.int .i64 xs[j]):=by
  have:(cur.toList.take xs.length)[j]? = some (Wa xs[j]):=by rw [h.vals,zQ,zB hj];rfl
  rw [yN,if_pos hj] at this
  exact this
 refine ⟨?_,?_⟩
 ·rw [yH,cell_of_row w _ _ cur e (0,0) h.heap,getElem!_pos _ _ (by simpa using hj)]
  simpa using hcur
 ·rw [yH]
  unfold World.frozen?
  rw [h.heap]
  simp
theorem Al4 {P:Program} {e:TypeId} {w:World} {S:Cg} {H:Nat→Value} {xs:List Int} (mem:Mem w S [.arr e 1 0 (xs.flatMap eI)] H):(H 0=.slice none 0 0∧xs=[])∨∃ blk cap cur,Az5 P e w S H xs blk cap cur:=by
 have hf:∀ x:Int,(eI x).length=1:=fun _=>rfl
 obtain ⟨_,_,n',vals,hown,hls,_⟩:=mem.bl 0 _ rfl
 have hn':n'=xs.length:=Pw hown (by decide) (by rw [← hls.1,Au hf])
 subst hn'
 have hv:=Asr hls
 rcases hown.2 with ⟨hH,h0⟩ | ⟨blk,cap,cur,hH,_,hheap,hcap,hmax,hcs,hvals⟩
 ·exact .inl ⟨hH,zZ h0⟩
 ·refine .inr ⟨blk,cap,cur,hH,hheap,hcap,hmax,hcs,?_,(z7.1 hheap).1,fun i hi=>absurd (mem.sb 0 _ blk i rfl (by show Eu (H 0)=_;rw [hH];rfl) hi) (zT _)⟩
  rw [kD] at hvals
  rw [hvals,hv]
theorem As1 {P:Program} {ρ:Ren} (L:Go.Proofs.SlLaysM.n5 P ρ) {e:Nat} {xs:List Int} (hn:xs.length≤1000000000000000000) :
  Dl P (ρ.f 5) [.arr e 1 0 (xs.flatMap eI)] [.one (.ls 0 xs.length)] (fun y m'=>y=.tup []∧m'=[.arr e 1 0 ((xs.mergeSort fun x y=>decide (x≤y)).flatMap eI)]):=by
 have hf:∀ x:Int,(eI x).length=1:=fun _=>rfl
 intro w S H vs hin mem hvs
 obtain ⟨hvl,hvr⟩:=hvs
 obtain ⟨v0,rfl⟩:∃ v0,vs = #[v0]:=by
  obtain ⟨l⟩:=vs
  match l,hvl with
  | [a],_=>exact ⟨a,rfl⟩
 obtain ⟨_,_,hv0⟩:=(show F7 w S [.arr e 1 0 (xs.flatMap eI)] H (.ls 0 xs.length) v0 from hvr 0 _ v0 rfl rfl)
 have hv0':=(hv0 e 1 0 _ rfl).2 (Au hf xs).symm
 rcases Al4 (P:=P) mem with ⟨hH,rfl⟩ | ⟨blk,cap,cur,R⟩
 ·rw [hv0',hH]
  refine (Go.Proofs.AnyM.slices_Sort_int_none L none 0 w).mono ?_
  rintro e' w' ⟨rfl,rfl⟩
  have hy:([]:List Int).mergeSort (fun x y=>decide (x≤y))=[]:=by simp
  rw [hy]
  exact ⟨_,.tup [],_,S,H,rfl,⟨rfl,rfl⟩,Vf.refl _ _ _,hin,mem,fun p b g hb ho=>.inr ⟨p,b,hb,ho⟩,⟨zN _,fun _ _ _ _=>rfl,fun p e' sz' k cs _ hm=>⟨k,cs,hm,.inl ⟨rfl,rfl⟩⟩,fun _ _ h=>h⟩,I6⟩
 have hH:=R.h
 have hcon:=Go.Proofs.AnyM.slices_Sort_int L blk 0 cap xs w R.holds R.lt (by omega)
 rw [hv0',hH]
 refine hcon.mono ?_
 rintro e' w' ⟨rfl,n2,os,rfl⟩
 generalize hys:xs.mergeSort (fun x y=>decide (x≤y))=ys
 have hyl:ys.length=xs.length:=by rw [← hys,jE]
 have hsame:(grow (putRow Wa (Sort.ahead w n2) blk 0 ys.toArray) os).heap[blk]? = _:=Amw (n:=n2) (os:=os) (d:=ys.toArray) R.heap (by rw [yB,hyl,R.cs];have:=R.fits;omega)
 have hkeep:∀ b i,S b i→S b i∧(grow (putRow Wa (Sort.ahead w n2) blk 0 ys.toArray) os).cell? ⟨b,i,none⟩=w.cell? ⟨b,i,none⟩:=fun b i hs =>
  ⟨hs,World.cell?_of_block (w:=w) (Ur (hin.1 b i hs) fun e=>R.noS i (e ▸ hs))⟩
 have hin2:InH (grow (putRow Wa (Sort.ahead w n2) blk 0 ys.toArray) os) S:=hin.turn (·=blk) (fun g i e hs=>absurd (e ▸ hs) (R.noS i)) (fun q hq hne=>Ur hq hne) Xm fun b i hs=>(hkeep b i hs).2
 have hownX:Aef [.arr e 1 0 (xs.flatMap eI)] H blk:=⟨0,_,rfl,by show Eu (H 0)=_;rw [hH];rfl⟩
 refine ⟨_,.tup [],[.arr e 1 0 (ys.flatMap eI)],S,H,rfl,⟨rfl,rfl⟩,⟨rfl,rfl,rfl,Xm,fun b hb hx=>Ur hb fun e=>hx (e ▸ hownX),fun b i hs=>hs,fun b i hs=>(hkeep b i hs).2,fun b i _ _ hs=>hs⟩,hin2,⟨fun p b hb=>?_,fun p b g' hb ho=>?_,fun p q b b' g' hb hb' _ _=>?_,fun p b g' i hb ho hs=>?_⟩,fun p b g' hb ho=>?_,⟨zN _,fun _ _ _ _=>rfl,fun p e' sz' k' cs' hp hm=>?_,fun _ _ h=>h⟩,I6⟩
 ·match p with
  | 0 =>
   obtain rfl:=zD hb
   refine ⟨by decide,zY _,xs.length,ys.map Wa,⟨by rw [z8,hyl];omega,.inr ⟨blk,cap,_,hH,zY _,hsame,R.fits,R.most,?_,?_⟩⟩,Aiz ys,fun g' _ i hi=>absurd hi (zT _)⟩
   ·rw [yB,zH,z8,yD,yC,yC,yB,hyl,R.cs]
    have:=R.fits
    omega
   ·rw [yW,kD,wG (by rw [z8];simp [hyl]),← hyl]
    have:ys.toArray.toList.map Wa=ys.map Wa:=by simp
    rw [this,← z8 (f:=Wa),yI]
  | p+1=>simp at hb
 ·match p with
  | 0 =>
   obtain rfl:=zD hb
   have hg':Eu (H 0)=some g':=ho
   rw [hH] at hg'
   obtain rfl:blk=g':=by simpa [Eu] using hg'
   exact zU R.lt Xm
  | p+1=>simp at hb
 ·match p,q with
  | 0,0=>rfl
  | 0,q+1=>simp at hb'
  | p+1,_=>simp at hb
 ·match p with
  | 0 =>
   obtain rfl:=zD hb
   have hg':Eu (H 0)=some g':=ho
   rw [hH] at hg'
   obtain rfl:blk=g':=by simpa [Eu] using hg'
   exact absurd hs (R.noS i)
  | p+1=>simp at hb
 ·match p with
  | 0 =>
   obtain rfl:=zD hb
   exact .inr ⟨0,_,rfl,ho⟩
  | p+1=>simp at hb
 ·match p with
  | 0 =>
   obtain ⟨rfl,rfl,rfl,rfl⟩:e=e'∧1=sz'∧0=k'∧ys.flatMap eI=cs':=by simpa using hm
   exact ⟨0,_,rfl,.inl ⟨by rw [Au hf,Au hf,hyl],rfl⟩⟩
  | p+1=>simp at hp
def Akl (xs:List Int):List Int:=Go.Lib.compactUpTo xs.toArray xs.toArray.size
theorem A0l {e:Nat} {w w':World} {S S':Cg} {H:Nat→Value} {xs zs:List Int} {v:Value} (hx:Vf (Aef [.arr e 1 0 (xs.flatMap eI)] H) w S w' S') (hin:InH w' S') (hown:w'.ownsRow 0 e 1 v zs.length (zs.map Wa))
  (hv:∀ g,Eu v=some g→g<w'.heap.size∧(w.heap.size≤g∨Aef [.arr e 1 0 (xs.flatMap eI)] H g)∧∀ i,¬ S' g i) :
  ∃ v' x m' S'' H',Ending.returned v=.returned v'∧(x=.s (.one (.ls 1 zs.length))∧m'=[.dead,.arr e 1 0 (zs.flatMap eI)])∧Vf (Aef [.arr e 1 0 (xs.flatMap eI)] H) w S w' S''∧InH w' S''∧Mem w' S'' m' H' ∧
   (∀ (p:Nat) (b:Blk) (g:Nat),m'[p]? = some b→b.own (H' p)=some g→w.heap.size≤g∨Aef [.arr e 1 0 (xs.flatMap eI)] H g)∧Axc [.arr e 1 0 (xs.flatMap eI)] H m' H'∧AVR (Cj w' S'' m' H') x v':=by
 have hf:∀ x:Int,(eI x).length=1:=fun _=>rfl
 have h01:Ry H 1 v 0=H 0:=Cr _ _ (by decide)
 obtain ⟨ho1,ho2⟩:=Sw hown
 refine ⟨v,_,_,S',Ry H 1 v,rfl,⟨rfl,rfl⟩,hx,hin,⟨fun p b hb=>?_,fun p b g' hb ho=>?_,fun p q b b' g' hb hb' ho ho'=>?_,fun p b g' i hb ho hs=>?_⟩,fun p b g' hb ho=>?_,⟨by simp,fun p g hp hh=>?_,fun p e' sz' k' cs' hp hm=>?_,fun p hp h=>?_⟩,?_⟩
 ·match p with
  | 0=>obtain rfl:=zD hb;trivial
  | 1 =>
   obtain rfl:=zD hb
   rw [Cc]
   exact ⟨by decide,zY _,_,_,hown,Aiz zs,fun g' _ i hi=>absurd hi (zT _)⟩
  | p+2=>simp at hb
 ·match p with
  | 0=>obtain rfl:=zD hb;cases ho
  | 1=>obtain rfl:=zD hb;rw [Cc] at ho;exact (hv g' ho).1
  | p+2=>simp at hb
 ·match p,q with
  | 0,_=>obtain rfl:=zD hb;cases ho
  | _,0=>obtain rfl:=zD hb';cases ho'
  | 1,1=>rfl
  | p+2,_=>simp at hb
  | _,q+2=>simp at hb'
 ·match p with
  | 0=>obtain rfl:=zD hb;cases ho
  | 1=>obtain rfl:=zD hb;rw [Cc] at ho;exact absurd hs ((hv g' ho).2.2 i)
  | p+2=>simp at hb
 ·match p with
  | 0=>obtain rfl:=zD hb;cases ho
  | 1=>obtain rfl:=zD hb;rw [Cc] at ho;exact (hv g' ho).2.1
  | p+2=>simp at hb
 ·match p with
  | 0=>exact h01
  | p+1=>simp at hp
 ·match p with
  | 0=>cases hm
  | p+1=>simp at hp
 ·match p with
  | 0=>rw [h01];exact h
  | p+1=>simp at hp
 ·refine ⟨by simp,⟨ho1,by rw [Cc];exact ho2⟩,fun e' sz k cs hm=>?_⟩
  obtain ⟨rfl,rfl,rfl,rfl⟩:e=e'∧1=sz∧0=k∧zs.flatMap eI=cs:=by simpa using hm
  exact ⟨by rw [Au hf];omega,fun _=>(Cc _ _ _).symm⟩
theorem Ato {P:Program} {ρ:Ren} (L:Go.Proofs.SlLaysE.n43 P ρ) {e:Nat} {xs:List Int} (hn:xs.length≤1000000000000000000) (heq:Go.Proofs.EqlAt P (ρ.t 23) (Value.int .i64) (fun x y=>decide (x=y))) (hne:Go.Proofs.NeqAt P (ρ.t 23) (Value.int .i64) (fun x y=>decide (x=y))) (v23:∀ w,(zeroValue (ρ.t 23)).run P w=.ok (.int .i64 0) w)
  (hnil:Br P (ρ.f 43) [.one (.raw (.slice none 0 0))] (·=.s (.one (.raw (.slice none 0 0))))) :
  Dl P (ρ.f 43) [.arr e 1 0 (xs.flatMap eI)] [.one (.ls 0 xs.length)] (fun y m'=>y=.s (.one (.ls 1 (Akl xs).length))∧m'=[.dead,.arr e 1 0 ((Akl xs).flatMap eI)]):=by
 have hf:∀ x:Int,(eI x).length=1:=fun _=>rfl
 intro w S H vs hin mem hvs
 obtain ⟨hvl,hvr⟩:=hvs
 obtain ⟨v0,rfl⟩:∃ v0,vs = #[v0]:=by
  obtain ⟨l⟩:=vs
  match l,hvl with
  | [a],_=>exact ⟨a,rfl⟩
 obtain ⟨_,_,hv0⟩:=(show F7 w S [.arr e 1 0 (xs.flatMap eI)] H (.ls 0 xs.length) v0 from hvr 0 _ v0 rfl rfl)
 have hv0':=(hv0 e 1 0 _ rfl).2 (Au hf xs).symm
 rcases Al4 (P:=P) mem with ⟨hH,rfl⟩ | ⟨blk,cap,cur,R⟩
 ·rw [hv0',hH]
  refine (hnil w S #[.slice none 0 0] hin ⟨rfl,fun j x u h1 h2=>?_⟩).mono ?_
  ·cases j with
   | zero=>obtain rfl:=zD h1;obtain rfl:=zD h2;exact .raw _ rfl
   | succ j=>simp at h1
  rintro e' w' ⟨v,x,S',rfl,rfl,ext,hin',hav⟩
  have hvn:v=.slice none 0 0:=Lh (Cj.of_rep (m:=[]) (H:=H) hav)
  subst hvn
  have hx:Vf (Aef [.arr e 1 0 (([]:List Int).flatMap eI)] H) w S w' S':=⟨ext.os,ext.tape,ext.output,ext.size,fun b hb _=>ext.blk b hb,ext.sub,fun b i hs=>(ext.keeps hin b i hs).2,fun b i hb _ hs=>ext.back b i hb hs⟩
  exact A0l (zs:=[]) hx hin' ⟨rfl,.inl ⟨rfl,rfl⟩⟩ (fun g hg=>by cases hg)
 have hH:=R.h
 have hO:Go.Proofs.OneCell (Value.int .i64):=fun _=>rfl
 have hcon:=Go.Proofs.AnyE.slices_Compact L (Value.int .i64) hO heq hne 0 v23 blk 0 cap xs.toArray w R.holds (by rw [yB];omega) (by rw [yB];exact R.fits)
 rw [hv0',hH]
 rw [yB] at hcon
 refine hcon.mono ?_
 rintro e' w' ⟨rfl,n2,rfl⟩
 have hcz:Go.Lib.compactUpTo xs.toArray xs.length=Akl xs:=by unfold Akl;rw [yB]
 rw [hcz]
 have hzl:(Akl xs).length≤xs.length:=by
  unfold Akl Go.Lib.compactUpTo
  rw [z8]
  refine yO (xQ _ _) ?_
  rw [List.length_range,yB]
  exact zN _
 generalize Akl xs=zs at hzl
 generalize hds:(zs++List.replicate (xs.length-zs.length) (0:Int)).toArray=ds
 have hdsz:ds.size=xs.length:=by rw [← hds,yB,zH,j3];omega
 have hdt:ds.toList.take zs.length=zs:=by rw [← hds,yW,x9];rfl
 have hw:putRow (Value.int .i64) (Sort.ahead w n2) blk 0 ds=grow (putRow Wa (Sort.ahead w n2) blk 0 ds) #[]:=(grow_empty _).symm
 rw [hw]
 have hsame:(grow (putRow Wa (Sort.ahead w n2) blk 0 ds) #[]).heap[blk]? = _:=Amw (n:=n2) (os:=#[]) (d:=ds) R.heap (by rw [hdsz,R.cs];have:=R.fits;omega)
 have hkeep:∀ b i,S b i→S b i∧(grow (putRow Wa (Sort.ahead w n2) blk 0 ds) #[]).cell? ⟨b,i,none⟩=w.cell? ⟨b,i,none⟩:=fun b i hs =>
  ⟨hs,World.cell?_of_block (w:=w) (Ur (hin.1 b i hs) fun e=>R.noS i (e ▸ hs))⟩
 have hin2:InH (grow (putRow Wa (Sort.ahead w n2) blk 0 ds) #[]) S:=hin.turn (·=blk) (fun g i e hs=>absurd (e ▸ hs) (R.noS i)) (fun q hq hne=>Ur hq hne) Xm fun b i hs=>(hkeep b i hs).2
 have hownX:Aef [.arr e 1 0 (xs.flatMap eI)] H blk:=⟨0,_,rfl,by show Eu (H 0)=_;rw [hH];rfl⟩
 refine A0l ⟨rfl,rfl,rfl,Xm,fun b hb hx=>Ur hb fun e=>hx (e ▸ hownX),fun b i hs=>hs,fun b i hs=>(hkeep b i hs).2,fun b i _ _ hs=>hs⟩ hin2 ⟨by rw [z8,kD],.inr ⟨blk,cap,_,rfl,zY _,hsame,by have:=R.fits;omega,R.most,?_,?_⟩⟩ (fun g hg=>?_)
 ·rw [yB,zH,z8,yD,yC,yC,hdsz,R.cs]
  have:=R.fits
  omega
 ·rw [yW,kD,wG (by simpa [hdsz] using hzl),← List.map_take]
  exact congrArg (List.map Wa) hdt
 ·obtain rfl:blk=g:=by simpa [Eu] using hg
  exact ⟨zU R.lt Xm,.inr hownX,R.noS⟩
end Go.Proofs.YtkblaobhhoebaaaGreat.Abs
namespace Go.Proofs.YtkblaobhhoebaaaGreat.Abs
theorem nn {b:Bool} (h:b=false):¬ b=true:=fun h'=>by rw [h] at h';cases h'
theorem Ad1 {α:Type} {xs:List α} {p:α→Bool} (h:∀ x ∈ xs,p x=false):xs.find? p=none:=kQ.2 fun x hx=>by rw [h x hx];decide
theorem Ann {α ρ:Type} (xs:List α) (p:α→Bool) (g:α→ρ) (f:Int→Option (LR Int Unit ρ)) (hl:xs.length≤1000000000000000000)
  (h:∀ (i:Nat) x,xs[i]? = some x→f (i:Int)=some (if p x then .ret (g x) else .cont ((i+1:Nat):Int))) (hend:f (xs.length:Int)=some (.brk ())) :
  Lj f fuel 0=some (match xs.find? p with | some x=>.inl (g x) | none=>.inr ()):=by
 obtain ⟨v,hv,hr⟩:=Dh (f:=f) (P:=fun s=>∃ i:Nat,i≤xs.length∧s=(i:Int)∧xs.find? p=(xs.drop i).find? p) (μ:=fun s=>xs.length-s.toNat)
  (R:=fun r=>r=(match xs.find? p with | some x=>Sum.inl (g x) | none=>Sum.inr ())) (by
   rintro _ ⟨i,hi,rfl,hp⟩
   rcases zO i xs.length with hlt | hge
   ·have hx:=zB hlt
    have hf:=h i _ hx
    have hd:xs.drop i=xs[i]::xs.drop (i+1):=wY hlt
    cases hpx:p xs[i] with
    | true =>
     rw [hpx,if_pos rfl] at hf
     refine .inr (.inr ⟨_,hf,?_⟩)
     rw [hp,hd,jO,hpx]
    | false =>
     rw [hpx,if_neg (by decide)] at hf
     refine .inl ⟨_,hf,⟨i+1,hlt,rfl,?_⟩,by simp only [zR];omega⟩
     rw [hp,hd,jO,hpx]
   ·have e:i=xs.length:=by omega
    subst e
    refine .inr (.inl ⟨(),hend,?_⟩)
    rw [hp,List.drop_length];rfl) fuel 0 ⟨0,zY _,rfl,rfl⟩ (Ce (by show xs.length-0≤_;omega))
 rw [hv,hr]
theorem Ayd {α ρ:Type} (xs:List α) (p:α→Bool) (no:ρ) (f:Int→Option (LR Int Unit ρ)) (hl:xs.length≤1000000000000000000)
  (h:∀ (i:Nat) x,xs[i]? = some x→f (i:Int)=some (if p x then .cont ((i+1:Nat):Int) else .ret no)) (hend:f (xs.length:Int)=some (.brk ())) :
  Lj f fuel 0=some (if xs.all p then .inr () else .inl no):=by
 rw [Ann xs (fun x=>!p x) (fun _=>no) f hl (fun i x hx=>by
  rw [h i x hx]
  cases p x <;> rfl) hend]
 cases ha:xs.all p with
 | true =>
  rw [Ad1 fun x hx=>by rw [zJ.1 ha x hx];rfl];rfl
 | false =>
  obtain ⟨x,hx,hp⟩:=List.all_eq_false.1 ha
  cases hf:xs.find? (fun x=>!p x) with
  | none=>exact absurd (kQ.1 hf x hx) (by simpa using hp)
  | some y=>rfl
theorem Ako {α β:Type} (xs:List α) (g:α→List β) (f:Int × List β→Option (LB (Int × List β) (List β))) (k:Nat) (hg:∀ x,(g x).length≤k) (hl:xs.length≤1000000000000000000)
  (h:∀ (i:Nat) x acc,xs[i]? = some x→acc.length≤i*k→f ((i:Int),acc)=some (.cont (((i+1:Nat):Int),acc++g x))) (hend:∀ acc,f ((xs.length:Int),acc)=some (.brk acc)) :
  Ct f fuel (0,[])=some (xs.flatMap g):=by
 obtain ⟨v,hv,hr⟩:=C9 (f:=f) (P:=fun s=>∃ i:Nat,i≤xs.length∧s=((i:Int),(xs.take i).flatMap g)) (μ:=fun s=>xs.length-s.1.toNat) (R:=fun v=>v=xs.flatMap g) (by
  rintro _ ⟨i,hi,rfl⟩
  rcases zO i xs.length with hlt | hge
  ·left
   have hlen:((xs.take i).flatMap g).length≤i*k:=by
    have key:∀ l:List α,(l.flatMap g).length≤l.length*k:=fun l=>by
     induction l with
     | nil=>simp
     | cons a l ih =>
      rw [xD,zH,yT,jD]
      have:=hg a
      omega
    have:=key (xs.take i)
    rwa [zL,kC hi] at this
   refine ⟨_,h i _ _ (zB hlt) hlen,⟨i+1,hlt,?_⟩,by simp only [zR];omega⟩
   rw [zM hlt,kL];simp
  ·right
   have e:i=xs.length:=by omega
   subst e
   exact ⟨_,hend _,by rw [yI]⟩) fuel (0,[]) ⟨0,zY _,by simp⟩ (Ce (by show xs.length-0≤_;omega))
 rw [hv,hr]
theorem Zh {α β:Type} (xs:List α) (p:α→Bool) (g:α→β):xs.flatMap (fun x=>if p x then [g x] else [])=(xs.filter p).map g:=by
 induction xs with
 | nil=>rfl
 | cons x xs ih =>
  rw [xD,ih,kH]
  cases p x <;> rfl
theorem Aos {α β:Type} (xs:List α) (g:α→β):xs.flatMap (fun x=>[g x])=xs.map g:=by
 induction xs with
 | nil=>rfl
 | cons x xs ih=>rw [xD,ih];rfl
def Aqb (l:List Int):Prop:=l.Pairwise (· < ·)
theorem Alj {xs:List Int} (hs:xs.Pairwise (·≤·)):Aqb (Akl xs)∧∀ x,x ∈ Akl xs ↔ x ∈ xs:=by
 have key:∀ m,m≤xs.length→Aqb (Go.Lib.compactUpTo xs.toArray m)∧(∀ x,x ∈ Go.Lib.compactUpTo xs.toArray m ↔ x ∈ xs.take m):=fun m=>by
  induction m with
  | zero=>intro _;exact ⟨by simp [Go.Lib.compactUpTo,Aqb],fun x=>by simp [Go.Lib.compactUpTo]⟩
  | succ m ih =>
   intro hm
   obtain ⟨h1,h2⟩:=ih (by omega)
   have hlt:m<xs.length:=by omega
   have hU:Go.Lib.compactUpTo xs.toArray (m+1)=Go.Lib.compactUpTo xs.toArray m++(if Go.Lib.keeps xs.toArray m then [xs[m]] else []):=by
    unfold Go.Lib.compactUpTo
    rw [List.range_succ,List.filter_append,wE]
    congr 1
    rw [kH]
    cases Go.Lib.keeps xs.toArray m with
    | true =>
     rw [if_pos rfl,if_pos rfl]
     simp [zB hlt]
    | false=>rfl
   rw [hU,zM hlt]
   have hle:∀ x ∈ xs.take m,x≤xs[m]:=fun x hx=>by
    obtain ⟨j,hj,rfl⟩:=yR hx
    rw [jB]
    have hjm:j<m:=by rw [zL] at hj;omega
    exact (yK.1 hs) j m (by omega) hlt hjm
   by_cases h0:m=0
   ·subst h0
    have hk:Go.Lib.keeps xs.toArray 0=true:=by unfold Go.Lib.keeps;simp
    rw [hk,if_pos rfl]
    refine ⟨?_,fun x=>by simp [Go.Lib.compactUpTo]⟩
    simp [Go.Lib.compactUpTo,Aqb]
   have hm1:m-1<xs.length:=by omega
   have hkk:Go.Lib.keeps xs.toArray m=decide (xs[m]≠xs[m-1]):=by
    unfold Go.Lib.keeps
    rw [getElem!_pos xs.toArray m (by simpa using hlt),getElem!_pos xs.toArray (m-1) (by simpa using hm1)]
    simp [h0]
   rw [hkk]
   have hlast:xs[m-1] ∈ xs.take m:=List.mem_iff_getElem.2 ⟨m-1,by rw [zL];omega,by rw [jB]⟩
   by_cases he:xs[m]=xs[m-1]
   ·rw [if_neg (by simp [he]),xF]
    refine ⟨h1,fun x=>?_⟩
    rw [h2,yL,zW]
    constructor
    ·exact .inl
    ·rintro (h | rfl)
     ·exact h
     ·rw [he];exact hlast
   ·rw [if_pos (by simp [he])]
    have hll:xs[m-1]≤xs[m]:=hle _ hlast
    have hlt2:∀ x ∈ xs.take m,x<xs[m]:=fun x hx=>by
     obtain ⟨j,hj,rfl⟩:=yR hx
     rw [jB]
     have hjm:j<m:=by rw [zL] at hj;omega
     have:xs[j]≤xs[m-1]:=by
      rcases zO j (m-1) with h | h
      ·exact (yK.1 hs) j (m-1) (by omega) hm1 h
      ·have:j=m-1:=by omega
       subst this;exact xU _
     omega
    refine ⟨wT.2 ⟨h1,wL _ _,fun a ha b hb=>?_⟩,fun x=>?_⟩
    ·rw [zW.1 hb];exact hlt2 a ((h2 a).1 ha)
    ·rw [yL,yL,h2]
 have:=key xs.length (zN _)
 unfold Akl
 rw [yB]
 rw [yI] at this
 exact this
def Afe (l:List Int):List Int:=Akl (l.mergeSort fun x y=>decide (x≤y))
theorem At1 (l:List Int):(l.mergeSort fun x y=>decide (x≤y)).Pairwise (·≤·):=by
 have:=List.pairwise_mergeSort (le:=fun x y:Int=>decide (x≤y)) (fun a b c h1 h2=>by rw [decide_eq_true_eq] at *;omega) (fun a b=>by simp;omega) l
 exact this.imp fun h=>of_decide_eq_true h
theorem Ak8 {l:List Int} {x:Int}:x ∈ Afe l ↔ x ∈ l:=((Alj (At1 l)).2 x).trans (List.mem_mergeSort ..)
theorem Ank (l:List Int):(Afe l).length≤l.length:=by
 unfold Afe Akl Go.Lib.compactUpTo
 rw [z8]
 refine yO (xQ _ _) ?_
 rw [List.length_range,yB,jE]
 exact zN _
end Go.Proofs.YtkblaobhhoebaaaGreat.Abs
namespace Go.Proofs.YtkblaobhhoebaaaGreat.Abs
open Go.RowKit Go.MapKept Go.Conc
open Go.ChangeMaps (setBlock)
end Go.Proofs.YtkblaobhhoebaaaGreat.Abs
namespace Go.Proofs.YtkblaobhhoebaaaGreat.Abs
open Go.RowKit
end Go.Proofs.YtkblaobhhoebaaaGreat.Abs
namespace Go.Proofs.YtkblaobhhoebaaaGreat.Abs
open Go.RowKit
end Go.Proofs.YtkblaobhhoebaaaGreat.Abs
namespace Go.Proofs.YtkblaobhhoebaaaGreat.Abs
open Go.RowKit
end Go.Proofs.YtkblaobhhoebaaaGreat.Abs
namespace Go.Proofs.YtkblaobhhoebaaaGreat.Abs
open Go.RowKit
end Go.Proofs.YtkblaobhhoebaaaGreat.Abs
namespace Go.Proofs.YtkblaobhhoebaaaGreat.Abs
section
variable {P:Program} {c:Ctx} {st:AS} {ty:TypeId}
theorem Aio {xt:TypeId} {x:Operand} {n:Int} (hu:P.underlying xt=some (.int .i64)) (hx:Cs st x=.s (.one (.i .i64 n))):OpV P c st (.makeInterface xt x) ty (.s (.one (.raw (.iface xt (.int .i64 n))))):=by
 intro a w S H r
 have h1:=Bw r x
 rw [hx] at h1
 have e1:a.eval x=.int .i64 n:=Ta h1
 exact ⟨.iface xt (.int .i64 n),Jq (.raw _ rfl),fun _ _ _ _=>by simp [execOp,e1,Instr.makeInterface,run_underlying hu]⟩
end
theorem ccI {P:Program} {c:Ctx} {x y:Code} {o:Operand} {t:Nat→AV} {m:List Blk} {Q:Exit→AS→Prop} {b:Bool} {α:Type} {u v:Option α} {r:α} (h:(if b then u else v)=some r) (ho:Cs ⟨t,m⟩ o=.s (.one (.b b)))
  (h1:u=some r→AWC P c x Q ⟨t,m⟩) (h0:v=some r→AWC P c y Q ⟨t,m⟩):AWC P c (.cond o x y) Q ⟨t,m⟩:=Ci ho (fun hc=>h1 (Su hc h)) (fun hc=>h0 (S6 hc h))
theorem Ahm {P:Program} {f:FuncId} {x y:Value} {r:Lf} {v:Value} (hr:∀ w S,Rep w S r v) (h:∀ w,Calls P f #[x,y] w fun e w'=>e=.returned v∧w'=w):Br P f [.one (.raw x),.one (.raw y)] (·=.s (.one r)):=by
 intro w S vs hS hv
 have hvs:vs = #[x,y]:=by
  obtain ⟨l⟩:=vs
  obtain ⟨hl,hg⟩:=hv
  match l,hl with
  | [v1,v2],_ =>
   have g1:Rep w S (.raw x) v1:=hg 0 _ v1 rfl rfl
   have g2:Rep w S (.raw y) v2:=hg 1 _ v2 rfl rfl
   cases g1;cases g2;rfl
 subst hvs
 refine (h w).mono ?_
 rintro e w' ⟨rfl,rfl⟩
 exact ⟨v,_,S,rfl,rfl,Ext.refl _ _,hS,hr _ _⟩
end Go.Proofs.YtkblaobhhoebaaaGreat.Abs
namespace Go.Proofs.YtkblaobhhoebaaaGreat.Abs
open Go.RowKit
def Axb (st:AS):Op→Option SV
 | .move x=>match Cs st x with
  | .s v=>some v
  | _=>none
 | .assign x=>match Cs st x with
  | .s v=>some v
  | _=>none
 | .pick b x y=>match Cs st b with
  | .s (.one (.b true))=>match Cs st x with
   | .s v=>some v
   | _=>none
  | .s (.one (.b false))=>match Cs st y with
   | .s v=>some v
   | _=>none
  | _=>none
 | _=>none
theorem An0 {P:Program} {c:Ctx} {st:AS} {op:Op} {ty:TypeId} {v:SV} (h:Axb st op=some v):OpV P c st op ty (.s v):=by
 unfold Axb at h
 split at h
 ·split at h
  ·rename_i hx;cases h;exact A4 hx
  ·cases h
 ·split at h
  ·rename_i hx;cases h;exact Iu hx
  ·cases h
 ·split at h
  ·rename_i hb
   split at h
   ·rename_i hx;cases h;exact Er hb hx
   ·cases h
  ·rename_i hb
   split at h
   ·rename_i hx;cases h;exact Hq hb hx
   ·cases h
  ·cases h
 ·cases h
def Amr (nt:Nat) (m:List Blk) (ops:Array Oper):Nat→List Oper→(Nat→AV)→Option (List Oper × (Nat→AV))
 | 0,l,t=>some (l,t)
 | n+1,l,t=>match l with
  | []=>none
  | o::rest=>match o with
   | ⟨some d,op,_,_,_,g⟩=>match decide (d<nt) with
    | true=>match g with
     | none=>match Axb ⟨t,m⟩ op with
      | some v=>Amr nt m ops n rest (upd t d (.s v))
      | none=>none
     | some (j,want)=>match (ops[j]?).bind (·.dst) with
      | some dj=>match t dj with
       | .s (.one (.b b))=>match b == want with
        | false=>Amr nt m ops n rest (upd t d (.tup []))
        | true=>match decide (dj<nt) with
         | true=>match Axb ⟨t,m⟩ op with
          | some v=>Amr nt m ops n rest (upd t d (.s v))
          | none=>none
         | false=>none
       | _=>none
      | none=>none
    | false=>none
   | _=>none
theorem rm {P:Program} {c:Ctx} {m:List Blk} {ops:Array Oper} {Q:Exit→AS→Prop} (n:Nat) {l l':List Oper} {t t':Nat→AV} (h:Amr c.nt m ops n l t=some (l',t')) (k:AWL P c ops Q l' ⟨t',m⟩):AWL P c ops Q l ⟨t,m⟩:=by
 induction n generalizing l t with
 | zero=>cases h;exact k
 | succ n ih =>
  unfold Amr at h
  split at h
  ·cases h
  split at h
  ·rename_i rest d op ty pos af g
   split at h
   ·rename_i hd
    split at h
    ·split at h
     ·rename_i v hv
      exact sv hd (An0 hv) (ih h)
     ·cases h
    ·rename_i j want
     split at h
     ·rename_i dj hj
      split at h
      ·rename_i b ht
       split at h
       ·rename_i hb
        exact A1a hd hj ht hb (ih h)
       ·rename_i hb
        split at h
        ·rename_i hn
         split at h
         ·rename_i v hv
          have hb:b=want:=by simpa using hb
          subst hb
          exact son hn hj ht (sv hd (An0 hv) (ih h))
         ·cases h
        ·cases h
      ·cases h
     ·cases h
   ·cases h
  ·cases h
theorem dnT {P:Program} {fn:Func} {R:AV→Prop} {st:AS} {t:Tmp} {x:SV} (hr:fn.results.toList=[.tmp t]) (hx:st.t t=.s x) (hp:x.cells.all Lf.pubd=true) (hR:R (.s x)):Aqv P fn R .ret st :=
 ⟨Or.inr rfl,[x],[x],st.m,by rw [hr];exact Ad (.tmp _ _ hx) Ai,An (by simpa using hp),hR⟩
theorem dnA {P:Program} {fn:Func} {R:AV→Prop} {st:AS} {t:Tmp} {ty:TypeId} {sz:Nat} {l:Lf} {cs:List Lf} (hr:fn.results.toList=[.cell t ty]) (ti:TI P ty true sz) (ht:st.t t=.s (.one l)) (hp:Aa9 st l cs) (hy:sz≤cs.length) (hb:(cs.take sz).all Lf.pubd=true) (hR:R (.s (.agg (cs.take sz)))):Aqv P fn R .ret st :=
 ⟨Or.inr rfl,[.agg (cs.take sz)],[.agg (cs.take sz)],st.m,by rw [hr];exact Ad (.agg _ _ _ _ _ ti ht hp hy) Ai,An (by simpa [SV.cells] using hb),hR⟩
theorem evs {α:Prop} {md:List Blk} {all:List (List Blk)} (k:Zm md all→α) (h:Zm md all):α:=k h
section
variable {P:Program} {c:Ctx} {t:Nat→AV} {m:List Blk} {ops:Array Oper} {Q:Exit→AS→Prop} {rest:List Oper} {ty ty':TypeId} {pos pos':String} {af af':Array Edge} {d e:Tmp}
theorem csr {id:Nat} {l:List Oper} {y:Code} (h:AWL P c l.toArray (O4 (AWC P c y Q) Q) l ⟨t,m⟩):AWC P c (.seq (.region id l.toArray false) y) Q ⟨t,m⟩:=Bl (Aq h)
theorem fl {s f off:Nat} {x y:Operand} {p o q:Nat} {T:TypeId} {cs:List Lf} {z:Lf} (fi:FI P s f off) (ti:TI P T false 1) (h1:decide (d<c.nt)=true) (hx:Cs ⟨t,m⟩ x=.s (.one (.lp p o))) (h2:decide (e<c.nt)=true) (hy:Cs ⟨upd t d (.s (.one (.lp p (o+off)))),m⟩ y=.s (.one (.lp p q))) (hm:m[p]? = some (.box cs)) (hz:(cs.drop q)[0]? = some z)
  (k:AWL P c ops Q rest ⟨upd (upd t d (.s (.one (.lp p (o+off))))) e (.s (.one z)),m⟩):AWL P c ops Q (⟨some d,.fieldAddr s x f,ty,pos,af,none⟩::⟨some e,.load T y,ty',pos',af',none⟩::rest) ⟨t,m⟩ :=
 sv h1 (Ac fi hx) (sv h2 (B6 ti hy (.lp _ _ _ hm) hz) k)
end
end Go.Proofs.YtkblaobhhoebaaaGreat.Abs
namespace Go.Proofs.YtkblaobhhoebaaaGreat.Abs
open Go.RowKit
theorem Rel.other {c:Ctx} {st:AS} {a:Act} {w w':World} {S S':Cg} {H:Nat→Value} (r:Rel c st a w S H) (G:Nat)
  (hG:∀ (p:Nat) (b:Blk),st.m[p]? = some b→b.own (H p)≠some G) (hG0:c.w0.heap.size≤G)
  (hk:∀ b i,S b i→S' b i∧w'.cell? ⟨b,i,none⟩=w.cell? ⟨b,i,none⟩)
  (hb:∀ g,g<w.heap.size→g≠G→w'.heap[g]? = w.heap[g]?) (hback:∀ b i,b<w.heap.size→S' b i→S b i) (hS:InH w' S')
  (hsz:w.heap.size≤w'.heap.size) (hos:w'.os=w.os) (htp:w'.tape=w.tape) (hou:w'.output=w.output):Rel c st a w' S' H:=by
 have hg:∀ l v,Cj w S st.m H l v→Cj w' S' st.m H l v:=fun l v=>Cj.mono hk (zN _) (fun _ _=>rfl) (fun p e sz k cs _ hm=>⟨k,cs,hm,rfl⟩)
 have hsame:∀ (p:Nat) (b:Blk) (g:Nat),st.m[p]? = some b→b.own (H p)=some g→w'.heap[g]? = w.heap[g]? := fun p b g h1 h2 =>
  hb g (r.lo p b g h1 h2).2 fun e=>hG p b h1 (e ▸ h2)
 refine ⟨r.nt,r.df,fun i=>AVR.mono hg (r.tm i),fun p b hbb=>?_,fun p b g hb' ho=>?_,r.inj,fun p b g i hb' ho hs=>?_,hS,?_,r.kl,r.kh,r.kr,r.ku⟩
 ·have hr:=r.bl p b hbb
  have hbo:=hsame p b
  cases b with
  | dead=>trivial
  | hole=>exact hr
  | obj g mk cs =>
   obtain ⟨h1,vs,o,h2,h3,h4,h5⟩:=hr
   exact ⟨h1,vs,o,(hbo g hbb (by rw [h1];rfl)).trans h2,h3,h4,h5.mono (fun l v=>Rep.mono hk)⟩
  | tab mk cs =>
   obtain ⟨g,h1,vs,o,h2,h3,h4,h5⟩:=hr
   exact ⟨g,h1,vs,o,(hbo g hbb (by rw [h1];rfl)).trans h2,h3,h4,h5.mono (fun l v=>Rep.mono hk)⟩
  | box cs =>
   obtain ⟨g,e,cur,h1,h2,h3⟩:=hr
   exact ⟨g,e,cur,h1,(hbo g hbb (by rw [h1];rfl)).trans h2,h3.mono hg⟩
  | arr e sz k cs =>
   obtain ⟨h0,hk1,n,vals,h1,h2,h3⟩:=hr
   exact ⟨h0,hk1,n,vals,Ij h1 (fun g hgo=>hbo g hbb hgo),h2.mono (fun l v=>Rep.mono hk),fun g hgo i hi=>(hk g i (h3 g hgo i hi)).1⟩
 ·have:=r.lo p b g hb' ho
  exact ⟨this.1,zU this.2 hsz⟩
 ·exact r.sb p b g i hb' ho (hback g i (r.lo p b g hb' ho).2 hs)
 ·have x:=r.ex
  have hlt:∀ b,b<c.w0.heap.size→b<w.heap.size:=fun b h=>zU h x.size
  exact ⟨hos.trans x.os,htp.trans x.tape,hou.trans x.output,yO x.size hsz,
   fun b hb1 hX=>(hb b (hlt b hb1) fun e=>by omega).trans (x.blk b hb1 hX),fun b i hs=>(hk b i (x.sub b i hs)).1,
   fun b i hs=>(hk b i (x.sub b i hs)).2.trans (x.stab b i hs),fun b i hb1 hX hs=>x.back b i hb1 hX (hback b i (hlt b hb1) hs)⟩
def Ajf (c:Ctx):Prop:=(∀ g,¬ c.X g)∧∀ g i,c.S0 g i→c.w0.cell? ⟨g,i,none⟩≠none
theorem Rel.mark_new {c:Ctx} {st:AS} {a:Act} {w:World} {S:Cg} {H:Nat→Value} (r:Rel c st a w S H) (hJ:Ajf c) {g i:Nat} (hs:S g i) (hc:w.cell? ⟨g,i,none⟩=none):c.w0.heap.size≤g:=by
 rcases zO g c.w0.heap.size with h | h
 ·have h0:=r.ex.back g i h (hJ.1 g) hs
  rw [r.ex.stab g i h0] at hc
  exact absurd hc (hJ.2 g i h0)
 ·exact h
theorem Rel.mark_own {c:Ctx} {st:AS} {a:Act} {w:World} {S:Cg} {H:Nat→Value} (r:Rel c st a w S H) {g i:Nat} (hs:S g i) (hc:w.cell? ⟨g,i,none⟩=none) (p:Nat) (b:Blk) (hb:st.m[p]? = some b):b.own (H p)≠some g :=
 fun ho=>Adv (r.bl p b hb) ho (r.sb p b g i hb ho hs) hc
theorem Rel.appendJ {P:Program} {c:Ctx} {st:AS} {a:Act} {w:World} {S:Cg} {H:Nat→Value} (r:Rel c st a w S H) (hJ:Ajf c) {t t2 ty e:TypeId} {sz bytes:Nat} {zl:List Lf} {n m:Nat} {ys:List Lf} {v0 y:Value} {news:List Value}
  (ht:P.underlying t=some (.slice e)) (ei:EI P e sz bytes zl) (h2:NI P t2) (hv0:Rep w S (.jk e sz n) v0) (hs:Src P w y sz m news) (hy:ys.length=m*sz) (hls:LsR (Rep w S) ys news)
  (h63:n+m≤maxLen) (hb:(n+m)*bytes≤140737488355328) :
  ∃ v' w' S',(Builtin.append_ #[t,t2] ty #[v0,y]).run P w=.ok v' w'∧Rel c st a w' S' H∧Rep w' S' (.jk e sz (n+m)) v':=by
 obtain ⟨i,z,hi,hz,hsize,hbytes,hzs,hzl,hzo⟩:=ei.h
 have hsz:=ei.p
 have hnl:news.length=m*sz:=by rw [← hls.1,hy]
 have hone:∀ u ∈ news,u.oneCell'=true:=by
  intro u hu
  obtain ⟨j,hj,hju⟩:=yR hu
  have hj':j<ys.length:=by rw [hls.1];exact hj
  exact Rep.oneCell (hls.2 j _ u (zB hj') (by rw [zB hj,hju]))
 subst hsize
 subst hbytes
 have h63':((n+m:Nat):Int)≤9223372036854775807:=by simp only [maxLen] at h63;omega
 have grow:∀ (cells:Array Value) (cap:Nat),n+m≤cap→cap≤maxLen→cells.size=cap*i.size →
   ∃ S',Rel c st a (w.drew.alloc (.cells cells e)) S' H∧Rep (w.drew.alloc (.cells cells e)) S' (.jk e i.size (n+m)) (.slice (some ⟨w.heap.size,0,none⟩) (n+m) cap):=by
  intro cells cap h1 h2 h3
  have hfr:=r.fresh (g:=w.heap.size) (zN _)
  have hnew:(w.drew.alloc (.cells cells e)).heap[w.heap.size]? = some (.cells cells e):=heap_alloc_new w.drew _
  have hold:∀ g,g<w.heap.size→(w.drew.alloc (.cells cells e)).heap[g]? = w.heap[g]? := fun g hg=>Below.heap_alloc w.drew _ g hg
  have hcn:∀ j,(w.drew.alloc (.cells cells e)).cell? ⟨w.heap.size,j,none⟩=cells[j]? := fun j=>by
   unfold World.cell?
   rw [show (w.drew.alloc (.cells cells e)).heap[(⟨w.heap.size,j,none⟩:Addr).block]? = some (.cells cells e) from hnew]
   rfl
  have hmk:(w.drew.alloc (.cells cells e)).cell? ⟨w.heap.size,Ve cells.size e,none⟩=none:=by
   rw [hcn];exact xS (Am5 _ _)
  have hk:∀ b j,S b j→(S b j∨(b=w.heap.size∧j=Ve cells.size e))∧(w.drew.alloc (.cells cells e)).cell? ⟨b,j,none⟩=w.cell? ⟨b,j,none⟩ :=
   fun b j h=>⟨.inl h,World.cell?_of_block (a:=⟨b,j,none⟩) (hold b (r.sl.1 b j h))⟩
  refine ⟨fun b j=>S b j∨(b=w.heap.size∧j=Ve cells.size e),?_,?_⟩
  ·refine r.other w.heap.size (fun p b hb=>hfr.1 p b hb) r.ex.size hk (fun g hg _=>hold g hg) (fun b j hb' hs'=>?_) ⟨fun b j hs'=>?_,r.sl.2.1.mono hk,?_⟩ (by simp) rfl rfl rfl
   ·rcases hs' with hs' | hs'
    ·exact hs'
    ·omega
   ·rcases hs' with hs' | hs'
    ·have:=r.sl.1 b j hs';simp;omega
    ·rw [hs'.1];simp
   ·intro g j hs' hc'
    rcases hs' with hs' | ⟨rfl,rfl⟩
    ·rw [(hk g j hs').2] at hc'
     obtain ⟨⟨cur,e',q1,q2⟩,q3⟩:=r.sl.2.2 g j hs' hc'
     have hlt:=r.sl.1 g j hs'
     refine ⟨⟨cur,e',(hold g hlt).trans q1,q2⟩,fun j' hj'=>?_⟩
     rcases hj' with hj' | hj'
     ·exact (hk g j' hj').2.trans (q3 j' hj')
     ·omega
    ·refine ⟨⟨cells,e,hnew,rfl⟩,fun j' hj'=>?_⟩
     rcases hj' with hj' | hj'
     ·exact absurd hj' (hfr.2 j')
     ·rw [hj'.2];exact hmk
  ·refine .jk e i.size (n+m) w.heap.size cap h1 h2 ?_
   rw [← h3]
   exact ⟨.inr ⟨rfl,rfl⟩,hmk⟩
 have mkcells:∀ (olds:List Value) (old:Nat),olds.length=n*i.size →
   (olds.toArray++news.toArray++Builtin.zeroCells z.cells (grownCap w (n+m) old e-(n+m))).size=grownCap w (n+m) old e*i.size:=fun olds old ho=>by
  have hge:=grownCap_ge w (n+m) old e
  simp only [yU,yB,size_zeroCells,hzs,ho,hnl,← xP]
  congr 1
  omega
 by_cases hm0:m=0
 ·subst hm0
  have h1:news=[]:=zZ (by rw [hnl,wU])
  subst h1
  refine ⟨v0,w,S,?_,r,hv0⟩
  cases hv0 with
  | jk0=>exact Rr (n:=0) ht hi rfl h2 hs (zN _)
  | jk _ _ _ g cap hn hm hsj=>exact Rr ht hi rfl h2 hs hn
 cases hv0 with
 | jk0 =>
  obtain ⟨S',hr,hp⟩:=grow (([]:List Value).toArray++news.toArray++Builtin.zeroCells z.cells (grownCap w (0+m) 0 e-(0+m))) (grownCap w (0+m) 0 e) (grownCap_ge w _ 0 e) (grownCap_le_maxLen w _ 0 e h63) (mkcells [] 0 (by simp))
  exact ⟨_,_,S',Rq (n:=0) (cap:=0) ht hi hz h2 hs (fun w1 _=>by simp [Builtin.firstCells]) (by omega) h63' (growslice_fits (by omega) hb),hr,hp⟩
 | jk _ _ _ g cap hn hm hsj =>
  obtain ⟨⟨cur,e',q1,q2⟩,q3⟩:=r.sl.2.2 g _ hsj.1 hsj.2
  obtain ⟨q4,q5⟩:=Aki q2
  subst q5
  have hmn:=r.mark_new hJ hsj.1 hsj.2
  have hmo:=r.mark_own hsj.1 hsj.2
  by_cases hroom:n+m≤cap
  ·have hfit:n*i.size+news.length≤cur.size:=by rw [hnl,← q4,← xP];exact xC _ hroom
   have hrun:=Yi (ty:=ty) (n:=n) (cap:=cap) ht hi h2 hs q1 hone hroom hfit
   have hrow:=setRow_heap w g cur (cur.toList.take (n*i.size)++news++cur.toList.drop (n*i.size+news.length)).toArray e _ q1
   have hoth:∀ q,q≠g→(w.setRow g (cur.toList.take (n*i.size)++news++cur.toList.drop (n*i.size+news.length)).toArray).heap[q]? = w.heap[q]? := fun q hq=>setRow_other w g q _ hq
   have hcs:(cur.toList.take (n*i.size)++news++cur.toList.drop (n*i.size+news.length)).toArray.size=cur.size:=by
    simp only [yB,zH,zL,yD,yC];omega
   have hk:∀ b j,S b j→S b j∧(w.setRow g (cur.toList.take (n*i.size)++news++cur.toList.drop (n*i.size+news.length)).toArray).cell? ⟨b,j,none⟩=w.cell? ⟨b,j,none⟩:=by
    intro b j hS
    refine ⟨hS,?_⟩
    by_cases hbg':b=g
    ·subst hbg'
     have hnone:=q3 j hS
     rw [hnone,cell_of_row _ b j _ e (0,0) hrow]
     rw [cell_of_row w b j cur e (0,0) q1] at hnone
     rw [Array.getElem?_eq_none_iff] at hnone ⊢
     rw [hcs];exact hnone
    ·exact World.cell?_of_block (w:=w) (hoth b hbg')
   refine ⟨_,_,S,hrun,?_,.jk e i.size (n+m) g cap hroom hm ⟨hsj.1,(hk g _ hsj.1).2.trans hsj.2⟩⟩
   refine r.other g hmo hmn hk (fun q _ hne=>hoth q hne) (fun _ _ _ h=>h) ⟨fun b j hs'=>by simp;exact r.sl.1 b j hs',r.sl.2.1.mono hk,?_⟩ (by simp) rfl rfl rfl
   intro g' j hs' hc'
   rw [(hk g' j hs').2] at hc'
   obtain ⟨⟨cur',e'',p1,p2⟩,p3⟩:=r.sl.2.2 g' j hs' hc'
   refine ⟨?_,fun j' hj'=>(hk g' j' hj').2.trans (p3 j' hj')⟩
   by_cases hgg:g'=g
   ·subst hgg
    rw [q1] at p1
    cases p1
    exact ⟨_,_,hrow,by rw [hcs];exact p2⟩
   ·exact ⟨cur',e'',(hoth g' hgg).trans p1,p2⟩
  ·have ho:∀ w1:World,(∀ a,w1.cell? a=w.cell? a)→(Builtin.firstCells i.size n (.slice (some ⟨g,0,none⟩) n cap)).run P w1=.ok (cur.toList.take (n*i.size)).toArray w1:=fun w1 hw1=>by
    have hle:n*i.size≤cur.size:=by rw [← q4];exact xC _ hn
    refine run_firstCells_some w1 i.size n ⟨g,0,none⟩ n cap _ (by rw [zL,yC];omega) fun j v hv'=>?_
    rw [hw1,Addr.add_lit,yH,cell_of_row w g j cur e (0,0) q1]
    rw [yN] at hv'
    split at hv'
    ·simpa using hv'
    ·cases hv'
   have hle:n*i.size≤cur.size:=by rw [← q4];exact xC _ hn
   obtain ⟨S',hr,hp⟩:=grow ((cur.toList.take (n*i.size)).toArray++news.toArray++Builtin.zeroCells z.cells (grownCap w (n+m) cap e-(n+m))) (grownCap w (n+m) cap e) (grownCap_ge w _ cap e) (grownCap_le_maxLen w _ cap e h63) (mkcells _ cap (by rw [zL,yC];omega))
   exact ⟨_,_,S',Rq (ty:=ty) ht hi hz h2 hs ho (by omega) h63' (growslice_fits (by omega) hb),hr,hp⟩
def Ail (w:World) (S:Cg):Cg:=fun b i=>S b i∧w.cell? ⟨b,i,none⟩≠none
def NJ (l:Lf):Prop:=∀ w S v,Rep w S l v→Rep w (Ail w S) l v
theorem A0n {k:IntKind} {n:Int}:NJ (.i k n):=fun w S v h=>by cases h;exact .i _ _
theorem A1d {x:Bool}:NJ (.b x):=fun w S v h=>by cases h;exact .b _
theorem Azl {n:Nat} {cs:List Lf} (h:∀ l ∈ cs,NJ l):NJ (.sl n cs):=fun w S v hv=>by
 cases hv with
 | sl0 a cap=>exact .sl0 a cap
 | sl n cs bk off cap vals hc hm hs hr =>
  exact .sl n cs bk off cap vals hc hm (fun j l hl=>⟨⟨(hs j l hl).1,by rw [(hs j l hl).2];exact fun h=>by cases h⟩,(hs j l hl).2⟩) (fun j l hl=>h l (zI hl) w S _ (hr j l hl))
theorem Anl {α:Type} {f:α→List Lf} (h:∀ x,∀ l ∈ f x,NJ l) {n:Nat} {xs:List α}:NJ (.sl n (xs.flatMap f)):=Azl fun l hl=>by
 obtain ⟨x,_,h2⟩:=j2.1 hl
 exact h x l h2
theorem Ay6 (x:UInt8):∀ l ∈ eU8 x,NJ l:=fun l h=>by
 rw [show l=_ from zW.1 h];exact A0n
def NJs (x:SV):Prop:=∀ l ∈ x.cells,NJ l
theorem Amv {P:Program} {f:FuncId} {fn:Func} {body:Code} {args:List SV} {R:AV→Prop} (hf:P.funcs[f]? = some fn) (hb:fn.body=some body) {nt:Nat} (hnt:fn.ntmps=nt) (hn:args.length≤nt)
  {w:World} {S:Cg} {vs:Array Value} (hS:InH w S) (hv:Xs (Rep w S) args vs.toList) (h:AWC P (Ctx.of w S nt) body (Aqv P fn R) ⟨All args,[]⟩) :
  Calls P f vs w fun e w'=>∃ v x S',e=.returned v∧R x∧Ext w S w' S'∧InH w' S'∧AVR (Rep w' S') x v:=by
 subst hnt
 refine calls_of_wp hf hb ?_
 have hlen:vs.size=args.length:=by have:=hv.1;simp at this;omega
 have hget:∀ i,(vs++Array.replicate (fn.ntmps-vs.size) undef).getD i undef=vs.getD i undef:=by
  intro i
  simp only [zF,kR]
  split
  ·rfl
  ·rename_i hi
   rw [wD]
   have:vs[i]? = none:=xS (by omega)
   rw [this]
   split <;> rfl
 have r0:Rel (Ctx.of w S fn.ntmps) ⟨All args,[]⟩ { tmps:=vs++Array.replicate (fn.ntmps-vs.size) undef,defers:=[] } w S (fun _=>undef):=by
  refine ⟨by simp;omega,rfl,fun i=>?_,fun p b h=>by simp at h,fun p b g h=>by simp at h,fun p q b b' g h=>by simp at h,fun p b g i h=>by simp at h,hS,Vf.refl _ w S,zY _,fun p g h=>absurd h (zT _),fun p e sz k cs h=>absurd h (zT _),fun p h=>absurd h (zT _)⟩
  rw [hget]
  show AVR _ (match args[i]? with | some x=>.s x | none=>.tup []) _
  cases ha:args[i]? with
  | none =>
   have:vs[i]? = none:=xS (by rw [hlen];exact xR.1 ha)
   simp only [zF,this,jG]
   exact I6
  | some x =>
   have hi:i<args.length:=(zC.1 ha).1
   have hi':i<vs.size:=by omega
   have:vs[i]? = some vs[i]:=zP hi'
   simp only [zF,this,yF]
   exact SVR.mono (fun _ _=>Cj.of_rep) (hv.2 i x _ ha (by simp))
 refine wp_mono (h _ _ _ _ r0) ?_
 rintro e a w1 ⟨st,S1,H,r,he,xs,ys,m',hx,hp,hR⟩
 obtain ⟨u,hu,hk⟩:=Vu r hx
 obtain ⟨S2,k2,g2⟩:=hp.keeps r
 have hav:=hk S2 ys g2
 have hfin:∃ v x S',Ending.returned u=.returned v∧R x∧Ext w S w1 S'∧InH w1 S'∧AVR (Rep w1 S') x v:=⟨u,Ac8 ys,S2,rfl,hR,k2.rel.ex.toExt (fun _ h=>h),k2.rel.sl,hav⟩
 rcases he with rfl | rfl
 ·exact ⟨r.df,u,hu,hfin⟩
 ·exact ⟨r.df,u,hu,hfin⟩
theorem Akk {P:Program} {f:FuncId} {fn:Func} {body:Code} {args:List SV} {R:AV→Prop} (hf:P.funcs[f]? = some fn) (hb:fn.body=some body) {nt:Nat} (hnt:fn.ntmps=nt) (hn:args.length≤nt)
  (hJ:∀ x ∈ args,NJs x) (hGL:∀ x ∈ GL,NJ (.cp x.2)) (h:∀ w0 S0,Ajf (Ctx.of w0 S0 nt)→AWC P (Ctx.of w0 S0 nt) body (Aqv P fn R) ⟨All args,[]⟩):Br P f args R:=by
 intro w S vs hS hv
 have hS1:InH w (Ail w S):=⟨fun b i hs=>hS.1 b i hs.1,fun x hx=>hGL x hx w S _ (hS.2.1 x hx),fun g i hs hc=>absurd hc hs.2⟩
 have hv1:Xs (Rep w (Ail w S)) args vs.toList:=⟨hv.1,fun j x v hx hu=>by
  have hr:=hv.2 j x v hx hu
  have hn:=hJ x (zI hx)
  cases x with
  | one l=>exact hn l (zW.2 rfl) w S v hr
  | agg ls =>
   obtain ⟨cs,h1,h2,h3⟩:=hr
   exact ⟨cs,h1,h2,fun k l u hl hk=>hn l (zI hl) w S u (h3 k l u hl hk)⟩⟩
 refine (Amv hf hb hnt hn hS1 hv1 (h w (Ail w S) ⟨fun _ h=>h,fun g i hs=>hs.2⟩)).mono ?_
 rintro e w' ⟨v,x,S',he,hR,hx,hin,hav⟩
 have hlt:∀ g i,S g i→g<w.heap.size:=hS.1
 have hcell:∀ g,g<w.heap.size→∀ i,w'.cell? ⟨g,i,none⟩=w.cell? ⟨g,i,none⟩:=fun g hg i=>World.cell?_of_block (a:=⟨g,i,none⟩) (hx.blk g hg)
 refine ⟨v,x,fun b i=>S' b i∨S b i,he,hR,⟨hx.os,hx.tape,hx.output,hx.size,hx.blk,fun b i hs=>.inr hs,fun b i hb hs=>?_⟩,⟨fun b i hs=>?_,hin.2.1.mono fun b i hs=>⟨.inl hs,rfl⟩,fun g i hs hc=>?_⟩,AVR.mono (fun l v=>Rep.sub fun b i hs=>.inl hs) hav⟩
 ·rcases hs with hs | hs
  ·exact (hx.back b i hb hs).1
  ·exact hs
 ·rcases hs with hs | hs
  ·exact hin.1 b i hs
  ·exact zU (hlt b i hs) hx.size
 ·by_cases hg:g<w.heap.size
  ·have hSg:S g i:=by
    rcases hs with hs | hs
    ·exact (hx.back g i hg hs).1
    ·exact hs
   have hc0:=hc
   rw [hcell g hg] at hc0
   obtain ⟨⟨cur,e',q1,q2⟩,q3⟩:=hS.2.2 g i hSg hc0
   refine ⟨⟨cur,e',(hx.blk g hg).trans q1,q2⟩,fun j hj=>?_⟩
   rw [hcell g hg]
   rcases hj with hj | hj
   ·exact q3 j (hx.back g j hg hj).1
   ·exact q3 j hj
  ·rcases hs with hs | hs
   ·obtain ⟨q1,q2⟩:=hin.2.2 g i hs hc
    refine ⟨q1,fun j hj=>?_⟩
    rcases hj with hj | hj
    ·exact q2 j hj
    ·exact absurd (hlt g j hj) hg
   ·exact absurd (hlt g i hs) hg
section
variable {P:Program} {c:Ctx} {m:List Blk} {t:Nat→AV} {ops:Array Oper} {Q:Exit→AS→Prop} {rest:List Oper} {ty:TypeId} {pos:String} {af:Array Edge} {d:Tmp}
theorem Azs {x y:Operand} {t' t2 e sz bytes n mm:Nat} {zl ys:List Lf} {yv yv':SV} {m':List Blk} (hJ:Ajf c) (hd:decide (d<c.nt)=true) (si:P.underlying t'=some (.slice e)) (ei:EI P e sz bytes zl) (h2:NI P t2) (hx:Cs ⟨t,m⟩ x=.s (.one (.jk e sz n))) (hy:Cs ⟨t,m⟩ y=.s yv)
  (hp:H6 m yv yv' m') (hsrc:Add P yv' sz mm ys) (h:n+mm≤maxLen∧(n+mm)*bytes≤140737488355328)
  (kk:AWL P c ops Q rest ⟨upd t d (.s (.one (.jk e sz (n+mm)))),m'⟩) :
  AWL P c ops Q (⟨some d,.call { callee:=.builtin .append,args:=#[x,y],argTypes:=#[t',t2] },ty,pos,af,none⟩::rest) ⟨t,m⟩:=by
 intro a w S H r
 have hy':=Bw r y
 rw [hy] at hy'
 obtain ⟨S1,k1,g1⟩:=hp.keeps r
 have hyr:=g1 _ hy'
 obtain ⟨news,hs,hyl,hls⟩:=hsrc.src hyr
 have hx':=Bw r x
 rw [hx] at hx'
 have hx2:Rep w S1 (.jk e sz n) (a.eval x):=Rep.sub k1.sub hx'
 obtain ⟨v',w',S',hrun,hrel,hrep⟩:=k1.rel.appendJ (P:=P) (ty:=ty) hJ si ei h2 hx2 hs hyl hls h.1 h.2
 refine wpList_plain rfl fun K hK=>?_
 unfold Oper.wp
 have hrun':(execOp a.eval ⟨some d,.call { callee:=.builtin .append,args:=#[x,y],argTypes:=#[t',t2] },ty,pos,af,none⟩).run P w=.ok (.value v') w':=by
  simp [execOp,resolve,invoke,builtin,hrun]
 rw [hrun']
 exact hK _ _ (kk _ _ _ _ (hrel.put (d:=d) (x:=.s (.one (.jk e sz (n+mm)))) (of_decide_eq_true hd) (show Rep w' S' (.jk e sz (n+mm)) v' from hrep)))
end
end Go.Proofs.YtkblaobhhoebaaaGreat.Abs
namespace Go.Proofs.YtkblaobhhoebaaaGreat.Abs
open Go.RowKit
theorem R.{u} {α:Sort u} {a:α}:a=a:=rfl
section
variable {P:Program} {c:Ctx} {t:Nat→AV} {m:List Blk} {ops:Array Oper} {Q:Exit→AS→Prop} {rest:List Oper} {ty:TypeId} {pos:String} {af:Array Edge} {d:Tmp}
theorem ld {T:TypeId} {sz:Nat} {x:Operand} {p off:Nat} {cs:List Lf} (ti:TI P T true sz) (h1:decide (d<c.nt)=true) (hx:Cs ⟨t,m⟩ x=.s (.one (.lp p off))) (hm:m[p]? = some (.box cs)) (hy:Nat.ble sz (cs.drop off).length=true)
  (k:AWL P c ops Q rest ⟨upd t d (.s (.agg ((cs.drop off).take sz))),m⟩):AWL P c ops Q (⟨some d,.load T x,ty,pos,af,none⟩::rest) ⟨t,m⟩ :=
 sv h1 (Tm ti hx (.lp _ _ _ hm) (wZ hy)) k
theorem sst {t':TypeId} {x y:Operand} {p off sz:Nat} {v:SV} {cs:List Lf} (hi:(P.info? t').map (·.size)=some sz) (hx:Cs ⟨t,m⟩ x=.s (.one (.lp p off))) (hy:Cs ⟨t,m⟩ y=.s v) (hm:m[p]? = some (.box cs))
  (hv:v.cells.length=sz) (hfit:Nat.ble (off+sz) cs.length=true)
  (k:AWL P c ops Q rest ⟨t,m.set p (.box (Nm cs off v.cells))⟩):AWL P c ops Q (⟨none,.store t' x y,ty,pos,af,none⟩::rest) ⟨t,m⟩ :=
 Awe hi hx hy hm hv (wZ hfit) k
theorem ssI {l:List Oper} (dj:Tmp) {b:Bool} {α:Type} {u v:Option α} {r:α} (h:(if b then u else v)=some r) (ht:t dj=.s (.one (.b b))) (k1:u=some r→AWL P c ops Q l ⟨upd t dj (.s (.one (.b true))),m⟩) (k0:v=some r→AWL P c ops Q l ⟨upd t dj (.s (.one (.b false))),m⟩):AWL P c ops Q l ⟨t,m⟩ :=
 Alk dj ht (fun hc=>k1 (Su hc h)) (fun hc=>k0 (S6 hc h))
theorem ra {st:AS} {t:Tmp} {ty:TypeId} {sz:Nat} {p off:Nat} {cs:List Lf} (ti:TI P ty true sz) (h:st.t t=.s (.one (.lp p off))) (hm:st.m[p]? = some (.box cs)) (hy:Nat.ble sz (cs.drop off).length=true):Ai6 P st (.cell t ty) (.agg ((cs.drop off).take sz)) :=
 .agg _ _ _ _ _ ti h (.lp _ _ _ hm) (wZ hy)
theorem rt {st:AS} {t:Tmp} {x:SV} (h:st.t t=.s x):Ai6 P st (.tmp t) x:=.tmp _ _ h
theorem dn {fn:Func} {R':AV→Prop} {st:AS} {xs ys:List SV} {m':List Blk} (hr:Aa2 P st fn.results.toList xs) (hp:Ic st.m xs ys m') (h:R' (Ac8 ys)):Aqv P fn R' .ret st:=⟨Or.inr rfl,xs,ys,m',hr,hp,h⟩
theorem Apz {ws es:List Nat} {all:List (List Blk)} {k:(Nat→AV)→Prop} {i:Nat} {Ms:List (List Blk)} {l:List Oper} (dj:Tmp) {y:AV} (z:AV) (ht:t dj=y) (e:y=z) (kk:DE P c ops ws es all k i Ms l (upd t dj z)):DE P c ops ws es all k i Ms l t:=by
 subst e
 have:upd t dj y=t:=by
  funext j
  rw [Ha]
  split
  ·rename_i h;rw [h,ht]
  ·rfl
 rwa [this] at kk
end
end Go.Proofs.YtkblaobhhoebaaaGreat.Abs
namespace Go.Proofs.YtkblaobhhoebaaaGreat.Abs
open Go.RowKit
def cjB (n:Nat) (sl:List (Nat × AV)) (mm:List Blk):Bool:=(sl.all fun p=>p.2.inbB mm.length) && mm.all (Blk.inbB mm.length) && Nat.ble n mm.length
theorem Aps {n:Nat} {sl:List (Nat × AV)} {mm:List Blk} (h:cjB n sl mm=true):Aod mm.length sl∧(∀ b ∈ mm,b.inb mm.length)∧n≤mm.length:=by
 unfold cjB at h
 simp only [yA] at h
 exact ⟨Zn h.1.1,Rz h.1.2,wZ h.2⟩
section
variable {P:Program} {c:Ctx} {Q Q' Q'':Exit→AS→Prop} {st:AS}
theorem cj {x y:Code} (G:Type) (sl:G→List (Nat × AV)) (mm:G→List Blk) (pre:G→Prop) (hb:∀ g,cjB c.m0.length (sl g) (mm g)=true)
  (hy:∀ g,pre g→AWC P c y Q ⟨Adw (fun _=>.top) (sl g),mm g⟩) (hx:AWC P c x (O4 (Auc sl mm pre) Q') st):AWC P c x (O4 (AWC P c y Q) Q') st :=
 Axt G sl mm pre (fun g _=>(Aps (hb g)).1) (fun g _=>(Aps (hb g)).2.1) (fun g _=>(Aps (hb g)).2.2) hy hx
theorem cj3 {x y z:Code} (G:Type) (sl:G→List (Nat × AV)) (mm:G→List Blk) (pre:G→Prop) (hb:∀ g,cjB c.m0.length (sl g) (mm g)=true)
  (hy:∀ g,pre g→AWC P c z Q ⟨Adw (fun _=>.top) (sl g),mm g⟩) (hx:AWC P c x (O4 (AWC P c y (O4 (Auc sl mm pre) Q'')) Q') st):AWC P c x (O4 (AWC P c y (O4 (AWC P c z Q) Q'')) Q') st :=
 Avm G sl mm pre (fun g _=>(Aps (hb g)).1) (fun g _=>(Aps (hb g)).2.1) (fun g _=>(Aps (hb g)).2.2) hy hx
theorem lpo {body:Code} {G:Type} (sl:G→List (Nat × AV)) (mm:G→List Blk) (pre:G→Prop) (μ:G→Nat) (g0:G) (p0:pre g0) (s0:W7 st.t (sl g0)) (ex:List Blk) (m0:st.m=mm g0++ex) (hb:∀ g,cjB c.m0.length (sl g) (mm g)=true)
  (round:∀ g,pre g→AWC P c body (O4 (fun st'=>∃ g' ex',pre g'∧W7 st'.t (sl g')∧st'.m=mm g'++ex'∧μ g'<μ g) Q) ⟨Adw (fun _=>.top) (sl g),mm g⟩):AWC P c (.loop body) Q st :=
 Aqa sl mm pre μ g0 p0 s0 ex m0 (fun g _=>(Aps (hb g)).1) (fun g _=>(Aps (hb g)).2.1) (fun g _=>(Aps (hb g)).2.2) round
theorem lo {ty t:TypeId} {sz:Nat} {x:Operand} {p off:Nat} {cs:List Lf} (ti:TI P t true sz) (hx:Cs st x=.s (.one (.lp p off))) (hm:st.m[p]? = some (.box cs)) (hy:Nat.ble sz (cs.drop off).length=true):OpV P c st (.load t x) ty (.s (.agg ((cs.drop off).take sz))) :=
 Tm ti hx (.lp _ _ _ hm) (wZ hy)
theorem l1 {ty t:TypeId} {x:Operand} {p off:Nat} {cs:List Lf} {y:Lf} (ti:TI P t false 1) (hx:Cs st x=.s (.one (.lp p off))) (hm:st.m[p]? = some (.box cs)) (hy:(cs.drop off)[0]? = some y):OpV P c st (.load t x) ty (.s (.one y)) :=
 B6 ti hx (.lp _ _ _ hm) hy
end
end Go.Proofs.YtkblaobhhoebaaaGreat.Abs
