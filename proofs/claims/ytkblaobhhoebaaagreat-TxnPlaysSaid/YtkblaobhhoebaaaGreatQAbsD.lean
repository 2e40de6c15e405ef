/-
  A walk over abstract states: its rules, part D.
-/
import Derived.Test.YtkblaobhhoebaaaGreatQAbsC
import Derived.Test.YtkblaobhhoebaaaGreatQAbsB
set_option linter.unusedVariables false
set_option linter.unusedSimpArgs false
namespace Go.Proofs.YtkblaobhhoebaaaGreat.Abs
open Go.RowKit
variable {T:TT} [TX T] {P:Program} [Inf P]
section
variable {fr:Fr T} {d:Nat} {x:SX T} {S:Dx} {t:Tc} {R α:Type} {w:World} {st:XS T} {K:XS T->Option R} {v:den T t}
def asC:(t:Tc)->X T->Option (den T t)
 | .int k,x=>asI k x
 | .bool,x=>asB x
 | .str,x=>Al0 x
 | .sl t,x=>A5d t x
 | .u8,x=>Az7 x
 | .st _,_=>none
def At7 (T:TT):(t:Tc)->den T t->SV
 | .st n,v=>.agg (T.enc n v)
 | .int k,v=>.one (.i k v)
 | .u8,v=>.one (.i .u8 (UInt8.toNat v:Int))
 | .bool,v=>.one (.b v)
 | .str,v=>.one (.s v)
 | .sl t,v=>.one (.sl (List.length v) (List.flatMap (Oy T t) v))
def A8o:(t:Tc)->den T t->SX T
 | .st n,v=>.agg (TX.cells n v)
 | .int k,v=>.one (.lf (.i k v))
 | .u8,v=>.one (.u8 v)
 | .bool,v=>.one (.lf (.b v))
 | .str,v=>.one (.lf (.s v))
 | .sl t,v=>.one (.row t v)
theorem Avw (L:Nat->Nat) (t:Tc) (v:den T t):(A8o t v).toSV L=At7 T t v:=by
 cases t <;> first|rfl|exact congrArg SV.agg (TX.cells_ok _ _ _)
def A4f (f:X T->Option α):SX T->Option α
 | .one x=>f x
 | .agg _=>none
def A2f:(t:Tc)->SX T->Option (den T t)
 | .st n,x=>match x with
  | .agg xs=>TX.dec n xs
  | .one _=>none
 | .int k,x=>A4f (asC (.int k)) x
 | .u8,x=>A4f (asC .u8) x
 | .bool,x=>A4f (asC .bool) x
 | .str,x=>A4f (asC .str) x
 | .sl t,x=>A4f (asC (.sl t)) x
inductive Qz:SV->SV->Prop
 | one {l l':Lf} (h:Yj l l'):Qz (.one l) (.one l')
 | agg {ls ls':List Lf} (h:Tv ls ls'):Qz (.agg ls) (.agg ls')
theorem Qz.rep {x y:SV} {v:Value} (h:Qz x y) (r:SVR (Rep w S) x v):SVR (Rep w S) y v:=by
 cases h with
 | one h=>exact h.rep r
 | agg h=>obtain⟨cs,rfl,hl⟩:=r;exact⟨cs,rfl,h.rep hl⟩
omit [TX T] in
theorem A45 {x:X T} (L:Nat->Nat) (h:asC t x=some v):Qz (.one (x.toLf L)) (At7 T t v):=by
 cases t with
 | int k=>have e:=Azn (v:=v) L h;rw[e];exact .one (.refl _)
 | sl t=>exact .one (Aoz (v:=v) L h)
 | bool =>
  change asB x=some v at h
  unfold asB at h
  split at h
  ·cases h;exact .one (.refl _)
  ·cases h
 | str =>
  change Al0 x=some v at h
  unfold Al0 at h
  split at h
  ·cases h;exact .one (.refl _)
  ·cases h
 | u8 =>
  change Az7 x=some v at h
  unfold Az7 at h
  split at h
  ·cases h;exact .one (.refl _)
  ·cases h
 | st n=>cases h
omit [TX T] in
theorem A3c (L:Nat->Nat) (h:A4f (asC t) x=some v):Qz (x.toSV L) (At7 T t v):=by
 cases x with
 | one x=>exact A45 L h
 | agg xs=>cases h
theorem Aom (L:Nat->Nat) (h:A2f t x=some v):Qz (x.toSV L) (At7 T t v):=by
 cases t <;> simp only[A2f] at h <;> first|exact A3c L h|skip
 split at h
 ·exact .agg (TX.dec_ok L h)
 ·cases h
def Vv (T:TT):List Tc->Type
 | []=>Unit
 | t::ts=>den T t×Vv T ts
def Ym (T:TT):(ts:List Tc)->Vv T ts->List SV
 | [],_=>[]
 | t::ts,v=>At7 T t v.1::Ym T ts v.2
def Anx:(ts:List Tc)->List (SX T)->Option (Vv T ts)
 | [],[]=>some ()
 | t::ts,x::xs=>(A2f t x).bind λv=>(Anx ts xs).bind λvs=>some (v,vs)
 | _,_=>none
def Ag0:(ts:List Tc)->Vv T ts->List (SX T)
 | [],_=>[]
 | t::ts,v=>A8o t v.1::Ag0 ts v.2
theorem Ya (L:Nat->Nat):∀ (ts:List Tc) (v:Vv T ts),(Ag0 ts v).map (SX.toSV L)=Ym T ts v
 | [],_=>rfl
 | t::ts,v=>by show(A8o t v.1).toSV L::_=_;rw[Avw,Ya L ts v.2];rfl
def Ayg (ts:List Tc) (v:Vv T ts):VX T:=match Ag0 ts v with
 | [x]=>.s x
 | xs=>.tup xs
inductive Mh:List SV->List SV->Prop
 | nil:Mh [] []
 | cons {x y:SV} {xs ys:List SV} (h:Qz x y) (t:Mh xs ys):Mh (x::xs) (y::ys)
theorem Mh.rep {xs ys:List SV} {vs:List Value} (h:Mh xs ys) (r:Abx (Rep w S) xs vs):Abx (Rep w S) ys vs:=by
 induction h generalizing vs with
 | nil=>exact r
 | @cons x y xs ys h t ih =>
  cases vs with
  | nil=>have:=r.1;simp at this
  | cons v vs =>
   have:=ih (vs:=vs) ⟨by have:=r.1;simpa using this,λj l v h1 h2=>r.2 (j+1) l v (by simpa using h1) (by simpa using h2)⟩
   refine⟨by simp [this.1],λj l v h1 h2=>?_⟩
   cases j with
   | zero=>simp at h1 h2;subst h1;subst h2;exact h.rep (r.2 0 _ _ rfl rfl)
   | succ j=>exact this.2 j l v (by simpa using h1) (by simpa using h2)
theorem X2 (L:Nat->Nat):∀ {ts:List Tc} {xs:List (SX T)} {v:Vv T ts},Anx ts xs=some v->Mh (xs.map (SX.toSV L)) (Ym T ts v)
 | [],[],v,_=>.nil
 | [],x::xs,v,h=>by cases h
 | t::ts,[],v,h=>by cases h
 | t::ts,x::xs,v,h=>by
  obtain⟨u,hu,h⟩:=Ap h
  obtain⟨us,hus,h⟩:=Ap h
  cases h
  exact .cons (Aom L hu) (X2 L hus)
structure Am3 (T:TT) [TX T] (P:Program) where
 f:Nat
 A:List Tc
 R:List Tc
 ρ:Type
 tup:ρ->Vv T R
 model:Vv T A->Option ρ
 ok:∀ a r,model a=some r->Bc P f (Ym T A a) (·=(Ayg (T:=T) R (tup r)).toAV [])
omit [Inf P] in
theorem Bc.tell {f:FuncId} {xs ys:List SV} {R:AV->Prop} (h:Bc P f ys R) (t:Mh xs ys):Bc P f xs R:=λw S vs hS hv=>h w S vs hS (t.rep hv)
def X.pub:X T->Bool
 | .lf l=>l.pubd
 | .own _=>false
 | .old _=>false
 | _=>true
omit [TX T] in
theorem X.pub_ok (L:Nat->Nat) {x:X T} (h:x.pub=true):(x.toLf L).pubd=true:=by cases x <;> first|exact h|rfl|cases h
def SX.pub:SX T->Bool
 | .one x=>x.pub
 | .agg xs=>xs.all X.pub
omit [TX T] in
theorem SX.pub_ok (L:Nat->Nat) (h:x.pub=true):(x.toSV L).cells.all Lf.pubd=true:=by
 cases x with
 | one x=>simp [SX.toSV,SV.cells,X.pub_ok L h]
 | agg xs =>
  simp only[SX.pub,zJ] at h
  simp only[SX.toSV,SV.cells,zJ,yA]
  rintro _ ⟨x,hx,rfl⟩
  exact X.pub_ok L (h x hx)
def A3s (fr:Fr T) (st:XS T):List Operand->Option (List (SX T))
 | []=>some []
 | o::os=>match opx fr st o with
  | .s x=>match A3s fr st os with
   | some xs=>some (x::xs)
   | none=>none
  | _=>none
omit [TX T] in
theorem Ae1:∀ {os:List Operand} {xs:List (SX T)},A3s fr st os=some xs->Xy (st.toAS fr) os (xs.map (SX.toSV (st.L fr)))
 | [],xs,h=>by cases h;exact A7
 | o::os,xs,h=>by
  unfold A3s at h
  split at h
  ·rename_i x hx
   split at h
   ·rename_i ys hy
    cases h
    exact Ar (Aa0 hx) (Ae1 hy)
   ·cases h
  ·cases h
def A7x (F:List (Am3 T P)) (f:Nat):Option (Am3 T P):=match F with
 | []=>none
 | c::F=>cond (Nat.beq c.f f) (some c) (A7x F f)
omit [Inf P] in
theorem Ata {F:List (Am3 T P)} {f:Nat} {c:Am3 T P} (h:A7x F f=some c):c.f=f:=by
 induction F with
 | nil=>cases h
 | cons d F ih =>
  unfold A7x at h
  cases e:Nat.beq d.f f with
  | true=>rw[e] at h;cases h;exact zM e
  | false=>rw[e] at h;exact ih h
def Bcx:X T->Bool
 | .lf l=>!Ar1 l
 | _=>true
omit [TX T] in
theorem Aqw (t:Tc) (v:den T t):(At7 T t v).cells=Oy T t v:=by cases t <;> rfl
theorem Ap2 (R:List Tc) (v:Vv T R) (M M':List (BX T)):(Ayg R v).toAV M=(Ayg R v).toAV M':=by
 have h:=Ya (T:=T) (Pi M) R v
 rw[<- Ya (Pi M')] at h
 unfold Ayg
 split
 ·rename_i x e
  rw[e] at h
  exact congrArg AV.s (List.cons.inj h).1
 ·exact congrArg AV.tup h
def evO [El T P] (nt:Nat) (F:List (Am3 T P)) (fr:Fr T) (st:XS T) (K:XS T->Option R):Option Tmp->Op->Option R
 | some d,.alloc t=>match Inf.zi P t with
  | some zl=>if _h:Nat.blt d nt=true then K ⟨(d,.s (.one (.lf (.lp st.m.length 0))))::st.t,st.m++[some (.box (zl.map X.lf))]⟩ else none
  | none=>none
 | some d,.box _ y=>match opx fr st y with
  | .s v=>if _h:Nat.blt d nt=true then K ⟨(d,.s (.one (.lf (.lp st.m.length 0))))::st.t,st.m++[some (.box v.cells)]⟩ else none
  | _=>none
 | none,.store t x y=>match Inf.ti P t,opx fr st x,opx fr st y with
  | some (_,sz),.s (.one (.lf (.lp p off))),.s v=>match (A8 fr.m st.m)[p]? with
   | some (.box cs)=>if _h:(Nat.beq v.cells.length sz&&Nat.ble (off+sz) cs.length)=true then K ⟨st.t,st.m.set p (some (.box (A4c cs off v.cells)))⟩ else none
   | _=>none
  | _,_,_=>none
 | some d,.indexAddr t x y=>match Inf.si P t,opx fr st x,opx fr st y with
  | some (_,sz),.s (.one (.row tc v)),.s (.one (.lf (.i _ j)))=>if _h:(Nat.beq (tc.size T) sz&&Nat.blt d nt)=true then(idx v j).bind λu=>K (st.upd d (.s (.one (.el tc u ((v.drop (j.toNat+1)).flatMap (Oy T tc)) 0)))) else none
  | _,_,_=>none
 | some d,.call ⟨.builtin .len,⟨[x]⟩,⟨[t]⟩⟩=>match Inf.si P t,opx fr st x with
  | some _,.s (.one (.row _ v))=>if _h:Nat.blt d nt=true then K (st.upd d (.s (.one (.lf (.i .i64 (v.length:Int)))))) else none
  | _,_=>none
 | some d,.call ⟨.value (.func f),⟨args⟩,_⟩=>match A7x F f,A3s fr st args with
  | some c,some xs=>if _h:(Inf.fn P f&&xs.all SX.pub&&Nat.blt d nt)=true then(Anx c.A xs).bind λa=>(c.model a).bind λr=>K (st.upd d (Ayg c.R (c.tup r))) else none
  | _,_=>none
 | some d,op=>match evV P fr st op with
  | some v=>if _h:Nat.blt d nt=true then K (st.upd d v) else none
  | none=>none
 | none,_=>none
theorem A9 {b:Bool} {o:Option α} {r:α} (h:cond b o none=some r):b=true/\o=some r:=by
 cases b with
 | true=>exact⟨rfl,h⟩
 | false=>cases h
theorem Dl {n m:Nat} (h:Nat.blt n m=true):n<m:=yN h
section
variable {c:Ctx} {ops:Array Oper} {Q:Exit->AS->Prop} {rest:List Oper} {ty:TypeId} {pos:String} {af:Array Edge} {F:List (Am3 T P)}
omit [TX T] in
theorem Au5 {cs:List (X T)}:(⟨(d,.s (.one (.lf (.lp st.m.length 0))))::st.t,st.m++[some (.box cs)]⟩:XS T).toAS fr=⟨Go.Proofs.YtkblaobhhoebaaaGreat.Abs.upd (st.toAS fr).t d (.s (.one (.lp (st.toAS fr).m.length 0))),(st.toAS fr).m++[.box (cs.map (X.toLf (st.L fr)))]⟩:=by
 have e1:=congrArg AS.t (XS.toAS_upd fr st d (.s (.one (.lf (.lp st.m.length 0)))))
 have e2:(A8 fr.m (st.m++[some (.box cs)])).map (BX.toBlk (st.L fr))=(st.toAS fr).m++[Blk.box (cs.map (X.toLf (st.L fr)))]:=by rw[Nc,xJ];rfl
 have e3:(st.toAS fr).m.length=st.m.length:=by simp [XS.toAS,M8,XS.M,D8]
 refine(XS.toAS_mem fr (st.upd d (.s (.one (.lf (.lp st.m.length 0))))) (st.m++[some (.box cs)]) (λq=>by rw[Nc];exact Apg _ _ rfl q)).trans ?_
 rw[e1,e3]
 exact congrArg _ e2
omit [TX T] in
theorem Ath {p:Nat} {cs':List (X T)} (hm:E6 (A8 fr.m st.m)[p]? = none):(⟨st.t,st.m.set p (some (.box cs'))⟩:XS T).toAS fr=⟨(st.toAS fr).t,(st.toAS fr).m.set p (.box (cs'.map (X.toLf (st.L fr))))⟩:=by
 have e2:(A8 fr.m (st.m.set p (some (.box cs')))).map (BX.toBlk (st.L fr))=(st.toAS fr).m.set p (.box (cs'.map (X.toLf (st.L fr)))):=by rw[I9,x9];rfl
 refine(XS.toAS_mem fr st (st.m.set p (some (.box cs'))) (λq=>by rw[I9];exact Aeo _ _ _ (show E6 (some (BX.box cs'))=_ from hm.symm) q)).trans ?_
 exact congrArg _ e2
omit [TX T] [Inf P] in
theorem Acj {x:VX T} (h:AWL P c ops Q rest ((st.upd d x).toAS fr)):AWL P c ops Q rest ⟨Go.Proofs.YtkblaobhhoebaaaGreat.Abs.upd (st.toAS fr).t d (x.toAV (st.M fr)),(st.toAS fr).m⟩:=by rw[<- XS.toAS_upd];exact h
theorem A6t [El T P] {op:Op} {dst:Option Tmp} {r:R} (h:evO c.nt F fr st K dst op=some r) (k:∀ st',K st'=some r->AWL P c ops Q rest (st'.toAS fr)) :
  AWL P c ops Q (⟨dst,op,ty,pos,af,none⟩::rest) (st.toAS fr):=by
 unfold evO at h
 split at h
 ·split at h
  ·rename_i d t _ zl hz
   split at h
   ·rename_i hd
    refine Al4 (Inf.zi_ok hz) (Dl hd) ?_
    have:=k _ h
    rw[Au5] at this
    have e:(zl.map (X.lf (T:=T))).map (X.toLf (st.L fr))=zl:=by simp [X.toLf,Function.comp_def]
    rw[e] at this
    exact this
   ·cases h
  ·cases h
 ·split at h
  ·rename_i d _ y _ v hv
   split at h
   ·rename_i hd
    refine Avg (Aa0 hv) (Dl hd) ?_
    have:=k _ h
    rw[Au5,<- SX.cells_ok] at this
    exact this
   ·cases h
  ·cases h
 ·split at h
  ·rename_i t x y _ _ _ ag sz p off v hi hx hy
   split at h
   ·rename_i cs hm
    split at h
    ·rename_i hb
     rw[zG] at hb
     have hl:=zM hb.1
     have hf:=yN hb.2
     refine Aa3 (Inf.ti_ok hi).i (Db hx) (Aa0 hy) (cs:=cs.map (X.toLf (st.L fr))) (A09 hm) (by rw[SX.cells_ok];simpa using hl) (by simpa using hf) ?_
     have:=k _ h
     rw[Ath (by rw[hm];rfl),Aiy,<- SX.cells_ok] at this
     exact this
    ·cases h
   ·cases h
  ·cases h
 ·split at h
  ·rename_i d t x y _ _ _ e sz tc v k' j hi hx hy
   split at h
   ·rename_i hb
    rw[zG] at hb
    have hsz:=zM hb.1
    subst hsz
    obtain⟨u,hu,h⟩:=Ap h
    exact Aq6 (Ny (f:=Oy T tc) (Inf.si_ok hi) (Lz T tc) (Db hx) rfl rfl (Db hy) hu) (Dl hb.2) (Acj (k _ h))
   ·cases h
  ·cases h
 ·split at h
  ·rename_i d x t _ _ i tc v hi hx
   split at h
   ·rename_i hd
    exact Aq6 (Qv (Inf.si_ok (e:=i.1) (sz:=i.2) hi) (Db hx)) (Dl hd) (Acj (k _ h))
   ·cases h
  ·cases h
 ·split at h
  ·rename_i d f args ats _ _ cd xs hc hx
   split at h
   ·rename_i hb
    simp only[zG] at hb
    obtain⟨⟨h1,h2⟩,h3⟩:=hb
    obtain⟨a,ha,h⟩:=Ap h
    obtain⟨u,hu,h⟩:=Ap h
    have hcf:=Ata hc
    subst hcf
    refine Apr (Inf.fn_ok h1) (Ae1 hx) (G5 ?_) ((cd.ok a u hu).tell (X2 _ ha)) (Dl h3) λx hx=>?_
    ·rw[List.all_map]
     rw[zJ] at h2 ⊢
     intro x hx
     exact SX.pub_ok _ (h2 x hx)
    ·subst hx
     rw[Ap2 _ _ [] (st.M fr)]
     exact Acj (k _ h)
   ·cases h
  ·cases h
 ·split at h
  ·rename_i hv
   split at h
   ·rename_i hd
    exact Aq6 (A0k hv) (Dl hd) (Acj (k _ h))
   ·cases h
  ·cases h
 ·cases h
end
end
open Go.RowKit
theorem Yj.grep {w:World} {S:Dx} {m:List Blk} {H:Nat->Value} {l l':Lf} {v:Value} (h:Yj l l') (r:Bf w S m H l v):Bf w S m H l' v:=by
 cases h with
 | refl=>exact r
 | nil=>exact Bf.of_rep (Yj.nil.rep r)
theorem Tv.grep {w:World} {S:Dx} {m:List Blk} {H:Nat->Value} {ls ls':List Lf} {vs:List Value} (h:Tv ls ls') (r:LsR (Bf w S m H) ls vs):LsR (Bf w S m H) ls' vs:=by
 induction h generalizing vs with
 | nil=>exact r
 | @cons l l' ls ls' h t ih =>
  cases vs with
  | nil=>have:=r.1;simp at this
  | cons v vs =>
   have:=ih (vs:=vs) ⟨by have:=r.1;simpa using this,λj l v h1 h2=>r.2 (j+1) l v (by simpa using h1) (by simpa using h2)⟩
   refine⟨by simp [this.1],λj l v h1 h2=>?_⟩
   cases j with
   | zero=>simp at h1 h2;subst h1;subst h2;exact h.grep (r.2 0 _ _ rfl rfl)
   | succ j=>exact this.2 j l v (by simpa using h1) (by simpa using h2)
theorem Qz.grep {w:World} {S:Dx} {m:List Blk} {H:Nat->Value} {x y:SV} {v:Value} (h:Qz x y) (r:SVR (Bf w S m H) x v):SVR (Bf w S m H) y v:=by
 cases h with
 | one h=>exact h.grep r
 | agg h=>obtain⟨cs,rfl,hl⟩:=r;exact⟨cs,rfl,h.grep hl⟩
theorem Mh.grep {w:World} {S:Dx} {m:List Blk} {H:Nat->Value} {xs ys:List SV} {vs:List Value} (h:Mh xs ys) (r:Abx (Bf w S m H) xs vs):Abx (Bf w S m H) ys vs:=by
 induction h generalizing vs with
 | nil=>exact r
 | @cons x y xs ys h t ih =>
  cases vs with
  | nil=>have:=r.1;simp at this
  | cons v vs =>
   have:=ih (vs:=vs) ⟨by have:=r.1;simpa using this,λj l v h1 h2=>r.2 (j+1) l v (by simpa using h1) (by simpa using h2)⟩
   refine⟨by simp [this.1],λj l v h1 h2=>?_⟩
   cases j with
   | zero=>simp at h1 h2;subst h1;subst h2;exact h.grep (r.2 0 _ _ rfl rfl)
   | succ j=>exact this.2 j l v (by simpa using h1) (by simpa using h2)
variable {T:TT} [TX T] {P:Program} [Inf P] [El T P]
theorem Ahx {l l':Lf} (h:Yj l l'):l.canon=l'.canon:=by cases h <;> rfl
theorem Aoj {ls ls':List Lf} (h:Tv ls ls'):ls.map Lf.canon=ls'.map Lf.canon:=by
 induction h with
 | nil=>rfl
 | cons h t ih=>rw[xN,xN,Ahx h,ih]
omit [Inf P] [El T P] in
theorem Ajy (t:Tc) (v:den T t):(Oy T t v).map Lf.canon=Oy T t v:=by
 cases t <;> first|rfl|exact TX.can _ _
omit [Inf P] [El T P] in
theorem Apt {t:Tc} {x:SX T} {v:den T t} (L:Nat->Nat) (h:A2f t x=some v):(x.toSV L).cells.map Lf.canon=Oy T t v:=by
 have h1:=Aom (v:=v) L h
 rw[<- Ajy,<- Aqw]
 generalize At7 T t v=y at h1 ⊢
 generalize x.toSV L=z at h1 ⊢
 cases h1 with
 | one h=>exact congrArg (λl=>[l]) (Ahx h)
 | agg h=>exact Aoj h
theorem Akn (g:Lf->Lf) (cs ls:List Lf) (o:Nat):(Eu cs o ls).map g=Eu (cs.map g) o (ls.map g):=by simp [Eu]
def svS (T:TT) {ρ:Type} (sv:Option ((n:Nat)×Nat×(ρ->T.D n))) (p l:Nat) (r:ρ):SV:=match sv with
 | none=>.one (.ls p l)
 | some s=>.agg ((T.enc s.1 (s.2.2 r)).set s.2.1 (.ls p l))
section
variable {ops:Array Oper} {c:Ctx} {Q:Exit->AS->Prop} {fr:Fr T} {j:Int} {M fm:List (BX T)} {m':List (Option (BX T))} {l:List Oper} {e k n p sz:Nat} {L L':Nat->Nat} {op:Op} {x:Operand} {dst:Option Tmp} {t:Tc} {v:List (den T t)} {t':Tc} {R:Type} {r:R} {ρ:Type} {sv:Option ((n:Nat)×Nat×(ρ->T.D n))} {ty:TypeId} {st:XS T} {K:XS T->Option R} {u:den T t'}
def svX (sv:Option ((n:Nat)×Nat×(ρ->T.D n))) (p:Nat) (r:ρ):SX T:=match sv with
 | none=>.one (.own p)
 | some s=>.agg ((TX.cells s.1 (s.2.2 r)).set s.2.1 (.own p))
omit [Inf P] [El T P] in
theorem A58 {r:ρ} (L:Nat->Nat):(svX sv p r).toSV L=svS T sv p (L p) r:=by
 cases sv with
 | none=>rfl
 | some s =>
  show SV.agg (((TX.cells s.1 (s.2.2 r)).set s.2.1 (.own p)).map (X.toLf L))=_
  rw[x9,TX.cells_ok];rfl
structure Aei (T:TT) [TX T] (P:Program) where
 f:Nat
 A:List Tc
 e:Nat
 t:Tc
 ρ:Type
 model:Vv T A->Option ρ
 row:ρ->List (den T t)
 sv:Option ((n:Nat)×Nat×(ρ->T.D n))
 ok:∀ a r,model a=some r->Dk P f [] (Ym T A a) (λy m'=>y=.s (svS T sv 0 (row r).length r)/\m'=[.arr e (t.size T) 0 ((row r).flatMap (Oy T t))])
abbrev Aw7 (f:Nat) (A:List Tc) (e:Nat) (t:Tc) (model:Vv T A->Option (List (den T t))) (ok:∀ a r,model a=some r->Dk P f [] (Ym T A a) (λy m'=>y=.s (.one (.ls 0 r.length))/\m'=[.arr e (t.size T) 0 (r.flatMap (Oy T t))])):Aei T P :=
 ⟨f,A,e,t,List (den T t),model,λr=>r,none,ok⟩
structure Cds (T:TT) [TX T] (P:Program) where
 F:List (Am3 T P)
 O:List (Nat×Aei T P)
def lkO:List (Nat×Aei T P)->Nat->Option (Aei T P)
 | [],_=>none
 | x::l,d=>cond (Nat.beq x.1 d) (some x.2) (lkO l d)
theorem Aip {l:Lf} (h:l.pubd=true):l.inbB n=true:=by
 cases l with
 | fn f la lb =>
  simp only[Lf.pubd,zG,zJ] at h
  have h0:∀ x:Lf,x.pubd0=true->x.inb0 n=true:=λx h=>by cases x <;> first|rfl|cases h
  show(la.all (Lf.inb0 n)&&lb.all (Lf.inb0 n))=true
  rw[zG,zJ,zJ]
  exact⟨λx hx=>h0 x (h.1 x hx),λx hx=>h0 x (h.2 x hx)⟩
 | lp _ _=>cases h
 | ls _ _=>cases h
 | ap _ _ _=>cases h
 | mp _ _=>cases h
 | _=>rfl
theorem Aoi {r:Nat->Nat} {l:Lf} (h:l.pubd=true):l.ren r=l:=by
 cases l with
 | fn f la lb =>
  simp only[Lf.pubd,zG,zJ] at h
  have h0:∀ x:Lf,x.pubd0=true->x.ren0 r=x:=λx h=>by cases x <;> first|rfl|cases h
  show Lf.fn f (la.map (Lf.ren0 r)) (lb.map (Lf.ren0 r))=_
  rw[xU (λx hx=>h0 x (h.1 x hx)),xU (λx hx=>h0 x (h.2 x hx)),List.map_id'',List.map_id''] <;> simp
 | lp _ _=>cases h
 | ls _ _=>cases h
 | ap _ _ _=>cases h
 | mp _ _=>cases h
 | _=>rfl
theorem Awy {r:Nat->Nat} {x:SV} (h:x.cells.all Lf.pubd=true):x.ren r=x:=by
 cases x with
 | one l=>show SV.one (l.ren r)=_;rw[Aoi (by simpa [SV.cells] using h)]
 | agg ls =>
  show SV.agg (ls.map (Lf.ren r))=_
  have:ls.map (Lf.ren r)=ls:=by
   conv=>rhs;rw[<- wR ls]
   exact xU λx hx=>Aoi (zJ.1 h x hx)
  rw[this]
section
omit [Inf P] [El T P] in
theorem A2r {sv:Option ((n:Nat)×Nat×(ρ->T.D n))} {l:Nat} {r:ρ}:(svS T sv 0 l r).ren (rho [] n)=svS T sv n l r:=by
 cases sv with
 | none=>rfl
 | some s =>
  show SV.agg (((T.enc s.1 (s.2.2 r)).set s.2.1 (.ls 0 l)).map (Lf.ren (rho [] n)))=_
  rw[x9]
  have:(T.enc s.1 (s.2.2 r)).map (Lf.ren (rho [] n))=T.enc s.1 (s.2.2 r):=by
   conv=>rhs;rw[<- wR (T.enc s.1 (s.2.2 r))]
   exact xU λl hl=>Aoi (zJ.1 (TX.pub s.1 (s.2.2 r)) l hl)
  rw[this];rfl
omit [TX T] [Inf P] [El T P]
theorem Bbk (h:(A8 fr.m st.m)[p]? = some (.arr e sz k t v)):st.L fr p=v.length:=by
 show Agx (E6 (A8 fr.m st.m)[p]?)=_
 rw[h];rfl
theorem Ar8 {s o:Nat} (h:M[p]? = some (.arr e sz k t v)) (hu:Azf ⟨t,v⟩ j t' u):(VX.oel p j s o t' u:VX T).toAV M=.s (.one (.ap p v.length (j.toNat*s+o))):=by
 show Aj7 p j (j.toNat*s+o) t' u (E6 M[p]?)=_
 rw[h]
 show Aj7 p j (j.toNat*s+o) t' u (some ⟨t,v⟩)=_
 exact if_pos hu
theorem A77 {s o:Nat} (h:M[p]? = some (.arr e sz k t v)):Azf ⟨t,v⟩ j t' u\/(VX.oel p j s o t' u:VX T).toAV M=A0g:=by
 by_cases hu:Azf ⟨t,v⟩ j t' u
 ·exact .inl hu
 ·right
  show Aj7 p j (j.toNat*s+o) t' u (E6 M[p]?)=_
  rw[h]
  show Aj7 p j (j.toNat*s+o) t' u (some ⟨t,v⟩)=_
  exact if_neg hu
theorem Avt {st:AS} {y:AV} (h:Bg st x=A0g):OpV P c st op ty y:=λa w S H r=>by
 have:=Ax r x
 rw[h] at this
 exact(Anm this).elim
theorem A1a {st:AS} (h:Bg st x=A0g):AWL P c ops Q l st:=λa w S H r=>by
 have:=Ax r x
 rw[h] at this
 exact(Anm this).elim
theorem Anq (hx:opx fr st x=.s (.one (.own p))) (h:(A8 fr.m st.m)[p]? = some (.arr e sz k t v)):Bg (st.toAS fr) x=.s (.one (.ls p v.length)):=by
 rw[Db hx]
 show AV.s (.one (.ls p (st.L fr p)))=_
 rw[Bbk h]
theorem Aig {s o:Nat} (hx:opx fr st x=.oel p j s o t' u) (h:(A8 fr.m st.m)[p]? = some (.arr e sz k t v)) (hu:Azf ⟨t,v⟩ j t' u):Bg (st.toAS fr) x=.s (.one (.ap p v.length (j.toNat*s+o))):=by rw[Aib,hx];exact Ar8 h hu
theorem Acd {s o:Nat} (hx:opx fr st x=.oel p j s o t' u) (h:(A8 fr.m st.m)[p]? = some (.arr e sz k t v)):Azf ⟨t,v⟩ j t' u\/Bg (st.toAS fr) x=A0g:=by rw[Aib,hx];exact A77 h
theorem Aq9 (h:(A8 fr.m st.m)[p]? = some (.arr e sz k t v)):(st.toAS fr).m[p]? = some (.arr e sz k (v.flatMap (Oy T t))):=by
 show(M8 (A8 fr.m st.m))[p]? = _
 unfold M8
 rw[zK,h]
 rfl
theorem Aru (t:Tc) (v:List (den T t)):(v.flatMap (Oy T t)).length=v.length*t.size T:=A4 (Lz T t) v
def Wk (a b:AS):Prop:=(∀ i,b.t i=.top\/b.t i=a.t i)/\b.m.length=a.m.length/\∀ (q:Nat) (x x':Blk),a.m[q]? = some x->b.m[q]? = some x'->Agv x x'
theorem Ahu {a b:AS} (h:Wk a b) (k:AWL P c ops Q l b):AWL P c ops Q l a:=A5z h.1 h.2.1 h.2.2 k
theorem Azw {x:Code} {a b:AS} (h:Wk a b) (k:AWC P c x Q b):AWC P c x Q a:=A6h h.1 h.2.1 h.2.2 k
def A4i (fr:Fr T) (st:XS T) (d e sz:Nat) (t:Tc) (v:List (den T t)):XS T:=⟨(d,.s (.one (.own st.m.length)))::st.drop fr st.m.length,Aer st.m.length (A8 fr.m st.m) st.m++[some (.arr e sz 0 t v)]⟩
def Bbg (fr:Fr T) (st:XS T) (d e sz:Nat) (t:Tc) (v:List (den T t)) (x:SX T):XS T:=⟨(d,.s x)::st.drop fr st.m.length,Aer st.m.length (A8 fr.m st.m) st.m++[some (.arr e sz 0 t v)]⟩
def A87 (fr:Fr T) (st:XS T) (d p e sz k:Nat) (t:Tc) (v:List (den T t)):XS T:=⟨(d,.s (.one (.own p)))::st.drop fr p,(Aer p (A8 fr.m st.m) st.m).set p (some (.arr e sz k t v))⟩
theorem A57 {d:Nat} (hm:∀ q:Nat,q≠p->E6 (A8 fr.m m')[q]? = E6 (A8 fr.m st.m)[q]?) (hp:Agx (E6 (A8 fr.m m')[p]?)=n) (i:Nat) :
  ((⟨(d,.s (.one (.own p)))::st.drop fr p,m'⟩:XS T).toAS fr).t i=.top\/((⟨(d,.s (.one (.own p)))::st.drop fr p,m'⟩:XS T).toAS fr).t i=Go.Proofs.YtkblaobhhoebaaaGreat.Abs.upd (st.toAS fr).t d (.s (.one (.ls p n))) i:=by
 have hg:XS.get fr ⟨(d,.s (.one (.own p)))::st.drop fr p,m'⟩ i=cond (Nat.beq i d) (.s (.one (.own p))) (XS.get fr ⟨st.drop fr p,m'⟩ i):=rfl
 show(XS.get fr ⟨(d,.s (.one (.own p)))::st.drop fr p,m'⟩ i).toAV (A8 fr.m m')=.top\/(XS.get fr ⟨(d,.s (.one (.own p)))::st.drop fr p,m'⟩ i).toAV (A8 fr.m m')=cond (Nat.beq i d) (.s (.one (.ls p n))) ((st.toAS fr).t i)
 rw[hg]
 cases Nat.beq i d with
 | true =>
  right
  show AV.s (.one (.ls p (Agx (E6 (A8 fr.m m')[p]?))))=_
  rw[hp];rfl
 | false=>exact st.drop_t fr p m' hm i
theorem Aud (hL:∀ q,q≠p->L' q=st.L fr q) {q:Nat} {x x':Blk} (h:(st.toAS fr).m[q]? = some x) (h':(((A8 fr.m st.m).map (Aj4 p)).map (BX.toBlk L'))[q]? = some x'):Agv x x':=by
 have h:((A8 fr.m st.m).map (BX.toBlk (st.L fr)))[q]? = some x:=h
 simp only[zK,wK] at h h'
 obtain⟨b,hb,rfl⟩:=h
 obtain⟨y,⟨b',hb',rfl⟩,rfl⟩:=h'
 rw[hb] at hb'
 cases hb'
 exact A08 hL b
theorem Af9 {d:Nat}:Wk ⟨Go.Proofs.YtkblaobhhoebaaaGreat.Abs.upd (st.toAS fr).t d (.s (.one (.ls (st.toAS fr).m.length v.length))),(st.toAS fr).m++[.arr e sz 0 (v.flatMap (Oy T t))]⟩ ((A4i fr st d e sz t v).toAS fr):=by
 have hml:(st.toAS fr).m.length=st.m.length:=by simp [XS.toAS,M8,XS.M,D8]
 have hM:A8 fr.m (Aer st.m.length (A8 fr.m st.m) st.m++[some (.arr e sz 0 t v)])=(A8 fr.m st.m).map (Aj4 st.m.length)++[.arr e sz 0 t v]:=by rw[Nc,Aet]
 have hl:((A8 fr.m st.m).map (Aj4 st.m.length)).length=st.m.length:=by simp [D8]
 have h1:∀ q:Nat,q≠st.m.length->E6 (A8 fr.m (Aer st.m.length (A8 fr.m st.m) st.m++[some (.arr e sz 0 t v)]))[q]? = E6 (A8 fr.m st.m)[q]? := λq hq=>by
  rw[hM,Ako _ _ (by rw[hl];exact hq),Ams]
 have h2:Agx (E6 (A8 fr.m (Aer st.m.length (A8 fr.m st.m) st.m++[some (.arr e sz 0 t v)]))[st.m.length]?)=v.length:=by
  rw[hM,zX (by omega),hl,kZ];rfl
 refine⟨λi=>?_,?_,λq x x' h h'=>?_⟩
 ·rw[hml];exact A57 h1 h2 i
 ·show(M8 (A8 fr.m (Aer _ _ _++_))).length=_
  rw[hM]
  simp [M8,hml,D8]
 ·have h':(M8 (A8 fr.m (Aer st.m.length (A8 fr.m st.m) st.m++[some (.arr e sz 0 t v)])))[q]? = some x':=h'
  have hL:∀ q,q≠st.m.length->Pi (A8 fr.m (Aer st.m.length (A8 fr.m st.m) st.m++[some (.arr e sz 0 t v)])) q=st.L fr q:=λq hq=>by show Agx (E6 _)=Agx (E6 _);rw[h1 q hq];rfl
  unfold M8 at h'
  generalize Pi _=L' at h' hL
  rw[hM,xJ] at h'
  rcases zQ q st.m.length with hq|hq
  ·rw[zL (by simpa [D8] using hq)] at h'
   rw[zL (by rw[hml];exact hq)] at h
   exact Aud hL h h'
  ·rw[zX (by simpa [D8] using hq)] at h'
   rw[zX (by rw[hml];exact hq),hml] at h
   have e1:((List.map (Aj4 st.m.length) (A8 fr.m st.m)).map (BX.toBlk L')).length=st.m.length:=by simp [D8]
   rw[e1] at h'
   exact .inl (zF (h'.symm.trans h))
theorem A0y {d:Nat} {x:SX T} {y:SV} (hx:∀ L:Nat->Nat,L st.m.length=v.length->x.toSV L=y):Wk ⟨Go.Proofs.YtkblaobhhoebaaaGreat.Abs.upd (st.toAS fr).t d (.s y),(st.toAS fr).m++[.arr e sz 0 (v.flatMap (Oy T t))]⟩ ((Bbg fr st d e sz t v x).toAS fr):=by
 obtain⟨w1,w2,w3⟩:=Af9 (fr:=fr) (st:=st) (d:=d) (e:=e) (sz:=sz) (t:=t) (v:=v)
 refine⟨λi=>?_,w2,w3⟩
 have h:=w1 i
 have e1:((Bbg fr st d e sz t v x).toAS fr).t i=(cond (Nat.beq i d) (.s x) (XS.get fr ⟨st.drop fr st.m.length,Aer st.m.length (A8 fr.m st.m) st.m++[some (.arr e sz 0 t v)]⟩ i):VX T).toAV (A8 fr.m (Aer st.m.length (A8 fr.m st.m) st.m++[some (.arr e sz 0 t v)])):=rfl
 have e2:((A4i fr st d e sz t v).toAS fr).t i=(cond (Nat.beq i d) (.s (.one (.own st.m.length))) (XS.get fr ⟨st.drop fr st.m.length,Aer st.m.length (A8 fr.m st.m) st.m++[some (.arr e sz 0 t v)]⟩ i):VX T).toAV (A8 fr.m (Aer st.m.length (A8 fr.m st.m) st.m++[some (.arr e sz 0 t v)])):=rfl
 rw[e1];rw[e2] at h
 replace h:_\/_=cond (Nat.beq i d) (AV.s (.one (.ls (st.toAS fr).m.length v.length))) ((st.toAS fr).t i):=h
 show _\/_=cond (Nat.beq i d) (AV.s y) ((st.toAS fr).t i)
 cases hb:Nat.beq i d with
 | false=>rw[hb] at h;exact h
 | true =>
  right
  show AV.s (x.toSV (Pi _))=AV.s y
  rw[hx]
  show Agx (E6 (A8 fr.m (Aer st.m.length (A8 fr.m st.m) st.m++[some (.arr e sz 0 t v)]))[st.m.length]?)=v.length
  have hM:A8 fr.m (Aer st.m.length (A8 fr.m st.m) st.m++[some (.arr e sz 0 t v)])=(A8 fr.m st.m).map (Aj4 st.m.length)++[.arr e sz 0 t v]:=by rw[Nc,Aet]
  have hl:((A8 fr.m st.m).map (Aj4 st.m.length)).length=st.m.length:=by simp [D8]
  rw[hM,zX (by omega),hl,kZ];rfl
theorem Aoo {d:Nat} (hp:p<(A8 fr.m st.m).length):Wk ⟨Go.Proofs.YtkblaobhhoebaaaGreat.Abs.upd (st.toAS fr).t d (.s (.one (.ls p v.length))),(st.toAS fr).m.set p (.arr e sz k (v.flatMap (Oy T t)))⟩ ((A87 fr st d p e sz k t v).toAS fr):=by
 have hM:A8 fr.m ((Aer p (A8 fr.m st.m) st.m).set p (some (.arr e sz k t v)))=((A8 fr.m st.m).map (Aj4 p)).set p (.arr e sz k t v):=by rw[I9,Aet]
 have hp':p<((A8 fr.m st.m).map (Aj4 p)).length:=by rw[zP];exact hp
 have h1:∀ q:Nat,q≠p->E6 (A8 fr.m ((Aer p (A8 fr.m st.m) st.m).set p (some (.arr e sz k t v))))[q]? = E6 (A8 fr.m st.m)[q]? := λq hq=>by
  rw[hM,Ah0 _ _ _ hq,Ams]
 have h2:Agx (E6 (A8 fr.m ((Aer p (A8 fr.m st.m) st.m).set p (some (.arr e sz k t v))))[p]?)=v.length:=by
  rw[hM,zN hp'];rfl
 refine⟨λi=>A57 h1 h2 i,?_,λq x x' h h'=>?_⟩
 ·show(M8 (A8 fr.m ((Aer _ _ _).set _ _))).length=_
  rw[hM]
  simp [M8,XS.toAS,XS.M]
 ·have h':(M8 (A8 fr.m ((Aer p (A8 fr.m st.m) st.m).set p (some (.arr e sz k t v)))))[q]? = some x':=h'
  have hL:∀ q,q≠p->Pi (A8 fr.m ((Aer p (A8 fr.m st.m) st.m).set p (some (.arr e sz k t v)))) q=st.L fr q:=λq hq=>by show Agx (E6 _)=Agx (E6 _);rw[h1 q hq];rfl
  unfold M8 at h'
  generalize Pi _=L' at h' hL
  rw[hM,x9] at h'
  by_cases hq:q=p
  ·subst hq
   rw[zN (by simpa using hp)] at h'
   rw[zN (by simpa [XS.toAS,M8,XS.M] using hp)] at h
   exact .inl (zF (h'.symm.trans h))
  ·rw[zS (λe=>hq e.symm)] at h h'
   exact Aud hL h h'
theorem A2a {w:List (den T t)} {j:Nat} {u:den T t} (hm:(A8 fr.m st.m)[p]? = some (.arr e sz 0 t w)):Wk ⟨(st.toAS fr).t,(st.toAS fr).m.set p (.arr e sz 0 ((w.set j u).flatMap (Oy T t)))⟩ ((⟨st.dropP fr (A6x p),st.m.set p (some (.arr e sz 0 t (w.set j u)))⟩:XS T).toAS fr):=by
 have hM:A8 fr.m (st.m.set p (some (.arr e sz 0 t (w.set j u))))=(A8 fr.m st.m).set p (.arr e sz 0 t (w.set j u)):=I9 _ _ _ _
 have h1:∀ q:Nat,q≠p->E6 (A8 fr.m (st.m.set p (some (.arr e sz 0 t (w.set j u)))))[q]? = E6 (A8 fr.m st.m)[q]? := λq hq=>by rw[hM,Ah0 _ _ _ hq]
 have hl:Pi (A8 fr.m (st.m.set p (some (.arr e sz 0 t (w.set j u)))))=st.L fr:=by
  funext q
  show Agx (E6 _)=Agx (E6 (A8 fr.m st.m)[q]?)
  by_cases hq:q=p
  ·subst hq
   rw[hM,zN (zB.1 hm).1,hm]
   show(w.set j u).length=w.length
   rw[xA]
  ·rw[h1 q hq]
 refine⟨λi=>?_,?_,λq x x' h h'=>?_⟩
 ·rcases st.drop_get fr (pr:=A6x p) rfl (st.m.set p (some (.arr e sz 0 t (w.set j u)))) i with g|⟨g1,g2⟩
  ·left;show(XS.get fr ⟨st.dropP fr (A6x p),_⟩ i).toAV _=_;rw[g];rfl
  ·right
   show(XS.get fr ⟨st.dropP fr (A6x p),_⟩ i).toAV (A8 fr.m (st.m.set p _))=(st.get fr i).toAV (A8 fr.m st.m)
   rw[g1]
   cases ex:st.get fr i with
   | s x=>show AV.s (x.toSV (Pi _))=_;rw[hl];rfl
   | tup xs=>show AV.tup (xs.map (SX.toSV (Pi _)))=_;rw[hl];rfl
   | top=>rfl
   | oel q j' sz' o t' u' =>
    rw[ex] at g2
    show Aj7 q j' (j'.toNat*sz'+o) t' u' (E6 _)=Aj7 q j' (j'.toNat*sz'+o) t' u' (E6 _)
    rw[h1 q (Aqd g2)]
 ·show(M8 (A8 fr.m (st.m.set p _))).length=_
  rw[hM]
  simp [M8,XS.toAS,XS.M]
 ·have h':(M8 (A8 fr.m (st.m.set p (some (.arr e sz 0 t (w.set j u))))))[q]? = some x':=h'
  unfold M8 at h'
  rw[hl,hM,x9] at h'
  exact .inl (zF (h'.symm.trans h))
def hdX:X T->Bool
 | .own _=>true
 | .old _=>true
 | _=>false
def Auh (fm:List (BX T)):X T->List (Option (BX T))->Option (X T×List (Option (BX T)))
 | .own p,m=>match (A8 fm m)[p]? with
  | some (.arr e sz _ t v)=>cond (Nat.beq sz (t.size T)) (some (.row t v,m.set p (some (.arr e sz (v.length*sz) t v)))) none
  | _=>none
 | x,m=>cond x.pub (some (x,m)) none
def As9 (fm:List (BX T)):List (X T)->List (Option (BX T))->Option (List (X T)×List (Option (BX T)))
 | [],m=>some ([],m)
 | x::xs,m=>match Auh fm x m with
  | some (y,m1)=>match As9 fm xs m1 with
   | some (ys,m2)=>some (y::ys,m2)
   | none=>none
  | none=>none
def A4k (fm:List (BX T)):SX T->List (Option (BX T))->Option (SX T×List (Option (BX T)))
 | .one x,m=>match Auh fm x m with
  | some (y,m1)=>some (.one y,m1)
  | none=>none
 | .agg xs,m=>match As9 fm xs m with
  | some (ys,m1)=>some (.agg ys,m1)
  | none=>none
def bks (fm:List (BX T)) (L:Nat->Nat) (m:List (Option (BX T))):List Blk:=(A8 fm m).map (BX.toBlk L)
theorem Aiq {x y:X T} {m:List (Option (BX T))} (hL:L=Pi (A8 fm m)) (h:Auh fm x m=some (y,m')):Ab1 (bks fm L m) (x.toLf L) (y.toLf L) (bks fm L m')/\y.pub=true/\Pi (A8 fm m')=Pi (A8 fm m)/\∀ q:Nat,E6 (A8 fm m')[q]? = E6 (A8 fm m)[q]? := by
 have gen:cond x.pub (some (x,m)) none=some (y,m')->Ab1 (bks fm L m) (x.toLf L) (y.toLf L) (bks fm L m')/\y.pub=true/\Pi (A8 fm m')=Pi (A8 fm m)/\∀ q:Nat,E6 (A8 fm m')[q]? = E6 (A8 fm m)[q]? := λh=>by
  obtain⟨hp,h⟩:=A9 h
  cases h
  exact⟨.id _ (X.pub_ok _ hp),hp,rfl,λ_=>rfl⟩
 cases x with
 | own p =>
  change (match (A8 fm m)[p]? with
   | some (.arr e sz _ t v)=>cond (Nat.beq sz (t.size T)) (some (X.row t v,m.set p (some (.arr e sz (v.length*sz) t v)))) none
   | _=>none)=some (y,m') at h
  split at h
  ·rename_i e sz kk t v hm
   obtain⟨hs,h⟩:=A9 h
   cases h
   have hl:(v.flatMap (Oy T t)).length=v.length*sz:=by rw[zM hs];exact Aru t v
   have hb:(bks fm L m)[p]? = some (.arr e sz kk (v.flatMap (Oy T t))):=by unfold bks;rw[zK,hm];rfl
   have h0:=Ab1.ls (m:=bks fm L m) p v.length e sz kk (v.flatMap (Oy T t)) hb hl.symm
   rw[hl] at h0
   have hq:∀ q:Nat,E6 (A8 fm (m.set p (some (.arr e sz (v.length*sz) t v))))[q]? = E6 (A8 fm m)[q]? := λq=>by rw[I9];exact Aeo _ _ _ (by rw[hm];rfl) q
   refine⟨?_,rfl,Ae9 hq,hq⟩
   have e1:(X.own p:X T).toLf L=.ls p v.length:=by
    show Lf.ls p (L p)=_
    rw[hL]
    show Lf.ls p (Agx (E6 (A8 fm m)[p]?))=_
    rw[hm];rfl
   have e2:bks fm L (m.set p (some (.arr e sz (v.length*sz) t v)))=(bks fm L m).set p (.arr e sz (v.length*sz) (v.flatMap (Oy T t))):=by unfold bks;rw[I9,x9];rfl
   rw[e1,e2]
   exact h0
  ·cases h
 | _=>exact gen h
theorem Ao6:∀ {xs ys:List (X T)} {m m':List (Option (BX T))},L=Pi (A8 fm m)->As9 fm xs m=some (ys,m')->Aby (bks fm L m) (xs.map (X.toLf L)) (ys.map (X.toLf L)) (bks fm L m')/\ys.all X.pub=true/\∀ q:Nat,E6 (A8 fm m')[q]? = E6 (A8 fm m)[q]?
 | [],ys,m,m',hL,h=>by cases h;exact⟨.nil _,rfl,λ_=>rfl⟩
 | x::xs,ys,m,m',hL,h=>by
  unfold As9 at h
  split at h
  ·rename_i y m1 h1
   split at h
   ·rename_i zs m2 h2
    cases h
    obtain⟨a1,a2,a3,a4⟩:=Aiq hL h1
    obtain⟨b1,b2,b3⟩:=Ao6 (hL.trans a3.symm) h2
    exact⟨.cons _ _ _ _ _ _ _ a1 b1,by rw[wL,a2,b2];rfl,λq=>(b3 q).trans (a4 q)⟩
   ·cases h
  ·cases h
theorem An9 {x y:SX T} {m:List (Option (BX T))} (hL:L=Pi (A8 fm m)) (h:A4k fm x m=some (y,m')):Aif (bks fm L m) (x.toSV L) (y.toSV L) (bks fm L m')/\y.pub=true/\∀ q:Nat,E6 (A8 fm m')[q]? = E6 (A8 fm m)[q]? := by
 cases x with
 | one x =>
  change (match Auh fm x m with
   | some (y,m1)=>some (SX.one y,m1)
   | none=>none)=some (y,m') at h
  split at h
  ·rename_i h1
   cases h
   obtain⟨a1,a2,_,a4⟩:=Aiq hL h1
   exact⟨.one _ _ _ _ a1,a2,a4⟩
  ·cases h
 | agg xs =>
  change (match As9 fm xs m with
   | some (ys,m1)=>some (SX.agg ys,m1)
   | none=>none)=some (y,m') at h
  split at h
  ·rename_i h1
   cases h
   obtain⟨a1,a2,a4⟩:=Ao6 hL h1
   exact⟨.agg _ _ _ _ a1,a2,a4⟩
  ·cases h
def Azu (fr:Fr T):List Operand->XS T->(XS T->Option R)->Option R
 | [],st,k=>k st
 | o::os,st,k=>match o with
  | .tmp i=>match st.get fr i with
   | .s x=>cond (x.cells.any hdX) (match A4k fr.m x st.m with
    | some (y,m')=>Azu fr os ⟨(i,.s y)::st.t,m'⟩ k
    | none=>none) (Azu fr os st k)
   | _=>Azu fr os st k
  | _=>Azu fr os st k
theorem Afj (k:∀ st',K st'=some r->AWL P c ops Q l (st'.toAS fr)):∀ {os:List Operand} {st:XS T},Azu fr os st K=some r->AWL P c ops Q l (st.toAS fr)
 | [],st,h=>k st h
 | o::os,st,h=>by
  unfold Azu at h
  split at h
  ·rename_i i
   split at h
   ·rename_i x hx
    cases ho:x.cells.any hdX with
    | false=>rw[ho] at h;exact Afj k h
    | true =>
     rw[ho] at h
     change (match A4k fr.m x st.m with
      | some (y,m')=>Azu fr os ⟨(i,.s y)::st.t,m'⟩ K
      | none=>none)=some r at h
     split at h
     ·rename_i y m' hp
      obtain⟨a1,_,a3⟩:=An9 (L:=st.L fr) rfl hp
      refine A4l i (x:=x.toSV (st.L fr)) (by show(st.get fr i).toAV _=_;rw[hx];rfl) a1 ?_
      have:=Afj k h
      have e:(⟨(i,.s y)::st.t,m'⟩:XS T).toAS fr=⟨Go.Proofs.YtkblaobhhoebaaaGreat.Abs.upd (st.toAS fr).t i (.s (y.toSV (st.L fr))),bks fr.m (st.L fr) m'⟩:=by
       refine(XS.toAS_mem fr (st.upd i (.s y)) m' a3).trans ?_
       have e1:=congrArg AS.t (XS.toAS_upd fr st i (.s y))
       rw[e1]
       rfl
      rw[e] at this
      exact this
     ·cases h
   ·exact Afj k h
  ·exact Afj k h
end
def ldC:Bool×Nat->List (X T)->Option (SX T)
 | (false,1),y::_=>some (.one y)
 | (true,s),cs=>cond (Nat.ble s cs.length) (some (.agg (cs.take s))) none
 | _,_=>none
def mkS (t:Tc) (cs:List (X T)):SX T:=match t with
 | .st _=>.agg cs
 | _=>match cs with
  | [x]=>.one x
  | cs=>.agg cs
omit [TX T] in
theorem A43 (L:Nat->Nat) (t:Tc) (cs:List (X T)):((mkS t cs).toSV L).cells=cs.map (X.toLf L):=by
 unfold mkS
 split
 ·rfl
 ·split <;> rfl
def A4h:VX T->Bool
 | .s (.one (.own _))=>true
 | .oel .. =>true
 | _=>false
def A5m (fr:Fr T) (st:XS T):Op->Bool
 | .indexAddr _ x _=>A4h (opx fr st x)
 | .fieldAddr _ x _=>A4h (opx fr st x)
 | .load _ x=>A4h (opx fr st x)
 | .call ⟨.builtin .len,⟨[x]⟩,_⟩=>A4h (opx fr st x)
 | _=>false
def A6q (P:Program) [Inf P] (fr:Fr T) (st:XS T) (K:VX T->Option R):Op->Option R
 | .indexAddr t x y=>match Inf.si P t,opx fr st x,opx fr st y with
  | some (_,sz),.s (.one (.own p)),.s (.one (.lf (.i _ j)))=>match (A8 fr.m st.m)[p]? with
   | some (.arr _ sz' _ tc v)=>cond (Nat.beq sz' (tc.size T)&&Nat.beq (tc.size T) sz) ((idx v j).bind λu=>K (.oel p j sz 0 tc u)) none
   | _=>none
  | _,_,_=>none
 | .call ⟨.builtin .len,⟨[x]⟩,⟨[t]⟩⟩=>match Inf.si P t,opx fr st x with
  | some (_,sz),.s (.one (.own p))=>match (A8 fr.m st.m)[p]? with
   | some (.arr _ sz' _ tc v)=>cond (Nat.beq sz' (tc.size T)&&Nat.beq (tc.size T) sz) (K (.s (.one (.lf (.i .i64 (v.length:Int)))))) none
   | _=>none
  | _,_=>none
 | .fieldAddr s x f=>match Inf.fi P s f,opx fr st x with
  | some off,.oel p j sz o t u=>match (A8 fr.m st.m)[p]? with
   | some (.arr _ sz' _ tc _)=>cond (Nat.beq sz' (tc.size T)&&Nat.beq (tc.size T) sz) (K (.oel p j sz (o+off) t u)) none
   | _=>none
  | _,_=>none
 | .load t x=>match Inf.ti P t,opx fr st x with
  | some i,.oel p j sz o t u=>match (A8 fr.m st.m)[p]? with
   | some (.arr _ sz' _ tc _)=>cond (Nat.beq sz' (tc.size T)&&Nat.beq (tc.size T) sz) (match ldC i ((Ahh t u).drop o) with
    | some y=>K (.s y)
    | none=>none) none
   | _=>none
  | _,_=>none
 | _=>none
omit [El T P] in
theorem At1 {K:VX T->Option R} (h:A6q P fr st K op=some r):∃ x,K x=some r/\OpV P c (st.toAS fr) op ty (x.toAV (st.M fr)):=by
 have szs:∀ {a b c:Nat},(Nat.beq a b&&Nat.beq b c)=true->b=a/\c=a:=λh=>by
  rw[zG] at h
  have h1:=zM h.1
  have h2:=zM h.2
  exact⟨h1.symm,(h1.trans h2).symm⟩
 unfold A6q at h
 split at h
 ·split at h
  ·rename_i t x y _ _ _ e sz p k' j hi hx hy
   split at h
   ·rename_i e' sz' kk tc v hb
    obtain⟨hc,g⟩:=A9 h
    clear h
    obtain⟨h1,h2⟩:=szs hc
    subst h2
    subst h1
    obtain⟨u,hu,g⟩:=Ap g
    refine⟨_,g,?_⟩
    rw[show(VX.oel p j _ 0 tc u:VX T).toAV (st.M fr)=_ from Ar8 hb ⟨rfl,hu⟩]
    exact Gm (f:=Oy T tc) (Inf.si_ok hi) (Lz T tc) (Anq hx hb) (Aq9 hb) rfl rfl (Db hy) hu
   ·cases h
  ·cases h
 ·split at h
  ·rename_i x t _ _ e sz p hi hx
   split at h
   ·rename_i e' sz' kk tc v hb
    obtain⟨hc,g⟩:=A9 h
    clear h
    obtain⟨h1,h2⟩:=szs hc
    subst h2
    exact⟨_,g,L9 (Inf.si_ok hi) (Anq hx hb) (Aq9 hb) (by rw[Aru,h1])⟩
   ·cases h
  ·cases h
 ·split at h
  ·rename_i s x f _ _ off p j sz o t u hi hx
   split at h
   ·rename_i e' sz' kk tc v hb
    obtain⟨hc,g⟩:=A9 h
    clear h
    obtain⟨h1,h2⟩:=szs hc
    subst h2
    refine⟨_,g,?_⟩
    rcases Acd hx hb with hu|hu
    ·rw[show(VX.oel p j sz (o+off) t u:VX T).toAV (st.M fr)=_ from Ar8 hb hu,<- jD]
     exact Lv (Inf.fi_ok hi) (Aig hx hb hu) (Aq9 hb) (by rw[Aru,h1])
    ·exact Avt hu
   ·cases h
  ·cases h
 ·split at h
  ·rename_i t x _ _ i p j sz o t' u hi hx
   split at h
   ·rename_i e' sz' kk tc v hb
    obtain⟨hc,g⟩:=A9 h
    clear h
    obtain⟨h1,h2⟩:=szs hc
    subst h2
    subst h1
    split at g
    ·rename_i y hy
     refine⟨_,g,?_⟩
     rcases Acd hx hb with hu|hu
     case inr=>exact Avt hu
     obtain⟨e,hu⟩:=hu
     have e:t'=tc:=e
     subst e
     have hu:idx v j=some u:=hu
     have hptr:Ady (st.toAS fr) (Lf.ap p v.length (j.toNat*t'.size T+o)) ((v.flatMap (Oy T t')).drop (j.toNat*t'.size T+o)):=.ap _ _ _ _ _ _ _ (Aq9 hb) (by rw[Aru])
     have hd:(v.flatMap (Oy T t')).drop (j.toNat*t'.size T+o)=((Ahh t' u).drop o).map (X.toLf (st.L fr))++(if o<=t'.size T then(v.drop (j.toNat+1)).flatMap (Oy T t') else((v.drop (j.toNat+1)).flatMap (Oy T t')).drop (o-t'.size T)):=by
      rw[<- kL,Wo (Lz T t') (Hu hu).2,jA,Lz,j9,Ago]
      split
      ·rename_i hle;rw[Nat.sub_eq_zero_of_le hle];rfl
      ·rfl
     rw[hd] at hptr
     unfold ldC at hy
     split at hy
     ·rename_i y' r' hcs
      cases hy
      rw[hcs] at hptr
      exact T0 (Inf.ti_ok hi) (Aig hx hb ⟨rfl,hu⟩) hptr rfl
     ·rename_i s cs
      obtain⟨hb2,hy⟩:=A9 hy
      cases hy
      have hle:=yN hb2
      have:=Rb (P:=P) (c:=c) (ty:=ty) (Inf.ti_ok hi) (Aig hx hb ⟨rfl,hu⟩) hptr (by rw[zI,zP];omega)
      rw[xG (by rw[zP];exact hle),<- jO] at this
      exact this
     ·cases hy
    ·cases g
   ·cases h
  ·cases h
 ·cases h
def A4o (fr:Fr T) (st:XS T) (t:Tc):Nat->List (Nat×Operand)->Option (List (den T t))
 | _,[]=>some []
 | n,p::ps=>match opx fr st p.2 with
  | .s x=>cond (Nat.beq p.1 n&&x.pub&&Nat.beq x.cells.length (t.size T)) (match A2f t x with
   | some v=>match A4o fr st t (n+1) ps with
    | some vs=>some (v::vs)
    | none=>none
   | none=>none) none
  | _=>none
omit [Inf P] [El T P] in
theorem An1:∀ {ps:List (Nat×Operand)} {n:Nat} {vs:List (den T t)},A4o fr st t n ps=some vs ->
  vs.length=ps.length/\∃ out xs,out.all Lf.pubd=true/\out.map Lf.canon=vs.flatMap (Oy T t)/\Aci (st.toAS fr) ps xs/\∀ pre tail:List Lf,pre.length=n*t.size T->tail.length=vs.length*t.size T->Yk (λi:Nat=>some (i*t.size T,t.size T)) (pre++tail) xs (pre++out)
 | [],n,vs,h=>by
  cases h
  refine⟨rfl,[],[],rfl,rfl,Li,λpre tail _ ht=>?_⟩
  have:tail=[]:=yE (by simpa using ht)
  subst this
  exact .nil _
 | p::ps,n,vs,h=>by
  unfold A4o at h
  split at h
  ·rename_i x hx
   obtain⟨hb,h⟩:=A9 h
   rw[zG,zG] at hb
   obtain⟨⟨hb1,hb2⟩,hb3⟩:=hb
   split at h
   ·rename_i v hv
    split at h
    ·rename_i us hus
     cases h
     obtain⟨h1,out,xs,h2,h2',h3,h4⟩:=An1 hus
     have hc:=Apt (st.L fr) hv
     have hpv:=SX.pub_ok (st.L fr) hb2
     have hsz:(x.toSV (st.L fr)).cells.length=t.size T:=by rw[SX.cells_ok,zP];exact zM hb3
     refine⟨congrArg (·+1) h1,(x.toSV (st.L fr)).cells++out,_,by rw[List.all_append,hpv,h2];rfl,by rw[xJ,hc,h2'];rfl,Ed (i:=p.1) (Aa0 hx) h3,λpre tail hpre ht=>?_⟩
     rw[zM hb1]
     have e1:Eu (pre++tail) (n*t.size T) (x.toSV (st.L fr)).cells=(pre++(x.toSV (st.L fr)).cells)++tail.drop (t.size T):=by
      unfold Eu
      rw[hsz,<- hpre,List.take_left,jA]
      have:List.drop (pre.length+t.size T) pre=[]:=List.drop_eq_nil_of_le (by omega)
      rw[this,wO,Nat.add_sub_cancel_left]
     refine A51 _ rfl hsz ?_ e1 ?_
     ·rw[zI,hpre,ht]
      have:(us.length+1)*t.size T=us.length*t.size T+t.size T:=kS _ _
      show n*t.size T+t.size T<=n*t.size T+(us.length+1)*t.size T
      omega
     ·have:=h4 (pre++(x.toSV (st.L fr)).cells) (tail.drop (t.size T)) (by rw[zI,hpre,hsz,kS]) (by rw[yF,ht];show(us.length+1)*t.size T-t.size T=_;rw[kS];omega)
      rw[<- xE]
      exact this
    ·cases h
   ·cases h
  ·cases h
omit [Inf P] in
theorem Bbi {rest:List Oper} {pos:String} {af:Array Edge} {t:Nat->AV} {m:List Blk} {α:Type} {f:α->List Lf} {t' i s:Nat} (o:Nat) {y:Operand} {cs:List Lf} {xs:List α} {u u':α} {v:SV} (hi:(P.info? t').map (·.size)=some s) (hf:∀ x,(f x).length=sz) (hcan:∀ x,(f x).map Lf.canon=f x) (hx:Bg ⟨t,m⟩ x=.s (.one (.ap p n (i*sz+o)))) (hy:Bg ⟨t,m⟩ y=.s v) (hm:m[p]? = some (.arr e sz 0 cs)) (hcs:cs=xs.flatMap f) (hn:n=xs.length)
  (hv:v.cells.length=s) (hpub:∀ l∈v.cells,l.pubd=true) (hu:xs[i]? = some u) (ho:o+s<=sz) (hu':Eu (f u) o (v.cells.map Lf.canon)=f u')
  (kk:AWL P c ops Q rest ⟨t,m.set p (.arr e sz 0 ((xs.set i u').flatMap f))⟩):AWL P c ops Q (⟨none,.store t' x y,ty,pos,af,none⟩::rest) ⟨t,m⟩:=by
 have hil:=(zB.1 hu).1
 refine Amm hi hx hy hm (by rw[hcs,A4 hf,hn]) hv hpub (by omega) ?_ ?_
 ·rw[hcs,A4 hf]
  calc i*sz+o+s<=i*sz+sz:=by omega
   _=(i+1)*sz:=by rw[wJ,wW]
   _<=xs.length*sz:=xV _ hil
 ·have hp:p<m.length:=(zB.1 hm).1
  refine Aq8 (cs:=Eu cs (i*sz+o) v.cells) (zN hp) ?_
  have hall:cs.map Lf.canon=cs:=by
   rw[hcs,List.map_flatMap]
   congr 1
   funext x
   exact hcan x
  have e:(Eu cs (i*sz+o) v.cells).map Lf.canon=(xs.set i u').flatMap f:=by
   rw[Akn,hall,hcs,Aps (a:=f u) (by rw[zP,hv,hf];omega) ⟨_,Wo hf hu⟩ hu' (by rw[hf,hf]),Aop hf u' hil]
  rw[e,jY]
  exact kk
def A9x (fr:Fr T) (st:XS T):Op->Bool
 | .buildSlice .. =>true
 | .call ⟨.builtin .append,_,_⟩=>true
 | .store _ x _=>A4h (opx fr st x)
 | _=>false
def Ba7 (nt:Nat) (fr:Fr T) (st:XS T) (e sz:Nat) (t:Tc) (x:Operand) (K:Nat->XS T->Option R):Option R:=match opx fr st x with
 | .s (.one (.own p))=>K p st
 | .s (.one (.lf l))=>match x with
  | .tmp i=>cond (Ar1 l&&Nat.blt 0 sz) (K st.m.length (A4i fr st i e sz t [])) none
  | _=>none
 | _=>none
def Ba5 (nt:Nat) (fr:Fr T) (st:XS T) (K:XS T->Option R):Option Tmp->Op->Option R
 | some d,.buildSlice t 0 ⟨[]⟩=>match El.el T P t with
  | some (e,_,tc)=>cond (Nat.blt d nt) (K (A4i fr st d e (tc.size T) tc [])) none
  | none=>none
 | some d,.buildSlice t (n+1) ⟨ps⟩=>match El.el T P t with
  | some (e,_,tc)=>cond (Nat.blt d nt&&Nat.beq (n+1) ps.length&&Nat.ble ((n+1)*tc.size T) 16777216) (match A4o fr st tc 0 ps with
   | some vs=>K (A4i fr st d e (tc.size T) tc vs)
   | none=>none) none
  | none=>none
 | some d,.call ⟨.builtin .append,⟨[x,y]⟩,⟨[t,t2]⟩⟩=>match El.el T P t,El.el T P t2 with
  | some (e,b,tc),some _=>Ba7 nt fr st e (tc.size T) tc x λp st=>match opx fr st y with
   | .s (.one (.row t' us))=>match (A8 fr.m st.m)[p]? with
    | some (.arr e' sz k ta xs)=>cond (Nat.blt d nt&&Nat.beq e e'&&Nat.beq (tc.size T) sz&&Nat.beq (ta.size T) sz) (match Tc.cast? t' ta (λt=>List (den T t)) us with
     | some us=>if (xs.length+us.length)*b<=140737488355328 then K (A87 fr st d p e' sz k ta (xs++us)) else none
     | none=>none) none
    | _=>none
   | _=>none
  | _,_=>none
 | none,.store t x y=>match Inf.ti P t,opx fr st x,opx fr st y with
  | some (_,s),.oel p j sz o t' u,.s v=>match (A8 fr.m st.m)[p]? with
   | some (.arr e sz' 0 tc w)=>cond (Nat.beq (tc.size T) sz&&Nat.beq sz' sz&&v.pub&&Nat.beq v.cells.length s&&Nat.ble (o+s) sz) (match A2f tc (mkS tc (A4c (Ahh t' u) o v.cells)) with
    | some u'=>K ⟨st.dropP fr (A6x p),st.m.set p (some (.arr e sz' 0 tc (w.set j.toNat u')))⟩
    | none=>none) none
   | _=>none
  | _,_,_=>none
 | _,_=>none
section
variable {c:Ctx} {ops:Array Oper} {Q:Exit->AS->Prop} {rest:List Oper} {ty:TypeId} {pos:String} {af:Array Edge}
omit [TX T] [El T P] [Inf P] in
theorem A24 {nt:Nat} {K:Nat->XS T->Option R} (h:Ba7 nt fr st e sz t x K=some r) (k:∀ p st',opx fr st' x=.s (.one (.own p))->K p st'=some r->AWL P c ops Q l (st'.toAS fr)):AWL P c ops Q l (st.toAS fr):=by
 unfold Ba7 at h
 split at h
 ·rename_i p hp;exact k _ _ hp h
 ·rename_i lf hx
  split at h
  ·rename_i i
   obtain⟨hb,g⟩:=A9 h
   clear h
   rw[zG] at hb
   have hn:=Aca hb.1
   subst hn
   refine A47 e sz i (Dl hb.2) (by have:=Db hx;exact this) ?_
   exact Ahu (Af9 (fr:=fr) (st:=st) (d:=i) (e:=e) (sz:=sz) (t:=t) (v:=[])) (k _ _ (by show cond (Nat.beq i i) _ _=_;rw[show Nat.beq i i=true from by simp];rfl) g)
  ·cases h
 ·cases h
theorem A2i (h:Ba5 (P:=P) c.nt fr st K dst op=some r) (k:∀ st',K st'=some r->AWL P c ops Q rest (st'.toAS fr)) :
  AWL P c ops Q (⟨dst,op,ty,pos,af,none⟩::rest) (st.toAS fr):=by
 unfold Ba5 at h
 split at h
 ·split at h
  ·rename_i d t _ e by_ tc he
   obtain⟨hd,h⟩:=A9 h
   obtain⟨hu,⟨zl,ei⟩,_⟩:=El.el_ok he
   refine Atj (by rw[decide_eq_true_eq];exact Dl hd) hu ei ?_
   exact Ahu (Af9 (fr:=fr) (st:=st) (d:=d) (e:=e) (sz:=tc.size T) (t:=tc) (v:=[])) (k _ h)
  ·cases h
 ·split at h
  ·rename_i d t n ps _ e by_ tc he
   obtain⟨hb,h⟩:=A9 h
   simp only[zG] at hb
   obtain⟨⟨h1,h2⟩,h3⟩:=hb
   split at h
   ·rename_i vs hvs
    obtain⟨hu,⟨zl,ei⟩,_⟩:=El.el_ok he
    obtain⟨hl,out,xs,ho1,ho2,hp,hB⟩:=An1 hvs
    have hln:vs.length=n+1:=by rw[hl];exact(zM h2).symm
    have hna:=Adc (Pb (P:=P) (c:=c) (ty:=ty) hu ei hp (hB [] (Agy zl ((n+1)*tc.size T)) (by simp) (by rw[J2,hln])) (λl hl=>zJ.1 ho1 l (by simpa using hl)) (yN h3))
    rw[wO,ho2] at hna
    refine Yf ei.p (Dl h1) hna ?_
    rw[<- hln]
    exact Ahu (Af9 (fr:=fr) (st:=st) (d:=d) (e:=e) (sz:=tc.size T) (t:=tc) (v:=vs)) (k _ h)
   ·cases h
  ·cases h
 ·split at h
  ·rename_i d x y t t2 _ _ e by_ tc z he h2
   refine A24 h λp st hx h=>?_
   split at h
   ·rename_i t' us hy
    split at h
    ·rename_i e' sz kk ta xs hm
     obtain⟨hb,h⟩:=A9 h
     simp only[zG] at hb
     obtain⟨⟨⟨h1,h3⟩,h4⟩,h5⟩:=hb
     split at h
     ·rename_i us' hus
      obtain⟨hbytes,h⟩:=Ht h
      obtain⟨eqt,hus⟩:=Tc.cast?_some (F:=λt=>List (den T t)) hus
      subst eqt
      subst hus
      cases zM h3
      have hsz:=zM h5
      obtain⟨hu,⟨zl,ei⟩,hpos⟩:=El.el_ok he
      obtain⟨hu2,_,_⟩:=El.el_ok (e:=z.1) (b:=z.2.1) (c:=z.2.2) h2
      rw[zM h4] at ei
      have hlen:=Aru (T:=T) t'
      refine Azg (f:=Oy T t') (sz:=sz) (us:=us) (mm:=us.length) (ys:=us.flatMap (Oy T t')) (xs:=xs) (by rw[decide_eq_true_eq];exact Dl h1) hu ei ⟨.inl ⟨_,hu2⟩⟩ (λv=>by rw[Lz,hsz]) (Anq hx hm) (Db hy) (.one _ _ _ _ (.id _ rfl)) (Aq9 hm) rfl rfl (.sl _ _ _ (by rw[hlen,hsz])) rfl rfl hbytes hpos ?_
      have hlt:p<(A8 fr.m st.m).length:=(zB.1 hm).1
      exact Ahu (Aoo hlt) (k _ h)
     ·cases h
    ·cases h
   ·cases h
  ·cases h
 ·split at h
  ·rename_i t x y _ _ _ ag s p j sz o t' u v hi hx hy
   split at h
   ·rename_i e sz' tc w hb
    obtain⟨hc,g⟩:=A9 h
    clear h
    simp only[zG] at hc
    obtain⟨⟨⟨⟨h1,h2⟩,h3⟩,h4⟩,h5⟩:=hc
    have hsz:=zM h1
    have hsz':=zM h2
    clear h1 h2
    subst hsz'
    subst hsz
    split at g
    ·rename_i u' hu'
     rcases Acd hx hb with hu|hu
     case inr=>exact A1a hu
     have hu0:=hu
     obtain⟨e0,hu⟩:=hu
     have e0:t'=tc:=e0
     subst e0
     have hu:idx w j=some u:=hu
     have hc:=Apt (st.L fr) hu'
     rw[A43,Aiy,Ago,<- SX.cells_ok,Akn,Ajy] at hc
     refine Bbi (f:=Oy T t') (u:=u) (u':=u') o (Inf.ti_ok hi).i (Lz T t') (Ajy t') (Aig hx hb hu0) (Aa0 hy) (Aq9 hb) rfl rfl (by rw[SX.cells_ok,zP];exact zM h4) (λl hl=>zJ.1 (SX.pub_ok _ h3) l hl) (Hu hu).2 (yN h5) hc ?_
     exact Ahu (A2a hb) (k _ g)
    ·cases g
   ·cases h
  ·cases h
 ·cases h
end
def Aow (fr:Fr T) (st:XS T):Op->Bool
 | .binOp .quo .. =>true
 | .binOp .rem .. =>true
 | .binOp .shl .. =>true
 | .binOp .shr .. =>true
 | .binOp .and .. =>true
 | .binOp .or .. =>true
 | .binOp .xor .. =>true
 | .slice _ x _ _ none=>match opx fr st x with
  | .s (.one (.row ..))=>true
  | _=>false
 | _=>false
def A8u (fr:Fr T) (st:XS T) (z:Int):Option Operand->Option Int
 | none=>some z
 | some o=>match opx fr st o with
  | .s (.one (.lf (.i _ n)))=>some n
  | _=>none
def A7a (P:Program) [Inf P] (fr:Fr T) (st:XS T) (K:VX T->Option R):Op->Option R
 | .binOp .quo _ x y _=>match opx fr st x,opx fr st y with
  | .s (.one (.lf (.i k n))),.s (.one (.lf (.i k' m)))=>if _h:k=k' then(if m≠0 then K (.s (.one (.lf (.i k (k.wrap (n.tdiv m)))))) else none) else none
  | _,_=>none
 | .binOp .rem _ x y _=>match opx fr st x,opx fr st y with
  | .s (.one (.lf (.i k n))),.s (.one (.lf (.i k' m)))=>if _h:k=k' then(if m≠0 then K (.s (.one (.lf (.i k (n.tmod m))))) else none) else none
  | _,_=>none
 | .binOp .shl _ x y _=>match opx fr st x,opx fr st y with
  | .s (.one (.lf (.i k n))),.s (.one (.lf (.i _ m)))=>if 0<=m then K (.s (.one (.lf (.i k (k.wrap (n*2 ^ (min m.toNat k.bits))))))) else none
  | _,_=>none
 | .binOp .shr _ x y _=>match opx fr st x,opx fr st y with
  | .s (.one (.lf (.i k n))),.s (.one (.lf (.i _ m)))=>if 0<=m then K (.s (.one (.lf (.i k (n.fdiv (2 ^ (min m.toNat k.bits))))))) else none
  | _,_=>none
 | .binOp .and _ x y _=>match opx fr st x,opx fr st y with
  | .s (.one (.lf (.i k n))),.s (.one (.lf (.i k' m)))=>if _h:k=k' then K (.s (.one (.lf (.i k (k.wrap ((BitVec.ofInt k.bits n &&& BitVec.ofInt k.bits m).toNat:Int)))))) else none
  | _,_=>none
 | .binOp .or _ x y _=>match opx fr st x,opx fr st y with
  | .s (.one (.lf (.i k n))),.s (.one (.lf (.i k' m)))=>if _h:k=k' then K (.s (.one (.lf (.i k (k.wrap ((BitVec.ofInt k.bits n ||| BitVec.ofInt k.bits m).toNat:Int)))))) else none
  | _,_=>none
 | .binOp .xor _ x y _=>match opx fr st x,opx fr st y with
  | .s (.one (.lf (.i k n))),.s (.one (.lf (.i k' m)))=>if _h:k=k' then K (.s (.one (.lf (.i k (k.wrap ((BitVec.ofInt k.bits n ^^^ BitVec.ofInt k.bits m).toNat:Int)))))) else none
  | _,_=>none
 | .slice t x lo hi none=>match Inf.si P t,opx fr st x with
  | some (_,sz),.s (.one (.row tc v))=>match A8u fr st 0 lo,A8u fr st (v.length:Int) hi with
   | some l,some h=>cond (Nat.beq (tc.size T) sz) ((cut v l h).bind λys=>K (.s (.one (.row tc ys)))) none
   | _,_=>none
  | _,_=>none
 | _=>none
omit [TX T] [Inf P] [El T P] in
theorem Atm {z n:Int} {o:Option Operand} (h:A8u fr st z o=some n) (h0:0<=n):Anr (st.toAS fr) o z.toNat n.toNat:=by
 unfold A8u at h
 split at h
 ·cases h;exact Ah7
 ·split at h
  ·rename_i k m hx;cases h;exact Ahq (Db hx) h0
  ·cases h
omit [El T P] [TX T] in
theorem Auu {K:VX T->Option R} (h:A7a P fr st K op=some r):∃ x,K x=some r/\OpV P c (st.toAS fr) op ty (x.toAV (st.M fr)):=by
 unfold A7a at h
 split at h
 ·split at h
  ·rename_i h1 h2
   split at h
   ·rename_i e
    subst e
    obtain⟨hm,g⟩:=Ht h
    exact⟨_,g,Ayw (Db h1) (Db h2) hm⟩
   ·cases h
  ·cases h
 ·split at h
  ·rename_i h1 h2
   split at h
   ·rename_i e
    subst e
    obtain⟨hm,g⟩:=Ht h
    exact⟨_,g,A3u (Db h1) (Db h2) hm⟩
   ·cases h
  ·cases h
 ·split at h
  ·rename_i h1 h2
   obtain⟨hm,g⟩:=Ht h
   exact⟨_,g,A1z (Db h1) (Db h2) hm⟩
  ·cases h
 ·split at h
  ·rename_i h1 h2
   obtain⟨hm,g⟩:=Ht h
   exact⟨_,g,A25 (Db h1) (Db h2) hm⟩
  ·cases h
 ·split at h
  ·rename_i h1 h2
   split at h
   ·rename_i e;subst e;exact⟨_,h,A03 (Db h1) (Db h2)⟩
   ·cases h
  ·cases h
 ·split at h
  ·rename_i h1 h2
   split at h
   ·rename_i e;subst e;exact⟨_,h,A6y (Db h1) (Db h2)⟩
   ·cases h
  ·cases h
 ·split at h
  ·rename_i h1 h2
   split at h
   ·rename_i e;subst e;exact⟨_,h,A2c (Db h1) (Db h2)⟩
   ·cases h
  ·cases h
 ·split at h
  ·rename_i t x lo hi _ _ e sz tc v hs hx
   split at h
   ·rename_i l u hl hu
    obtain⟨hc,g⟩:=A9 h
    obtain⟨ys,hy,g⟩:=Ap g
    have hb:=(Al3 hy).1
    have hsz:=zM hc
    have si:=Inf.si_ok hs
    rw[<- hsz] at si
    have hu':=Atm hu (by omega)
    rw[z6] at hu'
    exact⟨_,g,Ar9 (f:=Oy T tc) si (Lz T tc) (Db hx) rfl rfl (Atm hl hb.1) hu' hy⟩
   ·cases h
  ·cases h
 ·cases h
def Bbe (fr:Fr T) (st:XS T):Op->List Operand
 | .move _=>[]
 | .assign _=>[]
 | .indexAddr _ _ _=>[]
 | .fieldAddr _ _ _=>[]
 | .load _ _=>[]
 | .store _ x y=>cond (A4h (opx fr st x)) [y] []
 | .call ⟨.builtin .len,_,_⟩=>[]
 | .call ⟨.builtin .append,⟨[_,y]⟩,_⟩=>[y]
 | .call ⟨_,⟨args⟩,_⟩=>args
 | .buildSlice _ _ ⟨ps⟩=>ps.map (·.2)
 | .slice _ x _ _ _=>[x]
 | _=>[]
def A97 (nt:Nat) (fr:Fr T) (st:XS T) (K:XS T->Option R) (O:List (Nat×Aei T P)):Option Tmp->Op->Option (Option R)
 | some d,.call ⟨.value (.func f),⟨args⟩,_⟩=>match lkO O d with
  | some c=>some (match A3s fr st args with
   | some xs=>cond (Nat.beq c.f f&&Inf.fn P f&&xs.all SX.pub&&Nat.blt d nt) ((Anx c.A xs).bind λa=>(c.model a).bind λr=>K (Bbg fr st d c.e (c.t.size T) c.t (c.row r) (svX c.sv st.m.length r))) none
   | none=>none)
  | none=>none
 | _,_=>none
def Bba (nt:Nat) (F:List (Am3 T P)) (fr:Fr T) (st:XS T) (K:XS T->Option R) (dst:Option Tmp) (op:Op):Option R :=
 cond (Aow fr st op) (match dst with
  | some d=>cond (Nat.blt d nt) (A7a P fr st (λx=>K (st.upd d x)) op) none
  | none=>none) (cond (A9x fr st op) (Ba5 (P:=P) nt fr st K dst op) (cond (A5m fr st op) (match dst with
  | some d=>cond (Nat.blt d nt) (A6q P fr st (λx=>K (st.upd d x)) op) none
  | none=>none) (evO nt F fr st K dst op)))
def A8g (nt:Nat) (F:Cds T P) (fr:Fr T) (st:XS T) (K:XS T->Option R) (dst:Option Tmp) (op:Op):Option R:=Azu fr (Bbe fr st op) st λst=>match A97 nt fr st K F.O dst op with
 | some r=>r
 | none=>Bba nt F.F fr st K dst op
section
variable {c:Ctx} {ops:Array Oper} {Q:Exit->AS->Prop} {rest:List Oper} {ty:TypeId} {pos:String} {af:Array Edge} {F:List (Am3 T P)}
theorem A1u (h:Bba c.nt F fr st K dst op=some r) (k:∀ st',K st'=some r->AWL P c ops Q rest (st'.toAS fr)) :
  AWL P c ops Q (⟨dst,op,ty,pos,af,none⟩::rest) (st.toAS fr):=by
 unfold Bba at h
 cases e0:Aow fr st op with
 | true =>
  rw[e0] at h
  cases dst with
  | none=>cases h
  | some d =>
   have g:cond (Nat.blt d c.nt) (A7a P fr st (λx=>K (st.upd d x)) op) none=some r:=h
   obtain⟨hd,g⟩:=A9 g
   obtain⟨x,h1,h2⟩:=Auu g
   exact Aq6 h2 (Dl hd) (Acj (k _ h1))
 | false =>
 rw[e0] at h
 change cond (A9x fr st op) _ _=some r at h
 cases e:A9x fr st op with
 | true=>rw[e] at h;exact A2i h k
 | false =>
 rw[e] at h
 change cond (A5m fr st op) _ _=some r at h
 cases e2:A5m fr st op with
 | true =>
  rw[e2] at h
  cases dst with
  | none=>cases h
  | some d =>
   have g:cond (Nat.blt d c.nt) (A6q P fr st (λx=>K (st.upd d x)) op) none=some r:=h
   obtain⟨hd,g⟩:=A9 g
   obtain⟨x,h1,h2⟩:=At1 g
   exact Aq6 h2 (Dl hd) (Acj (k _ h1))
 | false=>rw[e2] at h;exact A6t h k
omit [Inf P] in
theorem Dk.tell {f:FuncId} {xs ys:List SV} {R:AV->List Blk->Prop} (h:Dk P f [] ys R) (t:Mh xs ys):Dk P f [] xs R:=λw S H vs hS hm hv=>h w S H vs hS hm (t.grep hv)
omit [El T P] in
theorem A15 {O:List (Nat×Aei T P)} (h:A97 c.nt fr st K O dst op=some (some r)) (k:∀ st',K st'=some r->AWL P c ops Q rest (st'.toAS fr)) :
  AWL P c ops Q (⟨dst,op,ty,pos,af,none⟩::rest) (st.toAS fr):=by
 unfold A97 at h
 split at h
 ·rename_i d f args ats
  split at h
  ·rename_i cd hcd
   have h:=zF h
   split at h
   ·rename_i xs hx
    obtain⟨hb,g⟩:=A9 h
    clear h
    simp only[zG] at hb
    obtain⟨⟨⟨h1,h2⟩,h3⟩,h4⟩:=hb
    have hf:=zM h1
    subst hf
    obtain⟨a,ha,g⟩:=Ap g
    obtain⟨u,hu,g⟩:=Ap g
    have hp:∀ x∈xs.map (SX.toSV (st.L fr)),x.cells.all Lf.pubd=true:=λx hx=>by
     obtain⟨y,hy,rfl⟩:=yA.1 hx
     exact SX.pub_ok _ (zJ.1 h3 y hy)
    refine Kv (x':=.s (svS T cd.sv (st.toAS fr).m.length (cd.row u).length u)) (M':=(st.toAS fr).m++[.arr cd.e (cd.t.size T) 0 ((cd.row u).flatMap (Oy T cd.t))]) [] (by rw[decide_eq_true_eq];exact Dl h4) (Inf.fn_ok h2) (.func _) (Ae1 hx) ((cd.ok a u hu).tell (X2 (st.L fr) ha)) ?_ rfl kM ?_ (congrArg AV.s A2r) rfl ?_
    ·show[].map _++xs.map (SX.toSV (st.L fr))++[].map _=_
     simp only[List.map_nil,wO,xC]
     conv=>lhs;rw[<- wR (xs.map (SX.toSV (st.L fr)))]
     exact xU λx hx=>(Awy (hp x hx)).symm
    ·rw[zG,zJ]
     refine⟨λx hx=>?_,rfl⟩
     have:=hp x hx
     cases x with
     | one l=>exact Aip (by simpa [SV.cells] using this)
     | agg ls=>exact zJ.2 λl hl=>Aip (zJ.1 this l hl)
    ·exact Ahu (A0y λL hL=>(A58 L).trans (by rw[hL,show(st.toAS fr).m.length=st.m.length from by simp [XS.toAS,M8,XS.M,D8]])) (k _ g)
   ·cases h
  ·cases h
 ·cases h
theorem Anp {F:Cds T P} (h:A8g c.nt F fr st K dst op=some r) (k:∀ st',K st'=some r->AWL P c ops Q rest (st'.toAS fr)) :
  AWL P c ops Q (⟨dst,op,ty,pos,af,none⟩::rest) (st.toAS fr):=by
 refine Afj (λst h=>?_) h
 split at h
 ·rename_i o ho
  subst h
  exact A15 ho k
 ·exact A1u h k
end
end
open Go.RowKit
section
variable {x:Code} {c:Ctx} {Q:Exit->AS->Prop} {p:Nat} {t:Nat->AV} {P:Program} {R:Type}
def Eb (c:Ctx) (st st2:AS):Prop:=∀ a w S H,Rel c st a w S H->∃ S' H',Rel c st2 a w S' H'
theorem Eb.refl (c:Ctx) (st:AS):Eb c st st:=λ_ _ S H r=>⟨S,H,r⟩
theorem Eb.trans {a b d:AS} (h:Eb c a b) (k:Eb c b d):Eb c a d:=λac w S H r=>by
 obtain⟨S1,H1,r1⟩:=h ac w S H r
 exact k ac w S1 H1 r1
theorem Eb.of {a b:AS} (h:∀ ac w S H,Rel c a ac w S H->Rel c b ac w S H):Eb c a b:=λac w S H r=>⟨S,H,h ac w S H r⟩
theorem Eb.wk {a b:AS} (h:Wk a b):Eb c a b:=.of λ_ _ _ _ r=>Akf h.1 h.2.1 (λq x x' h1 h2=>.inr (h.2.2 q x x' h1 h2)) r
def Cl (c:Ctx) (Q:Exit->AS->Prop) (e:Exit) (st:AS):Prop:=∃ st2,Eb c st st2/\Q e st2
theorem Az0 {st:AS} (h:AWC P c x (Cl c Q) st):AWC P c x Q st:=λa w S H r =>
 wp_mono (h a w S H r) λ_ _ _ ⟨_,_,_,r',st2,hc,hq⟩=>let ⟨S2,H2,r2⟩:=hc _ _ _ _ r';⟨st2,S2,H2,r2,hq⟩
theorem Ahe {st st2:AS} (hc:Eb c st st2) (h:AWC P c x Q st2):AWC P c x Q st:=λa w S H r=>let ⟨S2,H2,r2⟩:=hc a w S H r;h a w S2 H2 r2
theorem Aka {body:Code} {st:AS} {G:Type} (hd:G->AS) (pre:G->Prop) (μ:G->Nat) (g0:G) (p0:pre g0) (h0:Eb c st (hd g0))
  (round:∀ g,pre g->AWC P c body (Gx (λst'=>∃ g',pre g'/\Eb c st' (hd g')/\μ g'<μ g) Q) (hd g)):AWC P c (.loop body) Q st:=by
 intro a w S H r
 have key:∀ n,∀ g a w S H,pre g->μ g=n->Rel c (hd g) a w S H->∀ (b:Frame) (k:List Item) (cs:List Frame),
   ∃ e a' w',QR c Q e a' w'/\Arrives P (lone (b.at a (.code body::.inLoop body::k)) cs w) b k cs e a' w':=by
  intro n
  induction n using Nat.strongRecOn with
  | _ n ih =>
   intro g a w S H hp hn r b k cs
   obtain⟨e,a₁,w₁,hq,harr⟩:=round g hp a w S H r b (.inLoop body::k) cs
   obtain⟨st',S',H',r',hq⟩:=hq
   cases e with
   | normal =>
    obtain⟨g',hp',hc,hlt⟩:=hq
    obtain⟨S2,H2,r2⟩:=hc _ _ _ _ r'
    obtain⟨e₂,a₂,w₂,hq₂,harr₂⟩:=ih (μ g') (hn ▸ hlt) g' a₁ w₁ S2 H2 hp' rfl r2 b k cs
    exact⟨e₂,a₂,w₂,hq₂,.of_steps (Steps.trans harr (.one step_inLoop)) harr₂⟩
   | exit id=>exact⟨_,a₁,w₁,⟨st',S',H',r',hq⟩,.pass (x:=.inLoop body) rfl (λ_ _=>.inl (by simp)) harr⟩
   | goto l=>exact⟨_,a₁,w₁,⟨st',S',H',r',hq⟩,.pass (x:=.inLoop body) rfl (λ_ _=>.inl (by simp)) harr⟩
   | ret=>exact⟨_,a₁,w₁,⟨st',S',H',r',hq⟩,.pass (x:=.inLoop body) rfl (λ_ _=>.inl (by simp)) harr⟩
   | panic ch=>exact⟨_,a₁,w₁,⟨st',S',H',r',hq⟩,.pass (x:=.inLoop body) rfl (λ_ _=>.inl (by simp)) harr⟩
   | outgrown=>exact⟨_,a₁,w₁,⟨st',S',H',r',hq⟩,.pass (x:=.inLoop body) rfl (λ_ _=>.inl (by simp)) harr⟩
 intro b k cs
 obtain⟨S2,H2,r2⟩:=h0 _ _ _ _ r
 obtain⟨e,a',w',hq,harr⟩:=key _ g0 a w S2 H2 p0 rfl r2 b k cs
 exact⟨e,a',w',hq,.of_steps (.one step_loop) harr⟩
def Awv (x y:AV):AV:=match x with
 | .top=>.top
 | _=>y
theorem Ala {t2:Nat->AV} {m ex:List Blk} (hm:∀ b∈m,b.inb m.length) (hk:c.m0.length<=m.length)
  (ht:∀ i,t2 i=.top\/((t i).inb m.length/\(t2 i=t i\/∃ x y,t i=.s x/\t2 i=.s y/\Qz x y))):Eb c ⟨t,m++ex⟩ ⟨t2,m⟩:=by
 refine .of ?_
 intro a w S H r
 have r1:Rel c ⟨λi=>Awv (t2 i) (t i),m⟩ a w S H:=by
  refine r.trim (λi=>?_) hm hk
  show Awv (t2 i) (t i)=.top\/(Awv (t2 i) (t i)=t i/\_)
  rcases ht i with h|h
  ·left;rw[h];rfl
  ·cases e:t2 i with
   | top=>exact .inl rfl
   | s x=>exact .inr ⟨rfl,h.1⟩
   | tup x=>exact .inr ⟨rfl,h.1⟩
 refine⟨r1.nt,r1.df,λi=>?_,r1.bl,r1.lo,r1.inj,r1.sb,r1.sl,r1.ex,r1.kl,r1.kh,r1.kr,r1.ku⟩
 have h1:AVR (Bf w S m H) (Awv (t2 i) (t i)) (a.tmps.getD i undef):=r1.tm i
 show AVR (Bf w S m H) (t2 i) _
 rcases ht i with h|⟨_,h|⟨x,y,hx,hy,hxy⟩⟩
 ·rw[h];trivial
 ·rw[h] at h1 ⊢
  cases e:t i with
  | top=>trivial
  | s x=>rw[e] at h1;exact h1
  | tup x=>rw[e] at h1;exact h1
 ·rw[hy] at h1 ⊢
  have h1:AVR (Bf w S m H) (t i) (a.tmps.getD i undef):=h1
  rw[hx] at h1
  exact hxy.grep h1
variable {T:TT} [TX T] {P:Program} [Inf P]
inductive BC where
 | v (t:Tc)
 | own (p:Nat)
 | nil
inductive BT where
 | keep
 | box (ts:List BC)
 | arr (e sz k:Nat) (t:Tc)
 | dead
inductive ST where
 | v (t:Tc)
 | own (p:Nat)
structure Shp where
 sl:List (Nat×ST)
 ms:List BT
def A8e (T:TT):BC->Type
 | .v t=>den T t
 | .own _=>Unit
 | .nil=>Unit
def Afx (T:TT):List BC->Type
 | []=>Unit
 | t::ts=>A8e T t×Afx T ts
def Bcz (T:TT):BT->Type
 | .keep=>Unit
 | .box ts=>Afx T ts
 | .arr _ _ _ t=>List (den T t)
 | .dead=>Unit
def Ar5 (T:TT):List BT->Type
 | []=>Unit
 | b::bs=>Bcz T b×Ar5 T bs
def Axr (T:TT):ST->Type
 | .v t=>den T t
 | .own _=>Unit
def Awp (T:TT):List (Nat×ST)->Type
 | []=>Unit
 | p::ps=>Axr T p.2×Awp T ps
def Shp.den (T:TT) (s:Shp):Type:=Awp T s.sl×Ar5 T s.ms
def stX:(s:ST)->Axr T s->VX T
 | .v t,v=>.s (A8o t v)
 | .own p,_=>.s (.one (.own p))
def An7:(sl:List (Nat×ST))->Awp T sl->List (Nat×VX T)
 | [],_=>[]
 | p::sl,v=>(p.1,stX p.2 v.1)::An7 sl v.2
def An5:(t:Tc)->den T t->X T
 | .int k,v=>.lf (.i k v)
 | .u8,v=>.u8 v
 | .bool,v=>.lf (.b v)
 | .str,v=>.lf (.s v)
 | .st _,_=>.lf .nix
 | .sl t,v=>.row t v
def Abf:(ts:List Tc)->Vv T ts->List (X T)
 | [],_=>[]
 | t::ts,v=>An5 t v.1::Abf ts v.2
def Axs:(b:BC)->A8e T b->X T
 | .v t,v=>An5 t v
 | .own p,_=>.own p
 | .nil,_=>.lf (.raw (.slice none 0 0))
def Ah5:(ts:List BC)->Afx T ts->List (X T)
 | [],_=>[]
 | t::ts,v=>Axs t v.1::Ah5 ts v.2
def Y7:(ms:List BT)->Ar5 T ms->List (Option (BX T))
 | [],_=>[]
 | .keep::ms,v=>none::Y7 ms v.2
 | .box ts::ms,v=>some (.box (Ah5 ts v.1))::Y7 ms v.2
 | .arr e sz k t::ms,v=>some (.arr e sz k t v.1)::Y7 ms v.2
 | .dead::ms,v=>some .dead::Y7 ms v.2
def Shp.head (s:Shp) (v:s.den T):XS T:=⟨An7 s.sl v.1,Y7 s.ms v.2⟩
def A6e (hd:List (BX T)) (N:Nat):(s:ST)->VX T->Option (Axr T s)
 | .v t,x=>match x with
  | .s x=>A2f t x
  | _=>none
 | .own p,x=>match x with
  | .s (.one (.own q))=>cond (Nat.beq q p&&Nat.blt p N&&(E6 hd[p]?).isSome) (some ()) none
  | _=>none
def A8q (fr:Fr T) (st:XS T) (hd:List (BX T)) (N:Nat):(sl:List (Nat×ST))->Option (Awp T sl)
 | []=>some ()
 | p::sl=>match A6e hd N p.2 (st.get fr p.1) with
  | some v=>match A8q fr st hd N sl with
   | some vs=>some (v,vs)
   | none=>none
  | none=>none
def exC:(t:Tc)->X T->Option (den T t)
 | .int k,x=>asI k x
 | .bool,x=>asB x
 | .str,x=>Al0 x
 | .u8,x=>Az7 x
 | .sl t,x=>match x with
  | .row t' v=>Tc.cast? t' t (λt=>List (den T t)) v
  | _=>none
 | _,_=>none
def exB:(b:BC)->X T->Option (A8e T b)
 | .v t,x=>exC t x
 | .own p,x=>match x with
  | .own q=>cond (Nat.beq q p) (some ()) none
  | _=>none
 | .nil,x=>match x with
  | .lf l=>cond (Ar1 l) (some ()) none
  | _=>none
def A8v:(ts:List BC)->List (X T)->Option (Afx T ts)
 | [],[]=>some ()
 | t::ts,x::xs=>match exB t x with
  | some v=>match A8v ts xs with
   | some vs=>some (v,vs)
   | none=>none
  | none=>none
 | _,_=>none
def Bf8:(b:BT)->Option (BX T)->BX T->Option (Bcz T b)
 | .keep,none,_=>some ()
 | .box ts,_,.box cs=>A8v ts cs
 | .arr e sz k t,_,.arr e' sz' k' t' v=>cond (Nat.beq e e'&&Nat.beq sz sz'&&Nat.beq k k') (Tc.cast? t' t (λt=>List (den T t)) v) none
 | .dead,_,_=>some ()
 | _,_,_=>none
def Bas:(ms:List BT)->List (Option (BX T))->List (BX T)->Option (Ar5 T ms)
 | [],_,_=>some ()
 | b::bs,o::m,x::r=>(Bf8 b o x).bind λv=>(Bas bs m r).bind λvs=>some (v,vs)
 | _,_,_=>none
def Shp.dec (s:Shp) (fr:Fr T) (st:XS T):Option (s.den T):=match Bas s.ms st.m (A8 fr.m st.m) with
 | some u=>match A8q fr st (A8 fr.m (Y7 s.ms u)) s.ms.length s.sl with
  | some v=>some (v,u)
  | none=>none
 | none=>none
def Shp.decK (s:Shp) (fr:Fr T) (st:XS T) (k:s.den T->Option R):Option R:=match s.dec fr st with
 | some v=>k v
 | none=>none
theorem Ae2 {s:Shp} {fr:Fr T} {st:XS T} {r:R} {k:s.den T->Option R} (h:s.decK fr st k=some r):∃ v,s.dec fr st=some v/\k v=some r:=by
 unfold Shp.decK at h
 split at h
 ·rename_i v hv;exact⟨v,hv,h⟩
 ·cases h
def Bb8 (n:Nat):Lf->Bool
 | .lp p _=>Nat.blt p n
 | .ls p _=>Nat.blt p n
 | .ap p _ _=>Nat.blt p n
 | .mp _ p=>Nat.blt p n
 | .fn f a b=>(Lf.fn f a b).inbB n
 | _=>true
def X.inbX (n:Nat):X T->Bool
 | .lf l=>Bb8 n l
 | .own p=>Nat.blt p n
 | .old p=>Nat.blt p n
 | _=>true
def SX.inbX (n:Nat):SX T->Bool
 | .one x=>x.inbX n
 | .agg xs=>xs.all (X.inbX n)
def VX.inbX (n:Nat):VX T->Bool
 | .s x=>x.inbX n
 | .tup xs=>xs.all (SX.inbX n)
 | .top=>true
 | .oel p _ _ _ _ _=>Nat.blt p n
def BX.inbX (n:Nat):BX T->Bool
 | .box cs=>cs.all (X.inbX n)
 | _=>true
def A0d (i:Nat):List Nat->Bool
 | []=>false
 | j::r=>cond (Nat.beq i j) true (A0d i r)
def Zi (W:List Nat):List (Nat×VX T):=W.map λi=>(i,.top)
omit [TX T] in
theorem A7c {t:Tc} {x:X T} {v:den T t} (h:exC t x=some v):An5 t v=x:=by
 cases t with
 | int k =>
  change asI k x=some v at h
  unfold asI at h
  split at h
  ·split at h
   ·rename_i e;subst e;cases h;rfl
   ·cases h
  ·cases h
 | bool =>
  change asB x=some v at h
  unfold asB at h
  split at h
  ·cases h;rfl
  ·cases h
 | str =>
  change Al0 x=some v at h
  unfold Al0 at h
  split at h
  ·cases h;rfl
  ·cases h
 | sl t =>
  cases x with
  | row t' w =>
   obtain⟨e,h⟩:=Tc.cast?_some (F:=λt=>List (den T t)) h
   subst e
   subst h
   rfl
  | _=>cases h
 | u8 =>
  change Az7 x=some v at h
  unfold Az7 at h
  split at h
  ·cases h;rfl
  ·cases h
 | st n=>cases h
omit [TX T] in
theorem A5u {b:BC} {x:X T} {v:A8e T b} (h:exB b x=some v):Axs b v=x:=by
 cases b with
 | v t=>exact A7c h
 | own p =>
  cases x with
  | own q =>
   obtain⟨hb,_⟩:=A9 (show cond (Nat.beq q p) (some ()) none=some v from h)
   rw[<- zM hb]
   rfl
  | _=>cases h
 | nil =>
  cases x with
  | lf l =>
   obtain⟨hb,_⟩:=A9 (show cond (Ar1 l) (some ()) none=some v from h)
   rw[Aca hb]
   rfl
  | _=>cases h
omit [TX T] in
theorem Ave:∀ {ts:List BC} {xs:List (X T)} {v:Afx T ts},A8v ts xs=some v->Ah5 ts v=xs
 | [],[],_,_=>rfl
 | [],_::_,_,h=>by cases h
 | _::_,[],_,h=>by cases h
 | t::ts,x::xs,v,h=>by
  unfold A8v at h
  split at h
  ·rename_i u hu
   split at h
   ·rename_i us hus
    cases h
    show Axs t u::Ah5 ts us=_
    rw[A5u hu,Ave hus]
   ·cases h
  ·cases h
def Ars (o:Option (BX T)) (f:List (BX T)):BX T:=match o with
 | some b=>b
 | none=>match f with
  | []=>.dead
  | b::_=>b
omit [TX T] in
theorem Ni (o:Option (BX T)) (m:List (Option (BX T))) (f:List (BX T)):A8 f (o::m)=Ars o f::A8 f.tail m:=by cases f <;> cases o <;> rfl
def MW (hd st:List (BX T)):Prop:=hd.length<=st.length/\∀ (q:Nat) (b b':BX T),st[q]? = some b->hd[q]? = some b'->b'=.dead\/b'=b
omit [TX T] in
theorem Aus:∀ {ms:List BT} {m:List (Option (BX T))} {f:List (BX T)} {v:Ar5 T ms},Bas ms m (A8 f m)=some v->MW (A8 f (Y7 ms v)) (A8 f m)
 | [],m,f,v,h=>by
  have e:A8 f (Y7 [] v)=[]:=by cases f <;> rfl
  rw[e]
  exact⟨zU _,λq b b' _ h=>by simp at h⟩
 | b::bs,[],f,v,h=>by cases f <;> cases h
 | b::bs,o::m,f,v,h=>by
  rw[Ni] at h ⊢
  obtain⟨u,hu,h⟩:=Ap h
  obtain⟨us,hus,h⟩:=Ap h
  cases h
  obtain⟨ih1,ih2⟩:=Aus hus
  have:∃ o',Y7 (b::bs) (u,us)=o'::Y7 bs us/\(Ars o' f=.dead\/Ars o' f=Ars o f):=by
   generalize hx:Ars o f=x at hu ⊢
   cases b with
   | keep =>
    cases o with
    | none=>exact⟨none,rfl,.inr hx⟩
    | some _=>cases hu
   | box ts =>
    cases x with
    | box cs=>exact⟨_,rfl,.inr (congrArg BX.box (Ave (v:=u) hu))⟩
    | _=>cases hu
   | arr e sz k t =>
    cases x with
    | arr e' sz' k' t' w =>
     change cond (Nat.beq e e'&&Nat.beq sz sz'&&Nat.beq k k') (Tc.cast? t' t (λt=>List (den T t)) w) none=some u at hu
     cases hb:(Nat.beq e e'&&Nat.beq sz sz'&&Nat.beq k k') with
     | false=>rw[hb] at hu;cases hu
     | true =>
      rw[hb] at hu
      simp only[zG] at hb
      cases zM hb.1.1
      cases zM hb.1.2
      cases zM hb.2
      obtain⟨e,hu⟩:=Tc.cast?_some (F:=λt=>List (den T t)) hu
      subst e
      subst hu
      exact⟨_,rfl,.inr rfl⟩
    | _=>cases hu
   | dead=>exact⟨_,rfl,.inl rfl⟩
  obtain⟨o',h1,h2⟩:=this
  rw[h1,Ni]
  refine⟨Nat.succ_le_succ ih1,λq x x' hx hx'=>?_⟩
  cases q with
  | zero =>
   simp only[yV,z2] at hx hx'
   subst hx hx'
   exact h2
  | succ q=>exact ih2 q x x' (by simpa using hx) (by simpa using hx')
def Awe (fr:Fr T):List (Nat×ST)->XS T->XS T
 | [],st=>st
 | (i,.v _)::l,st=>match st.get fr i with
  | .s x=>cond (x.cells.any hdX) (match A4k fr.m x st.m with
   | some (y,m')=>Awe fr l ⟨(i,.s y)::st.t,m'⟩
   | none=>Awe fr l st) (Awe fr l st)
  | _=>Awe fr l st
 | (_,.own _)::l,st=>Awe fr l st
def At6 (fr:Fr T) (p:Nat):Nat->List BC->XS T->XS T
 | _,[],st=>st
 | j,.v (.sl t)::l,st=>match (A8 fr.m st.m)[p]? with
  | some (.box xs)=>match xs[j]? with
   | some (.own q)=>match Auh fr.m (.own q) st.m with
    | some (y,m')=>match (A8 fr.m m')[p]? with
     | some (.box xs')=>At6 fr p (j+1) l ⟨st.t,m'.set p (some (.box (xs'.set j y)))⟩
     | _=>At6 fr p (j+1) l st
    | none=>At6 fr p (j+1) l st
   | some (.lf x)=>cond (Ar1 x) (At6 fr p (j+1) l ⟨st.t,st.m.set p (some (.box (xs.set j (.row t []))))⟩) (At6 fr p (j+1) l st)
   | _=>At6 fr p (j+1) l st
  | _=>At6 fr p (j+1) l st
 | j,_::l,st=>At6 fr p (j+1) l st
def A83 (fr:Fr T):Nat->List BT->XS T->XS T
 | _,[],st=>st
 | p,.box cs::l,st=>A83 fr (p+1) l (At6 fr p 0 cs st)
 | p,_::l,st=>A83 fr (p+1) l st
def A13 (s:Shp) (fr:Fr T) (st:XS T):XS T:=A83 fr 0 s.ms (Awe fr s.sl st)
section
variable {c:Ctx} {fr:Fr T}
theorem A1w {m m':List Blk} {i:Nat} {y z:SV} (hx:t i=.s y) (hp:Aif m y z m'):Eb c ⟨t,m⟩ ⟨upd t i (.s z),m'⟩:=by
 intro a w S H r
 obtain⟨S',k1,g1⟩:=hp.keeps r
 have h:=r.tm i
 have hxx:(AS.mk t m).t i=.s y:=hx
 rw[hxx] at h
 have hy:=g1 _ h
 have r':=k1.rel
 refine⟨S',H,r'.nt,r'.df,λj=>?_,r'.bl,r'.lo,r'.inj,r'.sb,r'.sl,r'.ex,r'.kl,r'.kh,r'.kr,r'.ku⟩
 show AVR _ (upd t i _ j) _
 rw[Et]
 by_cases e:j=i
 ·subst e
  rw[if_pos rfl]
  exact SVR.mono (λ_ _=>Bf.of_rep) hy
 ·rw[if_neg e]
  exact r'.tm j
omit [TX T] in
theorem Ach:∀ {l:List (Nat×ST)} {st:XS T},Eb c (st.toAS fr) ((Awe fr l st).toAS fr)
 | [],st=>.refl _ _
 | (i,.own _)::l,st=>Ach (l:=l)
 | (i,.v _)::l,st=>by
  unfold Awe
  split
  ·rename_i x hx
   cases x.cells.any hdX with
   | false=>exact Ach (l:=l)
   | true =>
    show Eb c _ ((match A4k fr.m x st.m with
     | some (y,m')=>Awe fr l ⟨(i,.s y)::st.t,m'⟩
     | none=>Awe fr l st).toAS fr)
    split
    ·rename_i y m' hp
     obtain⟨a1,_,a3⟩:=An9 (L:=st.L fr) rfl hp
     refine Eb.trans ?_ (Ach (l:=l))
     have e:(⟨(i,.s y)::st.t,m'⟩:XS T).toAS fr=⟨Go.Proofs.YtkblaobhhoebaaaGreat.Abs.upd (st.toAS fr).t i (.s (y.toSV (st.L fr))),bks fr.m (st.L fr) m'⟩:=by
      refine(XS.toAS_mem fr (st.upd i (.s y)) m' a3).trans ?_
      have e1:=congrArg AS.t (XS.toAS_upd fr st i (.s y))
      rw[e1]
      rfl
     rw[e]
     exact A1w (by show(st.get fr i).toAV _=_;rw[hx];rfl) a1
    ·exact Ach (l:=l)
  ·exact Ach (l:=l)
omit [TX T] in
theorem Aqn {st:XS T} {j:Nat} {xs xs':List (X T)} {x y:X T} {m':List (Option (BX T))} (hm:(A8 fr.m st.m)[p]? = some (.box xs)) (hx:xs[j]? = some x) (hp:Ab1 (bks fr.m (st.L fr) st.m) (x.toLf (st.L fr)) (y.toLf (st.L fr)) (bks fr.m (st.L fr) m')) (hl:∀ q:Nat,E6 (A8 fr.m m')[q]? = E6 (A8 fr.m st.m)[q]?) (hm':(A8 fr.m m')[p]? = some (.box xs')) (hxs:xs'=xs) :
  Eb c (st.toAS fr) ((⟨st.t,m'.set p (some (.box (xs'.set j y)))⟩:XS T).toAS fr):=by
 subst hxs
 intro a w S H r
 have hb:∀ {m:List (Option (BX T))},(A8 fr.m m)[p]? = some (.box xs')->(bks fr.m (st.L fr) m)[p]? = some (.box (xs'.map (X.toLf (st.L fr)))):=λh=>by unfold bks;rw[zK,h];rfl
 obtain⟨S',H',r'⟩:=Aoh r (p:=p) (i:=j) (cs:=xs'.map (X.toLf (st.L fr))) (hb hm) (by rw[zK,hx];rfl) hp (hb hm')
 refine⟨S',H',?_⟩
 have hl2:∀ q:Nat,E6 (A8 fr.m (m'.set p (some (.box (xs'.set j y)))))[q]? = E6 (A8 fr.m st.m)[q]? := λq=>by
  rw[I9,Aeo _ _ _ (by rw[hm'];rfl),hl]
 rw[XS.toAS_mem fr st _ hl2]
 have e:(A8 fr.m (m'.set p (some (.box (xs'.set j y))))).map (BX.toBlk (st.L fr))=(bks fr.m (st.L fr) m').set p (.box ((xs'.map (X.toLf (st.L fr))).set j (y.toLf (st.L fr)))):=by
  rw[I9,x9]
  show List.set _ p (Blk.box _)=_
  rw[x9]
  rfl
 rw[e]
 exact r'
omit [TX T] in
theorem Rj:∀ {l:List BC} {j:Nat} {st:XS T},Eb c (st.toAS fr) ((At6 fr p j l st).toAS fr)
 | [],j,st=>.refl _ _
 | .own _::l,j,st=>Rj (l:=l)
 | .nil::l,j,st=>Rj (l:=l)
 | .v t::l,j,st=>by
  cases t with
  | sl t =>
   unfold At6
   split
   ·rename_i xs hm
    split
    ·rename_i q hx
     split
     ·rename_i y m' hp
      obtain⟨a1,_,a3,a4⟩:=Aiq (L:=st.L fr) rfl hp
      split
      ·rename_i xs' hm'
       refine Eb.trans (Aqn hm hx a1 a4 hm' ?_) (Rj (l:=l))
       change (match (A8 fr.m st.m)[q]? with
        | some (.arr e sz _ t v)=>cond (Nat.beq sz (t.size T)) (some (X.row t v,st.m.set q (some (.arr e sz (v.length*sz) t v)))) none
        | _=>none)=some (y,m') at hp
       split at hp
       ·rename_i hq
        obtain⟨_,hp⟩:=A9 hp
        cases hp
        rw[I9] at hm'
        have hne:q≠p:=λe=>by subst e;rw[hm] at hq;cases hq
        rw[zS hne,hm] at hm'
        cases hm'
        rfl
       ·cases hp
      ·exact Rj (l:=l)
     ·exact Rj (l:=l)
    ·rename_i x hx
     cases hn:Ar1 x with
     | false=>exact Rj (l:=l)
     | true =>
      have:=Aca hn
      subst this
      exact Eb.trans (Aqn (y:=.row t []) hm hx .nil (λ_=>rfl) hm rfl) (Rj (l:=l))
    ·exact Rj (l:=l)
   ·exact Rj (l:=l)
  | _=>exact Rj (l:=l)
omit [TX T] in
theorem Agc:∀ {l:List BT} {p:Nat} {st:XS T},Eb c (st.toAS fr) ((A83 fr p l st).toAS fr)
 | [],p,st=>.refl _ _
 | .box cs::l,p,st=>Eb.trans Rj (Agc (l:=l))
 | .keep::l,p,st=>Agc (l:=l)
 | .dead::l,p,st=>Agc (l:=l)
 | .arr _ _ _ _::l,p,st=>Agc (l:=l)
omit [TX T] in
theorem Aev {s:Shp} {st:XS T}:Eb c (st.toAS fr) ((A13 s fr st).toAS fr):=Eb.trans Ach Agc
end
end
open Go.RowKit
theorem Axg {n:Nat} {l:Lf} (h:l.pubd=true):l.inb n=true:=by
 cases l with
 | fn f a b =>
  simp only[Lf.pubd,zG,zJ] at h
  simp only[Lf.inb,zG,zJ]
  refine⟨λx hx=>?_,λx hx=>?_⟩
  ·have:=h.1 x hx
   cases x <;> first|rfl|cases this
  ·have:=h.2 x hx
   cases x <;> first|rfl|cases this
 | lp _ _=>cases h
 | ls _ _=>cases h
 | ap _ _ _=>cases h
 | mp _ _=>cases h
 | _=>rfl
theorem Yj.inb {n:Nat} {l l':Lf} (h:Yj l l') (hp:l'.pubd=true):l.inb n=true:=Axg (h.pubd ▸ hp)
theorem Tv.inb {n:Nat} {ls ls':List Lf} (h:Tv ls ls') (hp:ls'.all Lf.pubd=true):∀ l∈ls,l.inb n=true:=by
 induction h with
 | nil=>intro l hl;cases hl
 | cons h t ih =>
  simp only[wL,zG] at hp
  intro l hl
  cases hl with
  | head=>exact h.inb hp.1
  | tail _ hl=>exact ih hp.2 l hl
theorem Qz.inb {n:Nat} {x y:SV} (h:Qz x y) (hp:y.cells.all Lf.pubd=true):x.inb n:=by
 cases h with
 | one h=>exact h.inb (by simpa [SV.cells] using hp)
 | agg h=>exact h.inb hp
variable {T:TT} [TX T] {P:Program} [Inf P]
theorem Aqe (t:Tc) (v:den T t):(At7 T t v).cells.all Lf.pubd=true:=by
 cases t <;> first|rfl|exact TX.pub _ _
theorem Air {i:Nat}:∀ {l:List Nat},A0d i l=true↔i∈l
 | []=>⟨λh=>(by cases h),λh=>(by cases h)⟩
 | j::l=>by
  show cond (Nat.beq i j) true (A0d i l)=true↔_
  cases e:Nat.beq i j with
  | true=>have:=zM e;subst this;simp
  | false =>
   have hne:i≠j:=λh=>by subst h;rw[show Nat.beq i i=true from by simp] at e;cases e
   show A0d i l=true↔_
   rw[Air]
   simp [hne]
def Au8 (hd:List (BX T)) (N:Nat) (x y:VX T):Prop:=(∃ a b,x=.s a/\y=.s b/\(∀ L L',Qz (a.toSV L) (b.toSV L'))/\∀ L,(a.toSV L).inb N)\/∃ p,x=.s (.one (.own p))/\y=.s (.one (.own p))/\p<N/\(E6 hd[p]?).isSome=true
section
variable {hd:List (BX T)} {N n:Nat} {x:VX T} {st:XS T}
theorem Axl {s:ST} {v:Axr T s} (h:A6e hd N s x=some v):Au8 hd N x (stX s v):=by
 cases s with
 | v t =>
  cases x with
  | s y =>
   have hd:=λL=>Aom (v:=v) L h
   exact .inl ⟨y,_,rfl,rfl,λL L'=>(Avw (T:=T) L' t v).symm ▸ hd L,λL=>(hd L).inb (Aqe _ _)⟩
  | _=>cases h
 | own p =>
  cases x with
  | s y =>
   cases y with
   | one z =>
    cases z with
    | own q =>
     obtain⟨hb,h⟩:=A9 (show cond (Nat.beq q p&&Nat.blt p N&&(E6 hd[p]?).isSome) (some ()) none=some v from h)
     rw[zG,zG] at hb
     cases zM hb.1.1
     exact .inr ⟨_,rfl,rfl,Dl hb.1.2,hb.2⟩
    | _=>cases h
   | agg _=>cases h
  | _=>cases h
theorem Apa {fr:Fr T} (z:VX T) (i:Nat):∀ {sl:List (Nat×ST)} {v:Awp T sl},A8q fr st hd N sl=some v ->
  (Au8 hd N (st.get fr i) (C4 z i (An7 sl v)))\/(i∉sl.map (·.1)/\C4 z i (An7 sl v)=z)
 | [],v,h=>.inr ⟨by simp,rfl⟩
 | p::sl,v,h=>by
  unfold A8q at h
  split at h
  ·rename_i u hu
   split at h
   ·rename_i us hus
    cases h
    show Au8 hd N (st.get fr i) (cond (Nat.beq i p.1) (stX p.2 u) (C4 z i (An7 sl us)))\/(_/\cond (Nat.beq i p.1) (stX p.2 u) (C4 z i (An7 sl us))=z)
    cases e:Nat.beq i p.1 with
    | true =>
     have:=zM e
     subst this
     exact .inl (Axl hu)
    | false =>
     have hne:i≠p.1:=λh=>by rw[h,show Nat.beq p.1 p.1=true from by simp] at e;cases e
     rcases Apa z i hus with h|⟨h1,h2⟩
     ·exact .inl h
     ·exact .inr ⟨by simp only[xN,yB,not_or];exact⟨hne,h1⟩,h2⟩
   ·cases h
  ·cases h
theorem A1g {l:Lf} (h:Bb8 n l=true):l.inb n=true:=by
 cases l with
 | lp p o=>exact decide_eq_true (Dl h)
 | ls p o=>exact decide_eq_true (Dl h)
 | ap p o q=>exact decide_eq_true (Dl h)
 | mp k p=>exact decide_eq_true (Dl h)
 | fn f a b=>exact Go.Proofs.YtkblaobhhoebaaaGreat.Abs.inb_of h
 | _=>rfl
omit [TX T] in
theorem X.inb_of {x:X T} (L:Nat->Nat) (h:x.inbX n=true):(x.toLf L).inb n=true:=by
 cases x with
 | lf l=>exact A1g h
 | own p=>exact decide_eq_true (Dl h)
 | old p=>exact decide_eq_true (Dl h)
 | _=>rfl
omit [TX T] in
theorem SX.inb_of {x:SX T} (L:Nat->Nat) (h:x.inbX n=true):(x.toSV L).inb n:=by
 cases x with
 | one x=>exact X.inb_of L h
 | agg xs =>
  simp only[SX.inbX,zJ] at h
  intro l hl
  obtain⟨x,hx,rfl⟩:=yA.1 hl
  exact X.inb_of L (h x hx)
omit [TX T] in
theorem VX.inb_of (M:List (BX T)) (h:x.inbX n=true):(x.toAV M).inb n:=by
 cases x with
 | s x=>exact SX.inb_of _ h
 | tup xs =>
  simp only[VX.inbX,zJ] at h
  intro l hl
  obtain⟨x,hx,rfl⟩:=yA.1 hl
  exact SX.inb_of _ (h x hx)
 | top=>trivial
 | oel p j sz o t u =>
  show AV.inb n (Aj7 p j (j.toNat*sz+o) t u (E6 M[p]?))
  cases E6 M[p]? with
  | none=>trivial
  | some k =>
   by_cases hu:Azf k j t u
   ·rw[show Aj7 p j (j.toNat*sz+o) t u (some k)=.s (.one (.ap p k.2.length (j.toNat*sz+o))) from if_pos hu]
    exact decide_eq_true (Dl h)
   ·rw[show Aj7 p j (j.toNat*sz+o) t u (some k)=A0g from if_neg hu]
    rfl
def BC.inb (n:Nat):BC->Bool
 | .own p=>Nat.blt p n
 | _=>true
def BT.inb (n:Nat):BT->Bool
 | .box cs=>cs.all (BC.inb n)
 | _=>true
omit [TX T] in
theorem Av6 (n:Nat) (t:Tc) (v:den T t):(An5 t v).inbX n=true:=by cases t <;> rfl
omit [TX T] in
theorem Ahm (n:Nat):∀ (ts:List BC) (v:Afx T ts),ts.all (BC.inb n)=true->(Ah5 ts v).all (X.inbX n)=true
 | [],_,_=>rfl
 | t::ts,v,h=>by
  rw[wL,zG] at h
  show((Axs t v.1).inbX n&&(Ah5 ts v.2).all (X.inbX n))=true
  rw[Ahm n ts v.2 h.2,jP]
  cases t with
  | v t=>exact Av6 n t v.1
  | own p=>exact h.1
  | nil=>rfl
omit [TX T] in
theorem Xd:∀ (ms:List BT) (v:Ar5 T ms),(Y7 ms v).length=ms.length
 | [],_=>rfl
 | .keep::ms,v=>congrArg (·+1) (Xd ms v.2)
 | .box _::ms,v=>congrArg (·+1) (Xd ms v.2)
 | .arr _ _ _ _::ms,v=>congrArg (·+1) (Xd ms v.2)
 | .dead::ms,v=>congrArg (·+1) (Xd ms v.2)
omit [TX T] in
theorem Alk (n:Nat):∀ (ms:List BT) (v:Ar5 T ms) (f:List (BX T)),ms.all (BT.inb n)=true->f.all (BX.inbX n)=true->(A8 f (Y7 ms v)).all (BX.inbX n)=true
 | [],_,f,_,_=>by cases f <;> rfl
 | b::ms,v,f,h0,h=>by
  rw[wL,zG] at h0
  have ht:f.tail.all (BX.inbX n)=true:=by
   cases f with
   | nil=>rfl
   | cons x f=>simp only[wL,zG] at h;exact h.2
  have e:∃ o,Y7 (b::ms) v=o::Y7 ms v.2/\(Ars o f).inbX n=true:=by
   cases b with
   | keep =>
    refine⟨none,rfl,?_⟩
    cases f with
    | nil=>rfl
    | cons x f=>simp only[wL,zG] at h;exact h.1
   | box ts=>exact⟨_,rfl,Ahm n ts v.1 h0.1⟩
   | arr e sz k t=>exact⟨_,rfl,rfl⟩
   | dead=>exact⟨_,rfl,rfl⟩
  obtain⟨o,e1,e2⟩:=e
  rw[e1,Ni,wL,e2,Alk n ms v.2 _ h0.2 ht]
  rfl
omit [TX T] in
theorem BX.inb_all {m:List (BX T)} (L:Nat->Nat) (h:m.all (BX.inbX n)=true):∀ b∈m.map (BX.toBlk L),b.inb n:=by
 intro b hb
 obtain⟨x,hx,rfl⟩:=yA.1 hb
 have:=zJ.1 h x hx
 cases x with
 | box cs =>
  intro l hl
  obtain⟨y,hy,rfl⟩:=yA.1 hl
  exact X.inb_of L (zJ.1 this y hy)
 | _=>trivial
def Azm:VX T->Bool
 | .s x=>x.cells.any hdX
 | .tup xs=>xs.any λx=>x.cells.any hdX
 | .oel .. =>true
 | .top=>false
omit [TX T] in
theorem A7k {L L':Nat->Nat} {x:X T} (h:hdX x=false):x.toLf L'=x.toLf L:=by cases x <;> first|rfl|cases h
omit [TX T] in
theorem A5p {L L':Nat->Nat} {xs:List (X T)} (h:xs.any hdX=false):xs.map (X.toLf L')=xs.map (X.toLf L) :=
 xU λx hx=>A7k (by
  cases e:hdX x with
  | false=>rfl
  | true=>rw[xF.2 ⟨x,hx,e⟩] at h;cases h)
omit [TX T] in
theorem A7q {L L':Nat->Nat} {x:SX T} (h:x.cells.any hdX=false):x.toSV L'=x.toSV L:=by
 cases x with
 | one x=>exact congrArg SV.one (A7k (by simpa [SX.cells] using h))
 | agg xs=>exact congrArg SV.agg (A5p h)
omit [TX T] in
theorem A72 {M M':List (BX T)} (h:Azm x=false):x.toAV M'=x.toAV M:=by
 cases x with
 | s x=>exact congrArg AV.s (A7q h)
 | tup xs =>
  refine congrArg AV.tup (xU λx hx=>A7q ?_)
  cases e:x.cells.any hdX with
  | false=>rfl
  | true=>have h:(xs.any λx=>x.cells.any hdX)=false:=h;rw[xF.2 ⟨x,hx,e⟩] at h;cases h
 | top=>rfl
 | oel p j sz o t u=>cases h
omit [TX T] in
theorem As7 {st:List (BX T)} (h:MW hd st) (p:Nat):(E6 hd[p]?).isSome=true->Pi hd p=Pi st p:=λhp=>by
 have hl:p<hd.length:=by
  rcases zQ p hd.length with h|h
  ·exact h
  ·rw[zZ h] at hp;cases hp
 have hl2:p<st.length:=zY hl h.1
 rcases h.2 p _ _ (zC hl2) (zC hl) with e|e
 ·rw[zC hl,e] at hp;cases hp
 ·show Agx (E6 hd[p]?)=Agx (E6 st[p]?)
  rw[zC hl,zC hl2,e]
omit [TX T] in
theorem A7t {st:List (BX T)} (h:MW hd st) {q:Nat} {b b':Blk} (h1:(M8 st)[q]? = some b) (h2:(M8 hd)[q]? = some b'):b'=.dead\/Agv b b':=by
 unfold M8 at h1 h2
 simp only[zK,wK] at h1 h2
 obtain⟨x,hx,rfl⟩:=h1
 obtain⟨y,hy,rfl⟩:=h2
 rcases h.2 q x y hx hy with rfl|rfl
 ·exact .inl rfl
 ·right
  cases y with
  | box cs =>
   refine .inr ⟨_,_,rfl,rfl,by simp,λj l l' h3 h4=>?_⟩
   simp only[zK,wK] at h3 h4
   obtain⟨z,hz,rfl⟩:=h3
   obtain⟨z',hz',rfl⟩:=h4
   rw[hz] at hz'
   cases hz'
   cases z with
   | own p =>
    cases e:(E6 hd[p]?).isSome with
    | true=>exact .inl (by show Lf.ls p (Pi hd p)=.ls p (Pi st p);rw[As7 h p e])
    | false =>
     refine .inr ⟨p,_,rfl,?_⟩
     show Lf.ls p (Agx (E6 hd[p]?))=_
     cases e2:E6 hd[p]? with
     | none=>rfl
     | some n=>rw[e2] at e;cases e
   | _=>exact .inl rfl
  | _=>exact .inl rfl
theorem A9z {c:Ctx} {fr1 fr2:Fr T} {s:Shp} {v:s.den T} {W:List Nat} (hc:c.m0=[]) (hm:fr2.m=fr1.m) (hf:∀ i,C4 .top i fr2.t=.top\/C4 .top i fr2.t=C4 .top i fr1.t)
  (hW:∀ i,i∈W->C4 .top i fr2.t=.top) (ho:∀ i,Azm (C4 (.top:VX T) i fr2.t)=false) (hd:s.dec fr1 st=some v) (hk:st.t.all (λp=>A0d p.1 (s.sl.map (·.1))||A0d p.1 W)=true)
  (hi:fr2.t.all (λp=>p.2.inbX s.ms.length)=true) (hb:fr2.m.all (BX.inbX s.ms.length)=true) (hs:s.ms.all (BT.inb s.ms.length)=true):Eb c (st.toAS fr1) ((s.head v).toAS fr2):=by
 unfold Shp.dec at hd
 split at hd
 case h_2=>cases hd
 rename_i v2 hv2
 split at hd
 case h_2=>cases hd
 rename_i v1 hv1
 cases hd
 have hmw:=Aus hv2
 rw[<- hm] at hmw hv1
 have hlen0:(A8 fr2.m (Y7 s.ms v2)).length=s.ms.length:=by rw[D8,Xd]
 have hib:=Alk (T:=T) s.ms.length s.ms v2 fr2.m hs hb
 generalize hH:A8 fr2.m (Y7 s.ms v2)=HD at *
 have hlen:(M8 HD).length=s.ms.length:=by unfold M8;rw[zP,hlen0]
 have h1:Eb c (st.toAS fr1) ⟨(st.toAS fr1).t,M8 HD++(M8 (A8 fr2.m st.m)).drop s.ms.length⟩:=.of λac w S H r=>by
  have hmS:(st.toAS fr1).m=M8 (A8 fr2.m st.m):=by rw[hm];rfl
  have hlS:s.ms.length<=(M8 (A8 fr2.m st.m)).length:=by have:=hmw.1;unfold M8;rw[zP];omega
  refine Akf (t:=(st.toAS fr1).t) (m:=(st.toAS fr1).m) (λi=>.inr rfl) ?_ (λq b b' h h'=>?_) r
  ·rw[hmS,zI,yF,hlen];omega
  ·rw[hmS] at h
   rcases zQ q s.ms.length with hq|hq
   ·rw[zL (by rw[hlen];exact hq)] at h'
    exact A7t hmw h h'
   ·rw[zX (by rw[hlen];exact hq),hlen,yP,show s.ms.length+(q-s.ms.length)=q by omega,h] at h'
    cases h'
    exact .inr (.inl rfl)
 refine h1.trans ?_
 have hT:((s.head (v1,v2)).toAS fr2).m=M8 HD:=by rw[<- hH];rfl
 have e2:(s.head (v1,v2)).toAS fr2=⟨((s.head (v1,v2)).toAS fr2).t,M8 HD⟩:=by rw[<- hT]
 rw[e2]
 refine Ala (by rw[hlen];exact BX.inb_all _ hib) (by rw[hc];exact zU _) λi=>?_
 rw[hlen]
 have e3:((s.head (v1,v2)).toAS fr2).t i=(XS.get fr2 (s.head (v1,v2)) i).toAV HD:=by rw[<- hH];rfl
 rw[e3]
 show(XS.get fr2 (s.head (v1,v2)) i).toAV HD=.top\/((st.get fr1 i).toAV (st.M fr1)).inb s.ms.length/\((XS.get fr2 (s.head (v1,v2)) i).toAV HD=(st.get fr1 i).toAV (st.M fr1)\/_)
 have hg:XS.get fr2 (s.head (v1,v2)) i=C4 (C4 .top i fr2.t) i (An7 s.sl v1):=rfl
 rw[hg]
 have hMS:st.M fr1=A8 fr2.m st.m:=by rw[hm];rfl
 rcases Apa (C4 .top i fr2.t) i hv1 with h1|⟨h1,h2⟩
 ·right
  rcases h1 with⟨x,y,h1,h2,h3,h4⟩|⟨p,h1,h2,h3,h4⟩
  ·rw[h1,h2]
   exact⟨h4 _,.inr ⟨_,_,by show(st.get fr1 i).toAV (st.M fr1)=_;rw[h1];rfl,rfl,h3 _ _⟩⟩
  ·rw[h1,h2]
   have hi:(VX.s (.one (.own p)):VX T).inbX s.ms.length=true:=zAd h3
   refine⟨VX.inb_of _ hi,.inl ?_⟩
   show AV.s (.one (.ls p (Pi HD p)))=.s (.one (.ls p (Pi (st.M fr1) p)))
   rw[hMS,As7 hmw p h4]
 ·rw[h2]
  rcases hf i with h3|h3
  ·left;rw[h3];rfl
  ·rcases Ot (C4 .top i fr1.t) i st.t with⟨p,hp,rfl,h4⟩|⟨h4,h5⟩
   ·have:=zJ.1 hk p hp
    rw[kO] at this
    rcases this with h|h
    ·exact absurd (Air.1 h) h1
    ·left;rw[hW _ (Air.1 h)];rfl
   ·right
    have e:st.get fr1 i=C4 .top i fr2.t:=by rw[h3];exact h4
    have hi2:(C4 .top i fr2.t).inbX s.ms.length=true:=by
     rcases Ot (.top:VX T) i fr2.t with⟨p,hp,_,h6⟩|⟨h6,_⟩
     ·rw[h6];exact zJ.1 hi p hp
     ·rw[h6];rfl
    rw[e]
    exact⟨VX.inb_of _ hi2,.inl (A72 (ho i))⟩
end
open Go.RowKit
variable {T:TT} [TX T] {P:Program} [Inf P] [El T P]
section
variable {R:Type} {r:R} {st:XS T} {K k:XS T->Option R}
def Ayf (nt:Nat) (dst:Option Tmp) (st:XS T) (k:XS T->Option R):Option R:=match dst with
 | none=>k st
 | some d=>cond (Nat.blt d nt) (k (st.upd d (.tup []))) none
def evL (nt:Nat) (F:Cds T P) (ops:Array Oper) (fr:Fr T) (K:XS T->Option R):List Oper->XS T->Option R
 | [],st=>K st
 | o::rest,st=>match o.guard with
  | none=>A8g nt F fr st (λst'=>evL nt F ops fr K rest st') o.dst o.op
  | some (j,want)=>match (ops[j]?).bind (·.dst) with
   | some dj=>match st.get fr dj with
    | .s (.one (.lf (.b b)))=>cond (Nat.blt dj nt) (if b then cond want (A8g nt F fr (st.upd dj (.s (.one (.lf (.b true))))) (λst'=>evL nt F ops fr K rest st') o.dst o.op) (Ayf nt o.dst (st.upd dj (.s (.one (.lf (.b true))))) λst'=>evL nt F ops fr K rest st')
      else cond want (Ayf nt o.dst (st.upd dj (.s (.one (.lf (.b false))))) λst'=>evL nt F ops fr K rest st') (A8g nt F fr (st.upd dj (.s (.one (.lf (.b false))))) (λst'=>evL nt F ops fr K rest st') o.dst o.op)) none
    | .tup []=>Ayf nt o.dst st λst'=>evL nt F ops fr K rest st'
    | _=>none
   | none=>none
inductive Ad where
 | t (i e sz:Nat) (c:Tc)
 | b (p i e sz:Nat) (c:Tc)
def adX (fr:Fr T) (k:XS T->Option R):List Ad->XS T->Option R
 | [],st=>k st
 | .t i e sz c::l,st=>match st.get fr i with
  | .s (.one (.lf x))=>cond (Ar1 x&&Nat.blt 0 sz) (adX fr k l (A4i fr st i e sz c [])) none
  | _=>adX fr k l st
 | .b p i e sz c::l,st=>match (A8 fr.m st.m)[p]? with
  | some (.box cs)=>match cs[i]? with
   | some (.lf x)=>cond (Ar1 x&&Nat.blt 0 sz) (adX fr k l ⟨st.drop fr st.m.length,st.m.set p (some (.box (cs.set i (.own st.m.length))))++[some (.arr e sz 0 c [])]⟩) none
   | _=>adX fr k l st
  | _=>adX fr k l st
section
variable {c:Ctx} {ops:Array Oper} {Q:Exit->AS->Prop} {F:Cds T P} {fr:Fr T}
omit [TX T] [Inf P] in
theorem Anl {dst:Option Tmp} {nt:Nat} (h:Ayf nt dst st k=some r):(∀ d,dst=some d->d<nt)/\∃ st',k st'=some r/\(st.toAS fr).put dst (.tup [])=st'.toAS fr:=by
 cases dst with
 | none=>exact⟨λd h=>(by cases h),st,h,rfl⟩
 | some d =>
  change cond (Nat.blt d nt) (k (st.upd d (.tup []))) none=some r at h
  cases e:Nat.blt d nt with
  | false=>rw[e] at h;cases h
  | true=>rw[e] at h;exact⟨λd' h=>(by cases h;exact Dl e),_,h,(XS.toAS_upd fr st d (.tup [])).symm⟩
omit [TX T] [Inf P] in
theorem Ag5 {dj:Nat} {b:Bool} (h:st.get fr dj=.s (.one (.lf (.b b)))):(st.toAS fr).t dj=.s (.one (.b b)):=by
 show(st.get fr dj).toAV _=_
 rw[h];rfl
omit [TX T] [Inf P] in
theorem V8 (st:XS T) (d:Nat) (x:VX T):(st.upd d x).get fr d=x:=by
 show cond (Nat.beq d d) x _=x
 rw[show Nat.beq d d=true from by simp];rfl
theorem Ags (k:∀ st',K st'=some r->AWL P c ops Q [] (st'.toAS fr)):∀ {l:List Oper} {st:XS T},evL c.nt F ops fr K l st=some r->AWL P c ops Q l (st.toAS fr)
 | [],st,h=>k st h
 | ⟨dst,op,ty,pos,af,g⟩::rest,st,h=>by
  unfold evL at h
  cases g with
  | none=>exact Anp h λst' h'=>Ags k h'
  | some g =>
   obtain⟨j,want⟩:=g
   change (match (ops[j]?).bind (·.dst) with
    | some dj=>_
    | none=>none)=some r at h
   split at h
   ·rename_i dj hj
    split at h
    ·rename_i b hb
     cases hn:Nat.blt dj c.nt with
     | false=>rw[hn] at h;cases h
     | true =>
      rw[hn] at h
      change (if b=true then _ else _)=some r at h
      refine Al8 (Ag5 hb) (λe=>?_) (λe=>?_)
      ·subst e
       rw[if_pos rfl] at h
       have hu:=XS.toAS_upd fr st dj (.s (.one (.lf (.b true))))
       change (st.upd dj (.s (.one (.lf (.b true))))).toAS fr=(st.toAS fr).upd dj (.s (.one (.b true))) at hu
       rw[<- hu]
       cases want with
       | true=>exact Avn hj (Ag5 (V8 _ _ _)) (Anp h λst' h'=>Ags k h') rfl (Dl hn)
       | false =>
        obtain⟨h1,st',h2,h3⟩:=Anl (fr:=fr) h
        exact Aii hj (Ag5 (V8 _ _ _)) rfl h1 (h3 ▸ Ags k h2)
      ·subst e
       rw[if_neg (by decide)] at h
       have hu:=XS.toAS_upd fr st dj (.s (.one (.lf (.b false))))
       change (st.upd dj (.s (.one (.lf (.b false))))).toAS fr=(st.toAS fr).upd dj (.s (.one (.b false))) at hu
       rw[<- hu]
       cases want with
       | true =>
        obtain⟨h1,st',h2,h3⟩:=Anl (fr:=fr) h
        exact Aii hj (Ag5 (V8 _ _ _)) rfl h1 (h3 ▸ Ags k h2)
       | false=>exact Avn hj (Ag5 (V8 _ _ _)) (Anp h λst' h'=>Ags k h') rfl (Dl hn)
    ·rename_i hb
     obtain⟨h1,st',h2,h3⟩:=Anl (fr:=fr) h
     exact Ajx hj (by show(st.get fr dj).toAV _=_;rw[hb];rfl) h1 (h3 ▸ Ags k h2)
    ·cases h
   ·cases h
omit [TX T] [Inf P] [El T P] in
theorem A6n {p i e sz:Nat} {cs:List (X T)} {t:Tc} (hm:(A8 fr.m st.m)[p]? = some (.box cs)):Wk ⟨(st.toAS fr).t,(st.toAS fr).m.set p (.box ((cs.map (X.toLf (st.L fr))).set i (.ls (st.toAS fr).m.length 0)))++[.arr e sz 0 []]⟩
  ((⟨st.drop fr st.m.length,st.m.set p (some (.box (cs.set i (.own st.m.length))))++[some (.arr e sz 0 t [])]⟩:XS T).toAS fr):=by
 have hml:(st.toAS fr).m.length=st.m.length:=by simp [XS.toAS,M8,XS.M,D8]
 have hM:A8 fr.m (st.m.set p (some (.box (cs.set i (.own st.m.length))))++[some (.arr e sz 0 t [])])=(A8 fr.m st.m).set p (.box (cs.set i (.own st.m.length)))++[.arr e sz 0 t []]:=by rw[Nc,I9]
 have hl:((A8 fr.m st.m).set p (BX.box (cs.set i (.own st.m.length)))).length=st.m.length:=by rw[xA,D8]
 have h1:∀ q:Nat,q≠st.m.length->E6 (A8 fr.m (st.m.set p (some (.box (cs.set i (.own st.m.length))))++[some (.arr e sz 0 t [])]))[q]? = E6 (A8 fr.m st.m)[q]? := λq hq=>by
  rw[hM,Ako _ _ (by rw[hl];exact hq),Aeo _ _ _ (by rw[hm];rfl)]
 have hlens:Pi (A8 fr.m (st.m.set p (some (.box (cs.set i (.own st.m.length))))++[some (.arr e sz 0 t [])]))=st.L fr:=by
  funext q
  show Agx (E6 _)=Agx (E6 (A8 fr.m st.m)[q]?)
  by_cases hq:q=st.m.length
  ·subst hq
   rw[hM,zX (by omega),hl,kZ,show(A8 fr.m st.m)[st.m.length]? = none from zZ (by rw[D8];exact zT _)]
   rfl
  ·rw[h1 q hq]
 refine⟨λq=>st.drop_t fr st.m.length _ h1 q,?_,λq x x' h h'=>?_⟩
 ·show(M8 (A8 fr.m (_++_))).length=_
  rw[hM]
  simp [M8,hml,D8]
 ·have h':(M8 (A8 fr.m (st.m.set p (some (.box (cs.set i (.own st.m.length))))++[some (.arr e sz 0 t [])])))[q]? = some x':=h'
  unfold M8 at h'
  rw[hlens,hM,xJ,x9] at h'
  have e0:(BX.box (cs.set i (.own st.m.length)):BX T).toBlk (st.L fr)=.box ((cs.map (X.toLf (st.L fr))).set i (.ls (st.toAS fr).m.length 0)):=by
   show Blk.box _=_
   rw[x9,hml]
   have:st.L fr st.m.length=0:=by
    show Agx (E6 (A8 fr.m st.m)[st.m.length]?)=0
    rw[show(A8 fr.m st.m)[st.m.length]? = none from zZ (by rw[D8];exact zT _)];rfl
   show Blk.box (List.set _ i (.ls _ (st.L fr st.m.length)))=_
   rw[this]
  rw[e0] at h'
  exact .inl (zF (h'.symm.trans h))
omit [TX T] [Inf P] [El T P] in
theorem Abj {x:Code} (k:∀ st',K st'=some r->AWC P c x Q (st'.toAS fr)):∀ {l:List Ad} {st:XS T},adX fr K l st=some r->AWC P c x Q (st.toAS fr)
 | [],st,h=>k st h
 | .t i e sz t::l,st,h=>by
  unfold adX at h
  split at h
  ·rename_i y hx
   obtain⟨hb,g⟩:=A9 h
   clear h
   rw[zG] at hb
   have hn:=Aca hb.1
   subst hn
   refine X5 e sz i (Dl hb.2) (by show(st.get fr i).toAV _=_;rw[hx];rfl) ?_
   exact Azw (Af9 (fr:=fr) (st:=st) (d:=i) (e:=e) (sz:=sz) (t:=t) (v:=[])) (Abj k g)
  ·exact Abj k h
 | .b p i e sz t::l,st,h=>by
  unfold adX at h
  split at h
  ·rename_i cs hm
   split at h
   ·rename_i y hy
    obtain⟨hb,g⟩:=A9 h
    clear h
    rw[zG] at hb
    have hn:=Aca hb.1
    subst hn
    refine Amx e sz p (cs:=cs.map (X.toLf (st.L fr))) i (Dl hb.2) (A09 hm) (by rw[zK,hy];rfl) ?_
    exact Azw (A6n hm) (Abj k g)
   ·exact Abj k h
  ·exact Abj k h
end
end
open Go.RowKit
section
variable {P:Program} {c:Ctx} {t:Nat->AV} {m:List Blk} {Q:Exit->AS->Prop}
def Ai4 (ws:List Nat) (W:List (Nat×Nat)) (i q:Nat):Bool:=W.all λe=>!(Nat.beq e.2 q)||Nat.beq e.1 i||cond (Nat.blt e.1 i) ((ws.getD i 0).testBit e.1) ((ws.getD e.1 0).testBit i)
abbrev Wr:=List (Nat×Nat×Blk)
def Ye (f:Nat->Bool) (M:List Blk):Wr->List Blk
 | []=>M
 | w::r=>Ye f (if f w.1=true then M.set w.2.1 w.2.2 else M) r
theorem Aek (f:Nat->Bool):∀ (wr:Wr) (M:List Blk),(Ye f M wr).length=M.length
 | [],_=>rfl
 | w::r,M=>by
  unfold Ye
  rw[Aek f r]
  split
  ·exact xA
  ·rfl
theorem Ai0 {f g:Nat->Bool} {q:Nat}:∀ {wr:Wr} {M M':List Blk},(∀ w∈wr,w.2.1=q->f w.1=g w.1)->M.length=M'.length->M[q]? = M'[q]? -> (Ye f M wr)[q]? = (Ye g M' wr)[q]?
 | [],_,_,_,_,h=>h
 | w::r,M,M',hw,hl,h=>by
  unfold Ye
  refine Ai0 (λw' h'=>hw w' (yH _ h')) ?_ ?_
  ·split <;> split <;> simp [hl]
  ·by_cases hq:w.2.1=q
   ·rw[hw w (yQ ..) hq]
    split
    ·rw[hq,kG,kG,if_pos rfl,if_pos rfl,hl]
    ·exact h
   ·have h1:∀ (b:Prop) [Decidable b] (N:List Blk),(if b then N.set w.2.1 w.2.2 else N)[q]? = N[q]? := λb _ N=>by
     split
     ·exact zS hq
     ·rfl
    rw[h1,h1,h]
theorem Avh {q:Nat} {f:Nat->Bool} {wr:Wr} {M:List Blk} (h:∀ w∈wr,w.2.1=q->f w.1=false):(Ye f M wr)[q]? = M[q]? := by
 have e:∀ (wr:Wr) (M:List Blk),Ye (λ_=>false) M wr=M:=λwr=>by
  induction wr with
  | nil=>intro M;rfl
  | cons w r ih=>intro M;unfold Ye;rw[if_neg (by decide)];exact ih M
 rw[Ai0 (g:=λ_=>false) (M':=M) h rfl rfl,e]
theorem Amy {f:Nat->Bool} {i p:Nat} {b:Blk}:∀ {wr:Wr} {M:List Blk},wr.Pairwise (λa b=>a.1<b.1)->(i,p,b)∈wr->f i=true->(∀ w∈wr,w.2.1=p->i<w.1->f w.1=false)->p<M.length->(Ye f M wr)[p]? = some b
 | [],_,_,h,_,_,_=>by cases h
 | w::r,M,hs,h,hf,hl,hp=>by
  have hs':=yX.1 hs
  unfold Ye
  cases h with
  | head =>
   rw[if_pos hf,Avh (λw' h' hq=>hl w' (yH _ h') hq (hs'.1 w' h'))]
   exact zN hp
  | tail _ h =>
   refine Amy hs'.2 h hf (λw' h'=>hl w' (yH _ h')) ?_
   split
   ·rw[xA];exact hp
   ·exact hp
theorem Ap1 {a b:Nat×Nat×Blk}:∀ {wr:Wr},wr.Pairwise (λa b=>a.1<b.1)->a∈wr->b∈wr->a.1=b.1->a=b
 | w::r,hs,ha,hb,h=>by
  have hs':=yX.1 hs
  rcases yB.1 ha with e1|ha'
  ·rcases yB.1 hb with e2|hb'
   ·rw[e1,e2]
   ·have:=hs'.1 b hb';rw[<- e1] at this;omega
  ·rcases yB.1 hb with e2|hb'
   ·have:=hs'.1 a ha';rw[<- e2] at this;omega
   ·exact Ap1 hs'.2 ha' hb' h
theorem Anv {i:Nat} {wr:Wr} {M:List Blk} (h:∀ w∈wr,i<=w.1):Ye (λe=>decide (e<i)) M wr=M:=by
 induction wr generalizing M with
 | nil=>rfl
 | cons w r ih =>
  unfold Ye
  rw[if_neg (by have:=h w (yQ ..);simp;omega)]
  exact ih (λw' h'=>h w' (yH _ h'))
theorem A39 {n:Nat} {wr:Wr} {M:List Blk} {f g:Nat->Bool} (hf:∀ e,e<n->f e=true) (hg:∀ e,e<n->g e=true) (h:∀ w∈wr,w.1<n):Ye f M wr=Ye g M wr:=by
 induction wr generalizing M with
 | nil=>rfl
 | cons w r ih =>
  unfold Ye
  have:=h w (yQ ..)
  rw[hf _ this,hg _ this]
  exact ih (λw' h'=>h w' (yH _ h'))
def Agr (ws:List Nat) (W:List (Nat×Nat)) (i:Nat) (M M2:List Blk):Prop:=M2.length=M.length/\∀ q,Ai4 ws W i q=true->M2[q]? = M[q]?
def DW (P:Program) (c:Ctx) (ops:Array Oper) (ws:List Nat) (W:List (Nat×Nat)) (k:(Nat->AV)->List Blk->Prop):Nat->List Blk->List Oper->(Nat->AV)->Prop
 | _,M,[],t=>k t M
 | i,M,o::rest,t =>
  (∃ x d,o.dst=some d/\d<c.nt/\(∀ M2,Agr ws W i M M2->Aah P c M2 ops t o x)/\DW P c ops ws W k (i+1) M rest (upd t d x)) \/
  (∃ p b x,(i,p)∈W/\Ai4 ws W i p=true/\p<M.length/\Awf ops t o/\(∀ M2,Agr ws W i M M2->A0t P c ops t M2 (M2.set p b) o x)/\(∀ d,o.dst=some d->d<c.nt) /\
   DW P c ops ws W k (i+1) (M.set p b) rest (match o.dst with|some d=>upd t d x|none=>t))
def AtW (P:Program) (c:Ctx) (ops:Array Oper) (ws:List Nat) (W:List (Nat×Nat)) (M:List Blk) (wr:Wr) (T:Nat->AV) (i:Nat) (o:Oper):Prop :=
 ((∀ w∈wr,w.1≠i)/\∃ d,o.dst=some d/\d<c.nt/\∀ M2,Agr ws W i (Ye (λe=>decide (e<i)) M wr) M2->Aah P c M2 ops T o (T d)) \/
 (∃ p b x,(i,p,b)∈wr/\Ai4 ws W i p=true/\p<M.length/\Awf ops T o/\(∀ M2,Agr ws W i (Ye (λe=>decide (e<i)) M wr) M2->A0t P c ops T M2 (M2.set p b) o x)/\∀ d,o.dst=some d->d<c.nt/\T d=x)
theorem DW.get {ops:Array Oper} {ws:List Nat} {W:List (Nat×Nat)} {k:(Nat->AV)->List Blk->Prop}:∀ {l:List Oper} {i:Nat} {M:List Blk} {t:Nat->AV},DW P c ops ws W k i M l t->(K6 l).Nodup->(∀ (q:Nat) (o:Oper),l[q]? = some o->∀ y∈o.looksAt ops,y∉K6 (l.drop q)) ->
  ∃ T wr,k T (Ye (λ_=>true) M wr)/\(∀ y,y∉K6 l->T y=t y)/\(wr.Pairwise λa b=>a.1<b.1)/\(∀ w∈wr,i<=w.1/\w.1<i+l.length/\(w.1,w.2.1)∈W)/\∀ (q:Nat) (o:Oper),l[q]? = some o->AtW P c ops ws W M wr T (i+q) o
 | [],i,M,t,h,_,_=>⟨t,[],h,λ_ _=>rfl,.nil,(λw h=>by cases h),(λq o h=>by simp at h)⟩
 | o::rest,i,M,t,h,hnd,hl=>by
  have hlook:∀ y∈o.looksAt ops,y∉K6 (o::rest):=λy hy=>by simpa using hl 0 o rfl y hy
  have hlt:∀ (q:Nat) (o':Oper),rest[q]? = some o'->∀ y∈o'.looksAt ops,y∉K6 (rest.drop q):=λq o' h' y hy=>by
   have:=hl (q+1) o' (by simpa using h') y hy
   simpa using this
  rcases h with⟨x,d,hd,hdn,hg,hr⟩|⟨p,b,x,h1,h2,h3,h4,h5,h6,hr⟩
  ·have hds:K6 (o::rest)=d::K6 rest:=by simp [K6,hd]
   rw[hds] at hnd hlook
   have hnd':=wE.1 hnd
   obtain⟨T,wr,hk,hT,hs,hw,hG⟩:=DW.get hr hnd'.2 hlt
   have hTl:∀ y∈o.looksAt ops,t y=T y:=λy hy=>by
    have:=hlook y hy
    simp only[yB,not_or] at this
    rw[hT y this.2,Et,if_neg this.1]
   have hTd:T d=x:=by rw[hT d hnd'.1,Et,if_pos rfl]
   refine⟨T,wr,hk,λy hy=>?_,hs,λw hw'=>?_,λq o' h'=>?_⟩
   ·rw[hds] at hy
    simp only[yB,not_or] at hy
    rw[hT y hy.2,Et,if_neg hy.1]
   ·obtain⟨a1,a2,a3⟩:=hw w hw'
    exact⟨by omega,by simp;omega,a3⟩
   ·cases q with
    | zero =>
     simp only[yV,z2] at h'
     subst h'
     refine .inl ⟨λw hw'=>by have:=(hw w hw').1;simp;omega,d,hd,hdn,λM2 h2=>?_⟩
     rw[hTd]
     rw[Anv (λw hw'=>by have:=(hw w hw').1;simp;omega)] at h2
     exact(hg M2 h2).congr hTl
    | succ q =>
     have:=hG q o' (by simpa using h')
     rw[show i+1+q=i+(q+1) by omega] at this
     exact this
  ·have fin:∀ {T:Nat->AV} {wr:Wr},(∀ y∈o.looksAt ops,t y=T y)->(wr.Pairwise λa b=>a.1<b.1)->(∀ w∈wr,i+1<=w.1/\w.1<i+1+rest.length/\(w.1,w.2.1)∈W)->(∀ d,o.dst=some d->T d=x) ->
     (∀ (q:Nat) (o':Oper),rest[q]? = some o'->AtW P c ops ws W (M.set p b) wr T (i+1+q) o') ->
     (((i,p,b)::wr).Pairwise λa b=>a.1<b.1)/\(∀ w∈(i,p,b)::wr,i<=w.1/\w.1<i+(o::rest).length/\(w.1,w.2.1)∈W)/\∀ (q:Nat) (o':Oper),(o::rest)[q]? = some o'->AtW P c ops ws W M ((i,p,b)::wr) T (i+q) o':=by
    intro T wr hTl hs hw hTd hG
    refine⟨yX.2 ⟨λw hw'=>by have:=(hw w hw').1;simp;omega,hs⟩,λw hw'=>?_,λq o' h'=>?_⟩
    ·rcases yB.1 hw' with rfl|hw'
     ·exact⟨zT _,by simp,h1⟩
     ·obtain⟨a1,a2,a3⟩:=hw w hw'
      exact⟨by omega,by simp;omega,a3⟩
    ·have hM:∀ n,i<n->Ye (λe=>decide (e<n)) M ((i,p,b)::wr)=Ye (λe=>decide (e<n)) (M.set p b) wr:=λn hn=>by
      show Ye _ (if decide (i<n)=true then M.set p b else M) wr=_
      rw[if_pos (by simpa using hn)]
     cases q with
     | zero =>
      simp only[yV,z2] at h'
      subst h'
      refine .inr ⟨p,b,x,yQ ..,h2,h3,h4.congr hTl,λM2 hM2=>?_,λd hd=>⟨h6 d hd,hTd d hd⟩⟩
      have e:Ye (λe=>decide (e<i+0)) M ((i,p,b)::wr)=M:=by
       refine Anv (λw hw'=>?_)
       rcases yB.1 hw' with rfl|hw'
       ·exact zT _
       ·have:=(hw w hw').1;omega
      rw[e] at hM2
      exact(h5 M2 hM2).congr hTl
     | succ q =>
      have:=hG q o' (by simpa using h')
      rw[show i+1+q=i+(q+1) by omega] at this
      rcases this with⟨b1,d,b2,b3,b4⟩|⟨p',b',x',b1,b2,b3,b4,b5,b6⟩
      ·refine .inl ⟨λw hw'=>?_,d,b2,b3,λM2 hM2=>b4 M2 ?_⟩
       ·rcases yB.1 hw' with rfl|hw'
        ·show i≠i+(q+1);omega
        ·exact b1 w hw'
       ·rw[hM _ (by omega)] at hM2;exact hM2
      ·refine .inr ⟨p',b',x',yH _ b1,b2,by simpa using b3,b4,λM2 hM2=>b5 M2 ?_,b6⟩
       rw[hM _ (by omega)] at hM2;exact hM2
   have hlast:∀ wr:Wr,Ye (λ_=>true) M ((i,p,b)::wr)=Ye (λ_=>true) (M.set p b) wr:=λwr=>by
    show Ye _ (if true=true then M.set p b else M) wr=_
    rw[if_pos rfl]
   cases hd:o.dst with
   | none =>
    have hds:K6 (o::rest)=K6 rest:=by simp [K6,hd]
    rw[hds] at hnd hlook
    rw[hd] at hr
    obtain⟨T,wr,hk,hT,hs,hw,hG⟩:=DW.get hr hnd hlt
    obtain⟨f1,f2,f3⟩:=fin (λy hy=>(hT y (hlook y hy)).symm) hs hw (λd h=>by rw[hd] at h;cases h) hG
    exact⟨T,(i,p,b)::wr,by rw[hlast];exact hk,λy hy=>hT y (by rw[hds] at hy;exact hy),f1,f2,f3⟩
   | some d =>
    have hds:K6 (o::rest)=d::K6 rest:=by simp [K6,hd]
    rw[hds] at hnd hlook
    have hnd':=wE.1 hnd
    rw[hd] at hr
    obtain⟨T,wr,hk,hT0,hs,hw,hG⟩:=DW.get hr hnd'.2 hlt
    have hT:∀ y,y∉K6 rest->T y=upd t d x y:=hT0
    have hTl:∀ y∈o.looksAt ops,t y=T y:=λy hy=>by
     have:=hlook y hy
     simp only[yB,not_or] at this
     rw[hT y this.2,Et,if_neg this.1]
    have hTd:T d=x:=by rw[hT d hnd'.1,Et,if_pos rfl]
    obtain⟨f1,f2,f3⟩:=fin hTl hs hw (λd' h=>by rw[hd] at h;cases h;exact hTd) hG
    refine⟨T,(i,p,b)::wr,by rw[hlast];exact hk,λy hy=>?_,f1,f2,f3⟩
    rw[hds] at hy
    simp only[yB,not_or] at hy
    rw[hT y hy.2,Et,if_neg hy.1]
theorem Ar0 {l:List Oper} (ok:Zw l.toArray):(K6 l).Nodup:=by
 have key:∀ (k:List Oper) (n:Nat),(∀ i o,k[i]? = some o->l[n+i]? = some o)->(K6 k).Nodup:=by
  intro k
  induction k with
  | nil=>intro n _;exact kM
  | cons o r ih =>
   intro n hk
   have ih':=ih (n+1) (λi o' h'=>by have:=hk (i+1) o' (by simpa using h');rw[<- this];congr 1;omega)
   cases hd:o.dst with
   | none=>simpa [K6,hd] using ih'
   | some d =>
    have hds:K6 (o::r)=d::K6 r:=by simp [K6,hd]
    rw[hds]
    refine wE.2 ⟨λhmem=>?_,ih'⟩
    unfold K6 at hmem
    rw[kC] at hmem
    obtain⟨p,hp,hpd⟩:=hmem
    obtain⟨q,hq,hqp⟩:=y9 hp
    have h1:=hk 0 o rfl
    have h2:=hk (q+1) p (by simp [hq,hqp])
    exact ok.ne n o (n+(q+1)) p (by simpa using h1) (by simpa using h2) (by omega) d hd hpd
 exact key l 0 (λi o h=>by simpa using h)
theorem Aoc {id:Nat} {l:List Oper} (W:List (Nat×Nat)) (hm:P.follows .mixedOrders=true) (hok:W8 l.toArray=true)
  (h:DW P c l.toArray (Md l []) W (λT M=>Q .normal ⟨T,M⟩) 0 m l t):AWC P c (.region id l.toArray true) Q ⟨t,m⟩:=by
 refine AWD.awc hm ?_
 have ok:=Ah4 hok
 obtain⟨T,wr,hQ,hTt,hsort,hwr,hG⟩:=DW.get h (Ar0 ok) (A5y ok)
 let B:Array Bool->List Blk:=λlisted=>Ye (λe=>listed.getD e false) m wr
 let HI:Array Bool->(Nat->Value)->Prop:=λlisted _=>U9 l.toArray listed
 have hws:∀ {listed:Array Bool},U9 l.toArray listed->∀ i,listed.getD i false=true->∀ j,((Md l []).getD i 0).testBit j=true->listed.getD j false=true:=λhc =>
  Aa9 hc l [] (λi o h=>by simpa using h) (λi h=>by simp at h)
 have huf:∀ {listed:Array Bool} {i:Nat},listed.size=l.toArray.size->i<l.length->listed.getD i true=false->listed.getD i false=false:=by
  intro listed i hs hi h
  simp only[zH] at h ⊢
  rw[z9 (by rw[hs];simpa using hi)] at h ⊢
  exact h
 have hother:∀ {listed:Array Bool} {i e:Nat},e≠i->(listed.setIfInBounds i true).getD e false=listed.getD e false:=λ{listed i e} h=>by
  simp only[zH,xL (λe'=>h e'.symm)]
 have hself:∀ {listed:Array Bool} {i:Nat},listed.size=l.toArray.size->i<l.length->(listed.setIfInBounds i true).getD i false=true:=λ{listed i} hs hi=>by
  simp only[zH]
  rw[wB (by rw[hs];simpa using hi)];rfl
 have hex:∀ {listed:Array Bool} {i q:Nat} {o:Oper},U9 l.toArray listed->l[i]? = some o->Met listed o->listed.getD i false=false->Ai4 (Md l []) W i q=true->∀ w∈wr,w.2.1=q->listed.getD w.1 false=decide (w.1<i):=by
  intro listed i q o hc ho hmt hun hx w hw hq
  have h0:=zJ.1 hx _ (hwr w hw).2.2
  simp only[hq,kO,xQ] at h0
  rcases h0 with(h0|h0)|h0
  ·rw[show Nat.beq q q=true from by simp] at h0;cases h0
  ·rw[zM h0,hun];simp
  ·cases hb:Nat.blt w.1 i with
   | true =>
    rw[hb] at h0
    have hlt:w.1<i:=yN hb
    rw[decide_eq_true hlt]
    exact Ae0 (ops:=l.toArray) hc (i:=i) (o:=o) (by simpa using ho) hmt (j:=w.1) h0
   | false =>
    rw[hb] at h0
    have hge:¬ w.1<i:=λhlt=>by rw[show Nat.blt w.1 i=true from zAd hlt] at hb;cases hb
    rw[decide_eq_false hge]
    cases hl:listed.getD w.1 false with
    | false=>rfl
    | true =>
     have:=hws hc w.1 hl i h0
     rw[hun] at this;cases this
 have hagr:∀ {listed:Array Bool} {i:Nat} {o:Oper},U9 l.toArray listed->l[i]? = some o->Met listed o->listed.getD i false=false->Agr (Md l []) W i (Ye (λe=>decide (e<i)) m wr) (B listed):=λhc ho hmt hun =>
  ⟨by rw[Aek,Aek],λq hx=>Ai0 (λw hw hq=>hex hc ho hmt hun hx w hw hq) rfl rfl⟩
 have hlk:∀ {i:Nat} {o:Oper},l.toArray[i]? = some o->l[i]? = some o/\i<l.length:=λ{i o} h=>by
  have h':l[i]? = some o:=by simpa using h
  exact⟨h',(zB.1 h').1⟩
 refine Alh (T:=T) (B:=B) (HI:=HI) ok (λi o ho=>?_) hTt (λa w S H r=>⟨H,?_,?_⟩) (λlisted hs hl=>?_)
 ·obtain⟨ho',hil⟩:=hlk ho
  rcases hG i o ho' with⟨hne,d,hd,hdn,hg⟩|⟨p,b,x,h1,h2,h3,h4,h5,h6⟩
  ·rw[yT] at hne hg
   refine .inl λlisted H hs hun hmt hc=>⟨B listed,⟨d,hd,hdn,hg _ (hagr hc ho' hmt (huf hs hil hun))⟩,Al6.refl _,?_,hc.set ho hmt⟩
   have:∀ (wr:Wr) (M:List Blk),(∀ w∈wr,w.1≠i)->Ye (λe=>(listed.setIfInBounds i true).getD e false) M wr=Ye (λe=>listed.getD e false) M wr:=λwr=>by
    induction wr with
    | nil=>intro M _;rfl
    | cons w r ih =>
     intro M hne
     unfold Ye
     rw[hother (hne w (yQ ..))]
     exact ih _ (λw' h'=>hne w' (yH _ h'))
   exact this wr m hne
  ·rw[yT] at h1 h2 h5
   refine .inr ⟨h4,λlisted hs hun hmt a w S H r hc K Qn hK=>?_⟩
   have hun':=huf hs hil hun
   have heff:=h5 _ (hagr hc ho' hmt hun')
   have hB2:B (listed.setIfInBounds i true)=(B listed).set p b:=by
    refine wA λq=>?_
    by_cases hq:q=p
    ·subst hq
     have hpl:q<(B listed).length:=by
      show q<(Ye _ m wr).length
      rw[Aek];exact h3
     rw[zN hpl]
     refine Amy hsort h1 (hself hs hil) (λw hw hq hlt=>?_) h3
     show(listed.setIfInBounds i true).getD w.1 false=false
     rw[hother (by omega),hex hc ho' hmt hun' h2 w hw hq]
     exact decide_eq_false (by omega)
    ·rw[zS (λe=>hq e.symm)]
     refine Ai0 (λw hw hwq=>hother λe=>hq ?_) rfl rfl
     have:w=(i,p,b):=Ap1 hsort hw h1 e
     rw[<- hwq,this]
   have hlook:=Am8 (T:=T) ok hs ho hmt
   have hmix:mix T (o.looksAt l.toArray) (TL l.toArray T listed)=TL l.toArray T listed:=by
    funext y
    unfold mix
    cases hc':(o.looksAt l.toArray).contains y with
    | false=>rfl
    | true=>exact(hlook y (by simpa using hc')).symm
   have heff:=heff (TL l.toArray T listed)
   rw[hmix] at heff
   have hw:=heff a w S H r
   unfold wpList at hw
   rw[if_pos (by rfl)] at hw
   rcases hw with hw|⟨_,a',w',st',S',H',_,he,_⟩
   ·refine Amw (P:=P) (o:=o) ?_ ?_ (show o.wp P a w _ _ from hw)
    ·rintro a' w' ⟨st',S',H',r',_,rfl⟩
     refine hK a' w' S' H' ?_ (hc.set ho hmt)
     rw[hB2]
     cases hd:o.dst with
     | none =>
      rw[hd] at r'
      rw[<- Agb ho hd]
      exact r'
     | some d =>
      rw[hd] at r'
      rw[<- Asy (T:=T) ok hs ho hun hd,(h6 d hd).2]
      exact r'
    ·rintro e a' w' hne ⟨st',S',H',r',he,_⟩
     exact absurd he hne
   ·cases he
 ·have:B (Array.replicate l.toArray.size false)=m:=by
   have h0:∀ e,(Array.replicate l.toArray.size false).getD e false=false:=λe=>by
    simp only[zH,wP]
    split <;> rfl
   show Ye (λe=>(Array.replicate l.toArray.size false).getD e false) m wr=m
   have:(λe=>(Array.replicate l.toArray.size false).getD e false)=λe=>decide (e<0):=by funext e;rw[h0];simp
   rw[this]
   exact Anv (λw hw=>zU _)
  rw[this]
  exact r
 ·intro i o _ hl
  simp only[zH,wP] at hl
  split at hl <;> simp at hl
 ·have:B listed=Ye (λ_=>true) m wr:=by
   refine A39 (n:=l.length) (λe he=>?_) (λ_ _=>rfl) (λw hw=>by have:=(hwr w hw).2.1;omega)
   have h1:=hl e (by simpa using he)
   have h2:e<listed.size:=by rw[hs];simpa using he
   simp only[zH,z9 h2,yS] at h1 ⊢
   exact h1
  rw[this]
  exact hQ
end
open Go.RowKit
section
variable {P:Program} {c:Ctx} {t:Nat->AV} {m:List Blk} {Q:Exit->AS->Prop} {ops:Array Oper} {ws:List Nat} {W:List (Nat×Nat)} {k:(Nat->AV)->List Blk->Prop} {M:List Blk} {i:Nat} {rest:List Oper} {op:Op} {ty:TypeId} {pos:String} {af:Array Edge} {d:Tmp} {x:AV} {b:Blk}
theorem A6o:∀ {l:List Oper} {i:Nat} {t:Nat->AV},DR P c m ops (λT=>k T m) l t->DW P c ops ws [] k i m l t
 | [],_,_,h=>h
 | _::_,_,_,⟨x,d,h1,h2,h3,h4⟩=>.inl ⟨x,d,h1,h2,λ_ h=>by rw[wA λq=>h.2 q rfl];exact h3,A6o h4⟩
theorem cdn {id:Nat} {l:List Oper} (hm:P.follows .mixedOrders=true) (hok:W8 l.toArray=true) (h:DR P c m l.toArray (λT=>Q .normal ⟨T,m⟩) l t):AWC P c (.region id l.toArray true) Q ⟨t,m⟩ :=
 Aoc [] hm hok (A6o h)
theorem cdw {id:Nat} {l:List Oper} (ws:List Nat) (W:List (Nat×Nat)) (hws:Md l []=ws) (hm:P.follows .mixedOrders=true) (hok:W8 l.toArray=true)
  (h:DW P c l.toArray ws W (λT M=>Q .normal ⟨T,M⟩) 0 m l t):AWC P c (.region id l.toArray true) Q ⟨t,m⟩:=Aoc W hm hok (hws ▸ h)
theorem wn (M':List Blk) (e:M=M') (h:k t M'):DW P c ops ws W k i M [] t:=e ▸ h
theorem wv (hd:decide (d<c.nt)=true) (h:∀ M2,(∀ q,Ai4 ws W i q=true->M2[q]? = M[q]?)->OpV P c ⟨Ob t (Oper.looksAt ops ⟨some d,op,ty,pos,af,none⟩),M2⟩ op ty x) (kk:DW P c ops ws W k (i+1) M rest (upd t d x)):DW P c ops ws W k i M (⟨some d,op,ty,pos,af,none⟩::rest) t :=
 .inl ⟨x,d,rfl,of_decide_eq_true hd,λM2 hM=>.inl ⟨.inl rfl,(h M2 hM.2).opD⟩,kk⟩
theorem wes (p:Nat) (hW:W.contains (i,p)&&Ai4 ws W i p&&decide (p<M.length)&&decide (d<c.nt)=true)
  (h:∀ M2,(∀ q,Ai4 ws W i q=true->M2[q]? = M[q]?)->∀ ζ,AWL P c ops (λe st=>e=.normal/\st=⟨upd (mix t (Oper.looksAt ops ⟨some d,op,ty,pos,af,none⟩) ζ) d x,M2.set p b⟩) [⟨some d,op,ty,pos,af,none⟩] ⟨mix t (Oper.looksAt ops ⟨some d,op,ty,pos,af,none⟩) ζ,M2⟩)
  (kk:DW P c ops ws W k (i+1) (M.set p b) rest (upd t d x)):DW P c ops ws W k i M (⟨some d,op,ty,pos,af,none⟩::rest) t:=by
 simp only[zG,decide_eq_true_eq,zAg] at hW
 exact .inr ⟨p,b,x,hW.1.1.1,hW.1.1.2,hW.1.2,.inl rfl,λM2 hM=>h M2 hM.2,(λd' h'=>by cases h';exact hW.2),kk⟩
theorem we0 (p:Nat) (hW:W.contains (i,p)&&Ai4 ws W i p&&decide (p<M.length)=true)
  (h:∀ M2,(∀ q,Ai4 ws W i q=true->M2[q]? = M[q]?)->∀ ζ,AWL P c ops (λe st=>e=.normal/\st=⟨mix t (Oper.looksAt ops ⟨none,op,ty,pos,af,none⟩) ζ,M2.set p b⟩) [⟨none,op,ty,pos,af,none⟩] ⟨mix t (Oper.looksAt ops ⟨none,op,ty,pos,af,none⟩) ζ,M2⟩)
  (kk:DW P c ops ws W k (i+1) (M.set p b) rest t):DW P c ops ws W k i M (⟨none,op,ty,pos,af,none⟩::rest) t:=by
 simp only[zG,decide_eq_true_eq,zAg] at hW
 exact .inr ⟨p,b,.top,hW.1.1,hW.1.2,hW.2,.inl rfl,λM2 hM=>h M2 hM.2,(λd' h'=>by cases h'),kk⟩
end
open Go.RowKit
variable {T:TT} [TX T] {P:Program} [Inf P] [El T P]
section
omit [TX T] [Inf P] [El T P]
theorem LfW.trans {a b c:Lf} (h:LfW a b) (k:LfW b c):LfW a c:=by
 rcases h with rfl|⟨p,n,rfl,rfl⟩
 ·exact k
 ·rcases k with rfl|⟨q,n',h,rfl⟩
  ·exact .inr ⟨p,n,rfl,rfl⟩
  ·cases h;exact .inr ⟨p,n,rfl,rfl⟩
theorem Agv.trans {a b c:Blk} (h:Agv a b) (k:Agv b c):Agv a c:=by
 rcases h with rfl|⟨cs,cs',rfl,rfl,hl,h⟩
 ·exact k
 ·rcases k with rfl|⟨cs1,cs2,e,rfl,hl2,k⟩
  ·exact .inr ⟨cs,cs',rfl,rfl,hl,h⟩
  ·cases e
   refine .inr ⟨cs,cs2,rfl,rfl,hl2.trans hl,λj l l' h1 h2=>?_⟩
   have hj:j<cs'.length:=by rw[<- hl2];exact(zB.1 h2).1
   exact(h j l _ h1 (zC hj)).trans (k j _ l' (zC hj) h2)
theorem Wk.refl (a:AS):Wk a a:=⟨λ_=>.inr rfl,rfl,λq x x' h h'=>by rw[h] at h';cases h';exact .inl rfl⟩
theorem Wk.trans {a b c:AS} (h:Wk a b) (k:Wk b c):Wk a c:=by
 refine⟨λi=>?_,k.2.1.trans h.2.1,λq x x' h1 h2=>?_⟩
 ·rcases k.1 i with e|e
  ·exact .inl e
  ·rw[e];exact h.1 i
 ·have hq:q<b.m.length:=by rw[<- k.2.1];exact(zB.1 h2).1
  exact(h.2.2 q x _ h1 (zC hq)).trans (k.2.2 q _ x' (zC hq) h2)
theorem Wk.upd {a b:AS} (h:Wk a b) (d:Nat) (x:AV):Wk ⟨Go.Proofs.YtkblaobhhoebaaaGreat.Abs.upd a.t d x,a.m⟩ ⟨Go.Proofs.YtkblaobhhoebaaaGreat.Abs.upd b.t d x,b.m⟩:=by
 refine⟨λi=>?_,h.2⟩
 show cond (Nat.beq i d) x (b.t i)=.top\/cond (Nat.beq i d) x (b.t i)=cond (Nat.beq i d) x (a.t i)
 cases Nat.beq i d with
 | true=>exact .inr rfl
 | false=>exact h.1 i
theorem Wk.set {a b:AS} (h:Wk a b) (p:Nat) {x y:Blk} (hx:Agv x y):Wk ⟨a.t,a.m.set p x⟩ ⟨b.t,b.m.set p y⟩:=by
 refine⟨h.1,by simp [h.2.1],λq u u' h1 h2=>?_⟩
 by_cases hq:q=p
 ·subst hq
  have h1:(a.m.set q x)[q]? = some u:=h1
  have h2:(b.m.set q y)[q]? = some u':=h2
  have hl:q<a.m.length:=by have:=(zB.1 h1).1;simpa using this
  have hl2:q<b.m.length:=by have:=(zB.1 h2).1;simpa using this
  rw[zN hl] at h1
  rw[zN hl2] at h2
  cases h1;cases h2
  exact hx
 ·have h1:(a.m.set p x)[q]? = some u:=h1
  have h2:(b.m.set p y)[q]? = some u':=h2
  rw[zS (λe=>hq e.symm)] at h1 h2
  exact h.2.2 q u u' h1 h2
theorem Wk.get {a b:AS} (h:Wk a b) {p:Nat} {y:Blk} (hy:b.m[p]? = some y):∃ x,a.m[p]? = some x/\Agv x y:=by
 have hp:p<a.m.length:=by rw[<- h.2.1];exact(zB.1 hy).1
 exact⟨a.m[p],zC hp,h.2.2 p _ y (zC hp) hy⟩
def okX (ex:Nat->Bool):X T->Bool
 | .own p=>ex p
 | .old p=>ex p
 | .lf l=>match l with
  | .lp .. =>true
  | l=>l.pubd
 | _=>true
def okS (ex:Nat->Bool):SX T->Bool
 | .one x=>okX ex x
 | .agg xs=>xs.all (okX ex)
def okV (ex:Nat->Bool):VX T->Bool
 | .s x=>okS ex x
 | .tup xs=>xs.all (okS ex)
 | .top=>true
 | .oel p _ _ _ _ _=>ex p
def Awd (ex:Nat->Bool) (x:VX T):VX T:=cond (okV ex x) x .top
def Ajs (ex:Nat->Bool):Nat->List (BX T)->List (Option (BX T))
 | _,[]=>[]
 | n,b::M=>some (cond (ex n) b .dead)::Ajs ex (n+1) M
def rXm (ex:Nat->Bool) (fr:Fr T) (st:XS T) (L:List Nat):XS T:=⟨L.map λi=>(i,Awd ex (st.get fr i)),Ajs ex 0 (A8 fr.m st.m)⟩
abbrev fr1:Fr T:=⟨[],[]⟩
theorem X6 (ex:Nat->Bool):∀ (M:List (BX T)) (n q:Nat),(A8 [] (Ajs ex n M))[q]? = M[q]?.map λb=>cond (ex (n+q)) b .dead
 | [],n,q=>by unfold Ajs A8;simp
 | b::M,n,q=>by
  have e:A8 [] (Ajs ex n (b::M))=cond (ex n) b .dead::A8 [] (Ajs ex (n+1) M):=Aks _ _ []
  rw[e]
  cases q with
  | zero=>simp
  | succ q =>
   rw[kD,kD,X6 ex M (n+1) q]
   rw[show n+1+q=n+(q+1) by omega]
theorem Xa {ex:Nat->Bool} {M:List (BX T)} {p:Nat} (h:ex p=true):Pi (A8 [] (Ajs ex 0 M)) p=Pi M p:=by
 unfold Pi
 rw[X6,yT,h]
 cases M[p]? <;> rfl
theorem A4z {ex:Nat->Bool} {L L':Nat->Nat} (hL:∀ p,ex p=true->L' p=L p) {x:X T} (h:okX ex x=true):x.toLf L'=x.toLf L:=by
 cases x with
 | own p=>show Lf.ls p (L' p)=.ls p (L p);rw[hL p h]
 | _=>rfl
theorem A7r {ex:Nat->Bool} {L L':Nat->Nat} (hL:∀ p,ex p=true->L' p=L p) {xs:List (X T)} (h:xs.all (okX ex)=true):xs.map (X.toLf L')=xs.map (X.toLf L) :=
 xU λx hx=>A4z hL (zJ.1 h x hx)
theorem Ayl {ex:Nat->Bool} {L L':Nat->Nat} (hL:∀ p,ex p=true->L' p=L p) {x:SX T} (h:okS ex x=true):x.toSV L'=x.toSV L:=by
 cases x with
 | one x=>exact congrArg SV.one (A4z hL h)
 | agg xs=>exact congrArg SV.agg (A7r hL h)
theorem A66 {ex:Nat->Bool} {M:List (BX T)} {x:VX T} (h:okV ex x=true):x.toAV (A8 [] (Ajs ex 0 M))=x.toAV M:=by
 have hL:∀ p,ex p=true->Pi (A8 [] (Ajs ex 0 M)) p=Pi M p:=λp=>Xa
 cases x with
 | s x=>exact congrArg AV.s (Ayl hL h)
 | tup xs=>exact congrArg AV.tup (xU λx hx=>Ayl hL (zJ.1 h x hx))
 | top=>rfl
 | oel p j sz o t u =>
  show Aj7 p j (j.toNat*sz+o) t u (E6 (A8 [] (Ajs ex 0 M))[p]?)=_
  have h:ex p=true:=h
  rw[X6,yT,h]
  show Aj7 p j (j.toNat*sz+o) t u (E6 (M[p]?.map λb=>b))=_
  rw[Option.map_id'];rfl
def Bav (ex:Nat->Bool):Lf->Prop
 | .ls p _=>ex p=true
 | .ap p _ _=>ex p=true
 | .lp _ _=>True
 | l=>l.pubd=true
theorem A0a {ex:Nat->Bool} {x:X T} (L:Nat->Nat) (h:okX ex x=true):Bav ex (x.toLf L):=by
 cases x with
 | lf l=>cases l <;> first | exact trivial | exact h | cases h
 | own p=>exact h
 | old p=>exact h
 | u8 v=>rfl
 | row t v=>rfl
 | el t v r o=>rfl
theorem A3r {ex:Nat->Bool} {w:World} {S:Dx} {m m2:List Blk} {H:Nat->Value} (hl:m.length=m2.length) (hm:∀ p e sz k cs,ex p=true->m2[p]? = some (.arr e sz k cs)->m[p]? = some (.arr e sz k cs)) {l:Lf} {v:Value} (ho:Bav ex l) (h:Bf w S m H l v):Bf w S m2 H l v:=by
 cases l with
 | ls p n=>exact⟨hl ▸ h.1,h.2.1,λe sz k cs hm2=>h.2.2 e sz k cs (hm p e sz k cs ho hm2)⟩
 | ap p n o=>exact⟨hl ▸ h.1,h.2.1,λe sz k cs hm2=>h.2.2 e sz k cs (hm p e sz k cs ho hm2)⟩
 | lp p o=>exact⟨hl ▸ h.1,h.2⟩
 | mp k p=>cases ho
 | _=>exact Bf.of_rep (Bf.rep h ho)
theorem A07 {ex:Nat->Bool} {w:World} {S:Dx} {m m2:List Blk} {H:Nat->Value} (hl:m.length=m2.length) (hm:∀ p e sz k cs,ex p=true->m2[p]? = some (.arr e sz k cs)->m[p]? = some (.arr e sz k cs)) {M:List (BX T)} {x:VX T} (ho:okV ex x=true) {v:Value} (h:AVR (Bf w S m H) (x.toAV M) v):AVR (Bf w S m2 H) (x.toAV M) v:=by
 have up:∀ {l v},Bav ex l->Bf w S m H l v->Bf w S m2 H l v:=A3r hl hm
 have ups:∀ {x:SX T} {v},okS ex x=true->SVR (Bf w S m H) (x.toSV (Pi M)) v->SVR (Bf w S m2 H) (x.toSV (Pi M)) v:=λ{x v} ho h=>by
  cases x with
  | one x=>exact up (A0a _ ho) h
  | agg xs =>
   obtain⟨cs,rfl,h1,h2⟩:=h
   refine⟨cs,rfl,h1,λj l v hj hv=>up ?_ (h2 j l v hj hv)⟩
   rw[zK,wK] at hj
   obtain⟨y,hy,rfl⟩:=hj
   exact A0a _ (zJ.1 ho y (zD hy))
 cases x with
 | s x=>exact ups ho h
 | tup xs =>
  obtain⟨vs,rfl,h1,h2⟩:=h
  refine⟨vs,rfl,h1,λj l v hj hv=>?_⟩
  have h3:=h2 j l v hj hv
  have hj':(xs.map (SX.toSV (Pi M)))[j]? = some l:=hj
  rw[zK,wK] at hj'
  obtain⟨y,hy,rfl⟩:=hj'
  exact ups (zJ.1 ho y (zD hy)) h3
 | top=>trivial
 | oel p j sz o t u =>
  change AVR (Bf w S m H) (Aj7 p j (j.toNat*sz+o) t u (E6 M[p]?)) v at h
  show AVR (Bf w S m2 H) (Aj7 p j (j.toNat*sz+o) t u (E6 M[p]?)) v
  cases e:E6 M[p]? with
  | none=>trivial
  | some n =>
   rw[e] at h
   by_cases hu:Azf n j t u
   ·rw[show Aj7 p j (j.toNat*sz+o) t u (some n)=.s (.one (.ap p n.2.length (j.toNat*sz+o))) from if_pos hu] at h ⊢
    exact up (l:=.ap p n.2.length _) ho h
   ·rw[show Aj7 p j (j.toNat*sz+o) t u (some n)=A0g from if_neg hu] at h
    exact(Anm h).elim
theorem A5l {ex:Nat->Bool} {fr:Fr T} {st:XS T} {a:AS} (hw:Wk a (st.toAS fr)) (L:List Nat) (i:Nat):((rXm ex fr st L).toAS fr1).t i=.top\/((rXm ex fr st L).toAS fr1).t i=Ob a.t L i:=by
 show VX.toAV (A8 [] (Ajs ex 0 (A8 fr.m st.m))) (C4 .top i (L.map λi=>(i,Awd ex (st.get fr i))))=.top\/VX.toAV (A8 [] (Ajs ex 0 (A8 fr.m st.m))) (C4 .top i (L.map λi=>(i,Awd ex (st.get fr i))))=Ob a.t L i
 rcases Ot (.top:VX T) i (L.map λi=>(i,Awd ex (st.get fr i))) with⟨p,hp,h1,h2⟩|⟨h1,_⟩
 ·obtain⟨j,hj,rfl⟩:=yA.1 hp
  have h1:j=i:=h1
  subst h1
  rw[h2]
  show(Awd ex (st.get fr j)).toAV _=.top\/(Awd ex (st.get fr j)).toAV _=_
  cases e:okV ex (st.get fr j) with
  | false=>left;rw[show Awd ex (st.get fr j)=.top from by unfold Awd;rw[e];rfl];rfl
  | true =>
   have e1:Ob a.t L j=a.t j:=by unfold Ob;rw[show L.contains j=true from by simpa using hj];rfl
   rw[show Awd ex (st.get fr j)=st.get fr j from by unfold Awd;rw[e];rfl,A66 e,e1]
   exact hw.1 j
 ·rw[h1];exact .inl rfl
theorem A52 {ex:Nat->Bool} {fr:Fr T} {st:XS T} {a:AS} (hw:Wk a (st.toAS fr)) {M2:List Blk} (hl:M2.length=a.m.length) (hM:∀ q,ex q=true->M2[q]? = a.m[q]?) (L:List Nat) :
  ((rXm ex fr st L).toAS fr1).m.length=M2.length/\∀ (q:Nat) (b b':Blk),M2[q]? = some b->((rXm ex fr st L).toAS fr1).m[q]? = some b'->b'=.dead\/(ex q=true/\Agv b b'):=by
 have hlen:(A8 [] (Ajs ex 0 (A8 fr.m st.m))).length=(A8 fr.m st.m).length:=by
  rw[D8]
  generalize A8 fr.m st.m=M
  have:∀ (M:List (BX T)) n,(Ajs ex n M).length=M.length:=λM=>by
   induction M with
   | nil=>intro n;rfl
   | cons b M ih=>intro n;exact congrArg (·+1) (ih _)
  exact this M 0
 refine⟨?_,λq b b' h h'=>?_⟩
 ·show(M8 (A8 [] (Ajs ex 0 (A8 fr.m st.m)))).length=_
  unfold M8
  rw[zP,hlen,hl,<- hw.2.1]
  simp [XS.toAS,M8,XS.M]
 ·have h':(M8 (A8 [] (Ajs ex 0 (A8 fr.m st.m))))[q]? = some b':=h'
  unfold M8 at h'
  rw[zK,X6,yT] at h'
  simp only[Option.map_map,wK,Function.comp] at h'
  obtain⟨x,hx,rfl⟩:=h'
  cases e:ex q with
  | false=>exact .inl rfl
  | true =>
   refine .inr ⟨rfl,?_⟩
   show Agv b (x.toBlk _)
   have hV:(st.toAS fr).m[q]? = some (x.toBlk (st.L fr)):=by
    show(M8 (A8 fr.m st.m))[q]? = _
    unfold M8
    rw[zK,hx];rfl
   obtain⟨b0,hb0,hb1⟩:=hw.get hV
   rw[hM q e] at h
   rw[hb0] at h
   cases h
   refine hb1.trans ?_
   cases x with
   | box cs =>
    refine .inr ⟨_,_,rfl,rfl,by simp,λj l l' h1 h2=>?_⟩
    simp only[zK,wK] at h1 h2
    obtain⟨y,hy,rfl⟩:=h1
    obtain⟨y',hy',rfl⟩:=h2
    rw[hy] at hy'
    cases hy'
    cases y with
    | own p =>
     cases ep:ex p with
     | true=>exact .inl (by show Lf.ls p (Pi _ p)=.ls p (Pi _ p);rw[Xa ep];rfl)
     | false =>
      refine .inr ⟨p,_,rfl,?_⟩
      show Lf.ls p (Agx (E6 (A8 [] (Ajs ex 0 (A8 fr.m st.m)))[p]?))=_
      rw[X6,yT,ep]
      cases (A8 fr.m st.m)[p]? <;> rfl
    | _=>exact .inl rfl
   | _=>exact .inl rfl
theorem A10 {c:Ctx} {ex:Nat->Bool} {fr:Fr T} {st:XS T} {a:AS} (hw:Wk a (st.toAS fr)) {M2:List Blk} (hl:M2.length=a.m.length) (hM:∀ q,ex q=true->M2[q]? = a.m[q]?) (L:List Nat) {ac:Act} {w:World} {S:Dx} {H:Nat->Value} (r:Rel c ⟨Ob a.t L,M2⟩ ac w S H):Rel c ((rXm ex fr st L).toAS fr1) ac w S H:=by
 obtain⟨h1,h2⟩:=A52 hw hl hM L
 exact Akf (A5l hw L) h1 (λq b b' h h'=>(h2 q b b' h h').imp id And.right) r
theorem A28 {c:Ctx} {ex:Nat->Bool} {fr:Fr T} {st:XS T} {a:AS} (hw:Wk a (st.toAS fr)) {M2:List Blk} (hl:M2.length=a.m.length) (hM:∀ q,ex q=true->M2[q]? = a.m[q]?) (L:List Nat) {op:Op} {ty:TypeId} {x:VX T} (hx:okV ex x=true) (h:OpD P c ((rXm ex fr st L).toAS fr1) op ty (x.toAV ((rXm ex fr st L).M fr1))) :
  OpD P c ⟨Ob a.t L,M2⟩ op ty (x.toAV (st.M fr)):=by
 intro ac w S H r dst pos af g K Q hK
 refine h ac w S H (A10 hw hl hM L r) dst pos af g K Q λv w' S' hext hin hav=>hK v w' S' hext hin ?_
 have e:x.toAV ((rXm ex fr st L).M fr1)=x.toAV (st.M fr):=A66 hx
 rw[e] at hav
 obtain⟨h1,h2⟩:=A52 hw hl hM L
 refine A07 h1 (λp e sz k cs hp hm=>?_) hx hav
 have hp':p<((rXm ex fr st L).toAS fr1).m.length:=by rw[h1];exact(zB.1 hm).1
 have hb:=zC hp'
 rcases h2 p _ _ hm hb with h3|⟨_,h3|⟨_,_,h3,_⟩⟩
 ·
  exfalso
  have:((rXm ex fr st L).toAS fr1).m[p]? = some .dead:=by rw[hb,h3]
  have h':(M8 (A8 [] (Ajs ex 0 (A8 fr.m st.m))))[p]? = some .dead:=this
  unfold M8 at h'
  rw[zK,X6,yT] at h'
  simp only[Option.map_map,wK,Function.comp] at h'
  obtain⟨x0,hx0,h'⟩:=h'
  rw[hp] at h'
  have hV:(st.toAS fr).m[p]? = some (x0.toBlk (st.L fr)):=by
   show(M8 (A8 fr.m st.m))[p]? = _
   unfold M8
   rw[zK,hx0];rfl
  obtain⟨b0,hb0,hb1⟩:=hw.get hV
  rw[hM p hp,hb0] at hm
  cases hm
  cases x0 with
  | dead=>rcases hb1 with h | ⟨_,_,h,_⟩ <;> cases h
  | _=>cases h'
 ·rw[hb,h3]
 ·cases h3
end
open Go.RowKit
variable {T:TT} [TX T] {P:Program} [Inf P] [El T P]
section
variable {c:Ctx} {fr:Fr T} {F:List (Am3 T P)} {op:Op} {R:Type} {r:R} {ty:TypeId} {K:VX T->Option R} {st:XS T}
def Bac (F:List (Am3 T P)) (fr:Fr T) (st:XS T) (K:VX T->Option R):Op->Option R
 | .indexAddr t x y=>match Inf.si P t,opx fr st x,opx fr st y with
  | some (_,sz),.s (.one (.row tc v)),.s (.one (.lf (.i _ j)))=>cond (Nat.beq (tc.size T) sz) ((idx v j).bind λu=>K (.s (.one (.el tc u ((v.drop (j.toNat+1)).flatMap (Oy T tc)) 0)))) none
  | _,_,_=>none
 | .call ⟨.builtin .len,⟨[x]⟩,⟨[t]⟩⟩=>match Inf.si P t,opx fr st x with
  | some _,.s (.one (.row _ v))=>K (.s (.one (.lf (.i .i64 (v.length:Int)))))
  | _,_=>none
 | .call ⟨.builtin .append,⟨[x,y]⟩,⟨[t,t2]⟩⟩=>match El.el T P t,El.el T P t2,opx fr st x,opx fr st y with
  | some (_,b,tc),some _,.s (.one (.lf .nix)),.s (.one (.row t' us))=>cond (Nat.beq (tc.size T) (t'.size T)) (if us.length*b<=140737488355328 then K (.s (.one (.row t' us))) else none) none
  | _,_,_,_=>none
 | .buildSlice t len ⟨ps⟩=>match El.el T P t with
  | some (_,_,tc)=>match len with
   | 0=>match ps with
    | []=>K (.s (.one (.lf .nix)))
    | _=>none
   | n+1=>cond (Nat.beq (n+1) ps.length&&Nat.ble ((n+1)*tc.size T) 16777216) (match A4o fr st tc 0 ps with
    | some vs=>K (.s (.one (.row tc vs)))
    | none=>none) none
  | none=>none
 | .call ⟨.value (.func f),⟨args⟩,_⟩=>match A7x F f,A3s fr st args with
  | some c,some xs=>cond (Inf.fn P f&&xs.all SX.pub) ((Anx c.A xs).bind λa=>(c.model a).bind λr=>K (Ayg c.R (c.tup r))) none
  | _,_=>none
 | op=>match evV P fr st op with
  | some v=>K v
  | none=>none
theorem A3g (h:Bac F fr st K op=some r):∃ x,K x=some r/\OpD P c (st.toAS fr) op ty (x.toAV (st.M fr)):=by
 unfold Bac at h
 split at h
 ·split at h
  ·rename_i e sz tc v k j hi hx hy
   obtain⟨hb,g⟩:=A9 h
   obtain⟨u,hu,g⟩:=Ap g
   have si:=Inf.si_ok hi
   rw[<- zM hb] at si
   exact⟨_,g,(Ny (f:=Oy T tc) si (Lz T tc) (Db hx) rfl rfl (Db hy) hu).opD⟩
  ·cases h
 ·split at h
  ·rename_i i tc v hi hx
   exact⟨_,h,(Qv (Inf.si_ok (e:=i.1) (sz:=i.2) hi) (Db hx)).opD⟩
  ·cases h
 ·split at h
  ·rename_i e b tc z t' us h1 h2 hx hy
   obtain⟨hb,g⟩:=A9 h
   obtain⟨hn,g⟩:=Ht g
   obtain⟨hu,⟨zl,ei⟩,hpos⟩:=El.el_ok h1
   obtain⟨hu2,_,_⟩:=El.el_ok (e:=z.1) (b:=z.2.1) (c:=z.2.2) h2
   rw[zM hb] at ei
   exact⟨_,g,Ax3 (f:=Oy T t') hu ei ⟨.inl ⟨_,hu2⟩⟩ (Lz T t') (Db hx) (Db hy) hn hpos⟩
  ·cases h
 ·split at h
  ·rename_i e b tc he
   obtain⟨hu,⟨zl,ei⟩,_⟩:=El.el_ok he
   split at h
   ·split at h
    ·exact⟨_,h,Ax0 hu ei⟩
    ·cases h
   ·rename_i n
    obtain⟨hb,g⟩:=A9 h
    rw[zG] at hb
    split at g
    ·rename_i vs hvs
     obtain⟨h1,out,xs,ho1,ho2,h3,h4⟩:=An1 hvs
     have hl:vs.length=n+1:=by rw[h1];exact(zM hb.1).symm
     refine⟨_,g,?_⟩
     have:=Aya (P:=P) (c:=c) (ty:=ty) (out':=vs.flatMap (Oy T tc)) hu ei h3 (h4 [] (Agy zl ((n+1)*tc.size T)) (by simp) (by rw[J2,hl])) (by rw[wO];exact ho1) (yN hb.2) (by rw[wO];exact ho2)
     show OpD P c _ _ ty (.s (.one (.sl vs.length (vs.flatMap (Oy T tc)))))
     rw[hl]
     exact this
    ·cases g
  ·cases h
 ·split at h
  ·rename_i f args ats cd xs hc hx
   have hcf:=Ata hc
   subst hcf
   obtain⟨hb,g⟩:=A9 h
   rw[zG] at hb
   obtain⟨a,ha,g⟩:=Ap g
   obtain⟨u,hu,g⟩:=Ap g
   refine⟨_,g,?_⟩
   rw[Ap2 _ _ (st.M fr) []]
   refine Lr (Inf.fn_ok hb.1) (Ae1 hx) ?_ ((cd.ok a u hu).tell (X2 _ ha))
   rw[List.all_map,zJ]
   exact λx hx=>SX.pub_ok _ (zJ.1 hb.2 x hx)
  ·cases h
 ·split at h
  ·rename_i hv
   exact⟨_,h,(A0k hv).opD⟩
  ·cases h
def Awb (F:List (Am3 T P)) (fr:Fr T) (st:XS T) (K:VX T->Option R) (op:Op):Option R:=cond (Aow fr st op) (A7a P fr st K op) (cond (A5m fr st op) (A6q P fr st K op) (Bac F fr st K op))
theorem Atl (h:Awb F fr st K op=some r):∃ x,K x=some r/\OpD P c (st.toAS fr) op ty (x.toAV (st.M fr)):=by
 unfold Awb at h
 cases e0:Aow fr st op with
 | true =>
  rw[e0] at h
  obtain⟨x,h1,h2⟩:=Auu h
  exact⟨x,h1,h2.opD⟩
 | false =>
  rw[e0] at h
  cases e:A5m fr st op with
  | true =>
   rw[e] at h
   obtain⟨x,h1,h2⟩:=At1 h
   exact⟨x,h1,h2.opD⟩
  | false=>rw[e] at h;exact A3g h
end
open Go.RowKit
variable {T:TT} [TX T] {P:Program} [Inf P] [El T P]
section
variable {k:(Nat->AV)->List Blk->Prop} {a:AS} {ops:Array Oper} {b:Blk} {F:Cds T P} {c:Ctx} {Q:Exit->AS->Prop} {fr:Fr T} {L:List Nat} {d p:Nat} {ex:Nat->Bool} {R:Type} {r:R} {x:VX T} {st:XS T} {K:XS T->Option R}
def lkW:List (Nat×Nat)->Nat->Option Nat
 | [],_=>none
 | e::W,i=>cond (Nat.beq e.1 i) (some e.2) (lkW W i)
theorem Auc {i:Nat}:∀ {W:List (Nat×Nat)},lkW W i=some p->(i,p)∈W
 | e::W,h=>by
  unfold lkW at h
  cases hb:Nat.beq e.1 i with
  | true =>
   rw[hb] at h
   have h:some e.2=some p:=h
   cases h
   have:=zM hb
   subst this
   exact yQ ..
  | false=>rw[hb] at h;exact yH _ (Auc h)
def Bal (nt:Nat) (F:Cds T P) (ex:Nat->Bool) (q:Option Nat) (fr:Fr T) (st rs:XS T) (K:XS T->Option R):Option Tmp->Op->Option (Option R)
 | some d,.alloc t=>some (match Inf.zi P t,q with
  | some zl,some p=>match (A8 fr.m st.m)[p]? with
   | some .hole=>cond (Nat.blt d nt&&ex p) (K ⟨(d,.s (.one (.lf (.lp p 0))))::st.t,st.m.set p (some (.box (zl.map X.lf)))⟩) none
   | _=>none
  | _,_=>none)
 | some d,.box _ y=>some (match opx fr1 rs y,q with
  | .s v,some p=>match (A8 fr.m st.m)[p]? with
   | some .hole=>cond (Nat.blt d nt&&ex p&&okS ex v) (K ⟨(d,.s (.one (.lf (.lp p 0))))::st.t,st.m.set p (some (.box v.cells))⟩) none
   | _=>none
  | _,_=>none)
 | none,.store t x y=>some (match Inf.ti P t,opx fr1 rs x,opx fr1 rs y,q with
  | some (_,sz),.s (.one (.lf (.lp p off))),.s v,some p'=>match (A8 fr.m st.m)[p]? with
   | some (.box cs)=>cond (Nat.beq p p'&&ex p&&okS ex v&&Nat.beq v.cells.length sz&&Nat.ble (off+sz) cs.length) (K ⟨st.t,st.m.set p (some (.box (A4c cs off v.cells)))⟩) none
   | _=>none
  | _,_,_,_=>none)
 | some d,.call ⟨.builtin .append,⟨[x,y]⟩,⟨[t,t2]⟩⟩=>match opx fr1 rs x with
  | .s (.one (.own p))=>some (match El.el T P t,El.el T P t2,opx fr1 rs y,q,(A8 fr.m st.m)[p]? with
   | some (e,b,tc),some _,.s (.one (.row t' us)),some p',some (.arr e' sz k ta xs) =>
    cond (Nat.blt d nt&&Nat.beq p p'&&ex p&&Nat.beq e e'&&Nat.beq (tc.size T) sz&&Nat.beq (ta.size T) sz) (match Tc.cast? t' ta (λt=>List (den T t)) us with
     | some us=>if (xs.length+us.length)*b<=140737488355328 then K (A87 fr st d p e' sz k ta (xs++us)) else none
     | none=>none) none
   | _,_,_,_,_=>none)
  | _=>none
 | some d,.call ⟨.value (.func f),⟨args⟩,_⟩=>match lkO F.O d with
  | some c=>some (match A3s fr1 rs args,q with
   | some xs,some p=>match (A8 fr.m st.m)[p]? with
    | some .hole=>cond (Nat.beq c.f f&&Inf.fn P f&&xs.all SX.pub&&Nat.blt d nt&&ex p&&c.sv.isNone) ((Anx c.A xs).bind λa=>(c.model a).bind λr=>K (A87 fr st d p c.e (c.t.size T) 0 c.t (c.row r))) none
    | _=>none
   | _,_=>none)
  | none=>none
 | _,_=>none
section
omit [TX T] [Inf P] [El T P]
theorem Xz (hw:Wk a (st.toAS fr)) {o:Operand} {x:SV} (h:Bg ((rXm ex fr st L).toAS fr1) o=.s x) (ζ:Nat->AV) (M2:List Blk):Bg ⟨mix a.t L ζ,M2⟩ o=.s x:=by
 cases o with
 | tmp i =>
  have h:((rXm ex fr st L).toAS fr1).t i=.s x:=h
  show mix a.t L ζ i=.s x
  rcases A5l (ex:=ex) hw L i with e|e
  ·rw[e] at h;cases h
  ·rw[e] at h
   unfold Ob at h
   unfold mix
   cases hc:L.contains i with
   | true=>rw[hc] at h;exact h
   | false=>rw[hc] at h;cases h
 | const v=>exact h
 | global g=>exact h
 | func f=>exact h
theorem Alt (hw:Wk a (st.toAS fr)):∀ {os:List Operand} {xs:List SV},Xy ((rXm ex fr st L).toAS fr1) os xs->∀ (ζ:Nat->AV) (M2:List Blk),Xy ⟨mix a.t L ζ,M2⟩ os xs
 | [],xs,h,_,_=>h
 | o::os,xs,h,ζ,M2=>by
  obtain⟨x,r,h1,h2,rfl⟩:=h
  exact Ar (Xz hw h1 ζ M2) (Alt hw h2 ζ M2)
theorem Auf (hw:Wk a (st.toAS fr)) {cs':List (X T)} (hn:E6 (A8 fr.m st.m)[p]? = none) (hb:Agv b (.box (cs'.map (X.toLf (st.L fr))))):Wk ⟨a.t,a.m.set p b⟩ ((⟨st.t,st.m.set p (some (.box cs'))⟩:XS T).toAS fr):=by
 rw[Ath hn]
 exact hw.set p hb
theorem Ap9 (hw:Wk a (st.toAS fr)) (d:Nat) (x:VX T):Wk ⟨upd a.t d (x.toAV (st.M fr)),a.m⟩ ((st.upd d x).toAS fr):=by
 rw[XS.toAS_upd]
 exact hw.upd d _
theorem Amj (hw:Wk a (st.toAS fr)) {x:BX T} (hm:(A8 fr.m st.m)[p]? = some x):∃ b,a.m[p]? = some b/\Agv b (x.toBlk (st.L fr)):=by
 refine hw.get ?_
 show(M8 (A8 fr.m st.m))[p]? = _
 unfold M8
 rw[zK,hm];rfl
theorem Agv.eq {b':Blk} (h:Agv b b') (hb:∀ cs,b'≠.box cs):b=b':=by
 rcases h with h|⟨_,_,_,h,_⟩
 ·exact h.symm
 ·exact absurd h (hb _)
theorem A2g {cs cs' ls:List Lf} {off:Nat} (hl:cs'.length=cs.length) (h:∀ (j:Nat) (l l':Lf),cs[j]? = some l->cs'[j]? = some l'->LfW l l') (ho:off+ls.length<=cs.length):Agv (.box (Eu cs off ls)) (.box (Eu cs' off ls)):=by
 refine .inr ⟨_,_,rfl,rfl,by simp [Eu,hl],λj l l' h1 h2=>?_⟩
 unfold Eu at h1 h2
 rw[getElem?_putAt _ _ _ _ ho] at h1
 rw[getElem?_putAt _ _ _ _ (by rw[hl];exact ho)] at h2
 split at h1
 ·rename_i hj
  rw[if_pos hj] at h2
  exact h j l l' h1 h2
 ·rename_i hj
  rw[if_neg hj] at h2
  split at h1
  ·rename_i hj2
   rw[if_pos hj2] at h2
   rw[h1] at h2
   cases h2
   exact .inl rfl
  ·rename_i hj2
   rw[if_neg hj2] at h2
   exact h j l l' h1 h2
end
def upO (dst:Option Tmp) (t:Nat->AV) (x:AV):Nat->AV:=match dst with
 | some d=>upd t d x
 | none=>t
theorem A1r (hc:c.m0=[]) {q:Option Nat} {dst:Option Tmp} {op:Op} {ty:TypeId} {pos:String} {af:Array Edge} (hw:Wk a (st.toAS fr)) (hL:Oper.looksAt ops ⟨dst,op,ty,pos,af,none⟩=L)
  (h:Bal c.nt F ex q fr st (rXm ex fr st L) K dst op=some (some r)) :
  ∃ p b x st',q=some p/\ex p=true/\p<a.m.length/\K st'=some r/\(∀ M2,M2.length=a.m.length->(∀ q,ex q=true->M2[q]? = a.m[q]?)->A0t P c ops a.t M2 (M2.set p b) ⟨dst,op,ty,pos,af,none⟩ x)/\(∀ d,dst=some d->d<c.nt) /\
   Wk ⟨upO dst a.t x,a.m.set p b⟩ (st'.toAS fr):=by
 have lt_of:∀ {p:Nat} {b:Blk},a.m[p]? = some b->p<a.m.length:=λh=>(zB.1 h).1
 unfold Bal at h
 split at h
 ·
  rename_i d t
  have h:=zF h
  split at h
  ·rename_i zl p hz _
   split at h
   ·rename_i hm
    obtain⟨hb,g⟩:=A9 h
    rw[zG] at hb
    obtain⟨b0,hb0,hbw⟩:=Amj hw hm
    have e0:=hbw.eq (λcs h=>by cases h)
    subst e0
    refine⟨p,.box zl,.s (.one (.lp p 0)),_,rfl,hb.2,lt_of hb0,g,λM2 hl hM ζ=>?_,λd' h'=>by cases h';exact Dl hb.1,?_⟩
    ·exact Afi p (by rw[decide_eq_true_eq];exact Dl hb.1) (Inf.zi_ok hz) ((hM p hb.2).trans hb0) Aij
    ·have e:(zl.map (X.lf (T:=T))).map (X.toLf (st.L fr))=zl:=by simp [X.toLf,Function.comp_def]
     have:=Auf (Ap9 hw d (.s (.one (.lf (.lp p 0))))) (p:=p) (cs':=zl.map X.lf) (b:=.box zl) (by show E6 (A8 fr.m st.m)[p]? = none;rw[hm];rfl) (by show Agv _ (.box ((zl.map (X.lf (T:=T))).map (X.toLf (st.L fr))));rw[e];exact .inl rfl)
     exact this
   ·cases h
  ·cases h
 ·
  rename_i d _ y
  have h:=zF h
  split at h
  ·rename_i v p hv _
   split at h
   ·rename_i hm
    obtain⟨hb,g⟩:=A9 h
    simp only[zG] at hb
    obtain⟨⟨hb1,hb2⟩,hb3⟩:=hb
    obtain⟨b0,hb0,hbw⟩:=Amj hw hm
    have e0:=hbw.eq (λcs h=>by cases h)
    subst e0
    have hLs:v.toSV (st.L fr)=v.toSV ((rXm ex fr st L).L fr1):=(Ayl (λp=>Xa) hb3).symm
    refine⟨p,.box (v.toSV (st.L fr)).cells,.s (.one (.lp p 0)),_,rfl,hb2,lt_of hb0,g,λM2 hl hM ζ=>?_,λd' h'=>by cases h';exact Dl hb1,?_⟩
    ·refine A0z p (x:=v.toSV (st.L fr)) (by rw[decide_eq_true_eq];exact Dl hb1) ?_ ((hM p hb2).trans hb0) Aij
     rw[hL,hLs]
     exact Xz hw (Aa0 hv) ζ M2
    ·have:=Auf (Ap9 hw d (.s (.one (.lf (.lp p 0))))) (p:=p) (cs':=v.cells) (b:=.box (v.toSV (st.L fr)).cells) (by show E6 (A8 fr.m st.m)[p]? = none;rw[hm];rfl) (by rw[SX.cells_ok];exact .inl rfl)
     exact this
   ·cases h
  ·cases h
 ·
  rename_i t x y
  have h:=zF h
  split at h
  ·rename_i ag sz p off v p' hi hx hy _
   split at h
   ·rename_i cs hm
    obtain⟨hb,g⟩:=A9 h
    simp only[zG] at hb
    obtain⟨⟨⟨⟨hb1,hb2⟩,hb3⟩,hb4⟩,hb5⟩:=hb
    have:=zM hb1
    subst this
    obtain⟨b0,hb0,hbw⟩:=Amj hw hm
    have hLs:v.toSV (st.L fr)=v.toSV ((rXm ex fr st L).L fr1):=(Ayl (λp=>Xa) hb3).symm
    have hcl:(v.toSV (st.L fr)).cells.length=sz:=by rw[SX.cells_ok,zP];exact zM hb4
    have hA:∃ csA,b0=.box csA/\csA.length=cs.length/\∀ (j:Nat) (l l':Lf),csA[j]? = some l->(cs.map (X.toLf (st.L fr)))[j]? = some l'->LfW l l':=by
     rcases hbw with h|⟨c1,c2,h1,h2,h3,h4⟩
     ·exact⟨_,h.symm,by simp,λj l l' h1 h2=>by rw[h1] at h2;cases h2;exact .inl rfl⟩
     ·cases h2;exact⟨c1,h1,by rw[<- h3];simp,h4⟩
    obtain⟨csA,rfl,hAl,hAw⟩:=hA
    have hle:=yN hb5
    refine⟨p,.box (Eu csA off (v.toSV (st.L fr)).cells),.top,_,rfl,hb2,lt_of hb0,g,λM2 hl hM ζ=>?_,(λd' h'=>by cases h'),?_⟩
    ·refine Aa3 (Inf.ti_ok hi).i (cs:=csA) (x:=x) (y:=y) (v:=v.toSV (st.L fr)) (p:=p) (off:=off) ?_ ?_ ((hM p hb2).trans hb0) hcl (by rw[hAl];exact hle) Aij
     ·rw[hL];exact Xz hw (Db hx) ζ M2
     ·rw[hL,hLs];exact Xz hw (Aa0 hy) ζ M2
    ·refine Auf hw (p:=p) (by rw[hm];rfl) ?_
     rw[Aiy,<- SX.cells_ok]
     exact A2g (by simp [hAl]) hAw (by rw[hcl,hAl];exact hle)
   ·cases h
  ·cases h
 ·
  rename_i d x y t t2
  split at h
  ·rename_i p hx
   have h:=zF h
   split at h
   ·rename_i e b tc z t' us p' e' sz k ta xs h1 h2 hy hm _
    obtain⟨hb,g⟩:=A9 h
    simp only[zG] at hb
    obtain⟨⟨⟨⟨⟨hb1,hb2⟩,hb3⟩,hb4⟩,hb5⟩,hb6⟩:=hb
    have:=zM hb2
    subst this
    split at g
    ·rename_i us' hus
     obtain⟨hbytes,g⟩:=Ht g
     obtain⟨eqt,hus⟩:=Tc.cast?_some (F:=λt=>List (den T t)) hus
     subst eqt
     subst hus
     cases zM hb4
     have hsz:=zM hb6
     obtain⟨hu,⟨zl,ei⟩,hpos⟩:=El.el_ok h1
     obtain⟨hu2,_,_⟩:=El.el_ok (e:=z.1) (b:=z.2.1) (c:=z.2.2) h2
     rw[zM hb5] at ei
     obtain⟨b0,hb0,hbw⟩:=Amj hw hm
     have e0:=hbw.eq (λcs h=>by cases h)
     subst e0
     have hLp:(rXm ex fr st L).L fr1 p=xs.length:=by
      show Pi (A8 [] (Ajs ex 0 (A8 fr.m st.m))) p=_
      rw[Xa hb3]
      show Agx (E6 (A8 fr.m st.m)[p]?)=_
      rw[hm];rfl
     refine⟨p,.arr e sz k ((xs++us).flatMap (Oy T t')),.s (.one (.ls p (xs++us).length)),_,rfl,hb3,lt_of hb0,g,λM2 hl hM ζ=>?_,λd' h'=>by cases h';exact Dl hb1,?_⟩
     ·refine Azg (f:=Oy T t') (sz:=sz) (us:=us) (mm:=us.length) (ys:=us.flatMap (Oy T t')) (xs:=xs) (by rw[decide_eq_true_eq];exact Dl hb1) hu ei ⟨.inl ⟨_,hu2⟩⟩ (λv=>by rw[Lz,hsz]) (yv:=.one (.sl us.length (us.flatMap (Oy T t')))) (p:=p) (n:=xs.length) ?_ ?_ (.one _ _ _ _ (.id _ rfl)) ((hM p hb3).trans hb0) rfl rfl (.sl _ _ _ (by rw[Aru,hsz])) rfl rfl hbytes hpos Aij
      ·rw[hL]
       have:=Db hx
       rw[show(X.own p:X T).toLf ((rXm ex fr st L).L fr1)=.ls p xs.length from by rw[<- hLp];rfl] at this
       exact Xz hw this ζ M2
      ·rw[hL];exact Xz hw (Db hy) ζ M2
     ·exact((hw.upd d (.s (.one (.ls p (xs++us).length)))).set p (.inl rfl)).trans (Aoo (zB.1 hm).1)
    ·cases g
   ·cases h
  ·cases h
 ·
  rename_i d f args ats
  split at h
  ·rename_i cd hcd
   have h:=zF h
   split at h
   ·rename_i xs p hx _
    split at h
    ·rename_i hm
     obtain⟨hb,g⟩:=A9 h
     simp only[zG] at hb
     obtain⟨⟨⟨⟨⟨h1,h2⟩,h3⟩,h4⟩,h5⟩,h6⟩:=hb
     have hf:=zM h1
     subst hf
     obtain⟨ag,ha,g⟩:=Ap g
     obtain⟨u,hu,g⟩:=Ap g
     have hk:=cd.ok ag u hu
     rw[Option.isNone_iff_eq_none.1 h6] at hk
     generalize cd.row u=u at hk g
     obtain⟨b0,hb0,hbw⟩:=Amj hw hm
     have e0:=hbw.eq (λcs h=>by cases h)
     subst e0
     refine⟨p,.arr cd.e (cd.t.size T) 0 (u.flatMap (Oy T cd.t)),.s (.one (.ls p u.length)),_,rfl,h5,lt_of hb0,g,λM2 hl hM ζ=>?_,λd' h'=>by cases h';exact Dl h4,?_⟩
     ·refine Afe (g:=Oy T cd.t) (ys:=u) p (by rw[decide_eq_true_eq];exact Dl h4) (Inf.fn_ok h2) (.func _) (xs:=xs.map (SX.toSV ((rXm ex fr st L).L fr1))) ?_ (hk.tell (X2 _ ha)) ?_ (Lz T cd.t) rfl rfl ((hM p h5).trans hb0) (by rw[hc];rfl) Aij
      ·rw[hL]
       exact Alt hw (Ae1 hx) ζ M2
      ·rw[zJ]
       intro x hx
       obtain⟨y,hy,rfl⟩:=yA.1 hx
       have:=SX.pub_ok ((rXm ex fr st L).L fr1) (zJ.1 h3 y hy)
       cases hs:y.toSV ((rXm ex fr st L).L fr1) with
       | one l=>rw[hs] at this;exact Aip (by simpa [SV.cells] using this)
       | agg ls=>rw[hs] at this;exact zJ.2 λl hl=>Aip (zJ.1 this l hl)
     ·exact((hw.upd d (.s (.one (.ls p u.length)))).set p (.inl rfl)).trans (Aoo (zB.1 hm).1)
    ·cases h
   ·cases h
  ·cases h
 ·cases h
def Ar4 (nt:Nat) (F:Cds T P) (ops:Array Oper) (ws:List Nat) (W:List (Nat×Nat)) (fr:Fr T) (K:XS T->Option R):Nat->List Oper->XS T->Option R
 | _,[],st=>K st
 | i,o::rest,st=>match o.guard with
  | none=>match Bal nt F (Ai4 ws W i) (lkW W i) fr st (rXm (Ai4 ws W i) fr st (o.looksAt ops)) (λst'=>Ar4 nt F ops ws W fr K (i+1) rest st') o.dst o.op with
   | some r=>r
   | none=>match o.dst with
    | some d=>cond (Nat.blt d nt) (Awb F.F fr1 (rXm (Ai4 ws W i) fr st (o.looksAt ops)) (λx=>cond (okV (Ai4 ws W i) x) (Ar4 nt F ops ws W fr K (i+1) rest (st.upd d x)) none) o.op) none
    | none=>none
  | some (j,want)=>match o.dst,(ops[j]?).bind (·.dst) with
   | some d,some dj=>cond (Nat.blt d nt) (match st.get fr dj with
    | .s (.one (.lf (.b b)))=>if b then cond want (Awb F.F fr1 (rXm (Ai4 ws W i) fr (st.upd dj (.s (.one (.lf (.b true))))) (o.looksAt ops)) (λx=>cond (okV (Ai4 ws W i) x) (Ar4 nt F ops ws W fr K (i+1) rest ((st.upd dj (.s (.one (.lf (.b true))))).upd d x)) none) o.op) (Ar4 nt F ops ws W fr K (i+1) rest ((st.upd dj (.s (.one (.lf (.b true))))).upd d (.tup [])))
      else cond want (Ar4 nt F ops ws W fr K (i+1) rest ((st.upd dj (.s (.one (.lf (.b false))))).upd d (.tup []))) (Awb F.F fr1 (rXm (Ai4 ws W i) fr (st.upd dj (.s (.one (.lf (.b false))))) (o.looksAt ops)) (λx=>cond (okV (Ai4 ws W i) x) (Ar4 nt F ops ws W fr K (i+1) rest ((st.upd dj (.s (.one (.lf (.b false))))).upd d x)) none) o.op)
    | .tup []=>Ar4 nt F ops ws W fr K (i+1) rest (st.upd d (.tup []))
    | _=>none) none
   | _,_=>none
omit [TX T] [Inf P] [El T P] in
theorem At3 (hw:Wk a (st.toAS fr)) (h:a.t d=x.toAV (st.M fr)):Wk a ((st.upd d x).toAS fr):=by
 rw[XS.toAS_upd]
 refine⟨λi=>?_,hw.2⟩
 show cond (Nat.beq i d) _ ((st.toAS fr).t i)=.top\/cond (Nat.beq i d) _ ((st.toAS fr).t i)=_
 cases e:Nat.beq i d with
 | true=>right;rw[zM e];exact h.symm
 | false=>exact hw.1 i
omit [TX T] [Inf P] [El T P] in
theorem Bc4 (hw:Wk a (st.toAS fr)) (h:st.get fr d=x) (hx:x.toAV (st.M fr)≠.top):a.t d=x.toAV (st.M fr):=by
 subst h
 rcases hw.1 d with h|h
 ·exact absurd h hx
 ·exact h.symm
theorem Ajb (hc:c.m0=[]) {ws:List Nat} {W:List (Nat×Nat)} (hk:∀ st' a,Wk a (st'.toAS fr)->K st'=some r->k a.t a.m) :
  ∀ {l:List Oper} {i:Nat} {st:XS T} {a:AS},Wk a (st.toAS fr)->Ar4 c.nt F ops ws W fr K i l st=some r->DW P c ops ws W k i a.m l a.t
 | [],i,st,a,hw,h=>hk st a hw h
 | ⟨dst,op,ty,pos,af,g⟩::rest,i,st,a,hw,h=>by
  have hon:∀ {st:XS T} {d:Nat} {g:Option (Nat×Bool)},Wk a (st.toAS fr)->d<c.nt->Awf ops a.t ⟨some d,op,ty,pos,af,g⟩->Awb F.F fr1 (rXm (Ai4 ws W i) fr st (Oper.looksAt ops ⟨some d,op,ty,pos,af,g⟩)) (λx=>cond (okV (Ai4 ws W i) x) (Ar4 c.nt F ops ws W fr K (i+1) rest (st.upd d x)) none) op=some r ->
    DW P c ops ws W k i a.m (⟨some d,op,ty,pos,af,g⟩::rest) a.t:=by
   intro st d g hw hd hg h
   obtain⟨x,h1,h2⟩:=Atl (c:=c) (ty:=ty) h
   obtain⟨hx,h1⟩:=A9 h1
   exact .inl ⟨x.toAV (st.M fr),d,rfl,hd,λM2 hA=>.inl ⟨hg,A28 hw hA.1 hA.2 _ hx h2⟩,Ajb hc hk (Ap9 hw d x) h1⟩
  have hoff:∀ {st:XS T} {d:Nat} {g:Option (Nat×Bool)},Wk a (st.toAS fr)->d<c.nt->GNo ops a.t ⟨some d,op,ty,pos,af,g⟩->Ar4 c.nt F ops ws W fr K (i+1) rest (st.upd d (.tup []))=some r->DW P c ops ws W k i a.m (⟨some d,op,ty,pos,af,g⟩::rest) a.t:=by
   intro st d g hw hd hg h
   exact .inl ⟨.tup [],d,rfl,hd,λM2 hA=>.inr ⟨hg,rfl⟩,Ajb hc hk (Ap9 hw d (.tup [])) h⟩
  unfold Ar4 at h
  cases g with
  | none =>
   dsimp only at h
   split at h
   ·rename_i o ho
    subst h
    obtain⟨p,b,x,st',h1,h2,h3,h4,h5,h6,h7⟩:=A1r (c:=c) hc hw rfl ho
    have:=Ajb hc hk h7 h4
    refine .inr ⟨p,b,x,Auc h1,h2,h3,.inl rfl,λM2 hA=>h5 M2 hA.1 hA.2,h6,?_⟩
    cases dst <;> exact this
   ·cases dst with
    | none=>cases h
    | some d =>
     obtain⟨hd,h⟩:=A9 (show cond (Nat.blt d c.nt) _ none=some r from h)
     exact hon hw (Dl hd) (.inl rfl) h
  | some g =>
   obtain⟨j,want⟩:=g
   dsimp only at h
   split at h
   ·rename_i d dj hj
    obtain⟨hd,h⟩:=A9 h
    have hd:=Dl hd
    split at h
    ·rename_i b hb
     have ht:a.t dj=.s (.one (.b b)):=Bc4 hw hb (by intro h;cases h)
     cases b with
     | true =>
      rw[if_pos rfl] at h
      have hw':=At3 hw (d:=dj) (x:=.s (.one (.lf (.b true)))) ht
      cases want with
      | true=>exact hon hw' hd (.inr ⟨j,true,dj,rfl,hj,ht⟩) h
      | false=>exact hoff hw' hd ⟨j,false,dj,rfl,hj,.inr ⟨true,ht,rfl⟩⟩ h
     | false =>
      rw[if_neg (by decide)] at h
      have hw':=At3 hw (d:=dj) (x:=.s (.one (.lf (.b false)))) ht
      cases want with
      | true=>exact hoff hw' hd ⟨j,true,dj,rfl,hj,.inr ⟨false,ht,rfl⟩⟩ h
      | false=>exact hon hw' hd (.inr ⟨j,false,dj,rfl,hj,ht⟩) h
    ·rename_i hb
     have ht:a.t dj=.tup []:=Bc4 hw hb (by intro h;cases h)
     exact hoff hw hd ⟨j,want,dj,rfl,hj,.inl ht⟩ h
    ·cases h
   ·cases h
def Ar3 (P:Program) [Inf P] (O:List (Nat×Aei T P)) (fr:Fr T):Nat->Nat->List Oper->XS T->List (Nat×Nat)×Nat
 | _,h,[],_=>([],h)
 | i,h,o::rest,st=>match o.dst,o.op with
  | some d,.alloc _=>let r:=Ar3 P O fr (i+1) (h+1) rest (st.upd d (.s (.one (.lf (.lp h 0)))));((i,h)::r.1,r.2)
  | some d,.box _ _=>let r:=Ar3 P O fr (i+1) (h+1) rest (st.upd d (.s (.one (.lf (.lp h 0)))));((i,h)::r.1,r.2)
  | none,.store _ x _=>match opx fr st x with
   | .s (.one (.lf (.lp p _)))=>let r:=Ar3 P O fr (i+1) h rest st;((i,p)::r.1,r.2)
   | _=>Ar3 P O fr (i+1) h rest st
  | some d,.call ⟨.builtin .append,⟨[x,_]⟩,_⟩=>match opx fr st x with
   | .s (.one (.own p))=>let r:=Ar3 P O fr (i+1) h rest (st.upd d (.s (.one (.own p))));((i,p)::r.1,r.2)
   | _=>Ar3 P O fr (i+1) h rest (st.upd d .top)
  | some d,.call ⟨.value (.func _),_,_⟩=>match lkO O d with
   | some _=>let r:=Ar3 P O fr (i+1) (h+1) rest (st.upd d (.s (.one (.own h))));((i,h)::r.1,r.2)
   | none=>Ar3 P O fr (i+1) h rest (st.upd d .top)
  | some d,op=>Ar3 P O fr (i+1) h rest (st.upd d (match evV P fr st op with
   | some v=>v
   | none=>.top))
  | none,_=>Ar3 P O fr (i+1) h rest st
def Aoa (n:Nat) (st:XS T):XS T:=⟨st.t,st.m++List.replicate n (some .hole)⟩
omit [TX T] [Inf P] [El T P] in
theorem Apy {x:Code}:∀ (n:Nat) {st:XS T},AWC P c x Q ((Aoa n st).toAS fr)->AWC P c x Q (st.toAS fr)
 | 0,st,k=>by
  have:Aoa 0 st=st:=by unfold Aoa;simp
  rw[this] at k
  exact k
 | n+1,st,k=>by
  have e:Aoa (n+1) st=Aoa n ⟨st.t,st.m++[some .hole]⟩:=by unfold Aoa;rw[List.replicate_succ,xE];rfl
  rw[e] at k
  have:=Apy n k
  have e2:(⟨st.t,st.m++[some .hole]⟩:XS T).toAS fr=⟨(st.toAS fr).t,(st.toAS fr).m++[.hole]⟩:=by
   refine(XS.toAS_mem fr st _ (λq=>by rw[Nc];exact Apg _ _ rfl q)).trans ?_
   rw[Nc,xJ]
   rfl
  rw[e2] at this
  exact Ald this
end
open Go.RowKit
variable {T:TT} [TX T] {P:Program} [Inf P] [El T P]
section
variable {k:(Nat->AV)->Prop} {R:Type} {K:XS T->Option R}
def rX (fr:Fr T) (st:XS T) (L:List Nat):XS T:=⟨L.map λi=>(i,st.get fr i),st.m⟩
omit [TX T] in
theorem Bax (fr:Fr T) (st:XS T) (L:List Nat):(rX fr st L).toAS ⟨[],fr.m⟩=⟨Ob (st.toAS fr).t L,(st.toAS fr).m⟩:=by
 show AS.mk (λi=>VX.toAV (A8 fr.m st.m) (C4 .top i (L.map λi=>(i,st.get fr i)))) _=AS.mk _ _
 congr 1
 funext i
 show _=cond (L.contains i) ((st.get fr i).toAV _) .top
 rcases Ot (.top:VX T) i (L.map λi=>(i,st.get fr i)) with⟨p,hp,h1,h2⟩|⟨h1,h2⟩
 ·obtain⟨j,hj,rfl⟩:=yA.1 hp
  have h1:j=i:=h1
  subst h1
  rw[h2,show L.contains j=true from by simpa using hj]
  rfl
 ·rw[h1]
  cases e:L.contains i with
  | false=>rfl
  | true=>exact absurd rfl (h2 (i,st.get fr i) (yA.2 ⟨i,by simpa using e,rfl⟩))
def evD (nt:Nat) (F:Cds T P) (ops:Array Oper) (fr:Fr T) (K:XS T->Option R):List Oper->XS T->Option R
 | [],st=>K st
 | o::rest,st=>match o.dst with
  | none=>none
  | some d=>cond (Nat.blt d nt) (match o.guard with
   | none=>Awb F.F ⟨[],fr.m⟩ (rX fr st (o.looksAt ops)) (λx=>evD nt F ops fr K rest (st.upd d x)) o.op
   | some (j,want)=>match (ops[j]?).bind (·.dst) with
    | some dj=>match st.get fr dj with
     | .s (.one (.lf (.b b)))=>if b then cond want (Awb F.F ⟨[],fr.m⟩ (rX fr (st.upd dj (.s (.one (.lf (.b true))))) (o.looksAt ops)) (λx=>evD nt F ops fr K rest ((st.upd dj (.s (.one (.lf (.b true))))).upd d x)) o.op) (evD nt F ops fr K rest ((st.upd dj (.s (.one (.lf (.b true))))).upd d (.tup [])))
       else cond want (evD nt F ops fr K rest ((st.upd dj (.s (.one (.lf (.b false))))).upd d (.tup []))) (Awb F.F ⟨[],fr.m⟩ (rX fr (st.upd dj (.s (.one (.lf (.b false))))) (o.looksAt ops)) (λx=>evD nt F ops fr K rest ((st.upd dj (.s (.one (.lf (.b false))))).upd d x)) o.op)
     | .tup []=>evD nt F ops fr K rest (st.upd d (.tup []))
     | _=>none
    | none=>none) none
section
variable {c:Ctx} {ops:Array Oper} {F:Cds T P} {fr:Fr T}
omit [TX T] in
theorem Arp (st:XS T) (d:Nat) (x:VX T):((st.upd d x).toAS fr).t=Go.Proofs.YtkblaobhhoebaaaGreat.Abs.upd (st.toAS fr).t d (x.toAV (st.M fr)):=congrArg AS.t (XS.toAS_upd fr st d x)
theorem Alp {r:R} {m0:List (Option (BX T))} (hk:∀ st',st'.m=m0->K st'=some r->k (st'.toAS fr).t):∀ {l:List Oper} {st:XS T},st.m=m0->evD c.nt F ops fr K l st=some r->DR P c (M8 (A8 fr.m m0)) ops k l (st.toAS fr).t
 | [],st,hm,h=>Awg (hk st hm h)
 | ⟨dst,op,ty,pos,af,g⟩::rest,st,hm,h=>by
  have hon:∀ {st:XS T} {d:Nat} {g:Option (Nat×Bool)},st.m=m0->Awb F.F ⟨[],fr.m⟩ (rX fr st (Oper.looksAt ops ⟨some d,op,ty,pos,af,g⟩)) (λx=>evD c.nt F ops fr K rest (st.upd d x)) op=some r ->
    ∃ x,OpD P c ⟨Ob (st.toAS fr).t (Oper.looksAt ops ⟨some d,op,ty,pos,af,g⟩),M8 (A8 fr.m m0)⟩ op ty x/\DR P c (M8 (A8 fr.m m0)) ops k rest (Go.Proofs.YtkblaobhhoebaaaGreat.Abs.upd (st.toAS fr).t d x):=by
   intro st d g hm h
   obtain⟨x,h1,h2⟩:=Atl (c:=c) (ty:=ty) h
   rw[Bax] at h2
   subst hm
   have h3:=Alp hk (st:=st.upd d x) rfl h1
   rw[Arp] at h3
   exact⟨_,h2,h3⟩
  unfold evD at h
  cases dst with
  | none=>cases h
  | some d =>
   obtain⟨hd,h⟩:=A9 h
   have hd:decide (d<c.nt)=true:=decide_eq_true (Dl hd)
   cases g with
   | none =>
    obtain⟨x,h1,h2⟩:=hon hm h
    exact dd hd h1 h2
   | some g =>
    obtain⟨j,want⟩:=g
    change (match (ops[j]?).bind (·.dst) with
     | some dj=>_
     | none=>none)=some r at h
    split at h
    ·rename_i dj hj
     split at h
     ·rename_i b hb
      refine Ali dj (Ag5 hb) (λe=>?_) (λe=>?_)
      ·subst e
       rw[if_pos rfl] at h
       have hu:=Arp (fr:=fr) st dj (.s (.one (.lf (.b true))))
       change ((st.upd dj (.s (.one (.lf (.b true))))).toAS fr).t=Go.Proofs.YtkblaobhhoebaaaGreat.Abs.upd (st.toAS fr).t dj (.s (.one (.b true))) at hu
       rw[<- hu]
       cases want with
       | true =>
        obtain⟨x,h1,h2⟩:=hon (st:=st.upd dj (.s (.one (.lf (.b true))))) hm h
        exact ddg hd hj (Ag5 (V8 _ _ _)) h1 h2
       | false =>
        have h3:=Alp hk (st:=(st.upd dj (.s (.one (.lf (.b true))))).upd d (.tup [])) hm h
        rw[Arp] at h3
        exact Vw hd hj (Ag5 (V8 _ _ _)) rfl h3
      ·subst e
       rw[if_neg (by decide)] at h
       have hu:=Arp (fr:=fr) st dj (.s (.one (.lf (.b false))))
       change ((st.upd dj (.s (.one (.lf (.b false))))).toAS fr).t=Go.Proofs.YtkblaobhhoebaaaGreat.Abs.upd (st.toAS fr).t dj (.s (.one (.b false))) at hu
       rw[<- hu]
       cases want with
       | true =>
        have h3:=Alp hk (st:=(st.upd dj (.s (.one (.lf (.b false))))).upd d (.tup [])) hm h
        rw[Arp] at h3
        exact Vw hd hj (Ag5 (V8 _ _ _)) rfl h3
       | false =>
        obtain⟨x,h1,h2⟩:=hon (st:=st.upd dj (.s (.one (.lf (.b false))))) hm h
        exact ddg hd hj (Ag5 (V8 _ _ _)) h1 h2
     ·rename_i hb
      have h3:=Alp hk (st:=st.upd d (.tup [])) hm h
      rw[Arp] at h3
      exact Ba4 hd hj (by show(st.get fr dj).toAV _=_;rw[hb];rfl) h3
     ·cases h
    ·cases h
end
end
open Go.RowKit
variable {T:TT} [TX T] {P:Program} [Inf P] [El T P]
section
variable {W:List Nat} {ρ:Type}
def Acx:Code->Nat
 | .region id _ _=>id
 | .seq x _=>Acx x
 | .block _ x=>Acx x
 | .loop x=>Acx x
 | .scope x=>Acx x
 | _=>0
def A1p:List Oper->List Nat
 | []=>[]
 | o::l=>match o.dst with
  | some d=>d::A1p l
  | none=>A1p l
def Amq:Code->List Nat
 | .region _ ⟨l⟩ _=>A1p l
 | .seq x y=>Amq x++Amq y
 | .cond _ x y=>Amq x++Amq y
 | .block _ x=>Amq x
 | .loop x=>Amq x
 | .scope x=>Amq x
 | _=>[]
structure Lp (T:TT) where
 s:Shp
 α:Type
 tup:α->s.den T
 unt:s.den T->α
 iso:∀ v,tup (unt v)=v
 j:Nat
 s2:Shp
 β:Type
 tup2:β->s2.den T
 unt2:s2.den T->β
 iso2:∀ v,tup2 (unt2 v)=v
 ret:Bool
 ad:List Ad
structure An (T:TT) where
 lp:Nat->Option (Lp T)
 ad:Nat->List Ad
def A5v {T:TT}:List (Nat×VX T)->List Nat
 | []=>[]
 | (i,x)::l=>cond (Azm x) (i::A5v l) (A5v l)
def lpW {T:TT} (fr:Fr T) (st:XS T) (x:Code):List Nat:=A5v (st.t++fr.t)++Amq x
def mrg:List (Option (BX T))->List (Option (BX T))->List (Option (BX T))
 | _,[]=>[]
 | o::m,none::r=>o::mrg m r
 | _::m,some b::r=>some b::mrg m r
 | [],none::r=>some .dead::mrg [] r
 | [],some b::r=>some b::mrg [] r
def fr0 (fr:Fr T) (st:XS T) (L:List (Nat×VX T)):Fr T:=⟨L++(st.t++fr.t),A8 fr.m st.m⟩
def A44 (st:XS T) (L:List (Nat×VX T)) (st':XS T):XS T:=⟨st'.t++(L++st.t),mrg st.m st'.m⟩
def A3o (fr:Fr T) (st:XS T):XS T:=⟨[],(A8 fr.m st.m).map λ_=>none⟩
def okF (s:Shp) (fr:Fr T):Bool:=fr.t.all (λp=>p.2.inbX s.ms.length)&&fr.m.all (BX.inbX s.ms.length)&&s.ms.all (BT.inb s.ms.length)
def okK (s:Shp) (W:List Nat) (st:XS T):Bool:=st.t.all λp=>A0d p.1 (s.sl.map (·.1))||A0d p.1 W
def Be4 {A B R:Type} (f:A->Option R) (g:B->Option R):Sum A B->Option R
 | .inl a=>f a
 | .inr b=>g b
def evC (nt:Nat) (F:Cds T P) (an:An T):Code->Fr T->XS T->(XS T->Option ρ)->(R:Type)->(ρ->R)->(Exit->XS T->Option R)->Option R
 | .skip,_,st,_,_,_,K=>K .normal st
 | .region id ⟨l⟩ false,fr,st,_,_,_,K=>adX fr (λst=>evL nt F ⟨l⟩ fr (K .normal) l st) (an.ad id) st
 | .region id ⟨l⟩ true,fr,st,_,_,_,K=>adX fr (λst=>cond (W8 ⟨l⟩&&Inf.mx P) (Ar4 nt F ⟨l⟩ (Md l []) (Ar3 P F.O fr 0 st.m.length l st).1 fr (K .normal) 0 l (Aoa ((Ar3 P F.O fr 0 st.m.length l st).2-st.m.length) st)) (cond (Ajm ⟨l⟩&&Inf.mx P) (evD nt F ⟨l⟩ fr (K .normal) l st) none)) (an.ad id) st
 | .seq x y,fr,st,E,R,wr,K=>evC nt F an x fr st E R wr λe st'=>match e with
   | .normal=>evC nt F an y fr st' E R wr K
   | e=>K e st'
 | .cond o x y,fr,st,E,R,wr,K=>match opx fr st o with
  | .s (.one (.lf (.b b)))=>if b then evC nt F an x fr st E R wr K else evC nt F an y fr st E R wr K
  | _=>none
 | .block id x,fr,st,E,R,wr,K=>adX fr (λst=>evC nt F an x fr st E R wr λe st'=>match e with
  | .exit j=>cond (Nat.beq j id) (K .normal st') (K (.exit j) st')
  | e=>K e st') (an.ad (Acx x)) st
 | .loop x,fr,st,E,R,wr,K=>match an.lp (Acx x) with
  | none=>none
  | some L=>adX fr (λst=>(λst=>cond (okF L.s (fr0 fr st (Zi (lpW fr st x)))&&okF L.s2 (fr0 fr st (Zi (lpW fr st x)))) (L.s.decK (fr0 fr st []) (A3o fr st) λv0 =>
   cond L.ret
   ((B7 (λv=>evC nt F an x (fr0 fr st (Zi (lpW fr st x))) (L.s.head (L.tup v)) (λst'=>E (A44 st (Zi (lpW fr st x)) st')) (LR L.α L.β ρ) .ret λe st'=>match e with
    | .normal=>(λst'=>cond (okK L.s (lpW fr st x) st') (L.s.decK (fr0 fr st (Zi (lpW fr st x))) st' λv=>some (.cont (L.unt v))) none) (A13 L.s (fr0 fr st (Zi (lpW fr st x))) st')
    | .exit i=>(λst'=>cond (Nat.beq i L.j&&okK L.s2 (lpW fr st x) st') (L.s2.decK (fr0 fr st (Zi (lpW fr st x))) st' λv=>some (.brk (L.unt2 v))) none) (A13 L.s2 (fr0 fr st (Zi (lpW fr st x))) st')
    | _=>none) fuel (L.unt v0)).bind (Be4 (λu=>some (wr u)) λv=>K (.exit L.j) (A44 st (Zi (lpW fr st x)) (L.s2.head (L.tup2 v)))))
   ((Be (λv=>evC nt F an x (fr0 fr st (Zi (lpW fr st x))) (L.s.head (L.tup v)) (λ_=>none) (LB L.α L.β) (λ(_:ρ)=>.cont v) λe st'=>match e with
    | .normal=>(λst'=>cond (okK L.s (lpW fr st x) st') (L.s.decK (fr0 fr st (Zi (lpW fr st x))) st' λv=>some (.cont (L.unt v))) none) (A13 L.s (fr0 fr st (Zi (lpW fr st x))) st')
    | .exit i=>(λst'=>cond (Nat.beq i L.j&&okK L.s2 (lpW fr st x) st') (L.s2.decK (fr0 fr st (Zi (lpW fr st x))) st' λv=>some (.brk (L.unt2 v))) none) (A13 L.s2 (fr0 fr st (Zi (lpW fr st x))) st')
    | _=>none) fuel (L.unt v0)).bind λv=>K (.exit L.j) (A44 st (Zi (lpW fr st x)) (L.s2.head (L.tup2 v))))) none) (A13 L.s fr st)) L.ad st
 | .exit id,_,st,_,_,_,K=>K (.exit id) st
 | .ret,_,st,E,_,wr,_=>(E st).map wr
 | .label _,_,st,_,_,_,K=>K .normal st
 | .scope x,fr,st,E,R,wr,K=>evC nt F an x fr st E R wr λe st'=>match e with
  | .goto _=>none
  | e=>K e st'
 | _,_,_,_,_,_,_=>none
omit [TX T] in
theorem Akx:∀ (f:List (BX T)) (m r:List (Option (BX T))),A8 f (mrg m r)=A8 (A8 f m) r
 | f,m,[]=>by cases f <;> cases m <;> first | rfl | (unfold mrg;cases A8 _ _ <;> rfl) | (show A8 _ []=A8 _ [];unfold A8;rfl)
 | f,[],none::r=>by
  have e:A8 f ([]:List (Option (BX T)))=[]:=by cases f <;> rfl
  rw[e]
  show A8 f (some .dead::mrg [] r)=.dead::A8 [] r
  rw[Ni,Akx f.tail [] r]
  have e:A8 f.tail ([]:List (Option (BX T)))=[]:=by cases f.tail <;> rfl
  rw[e];rfl
 | f,[],some b::r=>by
  have e:A8 f ([]:List (Option (BX T)))=[]:=by cases f <;> rfl
  rw[e]
  show A8 f (some b::mrg [] r)=b::A8 [] r
  rw[Ni,Akx f.tail [] r]
  have e:A8 f.tail ([]:List (Option (BX T)))=[]:=by cases f.tail <;> rfl
  rw[e];rfl
 | f,o::m,none::r=>by
  show A8 f (o::mrg m r)=A8 (A8 f (o::m)) (none::r)
  rw[Ni,Ni o m,Akx f.tail m r]
  rfl
 | f,o::m,some b::r=>by
  show A8 f (some b::mrg m r)=A8 (A8 f (o::m)) (some b::r)
  rw[Ni,Ni o m,Akx f.tail m r]
  rfl
omit [TX T] in
theorem Aol (fr:Fr T) (st:XS T) (L:List (Nat×VX T)) (st':XS T):(A44 st L st').toAS fr=st'.toAS (fr0 fr st L):=by
 show AS.mk (λi=>VX.toAV (A8 fr.m (mrg st.m st'.m)) (C4 (C4 .top i fr.t) i (st'.t++(L++st.t)))) (M8 (A8 fr.m (mrg st.m st'.m)))=AS.mk (λi=>VX.toAV (A8 (A8 fr.m st.m) st'.m) (C4 (C4 .top i (L++(st.t++fr.t))) i st'.t)) _
 rw[Akx]
 congr 1
 funext i
 rw[Js,Js,Js,Js]
omit [TX T] in
theorem Ahr:∀ (m:List (BX T)),A8 m (m.map λ_=>none)=m
 | []=>rfl
 | b::m=>congrArg (b::·) (Ahr m)
omit [TX T] in
theorem Awz (fr:Fr T) (st:XS T):(A3o fr st).toAS (fr0 fr st [])=st.toAS fr:=by
 show AS.mk (λi=>VX.toAV (A8 (A8 fr.m st.m) ((A8 fr.m st.m).map λ_=>none)) (C4 .top i (st.t++fr.t))) (M8 (A8 (A8 fr.m st.m) ((A8 fr.m st.m).map λ_=>none)))=AS.mk _ _
 rw[Ahr]
 congr 1
 funext i
 rw[Js]
 rfl
omit [TX T] in
theorem Au6 (r:List (Nat×VX T)) (i:Nat):C4 .top i (Zi W++r)=.top\/C4 .top i (Zi W++r)=C4 .top i r:=by
 rw[Js]
 rcases Ot (C4 .top i r) i (Zi (T:=T) W) with⟨p,hp,_,h⟩|⟨h,_⟩
 ·obtain⟨j,_,rfl⟩:=yA.1 hp
  exact .inl h
 ·exact .inr h
omit [TX T] in
theorem Ano (r:List (Nat×VX T)) (i:Nat) (h:i∈W):C4 .top i (Zi W++r)=.top:=by
 rw[Js]
 rcases Ot (C4 .top i r) i (Zi (T:=T) W) with⟨p,hp,_,h⟩|⟨_,h2⟩
 ·obtain⟨j,_,rfl⟩:=yA.1 hp
  exact h
 ·exact absurd rfl (h2 (i,.top) (yA.2 ⟨i,h,rfl⟩))
theorem map_some {α β:Type} {f:α->β} {o:Option α} {r:β} (h:o.map f=some r):∃ u,o=some u/\f u=r:=by
 cases o with
 | none=>cases h
 | some u=>exact⟨u,rfl,zF h⟩
omit [TX T] in
theorem Ajl {p:Nat×VX T}:∀ {l:List (Nat×VX T)},p∈l->Azm p.2=true->p.1∈A5v l
 | (i,x)::l,h,ho=>by
  unfold A5v
  rcases yB.1 h with rfl|h
  ·rw[show Azm x=true from ho];exact yQ ..
  ·cases Azm x with
   | true=>exact yH _ (Ajl h ho)
   | false=>exact Ajl h ho
omit [TX T] in
theorem Av8 (fr:Fr T) (st:XS T) (x:Code) (i:Nat):Azm (C4 (.top:VX T) i (Zi (lpW fr st x)++(st.t++fr.t)))=false:=by
 rw[Js]
 rcases Ot (C4 .top i (st.t++fr.t)) i (Zi (T:=T) (lpW fr st x)) with⟨p,hp,_,h⟩|⟨h,h2⟩
 ·obtain⟨j,_,rfl⟩:=yA.1 hp
  rw[h];rfl
 ·rw[h]
  rcases Ot (.top:VX T) i (st.t++fr.t) with⟨p,hp,hi,h3⟩|⟨h3,_⟩
  ·rw[h3]
   cases e:Azm p.2 with
   | false=>rfl
   | true =>
    have:p.1∈lpW fr st x:=wM _ (Ajl hp e)
    exact absurd hi (h2 (p.1,.top) (yA.2 ⟨p.1,this,rfl⟩))
  ·rw[h3];rfl
theorem A4n {c:Ctx} (hc:c.m0=[]) {F:Cds T P} {an:An T}:∀ (x:Code) {fr:Fr T} {st:XS T} {E:XS T->Option ρ} {R:Type} {wr:ρ->R} {K:Exit->XS T->Option R} {r:R} {Q:Exit->AS->Prop}
  (_:∀ e st',K e st'=some r->Q e (st'.toAS fr)) (_:∀ st' u,E st'=some u->wr u=r->Q .ret (st'.toAS fr)),evC c.nt F an x fr st E R wr K=some r->AWC P c x Q (st.toAS fr):=by
 intro x
 induction x with
 | skip=>intro fr st E R wr K r Q k kr h;exact Aqj (k _ _ h)
 | exit id=>intro fr st E R wr K r Q k kr h;exact Aos (k _ _ h)
 | ret =>
  intro fr st E R wr K r Q k kr h
  obtain⟨u,hu,hr⟩:=map_some h
  exact Avf (kr _ _ hu hr)
 | region id ops dr =>
  intro fr st E R wr K r Q k kr h
  obtain⟨l⟩:=ops
  cases dr with
  | true =>
   refine Abj (λst h=>?_) h
   cases hb:W8 ⟨l⟩&&Inf.mx P with
   | true =>
    rw[hb] at h
    rw[zG] at hb
    exact Apy _ (Az0 (Aoc _ (Inf.mx_ok hb.2) hb.1 (Ajb hc (λst' a hw h'=>⟨st'.toAS fr,.wk hw,k _ _ h'⟩) (Wk.refl _) h)))
   | false =>
    rw[hb] at h
    obtain⟨hb,h⟩:=A9 h
    rw[zG] at hb
    exact A5n (Inf.mx_ok hb.2) hb.1 (Alp (m0:=st.m) (λst' hm h'=>by have:=k _ _ h';rw[show st'.toAS fr=⟨(st'.toAS fr).t,M8 (A8 fr.m st.m)⟩ from by rw[<- hm];rfl] at this;exact this) rfl h)
  | false=>exact Abj (λst h=>Ahi (Ags (λst' h'=>Ail (k _ _ h')) h)) h
 | label l=>intro fr st E R wr K r Q k kr h;exact A6c (k _ _ h)
 | scope x ih =>
  intro fr st E R wr K r Q k kr h
  unfold evC at h
  refine(A5j (Q:=λe st=>(∀ l,e≠.goto l)/\Q e st) (λl st h=>h.1 l rfl) (ih (λe st' h'=>?_) (λst' u hu hr=>⟨(λl h=>by cases h),kr st' u hu hr⟩) h)).mono λe st h=>h.2
  cases e with
  | goto l=>cases h'
  | _=>exact⟨(λl h=>by cases h),k _ _ h'⟩
 | cond o x y ihx ihy =>
  intro fr st E R wr K r Q k kr h
  unfold evC at h
  split at h
  ·rename_i b hb
   refine Ape (Db hb) (λe=>?_) (λe=>?_)
   ·subst e;rw[if_pos rfl] at h;exact ihx k kr h
   ·subst e;rw[if_neg (by decide)] at h;exact ihy k kr h
  ·cases h
 | block id x ih =>
  intro fr st E R wr K r Q k kr h
  unfold evC at h
  refine Abj (λst h=>?_) h
  refine Amk (ih (λe st' h'=>?_) (λst' u hu hr=>kr st' u hu hr) h)
  cases e with
  | exit j =>
   change cond (Nat.beq j id) (K .normal st') (K (.exit j) st')=some r at h'
   show(if j=id then Q .normal (st'.toAS fr) else Q (.exit j) (st'.toAS fr))
   cases e:Nat.beq j id with
   | true=>rw[e] at h';rw[if_pos (zM e)];exact k _ _ h'
   | false =>
    rw[e] at h'
    rw[if_neg (λh=>by subst h;rw[show Nat.beq j j=true from by simp] at e;cases e)]
    exact k _ _ h'
  | _=>exact k _ _ h'
 | seq x y ihx ihy =>
  intro fr st E R wr K r Q k kr h
  unfold evC at h
  refine Ava (ihx (λe st' h'=>?_) (λst' u hu hr=>kr st' u hu hr) h)
  cases e with
  | normal=>exact ihy k kr h'
  | _=>exact k _ _ h'
 | loop x ih =>
  intro fr st E R wr K r Q k kr h
  unfold evC at h
  split at h
  ·cases h
  ·rename_i L hs
   refine Abj (λst h=>?_) h
   refine Ahe (Aev (s:=L.s)) ?_
   generalize A13 L.s fr st=st at h ⊢
   obtain⟨hf,h⟩:=A9 h
   unfold okF at hf
   simp only[zG] at hf
   obtain⟨⟨⟨f1,f2⟩,f5⟩,⟨f3,f4⟩,f6⟩:=hf
   obtain⟨v0,hv0,h⟩:=Ae2 h
   rw[<- Awz]
   refine Az0 ?_
   have hco:∀ v st',L.s.dec (fr0 fr st (Zi (lpW fr st x))) st'=some v->okK L.s (lpW fr st x) st'=true->Eb c (st'.toAS (fr0 fr st (Zi (lpW fr st x)))) ((L.s.head (L.tup (L.unt v))).toAS (fr0 fr st (Zi (lpW fr st x)))):=λv st' hv hk=>by
    rw[L.iso]
    exact A9z hc rfl (λi=>.inr rfl) (λi hi=>Ano _ i hi) (Av8 fr st x) hv hk f1 f2 f5
   have hco2:∀ v st',L.s2.dec (fr0 fr st (Zi (lpW fr st x))) st'=some v->okK L.s2 (lpW fr st x) st'=true->Eb c (st'.toAS (fr0 fr st (Zi (lpW fr st x)))) ((L.s2.head (L.tup2 (L.unt2 v))).toAS (fr0 fr st (Zi (lpW fr st x)))):=λv st' hv hk=>by
    rw[L.iso2]
    exact A9z hc rfl (λi=>.inr rfl) (λi hi=>Ano _ i hi) (Av8 fr st x) hv hk f3 f4 f6
   have hin:Eb c ((A3o fr st).toAS (fr0 fr st [])) ((L.s.head (L.tup (L.unt v0))).toAS (fr0 fr st (Zi (lpW fr st x)))):=by
    rw[L.iso]
    exact A9z hc rfl (λi=>Au6 _ i) (λi hi=>Ano _ i hi) (Av8 fr st x) hv0 rfl f1 f2 f5
   cases hret:L.ret with
   | true =>
    rw[hret] at h
    obtain⟨z,hz,h⟩:=Ap h
    refine Aka (G:=Nat×L.α) (λg=>(L.s.head (L.tup g.2)).toAS (fr0 fr st (Zi (lpW fr st x)))) (λg=>B7 _ g.1 g.2=some z) (λg=>g.1) (fuel,L.unt v0) hz hin ?_
    rintro⟨n,v⟩ hn
    obtain⟨n',y,rfl,hy,hz'⟩:=Aae hn
    refine ih (λe st' h'=>?_) (λst' u hu hr=>?_) hy
    ·cases e with
     | normal =>
      obtain⟨hk,h'⟩:=A9 h'
      obtain⟨v',hv',h'⟩:=Ae2 h'
      cases h'
      exact⟨(n',L.unt v'),hz',Aev.trans (hco _ _ hv' hk),xR _⟩
     | exit i =>
      obtain⟨hk,h2⟩:=A9 h'
      clear h'
      rw[zG] at hk
      have:=zM hk.1
      subst this
      obtain⟨v',hv',h2⟩:=Ae2 h2
      cases h2
      cases hz'
      have:=k _ _ h
      rw[Aol] at this
      exact⟨_,Aev.trans (hco2 _ _ hv' hk.2),this⟩
     | _=>cases h'
    ·cases hr
     cases hz'
     have:=kr (A44 st (Zi (lpW fr st x)) st') u hu (zF h)
     rw[Aol] at this
     exact⟨_,Eb.refl _ _,this⟩
   | false =>
    rw[hret] at h
    obtain⟨z,hz,h⟩:=Ap h
    refine Aka (G:=Nat×L.α) (λg=>(L.s.head (L.tup g.2)).toAS (fr0 fr st (Zi (lpW fr st x)))) (λg=>Be _ g.1 g.2=some z) (λg=>g.1) (fuel,L.unt v0) hz hin ?_
    rintro⟨n,v⟩ hn
    obtain⟨n',y,rfl,hy,hz'⟩:=Qs hn
    refine ih (λe st' h'=>?_) (λst' u hu hr=>by cases hu) hy
    cases e with
    | normal =>
     obtain⟨hk,h'⟩:=A9 h'
     obtain⟨v',hv',h'⟩:=Ae2 h'
     cases h'
     exact⟨(n',L.unt v'),hz',Aev.trans (hco _ _ hv' hk),xR _⟩
    | exit i =>
     obtain⟨hk,h2⟩:=A9 h'
     clear h'
     rw[zG] at hk
     have:=zM hk.1
     subst this
     obtain⟨v',hv',h2⟩:=Ae2 h2
     cases h2
     cases hz'
     have:=k _ _ h
     rw[Aol] at this
     exact⟨_,Aev.trans (hco2 _ _ hv' hk.2),this⟩
    | _=>cases h'
 | _=>intro fr st E R wr K r Q k kr h;cases h
end
open Go.RowKit
variable {T:TT} [TX T] {P:Program} [Inf P] [El T P]
section
variable {fr:Fr T} {L:Nat->Nat} {ρ:Type} {st:XS T}
def A4j:Nat->List (SX T)->List (Nat×VX T)
 | _,[]=>[]
 | i,x::xs=>(i,.s x)::A4j (i+1) xs
def Aum (A:List Tc) (a:Vv T A):XS T:=⟨A4j 0 (Ag0 A a),[]⟩
def A73 (P:Program) [Inf P] (fr:Fr T) (st:XS T):ResultVar->Option (SX T)
 | .tmp t=>match st.get fr t with
  | .s x=>some x
  | _=>none
 | .cell t ty=>match Inf.ti P ty,st.get fr t with
  | some i,.s (.one p)=>ldX fr st p i
  | _,_=>none
def Axd (P:Program) [Inf P] (fr:Fr T) (st:XS T):List ResultVar->Option (List (SX T))
 | []=>some []
 | v::vs=>match A73 P fr st v with
  | some x=>match Axd P fr st vs with
   | some xs=>some (x::xs)
   | none=>none
  | none=>none
def Ayr (fm:List (BX T)):List (SX T)->List (Option (BX T))->Option (List (SX T))
 | [],_=>some []
 | x::xs,m=>match A4k fm x m with
  | some (y,m1)=>match Ayr fm xs m1 with
   | some ys=>some (y::ys)
   | none=>none
  | none=>none
omit [TX T] in
theorem Apx {fm:List (BX T)}:∀ {xs ys:List (SX T)} {m:List (Option (BX T))},L=Pi (A8 fm m)->Ayr fm xs m=some ys->∃ m',Ag1 (bks fm L m) (xs.map (SX.toSV L)) (ys.map (SX.toSV L)) m'
 | [],ys,m,hL,h=>by cases h;exact⟨_,.nil _⟩
 | x::xs,ys,m,hL,h=>by
  unfold Ayr at h
  split at h
  ·rename_i y m1 h1
   split at h
   ·rename_i zs h2
    cases h
    obtain⟨a1,_,a3⟩:=An9 hL h1
    obtain⟨m',b1⟩:=Apx (hL.trans (Ae9 a3).symm) h2
    exact⟨m',.cons _ _ _ _ _ _ _ a1 b1⟩
   ·cases h
  ·cases h
def A8d (P:Program) [Inf P] (vs:List ResultVar) (R:List Tc) (unt:Vv T R->ρ) (st:XS T):Option ρ:=match Axd P ⟨[],[]⟩ st vs with
 | some xs=>match Ayr [] xs st.m with
  | some ys=>match Anx R ys with
   | some v=>some (unt v)
   | none=>none
  | none=>none
 | none=>none
def Bew (P:Program) [Inf P] (vs:List ResultVar) (R:List Tc) (unt:Vv T R->ρ):Exit->XS T->Option ρ:=λe st=>match e with
 | .normal=>A8d P vs R unt st
 | _=>none
omit [El T P] in
theorem Azc {v:ResultVar} {x:SX T} (h:A73 P fr st v=some x):Awh P (st.toAS fr) v (x.toSV (st.L fr)):=by
 cases v with
 | tmp t =>
  change (match st.get fr t with
   | .s x=>some x
   | _=>none)=some x at h
  split at h
  ·rename_i y hy;cases h;exact .tmp _ _ (by show(st.get fr t).toAV _=_;rw[hy];rfl)
  ·cases h
 | cell t ty =>
  change (match Inf.ti P ty,st.get fr t with
   | some i,.s (.one p)=>ldX fr st p i
   | _,_=>none)=some x at h
  split at h
  ·rename_i i p hi hp
   have ht:(st.toAS fr).t t=.s (.one (p.toLf (st.L fr))):=by show(st.get fr t).toAV _=_;rw[hp];rfl
   unfold ldX at h
   split at h
   ·split at h
    ·rename_i y' r hp'
     cases h
     obtain⟨ls,hp'⟩:=Aim hp'
     exact .one _ _ _ _ _ (Inf.ti_ok hi) ht hp' rfl
    ·cases h
   ·rename_i sz
    split at h
    ·rename_i cs hp'
     split at h
     ·rename_i hb
      cases h
      obtain⟨ls,hp'⟩:=Aim hp'
      have hle:=yN hb
      have:=Awh.agg (P:=P) (st:=st.toAS fr) _ _ sz _ _ (Inf.ti_ok hi) ht hp' (by simp;omega)
      rw[xG (by simpa using hle),<- jO] at this
      exact this
     ·cases h
    ·cases h
   ·cases h
  ·cases h
omit [El T P] in
theorem Apm:∀ {vs:List ResultVar} {xs:List (SX T)},Axd P fr st vs=some xs->Aay P (st.toAS fr) vs (xs.map (SX.toSV (st.L fr)))
 | [],xs,h=>by cases h;exact Bj
 | v::vs,xs,h=>by
  unfold Axd at h
  split at h
  ·rename_i x hx
   split at h
   ·rename_i ys hy
    cases h
    exact A3 (Azc hx) (Apm hy)
   ·cases h
  ·cases h
omit [TX T] [Inf P] [El T P] in
theorem Bc.tellR {f:FuncId} {args ys:List SV} (h:Bc P f args (λx=>∃ xs,x=Y1 xs/\Mh xs ys)):Bc P f args (·=Y1 ys):=by
 intro w S vs hS hv
 refine(h w S vs hS hv).mono λe w' ⟨v,x,S',h1,⟨xs,hx,ht⟩,h3,h4,h5⟩=>⟨v,Y1 ys,S',h1,rfl,h3,h4,?_⟩
 subst hx
 cases ht with
 | nil=>exact h5
 | cons k0 t =>
  cases t with
  | nil=>exact k0.rep h5
  | cons h' t' =>
   obtain⟨us,rfl,hl,hr⟩:=h5
   have:=(Mh.cons k0 (.cons h' t')).rep (w:=w') (S:=S') (vs:=us.toList) ⟨by simpa using hl,λj x u hx hu=>hr j x u hx (by simpa using hu)⟩
   exact⟨us,rfl,by simpa using this.1,λj x u hx hu=>this.2 j x u hx (by simpa using hu)⟩
theorem A27 (R:List Tc) (r:Vv T R):(Ayg (T:=T) R r).toAV []=Y1 (Ym T R r):=by
 rw[<- Ya (Pi (T:=T) [])]
 unfold Ayg
 cases Ag0 R r with
 | nil=>rfl
 | cons x xs =>
  cases xs with
  | nil=>rfl
  | cons y ys=>rfl
omit [TX T] in
theorem Akp:∀ (xs:List (SX T)) (n i:Nat),C4 (.top:VX T) i (A4j n xs)=match xs[i-n]? with
  | some x=>if n<=i then .s x else .top
  | none=>.top
 | [],n,i=>rfl
 | x::xs,n,i=>by
  show cond (Nat.beq i n) (VX.s x) (C4 .top i (A4j (n+1) xs))=_
  cases e:Nat.beq i n with
  | true =>
   have:=zM e
   subst this
   simp
  | false =>
   have hne:i≠n:=λh=>by subst h;rw[show Nat.beq i i=true from by simp] at e;cases e
   show C4 .top i (A4j (n+1) xs)=_
   rw[Akp xs (n+1) i]
   by_cases h:n+1<=i
   ·have e1:i-n=(i-(n+1))+1:=by omega
    rw[e1,kD]
    cases xs[i-(n+1)]? with
    | none=>rfl
    | some y=>simp only[if_pos h,if_pos (show n<=i by omega)]
   ·have h2:¬ n<=i:=by omega
    cases xs[i-(n+1)]? <;> cases (x::xs)[i-n]? <;> simp [h,h2]
theorem Ami:∀ (A:List Tc) (a:Vv T A) (n:Nat),∀ x∈Ym T A a,x.inb n
 | [],_,_,x,h=>by cases h
 | t::A,a,n,x,h=>by
  cases h with
  | head =>
   have:Qz (At7 T t a.1) (At7 T t a.1):=by
    cases At7 T t a.1 with
    | one l=>exact .one (.refl l)
    | agg ls =>
     refine .agg ?_
     induction ls with
     | nil=>exact .nil
     | cons l ls ih=>exact .cons (.refl l) ih
   exact this.inb (Aqe _ _)
  | tail _ h=>exact Ami A a.2 n x h
def fnM (P:Program) [Inf P] [El T P] (nt:Nat) (F:Cds T P) (an:An T) (body:Code) (vs:List ResultVar) (A R:List Tc) (unt:Vv T R->ρ) (a:Vv T A):Option ρ :=
 evC nt F an body ⟨[],[]⟩ (Aum A a) (A8d P vs R unt) ρ id (Bew P vs R unt)
theorem vC {f:Nat} {A R:List Tc} (tup:ρ->Vv T R) (unt:Vv T R->ρ) (iso:∀ v,tup (unt v)=v) (F:Cds T P) (an:An T) {fn:Func} {body:Code} (hf:P.funcs[f]? = some fn) (hb:fn.body=some body) (hn:Nat.ble A.length fn.ntmps=true)
  (a:Vv T A) {o:Option ρ} {r:ρ} (e:fnM P fn.ntmps F an body fn.results.toList A R unt a=o) (h:o=some r):Bc P f (Ym T A a) (·=(Ayg (T:=T) R (tup r)).toAV []):=by
 subst e
 rw[A27]
 have hlen:(Ym T A a).length=A.length:=by
  clear h
  induction A with
  | nil=>rfl
  | cons t A ih=>exact congrArg (·+1) (ih (zAd (by have:=yN hn;simp at this;omega)) a.2)
 refine(Cg hf hb rfl (by rw[hlen];exact yN hn) (R:=λx=>∃ xs,x=Y1 xs/\Mh xs (Ym T R (tup r))) λw0 S0=>?_).tellR
 have hcov:Eb (Ctx.of w0 S0 fn.ntmps) ⟨Aqv (Ym T A a),[]⟩ ((Aum A a).toAS ⟨[],[]⟩):=by
  refine Ala (m:=[]) (ex:=[]) (λb hb=>by cases hb) (zT _) λi=>?_
  have e:(Aum A a).get ⟨[],[]⟩ i=match (Ag0 A a)[i]? with
   | some x=>.s x
   | none=>.top:=by
   show C4 (.top:VX T) i (A4j 0 (Ag0 A a))=_
   rw[Akp]
   simp
  show((Aum A a).get ⟨[],[]⟩ i).toAV _=.top\/((Aqv (Ym T A a) i).inb 0/\(((Aum A a).get ⟨[],[]⟩ i).toAV _=Aqv (Ym T A a) i\/_))
  rw[e]
  have e2:Aqv (Ym T A a) i=match (Ag0 A a)[i]? with
   | some x=>.s (x.toSV (Pi (T:=T) []))
   | none=>.tup []:=by
   unfold Aqv
   rw[<- Ya (Pi (T:=T) []),zK]
   cases (Ag0 A a)[i]? <;> rfl
  cases hx:(Ag0 A a)[i]? with
  | none=>exact .inl rfl
  | some x =>
   right
   rw[hx] at e2
   rw[e2]
   refine⟨Ami A a 0 _ ?_,.inl rfl⟩
   rw[<- Ya (Pi (T:=T) [])]
   exact yA.2 ⟨x,zD hx,rfl⟩
 have key:∀ st',A8d P fn.results.toList R unt st'=some r->∃ xs ys m',Aay P (st'.toAS ⟨[],[]⟩) fn.results.toList xs/\Ag1 (st'.toAS ⟨[],[]⟩).m xs ys m'/\∃ zs,Y1 ys=Y1 zs/\Mh zs (Ym T R (tup r)):=by
  intro st' hor
  unfold A8d at hor
  split at hor
  ·rename_i xs hxs
   split at hor
   ·rename_i ys hys
    split at hor
    ·rename_i v hv
     cases hor
     obtain⟨m',hp⟩:=Apx (L:=st'.L ⟨[],[]⟩) rfl hys
     refine⟨_,_,m',Apm hxs,hp,_,rfl,?_⟩
     rw[iso]
     exact X2 _ hv
    ·cases hor
   ·cases hor
  ·cases hor
 refine Ahe hcov (A4n (c:=Ctx.of w0 S0 fn.ntmps) rfl body (Q:=A0r P fn _) (λe st' h'=>?_) (λst' u hu hr=>?_) h)
 ·cases e with
  | normal=>exact⟨.inl rfl,key st' h'⟩
  | _=>cases h'
 ·have hr:u=r:=hr
  subst hr
  exact⟨.inr rfl,key st' hu⟩
end
open Go.RowKit
section
variable {body:Code} {fn:Func} {P:Program} {T:TT} {a:Type}
noncomputable instance infT {P:Program} [TB P] [FB P]:Inf P where
 ti:=TB.t P
 ti_ok:=TB.tok
 fi:=TB.f P
 fi_ok:=TB.fok
 si:=TB.s P
 si_ok:=TB.sok
 zi:=TB.z P
 zi_ok:=TB.zok
 pi:=TB.p P
 pi_ok:=TB.pok
 ft:=λs f=>match P.underlying s with
  | some (.struct fs)=>match fs[f]? with
   | some x=>some (x.offset,x.type)
   | none=>none
  | _=>none
 ft_ok:=by
  intro s f off t h
  split at h
  ·rename_i fs e
   split at h
   ·rename_i x e2;cases h;exact⟨fs,x,e,e2,rfl,rfl⟩
   ·cases h
  ·cases h
 bo:=λt=>match P.underlying t with
  | some .bool=>true
  | _=>false
 bo_ok:=by
  intro t h
  split at h
  ·assumption
  ·cases h
 ik:=λt=>match P.underlying t with
  | some (.int k)=>some k
  | _=>none
 ik_ok:=by
  intro t k h
  split at h
  ·rename_i e;cases h;exact e
  ·cases h
 mx:=P.follows .mixedOrders
 mx_ok:=λh=>h
 fn:=λf=>(FB.l P).elem f
 fn_ok:=fk
structure EE (T:TT) (P:Program) where
 t:Nat
 e:Nat
 b:Nat
 c:Tc
 h:P.underlying t=some (.slice e)/\(∃ zl,EI P e (c.size T) b zl)/\0<b
def lkE:List (EE T P)->Nat->Option (Nat×Nat×Tc)
 | [],_=>none
 | x::l,t=>cond (Nat.beq x.t t) (some (x.e,x.b,x.c)) (lkE l t)
theorem A0s {t e b:Nat} {c:Tc}:∀ {l:List (EE T P)},lkE l t=some (e,b,c)->P.underlying t=some (.slice e)/\(∃ zl,EI P e (c.size T) b zl)/\0<b
 | x::l,h=>by
  unfold lkE at h
  cases e1:Nat.beq x.t t with
  | true=>rw[e1] at h;cases h;rw[<- zM e1];exact x.h
  | false=>rw[e1] at h;exact A0s h
abbrev elT (l:List (EE T P)):El T P:=⟨lkE l,A0s⟩
abbrev ey (t e b:Nat) (c:Tc) (zl:List Lf) (h1:P.underlying t=some (.slice e):=by first|assumption|kernel_rfl) (h2:EI P e (c.size T) b zl:=by exact Abu (by kernel_rfl) (by decide)) (h3:0<b:=by decide):EE T P:=⟨t,e,b,c,h1,⟨zl,h2⟩,h3⟩
def Axf:(ts:List Tc)->List (X T)->Option (Vv T ts)
 | [],[]=>some ()
 | t::ts,x::xs=>match asC t x with
  | some v=>match Axf ts xs with
   | some vs=>some (v,vs)
   | none=>none
  | none=>none
 | _,_=>none
theorem Ax4 {t:Tc} {x:X T} {v:den T t} (L L':Nat->Nat) (h:asC t x=some v):Yj (x.toLf L) ((An5 t v).toLf L'):=by
 cases t with
 | int k=>have e:=Azn (v:=v) L h;rw[e];exact .refl _
 | sl t=>exact Aoz (v:=v) L h
 | bool =>
  change asB x=some v at h
  unfold asB at h
  split at h
  ·cases h;exact .refl _
  ·cases h
 | str =>
  change Al0 x=some v at h
  unfold Al0 at h
  split at h
  ·cases h;exact .refl _
  ·cases h
 | u8 =>
  change Az7 x=some v at h
  unfold Az7 at h
  split at h
  ·cases h;exact .refl _
  ·cases h
 | st n=>cases h
theorem Apo (L L':Nat->Nat):∀ {ts:List Tc} {xs:List (X T)} {v:Vv T ts},Axf ts xs=some v->Tv (xs.map (X.toLf L)) ((Abf ts v).map (X.toLf L'))
 | [],[],_,_=>.nil
 | [],_::_,_,h=>by cases h
 | _::_,[],_,h=>by cases h
 | t::ts,x::xs,v,h=>by
  unfold Axf at h
  split at h
  ·rename_i u hu
   split at h
   ·rename_i us hus
    cases h
    exact .cons (Ax4 L L' hu) (Apo L L' hus)
   ·cases h
  ·cases h
def Bb7:Tc->Bool
 | .st _=>false
 | _=>true
theorem Ahz (L:Nat->Nat):∀ {ts:List Tc} (v:Vv T ts),ts.all Bb7=true->((Abf ts v).map (X.toLf L)).all Lf.pubd=true
 | [],_,_=>rfl
 | t::ts,v,h=>by
  rw[wL,zG] at h
  show(((An5 t v.1).toLf L).pubd&&((Abf ts v.2).map (X.toLf L)).all Lf.pubd)=true
  rw[Ahz L v.2 h.2,jP]
  cases t <;> first|rfl|cases h.1
theorem Ah9 (L:Nat->Nat):∀ {ts:List Tc} (v:Vv T ts),((Abf ts v).map (X.toLf L)).map Lf.canon=(Abf ts v).map (X.toLf L)
 | [],_=>rfl
 | t::ts,v=>by
  show((An5 t v.1).toLf L).canon::((Abf ts v.2).map (X.toLf L)).map Lf.canon=_
  rw[Ah9 L v.2]
  cases t <;> rfl
abbrev TX.of (L:Nat->List Tc) (to:(n:Nat)->T.D n->Vv T (L n)) (of:(n:Nat)->Vv T (L n)->T.D n) (h1:∀ n v f,(Abf (L n) (to n v)).map (X.toLf f)=T.enc n v) (h2:∀ n v,to n (of n v)=v) (h3:∀ n,(L n).all Bb7=true):TX T where
 cells:=λn v=>Abf (L n) (to n v)
 cells_ok:=h1
 dec:=λn xs=>match Axf (L n) xs with
  | some v=>some (of n v)
  | none=>none
 dec_ok:=by
  intro n xs v f h
  split at h
  ·rename_i u hu
   cases h
   rw[<- h1 _ _ f,h2]
   exact Apo f f hu
  ·cases h
 pub:=λn v=>by rw[<- h1 n v (λ_=>0)];exact Ahz _ _ (h3 n)
 can:=λn v=>by rw[<- h1 n v (λ_=>0)];exact Ah9 _ _
def vK [TX T] [Inf P] [El T P] (f:Nat) (A R:List Tc) {ρ:Type} (tup:ρ->Vv T R) (unt:Vv T R->ρ) (F:Cds T P) (an:An T) (hf:P.funcs[f]? = some fn) (model:Vv T A->Option ρ)
  (hb:fn.body=some body:=by exact rfl)
  (e:∀ a,fnM P fn.ntmps F an body fn.results.toList A R unt a=model a:=by intro _;kernel_rfl) (iso:∀ v,tup (unt v)=v:=by exact λ_=>rfl) (hn:Nat.ble A.length fn.ntmps=true:=by exact rfl):Am3 T P :=
 ⟨f,A,R,ρ,tup,model,λa _ h=>vC tup unt iso F an hf hb hn a (e a) h⟩
abbrev vK1 [TX T] [Inf P] [El T P] (f:Nat) (A:List Tc) (R:Tc) (F:Cds T P) (an:An T) (hf:P.funcs[f]? = some fn) (model:Vv T A->Option (den T R))
  (hb:fn.body=some body:=by exact rfl)
  (e:∀ a,fnM P fn.ntmps F an body fn.results.toList A [R] (λv=>v.1) a=model a:=by intro _;kernel_rfl) (hn:Nat.ble A.length fn.ntmps=true:=by exact rfl):Am3 T P :=
 vK f A [R] (λr=>(r,())) (λv=>v.1) F an hf model hb e (λ_=>rfl) hn
abbrev vK2 [TX T] [Inf P] [El T P] (f:Nat) (A:List Tc) (R R2:Tc) (F:Cds T P) (an:An T) (hf:P.funcs[f]? = some fn) (model:Vv T A->Option (den T R×den T R2))
  (hb:fn.body=some body:=by exact rfl)
  (e:∀ a,fnM P fn.ntmps F an body fn.results.toList A [R,R2] (λv=>(v.1,v.2.1)) a=model a:=by intro _;kernel_rfl) (hn:Nat.ble A.length fn.ntmps=true:=by exact rfl):Am3 T P :=
 vK f A [R,R2] (λr=>(r.1,r.2,())) (λv=>(v.1,v.2.1)) F an hf model hb e (λ_=>rfl) hn
section
variable {T:TT}
def Tup:List Type->Type
 | []=>Unit
 | [a]=>a
 | a::b::l=>a×Tup (b::l)
def Adx:{L:List Type}->a->Tup L->Tup (a::L)
 | [],x,_=>x
 | _::_,x,y=>(x,y)
def tun:{L:List Type}->Tup (a::L)->a×Tup L
 | [],x=>(x,())
 | _::_,x=>x
theorem Ai5:∀ {L:List Type} (x:a) (y:Tup L),tun (Adx x y)=(x,y)
 | [],_,_=>rfl
 | _::_,_,_=>rfl
def tyT (T:TT):List (Nat×ST)->List Type->List Type
 | [],L=>L
 | (_,.v t)::r,L=>den T t::tyT T r L
 | (_,.own _)::r,L=>tyT T r L
def tyC (T:TT):List BC->List Type->List Type
 | [],L=>L
 | .v t::r,L=>den T t::tyC T r L
 | .own _::r,L=>tyC T r L
 | .nil::r,L=>tyC T r L
def tyM (T:TT):List BT->List Type
 | []=>[]
 | .keep::r=>tyM T r
 | .dead::r=>tyM T r
 | .box cs::r=>tyC T cs (tyM T r)
 | .arr _ _ _ t::r=>List (den T t)::tyM T r
def mkT:(sl:List (Nat×ST))->{L:List Type}->Awp T sl->Tup L->Tup (tyT T sl L)
 | [],_,_,k=>k
 | (_,.v _)::r,_,v,k=>Adx v.1 (mkT r v.2 k)
 | (_,.own _)::r,_,v,k=>mkT r v.2 k
def unT:(sl:List (Nat×ST))->{L:List Type}->Tup (tyT T sl L)->Awp T sl×Tup L
 | [],_,k=>((),k)
 | (_,.v _)::r,_,v=>((((tun v).1,(unT r (tun v).2).1)),(unT r (tun v).2).2)
 | (_,.own _)::r,_,v=>(((),(unT r v).1),(unT r v).2)
def mkC:(cs:List BC)->{L:List Type}->Afx T cs->Tup L->Tup (tyC T cs L)
 | [],_,_,k=>k
 | .v _::r,_,v,k=>Adx v.1 (mkC r v.2 k)
 | .own _::r,_,v,k=>mkC r v.2 k
 | .nil::r,_,v,k=>mkC r v.2 k
def unC:(cs:List BC)->{L:List Type}->Tup (tyC T cs L)->Afx T cs×Tup L
 | [],_,k=>((),k)
 | .v _::r,_,v=>((((tun v).1,(unC r (tun v).2).1)),(unC r (tun v).2).2)
 | .own _::r,_,v=>(((),(unC r v).1),(unC r v).2)
 | .nil::r,_,v=>(((),(unC r v).1),(unC r v).2)
def mkM:(ms:List BT)->Ar5 T ms->Tup (tyM T ms)
 | [],_=>()
 | .keep::r,v=>mkM r v.2
 | .dead::r,v=>mkM r v.2
 | .box cs::r,v=>mkC cs v.1 (mkM r v.2)
 | .arr .. :: r,v=>Adx v.1 (mkM r v.2)
def unM:(ms:List BT)->Tup (tyM T ms)->Ar5 T ms
 | [],_=>()
 | .keep::r,v=>((),unM r v)
 | .dead::r,v=>((),unM r v)
 | .box cs::r,v=>((unC cs v).1,unM r (unC cs v).2)
 | .arr .. :: r,v=>((tun v).1,unM r (tun v).2)
theorem Av3:∀ (sl:List (Nat×ST)) {L:List Type} (v:Awp T sl) (k:Tup L),unT sl (mkT sl v k)=(v,k)
 | [],_,_,_=>rfl
 | (i,.v t)::r,L,v,k=>by
  have key:∀ (a:den T t) (w:Awp T r),(((tun (Adx a (mkT r w k))).1,(unT r (tun (Adx a (mkT r w k))).2).1),(unT r (tun (Adx a (mkT r w k))).2).2)=((a,w),k):=λa w=>by
   rw[Ai5]
   dsimp only
   rw[Av3 r w k]
  exact key v.1 v.2
 | (_,.own _)::r,_,v,k=>by
  show(((),(unT r (mkT r v.2 k)).1),(unT r (mkT r v.2 k)).2)=_
  rw[Av3 r v.2 k];rfl
theorem Apf:∀ (cs:List BC) {L:List Type} (v:Afx T cs) (k:Tup L),unC cs (mkC cs v k)=(v,k)
 | [],_,_,_=>rfl
 | .v t::r,L,v,k=>by
  have key:∀ (a:den T t) (w:Afx T r),(((tun (Adx a (mkC r w k))).1,(unC r (tun (Adx a (mkC r w k))).2).1),(unC r (tun (Adx a (mkC r w k))).2).2)=((a,w),k):=λa w=>by
   rw[Ai5]
   dsimp only
   rw[Apf r w k]
  exact key v.1 v.2
 | .own _::r,_,v,k=>by
  show(((),(unC r (mkC r v.2 k)).1),(unC r (mkC r v.2 k)).2)=_
  rw[Apf r v.2 k];rfl
 | .nil::r,_,v,k=>by
  show(((),(unC r (mkC r v.2 k)).1),(unC r (mkC r v.2 k)).2)=_
  rw[Apf r v.2 k];rfl
theorem Akh:∀ (ms:List BT) (v:Ar5 T ms),unM ms (mkM ms v)=v
 | [],_=>rfl
 | .keep::r,v=>by
  show((),unM r (mkM r v.2))=v
  rw[Akh r v.2];rfl
 | .dead::r,v=>by
  show((),unM r (mkM r v.2))=v
  rw[Akh r v.2];rfl
 | .box cs::r,v=>by
  have key:∀ (a:Afx T cs) (w:Ar5 T r),((unC cs (mkC cs a (mkM r w))).1,unM r (unC cs (mkC cs a (mkM r w))).2)=(a,w):=λa w=>by
   rw[Apf cs a]
   dsimp only
   rw[Akh r w]
  exact key v.1 v.2
 | .arr _ _ _ t::r,v=>by
  have key:∀ (a:List (den T t)) (w:Ar5 T r),((tun (Adx a (mkM r w))).1,unM r (tun (Adx a (mkM r w))).2)=(a,w):=λa w=>by
   rw[Ai5]
   dsimp only
   rw[Akh r w]
  exact key v.1 v.2
abbrev Shp.F (T:TT) (s:Shp):Type:=Tup (tyT T s.sl (tyM T s.ms))
def Shp.tup (s:Shp) (v:s.F T):s.den T:=((unT s.sl v).1,unM s.ms (unT s.sl v).2)
def Shp.unt (s:Shp) (v:s.den T):s.F T:=mkT s.sl v.1 (mkM s.ms v.2)
theorem Shp.iso (s:Shp) (v:s.den T):s.tup (s.unt v)=v:=by
 unfold Shp.tup Shp.unt
 rw[Av3,Akh];rfl
abbrev lF (s:Shp) (j:Nat) (s2:Shp) (ret:Bool) (ad:List Ad:=[]):Lp T:=⟨s,s.F T,s.tup,s.unt,s.iso,j,s2,s2.F T,s2.tup,s2.unt,s2.iso,ret,ad⟩
end
end
section
variable {i n:Nat} {α:Type} {xs:List α} {β ρ:Type} {K:Int->α->Option (LR Int Unit ρ)} {σ τ:Type} {x:α} {p:α->Bool} {f:τ->Option (LB τ β)}
theorem Azy (hx:xs[i]? = some x) (hi:i<=xs.findIdx p):(p x=true/\xs.findIdx p=i)\/(p x=false/\i+1<=xs.findIdx p):=by
 obtain⟨hl,rfl⟩:=zB.1 hx
 cases hp:p xs[i] with
 | true =>
  refine .inl ⟨rfl,Nat.le_antisymm (Nat.le_of_not_lt λhc=>?_) hi⟩
  have:=j6 hc
  rw[hp] at this;cases this
 | false =>
  refine .inr ⟨rfl,Nat.lt_of_le_of_ne hi λe=>?_⟩
  have hc:xs.findIdx p<xs.length:=e ▸ hl
  have h:p xs[xs.findIdx p]=true:=kE (w:=hc)
  simp only[<- e] at h
  rw[hp] at h;cases h
theorem Az6 (xs:List α) (p:α->Bool) (g:Nat->α->ρ) {f:Int->Option (LR Int Unit ρ)} (hl:xs.length<=1000000000000000000)
  (h:∀ (i:Nat) x,xs[i]? = some x->f i=some (if p x then .ret (g i x) else .cont (wI ((i:Int)+1)))) (he:f xs.length=some (.brk ())) :
  ∃ v,B7 f fuel 0=some v/\((∃ x,xs[xs.findIdx p]? = some x/\v=.inl (g (xs.findIdx p) x))\/(xs.findIdx p=xs.length/\v=.inr ())) :=
 B9 (f:=f) (P:=λs=>∃ i:Nat,i<=xs.findIdx p/\s=(i:Int)) (μ:=λs=>xs.length-s.toNat)
  (R:=λv=>(∃ x,xs[xs.findIdx p]? = some x/\v=.inl (g (xs.findIdx p) x))\/(xs.findIdx p=xs.length/\v=.inr ())) (by
   rintro _ ⟨i,hi,rfl⟩
   have hle:xs.findIdx p<=xs.length:=j7
   rcases zQ i xs.length with hlt|hge
   ·have hx:=zC hlt
    have hk:=h i _ hx
    rcases Azy hx hi with⟨hp,e⟩|⟨hp,e⟩
    ·rw[if_pos hp] at hk
     exact .inr (.inr ⟨_,hk,.inl ⟨_,by rw[e];exact hx,by rw[e]⟩⟩)
    ·rw[if_neg (by rw[hp];decide),Zc (by omega) (by omega)] at hk
     exact .inl ⟨_,hk,⟨i+1,e,rfl⟩,by omega⟩
   ·obtain rfl:i=xs.length:=by omega
    exact .inr (.inl ⟨(),he,.inr ⟨by omega,rfl⟩⟩)) fuel 0 ⟨0,zU _,rfl⟩ (Bb (by show xs.length-0<=_;omega))
theorem Aw9 (xs:List α) (p:α->Bool) (g:Nat->α->ρ) (hl:xs.length<=1000000000000000000)
  (h:∀ (i:Nat) x,xs[i]? = some x->K i x=some (if p x then .ret (g i x) else .cont (wI ((i:Int)+1)))) :
  ∃ v,B7 (λi=>if decide (i<(xs.length:Int))=true then(idx xs i).bind (K i) else some (.brk ())) fuel 0=some v/\((∃ x,xs[xs.findIdx p]? = some x/\v=.inl (g (xs.findIdx p) x))\/(xs.findIdx p=xs.length/\v=.inr ())) :=
 Az6 xs p g hl (λi x hx=>by
  have:=(zB.1 hx).1
  rw[if_pos (decide_eq_true (by omega)),Ak,hx];exact h i x hx) (by rw[if_neg (by rw[decide_eq_true_eq];omega)])
theorem App (xs:List α) (p:α->Bool) (r:ρ) {f:Int->Option (LR Int Unit ρ)} (hl:xs.length<=1000000000000000000)
  (h:∀ (i:Nat) x,xs[i]? = some x->f i=some (if p x then .ret r else .cont (wI ((i:Int)+1)))) (he:f xs.length=some (.brk ())):B7 f fuel 0=some (if xs.any p then .inl r else .inr ()):=by
 obtain⟨v,hv,⟨x,hx,rfl⟩|⟨e,rfl⟩⟩:=Az6 xs p (λ_ _=>r) hl h he
 ·have hlt:=(zB.1 hx).1
  rw[hv,if_pos (xF.2 ⟨_,yW hlt,kE (w:=hlt)⟩)]
 ·rw[hv,if_neg λhc=>?_]
  obtain⟨x,hx,hp⟩:=xF.1 hc
  have:=j8.1 e x hx
  rw[hp] at this;cases this
theorem Avd (xs:List α) (p:α->Bool) (r:ρ) (hl:xs.length<=1000000000000000000)
  (h:∀ (i:Nat) x,xs[i]? = some x->K i x=some (if p x then .ret r else .cont (wI ((i:Int)+1)))) :
  B7 (λi=>if decide (i<(xs.length:Int))=true then(idx xs i).bind (K i) else some (.brk ())) fuel 0=some (if xs.any p then .inl r else .inr ()) :=
 App xs p r hl (λi x hx=>by
  have:=(zB.1 hx).1
  rw[if_pos (decide_eq_true (by omega)),Ak,hx];exact h i x hx) (by rw[if_neg (by rw[decide_eq_true_eq];omega)])
theorem A1f (xs:List α) (p:α->Bool) (g:Nat->ρ) (hl:xs.length<=1000000000000000000)
  (h:∀ (i:Nat) x,xs[i]? = some x->K i x=some (if p x then .ret (g i) else .cont (wI ((i:Int)+1)))) :
  B7 (λi=>if decide (i<(xs.length:Int))=true then(idx xs i).bind (K i) else some (.brk ())) fuel 0=some (if xs.findIdx p<xs.length then .inl (g (xs.findIdx p)) else .inr ()):=by
 obtain⟨v,hv,⟨x,hx,rfl⟩|⟨e,rfl⟩⟩:=Aw9 xs p (λi _=>g i) hl h
 ·rw[hv,if_pos (zB.1 hx).1]
 ·rw[hv,if_neg (by omega)]
theorem Axb {f:Int->Option (LR Int Unit ρ)} (hn:n<=1000000000000000000) (h:∀ i:Nat,i<n->f i=some (.cont (wI ((i:Int)+1)))) (he:f n=some (.brk ())):B7 f fuel 0=some (.inr ()):=by
 have key:∀ (k i m:Nat),k+i=n->k<m->B7 f m i=some (.inr ()):=by
  intro k
  induction k with
  | zero =>
   intro i m hi hm
   obtain⟨m,rfl⟩:∃ q,m=q+1:=⟨m-1,by omega⟩
   obtain rfl:i=n:=by omega
   rw[B7,he]
  | succ k ih =>
   intro i m hi hm
   obtain⟨m,rfl⟩:∃ q,m=q+1:=⟨m-1,by omega⟩
   have hk:=h i (by omega)
   rw[Zc (by omega) (by omega)] at hk
   rw[B7,hk]
   exact ih (i+1) m (by omega) (by omega)
 exact key n 0 fuel rfl (Bb hn)
theorem A1y (xs:List α) (hn:n<=xs.length) (hl:xs.length<=1000000000000000000)
  (h:∀ (i:Nat) x,i<n->xs[i]? = some x->K i x=some (.cont (wI ((i:Int)+1)))) :
  B7 (λi=>if decide (i<(n:Int))=true then(idx xs i).bind (K i) else some (.brk ())) fuel 0=some (.inr ()) :=
 Axb (yU hn hl) (λi hi=>by
  have hx:=zC (zY hi hn)
  rw[if_pos (decide_eq_true (by omega)),Ak,hx];exact h i _ hi hx) (by rw[if_neg (by rw[decide_eq_true_eq];omega)])
theorem V4 (xs:List α) (hl:xs.length<=1000000000000000000)
  (h:∀ (i:Nat) x,xs[i]? = some x->K i x=some (.cont (wI ((i:Int)+1)))) :
  B7 (λi=>if decide (i<(xs.length:Int))=true then(idx xs i).bind (K i) else some (.brk ())) fuel 0=some (.inr ()):=A1y xs (zT _) hl λi x _=>h i x
theorem A4w (hu:xs.Pairwise λa b=>¬ (p a=true/\p b=true)) (hx:xs[i]? = some x) (hp:p x=true):xs.findIdx p=i:=by
 obtain⟨hl,rfl⟩:=zB.1 hx
 rcases zQ (xs.findIdx p) i with h|h
 ·exact absurd ⟨kE (w:=zAh h hl),hp⟩ (z7.1 hu _ i (zAh h hl) hl h)
 ·rcases Azy hx h with⟨_,e⟩|⟨e,_⟩
  ·exact e
  ·rw[hp] at e;cases e
theorem Ain (p:α->Bool):∀ xs:List α,xs.find? p=xs[xs.findIdx p]?
 | []=>rfl
 | x::xs=>by
  rw[jE,List.findIdx_cons]
  cases p x
  ·simpa using Ain p xs
  ·simp
theorem A9q (xs:List α) (p:α->Bool) (g:α->ρ) (hl:xs.length<=1000000000000000000)
  (h:∀ (i:Nat) x,xs[i]? = some x->K i x=some (if p x then .ret (g x) else .cont (wI ((i:Int)+1)))) :
  B7 (λi=>if decide (i<(xs.length:Int))=true then(idx xs i).bind (K i) else some (.brk ())) fuel 0=some ((xs.find? p).elim (.inr ()) λx=>.inl (g x)):=by
 obtain⟨v,hv,⟨x,hx,rfl⟩|⟨e,rfl⟩⟩:=Aw9 xs p (λ_=>g) hl h
 ·rw[hv,Ain,hx];rfl
 ·rw[hv,Ain,zZ (by omega)];rfl
theorem Baa (xs:List α) (g:σ->α->σ) (J:Nat->σ->Prop) {K:Int×σ->α->Option (LB (Int×σ) σ)} (hl:xs.length<=1000000000000000000) {a0:σ} (h0:J 0 a0)
  (h:∀ (i:Nat) x acc,xs[i]? = some x->i<xs.length->J i acc->K ((i:Int),acc) x=some (.cont (wI ((i:Int)+1),g acc x))/\J (i+1) (g acc x)) :
  Be (λs=>if decide (s.1<(xs.length:Int))=true then(idx xs s.1).bind (K s) else some (.brk s.2)) fuel (0,a0)=some (xs.foldl g a0):=by
 obtain⟨v,hv,hr⟩:=Bo (f:=λs=>if decide (s.1<(xs.length:Int))=true then(idx xs s.1).bind (K s) else some (.brk s.2)) (P:=λs=>∃ i:Nat,i<=xs.length/\s=((i:Int),(xs.take i).foldl g a0)/\J i ((xs.take i).foldl g a0)) (μ:=λs=>xs.length-s.1.toNat)
  (R:=λv=>v=xs.foldl g a0) (by
   rintro _ ⟨i,hi,rfl,hj⟩
   rcases zQ i xs.length with hlt|hge
   ·have hx:=zC hlt
    obtain⟨hk,hj'⟩:=h i _ _ hx hlt hj
    rw[Zc (by omega) (by omega)] at hk
    have e:(xs.take (i+1)).foldl g a0=g ((xs.take i).foldl g a0) xs[i]:=by rw[zO hlt,List.foldl_append];rfl
    exact .inl ⟨_,by rw[if_pos (decide_eq_true (by show(i:Int)<_;omega)),Ak,hx];exact hk,⟨i+1,hlt,by rw[e];rfl,by rw[e];exact hj'⟩,by dsimp only;omega⟩
   ·refine .inr ⟨_,by rw[if_neg (by rw[decide_eq_true_eq];show ¬ (i:Int)<_;omega)],?_⟩
    show List.foldl g a0 (xs.take i)=_
    rw[yJ hge]) fuel (0,a0) ⟨0,zU _,rfl,h0⟩ (Bb (by show xs.length-0<=_;omega))
 rw[hv,hr]
theorem Afp (p:α->Bool) (f:α->β):∀ (xs:List α) (a:List β),xs.foldl (λacc x=>if p x then acc++[f x] else acc) a=a++(xs.filter p).map f
 | [],a=>by simp
 | x::xs,a=>by
  rw[w8,Afp p f xs,kK]
  cases p x <;> simp
theorem Bat (xs:List α) (p:α->Bool) (f:α->β) {K:Int×List β->α->Option (LB (Int×List β) (List β))} (hl:xs.length<=1000000000000000000)
  (h:∀ (i:Nat) x acc,xs[i]? = some x->acc.length<xs.length->K ((i:Int),acc) x=some (.cont (wI ((i:Int)+1),if p x then acc++[f x] else acc))) :
  Be (λs=>if decide (s.1<(xs.length:Int))=true then(idx xs s.1).bind (K s) else some (.brk s.2)) fuel (0,([]:List β))=some ((xs.filter p).map f):=by
 rw[Baa xs (λacc x=>if p x then acc++[f x] else acc) (λi acc=>acc.length<=i) hl (zT _) (λi x acc hx hi hj=>⟨h i x acc hx (Nat.lt_of_le_of_lt hj hi),by
  cases p x
  ·exact Nat.le_succ_of_le hj
  ·rw[if_pos rfl,zI];exact Nat.succ_le_succ hj⟩),Afp,wO]
theorem A2b (xs:List α) (p:α->Bool) (f:α->β) (sz:Nat) {K:Int×List β->α->Option (LB (Int×List β) (List β))} (hl:xs.length<=1000000000000000000) (hs:xs.length*sz<=140737488355328)
  (h:∀ (i:Nat) x acc,xs[i]? = some x->K ((i:Int),acc) x=if p x=true then(if (acc.length+[f x].length)*sz<=140737488355328 then some (.cont (wI ((i:Int)+1),acc++[f x])) else none) else some (.cont (wI ((i:Int)+1),acc))) :
  Be (λs=>if decide (s.1<(xs.length:Int))=true then(idx xs s.1).bind (K s) else some (.brk s.2)) fuel (0,([]:List β))=some ((xs.filter p).map f) :=
 Bat xs p f hl λi x acc hx ha=>by
  rw[h i x acc hx]
  cases p x
  ·rfl
  ·rw[if_pos rfl,if_pos rfl,if_pos (yU (xV sz (show acc.length+[f x].length<=xs.length from ha)) hs)]
theorem ifz {a:β} [Decidable (a=a)] {α:Sort _} {x y:α}:(if (!decide (a=a))=true then x else y)=y:=if_neg (by rw[decide_eq_true rfl];decide)
theorem Arb (st:σ->Nat->τ) (xs:List α) (g:σ->α->σ) (out:σ->β) (J:Nat->σ->Prop) (hl:xs.length<=1000000000000000000)
  (h1:∀ acc i x,xs[i]? = some x->J i acc->f (st acc i)=some (.cont (st (g acc x) (i+1)))/\J (i+1) (g acc x)) (h2:∀ acc,J xs.length acc->f (st acc xs.length)=some (.brk (out acc))) (a0:σ) (h0:J 0 a0):Be f fuel (st a0 0)=some (out (xs.foldl g a0))/\J xs.length (xs.foldl g a0):=by
 have key:∀ (k i:Nat) (acc:σ) (n:Nat),k+i=xs.length->k<n->J i acc->Be f n (st acc i)=some (out ((xs.drop i).foldl g acc))/\J xs.length ((xs.drop i).foldl g acc):=by
  intro k
  induction k with
  | zero =>
   intro i acc n hi hn hj
   obtain⟨m,rfl⟩:∃ m,n=m+1:=⟨n-1,by omega⟩
   obtain rfl:i=xs.length:=by omega
   rw[Be,h2 acc hj,kY];exact⟨rfl,hj⟩
  | succ k ih =>
   intro i acc n hi hn hj
   obtain⟨m,rfl⟩:∃ m,n=m+1:=⟨n-1,by omega⟩
   have hlt:i<xs.length:=by omega
   obtain⟨e,hj'⟩:=h1 acc i _ (zC hlt) hj
   rw[Be,e,xB hlt]
   exact ih (i+1) _ m (by omega) (by omega) hj'
 exact key xs.length 0 a0 fuel rfl (Bb hl) h0
theorem Ax9 (st:σ->Nat->τ) (xs:List α) (g:σ->α->σ) (out:σ->β) (J:Nat->σ->Prop) (hl:xs.length<=1000000000000000000)
  (h1:∀ acc i x,xs[i]? = some x->J i acc->f (st acc i)=some (.cont (st (g acc x) (i+1)))/\J (i+1) (g acc x)) (h2:∀ acc,J xs.length acc->f (st acc xs.length)=some (.brk (out acc))) (a0:σ) (h0:J 0 a0):Be f fuel (st a0 0)=some (out (xs.foldl g a0)):=(Arb st xs g out J hl h1 h2 a0 h0).1
theorem Azk {γ:Type} (st:List γ->Nat->τ) (xs:List α) (p:α->Bool) (k:α->γ) (out:List γ->β) (hl:xs.length<=1000000000000000000)
  (h1:∀ acc i x,xs[i]? = some x->acc.length<=i->f (st acc i)=some (.cont (st (if p x then acc++[k x] else acc) (i+1)))) (h2:∀ acc,f (st acc xs.length)=some (.brk (out acc))):Be f fuel (st [] 0)=some (out ((xs.filter p).map k)):=by
 rw[Ax9 st xs (λacc x=>if p x then acc++[k x] else acc) out (λi acc=>acc.length<=i) hl (λacc i x hx hj=>⟨h1 acc i x hx hj,by
  cases p x
  ·exact Nat.le_succ_of_le hj
  ·rw[if_pos rfl,zI];exact Nat.succ_le_succ hj⟩) (λacc _=>h2 acc) [] (zT _),Afp,wO]
theorem Aki (p:α->Bool):∀ (xs:List α) (b:Bool),xs.foldl (λb x=>b||p x) b=(b||xs.any p)
 | [],b=>by simp
 | x::xs,b=>by rw[w8,Aki p xs,zAa,Bool.or_assoc]
theorem A9t (st:Bool->Nat->τ) (xs:List α) (p:α->Bool) (out:Bool->β) (hl:xs.length<=1000000000000000000)
  (h1:∀ b i x,xs[i]? = some x->f (st b i)=some (.cont (st (b||p x) (i+1)))) (h2:∀ b,f (st b xs.length)=some (.brk (out b))) (b0:Bool):Be f fuel (st b0 0)=some (out (b0||xs.any p)):=by
 rw[Ax9 st xs (λb x=>b||p x) out (λ_ _=>True) hl (λb i x hx _=>⟨h1 b i x hx,trivial⟩) (λb _=>h2 b) b0 trivial,Aki]
theorem A90 {β' ρ':Type} {f:σ->Option (LR σ β ρ)} {g:τ->Option (LR τ β' ρ')} (I:σ->τ->Prop) (Q:Sum ρ β->Sum ρ' β'->Prop)
  (h:∀ s t,I s t->(∃ s' t',f s=some (.cont s')/\g t=some (.cont t')/\I s' t')\/(∃ b b',f s=some (.brk b)/\g t=some (.brk b')/\Q (.inr b) (.inr b'))\/∃ r r',f s=some (.ret r)/\g t=some (.ret r')/\Q (.inl r) (.inl r')) :
  ∀ {n:Nat} {s:σ} {t:τ} {v:Sum ρ' β'},I s t->B7 g n t=some v->∃ u,B7 f n s=some u/\Q u v
 | 0,_,_,_,_,hv=>by cases hv
 | n+1,s,t,v,hi,hv=>by
  rw[B7] at hv
  rcases h s t hi with⟨s',t',hf,hg,hi'⟩|⟨b,b',hf,hg,hq⟩|⟨b,b',hf,hg,hq⟩
  ·rw[hg] at hv
   obtain⟨u,hu,hq⟩:=A90 I Q h (n:=n) hi' hv
   exact⟨u,by rw[B7,hf];exact hu,hq⟩
  ·rw[hg] at hv;cases hv;exact⟨_,by rw[B7,hf],hq⟩
  ·rw[hg] at hv;cases hv;exact⟨_,by rw[B7,hf],hq⟩
end
end Go.Proofs.YtkblaobhhoebaaaGreat.Abs
