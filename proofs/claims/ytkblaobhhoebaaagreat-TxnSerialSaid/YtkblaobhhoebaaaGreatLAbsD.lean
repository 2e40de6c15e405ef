/-
  A walk over abstract states: its rules, part D.
-/
import Derived.Test.YtkblaobhhoebaaaGreatLAbsC
import Derived.ProofKit
set_option linter.unusedVariables false
set_option linter.unusedSimpArgs false
namespace Go.Proofs.YtkblaobhhoebaaaGreat.Abs
open Go.RowKit
class TB (P:Program) where
 t:Nat->Option (Bool×Nat)
 tok:∀ {T a s},t T=some (a,s)->TI P T a s
 z:Nat->Option (List Lf)
 zok:∀ {T zl},z T=some zl->ZI P T zl
 f:Nat->Nat->Option Nat
 fok:∀ {s g o},f s g=some o->FI P s g o
 s:Nat->Option (Nat×Nat)
 sok:∀ {T e k},s T=some (e,k)->SI P T e k
 p:Nat->Option (List (Nat×Nat))
 pok:∀ {T l},p T=some l->PI P T l
def Axp (P:Program) (T:Nat) (a:Bool) (s:Nat):Bool:=match P.underlying T with
 | some d=>((match d with | .struct _ | .array _ _=>true | _=>false)==a)&&(match (P.info? T).map (·.size) with | some k=>Nat.beq k s | none=>false)
 | none=>false
theorem Ayo {P:Program} {T s:Nat} {a:Bool} (h:Axp P T a s=true):TI P T a s:=by
 unfold Axp at h
 split at h
 ·rename_i d hd
  rw[zS] at h
  refine⟨⟨d,hd,by have h1:=h.1;revert h1;cases d <;> cases a <;> simp⟩,?_⟩
  have h2:=h.2
  split at h2
  ·rename_i k hk;rw[hk,xH h2]
  ·cases h2
 ·cases h
def Axj (P:Program) (s f o:Nat):Bool:=match P.underlying s with
 | some (.struct fs)=>match fs[f]? with
  | some fld=>Nat.beq fld.offset o&&(match (P.info? fld.type).map (·.size) with | some k=>Nat.ble 1 k | none=>false)
  | none=>false
 | _=>false
theorem Ayq {P:Program} {s f o:Nat} (h:Axj P s f o=true):FI P s f o:=by
 unfold Axj at h
 split at h
 ·rename_i fs hs
  split at h
  ·rename_i fld hf
   rw[zS] at h
   have h2:=h.2
   split at h2
   ·rename_i k hk
    exact⟨⟨fs,fld,k,hs,hf,xH h.1,hk,by have:=wH h2;omega⟩⟩
   ·cases h2
  ·cases h
 ·cases h
def Axr (P:Program) (T e k:Nat):Bool:=match P.underlying T with
 | some (.slice e')=>Nat.beq e' e&&(match (P.info? e).map (·.size) with | some k'=>Nat.beq k' k&&Nat.ble 1 k | none=>false)
 | _=>false
theorem Ay1 {P:Program} {T e k:Nat} (h:Axr P T e k=true):SI P T e k:=by
 unfold Axr at h
 split at h
 ·rename_i e' hs
  rw[zS] at h
  have h2:=h.2
  split at h2
  ·rename_i k' hk
   rw[zS] at h2
   exact⟨by rw[hs,xH h.1],by rw[hk,xH h2.1],wH h2.2⟩
  ·cases h2
 ·cases h
def Axs (P:Program) (T:Nat) (pl:List (Nat×Nat)):Bool:=match P.underlying T with
 | some (.struct fs)=>Nat.beq fs.size pl.length&&((List.range pl.length).all λj=>match fs[j]?,pl[j]? with | some f,some q=>f.offset==q.1&&((P.info? f.type).map (·.size)==some q.2) | _,_=>false)
 | _=>false
theorem Av8 {P:Program} {T:Nat} {pl:List (Nat×Nat)} (h:Axs P T pl=true):PI P T pl:=by
 unfold Axs at h
 split at h
 ·rename_i fs hs
  rw[zS] at h
  exact Agz hs (xH h.1) h.2
 ·cases h
structure ZE (P:Program) where
 T:Nat
 l:List Lf
 h:ZI P T l
abbrev zy {P:Program} (T:Nat) (l:List Lf) (h:ZI P T l:=by exact Ac1 (by kernel_rfl)):ZE P:=⟨T,l,h⟩
section
variable {P:Program}
def lkT:List (Nat×Bool×Nat)->Nat->Option (Bool×Nat)
 | [],_=>none
 | x::l,T=>cond (Nat.beq x.1 T) (some x.2) (lkT l T)
def lkZ:List (ZE P)->Nat->Option (List Lf)
 | [],_=>none
 | x::l,T=>cond (Nat.beq x.T T) (some x.l) (lkZ l T)
def lkP:List (Nat×List (Nat×Nat))->Nat->Option (List (Nat×Nat))
 | [],_=>none
 | x::l,T=>cond (Nat.beq x.1 T) (some x.2) (lkP l T)
theorem Art {T:Nat} {k:List (Nat×Nat)}:∀ {l:List (Nat×List (Nat×Nat))},(l.all λx=>Axs P x.1 x.2)=true->lkP l T=some k->PI P T k
 | x::l,c,h=>by
  unfold lkP at h
  rw[jB,zS] at c
  cases e1:Nat.beq x.1 T with
  | true =>
   rw[e1] at h
   have h:some x.2=some k:=h
   have h2:=Av8 c.1
   rw[zD h,xH e1] at h2
   exact h2
  | false=>rw[e1] at h;exact Art c.2 h
def lkF:List (Nat×Nat×Nat)->Nat->Nat->Option Nat
 | [],_,_=>none
 | x::l,T,f=>cond (Nat.beq x.1 T) (cond (Nat.beq x.2.1 f) (some x.2.2) (lkF l T f)) (lkF l T f)
def lkS:List (Nat×Nat×Nat)->Nat->Option (Nat×Nat)
 | [],_=>none
 | x::l,T=>cond (Nat.beq x.1 T) (some x.2) (lkS l T)
theorem Arr {T s:Nat} {a:Bool}:∀ {l:List (Nat×Bool×Nat)},(l.all λx=>Axp P x.1 x.2.1 x.2.2)=true->lkT l T=some (a,s)->TI P T a s
 | x::l,c,h=>by
  unfold lkT at h
  rw[jB,zS] at c
  cases e:Nat.beq x.1 T with
  | true =>
   rw[e] at h
   have h:some x.2=some (a,s):=h
   have h2:=Ayo c.1
   rw[zD h,xH e] at h2
   exact h2
  | false=>rw[e] at h;exact Arr c.2 h
theorem Aqt {T:Nat} {zl:List Lf}:∀ {l:List (ZE P)},lkZ l T=some zl->ZI P T zl
 | x::l,h=>by
  unfold lkZ at h
  cases e:Nat.beq x.T T with
  | true=>rw[e] at h;cases h;rw[<- xH e];exact x.h
  | false=>rw[e] at h;exact Aqt h
theorem Ani {T f o:Nat}:∀ {l:List (Nat×Nat×Nat)},(l.all λx=>Axj P x.1 x.2.1 x.2.2)=true->lkF l T f=some o->FI P T f o
 | x::l,c,h=>by
  unfold lkF at h
  rw[jB,zS] at c
  cases e:Nat.beq x.1 T with
  | true =>
   rw[e] at h
   cases e2:Nat.beq x.2.1 f with
   | true =>
    rw[e2] at h
    have h:some x.2.2=some o:=h
    have h2:=Ayq c.1
    rw[zD h,xH e,xH e2] at h2
    exact h2
   | false=>rw[e2] at h;exact Ani c.2 h
  | false=>rw[e] at h;exact Ani c.2 h
theorem Are {T e k:Nat}:∀ {l:List (Nat×Nat×Nat)},(l.all λx=>Axr P x.1 x.2.1 x.2.2)=true->lkS l T=some (e,k)->SI P T e k
 | x::l,c,h=>by
  unfold lkS at h
  rw[jB,zS] at c
  cases e1:Nat.beq x.1 T with
  | true =>
   rw[e1] at h
   have h:some x.2=some (e,k):=h
   have h2:=Ay1 c.1
   rw[zD h,xH e1] at h2
   exact h2
  | false=>rw[e1] at h;exact Are c.2 h
abbrev TB.of (lt:List (Nat×Bool×Nat)) (lz:List (ZE P)) (lf ls:List (Nat×Nat×Nat)) (lp:List (Nat×List (Nat×Nat))) (h1:(lt.all λx=>Axp P x.1 x.2.1 x.2.2)=true) (h2:(lf.all λx=>Axj P x.1 x.2.1 x.2.2)=true) (h3:(ls.all λx=>Axr P x.1 x.2.1 x.2.2)=true) (h4:(lp.all λx=>Axs P x.1 x.2)=true):TB P:=⟨lkT lt,Arr h1,lkZ lz,Aqt,lkF lf,Ani h2,lkS ls,Are h3,lkP lp,Art h4⟩
end
def Ax5:BinOp->Int->Int->Option Lf
 | .add,n,m=>some (.i .i64 (IntKind.wrap .i64 (n+m)))
 | .sub,n,m=>some (.i .i64 (IntKind.wrap .i64 (n-m)))
 | .lss,n,m=>some (.b (decide (n<m)))
 | .leq,n,m=>some (.b (decide (n<=m)))
 | .gtr,n,m=>some (.b (decide (m<n)))
 | .geq,n,m=>some (.b (decide (m<=n)))
 | .eql,n,m=>some (.b (decide (n=m)))
 | .neq,n,m=>some (.b (!decide (n=m)))
 | _,_,_=>none
theorem Asb {P:Program} {c:Ctx} {st:AS} {o:BinOp} {xt yt ty:TypeId} {x y:Operand} {n m:Int} {v:Lf} (hx:B2 st x=.s (.one (.i .i64 n))) (hy:B2 st y=.s (.one (.i .i64 m))) (h:Ax5 o n m=some v):OpV P c st (.binOp o xt x y yt) ty (.s (.one v)):=by
 cases o <;> first
  | (cases h;first | exact Agr hx hy | exact Anu hx hy | exact Afo hx hy | exact Xr hx hy | exact Ago hx hy | exact Afk hx hy | exact Nb hx hy | exact Ac3 hx hy)
  | (unfold Ax5 at h;cases h)
def prE (st:AS):List (Nat×Operand)->Option (List (Nat×SV))
 | []=>some []
 | (i,o)::os=>match B2 st o with
  | .s x=>match prE st os with
   | some r=>some ((i,x)::r)
   | none=>none
  | _=>none
theorem Aq5 {st:AS}:∀ {os:List (Nat×Operand)} {xs:List (Nat×SV)},prE st os=some xs->Yy st os xs
 | [],xs,h=>by cases h;exact Dh
 | (i,o)::os,xs,h=>by
  unfold prE at h
  split at h
  ·rename_i hx
   split at h
   ·rename_i hr;cases h;exact Bo hx (Aq5 hr)
   ·cases h
  ·cases h
def buE (pl:List (Nat×Nat)):List Lf->List (Nat×SV)->Option (List Lf)
 | cs,[]=>some cs
 | cs,(i,x)::rest=>match pl[i]? with
  | some (off,s)=>match Nat.beq x.cells.length s with
   | true=>match Nat.ble (off+s) cs.length with
    | true=>buE pl (Ky cs off x.cells) rest
    | false=>none
   | false=>none
  | none=>none
theorem Aq0 {pl:List (Nat×Nat)}:∀ {xs:List (Nat×SV)} {cs out:List Lf},buE pl cs xs=some out->Wj (λi:Nat=>pl[i]?) cs xs out
 | [],cs,out,h=>by
  unfold buE at h
  cases h;exact .nil _
 | (i,x)::rest,cs,out,h=>by
  unfold buE at h
  split at h
  ·rename_i hp
   split at h
   ·rename_i hl
    split at h
    ·rename_i hb;exact .cons _ _ _ _ _ _ _ hp (xH hl) (wH hb) (Aq0 h)
    ·cases h
   ·cases h
  ·cases h
variable {P:Program} [TB P] {c:Ctx}
variable (P) in
def evW (st:AS):Op->Option AV
 | .move x=>match B2 st x with
  | .s v=>some (.s v)
  | .tup xs=>some (.tup xs)
  | .top=>none
 | .assign x=>match B2 st x with
  | .s v=>some (.s v)
  | _=>none
 | .pick b x y=>match B2 st b with
  | .s (.one (.b true))=>match B2 st x with
   | .s v=>some (.s v)
   | _=>none
  | .s (.one (.b false))=>match B2 st y with
   | .s v=>some (.s v)
   | _=>none
  | _=>none
 | .binOp o _ x y _=>match B2 st x with
  | .s (.one (.i .i64 n))=>match B2 st y with
   | .s (.one (.i .i64 m))=>(Ax5 o n m).map (λv=>.s (.one v))
   | _=>none
  | _=>none
 | .unOp .not _ x=>match B2 st x with
  | .s (.one (.b p))=>some (.s (.one (.b (!p))))
  | _=>none
 | .extract x ix=>match B2 st x with
  | .tup xs=>match xs[ix]? with
   | some y=>some (.s y)
   | none=>none
  | _=>none
 | .fieldAddr s x f=>match B2 st x with
  | .s (.one (.lp p o))=>match TB.f P s f with
   | some off=>some (.s (.one (.lp p (o+off))))
   | none=>none
  | _=>none
 | .load T x=>match B2 st x with
  | .s (.one (.lp p off))=>match st.m[p]? with
   | some (.box cs)=>match TB.t P T with
    | some (true,sz)=>match Nat.ble sz (cs.drop off).length with
     | true=>some (.s (.agg ((cs.drop off).take sz)))
     | false=>none
    | some (false,1)=>match (cs.drop off)[0]? with
     | some y=>some (.s (.one y))
     | none=>none
    | _=>none
   | _=>none
  | .s (.one (.cp cs))=>match TB.t P T with
   | some (false,1)=>match cs[0]? with
    | some y=>some (.s (.one y))
    | none=>none
   | _=>none
  | _=>none
 | .build T ps=>match prE st ps.toList with
  | some xs=>match TB.z P T with
   | some zl=>match TB.p P T with
    | some pl=>match buE pl zl xs with
     | some out=>some (.s (.agg out))
     | none=>none
    | none=>none
   | none=>none
  | none=>none
 | .call ⟨.builtin .len,⟨[x]⟩,⟨[T]⟩⟩=>match B2 st x with
  | .s (.one (.sl n _))=>match TB.s P T with
   | some _=>some (.s (.one (.i .i64 n)))
   | none=>none
  | _=>none
 | _=>none
theorem Au2 {st:AS} {op:Op} {ty:TypeId} {v:AV} (h:evW P st op=some v):OpV P c st op ty v:=by
 unfold evW at h
 split at h
 ·split at h
  ·rename_i hx;cases h;exact Bj hx
  ·rename_i hx;cases h;exact Wf hx
  ·cases h
 ·split at h
  ·rename_i hx;cases h;exact Hh hx
  ·cases h
 ·split at h
  ·rename_i hb
   split at h
   ·rename_i hx;cases h;exact Cp hb hx
   ·cases h
  ·rename_i hb
   split at h
   ·rename_i hx;cases h;exact Cn hb hx
   ·cases h
  ·cases h
 ·split at h
  ·rename_i hx
   split at h
   ·rename_i hy
    rw[Option.map_eq_some_iff] at h
    obtain⟨w,hw,rfl⟩:=h
    exact Asb hx hy hw
   ·cases h
  ·cases h
 ·split at h
  ·rename_i hx;cases h;exact S7 hx
  ·cases h
 ·split at h
  ·rename_i hx
   split at h
   ·rename_i hy;cases h;exact Ei hx hy
   ·cases h
  ·cases h
 ·split at h
  ·rename_i hx
   split at h
   ·rename_i hf;cases h;exact Ah (TB.fok hf) hx
   ·cases h
  ·cases h
 ·split at h
  ·rename_i hx
   split at h
   ·rename_i hm
    split at h
    ·rename_i ht
     split at h
     ·rename_i hy;cases h;exact lo (TB.tok ht) hx hm hy
     ·cases h
    ·rename_i ht
     split at h
     ·rename_i hy;cases h;exact l1 (TB.tok ht) hx hm hy
     ·cases h
    ·cases h
   ·cases h
  ·rename_i hx
   split at h
   ·rename_i ht
    split at h
    ·rename_i hy;cases h;exact C5 (TB.tok ht) hx (.cp _) hy
    ·cases h
   ·cases h
  ·cases h
 ·split at h
  ·rename_i hx
   split at h
   ·rename_i hz
    split at h
    ·rename_i hp
     split at h
     ·rename_i hb;cases h;exact O4 (TB.zok hz) (TB.pok hp) (Aq5 hx) (Aq0 hb)
     ·cases h
    ·cases h
   ·cases h
  ·cases h
 ·split at h
  ·rename_i hx
   split at h
   ·rename_i hs;cases h;exact Mn (TB.sok hs) hx
   ·cases h
  ·cases h
 ·cases h
variable (P) in
def exW (nt:Nat) (t:Nat->AV) (m:List Blk):Option Tmp->Op->Option ((Nat->AV)×List Blk)
 | some d,op=>match decide (d<nt) with
  | true=>match op with
   | .alloc T=>match TB.z P T with
    | some zl=>some (upd t d (.s (.one (.lp m.length 0))),m++[.box zl])
    | none=>none
   | .box _ y=>match B2 ⟨t,m⟩ y with
    | .s x=>some (upd t d (.s (.one (.lp m.length 0))),m++[.box x.cells])
    | _=>none
   | op=>match evW P ⟨t,m⟩ op with
    | some v=>some (upd t d v,m)
    | none=>none
  | false=>none
 | none,.store T x y=>match TB.t P T with
  | some (_,sz)=>match B2 ⟨t,m⟩ x with
   | .s (.one (.lp p off))=>match B2 ⟨t,m⟩ y with
    | .s v=>match m[p]? with
     | some (.box cs)=>match Nat.beq v.cells.length sz with
      | true=>match Nat.ble (off+sz) cs.length with
       | true=>some (t,m.set p (.box (Ky cs off v.cells)))
       | false=>none
      | false=>none
     | _=>none
    | _=>none
   | _=>none
  | none=>none
 | _,_=>none
theorem Aro {t t':Nat->AV} {m m':List Blk} {ops:Array Oper} {Q:Exit->AS->Prop} {rest:List Oper} {dst:Option Tmp} {op:Op} {ty:TypeId} {pos:String} {af:Array Edge} (h:exW P c.nt t m dst op=some (t',m')) (k:AWL P c ops Q rest ⟨t',m'⟩):AWL P c ops Q (⟨dst,op,ty,pos,af,none⟩::rest) ⟨t,m⟩:=by
 unfold exW at h
 split at h
 ·rename_i d op
  split at h
  ·rename_i hd
   split at h
   ·split at h
    ·rename_i hz;cases h;exact Aw8 hd (TB.zok hz) k
    ·cases h
   ·split at h
    ·rename_i hx;cases h;exact Azb hd hx k
    ·cases h
   ·split at h
    ·rename_i hv;cases h;exact sv hd (Au2 hv) k
    ·cases h
  ·cases h
 ·split at h
  ·rename_i ht
   split at h
   ·rename_i hx
    split at h
    ·rename_i hy
     split at h
     ·rename_i hm
      split at h
      ·rename_i hl
       split at h
       ·rename_i hb;cases h;exact sst (TB.tok ht).i hx hy hm (xH hl) hb k
       ·cases h
      ·cases h
     ·cases h
    ·cases h
   ·cases h
  ·cases h
 ·cases h
variable (P) in
def ruW (nt:Nat) (ops:Array Oper):Nat->List Oper->(Nat->AV)->List Blk->Option (List Oper×(Nat->AV)×List Blk)
 | 0,l,t,m=>some (l,t,m)
 | n+1,l,t,m=>match l with
  | []=>none
  | o::rest=>match o with
   | ⟨dst,op,_,_,_,none⟩=>match exW P nt t m dst op with
    | some (t',m')=>ruW nt ops n rest t' m'
    | none=>none
   | ⟨dst,op,_,_,_,some (j,want)⟩=>match (ops[j]?).bind (·.dst) with
    | some dj=>match t dj with
     | .s (.one (.b b))=>match b==want with
      | false=>match dst with
       | some d=>match decide (d<nt) with
        | true=>ruW nt ops n rest (upd t d (.tup [])) m
        | false=>none
       | none=>ruW nt ops n rest t m
      | true=>match decide (dj<nt) with
       | true=>match exW P nt t m dst op with
        | some (t',m')=>ruW nt ops n rest t' m'
        | none=>none
       | false=>none
     | .tup []=>match dst with
      | some d=>match decide (d<nt) with
       | true=>ruW nt ops n rest (upd t d (.tup [])) m
       | false=>none
      | none=>ruW nt ops n rest t m
     | _=>none
    | none=>none
theorem rx {ops:Array Oper} {Q:Exit->AS->Prop} (n:Nat) {l l':List Oper} {t t':Nat->AV} {m m':List Blk} (h:ruW P c.nt ops n l t m=some (l',t',m')) (k:AWL P c ops Q l' ⟨t',m'⟩):AWL P c ops Q l ⟨t,m⟩:=by
 induction n generalizing l t m with
 | zero=>cases h;exact k
 | succ n ih =>
  unfold ruW at h
  split at h
  ·cases h
  split at h
  ·split at h
   ·rename_i hv;exact Aro hv (ih h)
   ·cases h
  ·rename_i dst op ty pos af j want
   split at h
   ·rename_i dj hj
    split at h
    ·rename_i b ht
     split at h
     ·rename_i hb
      split at h
      ·split at h
       ·rename_i hd;exact Ay7 hd hj ht hb (ih h)
       ·cases h
      ·exact Ay3 hj ht hb (ih h)
     ·rename_i hb
      have hb:b=want:=by simpa using hb
      subst hb
      split at h
      ·rename_i hn
       split at h
       ·rename_i hv;exact son hn hj ht (Aro hv (ih h))
       ·cases h
      ·cases h
    ·rename_i ht
     split at h
     ·split at h
      ·rename_i hd;exact Ayi hd hj ht (ih h)
      ·cases h
     ·exact Av2 hj ht (ih h)
    ·cases h
   ·cases h
def opE (st:AS):List Operand->Option (List SV)
 | []=>some []
 | o::os=>match B2 st o with
  | .s x=>match opE st os with
   | some r=>some (x::r)
   | none=>none
  | _=>none
theorem An2 {st:AS}:∀ {os:List Operand} {xs:List SV},opE st os=some xs->Xi st os xs
 | [],xs,h=>by cases h;exact A2
 | o::os,xs,h=>by
  unfold opE at h
  split at h
  ·rename_i hx
   split at h
   ·rename_i hr;cases h;exact Af hx (An2 hr)
   ·cases h
  ·cases h
variable (P) in
def reE (st:AS):List ResultVar->Option (List SV)
 | []=>some []
 | .tmp t::vs=>match st.t t with
  | .s x=>match reE st vs with
   | some r=>some (x::r)
   | none=>none
  | _=>none
 | .cell t ty::vs=>match st.t t with
  | .s (.one (.lp p off))=>match st.m[p]? with
   | some (.box cs)=>match TB.t P ty with
    | some (true,sz)=>match Nat.ble sz (cs.drop off).length with
     | true=>match reE st vs with
      | some r=>some (.agg ((cs.drop off).take sz)::r)
      | none=>none
     | false=>none
    | some (false,1)=>match (cs.drop off)[0]? with
     | some y=>match reE st vs with
      | some r=>some (.one y::r)
      | none=>none
     | none=>none
    | _=>none
   | _=>none
  | _=>none
theorem Aid {st:AS}:∀ {vs:List ResultVar} {xs:List SV},reE P st vs=some xs->Aah P st vs xs
 | [],xs,h=>by cases h;exact A4
 | .tmp t::vs,xs,h=>by
  unfold reE at h
  split at h
  ·rename_i hx
   split at h
   ·rename_i hr;cases h;exact Au (.tmp _ _ hx) (Aid hr)
   ·cases h
  ·cases h
 | .cell t ty::vs,xs,h=>by
  unfold reE at h
  split at h
  ·rename_i hx
   split at h
   ·rename_i hm
    split at h
    ·rename_i ht
     split at h
     ·rename_i hy
      split at h
      ·rename_i hr;cases h;exact Au (ra (TB.tok ht) hx hm hy) (Aid hr)
      ·cases h
     ·cases h
    ·rename_i ht
     split at h
     ·rename_i hy
      split at h
      ·rename_i hr;cases h;exact Au (.one _ _ _ _ _ (TB.tok ht) hx (.lp _ _ _ hm) hy) (Aid hr)
      ·cases h
     ·cases h
    ·cases h
   ·cases h
  ·cases h
theorem dE {fn:Func} {R':AV->Prop} {st:AS} {xs ys:List SV} {m':List Blk} (hr:reE P st fn.results.toList=some xs) (hp:W6 st.m xs ys m') (h:R' (Acn ys)):Asw P fn R' .ret st:=⟨Or.inr rfl,xs,ys,m',Aid hr,hp,h⟩
def Ava (P:Program) (f:Nat):Bool:=match P.funcs[f]? with
 | some fn => (!(fn.name == "runtime.NumGoroutine")) && !fn.body.isNone
 | none=>false
class FB (P:Program) where
 l:List Nat
 ok:(l.all λf=>Ava P f)=true
theorem fk {P:Program} [FB P] {f:Nat} (h:(FB.l P).elem f=true):FnI P f:=by
 have:=zL.1 (FB.ok (P:=P)) f (List.elem_iff.1 h)
 unfold Ava at this
 split at this
 ·rename_i fn hf
  rw[zS,xS,xS] at this
  exact⟨⟨fn,hf,this.1,this.2⟩⟩
 ·cases this
section
variable {P:Program} [FB P] {c:Ctx} {t:Nat->AV} {m:List Blk} {ops:Array Oper} {Q:Exit->AS->Prop} {rest:List Oper} {ty:TypeId} {pos:String} {af:Array Edge} {d:Tmp}
theorem scE {f:FuncId} {args:Array Operand} {ats:Array TypeId} {xs ys:List SV} {m':List Blk} {r:AV} (hd:(decide (d<c.nt)&&(FB.l P).elem f)=true) (ho:opE ⟨t,m⟩ args.toList=some xs) (hp:W6 m xs ys m') (hc:A6 P f ys (·=r))
  (k:AWL P c ops Q rest ⟨upd t d r,m'⟩):AWL P c ops Q (⟨some d,.call { callee:=.value (.func f),args:=args,argTypes:=ats },ty,pos,af,none⟩::rest) ⟨t,m⟩:=by
 rw[zS] at hd
 exact Amw hd.1 (fk hd.2) (An2 ho) hp hc k
theorem scI {f:FuncId} {args:Array Operand} {ats:Array TypeId} {xs:List SV} {r:AV} (ho:opE ⟨t,m⟩ args.toList=some xs) (hd:(decide (d<c.nt)&&(FB.l P).elem f&&xs.all (λx=>x.cells.all Lf.pubd))=true) (hc:A6 P f xs (·=r))
  (k:AWL P c ops Q rest ⟨upd t d r,m⟩):AWL P c ops Q (⟨some d,.call { callee:=.value (.func f),args:=args,argTypes:=ats },ty,pos,af,none⟩::rest) ⟨t,m⟩:=by
 rw[zS,zS] at hd
 exact Amw hd.1.1 (fk hd.1.2) (An2 ho) (Bq hd.2) hc k
end
def mtL (t:Nat->AV):List (Nat×AV)->List AV
 | []=>[]
 | p::l=>t p.1::mtL t l
def msL:List (Nat×AV)->List AV
 | []=>[]
 | p::l=>p.2::msL l
theorem ml {t:Nat->AV}:∀ {l:List (Nat×AV)},mtL t l=msL l->Nm t l
 | [],_=>trivial
 | (i,x)::l,h=>by
  obtain⟨h1,h2⟩:=List.cons.inj h
  exact⟨h1,ml h2⟩
theorem fls {α:Type} {f:α->List Lf} {sz:Nat} {xs:List α} (hf:∀ x,(f x).length=sz):xs.length*sz=(xs.flatMap f).length:=(Aq hf xs).symm
theorem pb {p:Prop} (h:p:=by repeat' first|exact W6.nil _|apply W6.cons|apply Xk.one|apply Xk.agg|exact Oe.nil|exact Oe.ls _ _ _ _ _ _ R (fls λ_=>R)|exact Oe.id _ R|exact Qe.nil _|apply Qe.cons):p:=h
theorem omg {p:Prop} (h:p:=by omega):p:=h
theorem dcd {p:Prop} (h:p:=by decide):p:=h
theorem krf {p:Prop} (h:p:=by kernel_rfl):p:=h
theorem smp {p:Prop} (h:p:=by simp):p:=h
theorem ifo {p:Prop} [Decidable p] {α:Sort _} {a b:α} (h:p:=by omega):(if decide p=true then a else b)=a:=if_pos (decide_eq_true h)
theorem ifp {p:Prop} [Decidable p] {α:Sort _} {a b:α} (h:p):(if decide p=true then a else b)=a:=if_pos (decide_eq_true h)
theorem ifq {p:Prop} [Decidable p] {α:Sort _} {a b:α} (h:¬ p:=by omega):(if decide p=true then a else b)=b:=if_neg (by rw[decide_eq_true_eq];exact h)
theorem ifn {p:Prop} [Decidable p] {α:Sort _} {a b:α} (h:¬ p):(if decide p=true then a else b)=b:=if_neg (by rw[decide_eq_true_eq];exact h)
theorem wIo {n:Int} (h:-9223372036854775808<=n:=by omega) (k:n<=9223372036854775807:=by omega):wI n=n:=X3 h k
theorem lx {α:Type} {sl:Nat×α->List (Nat×AV)} {mm:Nat×α->List Blk} {pre:Nat×α->Prop} {st:AS} {n:Nat} (g':Nat×α) {ex:List Blk} (h1:pre g') (h2:mtL st.t (sl g')=msL (sl g')) (h3:st.m=mm g'++ex) (h4:n=g'.1+1:=by rfl):∃ g' ex',pre g'/\Nm st.t (sl g')/\st.m=mm g'++ex'/\g'.1<n :=
 ⟨g',ex,h1,ml h2,h3,by omega⟩
section
variable {P:Program} {c:Ctx} {t t':Nat->AV} {m m':List Blk} {ops:Array Oper} {Q:Exit->AS->Prop} {n a b:AS->Prop} {id i j:Nat} {l:List Oper} {y z:Code} {st:AS}
theorem crs [TB P] (h:ruW P c.nt l.toArray l.length l t m=some ([],t',m')) (k:AWC P c y Q ⟨t',m'⟩):AWC P c (.seq (.region id l.toArray false) y) Q ⟨t,m⟩:=csr (rx _ h (Oy k))
theorem cgs [TB P] (h:ruW P c.nt l.toArray l.length l t m=some ([],t',m')) (k:n ⟨t',m'⟩):AWC P c (.region id l.toArray false) (Gh n Q) ⟨t,m⟩:=Bg (rx _ h (Oy k))
theorem rsn [TB P] (h:ruW P c.nt ops l.length l t m=some ([],t',m')) (k:n ⟨t',m'⟩):AWL P c ops (Gh n Q) l ⟨t,m⟩:=rx _ h (Oy k)
theorem cx5 (h:n ⟨t,m⟩):AWC P c (.exit id) (Gh a (Gh b (Em id (Gh n Q)))) ⟨t,m⟩:=Tm (Cw (Cw (Ez (Ag h))))
theorem csn (h:n ⟨t,m⟩):AWC P c .skip (Gh n Q) ⟨t,m⟩:=Vu (Ag h)
theorem cbn (h:n ⟨t,m⟩):AWC P c .skip (Em id (Gh n Q)) ⟨t,m⟩:=Vu (A0 (Ag h))
theorem csb (h:AWL P c l.toArray (Gh (AWC P c y (Em id (Gh (AWC P c z Q) Q))) (Em id (Gh (AWC P c z Q) Q))) l ⟨t,m⟩):AWC P c (.seq (.block id (.seq (.region i l.toArray false) y)) z) Q ⟨t,m⟩:=Bb (Bh (Bb (Bg h)))
theorem br2 (h:Q .ret st):Em id (Gh n Q) .ret st:=D5 (Oi h)
theorem br3 (h:Q .ret st):Em id (Gh n (Gh a Q)) .ret st:=D5 (Oi (Oi h))
theorem br5 (h:Q .ret st):Em i (Gh n (Gh a (Em j (Gh b Q)))) .ret st:=D5 (Oi (Oi (D5 (Oi h))))
theorem crt (h:Q .ret ⟨t,m⟩):AWC P c .ret (Gh n Q) ⟨t,m⟩:=Bn (Oi h)
end
theorem fR {α:Sort _} {p:α->Prop} (h:∀ x,p x:=by intro _;exact R):∀ x,p x:=h
theorem lpn {P:Program} {c:Ctx} {Q:Exit->AS->Prop} {st:AS} {body:Code} {α:Type} (sl:Nat×α->List (Nat×AV)) (mm:Nat×α->List Blk) (pre:Nat×α->Prop) (g0:Nat×α) (p0:pre g0) (s0:mtL st.t (sl g0)=msL (sl g0)) (m0:st.m=mm g0++[]) (hb:∀ g,cjB c.m0.length (sl g) (mm g)=true)
  (round:∀ g,pre g->AWC P c body (Gh (λst'=>∃ g' ex',pre g'/\Nm st'.t (sl g')/\st'.m=mm g'++ex'/\g'.1<g.1) Q) ⟨Zf (λ_=>.top) (sl g),mm g⟩):AWC P c (.loop body) Q st :=
 lpo sl mm pre (λg=>g.1) g0 p0 (ml s0) [] m0 hb round
open Go.RowKit
structure Fam where
 g:Nat
 e:Nat
 sz:Nat
 cap:Nat
 cs:List Lf
structure Af7 (b:Nat) (w:World) (S:Bz) (f:Fam):Prop where
 lo:b<=f.g
 blk:∃ cur,w.heap[f.g]? = some (.cells cur f.e (0,0))/\cur.size=f.cap*f.sz/\LsP (Rep w S) f.cs cur.toList
 cap:f.cap<=maxLen
 st:∀ j,¬ S f.g j
structure Y5 (c:Ctx) (st:AS) (a:Act) (w:World) (S:Bz) (H:Nat->Value) (Φ:List Fam):Prop where
 r:Rel c st a w S H
 ok:∀ f∈Φ,Af7 c.w0.heap.size w S f/\¬ Akb st.m H f.g
 nd:(Φ.map Fam.g).Nodup
theorem Af7.lt {b:Nat} {w:World} {S:Bz} {f:Fam} (h:Af7 b w S f):f.g<w.heap.size:=by
 obtain⟨cur,h1,_⟩:=h.blk
 exact(yA.1 h1).1
theorem Rel.keep {c:Ctx} {st st':AS} {a':Act} {w w':World} {S S':Bz} {H H':Nat->Value} (r':Rel (c.now st w S H) st' a' w' S' H') {l:Lf} {v:Value} (h:Rep w S l v):Rep w' S' l v :=
 Rep.mono (λb i hs=>⟨r'.ex.sub b i hs,r'.ex.stab b i hs⟩) h
theorem Af7.now {c:Ctx} {st st':AS} {a':Act} {w w':World} {S S':Bz} {H H':Nat->Value} (r':Rel (c.now st w S H) st' a' w' S' H') {b:Nat} {f:Fam} (h:Af7 b w S f) (ho:¬ Akb st.m H f.g) :
  Af7 b w' S' f/\¬ Akb st'.m H' f.g:=by
 obtain⟨cur,h1,h2,h3⟩:=h.blk
 have hlt:=h.lt
 refine⟨⟨h.lo,⟨cur,(r'.ex.blk f.g hlt ho).trans h1,h2,h3.mono λl v=>r'.keep⟩,h.cap,λj hs=>h.st j (r'.ex.back f.g j hlt ho hs)⟩,λ⟨p,bb,k1,k2⟩=>?_⟩
 rcases(r'.lo p bb f.g k1 k2).1 with k|k
 ·exact absurd hlt (Nat.not_lt.2 k)
 ·exact ho k
theorem Y5.then_now {c:Ctx} {st st':AS} {a a':Act} {w w':World} {S S':Bz} {H H':Nat->Value} {Φ:List Fam} (r:Y5 c st a w S H Φ) (r':Rel (c.now st w S H) st' a' w' S' H'):Y5 c st' a' w' S' H' Φ :=
 ⟨r.r.then_now r',λf hf=>Af7.now r' (r.ok f hf).1 (r.ok f hf).2,r.nd⟩
def QJ (c:Ctx) (Q:Exit->AS->List Fam->Prop):Exit->Act->World->Prop:=λe a w=>∃ st S H Φ,Y5 c st a w S H Φ/\Q e st Φ
def AWJ (P:Program) (c:Ctx) (x:Code) (Q:Exit->AS->List Fam->Prop) (st:AS) (Φ:List Fam):Prop :=
 ∀ a w S H,Y5 c st a w S H Φ->x.wp P (QJ c Q) a w
section
variable {P:Program} {c:Ctx} {Q:Exit->AS->List Fam->Prop} {Φ:List Fam}
theorem Aau {x:Code} {t:Nat->AV} {m:List Blk} (h:∀ w0 S0 X H0,AWC P ⟨w0,S0,c.nt,X,m,H0⟩ x (λe st'=>Q e st' Φ) ⟨t,m⟩):AWJ P c x Q ⟨t,m⟩ Φ:=λa w S H r =>
 wp_mono (h w S _ H a w S H r.r.now) λ_ _ _ ⟨st',S',H',r',hq⟩=>⟨st',S',H',Φ,r.then_now r',hq⟩
def Acp (n:AS->List Fam->Prop) (Q:Exit->AS->List Fam->Prop):Exit->AS->List Fam->Prop
 | .normal,st,Φ=>n st Φ
 | e,st,Φ=>Q e st Φ
theorem Aco {x y:Code} {st:AS} (h:AWJ P c x (Acp (AWJ P c y Q) Q) st Φ):AWJ P c (.seq x y) Q st Φ:=λa w S H r =>
 wp_seq (wp_mono (h a w S H r) λe a w ⟨st,S,H,Φ,r,hq⟩=>by
  cases e with
  | normal=>exact hq a w S H r
  | _=>exact⟨st,S,H,Φ,r,hq⟩)
def Zd (id:Nat) (Q:Exit->AS->List Fam->Prop):Exit->AS->List Fam->Prop
 | .exit id',st,Φ=>if id'=id then Q .normal st Φ else Q (.exit id') st Φ
 | e,st,Φ=>Q e st Φ
theorem Anx {id:Nat} {x:Code} {st:AS} (h:AWJ P c x (Zd id Q) st Φ):AWJ P c (.block id x) Q st Φ:=λa w S H r=>by
 refine wp_block (wp_mono (h a w S H r) ?_)
 rintro e a w ⟨st,S,H,Φ,r,hq⟩
 cases e with
 | exit id' =>
  simp only[Zd] at hq
  simp only[Exit.inBlock]
  split
  ·rename_i h;rw[if_pos h] at hq;exact⟨st,S,H,Φ,r,hq⟩
  ·rename_i h;rw[if_neg h] at hq;exact⟨st,S,H,Φ,r,hq⟩
 | _=>exact⟨st,S,H,Φ,r,hq⟩
theorem Zk {o:Operand} {x y:Code} {b:Bool} {st:AS} (ho:B2 st o=.s (.one (.b b))) (h1:b=true->AWJ P c x Q st Φ) (h0:b=false->AWJ P c y Q st Φ):AWJ P c (.cond o x y) Q st Φ:=λa w S H r=>by
 have h:=Ba r.r o
 rw[ho] at h
 have hv:a.eval o=.bool b:=Tn (h:Rep w S (.b b) (a.eval o))
 exact wp_cond_split hv (λhb=>h1 hb a w S H r) (λhb=>h0 hb a w S H r)
theorem Zj {st:AS} (h:Q .normal st Φ):AWJ P c .skip Q st Φ:=λ_ _ S H r=>wp_skip ⟨st,S,H,Φ,r,h⟩
theorem Aop {x:Code} {st:AS} {Q':Exit->AS->List Fam->Prop} (h:AWJ P c x Q st Φ) (hq:∀ e st Φ,Q e st Φ->Q' e st Φ):AWJ P c x Q' st Φ:=λa w S H r =>
 wp_mono (h a w S H r) λe _ _ ⟨st,S,H,Φ,r,q⟩=>⟨st,S,H,Φ,r,hq e st Φ q⟩
theorem Y5.trim {t:Nat->AV} {m ex:List Blk} {a:Act} {w:World} {S:Bz} {H:Nat->Value} (r:Y5 c ⟨t,m++ex⟩ a w S H Φ) {sl:List (Nat×AV)} (hs:Nm t sl) (hi:Ai7 m.length sl) (hm:∀ b∈m,b.inb m.length) (hk:c.m0.length<=m.length) :
  Y5 c ⟨Zf (λ_=>.top) sl,m⟩ a w S H Φ :=
 ⟨r.r.trim (Nx hs hi) hm hk,λf hf=>⟨(r.ok f hf).1,λ⟨p,b,h1,h2⟩=>(r.ok f hf).2 ⟨p,b,by rw[zK (zB.1 h1).1];exact h1,h2⟩⟩,r.nd⟩
theorem Aob {x:Code} {t:Nat->AV} {m ex:List Blk} (sl:List (Nat×AV)) (hs:Nm t sl) (hi:Ai7 m.length sl) (hm:∀ b∈m,b.inb m.length) (hk:c.m0.length<=m.length) (h:AWJ P c x Q ⟨Zf (λ_=>.top) sl,m⟩ Φ):AWJ P c x Q ⟨t,m++ex⟩ Φ :=
 λa w S H r=>h a w S H (r.trim hs hi hm hk)
theorem Ao4 {body:Code} {st:AS} {G:Type} (sl:G->List (Nat×AV)) (mm:G->List Blk) (fm:G->List Fam) (pre:G->Prop) (μ:G->Nat) (g0:G) (p0:pre g0) (s0:Nm st.t (sl g0)) (ex:List Blk) (m0:st.m=mm g0++ex) (f0:Φ=fm g0)
  (hin:∀ g,pre g->Ai7 (mm g).length (sl g)) (hmin:∀ g,pre g->∀ b∈mm g,b.inb (mm g).length) (hk:∀ g,pre g->c.m0.length<=(mm g).length)
  (round:∀ g,pre g->AWJ P c body (Acp (λst' Φ'=>∃ g' ex',pre g'/\Nm st'.t (sl g')/\st'.m=mm g'++ex'/\Φ'=fm g'/\μ g'<μ g) Q) ⟨Zf (λ_=>.top) (sl g),mm g⟩ (fm g)):AWJ P c (.loop body) Q st Φ:=by
 intro a w S H r
 have key:∀ n,∀ g a w S H,pre g->μ g=n->Y5 c ⟨Zf (λ_=>.top) (sl g),mm g⟩ a w S H (fm g)->∀ (b:Frame) (k:List Item) (cs:List Frame),
   ∃ e a' w',QJ c Q e a' w'/\Arrives P (lone (b.at a (.code body::.inLoop body::k)) cs w) b k cs e a' w':=by
  intro n
  induction n using Nat.strongRecOn with
  | _ n ih =>
   intro g a w S H hp hn r b k cs
   obtain⟨e,a₁,w₁,hq,harr⟩:=round g hp a w S H r b (.inLoop body::k) cs
   obtain⟨st',S',H',Φ',r',hq⟩:=hq
   cases e with
   | normal =>
    obtain⟨g',ex',hp',hs',hm',hf',hlt⟩:=hq
    have r'':Y5 c ⟨st'.t,mm g'++ex'⟩ a₁ w₁ S' H' Φ':=by rw[<- hm'];exact r'
    have rt:=r''.trim hs' (hin g' hp') (hmin g' hp') (hk g' hp')
    rw[hf'] at rt
    obtain⟨e₂,a₂,w₂,hq₂,harr₂⟩:=ih (μ g') (hn ▸ hlt) g' a₁ w₁ S' H' hp' rfl rt b k cs
    exact⟨e₂,a₂,w₂,hq₂,.of_steps (Steps.trans harr (.one step_inLoop)) harr₂⟩
   | exit id=>exact⟨_,a₁,w₁,⟨st',S',H',Φ',r',hq⟩,.pass (x:=.inLoop body) rfl (λ_ _=>.inl (by simp)) harr⟩
   | goto l=>exact⟨_,a₁,w₁,⟨st',S',H',Φ',r',hq⟩,.pass (x:=.inLoop body) rfl (λ_ _=>.inl (by simp)) harr⟩
   | ret=>exact⟨_,a₁,w₁,⟨st',S',H',Φ',r',hq⟩,.pass (x:=.inLoop body) rfl (λ_ _=>.inl (by simp)) harr⟩
   | panic ch=>exact⟨_,a₁,w₁,⟨st',S',H',Φ',r',hq⟩,.pass (x:=.inLoop body) rfl (λ_ _=>.inl (by simp)) harr⟩
   | outgrown=>exact⟨_,a₁,w₁,⟨st',S',H',Φ',r',hq⟩,.pass (x:=.inLoop body) rfl (λ_ _=>.inl (by simp)) harr⟩
 have r0:Y5 c ⟨st.t,mm g0++ex⟩ a w S H (fm g0):=by rw[<- m0,<- f0];exact r
 have rt:=r0.trim s0 (hin g0 p0) (hmin g0 p0) (hk g0 p0)
 intro b k cs
 obtain⟨e,a',w',hq,harr⟩:=key _ g0 a w S H p0 rfl rt b k cs
 exact⟨e,a',w',hq,.of_steps (.one step_loop) harr⟩
end
open Go.RowKit
theorem V0 (H:Nat->Value) (p:Nat):Mr H p (H p)=H:=by
 funext q
 by_cases h:q=p
 ·subst h;rw[Bm]
 ·rw[Bw _ _ h]
theorem Rel.kill {c:Ctx} {st:AS} {a:Act} {w:World} {S:Bz} {H:Nat->Value} (r:Rel c st a w S H) {p:Nat} (hp:p<st.m.length):Rel c ⟨st.t,st.m.set p .dead⟩ a w S H:=by
 have:=r.changeM (m':=st.m.set p .dead) (p:=p) (b':=.dead) (v:=H p) (w':=w) (S':=S) (by simp) (zI hp) (λq hq=>zM (λe=>hq e.symm)) (λb i h=>⟨h,rfl⟩) (λ_ _ _=>rfl)
  (λe sz k cs _ _ h=>by cases h) (λ_ _ _=>rfl) trivial (λg h=>by cases h) (λq b g i _ _ _ h=>h) (λg i _ _ h=>h) r.sl (zO _) rfl rfl rfl (λ_ _ h=>h)
 rwa [V0] at this
def hv (hd:Option (Nat×Nat)) (n:Nat):Value:=match hd with
 | none=>.slice none 0 0
 | some x=>.slice (some ⟨x.1,0,none⟩) n x.2
theorem Axb (hd:Option (Nat×Nat)) (n:Nat):(hv hd n).oneCell'=true:=by cases hd <;> rfl
theorem Ayt (hd:Option (Nat×Nat)) (n:Nat):hv hd n≠undef:=by cases hd <;> exact λh=>by cases h
theorem Aq4 {hd:Option (Nat×Nat)} {n g:Nat} (h:Cz (hv hd n)=some g):∃ cap,hd=some (g,cap):=by
 cases hd with
 | none=>cases h
 | some x=>exact⟨x.2,by simp [hv,Cz] at h;rw[<- h]⟩
theorem Y5.dig {c:Ctx} {t:Nat->AV} {m:List Blk} {a:Act} {w:World} {S:Bz} {H:Nat->Value} {Φ:List Fam} (r:Y5 c ⟨t,m⟩ a w S H Φ) {p e sz N:Nat} {cs:List Lf} (hm:m[p]? = some (.arr e sz 0 cs)) (hN:cs.length=N*sz) (hpos:0<N)
  {k e2 sz2 n:Nat} {hd:Option (Nat×Nat)} {acts:List Lf} (hk:cs[k]? = some (.raw (hv hd n))) (hsz2:0<sz2) (hal:acts.length=n*sz2) (h0:hd=none->n=0) {Φ1:List Fam}
  (hΦ:hd=none/\Φ1=Φ\/∃ g cap A B,hd=some (g,cap)/\Φ=A++⟨g,e2,sz2,cap,acts⟩::B/\Φ1=A++B) :
  ∃ G CAP H2,H p=.slice (some ⟨G,0,none⟩) N CAP/\Y5 c ⟨t,m.set p (.arn e sz G N CAP (cs.set k (.ls m.length n)))++[.arr e2 sz2 0 acts]⟩ a w S H2 Φ1:=by
 have hp:p<m.length:=(zB.1 hm).1
 obtain⟨hsz,_,n',vals,hown,hls,_⟩:=r.r.bl p _ hm
 have hn':n'=N:=L0 hown hsz (by rw[<- hls.1,hN])
 subst hn'
 obtain⟨G,CAP,cur,hH,_,hg,hNC,hCm,hcs,htk⟩:∃ g cap cur,H p=.slice (some ⟨g,0,none⟩) n' cap/\0<=g/\w.heap[g]? = some (.cells cur e (0,0))/\n'<=cap/\cap<=maxLen/\cur.size=cap*sz/\cur.toList.take (n'*sz)=vals:=by
  rcases hown.2 with⟨_,h⟩|h
  ·omega
  ·exact h
 have hownp:(Blk.arr e sz 0 cs).own (H p)=some G:=by rw[hH];rfl
 have hlo:=r.r.lo p _ G hm hownp
 have hst:∀ i,¬ S G i:=λi hs=>absurd (r.r.sb p _ G i hm hownp hs) (zW _)
 have hcl:cur.toList.length=CAP*sz:=by rw[zX,hcs]
 have hlen:cs.length<=cur.toList.length:=by rw[hcl,hN];exact yZ _ hNC
 have hcur:∀ (j:Nat) (v:Value),j<cs.length->cur.toList[j]? = some v->vals[j]? = some v:=λj v hj hv=>by
  rw[<- htk,yF,if_pos (by rw[<- hN];exact hj)];exact hv
 have hP1:∀ (m':List Blk) (H':Nat->Value),LsP (Bt w S m' H') cs cur.toList:=λm' H'=>⟨hlen,λj l v h1 h2=>Bt.of_rep (hls.2 j l v h1 (hcur j v (zB.1 h1).1 h2))⟩
 have r1:=r.r.changeM (m':=m.set p (.arn e sz G n' CAP cs)) (p:=p) (b':=.arn e sz G n' CAP cs) (v:=H p) (w':=w) (S':=S) (by simp) (zI hp) (λq hq=>zM (λe=>hq e.symm)) (λb i h=>⟨h,rfl⟩) (λ_ _ _=>rfl)
  (λe sz k cs _ _ h=>by cases h) (λ_ _ _=>rfl) ⟨hH,cur,hg,⟨hNC,hCm,hcs,hN,hsz⟩,hP1 _ _⟩ (λg h=>by
   have:G=g:=by rw[hH] at h;simpa [Blk.own,Cz] using h
   subst this
   exact⟨hlo.1,hlo.2,λq b hq hb ho=>hq (r.r.inj q p b _ G hb hm ho hownp),λi hs=>absurd hs (hst i)⟩)
  (λq b g i _ _ _ h=>h) (λg i _ _ h=>h) r.r.sl (zO _) rfl rfl rfl
 rw[V0] at r1
 have hownX:∀ g,Akb (m.set p (.arn e sz G n' CAP cs)) H g->Akb m H g:=λg ⟨q,b,h1,h2⟩=>by
  by_cases hq:p=q
  ·subst hq
   rw[zI hp] at h1
   cases h1
   exact⟨p,_,hm,h2⟩
  ·rw[zM hq] at h1
   exact⟨q,b,h1,h2⟩
 have hfam:∀ g cap,hd=some (g,cap)->(⟨g,e2,sz2,cap,acts⟩:Fam)∈Φ:=λg cap h=>by
  rcases hΦ with⟨h1,_⟩|⟨g',cap',A,B,h1,h2,_⟩
  ·rw[h1] at h;cases h
  ·rw[h1] at h;cases h;rw[h2];simp
 have hrow:∃ vs,w.ownsRow c.w0.heap.size e2 sz2 (hv hd n) n vs/\LsR (Rep w S) acts vs:=by
  cases hd with
  | none =>
   have:=h0 rfl
   subst this
   rw[kG] at hal
   have:acts=[]:=z7 hal
   subst this
   exact⟨[],World.ownsRow_nil w _ e2 sz2,rfl,λj l v h=>by simp at h⟩
  | some x =>
   obtain⟨g,cap⟩:=x
   obtain⟨⟨lo,⟨cur2,b1,b2,b3⟩,hc,hs⟩,_⟩:=r.ok _ (hfam g cap rfl)
   have hle:n*sz2<=cap*sz2:=by have:=b3.1;rw[hal,zX,b2] at this;exact this
   refine⟨cur2.toList.take (n*sz2),⟨?_,.inr ⟨g,cap,cur2,rfl,lo,b1,Nat.le_of_mul_le_mul_right hle hsz2,hc,b2,rfl⟩⟩,?_,λj l v h1 h2=>b3.2 j l v h1 ?_⟩
   ·rw[zN,zX,b2];exact wV hle
   ·have hc2:cur2.toList.length=cap*sz2:=by rw[zX,b2]
    rw[zN,hc2,hal];exact(wV hle).symm
   ·rw[yF] at h2
    split at h2
    ·exact h2
    ·cases h2
 obtain⟨vs,hrow,hvs⟩:=hrow
 have r2:=r1.newArr (e:=e2) (sz:=sz2) (cs:=acts) hsz2 hrow (zO _) hvs (λg hg=>by
  obtain⟨cap,hcap⟩:=Aq4 hg
  obtain⟨k1,k2⟩:=r.ok _ (hfam g cap hcap)
  exact⟨λq b hb ho=>k2 (hownX g ⟨q,b,hb,ho⟩),k1.st⟩)
 simp only[yS] at r2
 have hpl:p<(m.set p (.arn e sz G n' CAP cs)++[Blk.arr e2 sz2 0 acts]).length:=by simp;omega
 have hmp:(m.set p (.arn e sz G n' CAP cs)++[Blk.arr e2 sz2 0 acts])[p]? = some (.arn e sz G n' CAP cs):=by rw[zK (by simpa using hp),zI hp]
 have hHp:Mr H m.length (hv hd n) p=H p:=Bw _ _ (by omega)
 have r3:=r2.changeM (m':=(m.set p (.arn e sz G n' CAP cs)++[Blk.arr e2 sz2 0 acts]).set p (.arn e sz G n' CAP (cs.set k (.ls m.length n)))) (p:=p) (b':=.arn e sz G n' CAP (cs.set k (.ls m.length n))) (v:=Mr H m.length (hv hd n) p) (w':=w) (S':=S)
  (by simp) (zI hpl) (λq hq=>zM (λe=>hq e.symm)) (λb i h=>⟨h,rfl⟩) (λ_ _ _=>rfl) (λe sz k cs _ _ h=>by cases h) (λ_ _ _=>rfl)
  ⟨hHp.trans hH,cur,hg,⟨hNC,hCm,hcs,by rw[yS];exact hN,hsz⟩,by rw[yS];exact hlen,λj l v h1 h2=>by
   rw[V0]
   by_cases hj:k=j
   ·subst hj
    have hjl:=(zB.1 h1).1
    rw[yS] at hjl
    rw[zI hjl] at h1
    cases h1
    have hv1:=Eu (hls.2 k _ v hk (hcur k v hjl h2))
    subst hv1
    refine⟨by simp,⟨Axb _ _,by rw[Bm];exact Ayt _ _⟩,λe3 sz3 k3 cs3 hm3=>?_⟩
    have hml:((m.set p (.arn e sz G n' CAP cs)++[Blk.arr e2 sz2 0 acts]).set p (.arn e sz G n' CAP (cs.set k (.ls m.length n))))[m.length]? = some (.arr e2 sz2 0 acts):=by
     rw[zM (by omega),z2 (by simp)];simp
    rw[hml] at hm3
    cases hm3
    exact⟨kC hal.symm,λ_=>(Bm _ _ _).symm⟩
   ·rw[zM hj] at h1
    exact Bt.of_rep (hls.2 j l v h1 (hcur j v (zB.1 h1).1 h2))⟩
  (λg h=>by
   have:G=g:=by rw[hHp,hH] at h;simpa [Blk.own,Cz] using h
   subst this
   have ho:(Blk.arn e sz G n' CAP cs).own (Mr H m.length (hv hd n) p)=some G:=by rw[hHp,hH];rfl
   have hlo2:=r2.lo p _ G hmp ho
   exact⟨hlo2.1,hlo2.2,λq b hq hb ho'=>hq (r2.inj q p b _ G hb hmp ho' ho),λi hs=>absurd hs (hst i)⟩)
  (λq b g i _ _ _ h=>h) (λg i _ _ h=>h) r2.sl (zO _) rfl rfl rfl
 rw[V0] at r3
 have hset:(m.set p (.arn e sz G n' CAP cs)++[Blk.arr e2 sz2 0 acts]).set p (.arn e sz G n' CAP (cs.set k (.ls m.length n)))=m.set p (.arn e sz G n' CAP (cs.set k (.ls m.length n)))++[Blk.arr e2 sz2 0 acts]:=by
  rw[List.set_append_left _ _ (by simpa using hp),jJ]
 rw[hset] at r3
 refine⟨G,CAP,_,hH,r3,λf hf=>?_,?_⟩
 ·have hfΦ:f∈Φ:=by
   rcases hΦ with⟨_,h2⟩|⟨g,cap,A,B,_,h2,h3⟩
   ·rw[<- h2];exact hf
   ·rw[h3] at hf;rw[h2];simp at hf ⊢;rcases hf with h|h <;> simp [h]
  obtain⟨k1,k2⟩:=r.ok f hfΦ
  refine⟨k1,λ⟨q,b,h1,h2⟩=>?_⟩
  rcases zU q m.length with hq|hq
  ·rw[zK (by simpa using hq)] at h1
   rw[Bw _ _ (by omega)] at h2
   by_cases hqp:p=q
   ·subst hqp
    rw[zI hp] at h1
    cases h1
    exact k2 ⟨p,_,hm,h2⟩
   ·rw[zM hqp] at h1
    exact k2 ⟨q,b,h1,h2⟩
  ·have hq':q=m.length:=by
    have:=(zB.1 h1).1
    simp at this;omega
   subst hq'
   rw[z2 (by simp)] at h1
   simp at h1
   subst h1
   rw[Bm] at h2
   obtain⟨cap,hcap⟩:=Aq4 (show Cz (hv hd n)=some f.g from h2)
   rcases hΦ with⟨h5,_⟩|⟨g,cap',A,B,h5,h6,h7⟩
   ·rw[h5] at hcap;cases hcap
   ·rw[h5] at hcap
    cases hcap
    have hnd:=r.nd
    rw[h6,xC,xO] at hnd
    have hnd2:=jR.1 hnd
    have hnd3:=xU.1 hnd2.2.1
    rw[h7] at hf
    rcases yC.1 hf with h|h
    ·exact hnd2.2.2 f.g (z8.2 ⟨f,h,rfl⟩) f.g (by simp) rfl
    ·exact hnd3.1 (z8.2 ⟨f,h,rfl⟩)
 ·rcases hΦ with⟨_,h2⟩|⟨g,cap,A,B,_,h2,h3⟩
  ·rw[h2];exact r.nd
  ·have hnd:=r.nd
   rw[h2,xC,xO] at hnd
   rw[h3,xC]
   exact hnd.sublist (List.Sublist.append (List.Sublist.refl _) (List.sublist_cons_self _ _))
def Apa (m:List Blk) (p q:Nat) (b:Blk):List Blk:=(((((m.set p .dead).set q .dead)++[b]).map (Blk.rnq p m.length)).set p b).set m.length .dead
theorem Y5.fill {c:Ctx} {t:Nat->AV} {m:List Blk} {a:Act} {w:World} {S:Bz} {H:Nat->Value} {Φ:List Fam} (r:Y5 c ⟨t,m⟩ a w S H Φ) (hX:∀ g,¬ c.X g) (hm0:c.m0.length=0) {p q e sz G N CAP e2 sz2 n k:Nat} {cs acts:List Lf} (hm:m[p]? = some (.arn e sz G N CAP cs)) (hq:m[q]? = some (.arr e2 sz2 0 acts))
  (hk:cs[k]? = some (.ls q n)) (hn:n*sz2=acts.length) (hn0:0<n) (hpub:∀ j l,j≠k->cs[j]? = some l->l.pubd=true) {i0:Nat} (hi:t i0=.s (.one (.raw (.slice (some ⟨G,0,none⟩) N CAP)))) :
  ∃ g cap H2,Y5 c ⟨λi=>(Go.Proofs.YtkblaobhhoebaaaGreat.Abs.upd t i0 (.s (.one (.ls m.length N))) i).rnq p m.length,
   Apa m p q (.arr e sz 0 (cs.set k (.raw (hv (some (g,cap)) n))))⟩ a w S H2 (⟨g,e2,sz2,cap,acts⟩::Φ):=by
 have hp:p<m.length:=(zB.1 hm).1
 have hql:q<m.length:=(zB.1 hq).1
 have hpq:p≠q:=λh=>by subst h;rw[hm] at hq;cases hq
 obtain⟨hH,cur,hg,⟨hNC,hCm,hcs,hN,hsz⟩,hlp⟩:=r.r.bl p _ hm
 have hownp:(Blk.arn e sz G N CAP cs).own (H p)=some G:=by rw[hH];rfl
 have hlo:=r.r.lo p _ G hm hownp
 have hst:∀ i,¬ S G i:=λi hs=>absurd (r.r.sb p _ G i hm hownp hs) (zW _)
 obtain⟨hsz2,_,n',vs,hown2,hls2,_⟩:=r.r.bl q _ hq
 have hn':n'=n:=L0 hown2 hsz2 (by rw[<- hls2.1,hn])
 subst hn'
 obtain⟨g,cap,cur2,hHq,_,hg2,hc1,hc2,hc3,hc4⟩:∃ g cap cur,H q=.slice (some ⟨g,0,none⟩) n' cap/\0<=g/\w.heap[g]? = some (.cells cur e2 (0,0))/\n'<=cap/\cap<=maxLen/\cur.size=cap*sz2/\cur.toList.take (n'*sz2)=vs:=by
  rcases hown2.2 with⟨_,h⟩|h
  ·omega
  ·exact h
 have hownq:(Blk.arr e2 sz2 0 acts).own (H q)=some g:=by rw[hHq];rfl
 have hloq:=r.r.lo q _ g hq hownq
 have hstq:∀ i,¬ S g i:=λi hs=>absurd (r.r.sb q _ g i hq hownq hs) (zW _)
 have hgG:g≠G:=λh=>by subst h;exact hpq (r.r.inj p q _ _ _ hm hq hownp hownq)
 have hb1:c.w0.heap.size<=G:=hlo.1.resolve_right (hX _)
 have hb2:c.w0.heap.size<=g:=hloq.1.resolve_right (hX _)
 have r1:=(r.r.kill hp).kill (p:=q) (by simpa using hql)
 have hd1:∀ (z:Nat) (b:Blk),((m.set p .dead).set q .dead)[z]? = some b->(b=.dead)\/(z≠p/\z≠q/\m[z]? = some b):=λz b h=>by
  by_cases h1:q=z
  ·subst h1;rw[zI (by simpa using hql)] at h;cases h;exact .inl rfl
  ·rw[zM h1] at h
   by_cases h2:p=z
   ·subst h2;rw[zI hp] at h;cases h;exact .inl rfl
   ·rw[zM h2] at h;exact .inr ⟨λe=>h2 e.symm,λe=>h1 e.symm,h⟩
 have hcl:cur.toList.length=CAP*sz:=by rw[zX,hcs]
 have hNS:N*sz<=CAP*sz:=yZ _ hNC
 have hrow:w.ownsRow c.w0.heap.size e sz (.slice (some ⟨G,0,none⟩) N CAP) N (cur.toList.take (N*sz)) :=
  ⟨by rw[zN,hcl];exact wV hNS,.inr ⟨G,CAP,cur,rfl,hb1,hg,hNC,hCm,hcs,rfl⟩⟩
 have hcells:LsR (Rep w S) (cs.set k (.raw (hv (some (g,cap)) n'))) (cur.toList.take (N*sz)):=by
  refine⟨by rw[yS,zN,hcl,hN];exact(wV hNS).symm,λj l v h1 h2=>?_⟩
  have hjl:j<cs.length:=by have:=(zB.1 h1).1;simpa using this
  rw[yF,if_pos (by rw[<- hN];exact hjl)] at h2
  by_cases hj:k=j
  ·subst hj
   rw[zI hjl] at h1
   cases h1
   have h3:=hlp.2 k _ v hk h2
   have h4:v=H q:=(h3.2.2 _ _ _ _ hq).2 hn
   rw[h4,hHq]
   exact .raw _ rfl
  ·rw[zM hj] at h1
   exact(hlp.2 j l v h1 h2).rep (hpub j l (λe=>hj e.symm) h1)
 have r2:=r1.newArr (e:=e) (sz:=sz) (cs:=cs.set k (.raw (hv (some (g,cap)) n'))) hsz hrow (zO _) hcells (λg' hg'=>by
  have:G=g':=by simpa [Cz] using hg'
  subst this
  refine⟨λz b hb ho=>?_,hst⟩
  rcases hd1 z b hb with rfl|⟨h1,_,h3⟩
  ·cases ho
  ·exact h1 (r.r.inj z p b _ G h3 hm ho hownp))
 simp only[yS] at r2
 have hv5:a.tmps.getD i0 undef=.slice (some ⟨G,0,none⟩) N CAP:=by
  have:=r.r.tm i0
  simp only at this
  rw[hi] at this
  exact Eu (this:Rep w S _ _)
 have hlast:((m.set p .dead).set q .dead++[Blk.arr e sz 0 (cs.set k (.raw (hv (some (g,cap)) n')))])[m.length]? = some (.arr e sz 0 (cs.set k (.raw (hv (some (g,cap)) n')))):=by
  rw[z2 (by simp)];simp
 have r3:Rel c ⟨Go.Proofs.YtkblaobhhoebaaaGreat.Abs.upd t i0 (.s (.one (.ls m.length N))),(m.set p .dead).set q .dead++[.arr e sz 0 (cs.set k (.raw (hv (some (g,cap)) n')))]⟩ a w S (Mr H m.length (.slice (some ⟨G,0,none⟩) N CAP)):=by
  refine⟨r2.nt,r2.df,λj=>?_,r2.bl,r2.lo,r2.inj,r2.sb,r2.sl,r2.ex,r2.kl,r2.kh,r2.kr,r2.ku⟩
  show AVR _ (Go.Proofs.YtkblaobhhoebaaaGreat.Abs.upd t i0 _ j) _
  rw[Ej]
  by_cases e':j=i0
  ·subst e'
   rw[if_pos rfl,hv5]
   refine⟨by simp,⟨rfl,by rw[Bm];exact λh=>by cases h⟩,λe3 sz3 k3 cs3 hm3=>?_⟩
   rw[hlast] at hm3
   cases hm3
   rw[yS]
   exact⟨kC hN.symm,λ_=>(Bm _ _ _).symm⟩
  ·rw[if_neg e']
   exact r2.tm j
 have r4:=Asu r3 (p:=p) (q:=m.length) (by rw[hm0];exact zZ _) (by rw[hm0];exact zZ _) (Nat.ne_of_lt hp) (by simp;omega) hlast
 refine⟨g,cap,_,r4,λf hf=>?_,?_⟩
 ·have hown4:∀ g',Akb (Apa m p q (Blk.arr e sz 0 (cs.set k (.raw (hv (some (g,cap)) n'))))) (Mr (Mr H m.length (.slice (some ⟨G,0,none⟩) N CAP)) p (Mr H m.length (.slice (some ⟨G,0,none⟩) N CAP) m.length)) g' ->
    g'=G\/∃ z b,z≠p/\z≠q/\m[z]? = some b/\b.own (H z)=some g':=by
   rintro g' ⟨z,b,h1,h2⟩
   unfold Apa at h1
   by_cases hz:m.length=z
   ·subst hz
    rw[zI (by simp)] at h1
    cases h1
    cases h2
   ·rw[zM hz] at h1
    by_cases hzp:p=z
    ·subst hzp
     rw[Bm,Bm] at h2
     rw[zI (by simp;omega)] at h1
     cases h1
     exact .inl (by simpa [Blk.own,Cz] using h2.symm)
    ·rw[zM hzp,zQ] at h1
     rw[Bw _ _ (λe=>hzp e.symm),Bw _ _ (λe=>hz e.symm)] at h2
     cases h5:((m.set p .dead).set q .dead++[Blk.arr e sz 0 (cs.set k (.raw (hv (some (g,cap)) n')))])[z]? with
     | none=>rw[h5] at h1;cases h1
     | some b0 =>
      rw[h5] at h1
      cases h1
      have h6:=(N2 h2).1
      have hzl:z<m.length:=by
       have:=(zB.1 h5).1
       simp at this;omega
      rw[zK (by simpa using hzl)] at h5
      rcases hd1 z b0 h5 with rfl|⟨h7,h8,h9⟩
      ·cases h6
      ·exact .inr ⟨z,b0,h7,h8,h9,h6⟩
  rcases yM.1 hf with rfl|hf
  ·refine⟨⟨hb2,⟨cur2,hg2,hc3,?_⟩,hc2,hstq⟩,λho=>?_⟩
   ·refine⟨by rw[<- hn,zX,hc3];exact yZ _ hc1,λj l v h1 h2=>hls2.2 j l v h1 ?_⟩
    rw[<- hc4,yF,if_pos (by rw[hn];exact(zB.1 h1).1)]
    exact h2
   ·rcases hown4 _ ho with h|⟨z,b,_,h2,h3,h4⟩
    ·exact hgG h
    ·exact h2 (r.r.inj z q b _ g h3 hq h4 hownq)
  ·obtain⟨k1,k2⟩:=r.ok f hf
   refine⟨k1,λho=>?_⟩
   rcases hown4 _ ho with h|⟨z,b,_,_,h3,h4⟩
   ·exact k2 ⟨p,_,hm,by rw[h];exact hownp⟩
   ·exact k2 ⟨z,b,h3,h4⟩
 ·refine xU.2 ⟨λh=>?_,r.nd⟩
  obtain⟨f,hf,h1⟩:=z8.1 h
  exact(r.ok f hf).2 ⟨q,_,hq,by rw[h1];exact hownq⟩
section
variable {P:Program} {c:Ctx} {st:AS} {ty:TypeId}
theorem Amo {t e sz:Nat} {x y:Operand} {G N CAP:Nat} {k:IntKind} {j:Int} (si:SI P t e sz) (hx:B2 st x=.s (.one (.raw (.slice (some ⟨G,0,none⟩) N CAP)))) (hy:B2 st y=.s (.one (.i k j))) (h0:0<=j) (h1:j<N) :
  OpV P c st (.indexAddr t x y) ty (.s (.one (.raw (.pointer (some ⟨G,j.toNat*sz,none⟩))))):=by
 intro a w S H r
 have hx':=Ba r x
 rw[hx] at hx'
 have ex:a.eval x=.slice (some ⟨G,0,none⟩) N CAP:=Eu hx'
 have hy':=Ba r y
 rw[hy] at hy'
 have ey:a.eval y=.int k j:=Sk hy'
 refine⟨_,Fl (.raw _ rfl),λ_ _ _ _=>?_⟩
 have:=N4 si w G 0 N CAP k j h0 h1
 simp only[yK] at this
 simp [execOp,ex,ey,this]
theorem Alc {s f off:Nat} {x:Operand} {G o:Nat} (fi:FI P s f off) (hx:B2 st x=.s (.one (.raw (.pointer (some ⟨G,o,none⟩))))):OpV P c st (.fieldAddr s x f) ty (.s (.one (.raw (.pointer (some ⟨G,o+off,none⟩))))):=by
 intro a w S H r
 have hx':=Ba r x
 rw[hx] at hx'
 have ex:a.eval x=.pointer (some ⟨G,o,none⟩):=Eu hx'
 obtain⟨fs,fld,k,hu,hf,ho,hi,hk⟩:=fi.h
 refine⟨_,Fl (.raw _ rfl),λ_ _ _ _=>?_⟩
 subst ho
 have hadd:(⟨G,o,none⟩:Addr).add fld.offset=⟨G,o+fld.offset,none⟩:=Addr.add_lit _ _ _
 simp [execOp,ex,Instr.fieldAt,Instr.sureAddr,run_underlying hu,hf,fieldPlace,Ci hi,hk,hadd]
theorem Asy {t:TypeId} {x:Operand} {p e sz G N CAP o:Nat} {cs:List Lf} {y:Lf} (ti:TI P t false 1) (hx:B2 st x=.s (.one (.raw (.pointer (some ⟨G,o,none⟩))))) (hm:st.m[p]? = some (.arn e sz G N CAP cs)) (hy:cs[o]? = some y) :
  OpV P c st (.load t x) ty (.s (.one y)):=by
 intro a w S H r
 have hx':=Ba r x
 rw[hx] at hx'
 have ex:a.eval x=.pointer (some ⟨G,o,none⟩):=Eu hx'
 obtain⟨_,cur,hg,_,hl⟩:=r.bl p _ hm
 obtain⟨u,hu,hr⟩:=hl.get hy
 have hu':w.cell? ⟨G,o,none⟩=some u:=by rw[cell_of_row w G o cur e (0,0) hg];simpa using hu
 refine⟨u,hr,λ_ _ _ _=>?_⟩
 simp [execOp,ex,Instr.loadAt,Instr.sureAddr,ti.run_load1 hu']
end
section
variable {P:Program} {c:Ctx} {t:Nat->AV} {m:List Blk} {ops:Array Oper} {Q:Exit->AS->Prop} {rest:List Oper} {ty:TypeId} {pos:String} {af:Array Edge}
theorem Ata {t':TypeId} {x y:Operand} {p e sz G N CAP o:Nat} {cs:List Lf} {l:Lf} (hi:(P.info? t').map (·.size)=some 1) (hx:B2 ⟨t,m⟩ x=.s (.one (.raw (.pointer (some ⟨G,o,none⟩))))) (hy:B2 ⟨t,m⟩ y=.s (.one l)) (hm:m[p]? = some (.arn e sz G N CAP cs))
  (ho:o<cs.length) (kk:AWL P c ops Q rest ⟨t,m.set p (.arn e sz G N CAP (cs.set o l))⟩):AWL P c ops Q (⟨none,.store t' x y,ty,pos,af,none⟩::rest) ⟨t,m⟩:=by
 intro a w S H r
 have hp:p<m.length:=(zB.1 hm).1
 have hx':=Ba r x
 rw[hx] at hx'
 have ex:a.eval x=.pointer (some ⟨G,o,none⟩):=Eu hx'
 have hy':=Ba r y
 rw[hy] at hy'
 have hls:=R2 (x:=.one l) (show SVR (Bt w S m H) (.one l) (a.eval y) from hy') (λl v=>Bt.oneCell)
 obtain⟨hH,cur,hg,⟨h1,h2,h3,h4,h5⟩,hlp⟩:=r.bl p _ hm
 have hone1:(a.eval y).oneCell'=true:=Bt.oneCell (show Bt w S m H l (a.eval y) from hy')
 have hlen:(a.eval y).cells.toList.length=1:=hls.1.symm
 have hone:∀ u∈(a.eval y).cells.toList,u.oneCell'=true:=by
  intro u hu
  obtain⟨j,hj,hju⟩:=yU hu
  have hj':j<([l]:List Lf).length:=by rw[show[l].length=_ from hls.1];exact hj
  exact Bt.oneCell (hls.2 j _ u (zC hj') (by rw[zC hj,hju]))
 have hoc:o<cur.toList.length:=z6 ho hlp.1
 have hfitc:o+(a.eval y).cells.toList.length<=cur.toList.length:=by rw[hlen];omega
 have hst:=run_storeCells_at P G o e (a.eval y).cells.toList 0 cur w hg (by rw[hlen,kF];rw[zX] at hoc;omega) hone
 simp only[kF] at hst
 refine wpList_plain rfl λK hK=>?_
 unfold Oper.wp
 have hrun:(execOp a.eval ⟨none,.store t' x y,ty,pos,af,none⟩).run P w=.ok .skip (w.setRow G (cur.toList.take o++(a.eval y).cells.toList++cur.toList.drop (o+(a.eval y).cells.toList.length)).toArray):=by
  have hszz:(a.eval y).cells.size=1:=by simpa using hlen
  simp only[execOp,ex,Instr.storeAt,Instr.sureAddr,storeVar,Sem.run_bind,Sem.run_pure,Result.andThen_ok,Ci hi,hszz,ne_eq,not_true_eq_false,if_false,hst]
 rw[hrun]
 have hownp:(Blk.arn e sz G N CAP cs).own (H p)=some G:=by rw[hH];rfl
 have hsS:∀ i,¬ S G i:=λi hs=>absurd (r.sb p _ G i hm hownp hs) (zW _)
 have hlo:=r.lo p _ G hm hownp
 generalize hnew:(cur.toList.take o++(a.eval y).cells.toList++cur.toList.drop (o+(a.eval y).cells.toList.length)).toArray=cur'
 have hrow:=setRow_heap w G cur cur' e _ hg
 have hoth:∀ q,q≠G->(w.setRow G cur').heap[q]? = w.heap[q]? := λq hq=>setRow_other w G q _ hq
 have hcs:cur'.size=cur.size:=by
  rw[<- hnew];simp only[yE,zH,zN,yB,zX] at hfitc ⊢;omega
 have hkeep:∀ b j,S b j->S b j/\(w.setRow G cur').cell? ⟨b,j,none⟩=w.cell? ⟨b,j,none⟩:=by
  intro b j hS
  refine⟨hS,?_⟩
  by_cases hb:b=G
  ·subst hb;exact absurd hS (hsS j)
  ·exact World.cell?_of_block (w:=w) (hoth b hb)
 have hfin:Rel c ⟨t,m.set p (.arn e sz G N CAP (cs.set o l))⟩ a (w.setRow G cur') S (Mr H p (H p)):=by
  have hgr:∀ l' v,Bt w S m H l' v->Bt (w.setRow G cur') S (m.set p (.arn e sz G N CAP (cs.set o l))) H l' v:=λl' v=>by
   refine Bt.mono hkeep (by simp) (λ_ _=>rfl) (λq e' sz' k' cs' hq hmm=>⟨k',cs',?_,rfl⟩)
   by_cases hqp:p=q
   ·subst hqp;rw[zI hp] at hmm;cases hmm
   ·rw[zM hqp] at hmm;exact hmm
  refine r.change (b':=.arn e sz G N CAP (cs.set o l)) (by simp) (zI hp) (λq hq=>zM (λe=>hq e.symm)) hkeep (λg' _ _=>rfl)
   (λe' sz' k' cs' _ h=>by cases h) (λg' _ hne=>hoth g' (λe'=>hne _ hm (by rw[e'];exact hownp))) ⟨hH,cur',hrow,⟨h1,h2,hcs.trans h3,by rw[yS];exact h4,h5⟩,?_,λj l' v k1 k2=>?_⟩
   (λg' hg'=>?_) (λq b g' j _ _ _ hs=>hs) (λg' j _ _ hs=>hs) ⟨λb j hs=>by simp;exact r.sl.1 b j hs,r.sl.2.1.mono hkeep⟩ (by simp) rfl rfl rfl
  ·have:cur'.toList.length=cur.toList.length:=by rw[zX,zX,hcs]
   rw[yS,this];exact hlp.1
  ·rw[V0]
   refine hgr _ _ ?_
   rw[<- hnew] at k2
   simp only at k2
   rw[getElem?_putAt cur.toList (a.eval y).cells.toList o j hfitc] at k2
   rw[hlen] at k2
   by_cases hj:o=j
   ·subst hj
    rw[zI ho] at k1
    cases k1
    rw[if_neg (wS _),if_pos (wM _),jG] at k2
    exact hls.2 0 _ v rfl k2
   ·rw[zM hj] at k1
    refine hlp.2 j l' v k1 ?_
    by_cases b1:j<o
    ·rw[if_pos b1] at k2;exact k2
    ·rw[if_neg b1,if_neg (by omega)] at k2;exact k2
  ·have:G=g':=by rw[hH] at hg';simpa [Blk.own,Cz] using hg'
   subst this
   exact⟨hlo.1,by simp;exact hlo.2,λq b hq hb ho'=>hq (r.inj q p b _ G hb hm ho' hownp),λi hs=>absurd hs (hsS i)⟩
 rw[V0] at hfin
 exact hK _ _ (kk _ _ _ _ hfin)
end
section
variable {P:Program} {c:Ctx} {Q:Exit->AS->List Fam->Prop} {Φ:List Fam} {t:Nat->AV} {m:List Blk}
def TJ (P:Program) (c:Ctx) (y:Code) (Q:Exit->AS->List Fam->Prop) (Φ:List Fam):Exit->AS->Prop:=λe st=>Acp (AWJ P c y Q) Q e st Φ
theorem jsr {id:Nat} {l:List Oper} {y:Code} (h:∀ w0 S0 X H0,AWL P ⟨w0,S0,c.nt,X,m,H0⟩ l.toArray (TJ P c y Q Φ) l ⟨t,m⟩):AWJ P c (.seq (.region id l.toArray false) y) Q ⟨t,m⟩ Φ :=
 Aco (Aau λw0 S0 X H0=>Abi (h w0 S0 X H0))
theorem Au3 {c':Ctx} {ops:Array Oper} {y:Code} {st:AS} (h:AWJ P c y Q st Φ):AWL P c' ops (TJ P c y Q Φ) [] st:=Ach (show AWJ P c y Q st Φ from h)
theorem jsp {x y:Code} (h:∀ w0 S0 X H0,AWC P ⟨w0,S0,c.nt,X,m,H0⟩ x (TJ P c y Q Φ) ⟨t,m⟩):AWJ P c (.seq x y) Q ⟨t,m⟩ Φ :=
 Aco (Aau λw0 S0 X H0=>h w0 S0 X H0)
theorem tjn {c0:Ctx} {y:Code} {st:AS} (h:AWJ P c0 y Q st Φ):TJ P c0 y Q Φ .normal st:=h
def Ayl {G:Type} (sl:G->List (Nat×AV)) (mm:G->List Blk) (fm:G->List Fam) (pre:G->Prop) (st:AS) (Φ:List Fam):Prop:=∃ g ex,pre g/\Nm st.t (sl g)/\st.m=mm g++ex/\Φ=fm g
theorem jj {x y:Code} {st:AS} (G:Type) (sl:G->List (Nat×AV)) (mm:G->List Blk) (fm:G->List Fam) (pre:G->Prop) (hb:∀ g,cjB c.m0.length (sl g) (mm g)=true)
  (hy:∀ g,pre g->AWJ P c y Q ⟨Zf (λ_=>.top) (sl g),mm g⟩ (fm g)) (hx:AWJ P c x (Acp (Ayl sl mm fm pre) Q) st Φ):AWJ P c (.seq x y) Q st Φ :=
 Aco (Aop hx λe st Φ h=>by
  cases e with
  | normal =>
   obtain⟨g,ex,hp,hs,hm,hf⟩:=h
   obtain⟨b1,b2,b3⟩:=An8 (hb g)
   obtain⟨t',m'⟩:=st
   simp only at hm hs
   subst hm
   subst hf
   exact Aob (sl g) hs b1 b2 b3 (hy g hp)
  | _=>exact h)
theorem jp {x:Code} {st:AS} (hm:st.m=m) (h:∀ w0 S0 X H0,AWC P ⟨w0,S0,c.nt,X,m,H0⟩ x (λe st'=>Q e st' Φ) st):AWJ P c x Q st Φ:=by
 subst hm;exact Aau h
theorem jcI {x y:Code} {o:Operand} {b:Bool} {α:Type} {u v:Option α} {r:α} (h:(if b then u else v)=some r) (ho:B2 ⟨t,m⟩ o=.s (.one (.b b)))
  (h1:u=some r->AWJ P c x Q ⟨t,m⟩ Φ) (h0:v=some r->AWJ P c y Q ⟨t,m⟩ Φ):AWJ P c (.cond o x y) Q ⟨t,m⟩ Φ:=Zk ho (λhc=>h1 (P8 hc h)) (λhc=>h0 (P3 hc h))
theorem Aji {x:Code} {Q':Exit->AS->Prop} {st:AS} (h:AWJ P c x Q st []) (hq:∀ e st Φ,Q e st Φ->∀ a w S H,Y5 c st a w S H Φ->∃ st2 S2 H2,Rel c st2 a w S2 H2/\Q' e st2):AWC P c x Q' st:=λa w S H r =>
 wp_mono (h a w S H ⟨r,λf hf=>(by cases hf),kJ⟩) λe a w ⟨st,S,H,Φ,r,q⟩=>by
  obtain⟨st2,S2,H2,r2,q2⟩:=hq e st Φ q a w S H r
  exact⟨st2,S2,H2,r2,q2⟩
end
theorem Y5.pub {c:Ctx} {st:AS} {a:Act} {w:World} {S:Bz} {H:Nat->Value} {Φ:List Fam} (r:Y5 c st a w S H Φ):∃ S',Rel c st a w S' H/\(∀ b i,S b i->S' b i)/\∀ f∈Φ,∀ cap' n,f.cs.length=n*f.sz->cap'=f.cap->n<=cap'->∀ k,k<=n->Rep w S' (.sl k (f.cs.take (k*f.sz))) (.slice (some ⟨f.g,0,none⟩) k cap'):=by
 have hcell:∀ f∈Φ,∀ j,j<f.cs.length->w.cell? ⟨f.g,j,none⟩≠none:=λf hf j hj=>by
  obtain⟨⟨_,⟨cur,h1,_,h3⟩,_,_⟩,_⟩:=r.ok f hf
  rw[cell_of_row w f.g j cur f.e (0,0) h1]
  have:j<cur.size:=by have:=h3.1;rw[zX] at this;omega
  rw[zR this]
  exact λh=>by cases h
 have hback:∀ b i,(S b i\/∃ f∈Φ,f.g=b/\i<f.cs.length)->b<w.heap.size:=λb i h=>by
  rcases h with h|⟨f,hf,rfl,_⟩
  ·exact r.r.sl.1 b i h
  ·exact(r.ok f hf).1.lt
 have hgr:∀ l v,Bt w S st.m H l v->Bt w (λb i=>S b i\/∃ f∈Φ,f.g=b/\i<f.cs.length) st.m H l v:=λl v=>Bt.mono (λb i h=>⟨.inl h,rfl⟩) (zO _) (λ_ _=>rfl) (λp e sz k cs _ hm=>⟨k,cs,hm,rfl⟩)
 refine⟨λb i=>S b i\/∃ f∈Φ,f.g=b/\i<f.cs.length,?_,λb i h=>.inl h,λf hf cap' n hn hc hnc k hk=>?_⟩
 ·have q:=r.r
  refine⟨q.nt,q.df,λi=>AVR.mono hgr (q.tm i),λp b hb=>?_,q.lo,q.inj,λp b g i hb ho hs=>?_,⟨hback,q.sl.2.1.mono λb i h=>⟨.inl h,rfl⟩,?_⟩,?_,q.kl,q.kh,q.kr,q.ku⟩
  ·have hr:=q.bl p b hb
   cases b with
   | dead=>trivial
   | hole=>exact hr
   | obj g mk cs=>obtain⟨h1,vs,o,h2,h3,h4,h5⟩:=hr;exact⟨h1,vs,o,h2,h3,h4,h5.mono λl v=>Rep.sub λb i h=>.inl h⟩
   | tab mk cs=>obtain⟨g,h1,vs,o,h2,h3,h4,h5⟩:=hr;exact⟨g,h1,vs,o,h2,h3,h4,h5.mono λl v=>Rep.sub λb i h=>.inl h⟩
   | arn e sz g n cap cs=>obtain⟨h1,cur,h2,h3,h4⟩:=hr;exact⟨h1,cur,h2,h3,h4.mono hgr⟩
   | box cs=>obtain⟨g,e,cur,h1,h2,h3⟩:=hr;exact⟨g,e,cur,h1,h2,h3.mono hgr⟩
   | arr e sz k cs=>obtain⟨h0,h1,n,vals,h2,h3,h4⟩:=hr;exact⟨h0,h1,n,vals,h2,h3.mono λl v=>Rep.sub λb i h=>.inl h,λg hg i hi=>.inl (h4 g hg i hi)⟩
  ·rcases hs with hs|⟨f,hf,rfl,_⟩
   ·exact q.sb p b g i hb ho hs
   ·exact absurd ⟨p,b,hb,ho⟩ (r.ok f hf).2
  ·intro g i hs hc
   rcases hs with hs|⟨f,hf,rfl,hi⟩
   ·obtain⟨h1,h2⟩:=q.sl.2.2 g i hs hc
    refine⟨h1,λj hj=>?_⟩
    rcases hj with hj|⟨f,hf,rfl,_⟩
    ·exact h2 j hj
    ·exact absurd hs ((r.ok f hf).1.st i)
   ·exact absurd hc (hcell f hf i hi)
  ·have x:=q.ex
   refine⟨x.os,x.tape,x.output,x.size,x.blk,λb i h=>.inl (x.sub b i h),x.stab,λb i hb hX hs=>?_⟩
   rcases hs with hs|⟨f,hf,rfl,_⟩
   ·exact x.back b i hb hX hs
   ·have:=(r.ok f hf).1.lo;omega
 ·obtain⟨⟨_,⟨cur,h1,h2,h3⟩,hm,_⟩,_⟩:=r.ok f hf
  subst hc
  have hle:k*f.sz<=f.cs.length:=by rw[hn];exact yZ _ hk
  refine .sl k _ f.g 0 f.cap (λj=>(cur[j]?).getD undef) (yP hk hnc) hm (λj l hl=>?_) (λj l hl=>?_)
  ·rw[yF] at hl
   split at hl
   ·rename_i hj
    have hjc:j<f.cs.length:=by omega
    rw[yK]
    refine⟨.inr ⟨f,hf,rfl,hjc⟩,?_⟩
    rw[cell_of_row w f.g j cur f.e (0,0) h1]
    have:j<cur.size:=by have:=h3.1;rw[zX] at this;omega
    rw[zR this];rfl
   ·cases hl
  ·rw[yF] at hl
   split at hl
   ·have hjc:j<cur.size:=by have:=h3.1;rw[zX] at this;omega
    refine Rep.sub (λb i h=>.inl h) (h3.2 j l _ hl ?_)
    rw[wB,zR hjc];rfl
   ·cases hl
open Go.RowKit
def Ay6 (p e sz G N CAP k e2 sz2 i0:Nat) (Φ1:List Fam) (n':AS->List Fam->Prop) (st:AS):Prop :=
 ∃ q n cs acts,st.m[p]? = some (.arn e sz G N CAP cs)/\st.m[q]? = some (.arr e2 sz2 0 acts)/\cs[k]? = some (.ls q n)/\n*sz2=acts.length/\0<n/\(∀ j l,j≠k->cs[j]? = some l->l.pubd=true)/\st.t i0=.s (.one (.raw (.slice (some ⟨G,0,none⟩) N CAP))) /\
  ∀ g cap,n' ⟨λi=>(Go.Proofs.YtkblaobhhoebaaaGreat.Abs.upd st.t i0 (.s (.one (.ls st.m.length N))) i).rnq p st.m.length,Apa st.m p q (.arr e sz 0 (cs.set k (.raw (hv (some (g,cap)) n))))⟩ (⟨g,e2,sz2,cap,acts⟩::Φ1)
theorem Atw {P:Program} {c:Ctx} {Q:Exit->AS->List Fam->Prop} {n':AS->List Fam->Prop} {x:Code} {t:Nat->AV} {m:List Blk} {Φ Φ1:List Fam} (hX:∀ g,¬ c.X g) (hm0:c.m0.length=0) (p i0 e sz N k e2 sz2 n:Nat) {cs:List Lf} (hm:m[p]? = some (.arr e sz 0 cs)) (hN:cs.length=N*sz) (hpos:0<N)
  {hd:Option (Nat×Nat)} {acts:List Lf} (hk:cs[k]? = some (.raw (hv hd n))) (hsz2:0<sz2) (hal:acts.length=n*sz2) (h0:hd=none->n=0)
  (hΦ:hd=none/\Φ1=Φ\/∃ g cap A B,hd=some (g,cap)/\Φ=A++⟨g,e2,sz2,cap,acts⟩::B/\Φ1=A++B) (hi:t i0=.s (.one (.ls p N))) (hi0:i0<c.nt)
  (h:∀ G CAP w0 S0 X H0,AWC P ⟨w0,S0,c.nt,X,m.set p (.arn e sz G N CAP (cs.set k (.ls m.length n)))++[.arr e2 sz2 0 acts],H0⟩ x (λex st'=>ex=.normal/\Ay6 p e sz G N CAP k e2 sz2 i0 Φ1 n' st')
   ⟨Go.Proofs.YtkblaobhhoebaaaGreat.Abs.upd t i0 (.s (.one (.raw (.slice (some ⟨G,0,none⟩) N CAP)))),m.set p (.arn e sz G N CAP (cs.set k (.ls m.length n)))++[.arr e2 sz2 0 acts]⟩):AWJ P c x (Acp n' Q) ⟨t,m⟩ Φ:=by
 intro a w S H r
 obtain⟨G,CAP,H2,hH,r2⟩:=r.dig hm hN hpos hk hsz2 hal h0 hΦ
 have hv5:a.tmps.getD i0 undef=.slice (some ⟨G,0,none⟩) N CAP:=by
  have h1:=r.r.tm i0
  simp only at h1
  rw[hi] at h1
  exact(((show Df w S m H (.ls p N) _ from h1).2.2 _ _ _ _ hm).2 hN.symm).trans hH
 have r3:Y5 c ⟨Go.Proofs.YtkblaobhhoebaaaGreat.Abs.upd t i0 (.s (.one (.raw (.slice (some ⟨G,0,none⟩) N CAP)))),m.set p (.arn e sz G N CAP (cs.set k (.ls m.length n)))++[.arr e2 sz2 0 acts]⟩ a w S H2 Φ1:=by
  have q:=r2.r
  refine⟨⟨q.nt,q.df,λj=>?_,q.bl,q.lo,q.inj,q.sb,q.sl,q.ex,q.kl,q.kh,q.kr,q.ku⟩,r2.ok,r2.nd⟩
  show AVR _ (Go.Proofs.YtkblaobhhoebaaaGreat.Abs.upd t i0 _ j) _
  rw[Ej]
  by_cases e':j=i0
  ·subst e'
   rw[if_pos rfl,hv5]
   exact Fl (.raw _ rfl)
  ·rw[if_neg e']
   exact q.tm j
 refine wp_mono (h G CAP w S _ H2 a w S H2 r3.r.now) ?_
 rintro ex a' w' ⟨st',S',H',r',rfl,q,n2,cs2,acts2,k1,k2,k3,k4,k5,k6,k7,k8⟩
 obtain⟨t',m'⟩:=st'
 obtain⟨g,cap,H4,r4⟩:=(r3.then_now r').fill hX hm0 k1 k2 k3 k4 k5 k6 k7
 exact⟨_,S',H4,_,r4,k8 g cap⟩
section
variable {α:Type} {f:α->List Lf} {sz:Nat}
theorem Sx (hf:∀ x,(f x).length=sz) {xs:List α} {i:Nat} {u:α} (h:xs[i]? = some u) {o:Nat} (ho:o<sz):(xs.flatMap f)[i*sz+o]? = (f u)[o]? := by
 have:=V1 hf h
 have h2:((xs.flatMap f).drop (i*sz))[o]? = (f u)[o]? := by rw[this,zK (by rw[hf];exact ho)]
 rwa [yH] at h2
theorem Amk (hf:∀ x,(f x).length=sz) {xs:List α} {i:Nat} {u u':α} (h:xs[i]? = some u) {o:Nat} (ho:o<sz) {l:Lf} (hu:(f u).set o l=f u'):(xs.flatMap f).set (i*sz+o) l=(xs.set i u').flatMap f:=by
 have hil:i<xs.length:=(zB.1 h).1
 apply wE
 intro j
 have hlen:(xs.flatMap f).length=xs.length*sz:=Aq hf xs
 have hlen':((xs.set i u').flatMap f).length=xs.length*sz:=by rw[Aq hf,yS]
 by_cases hj:j<xs.length*sz
 ·have hsz:0<sz:=by omega
  have hd:j=(j / sz)*sz+j % sz:=by rw[j5];exact(Nat.div_add_mod j sz).symm
  have hmod:j % sz<sz:=zAe _ hsz
  have hdl:j / sz<xs.length:=zAf (by rw[j5];exact hj)
  by_cases hi:j / sz=i
  ·have hu2:(xs.set i u')[i]? = some u':=zI hil
   rw[hd,hi,Sx hf hu2 hmod,<- hu]
   by_cases ho2:o=j % sz
   ·rw[<- ho2,zI (by rw[hlen];have:=yZ sz hil;rw[jH] at this;omega),zI (by rw[hf];exact ho)]
   ·rw[zM (by omega),zM ho2,Sx hf h hmod]
  ·have h1:xs[j / sz]? = some xs[j / sz]:=zC hdl
   have h2:(xs.set i u')[j / sz]? = some xs[j / sz]:=by rw[zM (λe=>hi e.symm)];exact h1
   have hne:i*sz+o≠j / sz*sz+j % sz:=λe=>by
    have:=congrArg (· / sz) e
    simp only[j3 (_*sz),Nat.add_mul_div_right _ _ hsz,Nat.div_eq_of_lt ho,Nat.div_eq_of_lt hmod] at this
    omega
   rw[hd,zM hne,Sx hf h1 hmod,Sx hf h2 hmod]
 ·rw[yL (by rw[yS,hlen];omega),yL (by rw[hlen'];omega)]
end
end Go.Proofs.YtkblaobhhoebaaaGreat.Abs
