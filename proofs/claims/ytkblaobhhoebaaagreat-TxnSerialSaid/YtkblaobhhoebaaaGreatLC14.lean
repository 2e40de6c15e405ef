/-
 What the library's functions compute.
-/
import Derived.Test.YtkblaobhhoebaaaGreatLB14
set_option linter.unusedVariables false
set_option linter.unusedSimpArgs false
namespace Go.Proofs.YtkblaobhhoebaaaGreat.Abs.ss
open Go.Proofs.YtkblaobhhoebaaaGreat.Abs.bf
theorem sorted_some (xs:Keys) (hn:xs.length<=1000000000000000000):∃ v,B6 xs=some v:=by
 obtain⟨v,hv,hr⟩:=Cr (f:=Ce xs) (P:=λs=>∃ i:Nat,s=(i:Int)/\1<=i) (μ:=λs=>xs.length-s.toNat)
  (R:=λ_=>True) (by
  rintro _ ⟨i,rfl,h1⟩
  unfold Ce
  by_cases hi:i<xs.length
  ·rw[ifo,wIo,show(i:Int)-1=((i-1:Nat):Int) from by omega,A3,A3,zC hi,zC omg]
   simp only[zA,Acl]
   by_cases hc:0<=Dp xs[i-1] xs[i]
   ·right;right
    rw[ifp hc]
    exact⟨_,rfl,trivial⟩
   ·left
    rw[ifq]
    exact⟨_,rfl,⟨i+1,by rw[wIo];rfl,by omega⟩,by rw[wIo];omega⟩
  ·right;left
   rw[ifq]
   exact⟨_,rfl,trivial⟩) fuel 1 ⟨1,rfl,zO _⟩ (Bs (by show xs.length-1<=_;omega))
 unfold B6
 rw[hv]
 cases v with
 | inl r=>exact⟨r,rfl⟩
 | inr u=>exact⟨true,rfl⟩
def knR (x:Ap):B0:=⟨x.Tx,x.Rng.Lo,x.Rng.Hi,x.Rng.Open⟩
theorem Anz {a b:Ap} (h:knR a=knR b):a=b:=by
 cases a with|mk t r=>cases r;cases b with|mk t' r'=>cases r';simp [knR] at h;simp [h]
theorem Azi (x:Ap):Jf x=some (knR x):=rfl
section
variable {κ:Type} [DecidableEq κ]
def Abx (l:List κ) (k:κ):List κ:=if k∈l then l else l++[k]
theorem Ajw (M:List (κ×Int)) (k:κ) (i:Int):(Wi M k i).map (·.1)=Abx (M.map (·.1)) k:=by
 unfold Abx
 by_cases h:k∈M.map (·.1)
 ·rw[if_pos h]
  unfold Wi
  rw[if_pos (show(M.any λx=>decide (x.1=k))=true from Ss.2 h),List.map_map]
  apply kW
  intro x _
  simp only[Function.comp]
  split <;> rfl
 ·rw[if_neg h,Ae6 h,xC];rfl
theorem Apv {l:List κ} {k x:κ}:x∈Abx l k↔x∈l\/x=k:=by
 unfold Abx
 split
 ·constructor
  ·exact .inl
  ·rintro(h|rfl)
   ·exact h
   ·assumption
 ·rw[yC,zP]
theorem Ajn {l:List κ} (h:l.Nodup) (k:κ):(Abx l k).Nodup:=by
 unfold Abx
 split
 ·exact h
 ·rename_i hk
  refine jR.2 ⟨h,by simp,λa ha b hb=>?_⟩
  rw[zP.1 hb]
  exact λe=>hk (e ▸ ha)
theorem Atv:∀ (l acc:List κ),acc.Nodup->(l.foldl Abx acc).Nodup/\(∀ x,x∈l.foldl Abx acc↔x∈acc\/x∈l)/\(l.foldl Abx acc).length<=acc.length+l.length/\((l.foldl Abx acc).length=acc.length+l.length↔(acc++l).Nodup)
 | [],acc,h=>⟨h,λx=>by simp,by simp,by simp [h]⟩
 | k::l,acc,h=>by
  obtain⟨h1,h2,h3,h4⟩:=Atv l (Abx acc k) (Ajn h k)
  rw[kO]
  have hlen:(Abx acc k).length=acc.length/\k∈acc\/(Abx acc k).length=acc.length+1/\k∉acc/\Abx acc k=acc++[k]:=by
   unfold Abx
   split
   ·exact .inl ⟨rfl,by assumption⟩
   ·exact .inr ⟨by simp,by assumption,rfl⟩
  refine⟨h1,λx=>?_,?_,?_⟩
  ·rw[h2,Apv,yM,or_assoc]
  ·rw[xD];rcases hlen with⟨h,_⟩|⟨h,_⟩ <;> omega
  ·rcases hlen with⟨h5,h6⟩|⟨h5,h6,h7⟩
   ·constructor
    ·intro he;rw[xD] at he;omega
    ·intro hn
     have:=(jR.1 hn).2.2 k h6 k (yR ..)
     exact absurd rfl this
   ·rw[xD]
    rw[h7,xM,List.singleton_append] at h4
    rw[<- h4,h7]
    constructor <;> intro h <;> simp at h ⊢ <;> omega
end
theorem Abf (l:List Ap):∃ M:List (B0×Int),(l.length<=1000000->True/\Ia l=some M)/\M.map (·.1)=(l.map knR).foldl Abx []:=by
 have key:∀ (f:Int×List (B0×Int)->Option (LB (Int×List (B0×Int)) (List (B0×Int)))),(∀ (i:Nat) x acc,l[i]? = some x->l.length<=1000000->f ((i:Int),acc)=some (.cont (((i+1:Nat):Int),Wi acc (knR x) (i:Int))))->(∀ acc,f ((l.length:Int),acc)=some (.brk acc)) ->
   ∃ M,(l.length<=1000000->B8 f fuel (0,[])=some M)/\M.map (·.1)=(l.map knR).foldl Abx []:=λf h1 h2=>by
  by_cases hl:l.length<=1000000
  ·obtain⟨v,hv,hr⟩:=Cj (f:=f) (P:=λs=>∃ (i:Nat) (M:List (B0×Int)),i<=l.length/\s=((i:Int),M)/\M.map (·.1)=((l.take i).map knR).foldl Abx []) (μ:=λs=>l.length-s.1.toNat) (R:=λM=>M.map (·.1)=(l.map knR).foldl Abx []) (by
    rintro _ ⟨i,M,hi,rfl,hm⟩
    rcases zU i l.length with hlt|hge
    ·left
     refine⟨_,h1 i _ _ (zC hlt) hl,⟨i+1,_,hlt,rfl,?_⟩,by simp only[zT];omega⟩
     rw[Ajw,hm,zV hlt,xC,List.foldl_append]
     rfl
    ·right
     have e:i=l.length:=by omega
     subst e
     exact⟨_,h2 _,by rw[yJ] at hm;exact hm⟩) fuel (0,[]) ⟨0,[],zZ _,rfl,rfl⟩ (Bs (by show l.length-0<=_;omega))
   exact⟨v,λ_=>hv,hr⟩
  ·refine⟨((l.map knR).foldl Abx []).map (λk=>(k,0)),λh=>absurd h hl,?_⟩
   rw[List.map_map]
   exact kZ _
 obtain⟨M,hM,hk⟩:=key (Fc l) (λi x acc hx hl=>by
  have hlt:=(zB.1 hx).1
  unfold Fc
  dsimp only
  rw[ifo,A3,hx,zA,Azi,zA,wIo]
  rfl) (λacc=>by
  unfold Fc
  dsimp only
  rw[ifq])
 refine⟨M,λhl=>?_,hk⟩
 have h:=hM hl
 refine⟨trivial,?_⟩
 unfold Ia
 rw[h];rfl
def srV (x:Ap):Bool:=(Dd x).getD false
theorem Aja (r:Ar):∃ v,Fs r=some v:=by
 unfold Fs Eh
 simp only[Acl,zA]
 repeat' (first|exact⟨_,rfl⟩|split|dsimp only [Option.bind_some])
 all_goals
  rename_i h1 h2
  have hl:(0:Int)<r.Hi.length:=by have:=of_decide_eq_true h2;omega
  obtain⟨u,hu,_⟩:=Asi (xs:=r.Hi) (j:=0) dcd hl
  rw[hu,zA]
  split <;> exact⟨_,rfl⟩
theorem Ay8 (x:Ap):Dd x=some (srV x):=by
 have:∃ b,Dd x=some b:=by
  obtain⟨v,hv⟩:=Aja ⟨x.Rng.Lo,x.Rng.Hi,x.Rng.Open⟩
  unfold Dd E1
  simp only[hv,zA]
  repeat' (first|exact⟨_,rfl⟩|split|dsimp only [Option.bind_some])
 obtain⟨b,hb⟩:=this
 unfold srV
 rw[hb];rfl
structure Good (l:List Ap):Prop where
 sr:∀ x∈l,srV x=true
 len:l.length<=128
 nd:l.Nodup
theorem Aht {l:List Ap}:(l.map knR).Nodup↔l.Nodup:=by
 constructor
 ·exact Q8 _
 ·intro h
  exact wF.2 (h.imp λhne e=>hne (Anz e))
theorem sane_m {l:List Ap} (hl:l.length<=1000000):∃ b,Gd ⟨l⟩=some b/\(b=true↔Good l):=by
 unfold Gd
 rw[Ayy l srV false (Gu ⟨l⟩) omg (λi x hx=>by
  have hlt:=(zB.1 hx).1
  unfold Gu
  dsimp only
  rw[ifo,A3,hx,zA,Ay8,zA,wIo]
  cases srV x <;> rfl) (by
  unfold Gu
  dsimp only
  rw[ifq])]
 cases ha:l.all srV with
 | false =>
  refine⟨false,rfl,(λh=>by cases h),λh=>?_⟩
  rw[zL.2 h.sr] at ha;cases ha
 | true =>
  show ∃ b,Jk ⟨l⟩ ()=some b/\_
  unfold Jk
  dsimp only
  by_cases h128:l.length<=128
  ·rw[ifo]
   obtain⟨M,hM,hk⟩:=Abf l
   rw[(hM hl).2,zA]
   refine⟨_,rfl,?_⟩
   have hf:=Atv (l.map knR) [] kJ
   rw[<- hk] at hf
   simp only[zY,kV,yK,wZ] at hf
   rw[decide_eq_true_eq]
   constructor
   ·intro h
    exact⟨zL.1 ha,h128,Aht.1 (hf.2.2.2.1 omg)⟩
   ·intro h
    have:=hf.2.2.2.2 (Aht.2 h.nd)
    omega
  ·rw[ifq]
   exact⟨false,rfl,λh=>(by cases h),λh=>absurd h.len h128⟩
theorem Vn {l:List Ap} (h:Good l):Gd ⟨l⟩=some true:=by
 obtain⟨b,hb,hi⟩:=sane_m (l:=l) (by have:=h.len;omega)
 rw[hb,hi.2 h]
theorem Ajp (a b:List Ap) (h:(a.length+b.length)*64<=140737488355328):F9 [a,b]=some (a++b):=by
 have:=Uk [a,b] (by simpa using h) smp
 rw[this];simp
theorem Ay4 {l:List Ap} (hl:l.length<=1000000) (tx:Int) (r:Ar) :
  (Good l/\srV ⟨tx,r⟩=true/\(((⟨tx,r⟩:Ap)∈l/\Hb ⟨l⟩ tx r=some (⟨l⟩,0))\/((⟨tx,r⟩:Ap)∉l/\((128<=l.length/\Hb ⟨l⟩ tx r=some (⟨[]⟩,8))\/(l.length<128/\Hb ⟨l⟩ tx r=some (⟨l++[⟨tx,r⟩]⟩,0)/\Good (l++[⟨tx,r⟩])))))) \/
  (¬ (Good l/\srV ⟨tx,r⟩=true)/\Hb ⟨l⟩ tx r=some (⟨[]⟩,1)):=by
 unfold Hb
 obtain⟨b,hb,hi⟩:=sane_m hl
 dsimp only
 rw[hb,zA]
 cases b with
 | false =>
  refine .inr ⟨λh=>?_,by rw[if_pos (by rfl)]⟩
  have:=hi.2 h.1;cases this
 | true =>
  have hg:=hi.1 rfl
  rw[if_neg (nn (by rfl)),Ay8,zA]
  cases hs:srV ⟨tx,r⟩ with
  | false=>exact .inr ⟨λh=>(by cases h.2),by rw[if_pos (by rfl)]⟩
  | true =>
   rw[if_neg (nn (by rfl))]
   refine .inl ⟨hg,rfl,?_⟩
   unfold N6
   dsimp only
   obtain⟨M,hM,hk⟩:=Abf l
   have hf:=Atv (l.map knR) [] kJ
   rw[<- hk] at hf
   rw[(hM hl).2,zA,Azi,zA]
   have hmem:Adr M (knR ⟨tx,r⟩)=true↔(⟨tx,r⟩:Ap)∈l:=by
    rw[Ss,hf.2.1]
    simp only[List.not_mem_nil,false_or]
    constructor
    ·intro h
     obtain⟨x,hx,he⟩:=z8.1 h
     rw[<- Anz he];exact hx
    ·intro h;exact z8.2 ⟨_,h,rfl⟩
   by_cases hin:(⟨tx,r⟩:Ap)∈l
   ·rw[if_pos (hmem.2 hin)]
    exact .inl ⟨hin,rfl⟩
   ·rw[if_neg (λh=>hin (hmem.1 h))]
    refine .inr ⟨hin,?_⟩
    by_cases h128:128<=l.length
    ·rw[ifo]
     exact .inl ⟨h128,rfl⟩
    ·rw[ifq,Ajp _ _ (by rw[yD];omega)]
     refine .inr ⟨by omega,rfl,λx hx=>?_,by rw[zH,yD];omega,?_⟩
     ·rcases yC.1 hx with hx|hx
      ·exact hg.sr x hx
      ·rw[zP.1 hx];exact hs
     ·refine jR.2 ⟨hg.nd,by simp,λa ha b hb=>?_⟩
      rw[zP.1 hb]
      exact λe=>hin (e ▸ ha)
def Aa9 (l:List Ap) (k:List UInt8):List Int:=(l.filter λx=>hasV x.Rng k).map (·.Tx)
theorem Avr {l:List Ap} (hl:l.length<=1000000) (k:List UInt8):Kf ⟨l⟩ k=some (Ae7 (Aa9 l k)):=by
 unfold Kf
 rw[Ajm l (λx=>if hasV x.Rng k then[x.Tx] else[]) (Gy ⟨l⟩ k) 1 (λx=>by split <;> simp) omg (λi x acc hx ha=>by
  have hlt:=(zB.1 hx).1
  unfold Gy
  dsimp only
  rw[ifo,A3,hx,zA,Alo,zA,wIo]
  cases hasV x.Rng k with
  | true=>rw[if_pos rfl,if_pos (by rw[yD];omega),if_pos rfl];rfl
  | false=>rw[if_neg (nn (by rfl)),if_neg (nn (by rfl)),xG];rfl) (λacc=>by
  unfold Gy
  dsimp only
  rw[ifq]),zA,Y9]
 have hlen:(Aa9 l k).length<=l.length:=by
  unfold Aa9;rw[zY];exact wC _ _
 show Jm (Aa9 l k)=_
 unfold Jm Pe Ml
 rw[if_pos omg,zA,if_pos (jU _),if_pos (by rw[jU];omega)]
 rfl
theorem Ahj {l:List Ap} {k:List UInt8} {t:Int}:t∈Ae7 (Aa9 l k)↔∃ x∈l,hasV x.Rng k=true/\x.Tx=t:=by
 rw[Akn]
 unfold Aa9
 rw[z8]
 constructor
 ·rintro⟨x,hx,rfl⟩
  obtain⟨h1,h2⟩:=yG.1 hx
  exact⟨x,h1,h2,rfl⟩
 ·rintro⟨x,h1,h2,rfl⟩
  exact⟨x,yG.2 ⟨h1,h2⟩,rfl⟩
theorem Xw (txs:List Int) (t:Int) (hl:txs.length<=1000000):Dv txs t=some (decide (t∈txs)):=by
 unfold Dv Ek
 obtain⟨v,hv,hr⟩:=Cr (f:=Dx txs t) (P:=λs=>∃ i:Nat,i<=txs.length/\s=(i:Int)/\t∉txs.take i) (μ:=λs=>txs.length-s.toNat)
  (R:=λx=>match x with | .inl r=>0<=r/\t∈txs | .inr _=>t∉txs) (by
   rintro _ ⟨i,hi,rfl,hp⟩
   unfold Dx
   rcases zU i txs.length with hlt|hge
   ·rw[ifo,A3,zC hlt,zA,wIo]
    by_cases he:t=txs[i]
    ·rw[ifp he]
     exact .inr (.inr ⟨_,rfl,xV _,by rw[he];exact xZ _⟩)
    ·rw[ifn he]
     refine .inl ⟨_,rfl,⟨i+1,hlt,rfl,?_⟩,by simp only[zT];omega⟩
     rw[zV hlt,yC,zP]
     rintro(h|h)
     ·exact hp h
     ·exact he h
   ·have e:i=txs.length:=by omega
    subst e
    rw[ifq]
    rw[yJ] at hp
    exact .inr (.inl ⟨_,rfl,hp⟩)) fuel 0 ⟨0,zZ _,rfl,by simp⟩ (Bs (by show txs.length-0<=_;omega))
 rw[hv]
 cases v with
 | inl r =>
  show some (decide (0<=r))=_
  rw[decide_eq_true hr.1,decide_eq_true hr.2]
 | inr u =>
  show some (decide ((0:Int) <= -1))=_
  rw[decide_eq_false (show ¬ t∈txs from hr)]
  rfl
def Aa3 (l:List Ap) (txs:List Int) (b:Bool):List Ap:=l.filter λx=>decide (x.Tx∈txs)==b
theorem Ave {l:List Ap} (hl:l.length<=1000000) (txs:List Int) (ht:txs.length<=1000000) (b:Bool):Nl ⟨l⟩ txs b=some ⟨Aa3 l txs b⟩:=by
 unfold Nl
 rw[Ajm l (λx=>if decide (x.Tx∈txs)==b then[x] else[]) (Gr ⟨l⟩ txs b) 1 (λx=>by split <;> simp) omg (λi x acc hx ha=>by
  have hlt:=(zB.1 hx).1
  unfold Gr
  dsimp only
  rw[ifo,A3,hx,zA,Xw txs _ ht,zA,wIo]
  cases (decide (x.Tx∈txs)==b) with
  | true=>rw[if_pos rfl,if_pos (by rw[yD];omega),if_pos rfl];rfl
  | false=>rw[if_neg (nn (by rfl)),if_neg (nn (by rfl)),xG];rfl) (λacc=>by
  unfold Gr
  dsimp only
  rw[ifq]),zA,Y9,List.map_id']
 rfl
theorem Aru {l:List Ap} (hl:l.length<=1000000) (txs:List Int) (ht:txs.length<=1000000):J2 ⟨l⟩ txs=some ⟨Aa3 l txs false⟩:=by
 unfold J2
 rw[Ave hl txs ht];rfl
theorem Wq {l:List Ap} {txs:List Int} {b:Bool} {x:Ap}:x∈Aa3 l txs b↔x∈l/\(decide (x.Tx∈txs)=b):=by
 unfold Aa3
 rw[yG,beq_iff_eq]
theorem Aze {α ρ:Type} (xs:List α) (f:Int->Option (LR Int Unit ρ)) (hl:xs.length<=1000000000000000000)
  (h:∀ (i:Nat) x,xs[i]? = some x->f (i:Int)=some (.cont ((i+1:Nat):Int))) (hend:f (xs.length:Int)=some (.brk ())):Gj f fuel 0=some (.inr ()):=by
 obtain⟨v,hv,hr⟩:=Cr (f:=f) (P:=λs=>∃ i:Nat,i<=xs.length/\s=(i:Int)) (μ:=λs=>xs.length-s.toNat) (R:=λr=>r=.inr ()) (by
  rintro _ ⟨i,hi,rfl⟩
  rcases zU i xs.length with hlt|hge
  ·exact .inl ⟨_,h i _ (zC hlt),⟨i+1,hlt,rfl⟩,by simp only[zT];omega⟩
  ·have e:i=xs.length:=by omega
   subst e
   exact .inr (.inl ⟨(),hend,rfl⟩)) fuel 0 ⟨0,zZ _,rfl⟩ (Bs (by show xs.length-0<=_;omega))
 rw[hv,hr]
theorem Aml (l:List Ap) (k:List UInt8):(Ae7 (Aa9 l k)).length<=l.length:=by
 refine yP (Amg _) ?_
 unfold Aa9
 rw[zY]
 exact wC _ _
def Ayv (k:List UInt8):Ar:=⟨k,k++[0],false⟩
instance:DecidableEq Ar:=λa b=>decidable_of_iff (a.Lo=b.Lo/\a.Hi=b.Hi/\a.Open=b.Open) (by cases a;cases b;simp)
end Go.Proofs.YtkblaobhhoebaaaGreat.Abs.ss
