/-
 What the library's functions compute.
-/
import Derived.Test.YtkblaobhhoebaaaGreatSB14
set_option linter.unusedVariables false
set_option linter.unusedSimpArgs false
namespace Go.Proofs.YtkblaobhhoebaaaGreat.Abs.ss
open Go.Proofs.YtkblaobhhoebaaaGreat.Abs.bf
theorem sorted_some (xs:Keys) (hn:xs.length<=1000000000000000000):∃ v,Cr xs=some v:=by
 obtain⟨v,hv,hr⟩:=D2 (f:=Cu xs) (P:=λs=>∃ i:Nat,s=(i:Int)/\1<=i) (μ:=λs=>xs.length-s.toNat)
  (R:=λ_=>True) (by
  rintro _ ⟨i,rfl,h1⟩
  unfold Cu
  by_cases hi:i<xs.length
  ·rw[if_pos (decide_eq_true (by omega)),Cd (by omega) (by omega),show(i:Int)-1=((i-1:Nat):Int) from by omega,Bo,Bo,zB hi,zB (by omega)]
   simp only[zA,Aen]
   by_cases hc:0<=Gm xs[i-1] xs[i]
   ·right;right
    rw[if_pos (decide_eq_true hc)]
    exact⟨_,rfl,trivial⟩
   ·left
    rw[if_neg (by rw[decide_eq_true_eq];omega)]
    exact⟨_,rfl,⟨i+1,by rw[Cd (by omega) (by omega)];rfl,by omega⟩,by rw[Cd (by omega) (by omega)];omega⟩
  ·right;left
   rw[if_neg (by rw[decide_eq_true_eq];omega)]
   exact⟨_,rfl,trivial⟩) fuel 1 ⟨1,rfl,zN _⟩ (Co (by show xs.length-1<=_;omega))
 unfold Cr
 rw[hv]
 cases v with
 | inl r=>exact⟨r,rfl⟩
 | inr u=>exact⟨true,rfl⟩
def knR (x:A4):Cn:=⟨x.Tx,x.Rng.Lo,x.Rng.Hi,x.Rng.Open⟩
theorem Ap1 {a b:A4} (h:knR a=knR b):a=b:=by
 cases a with|mk t r=>cases r;cases b with|mk t' r'=>cases r';simp [knR] at h;simp [h]
theorem A4s (x:A4):J0 x=some (knR x):=rfl
section
variable {κ:Type} [DecidableEq κ]
def Ad3 (l:List κ) (k:κ):List κ:=if k∈l then l else l++[k]
theorem Alw (M:List (κ×Int)) (k:κ) (i:Int):(Yc M k i).map (·.1)=Ad3 (M.map (·.1)) k:=by
 unfold Ad3
 by_cases h:k∈M.map (·.1)
 ·rw[if_pos h]
  unfold Yc
  rw[if_pos (show(M.any λx=>decide (x.1=k))=true from Uu.2 h),List.map_map]
  apply kJ
  intro x _
  simp only[Function.comp]
  split <;> rfl
 ·rw[if_neg h,Agb h,wA];rfl
theorem Art {l:List κ} {k x:κ}:x∈Ad3 l k↔x∈l\/x=k:=by
 unfold Ad3
 split
 ·constructor
  ·exact .inl
  ·rintro(h|rfl)
   ·exact h
   ·assumption
 ·rw[yH,zV]
theorem Amx {l:List κ} (h:l.Nodup) (k:κ):(Ad3 l k).Nodup:=by
 unfold Ad3
 split
 ·exact h
 ·rename_i hk
  refine jU.2 ⟨h,by simp,λa ha b hb=>?_⟩
  rw[zV.1 hb]
  exact λe=>hk (e ▸ ha)
theorem Avv:∀ (l acc:List κ),acc.Nodup->(l.foldl Ad3 acc).Nodup/\(∀ x,x∈l.foldl Ad3 acc↔x∈acc\/x∈l)/\(l.foldl Ad3 acc).length<=acc.length+l.length/\((l.foldl Ad3 acc).length=acc.length+l.length↔(acc++l).Nodup)
 | [],acc,h=>⟨h,λx=>by simp,by simp,by simp [h]⟩
 | k::l,acc,h=>by
  obtain⟨h1,h2,h3,h4⟩:=Avv l (Ad3 acc k) (Amx h k)
  rw[kX]
  have hlen:(Ad3 acc k).length=acc.length/\k∈acc\/(Ad3 acc k).length=acc.length+1/\k∉acc/\Ad3 acc k=acc++[k]:=by
   unfold Ad3
   split
   ·exact .inl ⟨rfl,by assumption⟩
   ·exact .inr ⟨by simp,by assumption,rfl⟩
  refine⟨h1,λx=>?_,?_,?_⟩
  ·rw[h2,Art,yM,or_assoc]
  ·rw[yW];rcases hlen with⟨h,_⟩|⟨h,_⟩ <;> omega
  ·rcases hlen with⟨h5,h6⟩|⟨h5,h6,h7⟩
   ·constructor
    ·intro he;rw[yW] at he;omega
    ·intro hn
     have:=(jU.1 hn).2.2 k h6 k (yV ..)
     exact absurd rfl this
   ·rw[yW]
    rw[h7,xO,List.singleton_append] at h4
    rw[<- h4,h7]
    constructor <;> intro h <;> simp at h ⊢ <;> omega
end
theorem Ad8 (l:List A4):∃ M:List (Cn×Int),(l.length<=1000000->True/\H9 l=some M)/\M.map (·.1)=(l.map knR).foldl Ad3 []:=by
 have key:∀ (f:Int×List (Cn×Int)->Option (LB (Int×List (Cn×Int)) (List (Cn×Int)))),(∀ (i:Nat) x acc,l[i]? = some x->l.length<=1000000->f ((i:Int),acc)=some (.cont (((i+1:Nat):Int),Yc acc (knR x) (i:Int))))->(∀ acc,f ((l.length:Int),acc)=some (.brk acc)) ->
   ∃ M,(l.length<=1000000->Cz f fuel (0,[])=some M)/\M.map (·.1)=(l.map knR).foldl Ad3 []:=λf h1 h2=>by
  by_cases hl:l.length<=1000000
  ·obtain⟨v,hv,hr⟩:=Dm (f:=f) (P:=λs=>∃ (i:Nat) (M:List (Cn×Int)),i<=l.length/\s=((i:Int),M)/\M.map (·.1)=((l.take i).map knR).foldl Ad3 []) (μ:=λs=>l.length-s.1.toNat) (R:=λM=>M.map (·.1)=(l.map knR).foldl Ad3 []) (by
    rintro _ ⟨i,M,hi,rfl,hm⟩
    rcases zO i l.length with hlt|hge
    ·left
     refine⟨_,h1 i _ _ (zB hlt) hl,⟨i+1,_,hlt,rfl,?_⟩,by simp only[zT];omega⟩
     rw[Alw,hm,zM hlt,wA,List.foldl_append]
     rfl
    ·right
     have e:i=l.length:=by omega
     subst e
     exact⟨_,h2 _,by rw[yF] at hm;exact hm⟩) fuel (0,[]) ⟨0,[],zX _,rfl,rfl⟩ (Co (by show l.length-0<=_;omega))
   exact⟨v,λ_=>hv,hr⟩
  ·refine⟨((l.map knR).foldl Ad3 []).map (λk=>(k,0)),λh=>absurd h hl,?_⟩
   rw[List.map_map]
   exact kN _
 obtain⟨M,hM,hk⟩:=key (Fi l) (λi x acc hx hl=>by
  have hlt:=(zC.1 hx).1
  unfold Fi
  dsimp only
  rw[if_pos (decide_eq_true (by omega)),Bo,hx,zA,A4s,zA,Cd (by omega) (by omega)]
  rfl) (λacc=>by
  unfold Fi
  dsimp only
  rw[if_neg (by rw[decide_eq_true_eq];omega)])
 refine⟨M,λhl=>?_,hk⟩
 have h:=hM hl
 refine⟨trivial,?_⟩
 unfold H9
 rw[h];rfl
def srV (x:A4):Bool:=(Dv x).getD false
theorem Am0 (r:Bh):∃ v,Hs r=some v:=by
 unfold Hs F4
 simp only[Aen,zA]
 repeat' (first|exact⟨_,rfl⟩|split|dsimp only [Option.bind_some])
 all_goals
  rename_i h1 h2
  have hl:(0:Int)<r.Hi.length:=by have:=of_decide_eq_true h2;omega
  obtain⟨u,hu,_⟩:=Avj (xs:=r.Hi) (j:=0) (by decide) hl
  rw[hu,zA]
  split <;> exact⟨_,rfl⟩
theorem A42 (x:A4):Dv x=some (srV x):=by
 have:∃ b,Dv x=some b:=by
  obtain⟨v,hv⟩:=Am0 ⟨x.Rng.Lo,x.Rng.Hi,x.Rng.Open⟩
  unfold Dv E6
  simp only[hv,zA]
  repeat' (first|exact⟨_,rfl⟩|split|dsimp only [Option.bind_some])
 obtain⟨b,hb⟩:=this
 unfold srV
 rw[hb];rfl
structure Good (l:List A4):Prop where
 sr:∀ x∈l,srV x=true
 len:l.length<=128
 nd:l.Nodup
theorem Ak2 {l:List A4}:(l.map knR).Nodup↔l.Nodup:=by
 constructor
 ·exact Tz _
 ·intro h
  exact wF.2 (h.imp λhne e=>hne (Ap1 e))
theorem sane_m {l:List A4} (hl:l.length<=1000000):∃ b,Gg ⟨l⟩=some b/\(b=true↔Good l):=by
 unfold Gg
 rw[A3n l srV false (Gy ⟨l⟩) (by omega) (λi x hx=>by
  have hlt:=(zC.1 hx).1
  unfold Gy
  dsimp only
  rw[if_pos (decide_eq_true (by omega)),Bo,hx,zA,A42,zA,Cd (by omega) (by omega)]
  cases srV x <;> rfl) (by
  unfold Gy
  dsimp only
  rw[if_neg (by rw[decide_eq_true_eq];omega)])]
 cases ha:l.all srV with
 | false =>
  refine⟨false,rfl,(λh=>by cases h),λh=>?_⟩
  rw[zI.2 h.sr] at ha;cases ha
 | true =>
  show ∃ b,Jh ⟨l⟩ ()=some b/\_
  unfold Jh
  dsimp only
  by_cases h128:l.length<=128
  ·rw[if_pos (decide_eq_true (by omega))]
   obtain⟨M,hM,hk⟩:=Ad8 l
   rw[(hM hl).2,zA]
   refine⟨_,rfl,?_⟩
   have hf:=Avv (l.map knR) [] kF
   rw[<- hk] at hf
   simp only[z2,jN,yE,wX] at hf
   rw[decide_eq_true_eq]
   constructor
   ·intro h
    exact⟨zI.1 ha,h128,Ak2.1 (hf.2.2.2.1 (by omega))⟩
   ·intro h
    have:=hf.2.2.2.2 (Ak2.2 h.nd)
    omega
  ·rw[if_neg (by rw[decide_eq_true_eq];omega)]
   exact⟨false,rfl,λh=>(by cases h),λh=>absurd h.len h128⟩
theorem Abk {l:List A4} (h:Good l):Gg ⟨l⟩=some true:=by
 obtain⟨b,hb,hi⟩:=sane_m (l:=l) (by have:=h.len;omega)
 rw[hb,hi.2 h]
theorem Als (a b:List A4) (h:(a.length+b.length)*64<=140737488355328):F6 [a,b]=some (a++b):=by
 have:=Wn [a,b] (by simpa using h) (by simp)
 rw[this];simp
theorem A2h {l:List A4} (hl:l.length<=1000000) (tx:Int) (r:Bh) :
  (Good l/\srV ⟨tx,r⟩=true/\(((⟨tx,r⟩:A4)∈l/\Ht ⟨l⟩ tx r=some (⟨l⟩,0))\/((⟨tx,r⟩:A4)∉l/\((128<=l.length/\Ht ⟨l⟩ tx r=some (⟨[]⟩,8))\/(l.length<128/\Ht ⟨l⟩ tx r=some (⟨l++[⟨tx,r⟩]⟩,0)/\Good (l++[⟨tx,r⟩])))))) \/
  (¬ (Good l/\srV ⟨tx,r⟩=true)/\Ht ⟨l⟩ tx r=some (⟨[]⟩,1)):=by
 unfold Ht
 obtain⟨b,hb,hi⟩:=sane_m hl
 dsimp only
 rw[hb,zA]
 cases b with
 | false =>
  refine .inr ⟨λh=>?_,by rw[if_pos (by rfl)]⟩
  have:=hi.2 h.1;cases this
 | true =>
  have hg:=hi.1 rfl
  rw[if_neg (nn (by rfl)),A42,zA]
  cases hs:srV ⟨tx,r⟩ with
  | false=>exact .inr ⟨λh=>(by cases h.2),by rw[if_pos (by rfl)]⟩
  | true =>
   rw[if_neg (nn (by rfl))]
   refine .inl ⟨hg,rfl,?_⟩
   unfold Od
   dsimp only
   obtain⟨M,hM,hk⟩:=Ad8 l
   have hf:=Avv (l.map knR) [] kF
   rw[<- hk] at hf
   rw[(hM hl).2,zA,A4s,zA]
   have hmem:Agh M (knR ⟨tx,r⟩)=true↔(⟨tx,r⟩:A4)∈l:=by
    rw[Uu,hf.2.1]
    simp only[List.not_mem_nil,false_or]
    constructor
    ·intro h
     obtain⟨x,hx,he⟩:=yN.1 h
     rw[<- Ap1 he];exact hx
    ·intro h;exact yN.2 ⟨_,h,rfl⟩
   by_cases hin:(⟨tx,r⟩:A4)∈l
   ·rw[if_pos (hmem.2 hin)]
    exact .inl ⟨hin,rfl⟩
   ·rw[if_neg (λh=>hin (hmem.1 h))]
    refine .inr ⟨hin,?_⟩
    by_cases h128:128<=l.length
    ·rw[if_pos (decide_eq_true (by omega))]
     exact .inl ⟨h128,rfl⟩
    ·rw[if_neg (by rw[decide_eq_true_eq];omega),Als _ _ (by rw[z6];omega)]
     refine .inr ⟨by omega,rfl,λx hx=>?_,by rw[zH,z6];omega,?_⟩
     ·rcases yH.1 hx with hx|hx
      ·exact hg.sr x hx
      ·rw[zV.1 hx];exact hs
     ·refine jU.2 ⟨hg.nd,by simp,λa ha b hb=>?_⟩
      rw[zV.1 hb]
      exact λe=>hin (e ▸ ha)
def Ac7 (l:List A4) (k:List UInt8):List Int:=(l.filter λx=>Ah9 x.Rng k).map (·.Tx)
theorem Azg {l:List A4} (hl:l.length<=1000000) (k:List UInt8):K7 ⟨l⟩ k=some (Aft (Ac7 l k)):=by
 unfold K7
 rw[Ama l (λx=>if Ah9 x.Rng k then[x.Tx] else[]) (Gu ⟨l⟩ k) 1 (λx=>by split <;> simp) (by omega) (λi x acc hx ha=>by
  have hlt:=(zC.1 hx).1
  unfold Gu
  dsimp only
  rw[if_pos (decide_eq_true (by omega)),Bo,hx,zA,Apz,zA,Cd (by omega) (by omega)]
  cases Ah9 x.Rng k with
  | true=>rw[if_pos rfl,if_pos (by rw[z6];omega),if_pos rfl];rfl
  | false=>rw[if_neg (nn (by rfl)),if_neg (nn (by rfl)),xG];rfl) (λacc=>by
  unfold Gu
  dsimp only
  rw[if_neg (by rw[decide_eq_true_eq];omega)]),zA,Abj]
 have hlen:(Ac7 l k).length<=l.length:=by
  unfold Ac7;rw[z2];exact xQ _ _
 show Ji (Ac7 l k)=_
 unfold Ji O9 Lw
 rw[if_pos (by omega),zA,if_pos (jB _),if_pos (by rw[jB];omega)]
 rfl
theorem Akv {l:List A4} {k:List UInt8} {t:Int}:t∈Aft (Ac7 l k)↔∃ x∈l,Ah9 x.Rng k=true/\x.Tx=t:=by
 rw[An4]
 unfold Ac7
 rw[yN]
 constructor
 ·rintro⟨x,hx,rfl⟩
  obtain⟨h1,h2⟩:=xD.1 hx
  exact⟨x,h1,h2,rfl⟩
 ·rintro⟨x,h1,h2,rfl⟩
  exact⟨x,xD.2 ⟨h1,h2⟩,rfl⟩
theorem Zk (txs:List Int) (t:Int) (hl:txs.length<=1000000):D4 txs t=some (decide (t∈txs)):=by
 unfold D4 Ew
 obtain⟨v,hv,hr⟩:=D2 (f:=D5 txs t) (P:=λs=>∃ i:Nat,i<=txs.length/\s=(i:Int)/\t∉txs.take i) (μ:=λs=>txs.length-s.toNat)
  (R:=λx=>match x with | .inl r=>0<=r/\t∈txs | .inr _=>t∉txs) (by
   rintro _ ⟨i,hi,rfl,hp⟩
   unfold D5
   rcases zO i txs.length with hlt|hge
   ·rw[if_pos (decide_eq_true (by omega)),Bo,zB hlt,zA,Cd (by omega) (by omega)]
    by_cases he:t=txs[i]
    ·rw[if_pos (decide_eq_true he)]
     exact .inr (.inr ⟨_,rfl,xL _,by rw[he];exact yY _⟩)
    ·rw[if_neg (by rw[decide_eq_true_eq];exact he)]
     refine .inl ⟨_,rfl,⟨i+1,hlt,rfl,?_⟩,by simp only[zT];omega⟩
     rw[zM hlt,yH,zV]
     rintro(h|h)
     ·exact hp h
     ·exact he h
   ·have e:i=txs.length:=by omega
    subst e
    rw[if_neg (by rw[decide_eq_true_eq];omega)]
    rw[yF] at hp
    exact .inr (.inl ⟨_,rfl,hp⟩)) fuel 0 ⟨0,zX _,rfl,by simp⟩ (Co (by show txs.length-0<=_;omega))
 rw[hv]
 cases v with
 | inl r =>
  show some (decide (0<=r))=_
  rw[decide_eq_true hr.1,decide_eq_true hr.2]
 | inr u =>
  show some (decide ((0:Int) <= -1))=_
  rw[decide_eq_false (show ¬ t∈txs from hr)]
  rfl
def Add (l:List A4) (txs:List Int) (b:Bool):List A4:=l.filter λx=>decide (x.Tx∈txs)==b
theorem Azb {l:List A4} (hl:l.length<=1000000) (txs:List Int) (ht:txs.length<=1000000) (b:Bool):N2 ⟨l⟩ txs b=some ⟨Add l txs b⟩:=by
 unfold N2
 rw[Ama l (λx=>if decide (x.Tx∈txs)==b then[x] else[]) (Gr ⟨l⟩ txs b) 1 (λx=>by split <;> simp) (by omega) (λi x acc hx ha=>by
  have hlt:=(zC.1 hx).1
  unfold Gr
  dsimp only
  rw[if_pos (decide_eq_true (by omega)),Bo,hx,zA,Zk txs _ ht,zA,Cd (by omega) (by omega)]
  cases (decide (x.Tx∈txs)==b) with
  | true=>rw[if_pos rfl,if_pos (by rw[z6];omega),if_pos rfl];rfl
  | false=>rw[if_neg (nn (by rfl)),if_neg (nn (by rfl)),xG];rfl) (λacc=>by
  unfold Gr
  dsimp only
  rw[if_neg (by rw[decide_eq_true_eq];omega)]),zA,Abj,List.map_id']
 rfl
theorem Aua {l:List A4} (hl:l.length<=1000000) (txs:List Int) (ht:txs.length<=1000000):Kx ⟨l⟩ txs=some ⟨Add l txs false⟩:=by
 unfold Kx
 rw[Azb hl txs ht];rfl
theorem Yp {l:List A4} {txs:List Int} {b:Bool} {x:A4}:x∈Add l txs b↔x∈l/\(decide (x.Tx∈txs)=b):=by
 unfold Add
 rw[xD,beq_iff_eq]
theorem A4k {α ρ:Type} (xs:List α) (f:Int->Option (LR Int Unit ρ)) (hl:xs.length<=1000000000000000000)
  (h:∀ (i:Nat) x,xs[i]? = some x->f (i:Int)=some (.cont ((i+1:Nat):Int))) (hend:f (xs.length:Int)=some (.brk ())):Iz f fuel 0=some (.inr ()):=by
 obtain⟨v,hv,hr⟩:=D2 (f:=f) (P:=λs=>∃ i:Nat,i<=xs.length/\s=(i:Int)) (μ:=λs=>xs.length-s.toNat) (R:=λr=>r=.inr ()) (by
  rintro _ ⟨i,hi,rfl⟩
  rcases zO i xs.length with hlt|hge
  ·exact .inl ⟨_,h i _ (zB hlt),⟨i+1,hlt,rfl⟩,by simp only[zT];omega⟩
  ·have e:i=xs.length:=by omega
   subst e
   exact .inr (.inl ⟨(),hend,rfl⟩)) fuel 0 ⟨0,zX _,rfl⟩ (Co (by show xs.length-0<=_;omega))
 rw[hv,hr]
theorem Am7 (l:List A4) (k:List UInt8):(Aft (Ac7 l k)).length<=l.length:=by
 refine yO (Ao5 _) ?_
 unfold Ac7
 rw[z2]
 exact xQ _ _
instance:DecidableEq Bh:=λa b=>decidable_of_iff (a.Lo=b.Lo/\a.Hi=b.Hi/\a.Open=b.Open) (by cases a;cases b;simp)
end Go.Proofs.YtkblaobhhoebaaaGreat.Abs.ss
