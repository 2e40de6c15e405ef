/-
 What the library's functions compute.
-/
import Derived.Test.YtkblaobhhoebaaaGreatYB14
set_option linter.unusedVariables false
set_option linter.unusedSimpArgs false
namespace Go.Proofs.YtkblaobhhoebaaaGreat.Abs.ss
open Go.Proofs.YtkblaobhhoebaaaGreat.Abs.bf
theorem sorted_some (xs:Keys) (hn:xs.length≤1000000000000000000):∃ v,Cm xs=some v:=by
 obtain ⟨v,hv,hr⟩:=Dt (f:=Co xs) (P:=fun s=>∃ i:Nat,s=(i:Int)∧1≤i) (μ:=fun s=>xs.length-s.toNat)
  (R:=fun _=>True) (by
  rintro _ ⟨i,rfl,h1⟩
  unfold Co
  by_cases hi:i<xs.length
  ·rw [if_pos (decide_eq_true (by omega)),Cd (by omega) (by omega),show (i:Int)-1=((i-1:Nat):Int) from by omega,Bp,Bp,zB hi,zB (by omega)]
   simp only [zA,Acl]
   by_cases hc:0≤Gc xs[i-1] xs[i]
   ·right;right
    rw [if_pos (decide_eq_true hc)]
    exact ⟨_,rfl,trivial⟩
   ·left
    rw [if_neg (by rw [decide_eq_true_eq];omega)]
    exact ⟨_,rfl,⟨i+1,by rw [Cd (by omega) (by omega)];rfl,by omega⟩,by rw [Cd (by omega) (by omega)];omega⟩
  ·right;left
   rw [if_neg (by rw [decide_eq_true_eq];omega)]
   exact ⟨_,rfl,trivial⟩) fuel 1 ⟨1,rfl,zN _⟩ (Ci (by show xs.length-1≤_;omega))
 unfold Cm
 rw [hv]
 cases v with
 | inl r=>exact ⟨r,rfl⟩
 | inr u=>exact ⟨true,rfl⟩
def knR (x:Az):Cj:=⟨x.Tx,x.Rng.Lo,x.Rng.Hi,x.Rng.Open⟩
theorem Alb {a b:Az} (h:knR a=knR b):a=b:=by
 cases a with | mk t r=>cases r;cases b with | mk t' r'=>cases r';simp [knR] at h;simp [h]
theorem Azs (x:Az):Ji x=some (knR x):=rfl
section
variable {κ:Type} [DecidableEq κ]
def Aa8 (l:List κ) (k:κ):List κ:=if k ∈ l then l else l++[k]
theorem Akc (M:List (κ × Int)) (k:κ) (i:Int):(Vg M k i).map (·.1)=Aa8 (M.map (·.1)) k:=by
 unfold Aa8
 by_cases h:k ∈ M.map (·.1)
 ·rw [if_pos h]
  unfold Vg
  rw [if_pos (show (M.any fun x=>decide (x.1=k))=true from Rx.2 h),List.map_map]
  apply kJ
  intro x _
  simp only [Function.comp]
  split <;> rfl
 ·rw [if_neg h,Afj h,wA];rfl
theorem Apy {l:List κ} {k x:κ}:x ∈ Aa8 l k ↔ x ∈ l∨x=k:=by
 unfold Aa8
 split
 ·constructor
  ·exact .inl
  ·rintro (h | rfl)
   ·exact h
   ·assumption
 ·rw [yH,zT]
theorem Ajw {l:List κ} (h:l.Nodup) (k:κ):(Aa8 l k).Nodup:=by
 unfold Aa8
 split
 ·exact h
 ·rename_i hk
  refine jT.2 ⟨h,by simp,fun a ha b hb=>?_⟩
  rw [zT.1 hb]
  exact fun e=>hk (e ▸ ha)
theorem Ate:∀ (l acc:List κ),acc.Nodup→(l.foldl Aa8 acc).Nodup∧(∀ x,x ∈ l.foldl Aa8 acc ↔ x ∈ acc∨x ∈ l)∧(l.foldl Aa8 acc).length≤acc.length+l.length∧((l.foldl Aa8 acc).length=acc.length+l.length ↔ (acc++l).Nodup)
 | [],acc,h=>⟨h,fun x=>by simp,by simp,by simp [h]⟩
 | k::l,acc,h=>by
  obtain ⟨h1,h2,h3,h4⟩:=Ate l (Aa8 acc k) (Ajw h k)
  rw [kX]
  have hlen:(Aa8 acc k).length=acc.length∧k ∈ acc∨(Aa8 acc k).length=acc.length+1∧k ∉ acc∧Aa8 acc k=acc++[k]:=by
   unfold Aa8
   split
   ·exact .inl ⟨rfl,by assumption⟩
   ·exact .inr ⟨by simp,by assumption,rfl⟩
  refine ⟨h1,fun x=>?_,?_,?_⟩
  ·rw [h2,Apy,yN,or_assoc]
  ·rw [y9];rcases hlen with ⟨h,_⟩ | ⟨h,_⟩ <;> omega
  ·rcases hlen with ⟨h5,h6⟩ | ⟨h5,h6,h7⟩
   ·constructor
    ·intro he;rw [y9] at he;omega
    ·intro hn
     have:=(jT.1 hn).2.2 k h6 k (yX ..)
     exact absurd rfl this
   ·rw [y9]
    rw [h7,xQ,List.singleton_append] at h4
    rw [← h4,h7]
    constructor <;> intro h <;> simp at h ⊢ <;> omega
end
theorem Aa9 (l:List Az):∃ M:List (Cj × Int),(l.length≤1000000→True∧Hb l=some M)∧M.map (·.1)=(l.map knR).foldl Aa8 []:=by
 have key:∀ (f:Int × List (Cj × Int)→Option (LB (Int × List (Cj × Int)) (List (Cj × Int)))),(∀ (i:Nat) x acc,l[i]? = some x→l.length≤1000000→f ((i:Int),acc)=some (.cont (((i+1:Nat):Int),Vg acc (knR x) (i:Int))))→(∀ acc,f ((l.length:Int),acc)=some (.brk acc)) →
   ∃ M,(l.length≤1000000→Cw f fuel (0,[])=some M)∧M.map (·.1)=(l.map knR).foldl Aa8 []:=fun f h1 h2=>by
  by_cases hl:l.length≤1000000
  ·obtain ⟨v,hv,hr⟩:=Di (f:=f) (P:=fun s=>∃ (i:Nat) (M:List (Cj × Int)),i≤l.length∧s=((i:Int),M)∧M.map (·.1)=((l.take i).map knR).foldl Aa8 []) (μ:=fun s=>l.length-s.1.toNat) (R:=fun M=>M.map (·.1)=(l.map knR).foldl Aa8 []) (by
    rintro _ ⟨i,M,hi,rfl,hm⟩
    rcases zP i l.length with hlt | hge
    ·left
     refine ⟨_,h1 i _ _ (zB hlt) hl,⟨i+1,_,hlt,rfl,?_⟩,by simp only [zW];omega⟩
     rw [Akc,hm,zM hlt,wA,List.foldl_append]
     rfl
    ·right
     have e:i=l.length:=by omega
     subst e
     exact ⟨_,h2 _,by rw [yI] at hm;exact hm⟩) fuel (0,[]) ⟨0,[],zX _,rfl,rfl⟩ (Ci (by show l.length-0≤_;omega))
   exact ⟨v,fun _=>hv,hr⟩
  ·refine ⟨((l.map knR).foldl Aa8 []).map (fun k=>(k,0)),fun h=>absurd h hl,?_⟩
   rw [List.map_map]
   exact kN _
 obtain ⟨M,hM,hk⟩:=key (E8 l) (fun i x acc hx hl=>by
  have hlt:=(zC.1 hx).1
  unfold E8
  dsimp only
  rw [if_pos (decide_eq_true (by omega)),Bp,hx,zA,Azs,zA,Cd (by omega) (by omega)]
  rfl) (fun acc=>by
  unfold E8
  dsimp only
  rw [if_neg (by rw [decide_eq_true_eq];omega)])
 refine ⟨M,fun hl=>?_,hk⟩
 have h:=hM hl
 refine ⟨trivial,?_⟩
 unfold Hb
 rw [h];rfl
def srV (x:Az):Bool:=(C4 x).getD false
theorem Ako (r:Bg):∃ v,G5 r=some v:=by
 unfold G5 Fl
 simp only [Acl,zA]
 repeat' (first | exact ⟨_,rfl⟩ | split | dsimp only [Option.bind_some])
 all_goals
  rename_i h1 h2
  have hl:(0:Int)<r.Hi.length:=by have:=of_decide_eq_true h2;omega
  obtain ⟨u,hu,_⟩:=As4 (xs:=r.Hi) (j:=0) (by decide) hl
  rw [hu,zA]
  split <;> exact ⟨_,rfl⟩
theorem sr_m (x:Az):C4 x=some (srV x):=by
 have:∃ b,C4 x=some b:=by
  obtain ⟨v,hv⟩:=Ako ⟨x.Rng.Lo,x.Rng.Hi,x.Rng.Open⟩
  unfold C4 D3
  simp only [hv,zA]
  repeat' (first | exact ⟨_,rfl⟩ | split | dsimp only [Option.bind_some])
 obtain ⟨b,hb⟩:=this
 unfold srV
 rw [hb];rfl
structure Good (l:List Az):Prop where
 sr:∀ x ∈ l,srV x=true
 len:l.length≤128
 nd:l.Nodup
theorem Air {l:List Az}:(l.map knR).Nodup ↔ l.Nodup:=by
 constructor
 ·exact Q7 _
 ·intro h
  exact wH.2 (h.imp fun hne e=>hne (Alb e))
theorem sane_m {l:List Az} (hl:l.length≤1000000):∃ b,Gb ⟨l⟩=some b∧(b=true ↔ Good l):=by
 unfold Gb
 rw [Ay2 l srV false (Gi ⟨l⟩) (by omega) (fun i x hx=>by
  have hlt:=(zC.1 hx).1
  unfold Gi
  dsimp only
  rw [if_pos (decide_eq_true (by omega)),Bp,hx,zA,sr_m,zA,Cd (by omega) (by omega)]
  cases srV x <;> rfl) (by
  unfold Gi
  dsimp only
  rw [if_neg (by rw [decide_eq_true_eq];omega)])]
 cases ha:l.all srV with
 | false =>
  refine ⟨false,rfl,(fun h=>by cases h),fun h=>?_⟩
  rw [zJ.2 h.sr] at ha;cases ha
 | true =>
  show ∃ b,I2 ⟨l⟩ ()=some b∧_
  unfold I2
  dsimp only
  by_cases h128:l.length≤128
  ·rw [if_pos (decide_eq_true (by omega))]
   obtain ⟨M,hM,hk⟩:=Aa9 l
   rw [(hM hl).2,zA]
   refine ⟨_,rfl,?_⟩
   have hf:=Ate (l.map knR) [] kG
   rw [← hk] at hf
   simp only [z6,jK,yG,wW] at hf
   rw [decide_eq_true_eq]
   constructor
   ·intro h
    exact ⟨zJ.1 ha,h128,Air.1 (hf.2.2.2.1 (by omega))⟩
   ·intro h
    have:=hf.2.2.2.2 (Air.2 h.nd)
    omega
  ·rw [if_neg (by rw [decide_eq_true_eq];omega)]
   exact ⟨false,rfl,fun h=>(by cases h),fun h=>absurd h.len h128⟩
theorem Abn {l:List Az} (h:Good l):Gb ⟨l⟩=some true:=by
 obtain ⟨b,hb,hi⟩:=sane_m (l:=l) (by have:=h.len;omega)
 rw [hb,hi.2 h]
theorem Ajl (a b:List Az) (h:(a.length+b.length)*64≤140737488355328):Fx [a,b]=some (a++b):=by
 have:=Tc [a,b] (by simpa using h) (by simp)
 rw [this];simp
theorem Au8 {l:List Az} (hl:l.length≤1000000) (tx:Int) (r:Bg) :
  (Good l∧srV ⟨tx,r⟩=true∧(((⟨tx,r⟩:Az) ∈ l∧G6 ⟨l⟩ tx r=some (⟨l⟩,0))∨((⟨tx,r⟩:Az) ∉ l∧((128≤l.length∧G6 ⟨l⟩ tx r=some (⟨[]⟩,8))∨(l.length<128∧G6 ⟨l⟩ tx r=some (⟨l++[⟨tx,r⟩]⟩,0)∧Good (l++[⟨tx,r⟩])))))) ∨
  (¬ (Good l∧srV ⟨tx,r⟩=true)∧G6 ⟨l⟩ tx r=some (⟨[]⟩,1)):=by
 unfold G6
 obtain ⟨b,hb,hi⟩:=sane_m hl
 dsimp only
 rw [hb,zA]
 cases b with
 | false =>
  refine .inr ⟨fun h=>?_,by rw [if_pos (by rfl)]⟩
  have:=hi.2 h.1;cases this
 | true =>
  have hg:=hi.1 rfl
  rw [if_neg (nn (by rfl)),sr_m,zA]
  cases hs:srV ⟨tx,r⟩ with
  | false=>exact .inr ⟨fun h=>(by cases h.2),by rw [if_pos (by rfl)]⟩
  | true =>
   rw [if_neg (nn (by rfl))]
   refine .inl ⟨hg,rfl,?_⟩
   unfold Mw
   dsimp only
   obtain ⟨M,hM,hk⟩:=Aa9 l
   have hf:=Ate (l.map knR) [] kG
   rw [← hk] at hf
   rw [(hM hl).2,zA,Azs,zA]
   have hmem:Aee M (knR ⟨tx,r⟩)=true ↔ (⟨tx,r⟩:Az) ∈ l:=by
    rw [Rx,hf.2.1]
    simp only [List.not_mem_nil,false_or]
    constructor
    ·intro h
     obtain ⟨x,hx,he⟩:=yP.1 h
     rw [← Alb he];exact hx
    ·intro h;exact yP.2 ⟨_,h,rfl⟩
   by_cases hin:(⟨tx,r⟩:Az) ∈ l
   ·rw [if_pos (hmem.2 hin)]
    exact .inl ⟨hin,rfl⟩
   ·rw [if_neg (fun h=>hin (hmem.1 h))]
    refine .inr ⟨hin,?_⟩
    by_cases h128:128≤l.length
    ·rw [if_pos (decide_eq_true (by omega))]
     exact .inl ⟨h128,rfl⟩
    ·rw [if_neg (by rw [decide_eq_true_eq];omega),Ajl _ _ (by rw [yE];omega)]
     refine .inr ⟨by omega,rfl,fun x hx=>?_,by rw [zG,yE];omega,?_⟩
     ·rcases yH.1 hx with hx | hx
      ·exact hg.sr x hx
      ·rw [zT.1 hx];exact hs
     ·refine jT.2 ⟨hg.nd,by simp,fun a ha b hb=>?_⟩
      rw [zT.1 hb]
      exact fun e=>hin (e ▸ ha)
def Aam (l:List Az) (k:List UInt8):List Int:=(l.filter fun x=>Afo x.Rng k).map (·.Tx)
theorem Avb {l:List Az} (hl:l.length≤1000000) (k:List UInt8):J5 ⟨l⟩ k=some (Adq (Aam l k)):=by
 unfold J5
 rw [Ajf l (fun x=>if Afo x.Rng k then [x.Tx] else []) (Gk ⟨l⟩ k) 1 (fun x=>by split <;> simp) (by omega) (fun i x acc hx ha=>by
  have hlt:=(zC.1 hx).1
  unfold Gk
  dsimp only
  rw [if_pos (decide_eq_true (by omega)),Bp,hx,zA,Als,zA,Cd (by omega) (by omega)]
  cases Afo x.Rng k with
  | true=>rw [if_pos rfl,if_pos (by rw [yE];omega),if_pos rfl];rfl
  | false=>rw [if_neg (nn (by rfl)),if_neg (nn (by rfl)),xF];rfl) (fun acc=>by
  unfold Gk
  dsimp only
  rw [if_neg (by rw [decide_eq_true_eq];omega)]),zA,Y8]
 have hlen:(Aam l k).length≤l.length:=by
  unfold Aam;rw [z6];exact xS _ _
 show Jh (Aam l k)=_
 unfold Jh Nr K0
 rw [if_pos (by omega),zA,if_pos (jA _),if_pos (by rw [jA];omega)]
 rfl
theorem Aib {l:List Az} {k:List UInt8} {t:Int}:t ∈ Adq (Aam l k) ↔ ∃ x ∈ l,Afo x.Rng k=true∧x.Tx=t:=by
 rw [An1]
 unfold Aam
 rw [yP]
 constructor
 ·rintro ⟨x,hx,rfl⟩
  obtain ⟨h1,h2⟩:=yQ.1 hx
  exact ⟨x,h1,h2,rfl⟩
 ·rintro ⟨x,h1,h2,rfl⟩
  exact ⟨x,yQ.2 ⟨h1,h2⟩,rfl⟩
theorem X1 (txs:List Int) (t:Int) (hl:txs.length≤1000000):Dz txs t=some (decide (t ∈ txs)):=by
 unfold Dz Es
 obtain ⟨v,hv,hr⟩:=Dt (f:=Dy txs t) (P:=fun s=>∃ i:Nat,i≤txs.length∧s=(i:Int)∧t ∉ txs.take i) (μ:=fun s=>txs.length-s.toNat)
  (R:=fun x=>match x with | .inl r=>0≤r∧t ∈ txs | .inr _=>t ∉ txs) (by
   rintro _ ⟨i,hi,rfl,hp⟩
   unfold Dy
   rcases zP i txs.length with hlt | hge
   ·rw [if_pos (decide_eq_true (by omega)),Bp,zB hlt,zA,Cd (by omega) (by omega)]
    by_cases he:t=txs[i]
    ·rw [if_pos (decide_eq_true he)]
     exact .inr (.inr ⟨_,rfl,xM _,by rw [he];exact xI _⟩)
    ·rw [if_neg (by rw [decide_eq_true_eq];exact he)]
     refine .inl ⟨_,rfl,⟨i+1,hlt,rfl,?_⟩,by simp only [zW];omega⟩
     rw [zM hlt,yH,zT]
     rintro (h | h)
     ·exact hp h
     ·exact he h
   ·have e:i=txs.length:=by omega
    subst e
    rw [if_neg (by rw [decide_eq_true_eq];omega)]
    rw [yI] at hp
    exact .inr (.inl ⟨_,rfl,hp⟩)) fuel 0 ⟨0,zX _,rfl,by simp⟩ (Ci (by show txs.length-0≤_;omega))
 rw [hv]
 cases v with
 | inl r =>
  show some (decide (0≤r))=_
  rw [decide_eq_true hr.1,decide_eq_true hr.2]
 | inr u =>
  show some (decide ((0:Int) ≤ -1))=_
  rw [decide_eq_false (show ¬ t ∈ txs from hr)]
  rfl
def Aay (l:List Az) (txs:List Int) (b:Bool):List Az:=l.filter fun x=>decide (x.Tx ∈ txs) == b
theorem Awi {l:List Az} (hl:l.length≤1000000) (txs:List Int) (ht:txs.length≤1000000) (b:Bool):Mq ⟨l⟩ txs b=some ⟨Aay l txs b⟩:=by
 unfold Mq
 rw [Ajf l (fun x=>if decide (x.Tx ∈ txs) == b then [x] else []) (Gl ⟨l⟩ txs b) 1 (fun x=>by split <;> simp) (by omega) (fun i x acc hx ha=>by
  have hlt:=(zC.1 hx).1
  unfold Gl
  dsimp only
  rw [if_pos (decide_eq_true (by omega)),Bp,hx,zA,X1 txs _ ht,zA,Cd (by omega) (by omega)]
  cases (decide (x.Tx ∈ txs) == b) with
  | true=>rw [if_pos rfl,if_pos (by rw [yE];omega),if_pos rfl];rfl
  | false=>rw [if_neg (nn (by rfl)),if_neg (nn (by rfl)),xF];rfl) (fun acc=>by
  unfold Gl
  dsimp only
  rw [if_neg (by rw [decide_eq_true_eq];omega)]),zA,Y8,List.map_id']
 rfl
theorem Aqs {l:List Az} (hl:l.length≤1000000) (txs:List Int) (ht:txs.length≤1000000):Kj ⟨l⟩ txs=some ⟨Aay l txs false⟩:=by
 unfold Kj
 rw [Awi hl txs ht];rfl
theorem Wh {l:List Az} {txs:List Int} {b:Bool} {x:Az}:x ∈ Aay l txs b ↔ x ∈ l∧(decide (x.Tx ∈ txs)=b):=by
 unfold Aay
 rw [yQ,beq_iff_eq]
theorem Az4 {α ρ:Type} (xs:List α) (f:Int→Option (LR Int Unit ρ)) (hl:xs.length≤1000000000000000000)
  (h:∀ (i:Nat) x,xs[i]? = some x→f (i:Int)=some (.cont ((i+1:Nat):Int))) (hend:f (xs.length:Int)=some (.brk ())):Lj f fuel 0=some (.inr ()):=by
 obtain ⟨v,hv,hr⟩:=Dt (f:=f) (P:=fun s=>∃ i:Nat,i≤xs.length∧s=(i:Int)) (μ:=fun s=>xs.length-s.toNat) (R:=fun r=>r=.inr ()) (by
  rintro _ ⟨i,hi,rfl⟩
  rcases zP i xs.length with hlt | hge
  ·exact .inl ⟨_,h i _ (zB hlt),⟨i+1,hlt,rfl⟩,by simp only [zW];omega⟩
  ·have e:i=xs.length:=by omega
   subst e
   exact .inr (.inl ⟨(),hend,rfl⟩)) fuel 0 ⟨0,zX _,rfl⟩ (Ci (by show xs.length-0≤_;omega))
 rw [hv,hr]
theorem Ak6 (l:List Az) (k:List UInt8):(Adq (Aam l k)).length≤l.length:=by
 refine yO (Alk _) ?_
 unfold Aam
 rw [z6]
 exact xS _ _
instance:DecidableEq Bg:=fun a b=>decidable_of_iff (a.Lo=b.Lo∧a.Hi=b.Hi∧a.Open=b.Open) (by cases a;cases b;simp)
end Go.Proofs.YtkblaobhhoebaaaGreat.Abs.ss
