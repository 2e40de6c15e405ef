/-
 What the library's functions compute.
-/
import Derived.Test.YtkblaobhhoebaaaGreatWB14
set_option linter.unusedVariables false
set_option linter.unusedSimpArgs false
namespace Go.Proofs.YtkblaobhhoebaaaGreat.Abs.ss
open Go.Proofs.YtkblaobhhoebaaaGreat.Abs.bf
theorem sorted_some (xs:Keys) (hn:xs.length≤1000000000000000000):∃ v,Ck xs=some v:=by
 obtain ⟨v,hv,hr⟩:=Dh (f:=Cl xs) (P:=fun s=>∃ i:Nat,s=(i:Int)∧1≤i) (μ:=fun s=>xs.length-s.toNat)
  (R:=fun _=>True) (by
  rintro _ ⟨i,rfl,h1⟩
  unfold Cl
  by_cases hi:i<xs.length
  ·rw [if_pos (decide_eq_true (by omega)),Cb (by omega) (by omega),show (i:Int)-1=((i-1:Nat):Int) from by omega,Bn,Bn,zB hi,zB (by omega)]
   simp only [zA,Acd]
   by_cases hc:0≤Gg xs[i-1] xs[i]
   ·right;right
    rw [if_pos (decide_eq_true hc)]
    exact ⟨_,rfl,trivial⟩
   ·left
    rw [if_neg (by rw [decide_eq_true_eq];omega)]
    exact ⟨_,rfl,⟨i+1,by rw [Cb (by omega) (by omega)];rfl,by omega⟩,by rw [Cb (by omega) (by omega)];omega⟩
  ·right;left
   rw [if_neg (by rw [decide_eq_true_eq];omega)]
   exact ⟨_,rfl,trivial⟩) fuel 1 ⟨1,rfl,zN _⟩ (Ce (by show xs.length-1≤_;omega))
 unfold Ck
 rw [hv]
 cases v with
 | inl r=>exact ⟨r,rfl⟩
 | inr u=>exact ⟨true,rfl⟩
def knR (x:A3):Cf:=⟨x.Tx,x.Rng.Lo,x.Rng.Hi,x.Rng.Open⟩
theorem Alc {a b:A3} (h:knR a=knR b):a=b:=by
 cases a with | mk t r=>cases r;cases b with | mk t' r'=>cases r';simp [knR] at h;simp [h]
theorem A0m (x:A3):Jk x=some (knR x):=rfl
section
variable {κ:Type} [DecidableEq κ]
def Abj (l:List κ) (k:κ):List κ:=if k ∈ l then l else l++[k]
theorem Ajw (M:List (κ × Int)) (k:κ) (i:Int):(Wi M k i).map (·.1)=Abj (M.map (·.1)) k:=by
 unfold Abj
 by_cases h:k ∈ M.map (·.1)
 ·rw [if_pos h]
  unfold Wi
  rw [if_pos (show (M.any fun x=>decide (x.1=k))=true from Sl.2 h),List.map_map]
  apply kK
  intro x _
  simp only [Function.comp]
  split <;> rfl
 ·rw [if_neg h,Aew h,wE];rfl
theorem Aqe {l:List κ} {k x:κ}:x ∈ Abj l k ↔ x ∈ l∨x=k:=by
 unfold Abj
 split
 ·constructor
  ·exact .inl
  ·rintro (h | rfl)
   ·exact h
   ·assumption
 ·rw [yL,zW]
theorem Ajn {l:List κ} (h:l.Nodup) (k:κ):(Abj l k).Nodup:=by
 unfold Abj
 split
 ·exact h
 ·rename_i hk
  refine jZ.2 ⟨h,by simp,fun a ha b hb=>?_⟩
  rw [zW.1 hb]
  exact fun e=>hk (e ▸ ha)
theorem Atu:∀ (l acc:List κ),acc.Nodup→(l.foldl Abj acc).Nodup∧(∀ x,x ∈ l.foldl Abj acc ↔ x ∈ acc∨x ∈ l)∧(l.foldl Abj acc).length≤acc.length+l.length∧((l.foldl Abj acc).length=acc.length+l.length ↔ (acc++l).Nodup)
 | [],acc,h=>⟨h,fun x=>by simp,by simp,by simp [h]⟩
 | k::l,acc,h=>by
  obtain ⟨h1,h2,h3,h4⟩:=Atu l (Abj acc k) (Ajn h k)
  rw [kZ]
  have hlen:(Abj acc k).length=acc.length∧k ∈ acc∨(Abj acc k).length=acc.length+1∧k ∉ acc∧Abj acc k=acc++[k]:=by
   unfold Abj
   split
   ·exact .inl ⟨rfl,by assumption⟩
   ·exact .inr ⟨by simp,by assumption,rfl⟩
  refine ⟨h1,fun x=>?_,?_,?_⟩
  ·rw [h2,Aqe,yM,or_assoc]
  ·rw [yT];rcases hlen with ⟨h,_⟩ | ⟨h,_⟩ <;> omega
  ·rcases hlen with ⟨h5,h6⟩ | ⟨h5,h6,h7⟩
   ·constructor
    ·intro he;rw [yT] at he;omega
    ·intro hn
     have:=(jZ.1 hn).2.2 k h6 k (yX ..)
     exact absurd rfl this
   ·rw [yT]
    rw [h7,xO,List.singleton_append] at h4
    rw [← h4,h7]
    constructor <;> intro h <;> simp at h ⊢ <;> omega
end
theorem Abm (l:List A3):∃ M:List (Cf × Int),(l.length≤1000000→True∧Hn l=some M)∧M.map (·.1)=(l.map knR).foldl Abj []:=by
 have key:∀ (f:Int × List (Cf × Int)→Option (LB (Int × List (Cf × Int)) (List (Cf × Int)))),(∀ (i:Nat) x acc,l[i]? = some x→l.length≤1000000→f ((i:Int),acc)=some (.cont (((i+1:Nat):Int),Wi acc (knR x) (i:Int))))→(∀ acc,f ((l.length:Int),acc)=some (.brk acc)) →
   ∃ M,(l.length≤1000000→Ct f fuel (0,[])=some M)∧M.map (·.1)=(l.map knR).foldl Abj []:=fun f h1 h2=>by
  by_cases hl:l.length≤1000000
  ·obtain ⟨v,hv,hr⟩:=C9 (f:=f) (P:=fun s=>∃ (i:Nat) (M:List (Cf × Int)),i≤l.length∧s=((i:Int),M)∧M.map (·.1)=((l.take i).map knR).foldl Abj []) (μ:=fun s=>l.length-s.1.toNat) (R:=fun M=>M.map (·.1)=(l.map knR).foldl Abj []) (by
    rintro _ ⟨i,M,hi,rfl,hm⟩
    rcases zO i l.length with hlt | hge
    ·left
     refine ⟨_,h1 i _ _ (zB hlt) hl,⟨i+1,_,hlt,rfl,?_⟩,by simp only [zR];omega⟩
     rw [Ajw,hm,zM hlt,wE,List.foldl_append]
     rfl
    ·right
     have e:i=l.length:=by omega
     subst e
     exact ⟨_,h2 _,by rw [yI] at hm;exact hm⟩) fuel (0,[]) ⟨0,[],zY _,rfl,rfl⟩ (Ce (by show l.length-0≤_;omega))
   exact ⟨v,fun _=>hv,hr⟩
  ·refine ⟨((l.map knR).foldl Abj []).map (fun k=>(k,0)),fun h=>absurd h hl,?_⟩
   rw [List.map_map]
   exact kO _
 obtain ⟨M,hM,hk⟩:=key (Fc l) (fun i x acc hx hl=>by
  have hlt:=(zC.1 hx).1
  unfold Fc
  dsimp only
  rw [if_pos (decide_eq_true (by omega)),Bn,hx,zA,A0m,zA,Cb (by omega) (by omega)]
  rfl) (fun acc=>by
  unfold Fc
  dsimp only
  rw [if_neg (by rw [decide_eq_true_eq];omega)])
 refine ⟨M,fun hl=>?_,hk⟩
 have h:=hM hl
 refine ⟨trivial,?_⟩
 unfold Hn
 rw [h];rfl
def srV (x:A3):Bool:=(Di x).getD false
theorem Ajj (r:Bg):∃ v,Hb r=some v:=by
 unfold Hb F1
 simp only [Acd,zA]
 repeat' (first | exact ⟨_,rfl⟩ | split | dsimp only [Option.bind_some])
 all_goals
  rename_i h1 h2
  have hl:(0:Int)<r.Hi.length:=by have:=of_decide_eq_true h2;omega
  obtain ⟨u,hu,_⟩:=Asq (xs:=r.Hi) (j:=0) (by decide) hl
  rw [hu,zA]
  split <;> exact ⟨_,rfl⟩
theorem A0p (x:A3):Di x=some (srV x):=by
 have:∃ b,Di x=some b:=by
  obtain ⟨v,hv⟩:=Ajj ⟨x.Rng.Lo,x.Rng.Hi,x.Rng.Open⟩
  unfold Di E0
  simp only [hv,zA]
  repeat' (first | exact ⟨_,rfl⟩ | split | dsimp only [Option.bind_some])
 obtain ⟨b,hb⟩:=this
 unfold srV
 rw [hb];rfl
structure Good (l:List A3):Prop where
 sr:∀ x ∈ l,srV x=true
 len:l.length≤128
 nd:l.Nodup
theorem Ah9 {l:List A3}:(l.map knR).Nodup ↔ l.Nodup:=by
 constructor
 ·exact Rk _
 ·intro h
  exact wK.2 (h.imp fun hne e=>hne (Alc e))
theorem sane_m {l:List A3} (hl:l.length≤1000000):∃ b,F9 ⟨l⟩=some b∧(b=true ↔ Good l):=by
 unfold F9
 rw [Ayd l srV false (Gm ⟨l⟩) (by omega) (fun i x hx=>by
  have hlt:=(zC.1 hx).1
  unfold Gm
  dsimp only
  rw [if_pos (decide_eq_true (by omega)),Bn,hx,zA,A0p,zA,Cb (by omega) (by omega)]
  cases srV x <;> rfl) (by
  unfold Gm
  dsimp only
  rw [if_neg (by rw [decide_eq_true_eq];omega)])]
 cases ha:l.all srV with
 | false =>
  refine ⟨false,rfl,(fun h=>by cases h),fun h=>?_⟩
  rw [zJ.2 h.sr] at ha;cases ha
 | true =>
  show ∃ b,Jh ⟨l⟩ ()=some b∧_
  unfold Jh
  dsimp only
  by_cases h128:l.length≤128
  ·rw [if_pos (decide_eq_true (by omega))]
   obtain ⟨M,hM,hk⟩:=Abm l
   rw [(hM hl).2,zA]
   refine ⟨_,rfl,?_⟩
   have hf:=Atu (l.map knR) [] w6
   rw [← hk] at hf
   simp only [z8,jP,yH,wX] at hf
   rw [decide_eq_true_eq]
   constructor
   ·intro h
    exact ⟨zJ.1 ha,h128,Ah9.1 (hf.2.2.2.1 (by omega))⟩
   ·intro h
    have:=hf.2.2.2.2 (Ah9.2 h.nd)
    omega
  ·rw [if_neg (by rw [decide_eq_true_eq];omega)]
   exact ⟨false,rfl,fun h=>(by cases h),fun h=>absurd h.len h128⟩
theorem Abp {l:List A3} (h:Good l):F9 ⟨l⟩=some true:=by
 obtain ⟨b,hb,hi⟩:=sane_m (l:=l) (by have:=h.len;omega)
 rw [hb,hi.2 h]
theorem Akd (a b:List A3) (h:(a.length+b.length)*64≤140737488355328):F0 [a,b]=some (a++b):=by
 have:=Ua [a,b] (by simpa using h) (by simp)
 rw [this];simp
theorem Az3 {l:List A3} (hl:l.length≤1000000) (tx:Int) (r:Bg) :
  (Good l∧srV ⟨tx,r⟩=true∧(((⟨tx,r⟩:A3) ∈ l∧Hh ⟨l⟩ tx r=some (⟨l⟩,0))∨((⟨tx,r⟩:A3) ∉ l∧((128≤l.length∧Hh ⟨l⟩ tx r=some (⟨[]⟩,8))∨(l.length<128∧Hh ⟨l⟩ tx r=some (⟨l++[⟨tx,r⟩]⟩,0)∧Good (l++[⟨tx,r⟩])))))) ∨
  (¬ (Good l∧srV ⟨tx,r⟩=true)∧Hh ⟨l⟩ tx r=some (⟨[]⟩,1)):=by
 unfold Hh
 obtain ⟨b,hb,hi⟩:=sane_m hl
 dsimp only
 rw [hb,zA]
 cases b with
 | false =>
  refine .inr ⟨fun h=>?_,by rw [if_pos (by rfl)]⟩
  have:=hi.2 h.1;cases this
 | true =>
  have hg:=hi.1 rfl
  rw [if_neg (nn (by rfl)),A0p,zA]
  cases hs:srV ⟨tx,r⟩ with
  | false=>exact .inr ⟨fun h=>(by cases h.2),by rw [if_pos (by rfl)]⟩
  | true =>
   rw [if_neg (nn (by rfl))]
   refine .inl ⟨hg,rfl,?_⟩
   unfold M2
   dsimp only
   obtain ⟨M,hM,hk⟩:=Abm l
   have hf:=Atu (l.map knR) [] w6
   rw [← hk] at hf
   rw [(hM hl).2,zA,A0m,zA]
   have hmem:Afv M (knR ⟨tx,r⟩)=true ↔ (⟨tx,r⟩:A3) ∈ l:=by
    rw [Sl,hf.2.1]
    simp only [List.not_mem_nil,false_or]
    constructor
    ·intro h
     obtain ⟨x,hx,he⟩:=yP.1 h
     rw [← Alc he];exact hx
    ·intro h;exact yP.2 ⟨_,h,rfl⟩
   by_cases hin:(⟨tx,r⟩:A3) ∈ l
   ·rw [if_pos (hmem.2 hin)]
    exact .inl ⟨hin,rfl⟩
   ·rw [if_neg (fun h=>hin (hmem.1 h))]
    refine .inr ⟨hin,?_⟩
    by_cases h128:128≤l.length
    ·rw [if_pos (decide_eq_true (by omega))]
     exact .inl ⟨h128,rfl⟩
    ·rw [if_neg (by rw [decide_eq_true_eq];omega),Akd _ _ (by rw [yE];omega)]
     refine .inr ⟨by omega,rfl,fun x hx=>?_,by rw [zH,yE];omega,?_⟩
     ·rcases yL.1 hx with hx | hx
      ·exact hg.sr x hx
      ·rw [zW.1 hx];exact hs
     ·refine jZ.2 ⟨hg.nd,by simp,fun a ha b hb=>?_⟩
      rw [zW.1 hb]
      exact fun e=>hin (e ▸ ha)
def Aa4 (l:List A3) (k:List UInt8):List Int:=(l.filter fun x=>Af6 x.Rng k).map (·.Tx)
theorem Awj {l:List A3} (hl:l.length≤1000000) (k:List UInt8):Ke ⟨l⟩ k=some (Afe (Aa4 l k)):=by
 unfold Ke
 rw [Ako l (fun x=>if Af6 x.Rng k then [x.Tx] else []) (Gl ⟨l⟩ k) 1 (fun x=>by split <;> simp) (by omega) (fun i x acc hx ha=>by
  have hlt:=(zC.1 hx).1
  unfold Gl
  dsimp only
  rw [if_pos (decide_eq_true (by omega)),Bn,hx,zA,Anx,zA,Cb (by omega) (by omega)]
  cases Af6 x.Rng k with
  | true=>rw [if_pos rfl,if_pos (by rw [yE];omega),if_pos rfl];rfl
  | false=>rw [if_neg (nn (by rfl)),if_neg (nn (by rfl)),xF];rfl) (fun acc=>by
  unfold Gl
  dsimp only
  rw [if_neg (by rw [decide_eq_true_eq];omega)]),zA,Zh]
 have hlen:(Aa4 l k).length≤l.length:=by
  unfold Aa4;rw [z8];exact xQ _ _
 show Iw (Aa4 l k)=_
 unfold Iw N1 La
 rw [if_pos (by omega),zA,if_pos (jE _),if_pos (by rw [jE];omega)]
 rfl
theorem Aic {l:List A3} {k:List UInt8} {t:Int}:t ∈ Afe (Aa4 l k) ↔ ∃ x ∈ l,Af6 x.Rng k=true∧x.Tx=t:=by
 rw [Ak8]
 unfold Aa4
 rw [yP]
 constructor
 ·rintro ⟨x,hx,rfl⟩
  obtain ⟨h1,h2⟩:=yZ.1 hx
  exact ⟨x,h1,h2,rfl⟩
 ·rintro ⟨x,h1,h2,rfl⟩
  exact ⟨x,yZ.2 ⟨h1,h2⟩,rfl⟩
theorem Yd (txs:List Int) (t:Int) (hl:txs.length≤1000000):Du txs t=some (decide (t ∈ txs)):=by
 unfold Du Ep
 obtain ⟨v,hv,hr⟩:=Dh (f:=Dq txs t) (P:=fun s=>∃ i:Nat,i≤txs.length∧s=(i:Int)∧t ∉ txs.take i) (μ:=fun s=>txs.length-s.toNat)
  (R:=fun x=>match x with | .inl r=>0≤r∧t ∈ txs | .inr _=>t ∉ txs) (by
   rintro _ ⟨i,hi,rfl,hp⟩
   unfold Dq
   rcases zO i txs.length with hlt | hge
   ·rw [if_pos (decide_eq_true (by omega)),Bn,zB hlt,zA,Cb (by omega) (by omega)]
    by_cases he:t=txs[i]
    ·rw [if_pos (decide_eq_true he)]
     exact .inr (.inr ⟨_,rfl,xK _,by rw [he];exact xN _⟩)
    ·rw [if_neg (by rw [decide_eq_true_eq];exact he)]
     refine .inl ⟨_,rfl,⟨i+1,hlt,rfl,?_⟩,by simp only [zR];omega⟩
     rw [zM hlt,yL,zW]
     rintro (h | h)
     ·exact hp h
     ·exact he h
   ·have e:i=txs.length:=by omega
    subst e
    rw [if_neg (by rw [decide_eq_true_eq];omega)]
    rw [yI] at hp
    exact .inr (.inl ⟨_,rfl,hp⟩)) fuel 0 ⟨0,zY _,rfl,by simp⟩ (Ce (by show txs.length-0≤_;omega))
 rw [hv]
 cases v with
 | inl r =>
  show some (decide (0≤r))=_
  rw [decide_eq_true hr.1,decide_eq_true hr.2]
 | inr u =>
  show some (decide ((0:Int) ≤ -1))=_
  rw [decide_eq_false (show ¬ t ∈ txs from hr)]
  rfl
def Aa3 (l:List A3) (txs:List Int) (b:Bool):List A3:=l.filter fun x=>decide (x.Tx ∈ txs) == b
theorem Avp {l:List A3} (hl:l.length≤1000000) (txs:List Int) (ht:txs.length≤1000000) (b:Bool):Md ⟨l⟩ txs b=some ⟨Aa3 l txs b⟩:=by
 unfold Md
 rw [Ako l (fun x=>if decide (x.Tx ∈ txs) == b then [x] else []) (Gr ⟨l⟩ txs b) 1 (fun x=>by split <;> simp) (by omega) (fun i x acc hx ha=>by
  have hlt:=(zC.1 hx).1
  unfold Gr
  dsimp only
  rw [if_pos (decide_eq_true (by omega)),Bn,hx,zA,Yd txs _ ht,zA,Cb (by omega) (by omega)]
  cases (decide (x.Tx ∈ txs) == b) with
  | true=>rw [if_pos rfl,if_pos (by rw [yE];omega),if_pos rfl];rfl
  | false=>rw [if_neg (nn (by rfl)),if_neg (nn (by rfl)),xF];rfl) (fun acc=>by
  unfold Gr
  dsimp only
  rw [if_neg (by rw [decide_eq_true_eq];omega)]),zA,Zh,List.map_id']
 rfl
theorem Aqz {l:List A3} (hl:l.length≤1000000) (txs:List Int) (ht:txs.length≤1000000):Kk ⟨l⟩ txs=some ⟨Aa3 l txs false⟩:=by
 unfold Kk
 rw [Avp hl txs ht];rfl
theorem Wl {l:List A3} {txs:List Int} {b:Bool} {x:A3}:x ∈ Aa3 l txs b ↔ x ∈ l∧(decide (x.Tx ∈ txs)=b):=by
 unfold Aa3
 rw [yZ,beq_iff_eq]
theorem Az8 {α ρ:Type} (xs:List α) (f:Int→Option (LR Int Unit ρ)) (hl:xs.length≤1000000000000000000)
  (h:∀ (i:Nat) x,xs[i]? = some x→f (i:Int)=some (.cont ((i+1:Nat):Int))) (hend:f (xs.length:Int)=some (.brk ())):Lj f fuel 0=some (.inr ()):=by
 obtain ⟨v,hv,hr⟩:=Dh (f:=f) (P:=fun s=>∃ i:Nat,i≤xs.length∧s=(i:Int)) (μ:=fun s=>xs.length-s.toNat) (R:=fun r=>r=.inr ()) (by
  rintro _ ⟨i,hi,rfl⟩
  rcases zO i xs.length with hlt | hge
  ·exact .inl ⟨_,h i _ (zB hlt),⟨i+1,hlt,rfl⟩,by simp only [zR];omega⟩
  ·have e:i=xs.length:=by omega
   subst e
   exact .inr (.inl ⟨(),hend,rfl⟩)) fuel 0 ⟨0,zY _,rfl⟩ (Ce (by show xs.length-0≤_;omega))
 rw [hv,hr]
theorem Anr (l:List A3) (k:List UInt8):(Afe (Aa4 l k)).length≤l.length:=by
 refine yO (Ank _) ?_
 unfold Aa4
 rw [z8]
 exact xQ _ _
instance:DecidableEq Bg:=fun a b=>decidable_of_iff (a.Lo=b.Lo∧a.Hi=b.Hi∧a.Open=b.Open) (by cases a;cases b;simp)
end Go.Proofs.YtkblaobhhoebaaaGreat.Abs.ss
