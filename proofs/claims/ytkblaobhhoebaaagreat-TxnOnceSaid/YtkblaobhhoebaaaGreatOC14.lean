/-
 What the library's functions compute.
-/
import Derived.Test.YtkblaobhhoebaaaGreatOS14
set_option linter.unusedVariables false
set_option linter.unusedSimpArgs false
namespace Go.Proofs.YtkblaobhhoebaaaGreat.Abs.ss
theorem Si (a b:List UInt8):Fw a b=some (Dc a b):=rfl
def Zw (r:Bi) (k:List UInt8):Bool:=decide (0≤Dc k r.Lo) && (r.Open || decide (Dc k r.Hi<0))
theorem Ae5 (r:Bi) (k:List UInt8):Dq r k=some (Zw r k):=by
 unfold Dq Zw
 simp only [Si,Option.bind_some]
 cases decide (0≤Dc k r.Lo) <;> cases r.Open <;> simp
def Agq (r:Bi):Bool:=!r.Open && ((decide (r.Lo=[]) && decide (r.Hi=[0])) || decide (Dc r.Hi r.Lo≤0))
theorem Awo {α:Type} (a:List α):decide ((a.length:Int)=0)=decide (a=[]):=by
 rw [decide_eq_decide]
 cases a <;> simp
 omega
abbrev Keys:=List (List UInt8)
def kat (xs:Keys) (k:List UInt8):Nat:=xs.findIdx (fun x=>decide (0≤Dc x k))
def hit (xs:Keys) (k:List UInt8):Bool:=xs[kat xs k]? == some k
theorem Aap {xs:Keys} {k:List UInt8} {i:Nat} {x:List UInt8} (h:xs[i]? = some x) (h1:0≤Dc x k) (h2:∀ j y,j<i→xs[j]? = some y→Dc y k<0):kat xs k=i:=by
 obtain ⟨hi,rfl⟩:=List.getElem?_eq_some_iff.1 h
 unfold kat
 rw [List.findIdx_eq hi]
 refine ⟨by simpa using h1,fun j hj=>?_⟩
 have:=h2 j xs[j] hj (List.getElem?_eq_getElem (by omega))
 rw [decide_eq_false_iff_not]
 omega
theorem Tq {xs:Keys} {k:List UInt8} (h:∀ j y,j<xs.length→xs[j]? = some y→Dc y k<0):kat xs k=xs.length:=by
 unfold kat
 rw [List.findIdx_eq_length]
 intro x hx
 obtain ⟨j,hj,rfl⟩:=List.getElem_of_mem hx
 have:=h j xs[j] hj (List.getElem?_eq_getElem hj)
 rw [decide_eq_false_iff_not]
 omega
theorem Aa0 (xs:Keys) (k:List UInt8) (hn:xs.length≤1000000000000000000):Eu xs k=some ((kat xs k:Int),hit xs k):=by
 obtain ⟨v,hv,hr⟩:=Cx (f:=Cf xs k) (P:=fun s=>∃ i:Nat,s=(i:Int)∧i≤xs.length∧∀ j y,j<i→xs[j]? = some y→Dc y k<0) (μ:=fun s=>xs.length-s.toNat)
  (R:=fun v=>match v with | .inl r=>r=(kat xs k:Int)∧kat xs k<xs.length | .inr _=>kat xs k=xs.length) (by
  rintro _ ⟨i,rfl,h1,h2⟩
  unfold Cf Cs
  by_cases hi:i<xs.length
  ·have e:=List.getElem?_eq_getElem hi
   rw [if_pos (decide_eq_true (by omega)),Bp,e]
   simp only [Option.bind_some,Si]
   by_cases hc:0≤Dc xs[i] k
   ·right;right
    rw [if_pos (decide_eq_true hc)]
    have ea:=Aap e hc h2
    exact ⟨_,rfl,by rw [ea],by rw [ea];exact hi⟩
   ·left
    rw [if_neg (by rw [decide_eq_true_eq];exact hc)]
    refine ⟨_,rfl,⟨i+1,by rw [Cc (by omega) (by omega)];rfl,hi,fun j y hj hy=>?_⟩,by rw [Cc (by omega) (by omega)];omega⟩
    rcases Nat.lt_succ_iff_lt_or_eq.1 hj with h | rfl
    ·exact h2 j y h hy
    ·rw [e] at hy;cases hy;omega
  ·right;left
   rw [if_neg (by rw [decide_eq_true_eq];omega)]
   refine ⟨_,rfl,?_⟩
   have:i=xs.length:=by omega
   subst this
   exact Tq h2) fuel 0 ⟨0,rfl,Nat.zero_le _,fun j y hj=>absurd hj (Nat.not_lt_zero _)⟩ (Ck (by show xs.length-0≤_;omega))
 unfold Eu Ec
 rw [hv]
 simp only [Option.bind_some]
 cases v with
 | inl r =>
  obtain ⟨rfl,hlt⟩:r=(kat xs k:Int)∧kat xs k<xs.length:=hr
  simp only [Option.bind_some]
  rw [if_neg (by rw [decide_eq_true_eq];omega),Bp,List.getElem?_eq_getElem hlt]
  simp only [Option.bind_some,Dl]
  unfold hit
  rw [List.getElem?_eq_getElem hlt]
  rfl
 | inr u =>
  have e:kat xs k=xs.length:=hr
  unfold C4
  simp only [Option.bind_some]
  rw [if_pos (by decide)]
  unfold hit
  rw [e]
  simp
def ins (xs:Keys) (k:List UInt8):Keys:=if hit xs k then xs else xs.take (kat xs k)++k::xs.drop (kat xs k)
def part (xs:Keys) (k:List UInt8) (j:Nat):Keys:=if hit xs k=true∨j≤kat xs k then xs.take j else xs.take (kat xs k)++k::(xs.drop (kat xs k)).take (j-kat xs k)
abbrev PW (xs:Keys):Prop:=xs.Pairwise (fun x y=>Dc x y<0)
theorem Zn {xs:Keys} {k x:List UInt8} (h:x ∈ xs.take (kat xs k)):Dc x k<0:=by
 obtain ⟨j,hj,rfl⟩:=List.getElem_of_mem h
 rw [List.length_take] at hj
 rw [List.getElem_take]
 have:=List.not_of_lt_findIdx (p:=fun x=>decide (0≤Dc x k)) (xs:=xs) (i:=j) (by have h':kat xs k=List.findIdx (fun x=>decide (0≤Dc x k)) xs:=rfl;omega)
 have h2:¬ 0≤Dc xs[j] k:=by simpa using this
 omega
theorem Zg {xs:Keys} {k:List UInt8} (h:kat xs k<xs.length):0≤Dc xs[kat xs k] k:=by
 have:=List.findIdx_getElem (p:=fun x=>decide (0≤Dc x k)) (xs:=xs) (w:=h)
 exact of_decide_eq_true this
theorem U1 {xs:Keys} {k:List UInt8} (h:hit xs k=true):k ∈ xs:=by
 unfold hit at h
 exact List.mem_of_getElem? (eq_of_beq h)
theorem Zu {xs:Keys} {k:List UInt8} (hp:PW xs) (h:k ∈ xs):hit xs k=true:=by
 obtain ⟨j,hj,rfl⟩:=List.getElem_of_mem h
 have hle:kat xs xs[j]≤j:=by
  rcases Nat.lt_or_ge j (kat xs xs[j]) with h1 | h1
  ·have:=Zn (xs:=xs) (k:=xs[j]) (x:=xs[j]) (List.mem_take_iff_getElem.2 ⟨j,by omega,rfl⟩)
   rw [M4] at this
   omega
  ·exact h1
 have hk:kat xs xs[j]<xs.length:=by omega
 unfold hit
 rw [List.getElem?_eq_getElem hk]
 rcases Nat.lt_or_ge (kat xs xs[j]) j with h1 | h1
 ·have h2:=List.pairwise_iff_getElem.1 hp _ _ hk hj h1
  have h3:=Zg hk
  omega
 ·have e:kat xs xs[j]=j:=by omega
  simp only [e]
  simp
theorem Zk {xs:Keys} {k:List UInt8} (hp:PW xs):hit xs k=true ↔ k ∈ xs:=⟨U1,Zu hp⟩
theorem Tw {xs:Keys} (hp:PW xs) (hn:xs.length≤1000000000000000000):B9 xs=some true:=by
 obtain ⟨v,hv,hr⟩:=Cx (f:=B7 xs) (P:=fun s=>∃ i:Nat,s=(i:Int)∧1≤i) (μ:=fun s=>xs.length-s.toNat)
  (R:=fun v=>match v with | .inl r=>False | .inr _=>True) (by
  rintro _ ⟨i,rfl,h1⟩
  unfold B7
  by_cases hi:i<xs.length
  ·left
   rw [if_pos (decide_eq_true (by omega)),Cc (by omega) (by omega),show (i:Int)-1=((i-1:Nat):Int) from by omega,Bp,Bp,List.getElem?_eq_getElem hi,List.getElem?_eq_getElem (by omega)]
   simp only [Option.bind_some,Si]
   have:=List.pairwise_iff_getElem.1 hp (i-1) i (by omega) hi (by omega)
   rw [if_neg (by rw [decide_eq_true_eq];omega)]
   exact ⟨_,rfl,⟨i+1,by rw [Cc (by omega) (by omega)];rfl,by omega⟩,by rw [Cc (by omega) (by omega)];omega⟩
  ·right;left
   rw [if_neg (by rw [decide_eq_true_eq];omega)]
   exact ⟨_,rfl,trivial⟩) fuel 1 ⟨1,rfl,Nat.le_refl _⟩ (Ck (by show xs.length-1≤_;omega))
 unfold B9
 rw [hv]
 cases v with
 | inl r=>exact hr.elim
 | inr u=>rfl
theorem sorted_some (xs:Keys) (hn:xs.length≤1000000000000000000):∃ v,B9 xs=some v:=by
 obtain ⟨v,hv,hr⟩:=Cx (f:=B7 xs) (P:=fun s=>∃ i:Nat,s=(i:Int)∧1≤i) (μ:=fun s=>xs.length-s.toNat)
  (R:=fun _=>True) (by
  rintro _ ⟨i,rfl,h1⟩
  unfold B7
  by_cases hi:i<xs.length
  ·rw [if_pos (decide_eq_true (by omega)),Cc (by omega) (by omega),show (i:Int)-1=((i-1:Nat):Int) from by omega,Bp,Bp,List.getElem?_eq_getElem hi,List.getElem?_eq_getElem (by omega)]
   simp only [Option.bind_some,Si]
   by_cases hc:0≤Dc xs[i-1] xs[i]
   ·right;right
    rw [if_pos (decide_eq_true hc)]
    exact ⟨_,rfl,trivial⟩
   ·left
    rw [if_neg (by rw [decide_eq_true_eq];omega)]
    exact ⟨_,rfl,⟨i+1,by rw [Cc (by omega) (by omega)];rfl,by omega⟩,by rw [Cc (by omega) (by omega)];omega⟩
  ·right;left
   rw [if_neg (by rw [decide_eq_true_eq];omega)]
   exact ⟨_,rfl,trivial⟩) fuel 1 ⟨1,rfl,Nat.le_refl _⟩ (Ck (by show xs.length-1≤_;omega))
 unfold B9
 rw [hv]
 cases v with
 | inl r=>exact ⟨r,rfl⟩
 | inr u=>exact ⟨true,rfl⟩
def knR (x:A0):Cj:=⟨x.Tx,x.Rng.Lo,x.Rng.Hi,x.Rng.Open⟩
theorem Ama {a b:A0} (h:knR a=knR b):a=b:=by
 cases a with | mk t r=>cases r;cases b with | mk t' r'=>cases r';simp [knR] at h;simp [h]
theorem Ax8 (x:A0):Ia x=some (knR x):=rfl
section
variable {κ:Type} [DecidableEq κ]
def Aaw (l:List κ) (k:κ):List κ:=if k ∈ l then l else l++[k]
theorem Ah2 (M:List (κ × Int)) (k:κ) (i:Int):(Up M k i).map (·.1)=Aaw (M.map (·.1)) k:=by
 unfold Aaw
 by_cases h:k ∈ M.map (·.1)
 ·rw [if_pos h]
  unfold Up
  rw [if_pos (show (M.any fun x=>decide (x.1=k))=true from Rr.2 h),List.map_map]
  apply List.map_congr_left
  intro x _
  simp only [Function.comp]
  split <;> rfl
 ·rw [if_neg h,Adv h,List.map_append];rfl
theorem Anx {l:List κ} {k x:κ}:x ∈ Aaw l k ↔ x ∈ l∨x=k:=by
 unfold Aaw
 split
 ·constructor
  ·exact .inl
  ·rintro (h | rfl)
   ·exact h
   ·assumption
 ·rw [List.mem_append,List.mem_singleton]
theorem Ai3 {l:List κ} (h:l.Nodup) (k:κ):(Aaw l k).Nodup:=by
 unfold Aaw
 split
 ·exact h
 ·rename_i hk
  refine List.nodup_append.2 ⟨h,by simp,fun a ha b hb=>?_⟩
  rw [List.mem_singleton.1 hb]
  exact fun e=>hk (e ▸ ha)
theorem Apw:∀ (l acc:List κ),acc.Nodup→(l.foldl Aaw acc).Nodup∧(∀ x,x ∈ l.foldl Aaw acc ↔ x ∈ acc∨x ∈ l)∧(l.foldl Aaw acc).length≤acc.length+l.length∧((l.foldl Aaw acc).length=acc.length+l.length ↔ (acc++l).Nodup)
 | [],acc,h=>⟨h,fun x=>by simp,by simp,by simp [h]⟩
 | k::l,acc,h=>by
  obtain ⟨h1,h2,h3,h4⟩:=Apw l (Aaw acc k) (Ai3 h k)
  rw [List.foldl_cons]
  have hlen:(Aaw acc k).length=acc.length∧k ∈ acc∨(Aaw acc k).length=acc.length+1∧k ∉ acc∧Aaw acc k=acc++[k]:=by
   unfold Aaw
   split
   ·exact .inl ⟨rfl,by assumption⟩
   ·exact .inr ⟨by simp,by assumption,rfl⟩
  refine ⟨h1,fun x=>?_,?_,?_⟩
  ·rw [h2,Anx,List.mem_cons,or_assoc]
  ·rw [List.length_cons];rcases hlen with ⟨h,_⟩ | ⟨h,_⟩ <;> omega
  ·rcases hlen with ⟨h5,h6⟩ | ⟨h5,h6,h7⟩
   ·constructor
    ·intro he;rw [List.length_cons] at he;omega
    ·intro hn
     have:=(List.nodup_append.1 hn).2.2 k h6 k (List.mem_cons_self ..)
     exact absurd rfl this
   ·rw [List.length_cons]
    rw [h7,List.append_assoc,List.singleton_append] at h4
    rw [← h4,h7]
    constructor <;> intro h <;> simp at h ⊢ <;> omega
end
theorem Aas (l:List A0):∃ M:List (Cj × Int),(l.length≤1000000→True∧G2 l=some M)∧M.map (·.1)=(l.map knR).foldl Aaw []:=by
 have key:∀ (f:Int × List (Cj × Int)→Option (LB (Int × List (Cj × Int)) (List (Cj × Int)))),(∀ (i:Nat) x acc,l[i]? = some x→l.length≤1000000→f ((i:Int),acc)=some (.cont (((i+1:Nat):Int),Up acc (knR x) (i:Int))))→(∀ acc,f ((l.length:Int),acc)=some (.brk acc)) →
   ∃ M,(l.length≤1000000→C5 f fuel (0,[])=some M)∧M.map (·.1)=(l.map knR).foldl Aaw []:=fun f h1 h2=>by
  by_cases hl:l.length≤1000000
  ·obtain ⟨v,hv,hr⟩:=Ej (f:=f) (P:=fun s=>∃ (i:Nat) (M:List (Cj × Int)),i≤l.length∧s=((i:Int),M)∧M.map (·.1)=((l.take i).map knR).foldl Aaw []) (μ:=fun s=>l.length-s.1.toNat) (R:=fun M=>M.map (·.1)=(l.map knR).foldl Aaw []) (by
    rintro _ ⟨i,M,hi,rfl,hm⟩
    rcases Nat.lt_or_ge i l.length with hlt | hge
    ·left
     refine ⟨_,h1 i _ _ (List.getElem?_eq_getElem hlt) hl,⟨i+1,_,hlt,rfl,?_⟩,by simp only [Int.toNat_natCast];omega⟩
     rw [Ah2,hm,List.take_succ_eq_append_getElem hlt,List.map_append,List.foldl_append]
     rfl
    ·right
     have e:i=l.length:=by omega
     subst e
     exact ⟨_,h2 _,by rw [List.take_length] at hm;exact hm⟩) fuel (0,[]) ⟨0,[],Nat.zero_le _,rfl,rfl⟩ (Ck (by show l.length-0≤_;omega))
   exact ⟨v,fun _=>hv,hr⟩
  ·refine ⟨((l.map knR).foldl Aaw []).map (fun k=>(k,0)),fun h=>absurd h hl,?_⟩
   rw [List.map_map]
   exact List.map_id _
 obtain ⟨M,hM,hk⟩:=key (E6 l) (fun i x acc hx hl=>by
  have hlt:=(List.getElem?_eq_some_iff.1 hx).1
  unfold E6
  dsimp only
  rw [if_pos (decide_eq_true (by omega)),Bp,hx,Option.bind_some,Ax8,Option.bind_some,Cc (by omega) (by omega)]
  rfl) (fun acc=>by
  unfold E6
  dsimp only
  rw [if_neg (by rw [decide_eq_true_eq];omega)])
 refine ⟨M,fun hl=>?_,hk⟩
 have h:=hM hl
 refine ⟨trivial,?_⟩
 unfold G2
 rw [h];rfl
def srV (x:A0):Bool:=(Df x).getD false
theorem Ai6 (r:Bi):∃ v,G1 r=some v:=by
 unfold G1 Fu
 simp only [Si,Option.bind_some]
 repeat' (first | exact ⟨_,rfl⟩ | split | dsimp only [Option.bind_some])
 all_goals
  rename_i h1 h2
  have hl:(0:Int)<r.Hi.length:=by have:=of_decide_eq_true h2;omega
  obtain ⟨u,hu,_⟩:=Ark (xs:=r.Hi) (j:=0) (by decide) hl
  rw [hu,Option.bind_some]
  split <;> exact ⟨_,rfl⟩
theorem Ax6 (x:A0):Df x=some (srV x):=by
 have:∃ b,Df x=some b:=by
  obtain ⟨v,hv⟩:=Ai6 ⟨x.Rng.Lo,x.Rng.Hi,x.Rng.Open⟩
  unfold Df Ew
  simp only [hv,Option.bind_some]
  repeat' (first | exact ⟨_,rfl⟩ | split | dsimp only [Option.bind_some])
 obtain ⟨b,hb⟩:=this
 unfold srV
 rw [hb];rfl
structure Good (l:List A0):Prop where
 sr:∀ x ∈ l,srV x=true
 len:l.length≤128
 nd:l.Nodup
theorem Agx {l:List A0}:(l.map knR).Nodup ↔ l.Nodup:=by
 constructor
 ·exact Q0 _
 ·intro h
  exact List.pairwise_map.2 (h.imp fun hne e=>hne (Ama e))
theorem sane_m {l:List A0} (hl:l.length≤1000000):∃ b,F1 ⟨l⟩=some b∧(b=true ↔ Good l):=by
 unfold F1
 rw [Aw5 l srV false (Ga ⟨l⟩) (by omega) (fun i x hx=>by
  have hlt:=(List.getElem?_eq_some_iff.1 hx).1
  unfold Ga
  dsimp only
  rw [if_pos (decide_eq_true (by omega)),Bp,hx,Option.bind_some,Ax6,Option.bind_some,Cc (by omega) (by omega)]
  cases srV x <;> rfl) (by
  unfold Ga
  dsimp only
  rw [if_neg (by rw [decide_eq_true_eq];omega)])]
 cases ha:l.all srV with
 | false =>
  refine ⟨false,rfl,(fun h=>by cases h),fun h=>?_⟩
  rw [List.all_eq_true.2 h.sr] at ha;cases ha
 | true =>
  show ∃ b,Ir ⟨l⟩ ()=some b∧_
  unfold Ir
  dsimp only
  by_cases h128:l.length≤128
  ·rw [if_pos (decide_eq_true (by omega))]
   obtain ⟨M,hM,hk⟩:=Aas l
   rw [(hM hl).2,Option.bind_some]
   refine ⟨_,rfl,?_⟩
   have hf:=Apw (l.map knR) [] List.nodup_nil
   rw [← hk] at hf
   simp only [List.length_map,List.length_nil,Nat.zero_add,List.nil_append] at hf
   rw [decide_eq_true_eq]
   constructor
   ·intro h
    exact ⟨List.all_eq_true.1 ha,h128,Agx.1 (hf.2.2.2.1 (by omega))⟩
   ·intro h
    have:=hf.2.2.2.2 (Agx.2 h.nd)
    omega
  ·rw [if_neg (by rw [decide_eq_true_eq];omega)]
   exact ⟨false,rfl,fun h=>(by cases h),fun h=>absurd h.len h128⟩
theorem Asp {l:List A0} (h:Good l):F1 ⟨l⟩=some true:=by
 obtain ⟨b,hb,hi⟩:=sane_m (l:=l) (by have:=h.len;omega)
 rw [hb,hi.2 h]
theorem Aio (a b:List A0) (h:(a.length+b.length)*64≤140737488355328):Fo [a,b]=some (a++b):=by
 have:=Tk [a,b] (by simpa using h) (by simp)
 rw [this];simp
theorem Avw {l:List A0} (hl:l.length≤1000000) (tx:Int) (r:Bi) :
  (Good l∧srV ⟨tx,r⟩=true∧(((⟨tx,r⟩:A0) ∈ l∧G0 ⟨l⟩ tx r=some (⟨l⟩,0))∨((⟨tx,r⟩:A0) ∉ l∧((128≤l.length∧G0 ⟨l⟩ tx r=some (⟨[]⟩,8))∨(l.length<128∧G0 ⟨l⟩ tx r=some (⟨l++[⟨tx,r⟩]⟩,0)∧Good (l++[⟨tx,r⟩])))))) ∨
  (¬ (Good l∧srV ⟨tx,r⟩=true)∧G0 ⟨l⟩ tx r=some (⟨[]⟩,1)):=by
 unfold G0
 obtain ⟨b,hb,hi⟩:=sane_m hl
 dsimp only
 rw [hb,Option.bind_some]
 cases b with
 | false =>
  refine .inr ⟨fun h=>?_,by rw [if_pos (by rfl)]⟩
  have:=hi.2 h.1;cases this
 | true =>
  have hg:=hi.1 rfl
  rw [if_neg (nn (by rfl)),Ax6,Option.bind_some]
  cases hs:srV ⟨tx,r⟩ with
  | false=>exact .inr ⟨fun h=>(by cases h.2),by rw [if_pos (by rfl)]⟩
  | true =>
   rw [if_neg (nn (by rfl))]
   refine .inl ⟨hg,rfl,?_⟩
   unfold Ml
   dsimp only
   obtain ⟨M,hM,hk⟩:=Aas l
   have hf:=Apw (l.map knR) [] List.nodup_nil
   rw [← hk] at hf
   rw [(hM hl).2,Option.bind_some,Ax8,Option.bind_some]
   have hmem:Adu M (knR ⟨tx,r⟩)=true ↔ (⟨tx,r⟩:A0) ∈ l:=by
    rw [Rr,hf.2.1]
    simp only [List.not_mem_nil,false_or]
    constructor
    ·intro h
     obtain ⟨x,hx,he⟩:=List.mem_map.1 h
     rw [← Ama he];exact hx
    ·intro h;exact List.mem_map.2 ⟨_,h,rfl⟩
   by_cases hin:(⟨tx,r⟩:A0) ∈ l
   ·rw [if_pos (hmem.2 hin)]
    exact .inl ⟨hin,rfl⟩
   ·rw [if_neg (fun h=>hin (hmem.1 h))]
    refine .inr ⟨hin,?_⟩
    by_cases h128:128≤l.length
    ·rw [if_pos (decide_eq_true (by omega))]
     exact .inl ⟨h128,rfl⟩
    ·rw [if_neg (by rw [decide_eq_true_eq];omega),Aio _ _ (by rw [List.length_singleton];omega)]
     refine .inr ⟨by omega,rfl,fun x hx=>?_,by rw [List.length_append,List.length_singleton];omega,?_⟩
     ·rcases List.mem_append.1 hx with hx | hx
      ·exact hg.sr x hx
      ·rw [List.mem_singleton.1 hx];exact hs
     ·refine List.nodup_append.2 ⟨hg.nd,by simp,fun a ha b hb=>?_⟩
      rw [List.mem_singleton.1 hb]
      exact fun e=>hin (e ▸ ha)
def Z6 (l:List A0) (k:List UInt8):List Int:=(l.filter fun x=>Zw x.Rng k).map (·.Tx)
theorem Asm {l:List A0} (hl:l.length≤1000000) (k:List UInt8):Lz ⟨l⟩ k=some (Acl (Z6 l k)):=by
 unfold Lz
 rw [Ajd l (fun x=>if Zw x.Rng k then [x.Tx] else []) (Gb ⟨l⟩ k) 1 (fun x=>by split <;> simp) (by omega) (fun i x acc hx ha=>by
  have hlt:=(List.getElem?_eq_some_iff.1 hx).1
  unfold Gb
  dsimp only
  rw [if_pos (decide_eq_true (by omega)),Bp,hx,Option.bind_some,Ae5,Option.bind_some,Cc (by omega) (by omega)]
  cases Zw x.Rng k with
  | true=>rw [if_pos rfl,if_pos (by rw [List.length_singleton];omega),if_pos rfl];rfl
  | false=>rw [if_neg (nn (by rfl)),if_neg (nn (by rfl)),List.append_nil];rfl) (fun acc=>by
  unfold Gb
  dsimp only
  rw [if_neg (by rw [decide_eq_true_eq];omega)]),Option.bind_some,Yc]
 have hlen:(Z6 l k).length≤l.length:=by
  unfold Z6;rw [List.length_map];exact List.length_filter_le _ _
 show Hy (Z6 l k)=_
 unfold Hy Nb Ke
 rw [if_pos (by omega),Option.bind_some,if_pos (List.length_mergeSort _),if_pos (by rw [List.length_mergeSort];omega)]
 rfl
theorem Agg {l:List A0} {k:List UInt8} {t:Int}:t ∈ Acl (Z6 l k) ↔ ∃ x ∈ l,Zw x.Rng k=true∧x.Tx=t:=by
 rw [Aj9]
 unfold Z6
 rw [List.mem_map]
 constructor
 ·rintro ⟨x,hx,rfl⟩
  obtain ⟨h1,h2⟩:=List.mem_filter.1 hx
  exact ⟨x,h1,h2,rfl⟩
 ·rintro ⟨x,h1,h2,rfl⟩
  exact ⟨x,List.mem_filter.2 ⟨h1,h2⟩,rfl⟩
theorem Xb (txs:List Int) (t:Int) (hl:txs.length≤1000000):Dw txs t=some (decide (t ∈ txs)):=by
 unfold Dw En
 obtain ⟨v,hv,hr⟩:=Cx (f:=Du txs t) (P:=fun s=>∃ i:Nat,i≤txs.length∧s=(i:Int)∧t ∉ txs.take i) (μ:=fun s=>txs.length-s.toNat)
  (R:=fun x=>match x with | .inl r=>0≤r∧t ∈ txs | .inr _=>t ∉ txs) (by
   rintro _ ⟨i,hi,rfl,hp⟩
   unfold Du
   rcases Nat.lt_or_ge i txs.length with hlt | hge
   ·rw [if_pos (decide_eq_true (by omega)),Bp,List.getElem?_eq_getElem hlt,Option.bind_some,Cc (by omega) (by omega)]
    by_cases he:t=txs[i]
    ·rw [if_pos (decide_eq_true he)]
     exact .inr (.inr ⟨_,rfl,Int.natCast_nonneg _,by rw [he];exact List.getElem_mem _⟩)
    ·rw [if_neg (by rw [decide_eq_true_eq];exact he)]
     refine .inl ⟨_,rfl,⟨i+1,hlt,rfl,?_⟩,by simp only [Int.toNat_natCast];omega⟩
     rw [List.take_succ_eq_append_getElem hlt,List.mem_append,List.mem_singleton]
     rintro (h | h)
     ·exact hp h
     ·exact he h
   ·have e:i=txs.length:=by omega
    subst e
    rw [if_neg (by rw [decide_eq_true_eq];omega)]
    rw [List.take_length] at hp
    exact .inr (.inl ⟨_,rfl,hp⟩)) fuel 0 ⟨0,Nat.zero_le _,rfl,by simp⟩ (Ck (by show txs.length-0≤_;omega))
 rw [hv]
 cases v with
 | inl r =>
  show some (decide (0≤r))=_
  rw [decide_eq_true hr.1,decide_eq_true hr.2]
 | inr u =>
  show some (decide ((0:Int) ≤ -1))=_
  rw [decide_eq_false (show ¬ t ∈ txs from hr)]
  rfl
def Z3 (l:List A0) (txs:List Int) (b:Bool):List A0:=l.filter fun x=>decide (x.Tx ∈ txs) == b
theorem Aun {l:List A0} (hl:l.length≤1000000) (txs:List Int) (ht:txs.length≤1000000) (b:Bool):Ls ⟨l⟩ txs b=some ⟨Z3 l txs b⟩:=by
 unfold Ls
 rw [Ajd l (fun x=>if decide (x.Tx ∈ txs) == b then [x] else []) (Gi ⟨l⟩ txs b) 1 (fun x=>by split <;> simp) (by omega) (fun i x acc hx ha=>by
  have hlt:=(List.getElem?_eq_some_iff.1 hx).1
  unfold Gi
  dsimp only
  rw [if_pos (decide_eq_true (by omega)),Bp,hx,Option.bind_some,Xb txs _ ht,Option.bind_some,Cc (by omega) (by omega)]
  cases (decide (x.Tx ∈ txs) == b) with
  | true=>rw [if_pos rfl,if_pos (by rw [List.length_singleton];omega),if_pos rfl];rfl
  | false=>rw [if_neg (nn (by rfl)),if_neg (nn (by rfl)),List.append_nil];rfl) (fun acc=>by
  unfold Gi
  dsimp only
  rw [if_neg (by rw [decide_eq_true_eq];omega)]),Option.bind_some,Yc,List.map_id']
 rfl
theorem Aph {l:List A0} (hl:l.length≤1000000) (txs:List Int) (ht:txs.length≤1000000):Jr ⟨l⟩ txs=some ⟨Z3 l txs false⟩:=by
 unfold Jr
 rw [Aun hl txs ht];rfl
theorem Vu {l:List A0} {txs:List Int} {b:Bool} {x:A0}:x ∈ Z3 l txs b ↔ x ∈ l∧(decide (x.Tx ∈ txs)=b):=by
 unfold Z3
 rw [List.mem_filter,beq_iff_eq]
theorem Ax2 {α ρ:Type} (xs:List α) (f:Int→Option (LR Int Unit ρ)) (hl:xs.length≤1000000000000000000)
  (h:∀ (i:Nat) x,xs[i]? = some x→f (i:Int)=some (.cont ((i+1:Nat):Int))) (hend:f (xs.length:Int)=some (.brk ())):Lj f fuel 0=some (.inr ()):=by
 obtain ⟨v,hv,hr⟩:=Cx (f:=f) (P:=fun s=>∃ i:Nat,i≤xs.length∧s=(i:Int)) (μ:=fun s=>xs.length-s.toNat) (R:=fun r=>r=.inr ()) (by
  rintro _ ⟨i,hi,rfl⟩
  rcases Nat.lt_or_ge i xs.length with hlt | hge
  ·exact .inl ⟨_,h i _ (List.getElem?_eq_getElem hlt),⟨i+1,hlt,rfl⟩,by simp only [Int.toNat_natCast];omega⟩
  ·have e:i=xs.length:=by omega
   subst e
   exact .inr (.inl ⟨(),hend,rfl⟩)) fuel 0 ⟨0,Nat.zero_le _,rfl⟩ (Ck (by show xs.length-0≤_;omega))
 rw [hv,hr]
theorem Alv (l:List A0) (k:List UInt8):(Acl (Z6 l k)).length≤l.length:=by
 refine Nat.le_trans (Amk _) ?_
 unfold Z6
 rw [List.length_map]
 exact List.length_filter_le _ _
instance:DecidableEq Bi:=fun a b=>decidable_of_iff (a.Lo=b.Lo∧a.Hi=b.Hi∧a.Open=b.Open) (by cases a;cases b;simp)
end Go.Proofs.YtkblaobhhoebaaaGreat.Abs.ss
