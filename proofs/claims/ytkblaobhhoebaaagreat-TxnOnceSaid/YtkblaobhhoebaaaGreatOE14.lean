/-
 What the library's functions compute.
-/
import Derived.Test.YtkblaobhhoebaaaGreatOS14
set_option linter.unusedVariables false
set_option linter.unusedSimpArgs false
namespace Go.Proofs.YtkblaobhhoebaaaGreat.Abs.st
theorem Sr (x y:UInt8):x<y∨x=y∨y<x:=by
 rcases Nat.lt_trichotomy x.toNat y.toNat with h | h | h
 ·exact .inl (UInt8.lt_iff_toNat_lt.2 h)
 ·exact .inr (.inl (UInt8.toNat_inj.1 h))
 ·exact .inr (.inr (UInt8.lt_iff_toNat_lt.2 h))
theorem Mk {x y:UInt8} (h:x<y):¬ y<x:=fun h'=>by
 have:=UInt8.lt_iff_toNat_lt.1 h
 have:=UInt8.lt_iff_toNat_lt.1 h'
 omega
theorem Abn {x y z:UInt8} (h:x<y) (h':y<z):x<z:=by
 have h1:=UInt8.lt_iff_toNat_lt.1 h
 have h2:=UInt8.lt_iff_toNat_lt.1 h'
 exact UInt8.lt_iff_toNat_lt.2 (by omega)
theorem M4:∀ a:List UInt8,Dc a a=0
 | []=>rfl
 | x::xs=>by unfold Dc;rw [if_neg (UInt8.lt_irrefl x),if_neg (UInt8.lt_irrefl x)];exact M4 xs
theorem Qe:∀ a b:List UInt8,Dc a b = -Dc b a
 | [],[]=>rfl
 | [],_::_=>rfl
 | _::_,[]=>rfl
 | x::xs,y::ys=>by
  unfold Dc
  rcases Sr x y with h | h | h
  ·rw [if_pos h,if_neg (Mk h),if_pos h]
  ·subst h
   rw [if_neg (UInt8.lt_irrefl x),if_neg (UInt8.lt_irrefl x),if_neg (UInt8.lt_irrefl x),if_neg (UInt8.lt_irrefl x)];exact Qe xs ys
  ·rw [if_neg (Mk h),if_pos h,if_pos h];rfl
theorem Qp:∀ {a b:List UInt8},Dc a b=0→a=b
 | [],[],_=>rfl
 | [],_::_,h=>by cases h
 | _::_,[],h=>by cases h
 | x::xs,y::ys,h=>by
  unfold Dc at h
  rcases Sr x y with h1 | h1 | h1
  ·rw [if_pos h1] at h;cases h
  ·subst h1
   rw [if_neg (UInt8.lt_irrefl x),if_neg (UInt8.lt_irrefl x)] at h
   rw [Qp h]
  ·rw [if_neg (Mk h1),if_pos h1] at h;cases h
theorem Ky:∀ {a b c:List UInt8},Dc a b≤0→Dc b c≤0→Dc a c≤0∧(Dc a b<0∨Dc b c<0→Dc a c<0)
 | [],b,[],h1,h2=>⟨Int.le_refl _,fun h=>by
   cases b with
   | nil=>rcases h with h | h <;> simp [Dc] at h
   | cons y ys=>simp [Dc] at h2⟩
 | [],_,_::_,_,_=>⟨by simp [Dc],fun _=>by simp [Dc]⟩
 | _::_,[],_,h1,_=>by simp [Dc] at h1
 | _::_,_::_,[],_,h2=>by simp [Dc] at h2
 | x::xs,y::ys,z::zs,h1,h2=>by
  unfold Dc at h1 h2 ⊢
  rcases Sr x y with e1 | e1 | e1
  ·rcases Sr y z with e2 | e2 | e2
   ·rw [if_pos (Abn e1 e2)];exact ⟨by decide,fun _=>by decide⟩
   ·subst e2;rw [if_pos e1];exact ⟨by decide,fun _=>by decide⟩
   ·rw [if_neg (Mk e2),if_pos e2] at h2;exact absurd h2 (by decide)
  ·subst e1
   rw [if_neg (UInt8.lt_irrefl x),if_neg (UInt8.lt_irrefl x)] at h1 ⊢
   rcases Sr x z with e2 | e2 | e2
   ·rw [if_pos e2];exact ⟨by decide,fun _=>by decide⟩
   ·subst e2
    simp only [UInt8.lt_irrefl,if_false] at h2 ⊢
    exact Ky h1 h2
   ·rw [if_neg (Mk e2),if_pos e2] at h2;exact absurd h2 (by decide)
  ·rw [if_neg (Mk e1),if_pos e1] at h1;exact absurd h1 (by decide)
theorem Si (a b:List UInt8):Fw a b=some (Dc a b):=rfl
def Zw (r:Bi) (k:List UInt8):Bool:=decide (0≤Dc k r.Lo) && (r.Open || decide (Dc k r.Hi<0))
theorem Ae5 (r:Bi) (k:List UInt8):Dq r k=some (Zw r k):=by
 unfold Dq Zw
 simp only [Si,Option.bind_some]
 cases decide (0≤Dc k r.Lo) <;> cases r.Open <;> simp
def Agq (r:Bi):Bool:=!r.Open && ((decide (r.Lo=[]) && decide (r.Hi=[0])) || decide (Dc r.Hi r.Lo≤0))
theorem Awo {α:Type} (a:List α):decide ((a.length:Int)=0)=decide (a=[]):=by
 rw [decide_eq_decide]
 cases a <;> simp
 omega
abbrev Keys:=List (List UInt8)
def kat (xs:Keys) (k:List UInt8):Nat:=xs.findIdx (fun x=>decide (0≤Dc x k))
def hit (xs:Keys) (k:List UInt8):Bool:=xs[kat xs k]? == some k
theorem Agw (xs:Keys) (k:List UInt8):kat xs k≤xs.length:=List.findIdx_le_length
theorem Aap {xs:Keys} {k:List UInt8} {i:Nat} {x:List UInt8} (h:xs[i]? = some x) (h1:0≤Dc x k) (h2:∀ j y,j<i→xs[j]? = some y→Dc y k<0):kat xs k=i:=by
 obtain ⟨hi,rfl⟩:=List.getElem?_eq_some_iff.1 h
 unfold kat
 rw [List.findIdx_eq hi]
 refine ⟨by simpa using h1,fun j hj=>?_⟩
 have:=h2 j xs[j] hj (List.getElem?_eq_getElem (by omega))
 rw [decide_eq_false_iff_not]
 omega
theorem Tq {xs:Keys} {k:List UInt8} (h:∀ j y,j<xs.length→xs[j]? = some y→Dc y k<0):kat xs k=xs.length:=by
 unfold kat
 rw [List.findIdx_eq_length]
 intro x hx
 obtain ⟨j,hj,rfl⟩:=List.getElem_of_mem hx
 have:=h j xs[j] hj (List.getElem?_eq_getElem hj)
 rw [decide_eq_false_iff_not]
 omega
theorem Apy (xs:Keys) (k:List UInt8) (hn:xs.length≤1000000000000000000):M6 xs k=some ((kat xs k:Int),hit xs k):=by
 obtain ⟨v,hv,hr⟩:=Cx (f:=Dr xs k) (P:=fun s=>∃ i:Nat,s=(i:Int)∧i≤xs.length∧∀ j y,j<i→xs[j]? = some y→Dc y k<0) (μ:=fun s=>xs.length-s.toNat)
  (R:=fun v=>match v with | .inl r=>r=(kat xs k:Int)∧kat xs k<xs.length | .inr _=>kat xs k=xs.length) (by
  rintro _ ⟨i,rfl,h1,h2⟩
  unfold Dr Cs
  by_cases hi:i<xs.length
  ·have e:=List.getElem?_eq_getElem hi
   rw [if_pos (decide_eq_true (by omega)),Bp,e]
   simp only [Option.bind_some,Si]
   by_cases hc:0≤Dc xs[i] k
   ·right;right
    rw [if_pos (decide_eq_true hc)]
    have ea:=Aap e hc h2
    exact ⟨_,rfl,by rw [ea],by rw [ea];exact hi⟩
   ·left
    rw [if_neg (by rw [decide_eq_true_eq];exact hc)]
    refine ⟨_,rfl,⟨i+1,by rw [Cc (by omega) (by omega)];rfl,hi,fun j y hj hy=>?_⟩,by rw [Cc (by omega) (by omega)];omega⟩
    rcases Nat.lt_succ_iff_lt_or_eq.1 hj with h | rfl
    ·exact h2 j y h hy
    ·rw [e] at hy;cases hy;omega
  ·right;left
   rw [if_neg (by rw [decide_eq_true_eq];omega)]
   refine ⟨_,rfl,?_⟩
   have:i=xs.length:=by omega
   subst this
   exact Tq h2) fuel 0 ⟨0,rfl,Nat.zero_le _,fun j y hj=>absurd hj (Nat.not_lt_zero _)⟩ (Ck (by show xs.length-0≤_;omega))
 unfold M6 Gw
 rw [hv]
 simp only [Option.bind_some]
 cases v with
 | inl r =>
  obtain ⟨rfl,hlt⟩:r=(kat xs k:Int)∧kat xs k<xs.length:=hr
  simp only [Option.bind_some]
  rw [if_neg (by rw [decide_eq_true_eq];omega),Bp,List.getElem?_eq_getElem hlt]
  simp only [Option.bind_some,Dl]
  unfold hit
  rw [List.getElem?_eq_getElem hlt]
  rfl
 | inr u =>
  have e:kat xs k=xs.length:=hr
  unfold Fg
  simp only [Option.bind_some]
  rw [if_pos (by decide)]
  unfold hit
  rw [e]
  simp
theorem Aa0 (xs:Keys) (k:List UInt8) (hn:xs.length≤1000000000000000000):Eu xs k=some ((kat xs k:Int),hit xs k):=by
 obtain ⟨v,hv,hr⟩:=Cx (f:=Cf xs k) (P:=fun s=>∃ i:Nat,s=(i:Int)∧i≤xs.length∧∀ j y,j<i→xs[j]? = some y→Dc y k<0) (μ:=fun s=>xs.length-s.toNat)
  (R:=fun v=>match v with | .inl r=>r=(kat xs k:Int)∧kat xs k<xs.length | .inr _=>kat xs k=xs.length) (by
  rintro _ ⟨i,rfl,h1,h2⟩
  unfold Cf Cs
  by_cases hi:i<xs.length
  ·have e:=List.getElem?_eq_getElem hi
   rw [if_pos (decide_eq_true (by omega)),Bp,e]
   simp only [Option.bind_some,Si]
   by_cases hc:0≤Dc xs[i] k
   ·right;right
    rw [if_pos (decide_eq_true hc)]
    have ea:=Aap e hc h2
    exact ⟨_,rfl,by rw [ea],by rw [ea];exact hi⟩
   ·left
    rw [if_neg (by rw [decide_eq_true_eq];exact hc)]
    refine ⟨_,rfl,⟨i+1,by rw [Cc (by omega) (by omega)];rfl,hi,fun j y hj hy=>?_⟩,by rw [Cc (by omega) (by omega)];omega⟩
    rcases Nat.lt_succ_iff_lt_or_eq.1 hj with h | rfl
    ·exact h2 j y h hy
    ·rw [e] at hy;cases hy;omega
  ·right;left
   rw [if_neg (by rw [decide_eq_true_eq];omega)]
   refine ⟨_,rfl,?_⟩
   have:i=xs.length:=by omega
   subst this
   exact Tq h2) fuel 0 ⟨0,rfl,Nat.zero_le _,fun j y hj=>absurd hj (Nat.not_lt_zero _)⟩ (Ck (by show xs.length-0≤_;omega))
 unfold Eu Ec
 rw [hv]
 simp only [Option.bind_some]
 cases v with
 | inl r =>
  obtain ⟨rfl,hlt⟩:r=(kat xs k:Int)∧kat xs k<xs.length:=hr
  simp only [Option.bind_some]
  rw [if_neg (by rw [decide_eq_true_eq];omega),Bp,List.getElem?_eq_getElem hlt]
  simp only [Option.bind_some,Dl]
  unfold hit
  rw [List.getElem?_eq_getElem hlt]
  rfl
 | inr u =>
  have e:kat xs k=xs.length:=hr
  unfold C4
  simp only [Option.bind_some]
  rw [if_pos (by decide)]
  unfold hit
  rw [e]
  simp
def ins (xs:Keys) (k:List UInt8):Keys:=if hit xs k then xs else xs.take (kat xs k)++k::xs.drop (kat xs k)
def part (xs:Keys) (k:List UInt8) (j:Nat):Keys:=if hit xs k=true∨j≤kat xs k then xs.take j else xs.take (kat xs k)++k::(xs.drop (kat xs k)).take (j-kat xs k)
theorem Ajt {xs:Keys} {k:List UInt8} (h:hit xs k=true):kat xs k<xs.length:=by
 unfold hit at h
 have:=eq_of_beq h
 exact (List.getElem?_eq_some_iff.1 this).1
abbrev PW (xs:Keys):Prop:=xs.Pairwise (fun x y=>Dc x y<0)
theorem Zn {xs:Keys} {k x:List UInt8} (h:x ∈ xs.take (kat xs k)):Dc x k<0:=by
 obtain ⟨j,hj,rfl⟩:=List.getElem_of_mem h
 rw [List.length_take] at hj
 rw [List.getElem_take]
 have:=List.not_of_lt_findIdx (p:=fun x=>decide (0≤Dc x k)) (xs:=xs) (i:=j) (by have h':kat xs k=List.findIdx (fun x=>decide (0≤Dc x k)) xs:=rfl;omega)
 have h2:¬ 0≤Dc xs[j] k:=by simpa using this
 omega
theorem Zg {xs:Keys} {k:List UInt8} (h:kat xs k<xs.length):0≤Dc xs[kat xs k] k:=by
 have:=List.findIdx_getElem (p:=fun x=>decide (0≤Dc x k)) (xs:=xs) (w:=h)
 exact of_decide_eq_true this
theorem U1 {xs:Keys} {k:List UInt8} (h:hit xs k=true):k ∈ xs:=by
 unfold hit at h
 exact List.mem_of_getElem? (eq_of_beq h)
theorem Zu {xs:Keys} {k:List UInt8} (hp:PW xs) (h:k ∈ xs):hit xs k=true:=by
 obtain ⟨j,hj,rfl⟩:=List.getElem_of_mem h
 have hle:kat xs xs[j]≤j:=by
  rcases Nat.lt_or_ge j (kat xs xs[j]) with h1 | h1
  ·have:=Zn (xs:=xs) (k:=xs[j]) (x:=xs[j]) (List.mem_take_iff_getElem.2 ⟨j,by omega,rfl⟩)
   rw [M4] at this
   omega
  ·exact h1
 have hk:kat xs xs[j]<xs.length:=by omega
 unfold hit
 rw [List.getElem?_eq_getElem hk]
 rcases Nat.lt_or_ge (kat xs xs[j]) j with h1 | h1
 ·have h2:=List.pairwise_iff_getElem.1 hp _ _ hk hj h1
  have h3:=Zg hk
  omega
 ·have e:kat xs xs[j]=j:=by omega
  simp only [e]
  simp
theorem Zk {xs:Keys} {k:List UInt8} (hp:PW xs):hit xs k=true ↔ k ∈ xs:=⟨U1,Zu hp⟩
theorem Apx {xs:Keys} {k x:List UInt8}:x ∈ ins xs k ↔ x=k∨x ∈ xs:=by
 unfold ins
 by_cases h:hit xs k=true
 ·rw [if_pos h]
  constructor
  ·exact .inr
  ·rintro (rfl | h')
   ·exact U1 h
   ·exact h'
 ·rw [if_neg h]
  have e:x ∈ xs ↔ x ∈ xs.take (kat xs k)∨x ∈ xs.drop (kat xs k):=by
   rw [← List.mem_append,List.take_append_drop]
  rw [List.mem_append,List.mem_cons,e]
  constructor
  ·rintro (h1 | rfl | h1)
   ·exact .inr (.inl h1)
   ·exact .inl rfl
   ·exact .inr (.inr h1)
  ·rintro (rfl | h1 | h1)
   ·exact .inr (.inl rfl)
   ·exact .inl h1
   ·exact .inr (.inr h1)
theorem Alh {xs:Keys} {k:List UInt8} (hp:PW xs):PW (ins xs k):=by
 unfold ins
 by_cases h:hit xs k=true
 ·rw [if_pos h];exact hp
 ·rw [if_neg h]
  have hap:PW (xs.take (kat xs k)++xs.drop (kat xs k)):=by rw [List.take_append_drop];exact hp
  obtain ⟨h1,h2,h3⟩:=List.pairwise_append.1 hap
  have hk:∀ y ∈ xs.drop (kat xs k),Dc k y<0:=by
   intro y hy
   have hlt:kat xs k<xs.length:=by
    rcases Nat.lt_or_ge (kat xs k) xs.length with h' | h'
    ·exact h'
    ·rw [List.drop_of_length_le h'] at hy;cases hy
   have hge:=Zg hlt
   have hne:Dc xs[kat xs k] k≠0:=fun e=>h (by
    unfold hit
    rw [List.getElem?_eq_getElem hlt,Qp e]
    simp)
   have hs:=Qe k xs[kat xs k]
   have hlt2:Dc k xs[kat xs k]<0:=by omega
   rw [List.drop_eq_getElem_cons hlt] at hy h2
   rcases List.mem_cons.1 hy with rfl | hy
   ·exact hlt2
   ·have:=(List.pairwise_cons.1 h2).1 y hy
    exact (Ky (Int.le_of_lt hlt2) (Int.le_of_lt this)).2 (.inl hlt2)
  refine List.pairwise_append.2 ⟨h1,List.pairwise_cons.2 ⟨hk,h2⟩,fun x hx y hy=>?_⟩
  rcases List.mem_cons.1 hy with rfl | hy
  ·exact Zn hx
  ·exact h3 x hx y hy
theorem Tw {xs:Keys} (hp:PW xs) (hn:xs.length≤1000000000000000000):B9 xs=some true:=by
 obtain ⟨v,hv,hr⟩:=Cx (f:=B7 xs) (P:=fun s=>∃ i:Nat,s=(i:Int)∧1≤i) (μ:=fun s=>xs.length-s.toNat)
  (R:=fun v=>match v with | .inl r=>False | .inr _=>True) (by
  rintro _ ⟨i,rfl,h1⟩
  unfold B7
  by_cases hi:i<xs.length
  ·left
   rw [if_pos (decide_eq_true (by omega)),Cc (by omega) (by omega),show (i:Int)-1=((i-1:Nat):Int) from by omega,Bp,Bp,List.getElem?_eq_getElem hi,List.getElem?_eq_getElem (by omega)]
   simp only [Option.bind_some,Si]
   have:=List.pairwise_iff_getElem.1 hp (i-1) i (by omega) hi (by omega)
   rw [if_neg (by rw [decide_eq_true_eq];omega)]
   exact ⟨_,rfl,⟨i+1,by rw [Cc (by omega) (by omega)];rfl,by omega⟩,by rw [Cc (by omega) (by omega)];omega⟩
  ·right;left
   rw [if_neg (by rw [decide_eq_true_eq];omega)]
   exact ⟨_,rfl,trivial⟩) fuel 1 ⟨1,rfl,Nat.le_refl _⟩ (Ck (by show xs.length-1≤_;omega))
 unfold B9
 rw [hv]
 cases v with
 | inl r=>exact hr.elim
 | inr u=>rfl
theorem sorted_some (xs:Keys) (hn:xs.length≤1000000000000000000):∃ v,B9 xs=some v:=by
 obtain ⟨v,hv,hr⟩:=Cx (f:=B7 xs) (P:=fun s=>∃ i:Nat,s=(i:Int)∧1≤i) (μ:=fun s=>xs.length-s.toNat)
  (R:=fun _=>True) (by
  rintro _ ⟨i,rfl,h1⟩
  unfold B7
  by_cases hi:i<xs.length
  ·rw [if_pos (decide_eq_true (by omega)),Cc (by omega) (by omega),show (i:Int)-1=((i-1:Nat):Int) from by omega,Bp,Bp,List.getElem?_eq_getElem hi,List.getElem?_eq_getElem (by omega)]
   simp only [Option.bind_some,Si]
   by_cases hc:0≤Dc xs[i-1] xs[i]
   ·right;right
    rw [if_pos (decide_eq_true hc)]
    exact ⟨_,rfl,trivial⟩
   ·left
    rw [if_neg (by rw [decide_eq_true_eq];omega)]
    exact ⟨_,rfl,⟨i+1,by rw [Cc (by omega) (by omega)];rfl,by omega⟩,by rw [Cc (by omega) (by omega)];omega⟩
  ·right;left
   rw [if_neg (by rw [decide_eq_true_eq];omega)]
   exact ⟨_,rfl,trivial⟩) fuel 1 ⟨1,rfl,Nat.le_refl _⟩ (Ck (by show xs.length-1≤_;omega))
 unfold B9
 rw [hv]
 cases v with
 | inl r=>exact ⟨r,rfl⟩
 | inr u=>exact ⟨true,rfl⟩
def vOk (v:A3):Bool:=decide (1≤v.Ts) && decide (v.Ts≤1099511627776) && decide ((v.Val.length:Int)≤32) && !(v.Del && decide (0<(v.Val.length:Int)))
theorem Atu (v:A3):Gf v=some (vOk v):=by
 unfold Gf vOk
 cases h1:decide (1≤v.Ts) <;> cases h2:decide (v.Ts≤1099511627776) <;> cases h3:decide ((v.Val.length:Int)≤32) <;> cases h4:v.Del <;> simp
structure OkC (l:List A3):Prop where
 each:∀ (i:Nat) (v:A3),l[i]? = some v→vOk v=true
 asc:∀ (i:Nat) (v w:A3),l[i]? = some v→l[i+1]? = some w→v.Ts<w.Ts
def OkN (l:List A3) (n:Nat) (b:Int):Prop :=
 (∀ (i:Nat) (v:A3),i<n→l[i]? = some v→vOk v=true)∧(∀ (i:Nat) (v w:A3),i+1<n→l[i]? = some v→l[i+1]? = some w→v.Ts<w.Ts)∧∀ (k:Nat) (v:A3),n=k+1→l[k]? = some v→v.Ts<b
theorem Abt {c:An} (h:c.L.length≤1000):Ais c=some (Qb c.L c.L.length):=if_pos (by omega)
theorem Ak5 (l:List A3):∀ (n:Nat) (b:Int),n≤l.length→∃ e r,Qv Ij (Qb l n) b=some e∧Acu Lg K9 (fun _ _=>none) e=some r∧(r=true ↔ OkN l n b)
 | 0,b,_=>⟨_,_,rfl,rfl,by simp [OkN]⟩
 | n+1,b,h=>by
  rw [Qr (by omega)]
  have hg:=List.getElem?_eq_getElem (show n<l.length by omega)
  generalize l[n]'(by omega)=v at hg
  unfold Qv
  unfold Ij
  dsimp only
  rw [Atu,Option.bind_some]
  cases hs:vOk v with
  | false =>
   refine ⟨_,false,rfl,rfl,?_⟩
   simp only [Bool.false_eq_true,false_iff]
   intro hk
   rw [hk.1 n v (Nat.lt_succ_self n) hg] at hs
   cases hs
  | true =>
   by_cases hb:b≤v.Ts
   ·rw [if_neg (by simp),if_pos (decide_eq_true hb)]
    refine ⟨_,false,rfl,rfl,?_⟩
    simp only [Bool.false_eq_true,false_iff]
    intro hk
    have:=hk.2.2 n v rfl hg
    omega
   ·rw [if_neg (by simp),if_neg (by simpa using hb)]
    obtain ⟨e,r,h1,h2,h3⟩:=Ak5 l n v.Ts (by omega)
    refine ⟨e,r,h1,h2,h3.trans ⟨fun hk=>⟨fun i u hi hu=>?_,fun i u w hi hu hw=>?_,fun k u hk2 hu=>?_⟩,fun hk=>⟨fun i u hi hu=>hk.1 i u (by omega) hu,fun i u w hi hu hw=>hk.2.1 i u w (by omega) hu hw,fun k u hk2 hu=>?_⟩⟩⟩
    ·by_cases e:i=n
     ·subst e;rw [hg] at hu;cases hu;exact hs
     ·exact hk.1 i u (by omega) hu
    ·by_cases e:i+1=n
     ·subst e;rw [hg] at hw;cases hw;exact hk.2.2 i u rfl hu
     ·exact hk.2.1 i u w (by omega) hu hw
    ·have:k=n:=by omega
     subst this
     rw [hg] at hu;cases hu;omega
    ·subst hk2
     exact hk.2.1 k u v (by omega) hu hg
theorem Aqj (l:List A3):OkN l l.length 1099511627777 ↔ OkC l:=by
 constructor
 ·intro h
  exact ⟨fun i v hv=>h.1 i v (List.getElem?_eq_some_iff.1 hv).1 hv,fun i v w hv hw=>h.2.1 i v w (List.getElem?_eq_some_iff.1 hw).1 hv hw⟩
 ·intro h
  refine ⟨fun i v _ hv=>h.each i v hv,fun i v w _ hv hw=>h.asc i v w hv hw,fun k v _ hv=>?_⟩
  have:=h.each k v hv
  unfold vOk at this
  simp only [Bool.and_eq_true,decide_eq_true_eq] at this
  omega
theorem Ww {c:An} (h:c.L.length≤1000):(Ey c=some true∧OkC c.L)∨(Ey c=some false∧¬ OkC c.L):=by
 obtain ⟨e,r,h1,h2,h3⟩:=Ak5 c.L c.L.length 1099511627777 (Nat.le_refl _)
 have:Ey c=some r:=by
  unfold Ey
  rw [Abt h,Option.bind_some,h1,Option.bind_some,h2]
 rw [Aqj] at h3
 cases r with
 | true=>exact .inl ⟨this,h3.1 rfl⟩
 | false=>exact .inr ⟨this,fun hk=>by have:=h3.2 hk;cases this⟩
def plc (l:List A3) (t:Int):Nat→Int
 | 0=>-1
 | n+1=>match l[n]? with
  | some v=>if v.Ts≤t then (n:Int) else plc l t n
  | none=>-1
theorem Aln (l:List A3) (t:Int):∀ (n:Nat) (s:Int),n≤l.length→∃ e,Qv (Hw t) (Qb l n) s=some e∧Acu La Ld (fun _ _=>none) e=some (plc l t n)
 | 0,s,_=>⟨_,rfl,rfl⟩
 | n+1,s,h=>by
  rw [Qr (by omega)]
  have hg:=List.getElem?_eq_getElem (show n<l.length by omega)
  generalize l[n]'(by omega)=v at hg
  unfold Qv Hw plc
  rw [hg]
  dsimp only
  by_cases ht:v.Ts≤t
  ·rw [if_pos (decide_eq_true ht),if_pos ht]
   exact ⟨_,rfl,rfl⟩
  ·rw [if_neg (by simpa using ht),if_neg ht]
   exact Aln l t n s (by omega)
theorem Af7 {c:An} (h:c.L.length≤1000) (t:Int):J3 c t=some (plc c.L t c.L.length):=by
 obtain ⟨e,h1,h2⟩:=Aln c.L t c.L.length 0 (Nat.le_refl _)
 unfold J3
 rw [Abt h,Option.bind_some,h1,Option.bind_some,h2]
theorem Ya (l:List A3) (t:Int):∀ n,n≤l.length → -1≤plc l t n∧plc l t n<n∧(∀ k v,plc l t n=((k:Nat):Int)→l[k]? = some v→v.Ts≤t)∧∀ (j:Nat) v,plc l t n<j→j<n→l[j]? = some v→t<v.Ts
 | 0,_=>⟨by show (-1:Int) ≤ -1;omega,by show (-1:Int)<((0:Nat):Int);omega,fun k v h=>by have h':(-1:Int)=k:=h;omega,fun j v _ h=>by omega⟩
 | n+1,h=>by
  have hg:=List.getElem?_eq_getElem (show n<l.length by omega)
  generalize l[n]'(by omega)=u at hg
  obtain ⟨h1,h2,h3,h4⟩:=Ya l t n (by omega)
  unfold plc
  rw [hg]
  dsimp only
  by_cases ht:u.Ts≤t
  ·rw [if_pos ht]
   refine ⟨by omega,by omega,fun k v hk hv=>?_,fun j v hj1 hj2 hv=>by omega⟩
   have:k=n:=by omega
   subst this
   rw [hg] at hv;cases hv;exact ht
  ·rw [if_neg ht]
   refine ⟨h1,by omega,h3,fun j v hj1 hj2 hv=>?_⟩
   by_cases e:j=n
   ·subst e;rw [hg] at hv;cases hv;omega
   ·exact h4 j v hj1 (by omega) hv
theorem Ary {c:An} (h:c.L.length≤1000) {t:Int} (hp:plc c.L t c.L.length = -1):Fv c t=some (⟨0,[],false⟩,false):=by
 unfold Fv
 rw [Af7 h,hp]
 rfl
theorem Aq0 {c:An} (h:c.L.length≤1000) {t:Int} {k:Nat} {v:A3} (hp:plc c.L t c.L.length=k) (hv:c.L[k]? = some v):Fv c t=some (v,true):=by
 unfold Fv
 rw [Af7 h,hp,Option.bind_some,if_neg (by simp only [decide_eq_true_eq];omega),Bp,hv]
 rfl
theorem Agp {c:An} {t:Int} {v:A3} {b:Bool} (h:Fv c t=some (v,b)):Hb c t=some (if b && !v.Del then (v.Val,true) else ([],false)):=by
 unfold Hb Lh
 rw [h,Option.bind_some]
 cases b <;> cases v.Del <;> simp
def O6 (l:List A3):Int:=match l[l.length-1]? with
 | some v=>v.Ts
 | none=>0
theorem Ami {c:An} (h:c.L.length≤1000):Jn c=some (O6 c.L):=by
 unfold Jn O6
 rw [Abt h,Option.bind_some]
 cases hn:c.L.length with
 | zero =>
  have:c.L=[]:=List.eq_nil_of_length_eq_zero hn
  rw [this]
  rfl
 | succ n =>
  rw [Qr (by omega),Nat.add_sub_cancel,List.getElem?_eq_getElem (show n<c.L.length by omega)]
  rfl
theorem Ag3 {c:An} (h:c.L.length≤1000) {v:A3} (hk:OkC c.L) (hv:vOk v=true) (hl:O6 c.L<v.Ts):Mb c v=some (⟨c.L++[v]⟩,0):=by
 unfold Mb
 rcases Ww (c:=⟨c.L⟩) h with ⟨h1,h2⟩ | ⟨h1,h2⟩
 ·rw [h1,Option.bind_some,Atu,Option.bind_some,hv]
  unfold Lb
  have hn:¬ (decide (v.Ts≤O6 c.L)=true):=by rw [decide_eq_true_eq];omega
  rw [Ami h,Option.bind_some,if_neg hn,Sp _ (by simp;omega) (by simp)]
  simp
 ·exact absurd hk h2
def gone (l:List A3) (t:Int):Nat:=match l[(plc l t l.length).toNat]? with
 | some v=>if plc l t l.length<0 then 0 else if v.Del then (plc l t l.length).toNat+1 else (plc l t l.length).toNat
 | none=>0
theorem Atr {c:An} (h:c.L.length≤1000) (hk:OkC c.L) (t:Int):Jv c t=some ⟨c.L.drop (gone c.L t)⟩:=by
 obtain ⟨p1,p2,_,_⟩:=Ya c.L t c.L.length (Nat.le_refl _)
 unfold Jv gone
 rw [Af7 h,Option.bind_some]
 by_cases h0:plc c.L t c.L.length<0
 ·rw [if_pos (decide_eq_true h0)]
  split
  ·rw [if_pos h0];rfl
  ·rfl
 ·rw [if_neg (by simpa using h0)]
  rcases Ww (c:=⟨c.L⟩) h with ⟨h1,h2⟩ | ⟨h1,h2⟩
  ·rw [h1,Option.bind_some,if_neg (by simp)]
   unfold Ja
   have hg:=List.getElem?_eq_getElem (show (plc c.L t c.L.length).toNat<c.L.length by omega)
   generalize c.L[(plc c.L t c.L.length).toNat]'(by omega)=v at hg
   rw [As4 (by omega) hg,Option.bind_some,hg]
   dsimp only
   rw [if_neg h0]
   have key:∀ j:Nat,j≤c.L.length→E3 c (j:Int)=some ⟨c.L.drop j⟩:=fun j hj=>by
    unfold E3
    rw [Acs (by omega) (by omega) (by omega),Option.bind_some]
    have:(c.L.drop ((j:Int)).toNat).take (((c.L.length:Int)).toNat-((j:Int)).toNat)=c.L.drop j:=by
     rw [Int.toNat_natCast,Int.toNat_natCast]
     exact List.take_of_length_le (by simp)
    rw [this,T7 _ (by simp;omega)]
    rfl
   cases hd:v.Del with
   | true =>
    rw [if_pos rfl,if_pos rfl,Cc (by omega) (by omega)]
    have:=key ((plc c.L t c.L.length).toNat+1) (by omega)
    rw [show (((plc c.L t c.L.length).toNat+1:Nat):Int)=plc c.L t c.L.length+1 by omega] at this
    exact this
   | false =>
    rw [if_neg (by simp),if_neg (by simp)]
    have:=key ((plc c.L t c.L.length).toNat) (by omega)
    rw [show (((plc c.L t c.L.length).toNat:Nat):Int)=plc c.L t c.L.length by omega] at this
    exact this
  ·exact absurd hk h2
theorem Alq:OkC []:=⟨fun i v h=>by simp at h,fun i v w h=>by simp at h⟩
theorem Ahp {l:List A3} (h:OkC l) {v:A3} (hv:vOk v=true) (hl:O6 l<v.Ts):OkC (l++[v]):=by
 refine ⟨fun i u hu=>?_,fun i u w hu hw=>?_⟩
 ·by_cases hi:i<l.length
  ·rw [List.getElem?_append_left hi] at hu;exact h.each i u hu
  ·rw [List.getElem?_append_right (by omega)] at hu
   cases hj:i-l.length with
   | zero=>rw [hj] at hu;cases hu;exact hv
   | succ j=>rw [hj] at hu;simp at hu
 ·by_cases hi:i+1<l.length
  ·rw [List.getElem?_append_left (by omega)] at hu
   rw [List.getElem?_append_left hi] at hw
   exact h.asc i u w hu hw
  ·by_cases hi2:i<l.length
   ·rw [List.getElem?_append_left hi2] at hu
    rw [List.getElem?_append_right (by omega),show i+1-l.length=0 by omega] at hw
    cases hw
    unfold O6 at hl
    rw [show l.length-1=i by omega,hu] at hl
    exact hl
   ·rw [List.getElem?_append_right (by omega)] at hw
    cases hj:i+1-l.length with
    | zero=>omega
    | succ j=>rw [hj] at hw;simp at hw
theorem Aoq {l:List A3} (h:OkC l) (n:Nat):OkC (l.drop n):=by
 refine ⟨fun i v hv=>?_,fun i v w hv hw=>?_⟩
 ·rw [List.getElem?_drop] at hv;exact h.each _ v hv
 ·rw [List.getElem?_drop] at hv hw;exact h.asc (n+i) v w hv (by rw [Nat.add_assoc];exact hw)
def pc (l:List A3) (t:Int):Nat:=(plc l t l.length+1).toNat
theorem Av9 (l:List A3) (t:Int):pc l t≤l.length:=by
 obtain ⟨h1,h2,_,_⟩:=Ya l t l.length (Nat.le_refl _)
 unfold pc;omega
theorem Apq (l:List A3) (t:Int):plc l t l.length=(pc l t:Int)-1:=by
 obtain ⟨h1,h2,_,_⟩:=Ya l t l.length (Nat.le_refl _)
 unfold pc;omega
theorem at0 {c:An} (h:c.L.length≤1000) {t:Int} (hp:pc c.L t=0):Fv c t=some (⟨0,[],false⟩,false) :=
 Ary h (by rw [Apq,hp];rfl)
theorem at1 {c:An} (h:c.L.length≤1000) {t:Int} {v:A3} (hp:0<pc c.L t) (hv:c.L[pc c.L t-1]? = some v):Fv c t=some (v,true) :=
 Aq0 h (by rw [Apq];omega) hv
theorem Ao6 {α:Type} (xs:List α) (p:Nat→α→Bool) (f:Int→Option (LR Int Unit Bool)) (hl:xs.length≤1000000000000000000)
  (h:∀ (i:Nat) x,xs[i]? = some x→f (i:Int)=some (if p i x then .ret false else .cont ((i+1:Nat):Int))) (hend:f (xs.length:Int)=some (.brk ())) :
  (∃ i x,xs[i]? = some x∧p i x=true∧Lj f fuel 0=some (.inl false))∨((∀ (i:Nat) x,xs[i]? = some x→p i x=false)∧Lj f fuel 0=some (.inr ())):=by
 obtain ⟨b,hb,hr⟩:=Cx (f:=f) (P:=fun s=>∃ i:Nat,i≤xs.length∧s=(i:Int)∧∀ j x,j<i→xs[j]? = some x→p j x=false) (μ:=fun s=>xs.length-s.toNat)
  (R:=fun r=>(r=.inl false∧∃ i x,xs[i]? = some x∧p i x=true)∨(r=.inr ()∧∀ (i:Nat) x,xs[i]? = some x→p i x=false)) (by
   rintro _ ⟨i,hi,rfl,hp⟩
   rcases Nat.lt_or_ge i xs.length with hlt | hge
   ·have hx:=List.getElem?_eq_getElem hlt
    have hf:=h i _ hx
    cases hpx:p i xs[i] with
    | true =>
     rw [hpx,if_pos rfl] at hf
     exact .inr (.inr ⟨false,hf,.inl ⟨rfl,i,_,hx,hpx⟩⟩)
    | false =>
     rw [hpx,if_neg (by decide)] at hf
     refine .inl ⟨_,hf,⟨i+1,hlt,rfl,fun j x hj hx'=>?_⟩,by simp only [Int.toNat_natCast];omega⟩
     rcases Nat.lt_succ_iff_lt_or_eq.1 hj with h' | rfl
     ·exact hp j x h' hx'
     ·rw [hx] at hx';cases hx';exact hpx
   ·have e:i=xs.length:=by omega
    subst e
    exact .inr (.inl ⟨(),hend,.inr ⟨rfl,fun j x hx=>hp j x (List.getElem?_eq_some_iff.1 hx).1 hx⟩⟩)) fuel 0 ⟨0,Nat.zero_le _,rfl,fun j x hj=>absurd hj (Nat.not_lt_zero _)⟩ (Ck (by show xs.length-0≤_;omega))
 rcases hr with ⟨rfl,i,x,hx,hp⟩ | ⟨rfl,hp⟩
 ·exact .inl ⟨i,x,hx,hp,hb⟩
 ·exact .inr ⟨hp,hb⟩
def kOk (k:List UInt8):Bool:=decide (1≤(k.length:Int)) && decide ((k.length:Int)≤16)
theorem Aqm (k:List UInt8):Dp k=some (kOk k):=by
 unfold Dp kOk
 by_cases h:1≤(k.length:Int)
 ·rw [if_pos (decide_eq_true h),decide_eq_true h,Bool.true_and]
 ·rw [if_neg (by rw [decide_eq_true_eq];exact h),decide_eq_false h,Bool.false_and]
theorem Ac8:∀ (xs:Keys),(∀ (j:Nat) x y,xs[j]? = some x→xs[j+1]? = some y→Dc x y<0)→PW xs
 | [],_=>List.Pairwise.nil
 | [_],_=>List.pairwise_singleton _ _
 | x::y::l,h=>by
  have ih:PW (y::l):=Ac8 (y::l) fun j a b ha hb=>h (j+1) a b ha hb
  have hxy:Dc x y<0:=h 0 x y rfl rfl
  refine List.pairwise_cons.2 ⟨fun z hz=>?_,ih⟩
  rcases List.mem_cons.1 hz with rfl | hz
  ·exact hxy
  ·have:=(List.pairwise_cons.1 ih).1 z hz
   exact (Ky (Int.le_of_lt hxy) (Int.le_of_lt this)).2 (.inl hxy)
theorem sorted_conv {xs:Keys} (hn:xs.length≤1000000000000000000) (h:B9 xs=some true):PW xs:=by
 refine Ac8 xs ?_
 obtain ⟨v,hv,hr⟩:=Cx (f:=B7 xs) (P:=fun s=>∃ i:Nat,s=(i:Int)∧1≤i∧∀ (j:Nat) x y,j+1<i→xs[j]? = some x→xs[j+1]? = some y→Dc x y<0) (μ:=fun s=>xs.length-s.toNat)
  (R:=fun v=>v=.inl false∨(v=.inr ()∧∀ (j:Nat) x y,xs[j]? = some x→xs[j+1]? = some y→Dc x y<0)) (by
  rintro _ ⟨i,rfl,h1,hadj⟩
  unfold B7
  by_cases hi:i<xs.length
  ·rw [if_pos (decide_eq_true (by omega)),Cc (by omega) (by omega),show (i:Int)-1=((i-1:Nat):Int) from by omega,Bp,Bp,List.getElem?_eq_getElem hi,List.getElem?_eq_getElem (show i-1<xs.length by omega)]
   simp only [Option.bind_some,Si]
   by_cases hc:0≤Dc xs[i-1] xs[i]
   ·rw [if_pos (decide_eq_true hc)]
    exact .inr (.inr ⟨false,rfl,.inl rfl⟩)
   ·rw [if_neg (by rw [decide_eq_true_eq];exact hc)]
    refine .inl ⟨_,rfl,⟨i+1,by rw [Cc (by omega) (by omega)];rfl,by omega,fun j x y hj hx hy=>?_⟩,by rw [Cc (by omega) (by omega)];omega⟩
    rcases Nat.lt_or_ge (j+1) i with h' | h'
    ·exact hadj j x y h' hx hy
    ·have e:j=i-1:=by omega
     subst e
     rw [List.getElem?_eq_getElem (show i-1<xs.length by omega)] at hx
     rw [show i-1+1=i by omega,List.getElem?_eq_getElem hi] at hy
     cases hx;cases hy
     omega
  ·right;left
   rw [if_neg (by rw [decide_eq_true_eq];omega)]
   refine ⟨_,rfl,.inr ⟨rfl,fun j x y hx hy=>hadj j x y ?_ hx hy⟩⟩
   have:=(List.getElem?_eq_some_iff.1 hy).1
   omega) fuel 1 ⟨1,rfl,Nat.le_refl _,fun j x y hj=>by omega⟩ (Ck (by show xs.length-1≤_;omega))
 unfold B9 at h
 rw [hv] at h
 rcases hr with rfl | ⟨rfl,hr⟩
 ·cases h
 ·exact hr
theorem Rb (xs:Keys) (hn:xs.length≤1000000000000000000):∃ b,Ei xs=some b∧(b=true ↔ (∀ k ∈ xs,kOk k=true)∧PW xs):=by
 unfold Ei
 rcases Ao6 xs (fun _ k=>!kOk k) (Ee xs) hn (fun i x hx=>by
  have hlt:=(List.getElem?_eq_some_iff.1 hx).1
  unfold Ee
  rw [if_pos (decide_eq_true (by omega)),Bp,hx,Option.bind_some,Aqm,Option.bind_some]
  cases kOk x with
  | false=>rfl
  | true=>rw [if_neg (by decide),if_neg (by decide),Cc (by omega) (by omega)];rfl) (by
  unfold Ee
  rw [if_neg (by rw [decide_eq_true_eq];omega)]) with ⟨i,x,hx,hp,e⟩ | ⟨hp,e⟩
 ·rw [e]
  refine ⟨false,rfl,⟨fun h=>(by cases h),fun h=>?_⟩⟩
  rw [h.1 x (List.mem_of_getElem? hx)] at hp
  cases hp
 ·rw [e,Option.bind_some]
  unfold Hm
  obtain ⟨v,hv⟩:=sorted_some xs hn
  rw [hv]
  refine ⟨v,rfl,⟨fun h=>⟨fun k hk=>?_,?_⟩,fun h=>?_⟩⟩
  ·obtain ⟨i,hi⟩:=List.mem_iff_getElem?.1 hk
   have:=hp i k hi
   simpa using this
  ·subst h;exact sorted_conv hn hv
  ·rw [Tw h.2 hn] at hv
   exact (Option.some.inj hv).symm
structure OkS (K:Keys) (C:List An) (T:Int) (B:Nat):Prop where
 t0:0≤T
 t1:T≤1099511627776
 cl:C.length=K.length
 ks:∀ k ∈ K,kOk k=true
 pw:PW K
 cs:∀ c ∈ C,c.L≠[]∧OkC c.L∧O6 c.L≤T∧c.L.length≤B
theorem ssane_m {K:Keys} {C:List An} {T:Int} {B:Nat} (h:OkS K C T B) (hB:B≤1000) (hk:K.length≤128):C3 ⟨K,C,T⟩=some true:=by
 unfold C3
 have h0:=h.t0
 have h1:=h.t1
 have hcl:=h.cl
 rw [if_neg (by rw [decide_eq_true_eq];dsimp only;omega),if_neg (by rw [decide_eq_true_eq];dsimp only;omega),if_neg (by rw [decide_eq_true_eq];dsimp only;omega),if_neg (by rw [decide_eq_true (by dsimp only;omega)];decide)]
 obtain ⟨b,hb,hb2⟩:=Rb K (by omega)
 have:b=true:=hb2.2 ⟨h.ks,h.pw⟩
 subst this
 show (Ei K).bind _=_
 rw [hb,Option.bind_some,if_neg (by decide)]
 unfold Mn
 rcases Ao6 C (fun _ _=>false) (G7 ⟨K,C,T⟩) (by omega) (fun i x hx=>by
  have hlt:=(List.getElem?_eq_some_iff.1 hx).1
  obtain ⟨c1,c2,c3,c4⟩:=h.cs x (List.mem_of_getElem? hx)
  unfold G7
  dsimp only
  rw [if_pos (decide_eq_true (by omega)),Bp,hx,Option.bind_some]
  have hne:x.L.length≠0:=fun e=>c1 (List.eq_nil_of_length_eq_zero e)
  rw [if_neg (by rw [decide_eq_true_eq];omega)]
  rcases Ww (c:=x) (by omega) with ⟨e,_⟩ | ⟨_,e⟩
  ·rw [e,Option.bind_some,if_neg (by decide),Ami (c:=x) (by omega),Option.bind_some,if_neg (by rw [decide_eq_true_eq];omega),if_neg (by decide),Cc (by omega) (by omega)]
   rfl
  ·exact absurd c2 e) (by
  unfold G7
  dsimp only
  rw [if_neg (by rw [decide_eq_true_eq];omega)]) with ⟨i,x,hx,hp,e⟩ | ⟨hp,e⟩
 ·cases hp
 ·rw [e];rfl
def wOk (w:A8):Bool:=decide ((w.Val.length:Int)≤32) && !(w.Del && decide (0<(w.Val.length:Int)))
theorem Ad2 (l:List A8) (hn:l.length≤1000000):∃ b,F2 l=some b∧(b=true→(∀ w ∈ l,wOk w=true)∧(∀ w ∈ l,kOk w.Key=true)∧PW (l.map (·.Key))):=by
 unfold F2
 obtain ⟨v,hv,hr⟩:=Cx (f:=Es l) (P:=fun s=>∃ i:Nat,i≤l.length∧s=((i:Int),(l.take i).map (·.Key))∧∀ w ∈ l.take i,wOk w=true) (μ:=fun s=>l.length-s.1.toNat)
  (R:=fun v=>v=.inl false∨(v=.inr (l.map (·.Key))∧∀ w ∈ l,wOk w=true)) (by
   rintro _ ⟨i,hi,rfl,hw⟩
   unfold Es
   dsimp only
   rcases Nat.lt_or_ge i l.length with hlt | hge
   ·have hx:=List.getElem?_eq_getElem hlt
    rw [if_pos (decide_eq_true (by omega)),Bp,hx,Option.bind_some]
    have hk5:Db ((i:Int),(l.take i).map (·.Key)) l[i] ()=some (.cont (((i+1:Nat):Int),(l.take (i+1)).map (·.Key))):=by
     unfold Db
     dsimp only
     rw [if_pos (by rw [List.length_map,List.length_take,List.length_singleton];omega),Cc (by omega) (by omega),List.take_succ_eq_append_getElem hlt,List.map_append]
     rfl
    by_cases h1:32<(l[i].Val.length:Int)
    ·rw [if_pos (decide_eq_true h1)];exact .inr (.inr ⟨false,rfl,.inl rfl⟩)
    rw [if_neg (by rw [decide_eq_true_eq];exact h1)]
    have hnext:wOk l[i]=true→∀ w ∈ l.take (i+1),wOk w=true:=fun hwi w hm=>by
     rw [List.take_succ_eq_append_getElem hlt] at hm
     rcases List.mem_append.1 hm with hm | hm
     ·exact hw w hm
     ·rw [List.mem_singleton.1 hm];exact hwi
    cases hd:l[i].Del with
    | true =>
     rw [if_pos rfl]
     by_cases h2:0<(l[i].Val.length:Int)
     ·rw [if_pos (decide_eq_true h2)];exact .inr (.inr ⟨false,rfl,.inl rfl⟩)
     ·rw [if_neg (by rw [decide_eq_true_eq];exact h2),hk5]
      refine .inl ⟨_,rfl,⟨i+1,hlt,rfl,hnext ?_⟩,by simp only [Int.toNat_natCast];omega⟩
      unfold wOk
      rw [decide_eq_true (by omega),hd,decide_eq_false h2]
      rfl
    | false =>
     rw [if_neg (by decide),hk5]
     refine .inl ⟨_,rfl,⟨i+1,hlt,rfl,hnext ?_⟩,by simp only [Int.toNat_natCast];omega⟩
     unfold wOk
     rw [decide_eq_true (by omega),hd]
     rfl
   ·have e:i=l.length:=by omega
    subst e
    rw [if_neg (by rw [decide_eq_true_eq];omega)]
    rw [List.take_length] at hw ⊢
    exact .inr (.inl ⟨_,rfl,.inr ⟨rfl,hw⟩⟩)) fuel (0,[]) ⟨0,Nat.zero_le _,rfl,fun w h=>by simp at h⟩ (Ck (by show l.length-0≤_;omega))
 rw [hv,Option.bind_some]
 rcases hr with rfl | ⟨rfl,hw⟩
 ·exact ⟨false,rfl,fun h=>(by cases h)⟩
 ·show ∃ b,Eo (l.map (·.Key))=some b∧_
  unfold Eo
  obtain ⟨b,hb,hb2⟩:=Rb (l.map (·.Key)) (by rw [List.length_map];omega)
  rw [hb]
  refine ⟨b,rfl,fun h=>?_⟩
  obtain ⟨h1,h2⟩:=hb2.1 h
  exact ⟨hw,fun w hm=>h1 w.Key (List.mem_map.2 ⟨w,hm,rfl⟩),h2⟩
def At (K:Keys) (C:List An) (k:List UInt8) (c:An):Prop:=∃ i:Nat,K[i]? = some k∧C[i]? = some c
theorem Agl {K:Keys} (h:PW K) {i j:Nat} {k:List UInt8} (hi:K[i]? = some k) (hj:K[j]? = some k):i=j:=by
 obtain ⟨hi1,hi2⟩:=List.getElem?_eq_some_iff.1 hi
 obtain ⟨hj1,hj2⟩:=List.getElem?_eq_some_iff.1 hj
 rcases Nat.lt_trichotomy i j with h' | h' | h'
 ·have:=List.pairwise_iff_getElem.1 h i j hi1 hj1 h'
  rw [hi2,hj2,M4] at this;omega
 ·exact h'
 ·have:=List.pairwise_iff_getElem.1 h j i hj1 hi1 h'
  rw [hi2,hj2,M4] at this;omega
theorem We {K:Keys} {k:List UInt8} (h:hit K k=true):K[kat K k]? = some k:=by
 unfold hit at h
 exact eq_of_beq h
theorem At.hit {K:Keys} {C:List An} {k:List UInt8} {c:An} (h:PW K) (hc:At K C k c):Go.Proofs.YtkblaobhhoebaaaGreat.Abs.st.hit K k=true∧C[kat K k]? = some c:=by
 obtain ⟨i,h1,h2⟩:=hc
 have hh:=(Zk h).2 (List.mem_of_getElem? h1)
 have:=Agl h h1 (We hh)
 subst this
 exact ⟨hh,h2⟩
theorem At.of_hit {K:Keys} {C:List An} {k:List UInt8} (hl:C.length=K.length) (h:Go.Proofs.YtkblaobhhoebaaaGreat.Abs.st.hit K k=true):∃ c,At K C k c∧C[kat K k]? = some c:=by
 have hlt:=Ajt h
 exact ⟨C[kat K k]'(by omega),⟨_,We h,List.getElem?_eq_getElem (by omega)⟩,List.getElem?_eq_getElem (by omega)⟩
abbrev ver (ts:Int) (w:A8):A3:=A3.mk ts w.Val w.Del
def Asd (K:Keys) (C:List An) (ts:Int) (w:A8) (c:An):Prop:=(∃ c0,At K C w.Key c0∧c.L=c0.L++[ver ts w])∨((¬ ∃ c0,At K C w.Key c0)∧c.L=[ver ts w])
theorem Akw {ts:Int} {w:A8} (h1:1≤ts) (h2:ts≤1099511627776) (hw:wOk w=true):vOk (ver ts w)=true:=by
 unfold wOk at hw
 unfold vOk ver
 dsimp only
 rw [decide_eq_true h1,decide_eq_true h2,Bool.true_and,Bool.true_and]
 exact hw
theorem Akq {α:Type} {by_:Nat} {xs:List α} {i:Nat} {x:α} (hi:i≤xs.length) (hb:(xs.length+1)*by_≤140737488355328):Amr by_ xs (i:Int) [x]=some (xs.take i++x::xs.drop i):=by
 unfold Amr
 dsimp only
 rw [if_pos ⟨⟨by omega,by omega⟩,hb⟩,Int.toNat_natCast]
theorem Ame {α:Type} {xs:List α} {p:Nat} {x:α} (hp:p≤xs.length) (i:Nat):(xs.take p++x::xs.drop p)[i]? = if i<p then xs[i]? else if i=p then some x else xs[i-1]? := by
 rw [List.getElem?_append,List.length_take,Nat.min_eq_left hp]
 split
 ·next h=>rw [List.getElem?_take,if_pos h]
 ·next h =>
  split
  ·next h2=>rw [h2,Nat.sub_self];rfl
  ·next h2 =>
   rw [show i-p=(i-p-1)+1 by omega,List.getElem?_cons_succ,List.getElem?_drop]
   congr 1;omega
structure OkP (K:Keys) (C:List An) (B:Nat):Prop where
 cl:C.length=K.length
 ks:∀ k ∈ K,kOk k=true
 pw:PW K
 cs:∀ c ∈ C,OkC c.L∧c.L.length≤B
theorem Awd {K:Keys} {C:List An} {B:Nat} (h:OkP K C B) (hB:B≤1000) (hK:K.length≤100000) {ts:Int} (ht:1≤ts∧ts≤1099511627776) {w:A8} (hw:wOk w=true) (hk:kOk w.Key=true)
  (hlast:∀ c,At K C w.Key c→O6 c.L<ts) :
  ∃ K' C',Mc K C ts w=some (ts,K',C')∧PW K'∧C'.length=K'.length∧(∀ k ∈ K',kOk k=true)∧K'.length≤K.length+1∧(∃ c,At K' C' w.Key c) ∧
   (∀ c,At K' C' w.Key c→Asd K C ts w c)∧(∀ k c,k≠w.Key→(At K' C' k c ↔ At K C k c)):=by
 have hcl:=h.cl
 have hv:=Akw ht.1 ht.2 hw
 unfold Mc
 rw [Apy K w.Key (by omega),Option.bind_some]
 cases hh:hit K w.Key with
 | true =>
  rw [if_neg (fun h=>Bool.noConfusion h)]
  obtain ⟨c0,hat,hget⟩:=At.of_hit hcl hh
  obtain ⟨hc1,hc2⟩:=h.cs c0 (List.mem_of_getElem? hget)
  have hlt:kat K w.Key<C.length:=(List.getElem?_eq_some_iff.1 hget).1
  refine ⟨K,C.set (kat K w.Key) ⟨c0.L++[ver ts w]⟩,?_,h.pw,by rw [List.length_set];exact hcl,h.ks,by omega,⟨_,_,We hh,List.getElem?_set_self hlt⟩,?_,?_⟩
  ·unfold E0
   dsimp only
   rw [Bp,hget,Option.bind_some,Ag3 (c:=c0) (by omega) hc1 hv (hlast c0 hat),Option.bind_some,if_pos (decide_eq_true rfl),Option.bind_some,Int.toNat_natCast]
  ·rintro c ⟨i,h1,h2⟩
   have:=Agl h.pw h1 (We hh)
   subst this
   rw [List.getElem?_set_self hlt] at h2
   cases h2
   exact .inl ⟨c0,hat,rfl⟩
  ·intro k c hne
   constructor
   ·rintro ⟨i,h1,h2⟩
    refine ⟨i,h1,?_⟩
    rw [List.getElem?_set_ne] at h2
    ·exact h2
    ·intro e;subst e;rw [We hh] at h1;exact hne (Option.some.inj h1).symm
   ·rintro ⟨i,h1,h2⟩
    refine ⟨i,h1,?_⟩
    rw [List.getElem?_set_ne]
    ·exact h2
    ·intro e;subst e;rw [We hh] at h1;exact hne (Option.some.inj h1).symm
 | false =>
  have hnot:¬ ∃ c0,At K C w.Key c0:=fun ⟨c0,hc0⟩=>by rw [(At.hit h.pw hc0).1] at hh;cases hh
  have hle:=Agw K w.Key
  have hK':ins K w.Key=K.take (kat K w.Key)++w.Key::K.drop (kat K w.Key):=by unfold ins;rw [hh];rfl
  rw [if_pos (show (!((kat K w.Key:Int),false).2)=true from rfl)]
  show ∃ K' C',((Amr 24 K ((kat K w.Key:Nat):Int) [w.Key]).bind fun v6=>(Amr 24 C ((kat K w.Key:Nat):Int) [(An.mk ([]:List A3))]).bind fun v7=>E0 ts w ((kat K w.Key:Int),false) (v6,v7))=_∧_
  rw [Akq hle (by omega),Option.bind_some,Akq (by omega) (by omega),Option.bind_some]
  have hgK:=Ame (xs:=K) (x:=w.Key) hle
  have hgC:=Ame (xs:=C) (x:=(An.mk ([]:List A3))) (p:=kat K w.Key) (by omega)
  have hlen:(C.take (kat K w.Key)++(An.mk ([]:List A3))::C.drop (kat K w.Key)).length=C.length+1:=by
   rw [List.length_append,List.length_cons,List.length_take,List.length_drop];omega
  have hlenK:(K.take (kat K w.Key)++w.Key::K.drop (kat K w.Key)).length=K.length+1:=by
   rw [List.length_append,List.length_cons,List.length_take,List.length_drop];omega
  have hpl:kat K w.Key<(C.take (kat K w.Key)++(An.mk ([]:List A3))::C.drop (kat K w.Key)).length:=by rw [hlen];omega
  have hgp:(C.take (kat K w.Key)++(An.mk ([]:List A3))::C.drop (kat K w.Key))[kat K w.Key]? = some (An.mk ([]:List A3)):=by
   rw [hgC,if_neg (Nat.lt_irrefl _),if_pos rfl]
  have hgkp:(K.take (kat K w.Key)++w.Key::K.drop (kat K w.Key))[kat K w.Key]? = some w.Key:=by
   rw [hgK,if_neg (Nat.lt_irrefl _),if_pos rfl]
  have hpw':PW (K.take (kat K w.Key)++w.Key::K.drop (kat K w.Key)):=by rw [← hK'];exact Alh h.pw
  refine ⟨_,(C.take (kat K w.Key)++(An.mk ([]:List A3))::C.drop (kat K w.Key)).set (kat K w.Key) ⟨[]++[ver ts w]⟩,?_,hpw',by rw [List.length_set,hlen,hlenK];omega,fun k hkm=>?_,by rw [hlenK];exact Nat.le_refl _,
   ⟨_,_,hgkp,List.getElem?_set_self hpl⟩,?_,?_⟩
  ·unfold E0
   dsimp only
   rw [Bp,hgp,Option.bind_some,Ag3 (c:=⟨[]⟩) (Nat.zero_le _) Alq hv (by show (0:Int)<ts;omega),Option.bind_some,if_pos (decide_eq_true rfl),Option.bind_some,Int.toNat_natCast]
  ·rw [← hK'] at hkm
   rcases Apx.1 hkm with rfl | hm
   ·exact hk
   ·exact h.ks k hm
  ·rintro c ⟨i,h1,h2⟩
   have:=Agl hpw' h1 hgkp
   subst this
   rw [List.getElem?_set_self hpl] at h2
   cases h2
   exact .inr ⟨hnot,rfl⟩
  ·intro k c hne
   have hK2:∀ i,(K.take (kat K w.Key)++w.Key::K.drop (kat K w.Key))[i]? = some k→i≠kat K w.Key:=fun i hi e=>by
    subst e;rw [hgkp] at hi;exact hne (Option.some.inj hi).symm
   constructor
   ·rintro ⟨i,h1,h2⟩
    have hip:=hK2 i h1
    rw [List.getElem?_set_ne (fun e=>hip e.symm),hgC] at h2
    rw [hgK] at h1
    split at h1
    ·next hlt=>rw [if_pos hlt] at h2;exact ⟨i,h1,h2⟩
    ·next hlt =>
     rw [if_neg hlt,if_neg hip] at h2
     exact ⟨i-1,h1,h2⟩
   ·rintro ⟨i,h1,h2⟩
    rcases Nat.lt_or_ge i (kat K w.Key) with hlt | hge
    ·refine ⟨i,?_,?_⟩
     ·rw [hgK,if_pos hlt];exact h1
     ·rw [List.getElem?_set_ne (by omega),hgC,if_pos hlt];exact h2
    ·refine ⟨i+1,?_,?_⟩
     ·rw [hgK,if_neg (by omega),if_neg (by omega)];exact h1
     ·rw [List.getElem?_set_ne (by omega),hgC,if_neg (by omega),if_neg (by omega)];exact h2
theorem At.mem {K:Keys} {C:List An} (hl:C.length=K.length) {c:An} (hc:c ∈ C):∃ k,At K C k c:=by
 obtain ⟨i,hi⟩:=List.mem_iff_getElem?.1 hc
 have hlt:=(List.getElem?_eq_some_iff.1 hi).1
 exact ⟨K[i]'(by omega),i,List.getElem?_eq_getElem (by omega),hi⟩
theorem Acn (l:List A3) (v:A3):O6 (l++[v])=v.Ts:=by
 unfold O6
 rw [List.length_append,List.length_singleton,Nat.add_sub_cancel,List.getElem?_append_right (Nat.le_refl _),Nat.sub_self]
 rfl
theorem Asd.ok {K:Keys} {C:List An} {B:Nat} (h:∀ c ∈ C,OkC c.L∧c.L.length≤B) {ts:Int} (ht:1≤ts∧ts≤1099511627776) {w:A8} (hw:wOk w=true) (hlast:∀ c,At K C w.Key c→O6 c.L<ts) {c:An} (g:Asd K C ts w c) :
  OkC c.L∧c.L.length≤B+1∧c.L≠[]∧O6 c.L=ts:=by
 have hv:=Akw ht.1 ht.2 hw
 rcases g with ⟨c0,hat,e⟩ | ⟨_,e⟩
 ·obtain ⟨i,_,hi⟩:=hat
  obtain ⟨h1,h2⟩:=h c0 (List.mem_of_getElem? hi)
  rw [e]
  exact ⟨Ahp h1 hv (hlast c0 ⟨i,‹_›,hi⟩),by rw [List.length_append,List.length_singleton];omega,by simp,Acn _ _⟩
 ·rw [e]
  have:=Ahp Alq hv (by show (0:Int)<ts;omega)
  exact ⟨this,by show 1≤B+1;omega,by simp,Acn [] _⟩
structure As6 (K:Keys) (C:List An) (ts:Int) (l:List A8) (K':Keys) (C':List An):Prop where
 pw:PW K'
 cl:C'.length=K'.length
 ks:∀ k ∈ K',kOk k=true
 len:K'.length≤K.length+l.length
 is:∀ w ∈ l,∃ c,At K' C' w.Key c
 new:∀ w ∈ l,∀ c,At K' C' w.Key c→Asd K C ts w c
 old:∀ k c,(∀ w ∈ l,w.Key≠k)→(At K' C' k c ↔ At K C k c)
theorem Aui {K:Keys} {C:List An} {T:Int} {B:Nat} (h:OkS K C T B) (hB:B<1000) (hK:K.length≤128) {ts:Int} (ht:T<ts∧ts≤1099511627776) (l:List A8) (hl:l.length≤1000)
  (hw:∀ w ∈ l,wOk w=true) (hk:∀ w ∈ l,kOk w.Key=true) (hp:PW (l.map (·.Key))) :
  ∃ K' C',C5 (Ep l) fuel (0,K,C,ts)=some (K',C',ts)∧As6 K C ts l K' C':=by
 have h0:=h.t0
 have hlast0:∀ k c,At K C k c→O6 c.L<ts:=fun k c ⟨i,_,hi⟩=>by
  have:=(h.cs c (List.mem_of_getElem? hi)).2.2.1
  omega
 have hcs0:∀ c ∈ C,OkC c.L∧c.L.length≤B:=fun c hc=>⟨(h.cs c hc).2.1,(h.cs c hc).2.2.2⟩
 obtain ⟨v,hv,hr⟩:=Ej (f:=Ep l) (P:=fun s=>∃ i:Nat,i≤l.length∧s.1=(i:Int)∧s.2.2.2=ts∧As6 K C ts (l.take i) s.2.1 s.2.2.1) (μ:=fun s=>l.length-s.1.toNat)
  (R:=fun v=>v.2.2=ts∧As6 K C ts l v.1 v.2.1) (by
   rintro ⟨_,K1,C1,t1⟩ ⟨i,hi,rfl,ht1,hL⟩
   have ht1:t1=ts:=ht1
   have hL:As6 K C ts (l.take i) K1 C1:=hL
   unfold Ep
   dsimp only
   rw [ht1]
   rcases Nat.lt_or_ge i l.length with hlt | hge
   ·have hx:=List.getElem?_eq_getElem hlt
    have hxm:=List.getElem_mem hlt
    rw [if_pos (decide_eq_true (by omega)),Bp,hx,Option.bind_some]
    have hfresh:∀ w ∈ l.take i,w.Key≠l[i].Key:=fun w hm e=>by
     obtain ⟨j,hj⟩:=List.mem_iff_getElem?.1 hm
     rw [List.getElem?_take] at hj
     split at hj
     ·next hji =>
      have h1:(l.map (·.Key))[j]? = some w.Key:=by rw [List.getElem?_map,hj];rfl
      have h2:(l.map (·.Key))[i]? = some l[i].Key:=by rw [List.getElem?_map,hx];rfl
      have:=Agl hp h1 (by rw [e];exact h2)
      omega
     ·cases hj
    have hOk1:∀ c ∈ C1,OkC c.L∧c.L.length≤B+1:=fun c hc=>by
     obtain ⟨k,hat⟩:=At.mem hL.cl hc
     by_cases hex:∃ w ∈ l.take i,w.Key=k
     ·obtain ⟨w,hwm,rfl⟩:=hex
      have:=Asd.ok hcs0 ⟨by omega,ht.2⟩ (hw w (List.mem_of_mem_take hwm)) (hlast0 _) (hL.new w hwm c hat)
      exact ⟨this.1,this.2.1⟩
     ·have:=(hL.old k c (fun w hwm e=>hex ⟨w,hwm,e⟩)).1 hat
      obtain ⟨j,_,hj⟩:=this
      have:=hcs0 c (List.mem_of_getElem? hj)
      exact ⟨this.1,by omega⟩
    have hat1:∀ c,At K1 C1 l[i].Key c ↔ At K C l[i].Key c:=fun c=>hL.old _ c hfresh
    obtain ⟨K2,C2,e2,p2,c2,k2,n2,is2,new2,old2⟩:=Awd (B:=B+1) ⟨hL.cl,hL.ks,hL.pw,hOk1⟩ (by omega) (by have:=hL.len;rw [List.length_take] at this;omega) (ts:=ts) ⟨by omega,ht.2⟩ (hw _ hxm) (hk _ hxm) (fun c hc=>hlast0 _ c ((hat1 c).1 hc))
    rw [e2,Option.bind_some]
    dsimp only
    refine .inl ⟨_,rfl,⟨i+1,hlt,by dsimp only;rw [Cc (by omega) (by omega)];rfl,rfl,⟨p2,c2,k2,?_,?_,?_,?_⟩⟩,by dsimp only;rw [Cc (by omega) (by omega)];omega⟩
    ·have:=hL.len
     rw [List.length_take] at this ⊢
     show K2.length≤_
     omega
    ·intro w hwm
     rw [List.take_succ_eq_append_getElem hlt] at hwm
     rcases List.mem_append.1 hwm with hwm | hwm
     ·obtain ⟨c,hc⟩:=hL.is w hwm
      exact ⟨c,(old2 _ c (hfresh w hwm)).2 hc⟩
     ·rw [List.mem_singleton.1 hwm];exact is2
    ·intro w hwm c hc
     rw [List.take_succ_eq_append_getElem hlt] at hwm
     rcases List.mem_append.1 hwm with hwm | hwm
     ·exact hL.new w hwm c ((old2 _ c (hfresh w hwm)).1 hc)
     ·rw [List.mem_singleton.1 hwm] at hc ⊢
      rcases new2 c hc with ⟨c0,hc0,e⟩ | ⟨hn,e⟩
      ·exact .inl ⟨c0,(hat1 c0).1 hc0,e⟩
      ·exact .inr ⟨fun ⟨c0,hc0⟩=>hn ⟨c0,(hat1 c0).2 hc0⟩,e⟩
    ·intro k c hne
     have h1:k≠l[i].Key:=fun e=>hne l[i] (by rw [List.take_succ_eq_append_getElem hlt];exact List.mem_append_right _ (List.mem_singleton.2 rfl)) e.symm
     have h2:∀ w ∈ l.take i,w.Key≠k:=fun w hwm=>hne w (by rw [List.take_succ_eq_append_getElem hlt];exact List.mem_append_left _ hwm)
     exact (old2 k c h1).trans (hL.old k c h2)
   ·have e:i=l.length:=by omega
    subst e
    rw [List.take_length] at hL
    rw [if_neg (by rw [decide_eq_true_eq];omega)]
    exact .inr ⟨_,rfl,rfl,hL⟩) fuel (0,K,C,ts) ⟨0,Nat.zero_le _,rfl,rfl,⟨h.pw,h.cl,h.ks,by simp,fun w hw=>by simp at hw,fun w hw=>by simp at hw,fun k c _=>Iff.rfl⟩⟩ (Ck (by show l.length-0≤_;omega))
 obtain ⟨K',C',T'⟩:=v
 obtain ⟨rfl,hr⟩:=hr
 exact ⟨K',C',hv,hr⟩
abbrev zstore:B1:=B1.mk ([]:List (List UInt8)) ([]:List An) 0
theorem install_m {K:Keys} {C:List An} {T:Int} {B:Nat} (h:OkS K C T B) (hB:B<1000) (hK:K.length≤128) (ts:Int) (l:List A8) (hl:l.length≤1000) :
  (∃ e,(e=1∨(e=7∧¬ (T<ts∧ts≤1099511627776))∨e=8)∧D2 ⟨K,C,T⟩ ts l=some (zstore,e)) ∨
  ∃ K' C',D2 ⟨K,C,T⟩ ts l=some (⟨K',C',ts⟩,0)∧(T<ts∧ts≤1099511627776)∧(∀ w ∈ l,wOk w=true)∧PW (l.map (·.Key))∧K'.length≤128∧As6 K C ts l K' C'∧OkS K' C' ts (B+1):=by
 unfold D2
 show (∃ e,_∧(C3 ⟨K,C,T⟩).bind _=_)∨∃ K' C',(C3 ⟨K,C,T⟩).bind _=_∧_
 rw [ssane_m h (by omega) hK,Option.bind_some,if_neg (by decide)]
 obtain ⟨b,hb,hb2⟩:=Ad2 l (by omega)
 rw [hb,Option.bind_some]
 cases b with
 | false=>exact .inl ⟨1,.inl rfl,rfl⟩
 | true =>
 obtain ⟨hw,hk,hp⟩:=hb2 rfl
 rw [if_neg (by decide)]
 unfold Iu
 dsimp only
 by_cases h1:ts≤T
 ·rw [if_pos (decide_eq_true h1)];exact .inl ⟨7,.inr (.inl ⟨rfl,by omega⟩),rfl⟩
 rw [if_neg (by rw [decide_eq_true_eq];exact h1)]
 by_cases h2:1099511627776<ts
 ·rw [if_pos (decide_eq_true h2)];exact .inl ⟨7,.inr (.inl ⟨rfl,by omega⟩),rfl⟩
 rw [if_neg (by rw [decide_eq_true_eq];exact h2)]
 unfold Ik
 have hcl:=h.cl
 have e1:H9 K=some K:=by
  unfold H9
  rw [if_pos (by simp only [List.length_nil];omega)];rfl
 have e2:Il C=some C:=by
  unfold Il
  rw [if_pos (by simp only [List.length_nil];omega)];rfl
 dsimp only
 rw [e1,Option.bind_some,e2,Option.bind_some]
 obtain ⟨K',C',e3,hL⟩:=Aui h hB hK (ts:=ts) ⟨by omega,by omega⟩ l hl hw hk hp
 rw [e3,Option.bind_some]
 unfold H6
 dsimp only
 by_cases h8:128<(K'.length:Int)
 ·rw [if_pos (decide_eq_true h8)];exact .inl ⟨8,.inr (.inr rfl),rfl⟩
 rw [if_neg (by rw [decide_eq_true_eq];exact h8)]
 refine .inr ⟨K',C',rfl,⟨by omega,by omega⟩,hw,hp,by omega,hL,⟨by have:=h.t0;omega,by omega,hL.cl,hL.ks,hL.pw,fun c hc=>?_⟩⟩
 obtain ⟨k,hat⟩:=At.mem hL.cl hc
 by_cases hex:∃ w ∈ l,w.Key=k
 ·obtain ⟨w,hwm,rfl⟩:=hex
  have hh:=Asd.ok (B:=B) (fun c hc=>⟨(h.cs c hc).2.1,(h.cs c hc).2.2.2⟩) ⟨by have:=h.t0;omega,by omega⟩ (hw w hwm) (fun c ⟨i,_,hi⟩=>by have:=(h.cs c (List.mem_of_getElem? hi)).2.2.1;omega) (hL.new w hwm c hat)
  exact ⟨hh.2.2.1,hh.1,Int.le_of_eq hh.2.2.2,hh.2.1⟩
 ·obtain ⟨i,_,hi⟩:=(hL.old k c (fun w hwm e=>hex ⟨w,hwm,e⟩)).1 hat
  have:=h.cs c (List.mem_of_getElem? hi)
  exact ⟨this.1,this.2.1,by omega,by omega⟩
theorem OkS.mono {K:Keys} {C:List An} {T:Int} {B B':Nat} (h:OkS K C T B) (hb:B≤B'):OkS K C T B' :=
 ⟨h.t0,h.t1,h.cl,h.ks,h.pw,fun c hc=>⟨(h.cs c hc).1,(h.cs c hc).2.1,(h.cs c hc).2.2.1,Nat.le_trans (h.cs c hc).2.2.2 hb⟩⟩
def Aqz (l:List A3) (t:Int):List UInt8 × Bool:=match pc l t with
 | 0=>([],false)
 | n+1=>match l[n]? with
  | some v=>if v.Del then ([],false) else (v.Val,true)
  | none=>([],false)
theorem Aks {c:An} (h:c.L.length≤1000) (t:Int):Hb c t=some (Aqz c.L t):=by
 have hle:=Av9 c.L t
 unfold Aqz
 cases hp:pc c.L t with
 | zero =>
  rw [Agp (at0 h hp)]
  rfl
 | succ n =>
  have hx:c.L[n]? = some (c.L[n]'(by omega)):=List.getElem?_eq_getElem (by omega)
  rw [Agp (at1 (t:=t) h (by omega) (by rw [hp];exact hx))]
  dsimp only
  rw [hx]
  dsimp only
  cases (c.L[n]'(by omega)).Del <;> rfl
theorem get_m {K:Keys} {C:List An} {T:Int} {B:Nat} (h:OkS K C T B) (hB:B≤1000) (hK:K.length≤128) (k:List UInt8) (t:Int) :
  (∃ c,At K C k c∧Kb ⟨K,C,T⟩ k t=some (Aqz c.L t))∨((¬ ∃ c,At K C k c)∧Kb ⟨K,C,T⟩ k t=some ([],false)):=by
 unfold Kb
 dsimp only
 rw [Aa0 K k (by omega),Option.bind_some]
 cases hh:hit K k with
 | false =>
  refine .inr ⟨fun ⟨c0,hc0⟩=>(by rw [(At.hit h.pw hc0).1] at hh;cases hh),?_⟩
  rfl
 | true =>
  obtain ⟨c0,hat,hget⟩:=At.of_hit h.cl hh
  refine .inl ⟨c0,hat,?_⟩
  rw [if_neg (fun h=>Bool.noConfusion h)]
  show (C3 ⟨K,C,T⟩).bind _=_
  rw [ssane_m h hB hK,Option.bind_some,if_neg (by decide)]
  unfold Na
  dsimp only
  rw [Bp,hget,Option.bind_some,Aks (c:=c0) (by have:=(h.cs c0 (List.mem_of_getElem? hget)).2.2.2;omega),Option.bind_some]
def ent (r:Bi) (t:Int) (p:List UInt8 × An):List B8:=if Zw r p.1 && (Aqz p.2.L t).2 then [⟨p.1,(Aqz p.2.L t).1⟩] else []
def ents (r:Bi) (t:Int) (K:Keys) (C:List An):List B8:=(K.zip C).flatMap (ent r t)
theorem Amc (r:Bi) (t:Int) (p:List UInt8 × An):(ent r t p).length≤1:=by
 unfold ent;split <;> simp
theorem Vt {α β:Type} (f:α→List β) (hf:∀ x,(f x).length≤1):∀ l:List α,(l.flatMap f).length≤l.length
 | []=>Nat.le_refl _
 | x::l=>by
  have:=hf x
  have:=Vt f hf l
  rw [List.flatMap_cons,List.length_append,List.length_cons];omega
theorem Aj5 {α β:Type} {K:List α} {C:List β} {i:Nat} {k:α} {c:β} (hk:K[i]? = some k) (hc:C[i]? = some c):(K.zip C)[i]? = some (k,c):=by
 rw [List.getElem?_zip_eq_some]
 exact ⟨hk,hc⟩
theorem Adp {α β:Type} {f:α→List β} {l:List α} {i:Nat} {x:α} (h:l[i]? = some x):(l.take (i+1)).flatMap f=(l.take i).flatMap f++f x:=by
 obtain ⟨hlt,rfl⟩:=List.getElem?_eq_some_iff.1 h
 rw [List.take_succ_eq_append_getElem hlt,List.flatMap_append,List.flatMap_singleton]
theorem Amz {α β:Type} (f:α→List β) (l:List α) (i:Nat):∃ rest,l.flatMap f=(l.take i).flatMap f++rest :=
 ⟨(l.drop i).flatMap f,by rw [← List.flatMap_append,List.take_append_drop]⟩
theorem scan_m {K:Keys} {C:List An} {T:Int} {B:Nat} (h:OkS K C T B) (hB:B≤1000) (hK:K.length≤128) (r:Bi) (t most:Int) :
  Kx ⟨K,C,T⟩ r t most=some ((ents r t K C).take most.toNat):=by
 have hcl:=h.cl
 have hzl:(K.zip C).length=K.length:=by rw [List.length_zip];omega
 unfold Kx
 rw [ssane_m h hB hK,Option.bind_some,if_neg (by decide)]
 obtain ⟨v,hv,hr⟩:=Ej (f:=J4 ⟨K,C,T⟩ r t most) (P:=fun s=>∃ i:Nat,i≤K.length∧s=((i:Int),((((K.zip C).take i).flatMap (ent r t)).take most.toNat))) (μ:=fun s=>K.length-s.1.toNat)
  (R:=fun v=>v=(ents r t K C).take most.toNat) (by
   rintro _ ⟨i,hi,rfl⟩
   unfold J4
   dsimp only
   rcases Nat.lt_or_ge i K.length with hlt | hge
   ·have hx:=List.getElem?_eq_getElem hlt
    have hc:C[i]? = some (C[i]'(by omega)):=List.getElem?_eq_getElem (by omega)
    have hst:=Adp (f:=ent r t) (Aj5 hx hc)
    have hlen:(((K.zip C).take i).flatMap (ent r t)).length≤128:=by
     refine Nat.le_trans (Vt _ (Amc r t) _) ?_
     rw [List.length_take];omega
    rw [if_pos (decide_eq_true (by omega)),Bp,hx,Option.bind_some]
    by_cases hm:most≤(((((K.zip C).take i).flatMap (ent r t)).take most.toNat).length:Int)
    ·rw [if_pos (decide_eq_true hm)]
     refine .inr ⟨_,rfl,?_⟩
     rw [List.length_take] at hm
     obtain ⟨rest,e⟩:=Amz (ent r t) (K.zip C) i
     unfold ents
     rw [e,List.take_append_of_le_length (by omega)]
    ·rw [if_neg (by rw [decide_eq_true_eq];exact hm)]
     rw [List.length_take] at hm
     have hid:(((K.zip C).take i).flatMap (ent r t)).take most.toNat=((K.zip C).take i).flatMap (ent r t):=List.take_of_length_le (by omega)
     have hnext:∀ x,ent r t (K[i],C[i]'(by omega))=x→x.length≤1→(((K.zip C).take (i+1)).flatMap (ent r t)).take most.toNat=((K.zip C).take i).flatMap (ent r t)++x:=fun x hx1 hx2=>by
      rw [hst,hx1,List.take_of_length_le (by rw [List.length_append];omega)]
     rw [Ae5,Option.bind_some,hid]
     left
     cases hh:Zw r K[i] with
     | false =>
      rw [if_pos (show (!false)=true from rfl)]
      refine ⟨_,rfl,⟨i+1,hlt,?_⟩,by simp only [Cc (show -9223372036854775808≤(i:Int)+1 by omega) (by omega)];omega⟩
      rw [Cc (by omega) (by omega),hnext [] (by unfold ent;dsimp only;rw [hh];rfl) (by decide),List.append_nil];rfl
     | true =>
      rw [if_neg (by decide),Bp,hc,Option.bind_some,Aks (c:=C[i]'(by omega)) (by have:=(h.cs _ (List.getElem_mem (show i<C.length by omega))).2.2.2;omega),Option.bind_some]
      cases hv:(Aqz (C[i]'(by omega)).L t).2 with
      | false =>
       rw [if_neg (by decide)]
       refine ⟨_,rfl,⟨i+1,hlt,?_⟩,by simp only [Cc (show -9223372036854775808≤(i:Int)+1 by omega) (by omega)];omega⟩
       rw [Cc (by omega) (by omega),hnext [] (by unfold ent;dsimp only;rw [hh,hv];rfl) (by decide),List.append_nil];rfl
      | true =>
       rw [if_pos rfl,if_pos (by rw [List.length_singleton];omega)]
       refine ⟨_,rfl,⟨i+1,hlt,?_⟩,by simp only [Cc (show -9223372036854775808≤(i:Int)+1 by omega) (by omega)];omega⟩
       rw [Cc (by omega) (by omega),hnext [⟨K[i],(Aqz (C[i]'(by omega)).L t).1⟩] (by unfold ent;dsimp only;rw [hh,hv];rfl) (Nat.le_refl _)];rfl
   ·have e:i=K.length:=by omega
    subst e
    rw [if_neg (by rw [decide_eq_true_eq];omega)]
    refine .inr ⟨_,rfl,?_⟩
    unfold ents
    rw [← hzl,List.take_length]) fuel (0,[]) ⟨0,Nat.zero_le _,by simp⟩ (Ck (by show K.length-0≤_;omega))
 rw [hv,Option.bind_some,hr]
 rfl
theorem ents_len (r:Bi) (t:Int) (K:Keys) (C:List An):(ents r t K C).length≤K.length:=by
 refine Nat.le_trans (Vt _ (Amc r t) _) ?_
 rw [List.length_zip];omega
abbrev KC:=List UInt8 × An
def Ai7 (o:Int) (p:KC):List KC:=if 0<(p.2.L.drop (gone p.2.L o)).length then [(p.1,⟨p.2.L.drop (gone p.2.L o)⟩)] else []
def Amq (o:Int) (K:Keys) (C:List An):List KC:=(K.zip C).flatMap (Ai7 o)
theorem An3 (o:Int) (p:KC):(Ai7 o p).length≤1:=by
 unfold Ai7;split <;> simp
theorem vacS_m {K:Keys} {C:List An} {T:Int} {B:Nat} (h:OkS K C T B) (hB:B≤1000) (hK:K.length≤128) (o:Int) :
  Jp ⟨K,C,T⟩ o=some ⟨(Amq (if T<o then T else o) K C).map (·.1),(Amq (if T<o then T else o) K C).map (·.2),T⟩:=by
 have hcl:=h.cl
 have hzl:(K.zip C).length=C.length:=by rw [List.length_zip];omega
 unfold Jp
 rw [ssane_m h hB hK,Option.bind_some,if_neg (by decide)]
 obtain ⟨v,hv,hr⟩:=Ej (f:=Gu ⟨K,C,T⟩ o) (P:=fun s=>∃ i:Nat,i≤C.length∧s=((i:Int),(((K.zip C).take i).flatMap (Ai7 (if T<o then T else o))).map (·.1),(((K.zip C).take i).flatMap (Ai7 (if T<o then T else o))).map (·.2))) (μ:=fun s=>C.length-s.1.toNat)
  (R:=fun v=>v=((Amq (if T<o then T else o) K C).map (·.1),(Amq (if T<o then T else o) K C).map (·.2))) (by
   rintro _ ⟨i,hi,rfl⟩
   unfold Gu
   dsimp only
   generalize (if T<o then T else o)=o'
   rcases Nat.lt_or_ge i C.length with hlt | hge
   ·left
    have hc:=List.getElem?_eq_getElem hlt
    have hx:K[i]? = some (K[i]'(by omega)):=List.getElem?_eq_getElem (by omega)
    have hst:=Adp (f:=Ai7 o') (Aj5 hx hc)
    have hlen:(((K.zip C).take i).flatMap (Ai7 o')).length≤128:=by
     refine Nat.le_trans (Vt _ (An3 o') _) ?_
     rw [List.length_take];omega
    obtain ⟨h1,h2,h3,h4⟩:=h.cs _ (List.getElem_mem hlt)
    rw [if_pos (decide_eq_true (by omega)),Bp,hc,Option.bind_some,Atr (by omega) h2,Option.bind_some]
    dsimp only
    by_cases hd:0<((C[i].L.drop (gone C[i].L o')).length:Int)
    ·have e:Ai7 o' (K[i]'(by omega),C[i])=[(K[i]'(by omega),⟨C[i].L.drop (gone C[i].L o')⟩)]:=if_pos (by dsimp only;omega)
     rw [if_pos (decide_eq_true hd),Bp,hx,Option.bind_some,if_pos (by rw [List.length_map,List.length_singleton];omega),if_pos (by rw [List.length_map,List.length_singleton];omega)]
     refine ⟨_,rfl,⟨i+1,hlt,?_⟩,by simp only [Cc (show -9223372036854775808≤(i:Int)+1 by omega) (by omega)];omega⟩
     rw [Cc (by omega) (by omega),hst,e,List.map_append,List.map_append];rfl
    ·have e:Ai7 o' (K[i]'(by omega),C[i])=[]:=if_neg (by dsimp only;omega)
     rw [if_neg (by rw [decide_eq_true_eq];exact hd)]
     refine ⟨_,rfl,⟨i+1,hlt,?_⟩,by simp only [Cc (show -9223372036854775808≤(i:Int)+1 by omega) (by omega)];omega⟩
     rw [Cc (by omega) (by omega),hst,e,List.append_nil];rfl
   ·right
    have e:i=C.length:=by omega
    subst e
    rw [if_neg (by rw [decide_eq_true_eq];omega)]
    refine ⟨_,rfl,?_⟩
    unfold Amq
    rw [← hzl,List.take_length]) fuel (0,[],[]) ⟨0,Nat.zero_le _,by simp⟩ (Ck (by show C.length-0≤_;omega))
 rw [hv,Option.bind_some,hr]
 rfl
theorem Al4 {l:List A3} {n:Nat} (h:n<l.length):O6 (l.drop n)=O6 l:=by
 unfold O6
 rw [List.length_drop,List.getElem?_drop,show n+(l.length-n-1)=l.length-1 by omega]
theorem Anz {o:Int} {K:Keys} {C:List An} {q:KC} (h:q ∈ Amq o K C):∃ c,(q.1,c) ∈ K.zip C∧q.2=⟨c.L.drop (gone c.L o)⟩∧0<(c.L.drop (gone c.L o)).length:=by
 unfold Amq at h
 obtain ⟨p,hp,hq⟩:=List.mem_flatMap.1 h
 unfold Ai7 at hq
 split at hq
 ·next hl =>
  rw [List.mem_singleton.1 hq]
  exact ⟨p.2,hp,rfl,hl⟩
 ·cases hq
theorem Aej (o:Int):∀ l:List KC,((l.flatMap (Ai7 o)).map (·.1)).Sublist (l.map (·.1))
 | []=>List.Sublist.slnil
 | p::l=>by
  have ih:=Aej o l
  rw [List.flatMap_cons]
  unfold Ai7
  split
  ·exact ih.cons_cons _
  ·exact ih.cons _
theorem Ar6 {K:Keys} {C:List An} (h:C.length=K.length):(K.zip C).map (·.1)=K:=by
 rw [List.map_fst_zip];omega
theorem vac_ok {K:Keys} {C:List An} {T:Int} {B:Nat} (h:OkS K C T B) (o:Int):OkS ((Amq o K C).map (·.1)) ((Amq o K C).map (·.2)) T B:=by
 have hsub:=Aej o (K.zip C)
 rw [Ar6 h.cl] at hsub
 refine ⟨h.t0,h.t1,by rw [List.length_map,List.length_map],fun k hk=>h.ks k (hsub.subset hk),h.pw.sublist hsub,fun c hc=>?_⟩
 obtain ⟨q,hq,rfl⟩:=List.mem_map.1 hc
 obtain ⟨d,hd,e,hl⟩:=Anz hq
 obtain ⟨h1,h2,h3,h4⟩:=h.cs d (List.of_mem_zip hd).2
 rw [e]
 refine ⟨fun e0=>?_,Aoq h2 _,?_,?_⟩
 ·have e0:d.L.drop (gone d.L o)=[]:=e0
  rw [e0] at hl;exact absurd hl (Nat.lt_irrefl _)
 ·show O6 (d.L.drop (gone d.L o))≤T
  rw [Al4 (by rw [List.length_drop] at hl;omega)];exact h3
 ·show (d.L.drop (gone d.L o)).length≤B
  rw [List.length_drop];omega
theorem vac_len (o:Int) (K:Keys) (C:List An):((Amq o K C).map (·.1)).length≤K.length:=by
 have:=(Aej o (K.zip C)).length_le
 rw [List.length_map,List.length_map,List.length_zip] at this
 show ((((K.zip C).flatMap (Ai7 o)).map (·.1))).length≤_
 rw [List.length_map]
 omega
end Go.Proofs.YtkblaobhhoebaaaGreat.Abs.st
