/-
 What the library's functions compute.
-/
import Derived.Test.YtkblaobhhoebaaaGreatWC14
import Derived.Test.YtkblaobhhoebaaaGreatWD14
set_option linter.unusedVariables false
set_option linter.unusedSimpArgs false
namespace Go.Proofs.YtkblaobhhoebaaaGreat.Abs.st
open Go.Proofs.YtkblaobhhoebaaaGreat.Abs.bf
open Go.Proofs.YtkblaobhhoebaaaGreat.Abs.ss
theorem T2 (x y:UInt8):x<y∨x=y∨y<x:=by
 rcases w8 x.toNat y.toNat with h | h | h
 ·exact .inl (xG.2 h)
 ·exact .inr (.inl (UInt8.toNat_inj.1 h))
 ·exact .inr (.inr (xG.2 h))
theorem M5 {x y:UInt8} (h:x<y):¬ y<x:=fun h'=>by
 have:=xG.1 h
 have:=xG.1 h'
 omega
theorem Acw {x y z:UInt8} (h:x<y) (h':y<z):x<z:=by
 have h1:=xG.1 h
 have h2:=xG.1 h'
 exact xG.2 (by omega)
theorem Px:∀ a:List UInt8,Gg a a=0
 | []=>rfl
 | x::xs=>by unfold Gg;rw [if_neg (xB x),if_neg (xB x)];exact Px xs
theorem Se:∀ a b:List UInt8,Gg a b = -Gg b a
 | [],[]=>rfl
 | [],_::_=>rfl
 | _::_,[]=>rfl
 | x::xs,y::ys=>by
  unfold Gg
  rcases T2 x y with h | h | h
  ·rw [if_pos h,if_neg (M5 h),if_pos h]
  ·subst h
   rw [if_neg (xB x),if_neg (xB x),if_neg (xB x),if_neg (xB x)];exact Se xs ys
  ·rw [if_neg (M5 h),if_pos h,if_pos h];rfl
theorem R0:∀ {a b:List UInt8},Gg a b=0→a=b
 | [],[],_=>rfl
 | [],_::_,h=>by cases h
 | _::_,[],h=>by cases h
 | x::xs,y::ys,h=>by
  unfold Gg at h
  rcases T2 x y with h1 | h1 | h1
  ·rw [if_pos h1] at h;cases h
  ·subst h1
   rw [if_neg (xB x),if_neg (xB x)] at h
   rw [R0 h]
  ·rw [if_neg (M5 h1),if_pos h1] at h;cases h
theorem M8:∀ {a b c:List UInt8},Gg a b≤0→Gg b c≤0→Gg a c≤0∧(Gg a b<0∨Gg b c<0→Gg a c<0)
 | [],b,[],h1,h2=>⟨xU _,fun h=>by
   cases b with
   | nil=>rcases h with h | h <;> simp [Gg] at h
   | cons y ys=>simp [Gg] at h2⟩
 | [],_,_::_,_,_=>⟨by simp [Gg],fun _=>by simp [Gg]⟩
 | _::_,[],_,h1,_=>by simp [Gg] at h1
 | _::_,_::_,[],_,h2=>by simp [Gg] at h2
 | x::xs,y::ys,z::zs,h1,h2=>by
  unfold Gg at h1 h2 ⊢
  rcases T2 x y with e1 | e1 | e1
  ·rcases T2 y z with e2 | e2 | e2
   ·rw [if_pos (Acw e1 e2)];exact ⟨by decide,fun _=>by decide⟩
   ·subst e2;rw [if_pos e1];exact ⟨by decide,fun _=>by decide⟩
   ·rw [if_neg (M5 e2),if_pos e2] at h2;exact absurd h2 (by decide)
  ·subst e1
   rw [if_neg (xB x),if_neg (xB x)] at h1 ⊢
   rcases T2 x z with e2 | e2 | e2
   ·rw [if_pos e2];exact ⟨by decide,fun _=>by decide⟩
   ·subst e2
    simp only [xB,if_false] at h2 ⊢
    exact M8 h1 h2
   ·rw [if_neg (M5 e2),if_pos e2] at h2;exact absurd h2 (by decide)
  ·rw [if_neg (M5 e1),if_pos e1] at h1;exact absurd h1 (by decide)
theorem Asw (xs:Keys) (k:List UInt8) (hn:xs.length≤1000000000000000000):Ns xs k=some ((kat xs k:Int),hit xs k):=by
 obtain ⟨v,hv,hr⟩:=Dh (f:=Dp xs k) (P:=fun s=>∃ i:Nat,s=(i:Int)∧i≤xs.length∧∀ j y,j<i→xs[j]? = some y→Gg y k<0) (μ:=fun s=>xs.length-s.toNat)
  (R:=fun v=>match v with | .inl r=>r=(kat xs k:Int)∧kat xs k<xs.length | .inr _=>kat xs k=xs.length) (by
  rintro _ ⟨i,rfl,h1,h2⟩
  unfold Dp D2
  by_cases hi:i<xs.length
  ·have e:=zB hi
   rw [if_pos (decide_eq_true (by omega)),Bn,e]
   simp only [zA,Acd]
   by_cases hc:0≤Gg xs[i] k
   ·right;right
    rw [if_pos (decide_eq_true hc)]
    have ea:=Aq5 e hc h2
    exact ⟨_,rfl,by rw [ea],by rw [ea];exact hi⟩
   ·left
    rw [if_neg (by rw [decide_eq_true_eq];exact hc)]
    refine ⟨_,rfl,⟨i+1,by rw [Cb (by omega) (by omega)];rfl,hi,fun j y hj hy=>?_⟩,by rw [Cb (by omega) (by omega)];omega⟩
    rcases jU.1 hj with h | rfl
    ·exact h2 j y h hy
    ·rw [e] at hy;cases hy;omega
  ·right;left
   rw [if_neg (by rw [decide_eq_true_eq];omega)]
   refine ⟨_,rfl,?_⟩
   have:i=xs.length:=by omega
   subst this
   exact Ah1 h2) fuel 0 ⟨0,rfl,zY _,fun j y hj=>absurd hj (zT _)⟩ (Ce (by show xs.length-0≤_;omega))
 unfold Ns G9
 rw [hv]
 simp only [zA]
 cases v with
 | inl r =>
  obtain ⟨rfl,hlt⟩:r=(kat xs k:Int)∧kat xs k<xs.length:=hr
  simp only [zA]
  rw [if_neg (by rw [decide_eq_true_eq];omega),Bn,zB hlt]
  simp only [zA,Fl]
  unfold hit
  rw [zB hlt]
  rfl
 | inr u =>
  have e:kat xs k=xs.length:=hr
  unfold Fp
  simp only [zA]
  rw [if_pos (by decide)]
  unfold hit
  rw [e]
  simp
theorem As8 {xs:Keys} {k x:List UInt8}:x ∈ ins xs k ↔ x=k∨x ∈ xs:=by
 unfold ins
 by_cases h:hit xs k=true
 ·rw [if_pos h]
  constructor
  ·exact .inr
  ·rintro (rfl | h')
   ·exact Ag0 h
   ·exact h'
 ·rw [if_neg h]
  have e:x ∈ xs ↔ x ∈ xs.take (kat xs k)∨x ∈ xs.drop (kat xs k):=by
   rw [← yL,xJ]
  rw [yL,yM,e]
  constructor
  ·rintro (h1 | rfl | h1)
   ·exact .inr (.inl h1)
   ·exact .inl rfl
   ·exact .inr (.inr h1)
  ·rintro (rfl | h1 | h1)
   ·exact .inr (.inl rfl)
   ·exact .inl h1
   ·exact .inr (.inr h1)
def vOk (v:A0):Bool:=decide (1≤v.Ts) && decide (v.Ts≤1099511627776) && decide ((v.Val.length:Int)≤32) && !(v.Del && decide (0<(v.Val.length:Int)))
theorem Auk (v:A0):Gk v=some (vOk v):=by
 unfold Gk vOk
 cases h1:decide (1≤v.Ts) <;> cases h2:decide (v.Ts≤1099511627776) <;> cases h3:decide ((v.Val.length:Int)≤32) <;> cases h4:v.Del <;> simp
structure OkC (l:List A0):Prop where
 each:∀ (i:Nat) (v:A0),l[i]? = some v→vOk v=true
 asc:∀ (i:Nat) (v w:A0),l[i]? = some v→l[i+1]? = some w→v.Ts<w.Ts
def OkN (l:List A0) (n:Nat) (b:Int):Prop :=
 (∀ (i:Nat) (v:A0),i<n→l[i]? = some v→vOk v=true)∧(∀ (i:Nat) (v w:A0),i+1<n→l[i]? = some v→l[i+1]? = some w→v.Ts<w.Ts)∧∀ (k:Nat) (v:A0),n=k+1→l[k]? = some v→v.Ts<b
theorem Ach {c:Al} (h:c.L.length≤1000):Akg c=some (Qv c.L c.L.length):=if_pos (by omega)
theorem Ak2 (l:List A0):∀ (n:Nat) (b:Int),n≤l.length→∃ e r,Rp Jl (Qv l n) b=some e∧Ae0 L4 L0 (fun _ _=>none) e=some r∧(r=true ↔ OkN l n b)
 | 0,b,_=>⟨_,_,rfl,rfl,by simp [OkN]⟩
 | n+1,b,h=>by
  rw [Q6 (by omega)]
  have hg:=zB (show n<l.length by omega)
  generalize l[n]'(by omega)=v at hg
  unfold Rp
  unfold Jl
  dsimp only
  rw [Auk,zA]
  cases hs:vOk v with
  | false =>
   refine ⟨_,false,rfl,rfl,?_⟩
   simp only [kY,false_iff]
   intro hk
   rw [hk.1 n v (zG n) hg] at hs
   cases hs
  | true =>
   by_cases hb:b≤v.Ts
   ·rw [if_neg (by simp),if_pos (decide_eq_true hb)]
    refine ⟨_,false,rfl,rfl,?_⟩
    simp only [kY,false_iff]
    intro hk
    have:=hk.2.2 n v rfl hg
    omega
   ·rw [if_neg (by simp),if_neg (by simpa using hb)]
    obtain ⟨e,r,h1,h2,h3⟩:=Ak2 l n v.Ts (by omega)
    refine ⟨e,r,h1,h2,h3.trans ⟨fun hk=>⟨fun i u hi hu=>?_,fun i u w hi hu hw=>?_,fun k u hk2 hu=>?_⟩,fun hk=>⟨fun i u hi hu=>hk.1 i u (by omega) hu,fun i u w hi hu hw=>hk.2.1 i u w (by omega) hu hw,fun k u hk2 hu=>?_⟩⟩⟩
    ·by_cases e:i=n
     ·subst e;rw [hg] at hu;cases hu;exact hs
     ·exact hk.1 i u (by omega) hu
    ·by_cases e:i+1=n
     ·subst e;rw [hg] at hw;cases hw;exact hk.2.2 i u rfl hu
     ·exact hk.2.1 i u w (by omega) hu hw
    ·have:k=n:=by omega
     subst this
     rw [hg] at hu;cases hu;omega
    ·subst hk2
     exact hk.2.1 k u v (by omega) hu hg
theorem Arx (l:List A0):OkN l l.length 1099511627777 ↔ OkC l:=by
 constructor
 ·intro h
  exact ⟨fun i v hv=>h.1 i v (zC.1 hv).1 hv,fun i v w hv hw=>h.2.1 i v w (zC.1 hw).1 hv hw⟩
 ·intro h
  refine ⟨fun i v _ hv=>h.each i v hv,fun i v w _ hv hw=>h.asc i v w hv hw,fun k v _ hv=>?_⟩
  have:=h.each k v hv
  unfold vOk at this
  simp only [yA,decide_eq_true_eq] at this
  omega
theorem Xy {c:Al} (h:c.L.length≤1000):(Ex c=some true∧OkC c.L)∨(Ex c=some false∧¬ OkC c.L):=by
 obtain ⟨e,r,h1,h2,h3⟩:=Ak2 c.L c.L.length 1099511627777 (zN _)
 have:Ex c=some r:=by
  unfold Ex
  rw [Ach h,zA,h1,zA,h2]
 rw [Arx] at h3
 cases r with
 | true=>exact .inl ⟨this,h3.1 rfl⟩
 | false=>exact .inr ⟨this,fun hk=>by have:=h3.2 hk;cases this⟩
def plc (l:List A0) (t:Int):Nat→Int
 | 0=>-1
 | n+1=>match l[n]? with
  | some v=>if v.Ts≤t then (n:Int) else plc l t n
  | none=>-1
theorem Alt (l:List A0) (t:Int):∀ (n:Nat) (s:Int),n≤l.length→∃ e,Rp (I0 t) (Qv l n) s=some e∧Ae0 Ly L8 (fun _ _=>none) e=some (plc l t n)
 | 0,s,_=>⟨_,rfl,rfl⟩
 | n+1,s,h=>by
  rw [Q6 (by omega)]
  have hg:=zB (show n<l.length by omega)
  generalize l[n]'(by omega)=v at hg
  unfold Rp I0 plc
  rw [hg]
  dsimp only
  by_cases ht:v.Ts≤t
  ·rw [if_pos (decide_eq_true ht),if_pos ht]
   exact ⟨_,rfl,rfl⟩
  ·rw [if_neg (by simpa using ht),if_neg ht]
   exact Alt l t n s (by omega)
theorem Agt {c:Al} (h:c.L.length≤1000) (t:Int):Ky c t=some (plc c.L t c.L.length):=by
 obtain ⟨e,h1,h2⟩:=Alt c.L t c.L.length 0 (zN _)
 unfold Ky
 rw [Ach h,zA,h1,zA,h2]
theorem Xb (l:List A0) (t:Int):∀ n,n≤l.length → -1≤plc l t n∧plc l t n<n∧(∀ k v,plc l t n=((k:Nat):Int)→l[k]? = some v→v.Ts≤t)∧∀ (j:Nat) v,plc l t n<j→j<n→l[j]? = some v→t<v.Ts
 | 0,_=>⟨by show (-1:Int) ≤ -1;omega,by show (-1:Int)<((0:Nat):Int);omega,fun k v h=>by have h':(-1:Int)=k:=h;omega,fun j v _ h=>by omega⟩
 | n+1,h=>by
  have hg:=zB (show n<l.length by omega)
  generalize l[n]'(by omega)=u at hg
  obtain ⟨h1,h2,h3,h4⟩:=Xb l t n (by omega)
  unfold plc
  rw [hg]
  dsimp only
  by_cases ht:u.Ts≤t
  ·rw [if_pos ht]
   refine ⟨by omega,by omega,fun k v hk hv=>?_,fun j v hj1 hj2 hv=>by omega⟩
   have:k=n:=by omega
   subst this
   rw [hg] at hv;cases hv;exact ht
  ·rw [if_neg ht]
   refine ⟨h1,by omega,h3,fun j v hj1 hj2 hv=>?_⟩
   by_cases e:j=n
   ·subst e;rw [hg] at hv;cases hv;omega
   ·exact h4 j v hj1 (by omega) hv
theorem At5 {c:Al} (h:c.L.length≤1000) {t:Int} (hp:plc c.L t c.L.length = -1):Ev c t=some (⟨0,[],false⟩,false):=by
 unfold Ev
 rw [Agt h,hp]
 rfl
theorem Ar5 {c:Al} (h:c.L.length≤1000) {t:Int} {k:Nat} {v:A0} (hp:plc c.L t c.L.length=k) (hv:c.L[k]? = some v):Ev c t=some (v,true):=by
 unfold Ev
 rw [Agt h,hp,zA,if_neg (by simp only [decide_eq_true_eq];omega),Bn,hv]
 rfl
theorem Ri {c:Al} {t:Int} {v:A0} {b:Bool} (h:Ev c t=some (v,b)):Ew c t=some (if b && !v.Del then (v.Val,true) else ([],false)):=by
 unfold Ew L5
 rw [h,zA]
 cases b <;> cases v.Del <;> simp
def Pu (l:List A0):Int:=match l[l.length-1]? with
 | some v=>v.Ts
 | none=>0
theorem Amz {c:Al} (h:c.L.length≤1000):Ko c=some (Pu c.L):=by
 unfold Ko Pu
 rw [Ach h,zA]
 cases hn:c.L.length with
 | zero =>
  have:c.L=[]:=zZ hn
  rw [this]
  rfl
 | succ n =>
  rw [Q6 (by omega),jT,zB (show n<c.L.length by omega)]
  rfl
theorem Aib {c:Al} (h:c.L.length≤1000) {v:A0} (hk:OkC c.L) (hv:vOk v=true) (hl:Pu c.L<v.Ts):Mu c v=some (⟨c.L++[v]⟩,0):=by
 unfold Mu
 rcases Xy (c:=⟨c.L⟩) h with ⟨h1,h2⟩ | ⟨h1,h2⟩
 ·rw [h1,zA,Auk,zA,hv]
  unfold L2
  have hn:¬ (decide (v.Ts≤Pu c.L)=true):=by rw [decide_eq_true_eq];omega
  rw [Amz h,zA,if_neg hn,T7 _ (by simp;omega) (by simp)]
  simp
 ·exact absurd hk h2
def gone (l:List A0) (t:Int):Nat:=match l[(plc l t l.length).toNat]? with
 | some v=>if plc l t l.length<0 then 0 else if v.Del then (plc l t l.length).toNat+1 else (plc l t l.length).toNat
 | none=>0
theorem Aw6 {c:Al} (h:c.L.length≤1000) (hk:OkC c.L) (t:Int):Kd c t=some ⟨c.L.drop (gone c.L t)⟩:=by
 obtain ⟨p1,p2,_,_⟩:=Xb c.L t c.L.length (zN _)
 unfold Kd gone
 rw [Agt h,zA]
 by_cases h0:plc c.L t c.L.length<0
 ·rw [if_pos (decide_eq_true h0)]
  split
  ·rw [if_pos h0];rfl
  ·rfl
 ·rw [if_neg (by simpa using h0)]
  rcases Xy (c:=⟨c.L⟩) h with ⟨h1,h2⟩ | ⟨h1,h2⟩
  ·rw [h1,zA,if_neg (by simp)]
   unfold Jy
   have hg:=zB (show (plc c.L t c.L.length).toNat<c.L.length by omega)
   generalize c.L[(plc c.L t c.L.length).toNat]'(by omega)=v at hg
   rw [Aws (by omega) hg,zA,hg]
   dsimp only
   rw [if_neg h0]
   have key:∀ j:Nat,j≤c.L.length→Ff c (j:Int)=some ⟨c.L.drop j⟩:=fun j hj=>by
    unfold Ff
    rw [Aaq (by omega) (by omega) (by omega),zA]
    have:(c.L.drop ((j:Int)).toNat).take (((c.L.length:Int)).toNat-((j:Int)).toNat)=c.L.drop j:=by
     rw [zR,zR]
     exact y9 (by simp)
    rw [this,Uz _ (by simp;omega)]
    rfl
   cases hd:v.Del with
   | true =>
    rw [if_pos rfl,if_pos rfl,Cb (by omega) (by omega)]
    have:=key ((plc c.L t c.L.length).toNat+1) (by omega)
    rw [show (((plc c.L t c.L.length).toNat+1:Nat):Int)=plc c.L t c.L.length+1 by omega] at this
    exact this
   | false =>
    rw [if_neg (by simp),if_neg (by simp)]
    have:=key ((plc c.L t c.L.length).toNat) (by omega)
    rw [show (((plc c.L t c.L.length).toNat:Nat):Int)=plc c.L t c.L.length by omega] at this
    exact this
  ·exact absurd hk h2
theorem Ak6:OkC []:=⟨fun i v h=>by simp at h,fun i v w h=>by simp at h⟩
theorem Aij {l:List A0} (h:OkC l) {v:A0} (hv:vOk v=true) (hl:Pu l<v.Ts):OkC (l++[v]):=by
 refine ⟨fun i u hu=>?_,fun i u w hu hw=>?_⟩
 ·by_cases hi:i<l.length
  ·rw [zK hi] at hu;exact h.each i u hu
  ·rw [zX (by omega)] at hu
   cases hj:i-l.length with
   | zero=>rw [hj] at hu;cases hu;exact hv
   | succ j=>rw [hj] at hu;simp at hu
 ·by_cases hi:i+1<l.length
  ·rw [zK (by omega)] at hu
   rw [zK hi] at hw
   exact h.asc i u w hu hw
  ·by_cases hi2:i<l.length
   ·rw [zK hi2] at hu
    rw [zX (by omega),show i+1-l.length=0 by omega] at hw
    cases hw
    unfold Pu at hl
    rw [show l.length-1=i by omega,hu] at hl
    exact hl
   ·rw [zX (by omega)] at hw
    cases hj:i+1-l.length with
    | zero=>omega
    | succ j=>rw [hj] at hw;simp at hw
theorem Ahx {l:List A0} (h:OkC l) (n:Nat):OkC (l.drop n):=by
 refine ⟨fun i v hv=>?_,fun i v w hv hw=>?_⟩
 ·rw [yG] at hv;exact h.each _ v hv
 ·rw [yG] at hv hw;exact h.asc (n+i) v w hv (by rw [kX];exact hw)
theorem Ari {l:List A0} (h:OkC l) {i:Nat} {v:A0} (hv:l[i]? = some v):∀ (d:Nat) (w:A0),l[i+d]? = some w→v.Ts≤w.Ts
 | 0,w,hw=>by rw [kE,hv] at hw;cases hw;exact xU _
 | d+1,w,hw=>by
  have hlt:=(zC.1 hw).1
  have hg:=zB (show i+d<l.length by omega)
  have ih:=Ari h hv d _ hg
  have:=h.asc (i+d) _ w hg (by rw [kX];exact hw)
  omega
def pc (l:List A0) (t:Int):Nat:=(plc l t l.length+1).toNat
theorem Afl (l:List A0) (t:Int):pc l t≤l.length:=by
 obtain ⟨h1,h2,_,_⟩:=Xb l t l.length (zN _)
 unfold pc;omega
theorem Ain (l:List A0) (t:Int):plc l t l.length=(pc l t:Int)-1:=by
 obtain ⟨h1,h2,_,_⟩:=Xb l t l.length (zN _)
 unfold pc;omega
theorem Aaa {l:List A0} (h:OkC l) (t:Int) {i:Nat} {v:A0} (hv:l[i]? = some v):i<pc l t ↔ v.Ts≤t:=by
 obtain ⟨h1,h2,h3,h4⟩:=Xb l t l.length (zN _)
 have hp:=Ain l t
 have hlt:=(zC.1 hv).1
 constructor
 ·intro hi
  have hk:pc l t-1<l.length:=by have:=Afl l t;omega
  have hg:=zB hk
  have h5:=h3 (pc l t-1) _ (by omega) hg
  have h6:=Ari h hv (pc l t-1-i) _ (by rw [show i+(pc l t-1-i)=pc l t-1 by omega];exact hg)
  omega
 ·intro ht
  rcases zO i (pc l t) with hi | hi
  ·exact hi
  ·have:=h4 i v (by omega) hlt hv
   omega
theorem Azu {l:List A0} (h:OkC l) {t:Int} {n:Nat} (hn:n≤l.length) (ha:∀ (i:Nat) v,i<n→l[i]? = some v→v.Ts≤t) (hb:∀ (i:Nat) v,n≤i→l[i]? = some v→t<v.Ts):pc l t=n:=by
 have h1:=Afl l t
 rcases w8 (pc l t) n with hl | hl | hl
 ·have hg:=zB (show pc l t<l.length by omega)
  have:=(Aaa h t hg).2 (ha _ _ hl hg)
  omega
 ·exact hl
 ·have hg:=zB (show n<l.length by omega)
  have:=(Aaa h t hg).1 hl
  have:=hb _ _ (zN _) hg
  omega
theorem Asl {l:List A0} (h:OkC l) (t:Int) (n:Nat) (hn:n≤l.length):pc (l.drop n) t=pc l t-n:=by
 have h1:=Afl l t
 refine Azu (Ahx h n) (by simp;omega) (fun i v hi hv=>?_) (fun i v hi hv=>?_)
 ·rw [yG] at hv
  exact (Aaa h t hv).1 (by omega)
 ·rw [yG] at hv
  rcases zO (n+i) (pc l t) with hlt | hge
  ·omega
  ·have:=mt (Aaa h t hv).2 (by omega)
   omega
theorem Ass {l:List A0} (h:OkC l) {s t:Int} (hst:s≤t):pc l s≤pc l t:=by
 rcases zO (pc l t) (pc l s) with hl | hl
 ·have h1:=Afl l s
  have hg:=zB (show pc l t<l.length by omega)
  have h2:=(Aaa h s hg).1 hl
  have:=(Aaa h t hg).2 (by omega)
  omega
 ·exact hl
theorem at0 {c:Al} (h:c.L.length≤1000) {t:Int} (hp:pc c.L t=0):Ev c t=some (⟨0,[],false⟩,false) :=
 At5 h (by rw [Ain,hp];rfl)
theorem at1 {c:Al} (h:c.L.length≤1000) {t:Int} {v:A0} (hp:0<pc c.L t) (hv:c.L[pc c.L t-1]? = some v):Ev c t=some (v,true) :=
 Ar5 h (by rw [Ain];omega) hv
theorem Alp (l:List A0) (t:Int):(pc l t=0∧gone l t=0)∨∃ v,0<pc l t∧l[pc l t-1]? = some v∧gone l t=if v.Del then pc l t else pc l t-1:=by
 have hp:=Ain l t
 have hle:=Afl l t
 rcases kI (pc l t) with h0 | h0
 ·left
  refine ⟨h0,?_⟩
  unfold gone
  split
  ·rw [if_pos (by omega)]
  ·rfl
 ·right
  have hg:=zB (show pc l t-1<l.length by omega)
  refine ⟨_,h0,hg,?_⟩
  unfold gone
  rw [show (plc l t l.length).toNat=pc l t-1 by omega,hg]
  dsimp only
  rw [if_neg (by omega),show pc l t-1+1=pc l t by omega]
theorem As9 (l:List A0) (t:Int):gone l t≤pc l t:=by
 rcases Alp l t with ⟨h1,h2⟩ | ⟨v,h1,h2,h3⟩
 ·omega
 ·rw [h3];split <;> omega
theorem Ara {α:Type} (xs:List α) (p:Nat→α→Bool) (f:Int→Option (LR Int Unit Bool)) (hl:xs.length≤1000000000000000000)
  (h:∀ (i:Nat) x,xs[i]? = some x→f (i:Int)=some (if p i x then .ret false else .cont ((i+1:Nat):Int))) (hend:f (xs.length:Int)=some (.brk ())) :
  (∃ i x,xs[i]? = some x∧p i x=true∧Lj f fuel 0=some (.inl false))∨((∀ (i:Nat) x,xs[i]? = some x→p i x=false)∧Lj f fuel 0=some (.inr ())):=by
 obtain ⟨b,hb,hr⟩:=Dh (f:=f) (P:=fun s=>∃ i:Nat,i≤xs.length∧s=(i:Int)∧∀ j x,j<i→xs[j]? = some x→p j x=false) (μ:=fun s=>xs.length-s.toNat)
  (R:=fun r=>(r=.inl false∧∃ i x,xs[i]? = some x∧p i x=true)∨(r=.inr ()∧∀ (i:Nat) x,xs[i]? = some x→p i x=false)) (by
   rintro _ ⟨i,hi,rfl,hp⟩
   rcases zO i xs.length with hlt | hge
   ·have hx:=zB hlt
    have hf:=h i _ hx
    cases hpx:p i xs[i] with
    | true =>
     rw [hpx,if_pos rfl] at hf
     exact .inr (.inr ⟨false,hf,.inl ⟨rfl,i,_,hx,hpx⟩⟩)
    | false =>
     rw [hpx,if_neg (by decide)] at hf
     refine .inl ⟨_,hf,⟨i+1,hlt,rfl,fun j x hj hx'=>?_⟩,by simp only [zR];omega⟩
     rcases jU.1 hj with h' | rfl
     ·exact hp j x h' hx'
     ·rw [hx] at hx';cases hx';exact hpx
   ·have e:i=xs.length:=by omega
    subst e
    exact .inr (.inl ⟨(),hend,.inr ⟨rfl,fun j x hx=>hp j x (zC.1 hx).1 hx⟩⟩)) fuel 0 ⟨0,zY _,rfl,fun j x hj=>absurd hj (zT _)⟩ (Ce (by show xs.length-0≤_;omega))
 rcases hr with ⟨rfl,i,x,hx,hp⟩ | ⟨rfl,hp⟩
 ·exact .inl ⟨i,x,hx,hp,hb⟩
 ·exact .inr ⟨hp,hb⟩
def kOk (k:List UInt8):Bool:=decide (1≤(k.length:Int)) && decide ((k.length:Int)≤16)
theorem kSane_m (k:List UInt8):E1 k=some (kOk k):=by
 unfold E1 kOk
 by_cases h:1≤(k.length:Int)
 ·rw [if_pos (decide_eq_true h),decide_eq_true h,wM]
 ·rw [if_neg (by rw [decide_eq_true_eq];exact h),decide_eq_false h,Bool.false_and]
theorem Aev:∀ (xs:Keys),(∀ (j:Nat) x y,xs[j]? = some x→xs[j+1]? = some y→Gg x y<0)→PW xs
 | [],_=>List.Pairwise.nil
 | [_],_=>wL _ _
 | x::y::l,h=>by
  have ih:PW (y::l):=Aev (y::l) fun j a b ha hb=>h (j+1) a b ha hb
  have hxy:Gg x y<0:=h 0 x y rfl rfl
  refine wH.2 ⟨fun z hz=>?_,ih⟩
  rcases yM.1 hz with rfl | hz
  ·exact hxy
  ·have:=(wH.1 ih).1 z hz
   exact (M8 (kP hxy) (kP this)).2 (.inl hxy)
theorem sorted_conv {xs:Keys} (hn:xs.length≤1000000000000000000) (h:Ck xs=some true):PW xs:=by
 refine Aev xs ?_
 obtain ⟨v,hv,hr⟩:=Dh (f:=Cl xs) (P:=fun s=>∃ i:Nat,s=(i:Int)∧1≤i∧∀ (j:Nat) x y,j+1<i→xs[j]? = some x→xs[j+1]? = some y→Gg x y<0) (μ:=fun s=>xs.length-s.toNat)
  (R:=fun v=>v=.inl false∨(v=.inr ()∧∀ (j:Nat) x y,xs[j]? = some x→xs[j+1]? = some y→Gg x y<0)) (by
  rintro _ ⟨i,rfl,h1,hadj⟩
  unfold Cl
  by_cases hi:i<xs.length
  ·rw [if_pos (decide_eq_true (by omega)),Cb (by omega) (by omega),show (i:Int)-1=((i-1:Nat):Int) from by omega,Bn,Bn,zB hi,zB (show i-1<xs.length by omega)]
   simp only [zA,Acd]
   by_cases hc:0≤Gg xs[i-1] xs[i]
   ·rw [if_pos (decide_eq_true hc)]
    exact .inr (.inr ⟨false,rfl,.inl rfl⟩)
   ·rw [if_neg (by rw [decide_eq_true_eq];exact hc)]
    refine .inl ⟨_,rfl,⟨i+1,by rw [Cb (by omega) (by omega)];rfl,by omega,fun j x y hj hx hy=>?_⟩,by rw [Cb (by omega) (by omega)];omega⟩
    rcases zO (j+1) i with h' | h'
    ·exact hadj j x y h' hx hy
    ·have e:j=i-1:=by omega
     subst e
     rw [zB (show i-1<xs.length by omega)] at hx
     rw [show i-1+1=i by omega,zB hi] at hy
     cases hx;cases hy
     omega
  ·right;left
   rw [if_neg (by rw [decide_eq_true_eq];omega)]
   refine ⟨_,rfl,.inr ⟨rfl,fun j x y hx hy=>hadj j x y ?_ hx hy⟩⟩
   have:=(zC.1 hy).1
   omega) fuel 1 ⟨1,rfl,zN _,fun j x y hj=>by omega⟩ (Ce (by show xs.length-1≤_;omega))
 unfold Ck at h
 rw [hv] at h
 rcases hr with rfl | ⟨rfl,hr⟩
 ·cases h
 ·exact hr
theorem Sf (xs:Keys) (hn:xs.length≤1000000000000000000):∃ b,Ef xs=some b∧(b=true ↔ (∀ k ∈ xs,kOk k=true)∧PW xs):=by
 unfold Ef
 rcases Ara xs (fun _ k=>!kOk k) (D7 xs) hn (fun i x hx=>by
  have hlt:=(zC.1 hx).1
  unfold D7
  rw [if_pos (decide_eq_true (by omega)),Bn,hx,zA,kSane_m,zA]
  cases kOk x with
  | false=>rfl
  | true=>rw [if_neg (by decide),if_neg (by decide),Cb (by omega) (by omega)];rfl) (by
  unfold D7
  rw [if_neg (by rw [decide_eq_true_eq];omega)]) with ⟨i,x,hx,hp,e⟩ | ⟨hp,e⟩
 ·rw [e]
  refine ⟨false,rfl,⟨fun h=>(by cases h),fun h=>?_⟩⟩
  rw [h.1 x (zI hx)] at hp
  cases hp
 ·rw [e,zA]
  unfold Ib
  obtain ⟨v,hv⟩:=sorted_some xs hn
  rw [hv]
  refine ⟨v,rfl,⟨fun h=>⟨fun k hk=>?_,?_⟩,fun h=>?_⟩⟩
  ·obtain ⟨i,hi⟩:=xY.1 hk
   have:=hp i k hi
   simpa using this
  ·subst h;exact sorted_conv hn hv
  ·rw [Zi h.2 hn] at hv
   exact (zD hv).symm
structure OkS (K:Keys) (C:List Al) (T:Int) (B:Nat):Prop where
 t0:0≤T
 t1:T≤1099511627776
 cl:C.length=K.length
 ks:∀ k ∈ K,kOk k=true
 pw:PW K
 cs:∀ c ∈ C,c.L≠[]∧OkC c.L∧Pu c.L≤T∧c.L.length≤B
theorem ssane_m {K:Keys} {C:List Al} {T:Int} {B:Nat} (h:OkS K C T B) (hB:B≤1000) (hk:K.length≤128):C7 ⟨K,C,T⟩=some true:=by
 unfold C7
 have h0:=h.t0
 have h1:=h.t1
 have hcl:=h.cl
 rw [if_neg (by rw [decide_eq_true_eq];dsimp only;omega),if_neg (by rw [decide_eq_true_eq];dsimp only;omega),if_neg (by rw [decide_eq_true_eq];dsimp only;omega),if_neg (by rw [decide_eq_true (by dsimp only;omega)];decide)]
 obtain ⟨b,hb,hb2⟩:=Sf K (by omega)
 have:b=true:=hb2.2 ⟨h.ks,h.pw⟩
 subst this
 show (Ef K).bind _=_
 rw [hb,zA,if_neg (by decide)]
 unfold M4
 rcases Ara C (fun _ _=>false) (Hl ⟨K,C,T⟩) (by omega) (fun i x hx=>by
  have hlt:=(zC.1 hx).1
  obtain ⟨c1,c2,c3,c4⟩:=h.cs x (zI hx)
  unfold Hl
  dsimp only
  rw [if_pos (decide_eq_true (by omega)),Bn,hx,zA]
  have hne:x.L.length≠0:=fun e=>c1 (zZ e)
  rw [if_neg (by rw [decide_eq_true_eq];omega)]
  rcases Xy (c:=x) (by omega) with ⟨e,_⟩ | ⟨_,e⟩
  ·rw [e,zA,if_neg (by decide),Amz (c:=x) (by omega),zA,if_neg (by rw [decide_eq_true_eq];omega),if_neg (by decide),Cb (by omega) (by omega)]
   rfl
  ·exact absurd c2 e) (by
  unfold Hl
  dsimp only
  rw [if_neg (by rw [decide_eq_true_eq];omega)]) with ⟨i,x,hx,hp,e⟩ | ⟨hp,e⟩
 ·cases hp
 ·rw [e];rfl
def wOk (w:Av):Bool:=decide ((w.Val.length:Int)≤32) && !(w.Del && decide (0<(w.Val.length:Int)))
theorem Afj (l:List Av) (hn:l.length≤1000000):∃ b,Gf l=some b∧(b=true→(∀ w ∈ l,wOk w=true)∧(∀ w ∈ l,kOk w.Key=true)∧PW (l.map (·.Key))):=by
 unfold Gf
 obtain ⟨v,hv,hr⟩:=Dh (f:=Eh l) (P:=fun s=>∃ i:Nat,i≤l.length∧s=((i:Int),(l.take i).map (·.Key))∧∀ w ∈ l.take i,wOk w=true) (μ:=fun s=>l.length-s.1.toNat)
  (R:=fun v=>v=.inl false∨(v=.inr (l.map (·.Key))∧∀ w ∈ l,wOk w=true)) (by
   rintro _ ⟨i,hi,rfl,hw⟩
   unfold Eh
   dsimp only
   rcases zO i l.length with hlt | hge
   ·have hx:=zB hlt
    rw [if_pos (decide_eq_true (by omega)),Bn,hx,zA]
    have hk5:Df ((i:Int),(l.take i).map (·.Key)) l[i] ()=some (.cont (((i+1:Nat):Int),(l.take (i+1)).map (·.Key))):=by
     unfold Df
     dsimp only
     rw [if_pos (by rw [z8,zL,yE];omega),Cb (by omega) (by omega),zM hlt,wE]
     rfl
    by_cases h1:32<(l[i].Val.length:Int)
    ·rw [if_pos (decide_eq_true h1)];exact .inr (.inr ⟨false,rfl,.inl rfl⟩)
    rw [if_neg (by rw [decide_eq_true_eq];exact h1)]
    have hnext:wOk l[i]=true→∀ w ∈ l.take (i+1),wOk w=true:=fun hwi w hm=>by
     rw [zM hlt] at hm
     rcases yL.1 hm with hm | hm
     ·exact hw w hm
     ·rw [zW.1 hm];exact hwi
    cases hd:l[i].Del with
    | true =>
     rw [if_pos rfl]
     by_cases h2:0<(l[i].Val.length:Int)
     ·rw [if_pos (decide_eq_true h2)];exact .inr (.inr ⟨false,rfl,.inl rfl⟩)
     ·rw [if_neg (by rw [decide_eq_true_eq];exact h2),hk5]
      refine .inl ⟨_,rfl,⟨i+1,hlt,rfl,hnext ?_⟩,by simp only [zR];omega⟩
      unfold wOk
      rw [decide_eq_true (by omega),hd,decide_eq_false h2]
      rfl
    | false =>
     rw [if_neg (by decide),hk5]
     refine .inl ⟨_,rfl,⟨i+1,hlt,rfl,hnext ?_⟩,by simp only [zR];omega⟩
     unfold wOk
     rw [decide_eq_true (by omega),hd]
     rfl
   ·have e:i=l.length:=by omega
    subst e
    rw [if_neg (by rw [decide_eq_true_eq];omega)]
    rw [yI] at hw ⊢
    exact .inr (.inl ⟨_,rfl,.inr ⟨rfl,hw⟩⟩)) fuel (0,[]) ⟨0,zY _,rfl,fun w h=>by simp at h⟩ (Ce (by show l.length-0≤_;omega))
 rw [hv,zA]
 rcases hr with rfl | ⟨rfl,hw⟩
 ·exact ⟨false,rfl,fun h=>(by cases h)⟩
 ·show ∃ b,Ei (l.map (·.Key))=some b∧_
  unfold Ei
  obtain ⟨b,hb,hb2⟩:=Sf (l.map (·.Key)) (by rw [z8];omega)
  rw [hb]
  refine ⟨b,rfl,fun h=>?_⟩
  obtain ⟨h1,h2⟩:=hb2.1 h
  exact ⟨hw,fun w hm=>h1 w.Key (yP.2 ⟨w,hm,rfl⟩),h2⟩
def At (K:Keys) (C:List Al) (k:List UInt8) (c:Al):Prop:=∃ i:Nat,K[i]? = some k∧C[i]? = some c
theorem Ae1 {K:Keys} (h:PW K) {i j:Nat} {k:List UInt8} (hi:K[i]? = some k) (hj:K[j]? = some k):i=j:=by
 obtain ⟨hi1,hi2⟩:=zC.1 hi
 obtain ⟨hj1,hj2⟩:=zC.1 hj
 rcases w8 i j with h' | h' | h'
 ·have:=yK.1 h i j hi1 hj1 h'
  rw [hi2,hj2,Px] at this;omega
 ·exact h'
 ·have:=yK.1 h j i hj1 hi1 h'
  rw [hi2,hj2,Px] at this;omega
theorem Xr {K:Keys} {k:List UInt8} (h:hit K k=true):K[kat K k]? = some k:=by
 unfold hit at h
 exact eq_of_beq h
theorem At.uniq {K:Keys} {C:List Al} {k:List UInt8} {c d:Al} (h:PW K) (hc:At K C k c) (hd:At K C k d):c=d:=by
 obtain ⟨i,h1,h2⟩:=hc
 obtain ⟨j,h3,h4⟩:=hd
 have:=Ae1 h h1 h3
 subst this
 rw [h2] at h4
 exact zD h4
theorem At.hit {K:Keys} {C:List Al} {k:List UInt8} {c:Al} (h:PW K) (hc:At K C k c):Go.Proofs.YtkblaobhhoebaaaGreat.Abs.bf.hit K k=true∧C[kat K k]? = some c:=by
 obtain ⟨i,h1,h2⟩:=hc
 have hh:=(Agm h).2 (zI h1)
 have:=Ae1 h h1 (Xr hh)
 subst this
 exact ⟨hh,h2⟩
theorem At.of_hit {K:Keys} {C:List Al} {k:List UInt8} (hl:C.length=K.length) (h:Go.Proofs.YtkblaobhhoebaaaGreat.Abs.bf.hit K k=true):∃ c,At K C k c∧C[kat K k]? = some c:=by
 have hlt:=Aq7 h
 exact ⟨C[kat K k]'(by omega),⟨_,Xr h,zB (by omega)⟩,zB (by omega)⟩
abbrev ver (ts:Int) (w:Av):A0:=A0.mk ts w.Val w.Del
def Auf (K:Keys) (C:List Al) (ts:Int) (w:Av) (c:Al):Prop:=(∃ c0,At K C w.Key c0∧c.L=c0.L++[ver ts w])∨((¬ ∃ c0,At K C w.Key c0)∧c.L=[ver ts w])
theorem Amm {ts:Int} {w:Av} (h1:1≤ts) (h2:ts≤1099511627776) (hw:wOk w=true):vOk (ver ts w)=true:=by
 unfold wOk at hw
 unfold vOk ver
 dsimp only
 rw [decide_eq_true h1,decide_eq_true h2,wM,wM]
 exact hw
theorem Alf {α:Type} {by_:Nat} {xs:List α} {i:Nat} {x:α} (hi:i≤xs.length) (hb:(xs.length+1)*by_≤140737488355328):Aoe by_ xs (i:Int) [x]=some (xs.take i++x::xs.drop i):=by
 unfold Aoe
 dsimp only
 rw [if_pos ⟨⟨by omega,by omega⟩,hb⟩,zR]
theorem Ano {α:Type} {xs:List α} {p:Nat} {x:α} (hp:p≤xs.length) (i:Nat):(xs.take p++x::xs.drop p)[i]? = if i<p then xs[i]? else if i=p then some x else xs[i-1]? := by
 rw [List.getElem?_append,zL,kC hp]
 split
 ·next h=>rw [yN,if_pos h]
 ·next h =>
  split
  ·next h2=>rw [h2,kU];rfl
  ·next h2 =>
   rw [show i-p=(i-p-1)+1 by omega,kV,yG]
   congr 1;omega
structure OkP (K:Keys) (C:List Al) (B:Nat):Prop where
 cl:C.length=K.length
 ks:∀ k ∈ K,kOk k=true
 pw:PW K
 cs:∀ c ∈ C,OkC c.L∧c.L.length≤B
theorem Ayk {K:Keys} {C:List Al} {B:Nat} (h:OkP K C B) (hB:B≤1000) (hK:K.length≤100000) {ts:Int} (ht:1≤ts∧ts≤1099511627776) {w:Av} (hw:wOk w=true) (hk:kOk w.Key=true)
  (hlast:∀ c,At K C w.Key c→Pu c.L<ts) :
  ∃ K' C',Mo K C ts w=some (ts,K',C')∧PW K'∧C'.length=K'.length∧(∀ k ∈ K',kOk k=true)∧K'.length≤K.length+1∧(∃ c,At K' C' w.Key c) ∧
   (∀ c,At K' C' w.Key c→Auf K C ts w c)∧(∀ k c,k≠w.Key→(At K' C' k c ↔ At K C k c)):=by
 have hcl:=h.cl
 have hv:=Amm ht.1 ht.2 hw
 unfold Mo
 rw [Asw K w.Key (by omega),zA]
 cases hh:hit K w.Key with
 | true =>
  rw [if_neg (fun h=>Bool.noConfusion h)]
  obtain ⟨c0,hat,hget⟩:=At.of_hit hcl hh
  obtain ⟨hc1,hc2⟩:=h.cs c0 (zI hget)
  have hlt:kat K w.Key<C.length:=(zC.1 hget).1
  refine ⟨K,C.set (kat K w.Key) ⟨c0.L++[ver ts w]⟩,?_,h.pw,by rw [xH];exact hcl,h.ks,by omega,⟨_,_,Xr hh,zS hlt⟩,?_,?_⟩
  ·unfold E5
   dsimp only
   rw [Bn,hget,zA,Aib (c:=c0) (by omega) hc1 hv (hlast c0 hat),zA,if_pos (decide_eq_true rfl),zA,zR]
  ·rintro c ⟨i,h1,h2⟩
   have:=Ae1 h.pw h1 (Xr hh)
   subst this
   rw [zS hlt] at h2
   cases h2
   exact .inl ⟨c0,hat,rfl⟩
  ·intro k c hne
   constructor
   ·rintro ⟨i,h1,h2⟩
    refine ⟨i,h1,?_⟩
    rw [z6] at h2
    ·exact h2
    ·intro e;subst e;rw [Xr hh] at h1;exact hne (zD h1).symm
   ·rintro ⟨i,h1,h2⟩
    refine ⟨i,h1,?_⟩
    rw [z6]
    ·exact h2
    ·intro e;subst e;rw [Xr hh] at h1;exact hne (zD h1).symm
 | false =>
  have hnot:¬ ∃ c0,At K C w.Key c0:=fun ⟨c0,hc0⟩=>by rw [(At.hit h.pw hc0).1] at hh;cases hh
  have hle:=Alm K w.Key
  have hK':ins K w.Key=K.take (kat K w.Key)++w.Key::K.drop (kat K w.Key):=by unfold ins;rw [hh];rfl
  rw [if_pos (show (!((kat K w.Key:Int),false).2)=true from rfl)]
  show ∃ K' C',((Aoe 24 K ((kat K w.Key:Nat):Int) [w.Key]).bind fun v6=>(Aoe 24 C ((kat K w.Key:Nat):Int) [(Al.mk ([]:List A0))]).bind fun v7=>E5 ts w ((kat K w.Key:Int),false) (v6,v7))=_∧_
  rw [Alf hle (by omega),zA,Alf (by omega) (by omega),zA]
  have hgK:=Ano (xs:=K) (x:=w.Key) hle
  have hgC:=Ano (xs:=C) (x:=(Al.mk ([]:List A0))) (p:=kat K w.Key) (by omega)
  have hlen:(C.take (kat K w.Key)++(Al.mk ([]:List A0))::C.drop (kat K w.Key)).length=C.length+1:=by
   rw [zH,yT,zL,yD];omega
  have hlenK:(K.take (kat K w.Key)++w.Key::K.drop (kat K w.Key)).length=K.length+1:=by
   rw [zH,yT,zL,yD];omega
  have hpl:kat K w.Key<(C.take (kat K w.Key)++(Al.mk ([]:List A0))::C.drop (kat K w.Key)).length:=by rw [hlen];omega
  have hgp:(C.take (kat K w.Key)++(Al.mk ([]:List A0))::C.drop (kat K w.Key))[kat K w.Key]? = some (Al.mk ([]:List A0)):=by
   rw [hgC,if_neg (wJ _),if_pos rfl]
  have hgkp:(K.take (kat K w.Key)++w.Key::K.drop (kat K w.Key))[kat K w.Key]? = some w.Key:=by
   rw [hgK,if_neg (wJ _),if_pos rfl]
  have hpw':PW (K.take (kat K w.Key)++w.Key::K.drop (kat K w.Key)):=by rw [← hK'];exact Aq2 h.pw
  refine ⟨_,(C.take (kat K w.Key)++(Al.mk ([]:List A0))::C.drop (kat K w.Key)).set (kat K w.Key) ⟨[]++[ver ts w]⟩,?_,hpw',by rw [xH,hlen,hlenK];omega,fun k hkm=>?_,by rw [hlenK];exact zN _,
   ⟨_,_,hgkp,zS hpl⟩,?_,?_⟩
  ·unfold E5
   dsimp only
   rw [Bn,hgp,zA,Aib (c:=⟨[]⟩) (zY _) Ak6 hv (by show (0:Int)<ts;omega),zA,if_pos (decide_eq_true rfl),zA,zR]
  ·rw [← hK'] at hkm
   rcases As8.1 hkm with rfl | hm
   ·exact hk
   ·exact h.ks k hm
  ·rintro c ⟨i,h1,h2⟩
   have:=Ae1 hpw' h1 hgkp
   subst this
   rw [zS hpl] at h2
   cases h2
   exact .inr ⟨hnot,rfl⟩
  ·intro k c hne
   have hK2:∀ i,(K.take (kat K w.Key)++w.Key::K.drop (kat K w.Key))[i]? = some k→i≠kat K w.Key:=fun i hi e=>by
    subst e;rw [hgkp] at hi;exact hne (zD hi).symm
   constructor
   ·rintro ⟨i,h1,h2⟩
    have hip:=hK2 i h1
    rw [z6 (fun e=>hip e.symm),hgC] at h2
    rw [hgK] at h1
    split at h1
    ·next hlt=>rw [if_pos hlt] at h2;exact ⟨i,h1,h2⟩
    ·next hlt =>
     rw [if_neg hlt,if_neg hip] at h2
     exact ⟨i-1,h1,h2⟩
   ·rintro ⟨i,h1,h2⟩
    rcases zO i (kat K w.Key) with hlt | hge
    ·refine ⟨i,?_,?_⟩
     ·rw [hgK,if_pos hlt];exact h1
     ·rw [z6 (by omega),hgC,if_pos hlt];exact h2
    ·refine ⟨i+1,?_,?_⟩
     ·rw [hgK,if_neg (by omega),if_neg (by omega)];exact h1
     ·rw [z6 (by omega),hgC,if_neg (by omega),if_neg (by omega)];exact h2
theorem At.mem {K:Keys} {C:List Al} (hl:C.length=K.length) {c:Al} (hc:c ∈ C):∃ k,At K C k c:=by
 obtain ⟨i,hi⟩:=xY.1 hc
 have hlt:=(zC.1 hi).1
 exact ⟨K[i]'(by omega),i,zB (by omega),hi⟩
theorem Aeg (l:List A0) (v:A0):Pu (l++[v])=v.Ts:=by
 unfold Pu
 rw [zH,yE,jT,zX (zN _),kU]
 rfl
theorem Auf.ok {K:Keys} {C:List Al} {B:Nat} (h:∀ c ∈ C,OkC c.L∧c.L.length≤B) {ts:Int} (ht:1≤ts∧ts≤1099511627776) {w:Av} (hw:wOk w=true) (hlast:∀ c,At K C w.Key c→Pu c.L<ts) {c:Al} (g:Auf K C ts w c) :
  OkC c.L∧c.L.length≤B+1∧c.L≠[]∧Pu c.L=ts:=by
 have hv:=Amm ht.1 ht.2 hw
 rcases g with ⟨c0,hat,e⟩ | ⟨_,e⟩
 ·obtain ⟨i,_,hi⟩:=hat
  obtain ⟨h1,h2⟩:=h c0 (zI hi)
  rw [e]
  exact ⟨Aij h1 hv (hlast c0 ⟨i,‹_›,hi⟩),by rw [zH,yE];omega,by simp,Aeg _ _⟩
 ·rw [e]
  have:=Aij Ak6 hv (by show (0:Int)<ts;omega)
  exact ⟨this,by show 1≤B+1;omega,by simp,Aeg [] _⟩
structure Laid (K:Keys) (C:List Al) (ts:Int) (l:List Av) (K':Keys) (C':List Al):Prop where
 pw:PW K'
 cl:C'.length=K'.length
 ks:∀ k ∈ K',kOk k=true
 len:K'.length≤K.length+l.length
 is:∀ w ∈ l,∃ c,At K' C' w.Key c
 new:∀ w ∈ l,∀ c,At K' C' w.Key c→Auf K C ts w c
 old:∀ k c,(∀ w ∈ l,w.Key≠k)→(At K' C' k c ↔ At K C k c)
theorem Av1 {K:Keys} {C:List Al} {T:Int} {B:Nat} (h:OkS K C T B) (hB:B<1000) (hK:K.length≤128) {ts:Int} (ht:T<ts∧ts≤1099511627776) (l:List Av) (hl:l.length≤1000)
  (hw:∀ w ∈ l,wOk w=true) (hk:∀ w ∈ l,kOk w.Key=true) (hp:PW (l.map (·.Key))) :
  ∃ K' C',Ct (Em l) fuel (0,K,C,ts)=some (K',C',ts)∧Laid K C ts l K' C':=by
 have h0:=h.t0
 have hlast0:∀ k c,At K C k c→Pu c.L<ts:=fun k c ⟨i,_,hi⟩=>by
  have:=(h.cs c (zI hi)).2.2.1
  omega
 have hcs0:∀ c ∈ C,OkC c.L∧c.L.length≤B:=fun c hc=>⟨(h.cs c hc).2.1,(h.cs c hc).2.2.2⟩
 obtain ⟨v,hv,hr⟩:=C9 (f:=Em l) (P:=fun s=>∃ i:Nat,i≤l.length∧s.1=(i:Int)∧s.2.2.2=ts∧Laid K C ts (l.take i) s.2.1 s.2.2.1) (μ:=fun s=>l.length-s.1.toNat)
  (R:=fun v=>v.2.2=ts∧Laid K C ts l v.1 v.2.1) (by
   rintro ⟨_,K1,C1,t1⟩ ⟨i,hi,rfl,ht1,hL⟩
   have ht1:t1=ts:=ht1
   have hL:Laid K C ts (l.take i) K1 C1:=hL
   unfold Em
   dsimp only
   rw [ht1]
   rcases zO i l.length with hlt | hge
   ·have hx:=zB hlt
    have hxm:=xN hlt
    rw [if_pos (decide_eq_true (by omega)),Bn,hx,zA]
    have hfresh:∀ w ∈ l.take i,w.Key≠l[i].Key:=fun w hm e=>by
     obtain ⟨j,hj⟩:=xY.1 hm
     rw [yN] at hj
     split at hj
     ·next hji =>
      have h1:(l.map (·.Key))[j]? = some w.Key:=by rw [zQ,hj];rfl
      have h2:(l.map (·.Key))[i]? = some l[i].Key:=by rw [zQ,hx];rfl
      have:=Ae1 hp h1 (by rw [e];exact h2)
      omega
     ·cases hj
    have hOk1:∀ c ∈ C1,OkC c.L∧c.L.length≤B+1:=fun c hc=>by
     obtain ⟨k,hat⟩:=At.mem hL.cl hc
     by_cases hex:∃ w ∈ l.take i,w.Key=k
     ·obtain ⟨w,hwm,rfl⟩:=hex
      have:=Auf.ok hcs0 ⟨by omega,ht.2⟩ (hw w (List.mem_of_mem_take hwm)) (hlast0 _) (hL.new w hwm c hat)
      exact ⟨this.1,this.2.1⟩
     ·have:=(hL.old k c (fun w hwm e=>hex ⟨w,hwm,e⟩)).1 hat
      obtain ⟨j,_,hj⟩:=this
      have:=hcs0 c (zI hj)
      exact ⟨this.1,by omega⟩
    have hat1:∀ c,At K1 C1 l[i].Key c ↔ At K C l[i].Key c:=fun c=>hL.old _ c hfresh
    obtain ⟨K2,C2,e2,p2,c2,k2,n2,is2,new2,old2⟩:=Ayk (B:=B+1) ⟨hL.cl,hL.ks,hL.pw,hOk1⟩ (by omega) (by have:=hL.len;rw [zL] at this;omega) (ts:=ts) ⟨by omega,ht.2⟩ (hw _ hxm) (hk _ hxm) (fun c hc=>hlast0 _ c ((hat1 c).1 hc))
    rw [e2,zA]
    dsimp only
    refine .inl ⟨_,rfl,⟨i+1,hlt,by dsimp only;rw [Cb (by omega) (by omega)];rfl,rfl,⟨p2,c2,k2,?_,?_,?_,?_⟩⟩,by dsimp only;rw [Cb (by omega) (by omega)];omega⟩
    ·have:=hL.len
     rw [zL] at this ⊢
     show K2.length≤_
     omega
    ·intro w hwm
     rw [zM hlt] at hwm
     rcases yL.1 hwm with hwm | hwm
     ·obtain ⟨c,hc⟩:=hL.is w hwm
      exact ⟨c,(old2 _ c (hfresh w hwm)).2 hc⟩
     ·rw [zW.1 hwm];exact is2
    ·intro w hwm c hc
     rw [zM hlt] at hwm
     rcases yL.1 hwm with hwm | hwm
     ·exact hL.new w hwm c ((old2 _ c (hfresh w hwm)).1 hc)
     ·rw [zW.1 hwm] at hc ⊢
      rcases new2 c hc with ⟨c0,hc0,e⟩ | ⟨hn,e⟩
      ·exact .inl ⟨c0,(hat1 c0).1 hc0,e⟩
      ·exact .inr ⟨fun ⟨c0,hc0⟩=>hn ⟨c0,(hat1 c0).2 hc0⟩,e⟩
    ·intro k c hne
     have h1:k≠l[i].Key:=fun e=>hne l[i] (by rw [zM hlt];exact wP _ (zW.2 rfl)) e.symm
     have h2:∀ w ∈ l.take i,w.Key≠k:=fun w hwm=>hne w (by rw [zM hlt];exact wS _ hwm)
     exact (old2 k c h1).trans (hL.old k c h2)
   ·have e:i=l.length:=by omega
    subst e
    rw [yI] at hL
    rw [if_neg (by rw [decide_eq_true_eq];omega)]
    exact .inr ⟨_,rfl,rfl,hL⟩) fuel (0,K,C,ts) ⟨0,zY _,rfl,rfl,⟨h.pw,h.cl,h.ks,by simp,fun w hw=>by simp at hw,fun w hw=>by simp at hw,fun k c _=>Iff.rfl⟩⟩ (Ce (by show l.length-0≤_;omega))
 obtain ⟨K',C',T'⟩:=v
 obtain ⟨rfl,hr⟩:=hr
 exact ⟨K',C',hv,hr⟩
abbrev zstore:Bu:=Bu.mk ([]:List (List UInt8)) ([]:List Al) 0
theorem install_m {K:Keys} {C:List Al} {T:Int} {B:Nat} (h:OkS K C T B) (hB:B<1000) (hK:K.length≤128) (ts:Int) (l:List Av) (hl:l.length≤1000) :
  (∃ e,(e=1∨(e=7∧¬ (T<ts∧ts≤1099511627776))∨e=8)∧Dy ⟨K,C,T⟩ ts l=some (zstore,e)) ∨
  ∃ K' C',Dy ⟨K,C,T⟩ ts l=some (⟨K',C',ts⟩,0)∧(T<ts∧ts≤1099511627776)∧(∀ w ∈ l,wOk w=true)∧PW (l.map (·.Key))∧K'.length≤128∧Laid K C ts l K' C'∧OkS K' C' ts (B+1):=by
 unfold Dy
 show (∃ e,_∧(C7 ⟨K,C,T⟩).bind _=_)∨∃ K' C',(C7 ⟨K,C,T⟩).bind _=_∧_
 rw [ssane_m h (by omega) hK,zA,if_neg (by decide)]
 obtain ⟨b,hb,hb2⟩:=Afj l (by omega)
 rw [hb,zA]
 cases b with
 | false=>exact .inl ⟨1,.inl rfl,rfl⟩
 | true =>
 obtain ⟨hw,hk,hp⟩:=hb2 rfl
 rw [if_neg (by decide)]
 unfold I1
 dsimp only
 by_cases h1:ts≤T
 ·rw [if_pos (decide_eq_true h1)];exact .inl ⟨7,.inr (.inl ⟨rfl,by omega⟩),rfl⟩
 rw [if_neg (by rw [decide_eq_true_eq];exact h1)]
 by_cases h2:1099511627776<ts
 ·rw [if_pos (decide_eq_true h2)];exact .inl ⟨7,.inr (.inl ⟨rfl,by omega⟩),rfl⟩
 rw [if_neg (by rw [decide_eq_true_eq];exact h2)]
 unfold Jf
 have hcl:=h.cl
 have e1:I9 K=some K:=by
  unfold I9
  rw [if_pos (by simp only [jP];omega)];rfl
 have e2:Ir C=some C:=by
  unfold Ir
  rw [if_pos (by simp only [jP];omega)];rfl
 dsimp only
 rw [e1,zA,e2,zA]
 obtain ⟨K',C',e3,hL⟩:=Av1 h hB hK (ts:=ts) ⟨by omega,by omega⟩ l hl hw hk hp
 rw [e3,zA]
 unfold Ix
 dsimp only
 by_cases h8:128<(K'.length:Int)
 ·rw [if_pos (decide_eq_true h8)];exact .inl ⟨8,.inr (.inr rfl),rfl⟩
 rw [if_neg (by rw [decide_eq_true_eq];exact h8)]
 refine .inr ⟨K',C',rfl,⟨by omega,by omega⟩,hw,hp,by omega,hL,⟨by have:=h.t0;omega,by omega,hL.cl,hL.ks,hL.pw,fun c hc=>?_⟩⟩
 obtain ⟨k,hat⟩:=At.mem hL.cl hc
 by_cases hex:∃ w ∈ l,w.Key=k
 ·obtain ⟨w,hwm,rfl⟩:=hex
  have hh:=Auf.ok (B:=B) (fun c hc=>⟨(h.cs c hc).2.1,(h.cs c hc).2.2.2⟩) ⟨by have:=h.t0;omega,by omega⟩ (hw w hwm) (fun c ⟨i,_,hi⟩=>by have:=(h.cs c (zI hi)).2.2.1;omega) (hL.new w hwm c hat)
  exact ⟨hh.2.2.1,hh.1,Int.le_of_eq hh.2.2.2,hh.2.1⟩
 ·obtain ⟨i,_,hi⟩:=(hL.old k c (fun w hwm e=>hex ⟨w,hwm,e⟩)).1 hat
  have:=h.cs c (zI hi)
  exact ⟨this.1,this.2.1,by omega,by omega⟩
theorem OkS.mono {K:Keys} {C:List Al} {T:Int} {B B':Nat} (h:OkS K C T B) (hb:B≤B'):OkS K C T B' :=
 ⟨h.t0,h.t1,h.cl,h.ks,h.pw,fun c hc=>⟨(h.cs c hc).1,(h.cs c hc).2.1,(h.cs c hc).2.2.1,yO (h.cs c hc).2.2.2 hb⟩⟩
def valC (l:List A0) (t:Int):List UInt8 × Bool:=match pc l t with
 | 0=>([],false)
 | n+1=>match l[n]? with
  | some v=>if v.Del then ([],false) else (v.Val,true)
  | none=>([],false)
theorem Adc {c:Al} (h:c.L.length≤1000) (t:Int):Ew c t=some (valC c.L t):=by
 have hle:=Afl c.L t
 unfold valC
 cases hp:pc c.L t with
 | zero =>
  rw [Ri (at0 h hp)]
  rfl
 | succ n =>
  have hx:c.L[n]? = some (c.L[n]'(by omega)):=zB (by omega)
  rw [Ri (at1 (t:=t) h (by omega) (by rw [hp];exact hx))]
  dsimp only
  rw [hx]
  dsimp only
  cases (c.L[n]'(by omega)).Del <;> rfl
theorem valC_late {l:List A0} {v:A0} (h:OkC (l++[v])) {t:Int} (ht:v.Ts≤t):valC (l++[v]) t=if v.Del then ([],false) else (v.Val,true):=by
 have e:pc (l++[v]) t=l.length+1:=by
  have hg:(l++[v])[l.length]? = some v:=by rw [zX (zN _),kU];rfl
  have h1:=(Aaa h t hg).2 ht
  have h2:=Afl (l++[v]) t
  rw [zH,yE] at h2
  omega
 unfold valC
 rw [e]
 dsimp only
 rw [zX (zN _),kU]
 rfl
theorem get_m {K:Keys} {C:List Al} {T:Int} {B:Nat} (h:OkS K C T B) (hB:B≤1000) (hK:K.length≤128) (k:List UInt8) (t:Int) :
  (∃ c,At K C k c∧Ez ⟨K,C,T⟩ k t=some (valC c.L t))∨((¬ ∃ c,At K C k c)∧Ez ⟨K,C,T⟩ k t=some ([],false)):=by
 unfold Ez
 dsimp only
 rw [Aid K k (by omega),zA]
 cases hh:hit K k with
 | false =>
  refine .inr ⟨fun ⟨c0,hc0⟩=>(by rw [(At.hit h.pw hc0).1] at hh;cases hh),?_⟩
  rfl
 | true =>
  obtain ⟨c0,hat,hget⟩:=At.of_hit h.cl hh
  refine .inl ⟨c0,hat,?_⟩
  rw [if_neg (fun h=>Bool.noConfusion h)]
  show (C7 ⟨K,C,T⟩).bind _=_
  rw [ssane_m h hB hK,zA,if_neg (by decide)]
  unfold Ny
  dsimp only
  rw [Bn,hget,zA,Adc (c:=c0) (by have:=(h.cs c0 (zI hget)).2.2.2;omega),zA]
def ent (r:Bg) (t:Int) (p:List UInt8 × Al):List B3:=if Af6 r p.1 && (valC p.2.L t).2 then [⟨p.1,(valC p.2.L t).1⟩] else []
def ents (r:Bg) (t:Int) (K:Keys) (C:List Al):List B3:=(K.zip C).flatMap (ent r t)
theorem Ak1 (r:Bg) (t:Int) (p:List UInt8 × Al):(ent r t p).length≤1:=by
 unfold ent;split <;> simp
theorem Wx {α β:Type} (f:α→List β) (hf:∀ x,(f x).length≤1):∀ l:List α,(l.flatMap f).length≤l.length
 | []=>zN _
 | x::l=>by
  have:=hf x
  have:=Wx f hf l
  rw [xD,zH,yT];omega
theorem Agn {α β:Type} {K:List α} {C:List β} {i:Nat} {k:α} {c:β} (hk:K[i]? = some k) (hc:C[i]? = some c):(K.zip C)[i]? = some (k,c):=by
 rw [List.getElem?_zip_eq_some]
 exact ⟨hk,hc⟩
theorem Afk {α β:Type} {f:α→List β} {l:List α} {i:Nat} {x:α} (h:l[i]? = some x):(l.take (i+1)).flatMap f=(l.take i).flatMap f++f x:=by
 obtain ⟨hlt,rfl⟩:=zC.1 h
 rw [zM hlt,kL,List.flatMap_singleton]
theorem Aqp {α β:Type} (f:α→List β) (l:List α) (i:Nat):∃ rest,l.flatMap f=(l.take i).flatMap f++rest :=
 ⟨(l.drop i).flatMap f,by rw [← kL,xJ]⟩
theorem scan_m {K:Keys} {C:List Al} {T:Int} {B:Nat} (h:OkS K C T B) (hB:B≤1000) (hK:K.length≤128) (r:Bg) (t most:Int) :
  He ⟨K,C,T⟩ r t most=some ((ents r t K C).take most.toNat):=by
 have hcl:=h.cl
 have hzl:(K.zip C).length=K.length:=by rw [j8];omega
 unfold He
 rw [ssane_m h hB hK,zA,if_neg (by decide)]
 obtain ⟨v,hv,hr⟩:=C9 (f:=Kl ⟨K,C,T⟩ r t most) (P:=fun s=>∃ i:Nat,i≤K.length∧s=((i:Int),((((K.zip C).take i).flatMap (ent r t)).take most.toNat))) (μ:=fun s=>K.length-s.1.toNat)
  (R:=fun v=>v=(ents r t K C).take most.toNat) (by
   rintro _ ⟨i,hi,rfl⟩
   unfold Kl
   dsimp only
   rcases zO i K.length with hlt | hge
   ·have hx:=zB hlt
    have hc:C[i]? = some (C[i]'(by omega)):=zB (by omega)
    have hst:=Afk (f:=ent r t) (Agn hx hc)
    have hlen:(((K.zip C).take i).flatMap (ent r t)).length≤128:=by
     refine yO (Wx _ (Ak1 r t) _) ?_
     rw [zL];omega
    rw [if_pos (decide_eq_true (by omega)),Bn,hx,zA]
    by_cases hm:most≤(((((K.zip C).take i).flatMap (ent r t)).take most.toNat).length:Int)
    ·rw [if_pos (decide_eq_true hm)]
     refine .inr ⟨_,rfl,?_⟩
     rw [zL] at hm
     obtain ⟨rest,e⟩:=Aqp (ent r t) (K.zip C) i
     unfold ents
     rw [e,wG (by omega)]
    ·rw [if_neg (by rw [decide_eq_true_eq];exact hm)]
     rw [zL] at hm
     have hid:(((K.zip C).take i).flatMap (ent r t)).take most.toNat=((K.zip C).take i).flatMap (ent r t):=y9 (by omega)
     have hnext:∀ x,ent r t (K[i],C[i]'(by omega))=x→x.length≤1→(((K.zip C).take (i+1)).flatMap (ent r t)).take most.toNat=((K.zip C).take i).flatMap (ent r t)++x:=fun x hx1 hx2=>by
      rw [hst,hx1,y9 (by rw [zH];omega)]
     rw [Anx,zA,hid]
     left
     cases hh:Af6 r K[i] with
     | false =>
      rw [if_pos (show (!false)=true from rfl)]
      refine ⟨_,rfl,⟨i+1,hlt,?_⟩,by simp only [Cb (show -9223372036854775808≤(i:Int)+1 by omega) (by omega)];omega⟩
      rw [Cb (by omega) (by omega),hnext [] (by unfold ent;dsimp only;rw [hh];rfl) (by decide),List.append_nil];rfl
     | true =>
      rw [if_neg (by decide),Bn,hc,zA,Adc (c:=C[i]'(by omega)) (by have:=(h.cs _ (xN (show i<C.length by omega))).2.2.2;omega),zA]
      cases hv:(valC (C[i]'(by omega)).L t).2 with
      | false =>
       rw [if_neg (by decide)]
       refine ⟨_,rfl,⟨i+1,hlt,?_⟩,by simp only [Cb (show -9223372036854775808≤(i:Int)+1 by omega) (by omega)];omega⟩
       rw [Cb (by omega) (by omega),hnext [] (by unfold ent;dsimp only;rw [hh,hv];rfl) (by decide),List.append_nil];rfl
      | true =>
       rw [if_pos rfl,if_pos (by rw [yE];omega)]
       refine ⟨_,rfl,⟨i+1,hlt,?_⟩,by simp only [Cb (show -9223372036854775808≤(i:Int)+1 by omega) (by omega)];omega⟩
       rw [Cb (by omega) (by omega),hnext [⟨K[i],(valC (C[i]'(by omega)).L t).1⟩] (by unfold ent;dsimp only;rw [hh,hv];rfl) (Nat.le_refl _)];rfl
   ·have e:i=K.length:=by omega
    subst e
    rw [if_neg (by rw [decide_eq_true_eq];omega)]
    refine .inr ⟨_,rfl,?_⟩
    unfold ents
    rw [← hzl,yI]) fuel (0,[]) ⟨0,zY _,by simp⟩ (Ce (by show K.length-0≤_;omega))
 rw [hv,zA,hr]
 rfl
theorem ents_len (r:Bg) (t:Int) (K:Keys) (C:List Al):(ents r t K C).length≤K.length:=by
 refine yO (Wx _ (Ak1 r t) _) ?_
 rw [j8];omega
abbrev KC:=List UInt8 × Al
def Ah7 (o:Int) (p:KC):List KC:=if 0<(p.2.L.drop (gone p.2.L o)).length then [(p.1,⟨p.2.L.drop (gone p.2.L o)⟩)] else []
def vacP (o:Int) (K:Keys) (C:List Al):List KC:=(K.zip C).flatMap (Ah7 o)
theorem Aon (o:Int) (p:KC):(Ah7 o p).length≤1:=by
 unfold Ah7;split <;> simp
theorem vacS_m {K:Keys} {C:List Al} {T:Int} {B:Nat} (h:OkS K C T B) (hB:B≤1000) (hK:K.length≤128) (o:Int) :
  Kc ⟨K,C,T⟩ o=some ⟨(vacP (if T<o then T else o) K C).map (·.1),(vacP (if T<o then T else o) K C).map (·.2),T⟩:=by
 have hcl:=h.cl
 have hzl:(K.zip C).length=C.length:=by rw [j8];omega
 unfold Kc
 rw [ssane_m h hB hK,zA,if_neg (by decide)]
 obtain ⟨v,hv,hr⟩:=C9 (f:=Gz ⟨K,C,T⟩ o) (P:=fun s=>∃ i:Nat,i≤C.length∧s=((i:Int),(((K.zip C).take i).flatMap (Ah7 (if T<o then T else o))).map (·.1),(((K.zip C).take i).flatMap (Ah7 (if T<o then T else o))).map (·.2))) (μ:=fun s=>C.length-s.1.toNat)
  (R:=fun v=>v=((vacP (if T<o then T else o) K C).map (·.1),(vacP (if T<o then T else o) K C).map (·.2))) (by
   rintro _ ⟨i,hi,rfl⟩
   unfold Gz
   dsimp only
   generalize (if T<o then T else o)=o'
   rcases zO i C.length with hlt | hge
   ·left
    have hc:=zB hlt
    have hx:K[i]? = some (K[i]'(by omega)):=zB (by omega)
    have hst:=Afk (f:=Ah7 o') (Agn hx hc)
    have hlen:(((K.zip C).take i).flatMap (Ah7 o')).length≤128:=by
     refine yO (Wx _ (Aon o') _) ?_
     rw [zL];omega
    obtain ⟨h1,h2,h3,h4⟩:=h.cs _ (xN hlt)
    rw [if_pos (decide_eq_true (by omega)),Bn,hc,zA,Aw6 (by omega) h2,zA]
    dsimp only
    by_cases hd:0<((C[i].L.drop (gone C[i].L o')).length:Int)
    ·have e:Ah7 o' (K[i]'(by omega),C[i])=[(K[i]'(by omega),⟨C[i].L.drop (gone C[i].L o')⟩)]:=if_pos (by dsimp only;omega)
     rw [if_pos (decide_eq_true hd),Bn,hx,zA,if_pos (by rw [z8,yE];omega),if_pos (by rw [z8,yE];omega)]
     refine ⟨_,rfl,⟨i+1,hlt,?_⟩,by simp only [Cb (show -9223372036854775808≤(i:Int)+1 by omega) (by omega)];omega⟩
     rw [Cb (by omega) (by omega),hst,e,wE,wE];rfl
    ·have e:Ah7 o' (K[i]'(by omega),C[i])=[]:=if_neg (by dsimp only;omega)
     rw [if_neg (by rw [decide_eq_true_eq];exact hd)]
     refine ⟨_,rfl,⟨i+1,hlt,?_⟩,by simp only [Cb (show -9223372036854775808≤(i:Int)+1 by omega) (by omega)];omega⟩
     rw [Cb (by omega) (by omega),hst,e,xF];rfl
   ·right
    have e:i=C.length:=by omega
    subst e
    rw [if_neg (by rw [decide_eq_true_eq];omega)]
    refine ⟨_,rfl,?_⟩
    unfold vacP
    rw [← hzl,yI]) fuel (0,[],[]) ⟨0,zY _,by simp⟩ (Ce (by show C.length-0≤_;omega))
 rw [hv,zA,hr]
 rfl
theorem Anm {l:List A0} {n:Nat} (h:n<l.length):Pu (l.drop n)=Pu l:=by
 unfold Pu
 rw [yD,yG,show n+(l.length-n-1)=l.length-1 by omega]
theorem Ai9 {o:Int} {K:Keys} {C:List Al} {q:KC} (h:q ∈ vacP o K C):∃ c,(q.1,c) ∈ K.zip C∧q.2=⟨c.L.drop (gone c.L o)⟩∧0<(c.L.drop (gone c.L o)).length:=by
 unfold vacP at h
 obtain ⟨p,hp,hq⟩:=j2.1 h
 unfold Ah7 at hq
 split at hq
 ·next hl =>
  rw [zW.1 hq]
  exact ⟨p.2,hp,rfl,hl⟩
 ·cases hq
theorem Ag7 (o:Int):∀ l:List KC,((l.flatMap (Ah7 o)).map (·.1)).Sublist (l.map (·.1))
 | []=>List.Sublist.slnil
 | p::l=>by
  have ih:=Ag7 o l
  rw [xD]
  unfold Ah7
  split
  ·exact ih.cons_cons _
  ·exact ih.cons _
theorem Atk {K:Keys} {C:List Al} (h:C.length=K.length):(K.zip C).map (·.1)=K:=by
 rw [List.map_fst_zip];omega
theorem vac_ok {K:Keys} {C:List Al} {T:Int} {B:Nat} (h:OkS K C T B) (o:Int):OkS ((vacP o K C).map (·.1)) ((vacP o K C).map (·.2)) T B:=by
 have hsub:=Ag7 o (K.zip C)
 rw [Atk h.cl] at hsub
 refine ⟨h.t0,h.t1,by rw [z8,z8],fun k hk=>h.ks k (hsub.subset hk),h.pw.sublist hsub,fun c hc=>?_⟩
 obtain ⟨q,hq,rfl⟩:=yP.1 hc
 obtain ⟨d,hd,e,hl⟩:=Ai9 hq
 obtain ⟨h1,h2,h3,h4⟩:=h.cs d (List.of_mem_zip hd).2
 rw [e]
 refine ⟨fun e0=>?_,Ahx h2 _,?_,?_⟩
 ·have e0:d.L.drop (gone d.L o)=[]:=e0
  rw [e0] at hl;exact absurd hl (wJ _)
 ·show Pu (d.L.drop (gone d.L o))≤T
  rw [Anm (by rw [yD] at hl;omega)];exact h3
 ·show (d.L.drop (gone d.L o)).length≤B
  rw [yD];omega
theorem vac_len (o:Int) (K:Keys) (C:List Al):((vacP o K C).map (·.1)).length≤K.length:=by
 have:=(Ag7 o (K.zip C)).length_le
 rw [z8,z8,j8] at this
 show ((((K.zip C).flatMap (Ah7 o)).map (·.1))).length≤_
 rw [z8]
 omega
end Go.Proofs.YtkblaobhhoebaaaGreat.Abs.st
