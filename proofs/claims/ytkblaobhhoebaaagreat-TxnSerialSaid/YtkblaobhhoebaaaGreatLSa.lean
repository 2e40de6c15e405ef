import Derived.Test.YtkblaobhhoebaaaGreatLJ14x
set_option linter.unusedVariables false
set_option linter.unusedSimpArgs false
namespace Go.Proofs.YtkblaobhhoebaaaGreat.Abs.bf
theorem Avj (a b:List UInt8) (ha:a.length<=1000000000000000000):Ow a b=some (Dp a b):=by
 obtain⟨v,hv,hr⟩:=Cr (f:=M9 a b) (P:=λs=>∃ i:Nat,s=(i:Int)/\i<=a.length/\i<=b.length/\Dp a b=Dp (a.drop i) (b.drop i)) (μ:=λs=>a.length-s.toNat)
  (R:=λv=>match v with | .inl r=>r=Dp a b | .inr _=>Dp a b=if a.length<b.length then -1 else if b.length<a.length then 1 else 0) (by
  rintro _ ⟨i,rfl,h1,h2,h3⟩
  unfold M9
  by_cases ha':i<a.length
  ·rw[ifo]
   by_cases hb':i<b.length
   ·rw[ifo]
    unfold Qw
    have ea:=zC ha'
    have eb:=zC hb'
    have e:=An1 ea eb
    rw[A3,A3,ea,eb]
    simp only[zA]
    by_cases hx:a[i]<b[i]
    ·right;right
     rw[ifp ((W2 _ _).2 hx)]
     refine⟨_,rfl,?_⟩
     show(-1:Int)=_
     rw[h3,e,if_pos hx]
    ·rw[if_neg (by rw[decide_eq_true_eq,W2];exact hx)]
     by_cases hy:b[i]<a[i]
     ·right;right
      rw[ifp ((W2 _ _).2 hy)]
      refine⟨_,rfl,?_⟩
      show(1:Int)=_
      rw[h3,e,if_neg hx,if_pos hy]
     ·left
      rw[if_neg (by rw[decide_eq_true_eq,W2];exact hy)]
      refine⟨_,rfl,⟨i+1,by rw[wIo];rfl,ha',hb',by rw[h3,e,if_neg hx,if_neg hy]⟩,by rw[wIo];omega⟩
   ·right;left
    rw[ifq]
    refine⟨_,rfl,?_⟩
    show Dp a b=_
    have:i=b.length:=by omega
    rw[h3,this,jW,wD omg,if_neg omg,if_pos omg]
    rfl
  ·right;left
   rw[ifq]
   refine⟨_,rfl,?_⟩
   show Dp a b=_
   have:i=a.length:=by omega
   rw[h3,this,jW]
   by_cases hb':a.length<b.length
   ·rw[wD hb',if_pos hb'];rfl
   ·rw[w7 omg,if_neg hb',if_neg omg];rfl) fuel 0 ⟨0,rfl,zZ _,zZ _,rfl⟩ (Bs (by show a.length-0<=_;omega))
 unfold Ow
 rw[hv,zA]
 cases v with
 | inl r=>rw[show r=Dp a b from hr]
 | inr u =>
  have hr':Dp a b=if a.length<b.length then -1 else if b.length<a.length then 1 else 0:=hr
  unfold Qm
  rw[hr']
  by_cases h1:a.length<b.length
  ·rw[ifo,if_pos h1]
  ·rw[ifq,if_neg h1]
   by_cases h2:b.length<a.length
   ·rw[ifo,if_pos h2]
   ·rw[ifq,if_neg h2]
theorem rhas_m (r:Ar) (k:List UInt8) (h:k.length<=1000000000000000000):Oz r k=some (hasV r k):=by
 unfold Oz hasV
 simp only[Avj _ _ h,zA]
 cases decide (0<=Dp k r.Lo) <;> cases r.Open <;> simp
end Go.Proofs.YtkblaobhhoebaaaGreat.Abs.bf
namespace Go.Proofs.YtkblaobhhoebaaaGreat.Abs
theorem Air (l:List A5) (hl:l.length<=1000000):Qk l l=some true:=by
 unfold Qk
 rw[if_neg smp]
 obtain⟨v,hv,hr⟩:=Cr (f:=Od l l) (P:=λs=>∃ j:Nat,j<=l.length/\s=(j:Int)) (μ:=λs=>l.length-s.toNat) (R:=λv=>v=.inr ()) (by
  rintro _ ⟨j,hj,rfl⟩
  unfold Od
  rcases zU j l.length with hlt|hge
  ·rw[ifo,A3,zC hlt]
   simp only[zA,beq_self_eq_true,zAb,wP,if_false]
   rw[wIo]
   exact .inl ⟨_,rfl,⟨j+1,hlt,rfl⟩,by simp only[zT];omega⟩
  ·rw[ifq]
   exact .inr (.inl ⟨_,rfl,rfl⟩)) fuel 0 ⟨0,zZ _,rfl⟩ (Bs (by show l.length-0<=_;omega))
 rw[hv,hr];rfl
abbrev Map:=List UInt8->Option (List UInt8)
def apB (B:List Ae) (M:Map):Map:=λk=>match B.find? (λw=>bf.wk w==k) with
 | some w=>if w.Del then none else some w.Val
 | none=>M k
theorem Adq {B:List Ae} (h:Li bf.wk B) {w:Ae} (hw:w∈B) (M:Map):apB B M w.Key=if w.Del then none else some w.Val:=by
 unfold apB
 rw[show B.find? (λx=>bf.wk x==w.Key)=some w from bf.get_some h.dist hw]
theorem V5 {B:List Ae} {k:List UInt8} (h:k∉B.map bf.wk) (M:Map):apB B M k=M k:=by
 unfold apB
 rw[bf.get_none (kf:=bf.wk) (k:=k) λw hw e=>h (z8.2 ⟨w,hw,e⟩)]
theorem W4 {B:List Ae} {M M':Map} {k:List UInt8} (h:k∉B.map bf.wk->M k=M' k):apB B M k=apB B M' k:=by
 unfold apB
 cases hf:B.find? (λw=>bf.wk w==k) with
 | some w=>rfl
 | none =>
  refine h λhk=>?_
  obtain⟨w,hw,e⟩:=z8.1 hk
  have:=w4.1 hf w hw
  rw[e] at this
  simp at this
def wOf (x:B9):Ae:=⟨x.o_.Key,x.o_.Val,x.o_.Del⟩
def Ta (B:List Ae) (x:B9):List Ae:=if x.o_.What<5 then B else bf.setR B (wOf x)
def B4 (l:List B9):List Ae:=l.foldl Ta []
theorem Mo (l:List B9) (x:B9):B4 (l++[x])=Ta (B4 l) x:=by unfold B4;rw[List.foldl_append];rfl
def aR:Ar:=⟨[],[],true⟩
theorem Wx (k:List UInt8):bf.hasV aR k=true:=by
 unfold bf.hasV aR
 cases k with
 | nil=>rfl
 | cons x k=>rfl
structure RpR (r:Ar) (l:List A5) (M:Map):Prop where
 rise:Li kvk l
 mem:∀ x,x∈l↔bf.hasV r x.Key=true/\M x.Key=some x.Val
abbrev Rp (l:List A5) (M:Map):Prop:=RpR aR l M
theorem RpR.uniq {r:Ar} {l l':List A5} {M:Map} (h:RpR r l M) (h':RpR r l' M):l=l':=Aod h.rise h'.rise λx=>(h.mem x).trans (h'.mem x).symm
theorem RpR.congr {r:Ar} {l:List A5} {M M':Map} (h:RpR r l M) (e:∀ k,bf.hasV r k=true->M k=M' k):RpR r l M' :=
 ⟨h.rise,λx=>(h.mem x).trans ⟨λq=>⟨q.1,(e _ q.1).symm.trans q.2⟩,λq=>⟨q.1,(e _ q.1).trans q.2⟩⟩⟩
theorem Avk {B:List Ae} {l:List A5} {M:Map} {r r':Ar} (hB:Li bf.wk B) (h:RpR r l M) (hr:∀ k,bf.hasV r' k=true->bf.hasV r k=true):RpR r' (bf.ovL B l r') (apB B M):=by
 refine⟨bf.ov_rise r' hB h.rise,λx=>?_⟩
 rw[bf.ov_mem hB h.rise]
 constructor
 ·rintro(⟨h1,h2,h3⟩|⟨w,hw,h1,h2,rfl⟩)
  ·exact⟨h1,by rw[V5 h3];exact((h.mem x).1 h2).2⟩
  ·refine⟨h2,?_⟩
   show apB B M w.Key=some w.Val
   rw[Adq hB hw,h1];rfl
 ·rintro⟨h1,h2⟩
  by_cases hk:x.Key∈B.map bf.wk
  ·obtain⟨w,hw,e⟩:=z8.1 hk
   have e:w.Key=x.Key:=e
   rw[<- e,Adq hB hw] at h2
   cases hd:w.Del with
   | true=>rw[hd] at h2;cases h2
   | false =>
    rw[hd] at h2
    simp only[wP,if_false,zJ] at h2
    exact .inr ⟨w,hw,hd,by rw[e];exact h1,by unfold bf.kvw;rw[e,h2]⟩
  ·rw[V5 hk] at h2
   exact .inl ⟨h1,(h.mem x).2 ⟨hr _ h1,h2⟩,hk⟩
def Ayf (M:Map) (B:List Ae) (x:B9):Prop :=
 (1<x.o_.What/\x.o_.What<=3/\x.x_.found_=(apB B M x.o_.Key).isSome/\x.x_.v_=(apB B M x.o_.Key).getD []) \/
 (x.o_.What=4/\∃ L,RpR x.o_.Rng L (apB B M)/\x.x_.l_=L.take 8) \/
 (4<x.o_.What/\x.o_.What<=7/\Br ⟨B⟩ (wOf x)=some (⟨bf.setR B (wOf x)⟩,0)/\bf.Good (bf.setR B (wOf x)))
def OkA (M:Map) (l:List B9):Prop:=∀ j x,l[j]? = some x->Ayf M (B4 (l.take j)) x
theorem OkA.nil (M:Map):OkA M []:=λj x h=>by simp at h
theorem OkA.snoc {M:Map} {l:List B9} {x:B9} (h:OkA M l) (hx:Ayf M (B4 l) x):OkA M (l++[x]):=λj y hy=>by
 rcases kN j l.length with hj|hj|hj
 ·rw[zK hj] at hy
  rw[xY (Nat.le_of_lt hj)]
  exact h j y hy
 ·subst hj
  simp at hy
  subst hy
  rw[xY (zO _),yJ]
  exact hx
 ·rw[yL (by simp;omega)] at hy;cases hy
theorem P6 {α:Type} {l:List α} {j:Nat} {x:α} (h:l[j]? = some x):l.take (j+1)=l.take j++[x]:=by
 rw[List.take_add_one,h];rfl
theorem OkA.good {M:Map} {l:List B9} (h:OkA M l):∀ j,j<=l.length->bf.Good (B4 (l.take j))
 | 0,_=>by rw[jE];exact bf.Good.nil
 | j+1,hj=>by
  have hx:=zC (show j<l.length from hj)
  rw[P6 hx,Mo]
  unfold Ta
  split
  ·exact h.good j omg
  ·rename_i h5
   rcases h j _ hx with⟨_,h2,_⟩|⟨h2,_⟩|⟨_,_,_,h4⟩
   ·omega
   ·omega
   ·exact h4
theorem OkA.goodL {M:Map} {l:List B9} (h:OkA M l):bf.Good (B4 l):=by
 have:=h.good l.length (zO _)
 rwa [yJ] at this
def Tf (x:B9) (k:List UInt8):Bool:=decide (x.o_.What<=3)&&(x.o_.Key==k)||decide (x.o_.What=4)&&bf.hasV x.o_.Rng k
theorem OkA.congr {M M':Map} {l:List B9} (h:OkA M l) (e:∀ x∈l,∀ k,Tf x k=true->M k=M' k):OkA M' l:=λj x hx=>by
 have hm:=zG hx
 rcases h j x hx with⟨h1,h2,h3,h4⟩|⟨h1,L,h2,h3⟩|⟨h1,h2,h3,h4⟩
 ·have:apB (B4 (l.take j)) M x.o_.Key=apB (B4 (l.take j)) M' x.o_.Key:=W4 λ_=>e x hm _ (by unfold Tf;rw[decide_eq_true h2];simp)
  exact .inl ⟨h1,h2,by rw[<- this];exact h3,by rw[<- this];exact h4⟩
 ·refine .inr (.inl ⟨h1,L,h2.congr λk hk=>W4 λ_=>e x hm k ?_,h3⟩)
  unfold Tf
  rw[decide_eq_true h1,hk];simp
 ·exact .inr (.inr ⟨h1,h2,h3,h4⟩)
theorem Aic {M:Map} {h:Ai} (hk:OkA M h.acts_) (hl:h.acts_.length<=1000):L3 h=some (B4 h.acts_):=by
 unfold L3
 obtain⟨b,hb,hr⟩:=Cj (f:=K5 h) (P:=λs=>∃ j:Nat,j<=h.acts_.length/\s.1=(j:Int)/\s.2=B4 (h.acts_.take j)) (μ:=λs=>h.acts_.length-s.1.toNat) (R:=λb=>b=B4 h.acts_) (by
  rintro⟨_,B⟩ ⟨j,hj,rfl,rfl⟩
  unfold K5
  dsimp only
  rcases zU j h.acts_.length with hlt|hge
  ·have hx:=zC hlt
   rw[ifo,A3,hx,zA]
   have hs:=P6 hx
   by_cases h5:h.acts_[j].o_.What<5
   ·rw[ifp h5,wIo]
    refine .inl ⟨_,rfl,⟨j+1,hlt,rfl,?_⟩,by simp only[zT];omega⟩
    rw[hs,Mo]
    unfold Ta
    rw[if_pos h5]
   ·rw[ifn h5]
    rcases hk j _ hx with⟨_,h2,_⟩|⟨h2,_⟩|⟨_,_,h3,h4⟩
    ·omega
    ·omega
    ·rw[show Br ⟨B4 (h.acts_.take j)⟩ ⟨h.acts_[j].o_.Key,h.acts_[j].o_.Val,h.acts_[j].o_.Del⟩=_ from h3,zA,if_pos (by rfl),wIo]
     refine .inl ⟨_,rfl,⟨j+1,hlt,rfl,?_⟩,by simp only[zT];omega⟩
     rw[hs,Mo]
     unfold Ta
     rw[if_neg h5]
  ·rw[ifq]
   refine .inr ⟨_,rfl,?_⟩
   rw[yO hge]) fuel (0,[]) ⟨0,zZ _,rfl,rfl⟩ (Bs (by show h.acts_.length-0<=_;omega))
 rw[hb,hr];rfl
theorem Alv {l:List A5} {M:Map} (h:Rp l M) (k:List UInt8):l.foldl (λ(s:Bool×List UInt8) y=>if y.Key==k then(true,y.Val) else s) (false,[])=((M k).isSome,(M k).getD []):=by
 have hd:=h.rise.dist
 have key:∀ (l:List A5) (s:Bool×List UInt8),Hz kvk l->l.foldl (λ(s:Bool×List UInt8) y=>if y.Key==k then(true,y.Val) else s) s=match l.find? (λy=>kvk y==k) with|some y=>(true,y.Val)|none=>s:=by
  intro l
  induction l with
  | nil=>intro s _;rfl
  | cons y l ih =>
   intro s hd
   obtain⟨h1,h2⟩:=xP.1 hd
   rw[kO,ih _ h2,kU]
   by_cases e:y.Key=k
   ·have e1:(kvk y==k)=true:=by simpa [kvk] using e
    rw[e1,if_pos (by simpa using e)]
    rw[bf.get_none (kf:=kvk) (k:=k) λw hw hc=>h1 w hw (by rw[hc];exact e)]
   ·have e1:(kvk y==k)=false:=by simpa [kvk] using e
    rw[e1,if_neg (by simpa using e)]
 rw[key l _ hd]
 cases hf:l.find? (λy=>kvk y==k) with
 | some y =>
  have h1:=kK hf
  have h2:y.Key=k:=by have:=jO hf;simpa [kvk] using this
  have:=((h.mem y).1 h1).2
  rw[h2] at this
  rw[this];rfl
 | none =>
  cases hM:M k with
  | none=>rfl
  | some v =>
   have:=(h.mem ⟨k,v⟩).2 ⟨Wx k,hM⟩
   have:=w4.1 hf _ this
   simp [kvk] at this
theorem Apg {base:List A5} {M:Map} (hp:Rp base M) (hl:base.length<=500) {h:Ai} (hk:OkA M h.acts_) (ha:h.acts_.length<=1000):∃ base',Lx base h=some (base',true)/\Rp base' (apB (B4 h.acts_) M)/\base'.length<=base.length+(B4 h.acts_).length:=by
 have hrp:∀ j,j<=h.acts_.length->∀ r,RpR r (bf.ovL (B4 (h.acts_.take j)) base r) (apB (B4 (h.acts_.take j)) M):=λj hj r=>Avk (hk.good j hj).rise hp λk _=>Wx k
 have hov:∀ j,j<=h.acts_.length->Cc ⟨B4 (h.acts_.take j)⟩ base ⟨[],[],true⟩ 1000=some (bf.ovL (B4 (h.acts_.take j)) base aR):=λj hj=>by
  have hg:=hk.good j hj
  have hlen:=bf.ov_len (B4 (h.acts_.take j)) base aR
  have hgl:=hg.len
  rw[show Cc ⟨B4 (h.acts_.take j)⟩ base ⟨[],[],true⟩ 1000=_ from bf.over_m aR hg hp.rise omg dcd]
  rw[yO (by show _<=1000;omega)]
 unfold Lx
 obtain⟨b,hb,hr⟩:=Cr (f:=Ld base h) (P:=λs=>∃ j:Nat,j<=h.acts_.length/\s.1=(j:Int)/\s.2=B4 (h.acts_.take j)) (μ:=λs=>h.acts_.length-s.1.toNat) (R:=λb=>b=.inr (B4 h.acts_)) (by
  rintro⟨_,B⟩ ⟨j,hj,rfl,rfl⟩
  unfold Ld
  dsimp only
  rcases zU j h.acts_.length with hlt|hge
  ·have hx:=zC hlt
   rw[ifo,A3,hx,zA,zA,hov j hj,zA]
   have hs:=P6 hx
   rcases hk j _ hx with⟨h1,h2,h3,h4⟩|⟨h1,L,h2,h3⟩|⟨h1,h2,h3,h4⟩
   ·rw[ifp h2]
    have hlen:=bf.ov_len (B4 (h.acts_.take j)) base aR
    have hgl:=(hk.good j hj).len
    have e1:=Uq (f:=Fy h.acts_[j] (bf.ovL (B4 (h.acts_.take j)) base aR)) (λ(s:Bool×List UInt8) (i:Nat)=>(s.1,s.2,(i:Int))) (bf.ovL (B4 (h.acts_.take j)) base aR) (λs y=>if y.Key==h.acts_[j].o_.Key then(true,y.Val) else s) (λs=>s) omg (λacc i x hx'=>by
     have hil:=(zB.1 hx').1
     unfold Fy
     dsimp only
     rw[ifo,A3,hx',zA,wIo]
     split <;> rfl) (λacc=>by
     unfold Fy
     dsimp only
     rw[ifq]) (false,[])
    rw[show B8 (Fy h.acts_[j] (bf.ovL (B4 (h.acts_.take j)) base aR)) fuel (false,([]:List UInt8),0)=_ from e1,zA,Alv (hrp j hj aR)]
    unfold N7
    dsimp only
    rw[if_neg (by rw[h3];simp),if_neg (by rw[h4];simp),wIo]
    refine .inl ⟨_,rfl,⟨j+1,hlt,rfl,?_⟩,by simp only[zT];omega⟩
    rw[hs,Mo]
    unfold Ta
    rw[if_pos omg]
   ·rw[ifq,ifp h1]
    have hg:=hk.good j hj
    rw[show Cc ⟨B4 (h.acts_.take j)⟩ base h.acts_[j].o_.Rng 8=_ from bf.over_m _ hg hp.rise omg dcd,zA]
    have hLL:=h2.uniq (hrp j hj h.acts_[j].o_.Rng)
    rw[h3,hLL]
    rw[show(8:Int).toNat=8 from rfl,Air _ (by rw[zN];omega),zA,if_neg dcd,wIo]
    refine .inl ⟨_,rfl,⟨j+1,hlt,rfl,?_⟩,by simp only[zT];omega⟩
    rw[hs,Mo]
    unfold Ta
    rw[if_pos omg]
   ·rw[ifq,ifq]
    rw[show Br ⟨B4 (h.acts_.take j)⟩ ⟨h.acts_[j].o_.Key,h.acts_[j].o_.Val,h.acts_[j].o_.Del⟩=_ from h3,zA,if_neg (by show ¬ (!decide ((0:Int)=0))=true;decide),wIo]
    refine .inl ⟨_,rfl,⟨j+1,hlt,rfl,?_⟩,by simp only[zT];omega⟩
    rw[hs,Mo]
    unfold Ta
    rw[if_neg omg]
  ·rw[ifq]
   refine .inr (.inl ⟨_,rfl,?_⟩)
   rw[yO hge]) fuel (0,[]) ⟨0,zZ _,rfl,rfl⟩ (Bs (by show h.acts_.length-0<=_;omega))
 rw[hb,hr,zA]
 have h1:=hov h.acts_.length (zO _)
 have h2:=hrp h.acts_.length (zO _) aR
 rw[yJ] at h1 h2
 refine⟨bf.ovL (B4 h.acts_) base aR,?_,h2,bf.ov_len _ _ _⟩
 show Kn base (B4 h.acts_)=_
 unfold Kn
 rw[h1];rfl
end Go.Proofs.YtkblaobhhoebaaaGreat.Abs
