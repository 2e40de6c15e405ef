import Derived.Test.YtkblaobhhoebaaaGreatLSa
set_option linter.unusedVariables false
set_option linter.unusedSimpArgs false
namespace Go.Proofs.YtkblaobhhoebaaaGreat.Abs
def Aoz (h:Ai) (l:List Ae):Bool:=h.acts_.any λx=>l.any λw=>Tf x w.Key
def wW (a b:List Ae):Bool:=a.any λx=>b.any λy=>x.Key==y.Key
def Ji (a b:Ai):Bool:=wW (B4 a.acts_) (B4 b.acts_)&&decide (a.end_<b.end_)||(decide (a.end_<=b.snap_)&&Aoz b (B4 a.acts_)||decide (a.snap_<b.end_)&&Aoz a (B4 b.acts_))
theorem Aqh {α ρ:Type} (xs:List α) (p:α->Bool) (g:ρ) (f:Int->Option (LR Int Unit ρ)) (hl:xs.length<=1000000000000000000)
  (h:∀ (i:Nat) x,xs[i]? = some x->f (i:Int)=some (if p x then .ret g else .cont ((i+1:Nat):Int))) (hend:f (xs.length:Int)=some (.brk ())) :
  Gj f fuel 0=some (if xs.any p then .inl g else .inr ()):=by
 rw[Afv xs p (λ_=>g) f hl h hend]
 cases hf:xs.find? p with
 | some x =>
  rw[if_pos (yX.2 ⟨x,kK hf,jO hf⟩)]
 | none =>
  rw[if_neg (by rw[Bool.not_eq_true];exact kM.2 λx hx=>w4.1 hf x hx)]
theorem Arx {h:Ai} {l:List Ae} (hh:h.acts_.length<=1000) (hl:l.length<=1000) (hk:∀ w∈l,w.Key.length<=1000) (ha:∀ x∈h.acts_,1<x.o_.What):Gm h l=some (Aoz h l):=by
 unfold Gm
 have inner:∀ u∈h.acts_,Gj (F5 l u) fuel 0=some (if (l.any λw=>Tf u w.Key) then .inl true else .inr ()):=λu hu=>by
  have hu1:=ha u hu
  refine Aqh l (λw=>Tf u w.Key) true _ omg (λi w hw=>?_) ?_
  ·have hil:=(zB.1 hw).1
   have hwk:=hk w (zG hw)
   unfold F5
   rw[ifo,A3,hw]
   simp only[zA]
   rw[wIo,bf.rhas_m _ _ omg,zA]
   unfold Tf
   by_cases h3:u.o_.What<=3
   ·rw[ifp h3,decide_eq_true h3,decide_eq_false (show ¬ u.o_.What=4 by omega)]
    cases hc:(u.o_.Key==w.Key) <;> simp
   ·rw[ifn h3,decide_eq_false h3]
    by_cases h4:u.o_.What=4
    ·rw[ifp h4,decide_eq_true h4]
     cases bf.hasV u.o_.Rng w.Key <;> simp
    ·rw[ifn h4,decide_eq_false h4];simp
  ·unfold F5
   rw[ifq]
 have outer:=Aqh h.acts_ (λx=>l.any λw=>Tf x w.Key) true (F2 h l) omg (λi x hx=>by
  have hil:=(zB.1 hx).1
  unfold F2
  rw[ifo,A3,hx,zA,inner x (zG hx),zA]
  cases (l.any λw=>Tf x w.Key) with
  | true=>rfl
  | false =>
   show Ii (i:Int) ()=_
   unfold Ii
   rw[wIo];rfl) (by
  unfold F2
  rw[ifq])
 rw[outer,zA]
 unfold Aoz
 cases (h.acts_.any λx=>l.any λw=>Tf x w.Key) <;> rfl
structure Aur (M:Ai->Map) (h:Ai):Prop where
 ok:OkA (M h) h.acts_
 len:h.acts_.length<=1000
 wh:∀ x∈h.acts_,1<x.o_.What
theorem Aup {M:Ai->Map} {a b:Ai} (ha:Aur M a) (hb:Aur M b):P9 a b=some (Ji a b):=by
 have ga:=ha.ok.goodL
 have gb:=hb.ok.goodL
 have la:=ga.len
 have lb:=gb.len
 unfold P9
 rw[Aic ha.ok ha.len,zA,Aic hb.ok hb.len,zA]
 have inner:∀ (i:Nat) (x:Ae),(B4 a.acts_)[i]? = some x->Gj (Iw a b (B4 a.acts_) (B4 b.acts_) (i:Int)) fuel 0=some (if ((B4 b.acts_).any λy=>x.Key==y.Key&&decide (a.end_<b.end_)) then .inl true else .inr ()):=λi x hx=>by
  refine Aqh (B4 b.acts_) (λy=>x.Key==y.Key&&decide (a.end_<b.end_)) true _ omg (λj y hy=>?_) ?_
  ·have hil:=(zB.1 hy).1
   unfold Iw
   rw[ifo,A3,hx,zA,A3,hy,zA,wIo]
   cases (x.Key==y.Key) <;> cases decide (a.end_<b.end_) <;> simp
  ·unfold Iw
   rw[ifq]
 have outer:=Aqh (B4 a.acts_) (λx=>(B4 b.acts_).any λy=>x.Key==y.Key&&decide (a.end_<b.end_)) true (Iz a b (B4 a.acts_) (B4 b.acts_)) omg (λi x hx=>by
  have hil:=(zB.1 hx).1
  unfold Iz
  rw[ifo,inner i x hx,zA]
  cases ((B4 b.acts_).any λy=>x.Key==y.Key&&decide (a.end_<b.end_)) with
  | true=>rfl
  | false =>
   show L4 (i:Int) ()=_
   unfold L4
   rw[wIo];rfl) (by
  unfold Iz
  rw[ifq])
 rw[outer,zA]
 have hw:((B4 a.acts_).any λx=>(B4 b.acts_).any λy=>x.Key==y.Key&&decide (a.end_<b.end_))=(wW (B4 a.acts_) (B4 b.acts_)&&decide (a.end_<b.end_)):=by
  unfold wW
  cases decide (a.end_<b.end_) <;> simp
 have keyB:∀ {l:List Ae},bf.Good l->∀ w∈l,w.Key.length<=1000:=λhg=>bf.key_small hg
 have hrest:L9 a b (B4 a.acts_) (B4 b.acts_) ()=some (decide (a.end_<=b.snap_)&&Aoz b (B4 a.acts_)||decide (a.snap_<b.end_)&&Aoz a (B4 b.acts_)):=by
  unfold L9
  rw[Arx hb.len omg (keyB ga) hb.wh,Arx ha.len omg (keyB gb) ha.wh]
  simp only[zA]
  cases decide (a.end_<=b.snap_) <;> cases decide (a.snap_<b.end_) <;> cases Aoz b (B4 a.acts_) <;> simp
 unfold Ji
 rw[<- hw]
 cases ((B4 a.acts_).any λx=>(B4 b.acts_).any λy=>x.Key==y.Key&&decide (a.end_<b.end_)) with
 | true=>rfl
 | false=>simpa using hrest
def O8 (p:Ai->Bool) (D:List Ai) (M0:Map):Map:=D.foldl (λM d=>if p d then apB (B4 d.acts_) M else M) M0
def vis (D:List Ai) (s:Int):Map:=O8 (λd=>decide (d.end_<=s)) D (λ_=>none)
def wrt (d:Ai) (k:List UInt8):Prop:=k∈(B4 d.acts_).map bf.wk
theorem N1 {p q:Ai->Bool} {k:List UInt8}:∀ {D:List Ai} {M M':Map},M k=M' k->(∀ d∈D,wrt d k->p d=q d)->O8 p D M k=O8 q D M' k
 | [],_,_,h,_=>h
 | d::D,M,M',h,hd=>by
  show O8 p D (if p d then apB (B4 d.acts_) M else M) k=O8 q D (if q d then apB (B4 d.acts_) M' else M') k
  refine N1 ?_ λe he=>hd e (yQ _ he)
  by_cases hw:wrt d k
  ·rw[hd d (yR ..) hw]
   cases q d with
   | true=>exact W4 λ_=>h
   | false=>exact h
  ·have:∀ (b:Bool) (M:Map),(if b then apB (B4 d.acts_) M else M) k=M k:=λb M=>by
    cases b with
    | true=>exact V5 hw M
    | false=>rfl
   rw[this,this,h]
theorem Aek (p:Ai->Bool) (D E:List Ai) (M:Map):O8 p (D++E) M=O8 p E (O8 p D M):=by unfold O8;rw[List.foldl_append]
theorem Aju {p:Ai->Bool} {D E:List Ai} {b:Ai} {k:List UInt8} (hb:p b=true) (hw:wrt b k) (hE:∀ d∈E,wrt d k->p d=false) (M:Map) (N:Map):O8 p (D++b::E) M k=apB (B4 b.acts_) N k:=by
 have h1:O8 p (D++b::E) M k=O8 (λ_=>false) E (apB (B4 b.acts_) (O8 p D M)) k:=by
  rw[Aek]
  show O8 p E (if p b then apB (B4 b.acts_) (O8 p D M) else O8 p D M) k=_
  rw[hb,if_pos rfl]
  exact N1 rfl λd hd hwd=>hE d hd hwd
 rw[h1]
 have h2:∀ (E:List Ai) (M:Map),O8 (λ_=>false) E M=M:=λE=>by
  induction E with
  | nil=>intro M;rfl
  | cons d E ih=>intro M;exact ih M
 rw[h2]
 exact W4 λh=>absurd hw h
end Go.Proofs.YtkblaobhhoebaaaGreat.Abs
