/-
 What a table of tokens keeps, whatever an engine does.
-/
import Derived.Test.YtkblaobhhoebaaaGreatOK14t
set_option linter.unusedVariables false
set_option linter.unusedSimpArgs false
namespace Go.Proofs.YtkblaobhhoebaaaGreat.Abs
def TKI (l:List E12) (tok done floor:Int):Prop :=
 (fnd l tok=none∧done=0∧floor = -1)∨∃ x,fnd l tok=some x∧((x.State=1∧done=0∧floor<x.Attempt)∨(x.State=3∧done=0∧floor≤x.Attempt)∨(x.State=2∧done=1))
def Stp (l l':List E12):Prop:=∀ tok done floor,TKI l tok done floor→TKI l' tok done floor
theorem Stp.refl (l:List E12):Stp l l:=fun _ _ _ h=>h
theorem Stp.trans {a b c:List E12} (h:Stp a b) (g:Stp b c):Stp a c:=fun t d f x=>g t d f (h t d f x)
theorem Ap9 {l l':List E12} {tok done floor:Int} (h:fnd l' tok=fnd l tok) (i:TKI l tok done floor):TKI l' tok done floor:=by
 unfold TKI at *
 rw [h];exact i
theorem Ap3 {l:List E12} (ok:OkT l) (tok att:Int):∃ l' e,Gm ⟨l⟩ tok att=some (⟨l'⟩,e)∧(e=0→OkT l'∧Stp l l'):=by
 obtain ⟨l',e,h1,h2,-⟩:=Ars ok tok att
 refine ⟨l',e,h1,fun he=>?_⟩
 obtain ⟨k1,k2,a0,a1,h⟩:=h2 he
 refine ⟨k1,fun t done floor hi=>?_⟩
 by_cases ht:t=tok
 ·subst ht
  rcases h with ⟨-,hold,hnew⟩ | ⟨h,-⟩ | ⟨h,-⟩ | ⟨h,-⟩
  rotate_left
  ·cases h
  ·cases h
  ·cases h
  rcases hi with ⟨hf,rfl,rfl⟩ | ⟨x,hf,hx⟩
  ·exact .inr ⟨_,hnew,.inl ⟨rfl,rfl,by show (-1:Int)<att;omega⟩⟩
  ·have:=hold x hf
   rcases hx with ⟨h1,rfl,h3⟩ | ⟨h1,rfl,h3⟩ | ⟨h1,-⟩
   ·exact .inr ⟨_,hnew,.inl ⟨rfl,rfl,by show floor<att;omega⟩⟩
   ·exact .inr ⟨_,hnew,.inl ⟨rfl,rfl,by show floor<att;omega⟩⟩
   ·exact absurd h1 this.1
 ·exact Ap9 (k2 t ht) hi
theorem All {l:List E12} (ok:OkT l) (tok att:Int):∃ l' n e,Dk ⟨l⟩ tok att=some (⟨l'⟩,n,e)∧(e=0→OkT l'∧Stp l l'∧(0<n ↔ ∃ x,fnd l tok=some x∧x.State=2)∧(n=0→∀ done floor,TKI l tok done floor→TKI l' tok done (if att > floor then att else floor))):=by
 obtain ⟨l',n,e,h1,h2,h3,h4,-,h5⟩:=Aqh ok tok att
 refine ⟨l',n,e,h1,fun he=>?_⟩
 obtain ⟨k1,k2,a0,a1,h⟩:=h2 he
 have hn:0<n ↔ ∃ x,fnd l tok=some x∧x.State=2:=by
  constructor
  ·intro hp
   rcases h5 with h5 | h5
   ·omega
   ·exact h5
  ·rintro ⟨x,hf,hs⟩
   rcases Int.lt_or_le 0 n with hlt | hle
   ·exact hlt
   ·exact absurd hs (h4 he hle x hf)
 refine ⟨k1,fun t done floor hi=>?_,hn,fun h0 done floor hi=>?_⟩
 ·by_cases ht:t=tok
  ·subst ht
   rcases h with ⟨h,-⟩ | ⟨h,-⟩ | ⟨-,x,hf,hs,rfl⟩ | ⟨-,hno,b,hnew,hb⟩
   ·cases h
   ·cases h
   ·exact hi
   ·rcases hi with ⟨hf,rfl,rfl⟩ | ⟨x,hf,hx⟩
    ·rw [hf] at hb
     have hb:b=att:=hb
     exact .inr ⟨_,hnew,.inr (.inl ⟨rfl,rfl,by show (-1:Int)≤b;omega⟩)⟩
    ·rw [hf] at hb
     have hb:b=max x.Attempt att:=hb
     rcases hx with ⟨h1,rfl,h3⟩ | ⟨h1,rfl,h3⟩ | ⟨h1,-⟩
     ·exact .inr ⟨_,hnew,.inr (.inl ⟨rfl,rfl,by show floor≤b;omega⟩)⟩
     ·exact .inr ⟨_,hnew,.inr (.inl ⟨rfl,rfl,by show floor≤b;omega⟩)⟩
     ·exact absurd h1 (hno x hf)
  ·exact Ap9 (k2 t ht) hi
 ·rcases h with ⟨h,-⟩ | ⟨h,-⟩ | ⟨-,x,hf,hs,rfl⟩ | ⟨-,hno,b,hnew,hb⟩
  ·cases h
  ·cases h
  ·have:=hn.2 ⟨x,hf,hs⟩;omega
  ·have hfl:(if att > floor then att else floor)≤max floor att:=by split <;> omega
   rcases hi with ⟨hf,rfl,rfl⟩ | ⟨x,hf,hx⟩
   ·rw [hf] at hb
    have hb:b=att:=hb
    exact .inr ⟨_,hnew,.inr (.inl ⟨rfl,rfl,by show _≤b;omega⟩)⟩
   ·rw [hf] at hb
    have hb:b=max x.Attempt att:=hb
    rcases hx with ⟨h1,rfl,h3⟩ | ⟨h1,rfl,h3⟩ | ⟨h1,-⟩
    ·exact .inr ⟨_,hnew,.inr (.inl ⟨rfl,rfl,by show _≤b;omega⟩)⟩
    ·exact .inr ⟨_,hnew,.inr (.inl ⟨rfl,rfl,by show _≤b;omega⟩)⟩
    ·exact absurd h1 (hno x hf)
theorem Anp {l:List E12} (ok:OkT l) (tok att ts:Int):∃ l' e,Ex ⟨l⟩ tok att ts=some (⟨l'⟩,e)∧(e=0→OkT l'∧∀ t done floor,TKI l t done floor→if t=tok then done=0∧floor<att∧TKI l' t 1 floor else TKI l' t done floor):=by
 obtain ⟨l',e,h1,h2,-⟩:=Aon ok tok att ts
 refine ⟨l',e,h1,fun he=>?_⟩
 obtain ⟨k1,k2,a0,a1,h⟩:=h2 he
 refine ⟨k1,fun t done floor hi=>?_⟩
 by_cases ht:t=tok
 ·subst ht
  rw [if_pos rfl]
  rcases h with ⟨h,-⟩ | ⟨-,⟨x,hf,hs,ha⟩,hnew⟩ | ⟨h,-⟩ | ⟨h,-⟩
  ·cases h
  rotate_left
  ·cases h
  ·cases h
  rcases hi with ⟨hf',-⟩ | ⟨y,hf',hy⟩
  ·rw [hf] at hf';cases hf'
  ·rw [hf] at hf'
   cases hf'
   rcases hy with ⟨h1,h2,h3⟩ | ⟨h1,-⟩ | ⟨h1,-⟩
   ·exact ⟨h2,by omega,.inr ⟨_,hnew,.inr (.inr ⟨rfl,rfl⟩)⟩⟩
   ·rw [hs] at h1;cases h1
   ·rw [hs] at h1;cases h1
 ·rw [if_neg ht]
  exact Ap9 (k2 t ht) hi
theorem Ap0 {l:List E12} {tok done floor:Int} (i:TKI l tok done floor):done=1 ↔ ∃ x,fnd l tok=some x∧x.State=2:=by
 rcases i with ⟨hf,rfl,-⟩ | ⟨x,hf,⟨h1,rfl,-⟩ | ⟨h1,rfl,-⟩ | ⟨h1,rfl⟩⟩
 ·exact ⟨fun h=>(by cases h),fun ⟨x,h,_⟩=>by rw [hf] at h;cases h⟩
 ·exact ⟨fun h=>(by cases h),fun ⟨y,h,h2⟩=>by rw [hf] at h;cases h;rw [h1] at h2;cases h2⟩
 ·exact ⟨fun h=>(by cases h),fun ⟨y,h,h2⟩=>by rw [hf] at h;cases h;rw [h1] at h2;cases h2⟩
 ·exact ⟨fun _=>⟨x,hf,h1⟩,fun _=>rfl⟩
theorem Atk (tok:Int):TKI [] tok 0 (-1):=.inl ⟨rfl,rfl,rfl⟩
end Go.Proofs.YtkblaobhhoebaaaGreat.Abs
