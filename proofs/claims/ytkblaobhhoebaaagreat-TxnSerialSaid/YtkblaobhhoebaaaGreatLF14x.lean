/-
 What a table of tokens keeps, whatever an engine does.
-/
import Derived.Test.YtkblaobhhoebaaaGreatLK14t
set_option linter.unusedVariables false
set_option linter.unusedSimpArgs false
namespace Go.Proofs.YtkblaobhhoebaaaGreat.Abs
def TKI (l:List E12) (tok done floor:Int):Prop :=
 (fnd l tok=none/\done=0/\floor = -1)\/∃ x,fnd l tok=some x/\((x.State=1/\done=0/\floor<x.Attempt)\/(x.State=3/\done=0/\floor<=x.Attempt)\/(x.State=2/\done=1))
def Stp (l l':List E12):Prop:=∀ tok done floor,TKI l tok done floor->TKI l' tok done floor
theorem Stp.refl (l:List E12):Stp l l:=λ_ _ _ h=>h
theorem Stp.trans {a b c:List E12} (h:Stp a b) (g:Stp b c):Stp a c:=λt d f x=>g t d f (h t d f x)
theorem Ax4 {l l':List E12} {tok done floor:Int} (h:fnd l' tok=fnd l tok) (i:TKI l tok done floor):TKI l' tok done floor:=by
 unfold TKI at *
 rw[h];exact i
theorem At4 {l:List E12} (ok:OkT l) (tok att:Int):∃ l' n e,Co ⟨l⟩ tok att=some (⟨l'⟩,n,e)/\(e=0->OkT l'/\Stp l l'/\(0<n↔∃ x,fnd l tok=some x/\x.State=2)/\(n=0->∀ done floor,TKI l tok done floor->TKI l' tok done (if att > floor then att else floor))):=by
 obtain⟨l',n,e,h1,h2,h3,h4,-,h5⟩:=Aci ok tok att
 refine⟨l',n,e,h1,λhe=>?_⟩
 obtain⟨k1,k2,a0,a1,h⟩:=h2 he
 have hn:0<n↔∃ x,fnd l tok=some x/\x.State=2:=by
  constructor
  ·intro hp
   rcases h5 with h5|h5
   ·omega
   ·exact h5
  ·rintro⟨x,hf,hs⟩
   rcases Int.lt_or_le 0 n with hlt|hle
   ·exact hlt
   ·exact absurd hs (h4 he hle x hf)
 refine⟨k1,λt done floor hi=>?_,hn,λh0 done floor hi=>?_⟩
 ·by_cases ht:t=tok
  ·subst ht
   rcases h with⟨h,-⟩|⟨h,-⟩|⟨-,x,hf,hs,rfl⟩|⟨-,hno,b,hnew,hb⟩
   ·cases h
   ·cases h
   ·exact hi
   ·rcases hi with⟨hf,rfl,rfl⟩|⟨x,hf,hx⟩
    ·rw[hf] at hb
     have hb:b=att:=hb
     exact .inr ⟨_,hnew,.inr (.inl ⟨rfl,rfl,by show(-1:Int)<=b;omega⟩)⟩
    ·rw[hf] at hb
     have hb:b=max x.Attempt att:=hb
     rcases hx with⟨h1,rfl,h3⟩|⟨h1,rfl,h3⟩|⟨h1,-⟩
     ·exact .inr ⟨_,hnew,.inr (.inl ⟨rfl,rfl,by show floor<=b;omega⟩)⟩
     ·exact .inr ⟨_,hnew,.inr (.inl ⟨rfl,rfl,by show floor<=b;omega⟩)⟩
     ·exact absurd h1 (hno x hf)
  ·exact Ax4 (k2 t ht) hi
 ·rcases h with⟨h,-⟩|⟨h,-⟩|⟨-,x,hf,hs,rfl⟩|⟨-,hno,b,hnew,hb⟩
  ·cases h
  ·cases h
  ·have:=hn.2 ⟨x,hf,hs⟩;omega
  ·have hfl:(if att > floor then att else floor)<=max floor att:=by split <;> omega
   rcases hi with⟨hf,rfl,rfl⟩|⟨x,hf,hx⟩
   ·rw[hf] at hb
    have hb:b=att:=hb
    exact .inr ⟨_,hnew,.inr (.inl ⟨rfl,rfl,by show _<=b;omega⟩)⟩
   ·rw[hf] at hb
    have hb:b=max x.Attempt att:=hb
    rcases hx with⟨h1,rfl,h3⟩|⟨h1,rfl,h3⟩|⟨h1,-⟩
    ·exact .inr ⟨_,hnew,.inr (.inl ⟨rfl,rfl,by show _<=b;omega⟩)⟩
    ·exact .inr ⟨_,hnew,.inr (.inl ⟨rfl,rfl,by show _<=b;omega⟩)⟩
    ·exact absurd h1 (hno x hf)
end Go.Proofs.YtkblaobhhoebaaaGreat.Abs
