/-
 TxnWrites.
-/
import Derived.Test.YtkblaobhhoebaaaGreatWW14f
set_option linter.unusedVariables false
set_option linter.unusedSimpArgs false
namespace Go.Proofs.YtkblaobhhoebaaaGreat.Abs
end Go.Proofs.YtkblaobhhoebaaaGreat.Abs
namespace Go.Proofs.YtkblaobhhoebaaaGreat.Abs.st
open Go.Proofs.YtkblaobhhoebaaaGreat.Abs.bf
open Go.Proofs.YtkblaobhhoebaaaGreat.Abs.ss
theorem Aht {c:Al} (h:c.L.length≤900) (hk:OkC c.L) {o t:Int} (hot:o≤t):∃ r,Ew c t=some r∧Ew ⟨c.L.drop (gone c.L o)⟩ t=some r:=by
 have hm:=Ass hk hot
 have hle:=Afl c.L t
 have hgl:=As9 c.L o
 have hlc:c.L.length≤1000:=by omega
 have hld:(c.L.drop (gone c.L o)).length≤1000:=by simp;omega
 have hpd:pc (c.L.drop (gone c.L o)) t=pc c.L t-gone c.L o:=Asl hk t _ (by omega)
 have self:∃ v b,Ev c t=some (v,b):=by
  rcases kI (pc c.L t) with h0 | h0
  ·exact ⟨_,_,at0 hlc h0⟩
  ·exact ⟨_,_,at1 hlc h0 (zB (by omega))⟩
 rcases Alp c.L o with ⟨_,h2⟩ | ⟨v,h1,h2,h3⟩
 ·obtain ⟨v,b,hv⟩:=self
  rw [h2]
  exact ⟨_,Ri hv,Ri hv⟩
 ·have hg:=zB (show pc c.L t-1<c.L.length by omega)
  have at_c:=at1 (c:=c) hlc (t:=t) (by omega) hg
  by_cases hz:pc c.L t=gone c.L o
  ·have hd:v.Del=true:=by
    cases hd:v.Del with
    | true=>rfl
    | false=>rw [hd] at h3;simp at h3;omega
   have e1:pc c.L t=pc c.L o:=by omega
   have hgv:c.L[pc c.L t-1]'(by omega)=v:=by
    have:c.L[pc c.L t-1]? = some v:=by rw [e1];exact h2
    rw [hg] at this;exact zD this
   have at_d:=at0 (c:=⟨c.L.drop (gone c.L o)⟩) hld (t:=t) (by show pc (c.L.drop (gone c.L o)) t=0;omega)
   refine ⟨_,Ri at_c,?_⟩
   rw [Ri at_d,hgv,hd]
   rfl
  ·have hlt:gone c.L o<pc c.L t:=by omega
   have at_d:=at1 (c:=⟨c.L.drop (gone c.L o)⟩) hld (t:=t) (v:=c.L[pc c.L t-1]'(by omega)) (by show 0<pc (c.L.drop (gone c.L o)) t;omega) (by
    show (c.L.drop (gone c.L o))[pc (c.L.drop (gone c.L o)) t-1]? = _
    rw [hpd,yG,← hg]
    congr 1
    omega)
   exact ⟨_,Ri at_c,Ri at_d⟩
theorem Aj4 {l:List A0} (h:l.length≤900) (hk:OkC l) {o t:Int} (hot:o≤t):valC (l.drop (gone l o)) t=valC l t:=by
 obtain ⟨r,h1,h2⟩:=Aht (c:=⟨l⟩) h hk hot
 rw [Adc (c:=⟨l⟩) (by show l.length≤_;omega)] at h1
 rw [Adc (c:=⟨l.drop (gone l o)⟩) (by show (l.drop (gone l o)).length≤_;rw [yD];omega)] at h2
 exact zD (h2.trans h1.symm)
theorem get_vac {K:Keys} {C:List Al} {T:Int} {B:Nat} (h:OkS K C T B) (hB:B≤900) (hK:K.length≤128) {o t:Int} (hot:o≤t) {k:List UInt8} {c:Al} (hc:At K C k c) :
  Ez ⟨(vacP o K C).map (·.1),(vacP o K C).map (·.2),T⟩ k t=some (valC c.L t):=by
 have hcs:OkC c.L∧c.L.length≤B:=by
  obtain ⟨i,_,hi⟩:=hc
  have:=h.cs c (zI hi)
  exact ⟨this.2.1,this.2.2.2⟩
 have hd:=Aj4 (l:=c.L) (by omega) hcs.1 hot
 have hzip:∀ {d:Al},(k,d) ∈ K.zip C→d=c:=fun {d} hz=>by
  obtain ⟨i,hi⟩:=xY.1 hz
  rw [List.getElem?_zip_eq_some] at hi
  exact At.uniq h.pw ⟨i,hi.1,hi.2⟩ hc
 have hin:(k,c) ∈ K.zip C:=by
  obtain ⟨i,h1,h2⟩:=hc
  exact zI (Agn h1 h2)
 rcases get_m (vac_ok h o) (by omega) (yO (vac_len o K C) hK) k t with ⟨c2,⟨i,h1,h2⟩,e1⟩ | ⟨hno,e1⟩
 ·rw [e1]
  rw [zQ] at h1 h2
  cases hq:(vacP o K C)[i]? with
  | none=>rw [hq] at h1;cases h1
  | some q =>
   rw [hq] at h1 h2
   obtain ⟨d,z1,z2,-⟩:=Ai9 (zI hq)
   have e3:q.1=k:=zD h1
   have e4:q.2=c2:=zD h2
   rw [e3] at z1
   obtain rfl:=hzip z1
   rw [← e4,z2,hd]
 ·rw [e1]
  have hz:c.L.drop (gone c.L o)=[]:=by
   rcases j4 (c.L.drop (gone c.L o)) with hn | hn
   ·exact hn
   ·exfalso
    have hpos:0<(c.L.drop (gone c.L o)).length:=by obtain ⟨a,b,e⟩:=hn;rw [e];simp
    have hm:(k,(⟨c.L.drop (gone c.L o)⟩:Al)) ∈ vacP o K C:=by
     unfold vacP
     refine j2.2 ⟨(k,c),hin,?_⟩
     unfold Ah7
     rw [if_pos hpos]
     exact zW.2 rfl
    obtain ⟨i,hi⟩:=xY.1 hm
    exact hno ⟨_,i,by rw [zQ,hi];rfl,by rw [zQ,hi];rfl⟩
  rw [hz] at hd
  rw [← hd];rfl
end Go.Proofs.YtkblaobhhoebaaaGreat.Abs.st
namespace Go.Proofs.YtkblaobhhoebaaaGreat.Abs
end Go.Proofs.YtkblaobhhoebaaaGreat.Abs
