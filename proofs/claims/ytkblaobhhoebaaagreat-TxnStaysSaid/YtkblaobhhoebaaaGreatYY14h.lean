/-
  What a time sees stays.
-/
import Derived.Test.YtkblaobhhoebaaaGreatYY14g
set_option linter.unusedVariables false
set_option linter.unusedSimpArgs false
namespace Go.Proofs.YtkblaobhhoebaaaGreat.Abs.ss
open Go.Proofs.YtkblaobhhoebaaaGreat.Abs.bf
theorem read_s {c:Be} (h:SC c) (id:Int) (r:Bg) :
    ((∀ x ∈ c.Txs,x.ID=id→x.State≠1)∧C5 c id r=some (cN,7)) ∨
    ∃ a ∈ c.Txs,a.ID=id∧a.State=1 ∧
      ((∃ e,((e=1∧srV ⟨a.ID,r⟩≠true)∨(e=8∧128≤c.Reads.L.length))∧C5 c id r=some (cN,e)) ∨
       ((∃ x ∈ c.Txs,Oy a r x=true∧x.Out=true)∧C5 c id r=some (cN,10)) ∨
       ∃ rs,Good rs∧(∀ x ∈ c.Reads.L,x ∈ rs)∧(⟨a.ID,r⟩:Az) ∈ rs∧(∀ x ∈ rs,x ∈ c.Reads.L∨x=⟨a.ID,r⟩)∧rs.length≤c.Reads.L.length+1∧(∀ x ∈ c.Txs,Oy a r x=true→x.Out=false) ∧
         C5 c id r=some (⟨c.Txs.map (Sn c.Txs a r),⟨rs⟩⟩,0)):=by
  unfold C5
  rw [sane_c h,zA,if_neg (nn (by rfl))]
  rcases Y3 h id with ⟨h1,e⟩ | ⟨i,a,ha,e1,e2,e⟩
  · rw [e,zA]
    exact .inl ⟨h1,rfl⟩
  · right
    refine ⟨a,zI ha,e1,e2,?_⟩
    rw [e,zA,if_neg (by rw [decide_eq_true_eq];omega)]
    have hfin:∀ rs:List Az,((Cz c.Txs).bind fun v4=>(Lj (Dr r (i:Int) v4) fuel (0,v4)).bind fun x=>match x with | .inl r=>some r | .inr e17=>Gr ((⟨rs⟩:Bu),(0:Int)) e17)=some (cN,10)∧(∃ x ∈ c.Txs,Oy a r x=true∧x.Out=true)∨((Cz c.Txs).bind fun v4=>(Lj (Dr r (i:Int) v4) fuel (0,v4)).bind fun x=>match x with | .inl r=>some r | .inr e17=>Gr ((⟨rs⟩:Bu),(0:Int)) e17)=some (⟨c.Txs.map (Sn c.Txs a r),⟨rs⟩⟩,0)∧(∀ x ∈ c.Txs,Oy a r x=true→x.Out=false):=fun rs=>by
      rw [Ago _ (by have:=h.len;omega),zA]
      obtain ⟨v,hv,hr⟩:=Ahy h r ha e2
      rw [hv]
      cases v with
      | inl q=>exact .inl ⟨by rw [← hr.1];rfl,hr.2⟩
      | inr l=>exact .inr ⟨by rw [← hr.1];rfl,hr.2⟩
    have hg:=h.gr
    subst e1
    rcases Au8 (l:=c.Reads.L) (by have:=hg.len;omega) a.ID r with ⟨_,hs,⟨hin,e⟩ | ⟨hin,⟨h128,e⟩ | ⟨h128,e,hg'⟩⟩⟩ | ⟨hbad,e⟩
    · rw [e,zA,if_neg (by show ¬ (!decide ((0:Int)=0))=true;decide)]
      rcases hfin c.Reads.L with ⟨hh,hx⟩ | ⟨hh,hx⟩
      · exact .inr (.inl ⟨hx,hh⟩)
      · exact .inr (.inr ⟨c.Reads.L,hg,fun x hx=>hx,hin,fun x hx=>.inl hx,by omega,hx,hh⟩)
    · rw [e,zA,if_pos (by decide)]
      exact .inl ⟨8,.inr ⟨rfl,h128⟩,rfl⟩
    · rw [e,zA,if_neg (by show ¬ (!decide ((0:Int)=0))=true;decide)]
      rcases hfin (c.Reads.L++[⟨a.ID,r⟩]) with ⟨hh,hx⟩ | ⟨hh,hx⟩
      · exact .inr (.inl ⟨hx,hh⟩)
      · refine .inr (.inr ⟨_,hg',fun x hx=>wD _ hx,wF _ (jS _),fun x hx=>?_,by rw [zG];exact zN _,hx,hh⟩)
        rcases yH.1 hx with hx | hx
        · exact .inl hx
        · exact .inr (zT.1 hx)
    · rw [e,zA,if_pos (by decide)]
      exact .inl ⟨1,.inl ⟨rfl,fun hs=>hbad ⟨hg,hs⟩⟩,rfl⟩
end Go.Proofs.YtkblaobhhoebaaaGreat.Abs.ss
namespace Go.Proofs.YtkblaobhhoebaaaGreat.Abs.st
open Go.Proofs.YtkblaobhhoebaaaGreat.Abs.bf
open Go.Proofs.YtkblaobhhoebaaaGreat.Abs.ss
theorem Apr {K:Keys} {C:List Al} {T:Int} {B:Nat} (h:OkS K C T B) (hB:B≤900) (hK:K.length≤128) {o t:Int} {k:List UInt8} (hc:¬ ∃ c,At K C k c) :
    B5 ⟨(vacP o K C).map (·.1),(vacP o K C).map (·.2),T⟩ k t=some ([],false):=by
  rcases get_m (vac_ok h o) (by omega) (yO (vac_len o K C) hK) k t with ⟨c2,⟨i,h1,h2⟩,-⟩ | ⟨-,e1⟩
  · exfalso
    rw [zO] at h1 h2
    cases hq:(vacP o K C)[i]? with
    | none=>rw [hq] at h1;cases h1
    | some q =>
      rw [hq] at h1
      obtain ⟨d,z1,-,-⟩:=Acr (zI hq)
      rw [show q.1=k from zD h1] at z1
      obtain ⟨j,hj⟩:=xG.1 z1
      rw [jM] at hj
      exact hc ⟨d,j,hj.1,hj.2⟩
  · exact e1
theorem get_early {K:Keys} {C:List Al} {T:Int} {B:Nat} (h:OkS K C T B) (hB:B≤800) (hK:K.length≤128) {ts:Int} {l:List A6} {K':Keys} {C':List Al} (hl:Laid K C ts l K' C') (h':OkS K' C' ts (B+1)) (hK':K'.length≤128) {q s:Int} (hqs:q≤s) (hs:s<ts) (k:List UInt8) :
    B5 ⟨(vacP q K' C').map (·.1),(vacP q K' C').map (·.2),ts⟩ k s=B5 ⟨K,C,T⟩ k s:=by
  have hok:∀ {c:Al},At K' C' k c→OkC c.L:=fun ⟨i,_,hi⟩=>(h'.cs _ (zI hi)).2.1
  rcases get_m h (by omega) hK k s with ⟨c,hc,e1⟩ | ⟨hno,e1⟩
  · rw [e1]
    by_cases hw:∃ w ∈ l,w.Key=k
    · obtain ⟨w,hw,rfl⟩:=hw
      obtain ⟨c',hc'⟩:=hl.is w hw
      rw [Aha h' (by omega) hK' hqs hc']
      rcases hl.new w hw c' hc' with ⟨c0,h0,e2⟩ | ⟨hno,-⟩
      · obtain rfl:=At.uniq h.pw h0 hc
        have:=hok hc'
        rw [e2] at this ⊢
        rw [Abl this hs]
      · exact absurd ⟨c,hc⟩ hno
    · rw [Aha h' (by omega) hK' hqs ((hl.old k c fun w hw' e=>hw ⟨w,hw',e⟩).2 hc)]
  · rw [e1]
    by_cases hw:∃ w ∈ l,w.Key=k
    · obtain ⟨w,hw,rfl⟩:=hw
      obtain ⟨c',hc'⟩:=hl.is w hw
      rw [Aha h' (by omega) hK' hqs hc']
      rcases hl.new w hw c' hc' with ⟨c0,h0,-⟩ | ⟨-,e2⟩
      · exact absurd ⟨c0,h0⟩ hno
      · have:=hok hc'
        rw [e2] at this ⊢
        rw [show [ver ts w]=[]++[ver ts w] from rfl] at this ⊢
        rw [Abl this hs];rfl
    · refine Apr h' (by omega) hK' fun ⟨c',hc'⟩=>hno ⟨c',(hl.old k c' fun w hw' e=>hw ⟨w,hw',e⟩).1 hc'⟩
end Go.Proofs.YtkblaobhhoebaaaGreat.Abs.st
