import Derived.Test.YtkblaobhhoebaaaGreatLSc
import Derived.Test.YtkblaobhhoebaaaGreatLY14e
set_option linter.unusedVariables false
set_option linter.unusedSimpArgs false
namespace Go.Proofs.YtkblaobhhoebaaaGreat.Abs.st
open Go.Proofs.YtkblaobhhoebaaaGreat.Abs.bf
open Go.Proofs.YtkblaobhhoebaaaGreat.Abs.ss
theorem Agj {c:Ac} (h:c.L.length<=900) (hk:OkC c.L) {o t:Int} (hot:o<=t):∃ r,Ep c t=some r/\Ep ⟨c.L.drop (gone c.L o)⟩ t=some r:=by
 have hm:=Asv hk hot
 have hle:=Acs c.L t
 have hgl:=Atc c.L o
 have hlc:c.L.length<=1000:=by omega
 have hld:(c.L.drop (gone c.L o)).length<=1000:=by simp;omega
 have hpd:pc (c.L.drop (gone c.L o)) t=pc c.L t-gone c.L o:=Aud hk t _ omg
 have self:∃ v b,Eo c t=some (v,b):=by
  rcases kS (pc c.L t) with h0|h0
  ·exact⟨_,_,at0 hlc h0⟩
  ·exact⟨_,_,at1 hlc h0 (zC omg)⟩
 rcases Alp c.L o with⟨_,h2⟩|⟨v,h1,h2,h3⟩
 ·obtain⟨v,b,hv⟩:=self
  rw[h2]
  exact⟨_,Rc hv,Rc hv⟩
 ·have hg:=zC (show pc c.L t-1<c.L.length by omega)
  have at_c:=at1 (c:=c) hlc (t:=t) omg hg
  by_cases hz:pc c.L t=gone c.L o
  ·have hd:v.Del=true:=by
    cases hd:v.Del with
    | true=>rfl
    | false=>rw[hd] at h3;simp at h3;omega
   have e1:pc c.L t=pc c.L o:=by omega
   have hgv:c.L[pc c.L t-1]'omg=v:=by
    have:c.L[pc c.L t-1]? = some v:=by rw[e1];exact h2
    rw[hg] at this;exact zD this
   have at_d:=at0 (c:=⟨c.L.drop (gone c.L o)⟩) hld (t:=t) (by show pc (c.L.drop (gone c.L o)) t=0;omega)
   refine⟨_,Rc at_c,?_⟩
   rw[Rc at_d,hgv,hd]
   rfl
  ·have hlt:gone c.L o<pc c.L t:=by omega
   have at_d:=at1 (c:=⟨c.L.drop (gone c.L o)⟩) hld (t:=t) (v:=c.L[pc c.L t-1]'omg) (by show 0<pc (c.L.drop (gone c.L o)) t;omega) (by
    show(c.L.drop (gone c.L o))[pc (c.L.drop (gone c.L o)) t-1]? = _
    rw[hpd,yH,<- hg]
    congr 1
    omega)
   exact⟨_,Rc at_c,Rc at_d⟩
theorem Ajs {l:List Ak} (h:l.length<=900) (hk:OkC l) {o t:Int} (hot:o<=t):Zl (l.drop (gone l o)) t=Zl l t:=by
 obtain⟨r,h1,h2⟩:=Agj (c:=⟨l⟩) h hk hot
 rw[Acd (c:=⟨l⟩) (by show l.length<=_;omega)] at h1
 rw[Acd (c:=⟨l.drop (gone l o)⟩) (by show(l.drop (gone l o)).length<=_;rw[yB];omega)] at h2
 exact zD (h2.trans h1.symm)
theorem vac_ents9 {K:Keys} {C:List Ac} {T:Int} {B:Nat} (h:OkS K C T B) (hB:B<=900) (r:Ar) {o t:Int} (hot:o<=t):ents r t ((vacP o K C).map (·.1)) ((vacP o K C).map (·.2))=ents r t K C:=by
 unfold ents
 rw[Ahn]
 unfold vacP
 rw[List.flatMap_assoc]
 refine Abl λp hp=>?_
 obtain⟨h1,h2,h3,h4⟩:=h.cs p.2 (List.of_mem_zip hp).2
 have hv:=Ajs omg h2 hot
 unfold Aiu
 split
 ·rw[List.flatMap_singleton]
  unfold ent
  dsimp only
  rw[hv]
 ·next hl =>
  have e0:p.2.L.drop (gone p.2.L o)=[]:=z7 omg
  rw[e0] at hv
  have e1:Zl [] t=([],false):=rfl
  unfold ent
  rw[<- hv,e1,jF]
  rfl
theorem Rl {K:Keys} {C:List Ac} {r:Ar} {t:Int} {x:A5}:x∈ents r t K C↔∃ c,At K C x.Key c/\hasV r x.Key=true/\Zl c.L t=(x.Val,true):=by
 unfold ents
 rw[jX]
 constructor
 ·rintro⟨p,hp,hx⟩
  unfold ent at hx
  split at hx
  ·rename_i hc
   rw[zS] at hc
   rw[zP] at hx
   subst hx
   obtain⟨i,hi⟩:=xJ.1 hp
   rw[List.getElem?_zip_eq_some] at hi
   exact⟨p.2,⟨i,hi.1,hi.2⟩,hc.1,Prod.ext rfl hc.2⟩
  ·simp at hx
 ·rintro⟨c,⟨i,h1,h2⟩,h3,h4⟩
  refine⟨(x.Key,c),zG (Af8 h1 h2),?_⟩
  unfold ent
  dsimp only
  rw[h3,h4]
  exact zP.2 rfl
theorem Aim (r:Ar) (t:Int):∀ l:List KC,((l.flatMap (ent r t)).map kvk).Sublist (l.map (·.1))
 | []=>List.Sublist.refl _
 | p::l=>by
  rw[yW,xC,xO]
  have:=Aim r t l
  unfold ent
  split
  ·exact List.Sublist.cons_cons _ this
  ·exact List.Sublist.cons _ this
theorem ents_rise {K:Keys} {C:List Ac} {T:Int} {B:Nat} (h:OkS K C T B) (r:Ar) (t:Int):Li kvk (ents r t K C):=by
 have h1:=Aim r t (K.zip C)
 have h2:((K.zip C).map (·.1))=K:=List.map_fst_zip (by rw[h.cl];exact zO _)
 rw[h2] at h1
 exact wF.1 (List.Pairwise.sublist h1 h.pw)
theorem rpR_of {K:Keys} {C:List Ac} {T:Int} {B:Nat} (h:OkS K C T B) {t:Int} {M:Map} (hM:Rp (ents aR t K C) M) (r:Ar):RpR r (ents r t K C) M:=by
 refine⟨ents_rise h r t,λx=>?_⟩
 have h1:=hM.mem x
 rw[Rl] at h1 ⊢
 constructor
 ·rintro⟨c,h2,h3,h4⟩
  exact⟨h3,(h1.1 ⟨c,h2,Wx _,h4⟩).2⟩
 ·rintro⟨h2,h3⟩
  obtain⟨c,h4,_,h5⟩:=h1.2 ⟨Wx _,h3⟩
  exact⟨c,h4,h2,h5⟩
theorem Auk {l:List Ak} {t:Int} (h:(Zl l t).2=false):Zl l t=([],false):=by
 have:Zl l t=([],false)\/∃ v,Zl l t=(v,true):=by
  unfold Zl
  cases pc l t with
  | zero=>exact .inl rfl
  | succ n =>
   dsimp only
   cases l[n]? with
   | none=>exact .inl rfl
   | some v =>
    dsimp only
    cases v.Del with
    | true=>exact .inl rfl
    | false=>exact .inr ⟨_,rfl⟩
 rcases this with e|⟨v,e⟩
 ·exact e
 ·rw[e] at h;cases h
theorem get_rp {K:Keys} {C:List Ac} {T:Int} {B:Nat} (h:OkS K C T B) (hB:B<=1000) (hK:K.length<=128) {t:Int} {M:Map} (hM:Rp (ents aR t K C) M) (k:List UInt8):Fo ⟨K,C,T⟩ k t=some ((M k).getD [],(M k).isSome):=by
 rcases get_m h hB hK k t with⟨c,hc,e⟩|⟨hno,e⟩
 ·rw[e]
  cases hb:(Zl c.L t).2 with
  | true =>
   have:=((hM.mem ⟨k,(Zl c.L t).1⟩).1 (Rl.2 ⟨c,hc,Wx _,Prod.ext rfl hb⟩)).2
   rw[this]
   exact congrArg some (Prod.ext rfl hb)
  | false =>
   have hn:M k=none:=by
    cases hMk:M k with
    | none=>rfl
    | some v =>
     obtain⟨c',h1,_,h2⟩:=Rl.1 ((hM.mem ⟨k,v⟩).2 ⟨Wx _,hMk⟩)
     have:=At.uniq h.pw h1 hc
     subst this
     rw[h2] at hb;cases hb
   rw[hn,Auk hb];rfl
 ·rw[e]
  have hn:M k=none:=by
   cases hMk:M k with
   | none=>rfl
   | some v =>
    obtain⟨c',h1,_,_⟩:=Rl.1 ((hM.mem ⟨k,v⟩).2 ⟨Wx _,hMk⟩)
    exact absurd ⟨c',h1⟩ hno
  rw[hn];rfl
theorem laid_late {K K':Keys} {C C':List Ac} {ts:Int} {B':Nat} {l:List Ae} (h':OkS K' C' ts B') (hl:Laid K C ts l K' C') (hr:Li bf.wk l) {s:Int} (hs:ts<=s) {M:Map} (hM:Rp (ents aR s K C) M):Rp (ents aR s K' C') (apB l M):=by
 refine⟨ents_rise h' aR s,λx=>?_⟩
 rw[Rl]
 have hx:=hM.mem x
 rw[Rl] at hx
 by_cases hw:x.Key∈l.map bf.wk
 ·obtain⟨w,hwl,hwk⟩:=z8.1 hw
  have hwk:w.Key=x.Key:=hwk
  rw[<- hwk,Adq hr hwl]
  have key:∀ c,At K' C' w.Key c->Zl c.L s=if w.Del then([],false) else(w.Val,true):=λc hc=>by
   have hok:OkC c.L:=by obtain⟨i,_,hi⟩:=hc;exact(h'.cs c (zG hi)).2.1
   rcases hl.new w hwl c hc with⟨c0,_,e⟩|⟨_,e⟩
   ·rw[e] at hok ⊢
    exact Aeb hok hs
   ·rw[e] at hok ⊢
    exact Aeb (l:=[]) hok hs
  constructor
  ·rintro⟨c,h1,_,h3⟩
   rw[key c h1] at h3
   refine⟨Wx _,?_⟩
   cases hd:w.Del with
   | true=>rw[hd] at h3;simp at h3
   | false=>rw[hd] at h3;simp only[wP,if_false,Prod.mk.injEq,and_true] at h3 ⊢;exact congrArg some h3
  ·rintro⟨_,h2⟩
   obtain⟨c,hc⟩:=hl.is w hwl
   refine⟨c,hc,Wx _,?_⟩
   rw[key c hc]
   cases hd:w.Del with
   | true=>rw[hd] at h2;cases h2
   | false=>rw[hd] at h2;simp only[wP,if_false,zJ] at h2 ⊢;rw[h2]
 ·rw[V5 hw,<- hx]
  have:=λc=>hl.old x.Key c λw hwl e=>hw (z8.2 ⟨w,hwl,e⟩)
  simp only[this]
theorem laid_early {K K':Keys} {C C':List Ac} {ts:Int} {B':Nat} {l:List Ae} (h':OkS K' C' ts B') (hl:Laid K C ts l K' C') {s:Int} (hs:s<ts) (hpw:PW K) {M:Map} (hM:Rp (ents aR s K C) M):Rp (ents aR s K' C') M:=by
 refine⟨ents_rise h' aR s,λx=>?_⟩
 rw[<- hM.mem x,Rl,Rl]
 by_cases hw:x.Key∈l.map bf.wk
 ·obtain⟨w,hwl,hwk⟩:=z8.1 hw
  have hwk:w.Key=x.Key:=hwk
  rw[<- hwk]
  constructor
  ·rintro⟨c,hc,h2,h3⟩
   have hok:OkC c.L:=by obtain⟨i,_,hi⟩:=hc;exact(h'.cs c (zG hi)).2.1
   rcases hl.new w hwl c hc with⟨c0,h4,e⟩|⟨_,e⟩
   ·rw[e] at hok h3
    rw[Xv hok hs] at h3
    exact⟨c0,h4,h2,h3⟩
   ·rw[e] at hok h3
    have h5:=Xv (l:=[]) hok hs
    rw[wZ] at h5
    rw[h5] at h3
    exact Bool.noConfusion (show false=true from congrArg Prod.snd h3)
  ·rintro⟨c0,hc,h2,h3⟩
   obtain⟨c,hc'⟩:=hl.is w hwl
   have hok:OkC c.L:=by obtain⟨i,_,hi⟩:=hc';exact(h'.cs c (zG hi)).2.1
   refine⟨c,hc',h2,?_⟩
   rcases hl.new w hwl c hc' with⟨c1,h4,e⟩|⟨hno,e⟩
   ·rw[e] at hok ⊢
    rw[Xv hok hs]
    have:c1=c0:=At.uniq hpw h4 hc
    subst this
    exact h3
   ·exact absurd ⟨c0,hc⟩ hno
 ·have:=λc=>hl.old x.Key c λw hwl e=>hw (z8.2 ⟨w,hwl,e⟩)
  simp only[this]
end Go.Proofs.YtkblaobhhoebaaaGreat.Abs.st
