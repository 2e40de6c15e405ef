/-
 What an engine's calls make of a sane engine.
-/
import Derived.Test.YtkblaobhhoebaaaGreatWW14b
set_option linter.unusedVariables false
set_option linter.unusedSimpArgs false
namespace Go.Proofs.YtkblaobhhoebaaaGreat.Abs
theorem Amn (e:Ah) (tok:Int) (hl:e.Open.length≤1000):∃ r,Kg e tok=some r∧((r.2=true∧r.1 ∈ e.Open∧r.1.Token=tok)∨(r.2=false∧∀ o ∈ e.Open,o.Token≠tok)):=by
 obtain ⟨v,hv,hr⟩:=Dh (f:=Je e tok) (P:=fun s=>∃ j:Nat,j≤e.Open.length∧s=(j:Int)∧∀ o ∈ e.Open.take j,o.Token≠tok) (μ:=fun s=>e.Open.length-s.toNat)
  (R:=fun v=>(v=.inr ()∧∀ o ∈ e.Open,o.Token≠tok)∨∃ o ∈ e.Open,o.Token=tok∧v=.inl (o,true)) (by
   rintro _ ⟨j,hj,rfl,hk⟩
   unfold Je
   rcases zO j e.Open.length with hlt | hge
   ·rw [if_pos (decide_eq_true (by omega)),Bn,zB hlt,zA]
    by_cases h:e.Open[j].Token=tok
    ·rw [if_pos (decide_eq_true h)]
     exact .inr (.inr ⟨_,rfl,.inr ⟨_,xN hlt,h,rfl⟩⟩)
    ·rw [if_neg (by rw [decide_eq_true_eq];exact h),Cb (by omega) (by omega)]
     refine .inl ⟨_,rfl,⟨j+1,hlt,rfl,fun o ho=>?_⟩,by simp only [zR];omega⟩
     rw [zM hlt] at ho
     rcases yL.1 ho with ho | ho
     ·exact hk o ho
     ·rw [zW.1 ho];exact h
   ·rw [if_neg (by rw [decide_eq_true_eq];omega)]
    rw [y9 hge] at hk
    exact .inr (.inl ⟨_,rfl,.inl ⟨rfl,hk⟩⟩)) fuel 0 ⟨0,zY _,rfl,by simp⟩ (Ce (by show e.Open.length-0≤_;omega))
 unfold Kg
 rw [hv]
 rcases hr with ⟨rfl,hk⟩ | ⟨o,ho,ht,rfl⟩
 ·exact ⟨_,rfl,.inr ⟨rfl,hk⟩⟩
 ·exact ⟨_,rfl,.inl ⟨rfl,ho,ht⟩⟩
theorem Aml {e:Ah} {n:Nat} (h:EgI e n) (hn:n≤400) (k:OpE e) (tok att:Int) (ro:Bool) :
  ∃ e' id er,Jm e tok att ro=some (e',id,er)∧EgI e' (n+1)∧OpE e'∧e'.Store=e.Store ∧
   (er=0→∃ o ∈ e'.Open,o.ID=id∧o.Token=tok∧o.Snap=e.Store.Ts∧o.RO=ro∧o.Buf.L=[]):=by
 have hop:=h.op
 unfold Jm
 rw [Abp h (by omega) k,zA,if_neg (by decide)]
 obtain ⟨r,hr,hc⟩:=Amn e tok (by omega)
 rw [hr,zA]
 have key:∀ f:Ah,EgI f n→OpE f→f.Store=e.Store→(∀ o ∈ f.Open,o.Token=tok→att≤o.Attempt)→∃ e' id er,Fh tok att ro f=some (e',id,er)∧EgI e' (n+1)∧OpE e'∧e'.Store=e.Store ∧
   (er=0→∃ o ∈ e'.Open,o.ID=id∧o.Token=tok∧o.Snap=e.Store.Ts∧o.RO=ro∧o.Buf.L=[]):=fun f hf kf hs hno=>by
  obtain ⟨e',id,er,g1,g2,g3,g4,-,g6⟩:=Aqu hf hn kf tok att ro hno
  refine ⟨e',id,er,g1,g2,g3,g4.trans hs,fun he=>?_⟩
  obtain ⟨q1,q2⟩:=g6 he
  exact ⟨Asz f tok att ro,by rw [q2];exact wP _ (zW.2 rfl),q1.symm,rfl,by show f.Store.Ts=_;rw [hs],rfl,rfl⟩
 rcases hc with ⟨h1,h2,h3⟩ | ⟨h1,h2⟩
 ·rw [if_pos h1]
  by_cases ha:r.1.Attempt<att
  ·rw [if_pos (decide_eq_true ha)]
   obtain ⟨f,g1,g2,g3,g4,g5,g6,-⟩:=W5 h k h2
   rw [g1,zA]
   refine key f g2 g3 g4 fun o ho ht=>?_
   rw [g6,yZ] at ho
   have hne:o.ID≠r.1.ID:=by simpa using ho.2
   exact absurd (ht.trans h3.symm) (k.tok_ne ho.1 h2 hne)
  ·rw [if_neg (by rw [decide_eq_true_eq];exact ha)]
   refine key e h k rfl fun o ho ht=>?_
   by_cases hne:o.ID=r.1.ID
   ·rw [k.id_eq ho h2 hne];omega
   ·exact absurd (ht.trans h3.symm) (k.tok_ne ho h2 hne)
 ·rw [if_neg (by rw [h1];decide)]
  exact key e h k rfl fun o ho ht=>absurd ht (h2 o ho)
theorem Yk {α β:Type} {f:α→β} {l:List α} {i:Nat} {a b:α} (h:l[i]? = some b) (hf:f a=f b):(l.set i a).map f=l.map f:=by
 apply wB
 intro j
 rw [zQ,zQ,w9]
 by_cases e:i=j
 ·subst e
  have hlt:=(zC.1 h).1
  rw [if_pos rfl,if_pos hlt,h]
  show some (f a)=some (f b)
  rw [hf]
 ·rw [if_neg e]
theorem Awt {e:Ah} {n:Nat} (h:EgI e n) (hn:n≤400) (k:OpE e) (id:Int) (w:Av) :
  ∃ e' er,Mv e id w=some (e',er)∧EgI e' (n+1)∧OpE e'∧e'.Store=e.Store ∧
   (er=0→∃ o ∈ e.Open,o.ID=id∧bf.swV w=true∧bf.Good (bf.setR o.Buf.L w)∧∃ o' ∈ e'.Open,o'.ID=id∧o'.Buf.L=bf.setR o.Buf.L w∧o'.RO=o.RO∧e'.Open.length=e.Open.length):=by
 have hop:=h.op
 have hts:=h.ts
 have hnx:=h.nx
 unfold Mv
 rcases Aem h (by omega) k id with ⟨o,ho,hid,hf⟩ | ⟨-,z,hf⟩
 ·rw [hf,zA,if_neg (by show ¬ (!decide ((0:Int)=0))=true;decide)]
  dsimp only
  split
  ·exact ⟨_,_,rfl,h.up (xE n),k,rfl,fun h=>by cases h⟩
  rename_i hro
  have hro':o.RO=false:=by simpa using hro
  rcases bf.set_any (h.bf o ho) w with ⟨s1,s2,s3⟩ | ⟨er2,hne,s1⟩
  ·rw [show Ec o.Buf w=some (⟨bf.setR o.Buf.L w⟩,0) from s1,zA,if_neg (by show ¬ (!decide ((0:Int)=0))=true;decide)]
   unfold Nw
   dsimp only
   rw [Us _ (by omega),zA]
   rcases Adg e o.ID (by omega) with ⟨hp,-⟩ | ⟨i,p,hp1,hp2,hp⟩
   ·exact absurd rfl (hp o ho)
   ·obtain rfl:=k.id_eq (zI hp1) ho hp2
    rw [show Ee (Ah.mk (Bu.mk e.Store.Keys e.Store.Chains e.Store.Ts) (Bc.mk e.Cert.Txs (Bv.mk e.Cert.Reads.L)) (Bi.mk e.Toks.L) e.Open e.Next) p.ID=some (i:Int) from hp,zA,Bn,hp1,zA]
    have hlt:=(zC.1 hp1).1
    have hmem:∀ {x},x ∈ e.Open.set i { p with Buf:=⟨bf.setR p.Buf.L w⟩ }→(x ∈ e.Open)∨x={ p with Buf:=⟨bf.setR p.Buf.L w⟩ }:=fun {x} hx=>jR hx
    have hin:({ p with Buf:=⟨bf.setR p.Buf.L w⟩ }:Be) ∈ e.Open.set i { p with Buf:=⟨bf.setR p.Buf.L w⟩ }:=xY.2 ⟨i,by rw [zS hlt]⟩
    have hall:∀ x ∈ e.Open,∃ y ∈ e.Open.set i { p with Buf:=⟨bf.setR p.Buf.L w⟩ },y.ID=x.ID:=fun x hx=>by
     obtain ⟨j,hj⟩:=xY.1 hx
     by_cases e1:i=j
     ·subst e1
      rw [hp1] at hj
      cases hj
      exact ⟨_,hin,rfl⟩
     ·exact ⟨x,xY.2 ⟨j,by rw [z6 e1];exact hj⟩,rfl⟩
    refine ⟨_,_,rfl,⟨h.st.mono (xE n),h.kl,by show e.Store.Ts≤((n+1:Nat):Int);omega,h.tk,h.cert,by show (e.Open.set _ _).length≤16;rw [xH];omega,fun x hx=>?_,h.nx.1,by show e.Next≤((n+1:Nat):Int);omega⟩,⟨fun x hx hs=>?_,fun x hx=>?_,fun x hx hr=>?_,?_,?_,fun x hx=>?_⟩,rfl,fun _=>⟨p,ho,hid,s3,s2,_,hin,hid,rfl,rfl,xH ..⟩⟩
    ·rcases hmem hx with hx | rfl
     ·exact h.bf x hx
     ·exact s2
    ·obtain ⟨q,hq,hqi⟩:=k.act x hx hs
     obtain ⟨y,hy,hyi⟩:=hall q hq
     exact ⟨y,hy,hyi.trans hqi⟩
    ·rcases hmem hx with hx | rfl
     ·exact k.ops x hx
     ·exact k.ops p ho
    ·rcases hmem hx with hx | rfl
     ·exact k.ro x hx hr
     ·exact absurd hr (by show ¬ p.RO=true;rw [hro'];decide)
    ·have:=k.ids
     rw [← wK (f:=Be.ID) (R:=fun a b=>a<b)] at this ⊢
     show List.Pairwise _ ((e.Open.set i _).map Be.ID)
     rw [Yk (f:=Be.ID) (a:={ p with Buf:=⟨bf.setR p.Buf.L w⟩ }) hp1 rfl];exact this
    ·have:=k.toks
     rw [← wK (f:=Be.Token) (R:=fun a b=>a≠b)] at this ⊢
     show List.Pairwise _ ((e.Open.set i _).map Be.Token)
     rw [Yk (f:=Be.Token) (a:={ p with Buf:=⟨bf.setR p.Buf.L w⟩ }) hp1 rfl];exact this
    ·rcases hmem hx with hx | rfl
     ·exact k.tks x hx
     ·exact k.tks p ho
  ·rw [show Ec o.Buf w=some (⟨[]⟩,er2) from s1,zA,if_pos (by rw [decide_eq_false hne];rfl)]
   unfold Qh Rw
   dsimp only
   rw [zA]
   split
   ·exact ⟨_,_,rfl,h.up (xE n),k,rfl,fun h=>absurd h hne⟩
   ·obtain ⟨f,g1,g2,g3,g4,-⟩:=W5 h k ho
    rw [g1]
    exact ⟨_,_,rfl,g2.up (xE n),g3,g4,fun h=>absurd h hne⟩
 ·rw [hf,zA,if_pos (by show (!decide ((7:Int)=0))=true;decide)]
  unfold Dk
  rw [if_neg (by show ¬ decide ((7:Int)=1)=true;decide),zA]
  exact ⟨_,_,rfl,h.up (xE n),k,rfl,fun h=>by cases h⟩
theorem Alb {e:Ah} {n:Nat} (h:EgI e n) (hn:n≤400) (k:OpE e) (id:Int) :
  ∃ e' er,M6 e id=some (e',er)∧EgI e' (n+1)∧OpE e'∧e'.Store=e.Store∧((∃ o ∈ e.Open,o.ID=id)→er=0):=by
 unfold M6
 rcases Aem h (by omega) k id with ⟨o,ho,hid,hf⟩ | ⟨hno,z,hf⟩
 ·rw [hf,zA,if_neg (by show ¬ (!decide ((0:Int)=0))=true;decide)]
  obtain ⟨f,g1,g2,g3,g4,-⟩:=W5 h k ho
  dsimp only
  rw [g1]
  exact ⟨_,_,rfl,g2.up (xE n),g3,g4,fun _=>rfl⟩
 ·rw [hf,zA,if_pos (by show (!decide ((7:Int)=0))=true;decide)]
  unfold Dk
  rw [if_neg (by show ¬ decide ((7:Int)=1)=true;decide),zA]
  exact ⟨_,_,rfl,h.up (xE n),k,rfl,fun ⟨o,ho,hi⟩=>absurd hi (hno o ho)⟩
end Go.Proofs.YtkblaobhhoebaaaGreat.Abs
