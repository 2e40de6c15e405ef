/-
 What an engine's calls make of a sane engine.
-/
import Derived.Test.YtkblaobhhoebaaaGreatSW14b
set_option linter.unusedVariables false
set_option linter.unusedSimpArgs false
namespace Go.Proofs.YtkblaobhhoebaaaGreat.Abs
theorem Aqq (e:Ai) (tok:Int) (hl:e.Open.length<=1000):∃ r,La e tok=some r/\((r.2=true/\r.1∈e.Open/\r.1.Token=tok)\/(r.2=false/\∀ o∈e.Open,o.Token≠tok)):=by
 obtain⟨v,hv,hr⟩:=D2 (f:=Jt e tok) (P:=λs=>∃ j:Nat,j<=e.Open.length/\s=(j:Int)/\∀ o∈e.Open.take j,o.Token≠tok) (μ:=λs=>e.Open.length-s.toNat)
  (R:=λv=>(v=.inr ()/\∀ o∈e.Open,o.Token≠tok)\/∃ o∈e.Open,o.Token=tok/\v=.inl (o,true)) (by
   rintro _ ⟨j,hj,rfl,hk⟩
   unfold Jt
   rcases zO j e.Open.length with hlt|hge
   ·rw[if_pos (decide_eq_true (by omega)),Bo,zB hlt,zA]
    by_cases h:e.Open[j].Token=tok
    ·rw[if_pos (decide_eq_true h)]
     exact .inr (.inr ⟨_,rfl,.inr ⟨_,yY hlt,h,rfl⟩⟩)
    ·rw[if_neg (by rw[decide_eq_true_eq];exact h),Cd (by omega) (by omega)]
     refine .inl ⟨_,rfl,⟨j+1,hlt,rfl,λo ho=>?_⟩,by simp only[zT];omega⟩
     rw[zM hlt] at ho
     rcases yH.1 ho with ho|ho
     ·exact hk o ho
     ·rw[zV.1 ho];exact h
   ·rw[if_neg (by rw[decide_eq_true_eq];omega)]
    rw[yX hge] at hk
    exact .inr (.inl ⟨_,rfl,.inl ⟨rfl,hk⟩⟩)) fuel 0 ⟨0,zX _,rfl,by simp⟩ (Co (by show e.Open.length-0<=_;omega))
 unfold La
 rw[hv]
 rcases hr with⟨rfl,hk⟩|⟨o,ho,ht,rfl⟩
 ·exact⟨_,rfl,.inr ⟨rfl,hk⟩⟩
 ·exact⟨_,rfl,.inl ⟨rfl,ho,ht⟩⟩
theorem Awl {e:Ai} {n:Nat} (h:EgI e n) (hn:n<=400) (k:OpE e) (tok att:Int) (ro:Bool) :
  ∃ e' id er,L5 e tok att ro=some (e',id,er)/\EgI e' (n+1)/\OpE e'/\e'.Store=e.Store /\
   (er=0->∃ o∈e'.Open,o.ID=id/\o.Token=tok/\o.Snap=e.Store.Ts/\o.RO=ro/\o.Buf.L=[]):=by
 have hop:=h.op
 unfold L5
 rw[Abk h (by omega) k,zA,if_neg (by decide)]
 obtain⟨r,hr,hc⟩:=Aqq e tok (by omega)
 rw[hr,zA]
 have key:∀ f:Ai,EgI f n->OpE f->f.Store=e.Store->(∀ o∈f.Open,o.Token=tok->att<=o.Attempt)->∃ e' id er,Fq tok att ro f=some (e',id,er)/\EgI e' (n+1)/\OpE e'/\e'.Store=e.Store /\
   (er=0->∃ o∈e'.Open,o.ID=id/\o.Token=tok/\o.Snap=e.Store.Ts/\o.RO=ro/\o.Buf.L=[]):=λf hf kf hs hno=>by
  obtain⟨e',id,er,g1,g2,g3,g4,-,g6⟩:=Atk hf hn kf tok att ro hno
  refine⟨e',id,er,g1,g2,g3,g4.trans hs,λhe=>?_⟩
  obtain⟨q1,q2⟩:=g6 he
  exact⟨Avq f tok att ro,by rw[q2];exact wN _ (zV.2 rfl),q1.symm,rfl,by show f.Store.Ts=_;rw[hs],rfl,rfl⟩
 rcases hc with⟨h1,h2,h3⟩|⟨h1,h2⟩
 ·rw[if_pos h1]
  by_cases ha:r.1.Attempt<att
  ·rw[if_pos (decide_eq_true ha)]
   obtain⟨f,g1,g2,g3,g4,g5,g6,-⟩:=Yz h k h2
   rw[g1,zA]
   refine key f g2 g3 g4 λo ho ht=>?_
   rw[g6,xD] at ho
   have hne:o.ID≠r.1.ID:=by simpa using ho.2
   exact absurd (ht.trans h3.symm) (k.tok_ne ho.1 h2 hne)
  ·rw[if_neg (by rw[decide_eq_true_eq];exact ha)]
   refine key e h k rfl λo ho ht=>?_
   by_cases hne:o.ID=r.1.ID
   ·rw[k.id_eq ho h2 hne];omega
   ·exact absurd (ht.trans h3.symm) (k.tok_ne ho h2 hne)
 ·rw[if_neg (by rw[h1];decide)]
  exact key e h k rfl λo ho ht=>absurd ht (h2 o ho)
theorem Aaj {α β:Type} {f:α->β} {l:List α} {i:Nat} {a b:α} (h:l[i]? = some b) (hf:f a=f b):(l.set i a).map f=l.map f:=by
 apply xY
 intro j
 rw[zP,zP,w7]
 by_cases e:i=j
 ·subst e
  have hlt:=(zC.1 h).1
  rw[if_pos rfl,if_pos hlt,h]
  show some (f a)=some (f b)
  rw[hf]
 ·rw[if_neg e]
theorem A2a {e:Ai} {n:Nat} (h:EgI e n) (hn:n<=400) (k:OpE e) (id:Int) (w:A7) :
  ∃ e' er,Pb e id w=some (e',er)/\EgI e' (n+1)/\OpE e'/\e'.Store=e.Store /\
   (er=0->∃ o∈e.Open,o.ID=id/\bf.swV w=true/\bf.Good (bf.setR o.Buf.L w)/\∃ o'∈e'.Open,o'.ID=id/\o'.Buf.L=bf.setR o.Buf.L w/\o'.RO=o.RO/\e'.Open.length=e.Open.length):=by
 have hop:=h.op
 have hts:=h.ts
 have hnx:=h.nx
 unfold Pb
 rcases Aha h (by omega) k id with⟨o,ho,hid,hf⟩|⟨-,z,hf⟩
 ·rw[hf,zA,if_neg (by show ¬ (!decide ((0:Int)=0))=true;decide)]
  dsimp only
  split
  ·exact⟨_,_,rfl,h.up (xF n),k,rfl,λh=>by cases h⟩
  rename_i hro
  have hro':o.RO=false:=by simpa using hro
  rcases bf.set_any (h.bf o ho) w with⟨s1,s2,s3⟩|⟨er2,hne,s1⟩
  ·rw[show Em o.Buf w=some (⟨bf.setR o.Buf.L w⟩,0) from s1,zA,if_neg (by show ¬ (!decide ((0:Int)=0))=true;decide)]
   unfold O6
   dsimp only
   rw[Xc _ (by omega),zA]
   rcases Ae0 e o.ID (by omega) with⟨hp,-⟩|⟨i,p,hp1,hp2,hp⟩
   ·exact absurd rfl (hp o ho)
   ·obtain rfl:=k.id_eq (zJ hp1) ho hp2
    rw[show Es (Ai.mk (B2.mk e.Store.Keys e.Store.Chains e.Store.Ts) (Be.mk e.Cert.Txs (B3.mk e.Cert.Reads.L)) (Bn.mk e.Toks.L) e.Open e.Next) p.ID=some (i:Int) from hp,zA,Bo,hp1,zA]
    have hlt:=(zC.1 hp1).1
    have hmem:∀ {x},x∈e.Open.set i { p with Buf:=⟨bf.setR p.Buf.L w⟩ }->(x∈e.Open)\/x={ p with Buf:=⟨bf.setR p.Buf.L w⟩ }:=λ{x} hx=>jP hx
    have hin:({ p with Buf:=⟨bf.setR p.Buf.L w⟩ }:Bg)∈e.Open.set i { p with Buf:=⟨bf.setR p.Buf.L w⟩ }:=wE.2 ⟨i,by rw[zQ hlt]⟩
    have hall:∀ x∈e.Open,∃ y∈e.Open.set i { p with Buf:=⟨bf.setR p.Buf.L w⟩ },y.ID=x.ID:=λx hx=>by
     obtain⟨j,hj⟩:=wE.1 hx
     by_cases e1:i=j
     ·subst e1
      rw[hp1] at hj
      cases hj
      exact⟨_,hin,rfl⟩
     ·exact⟨x,wE.2 ⟨j,by rw[zZ e1];exact hj⟩,rfl⟩
    refine⟨_,_,rfl,⟨h.st.mono (xF n),h.kl,by show e.Store.Ts<=((n+1:Nat):Int);omega,h.tk,h.cert,by show(e.Open.set _ _).length<=16;rw[xI];omega,λx hx=>?_,h.nx.1,by show e.Next<=((n+1:Nat):Int);omega⟩,⟨λx hx hs=>?_,λx hx=>?_,λx hx hr=>?_,?_,?_,λx hx=>?_⟩,rfl,λ_=>⟨p,ho,hid,s3,s2,_,hin,hid,rfl,rfl,xI ..⟩⟩
    ·rcases hmem hx with hx|rfl
     ·exact h.bf x hx
     ·exact s2
    ·obtain⟨q,hq,hqi⟩:=k.act x hx hs
     obtain⟨y,hy,hyi⟩:=hall q hq
     exact⟨y,hy,hyi.trans hqi⟩
    ·rcases hmem hx with hx|rfl
     ·exact k.ops x hx
     ·exact k.ops p ho
    ·rcases hmem hx with hx|rfl
     ·exact k.ro x hx hr
     ·exact absurd hr (by show ¬ p.RO=true;rw[hro'];decide)
    ·have:=k.ids
     rw[<- wF (f:=Bg.ID) (R:=λa b=>a<b)] at this ⊢
     show List.Pairwise _ ((e.Open.set i _).map Bg.ID)
     rw[Aaj (f:=Bg.ID) (a:={ p with Buf:=⟨bf.setR p.Buf.L w⟩ }) hp1 rfl];exact this
    ·have:=k.toks
     rw[<- wF (f:=Bg.Token) (R:=λa b=>a≠b)] at this ⊢
     show List.Pairwise _ ((e.Open.set i _).map Bg.Token)
     rw[Aaj (f:=Bg.Token) (a:={ p with Buf:=⟨bf.setR p.Buf.L w⟩ }) hp1 rfl];exact this
    ·rcases hmem hx with hx|rfl
     ·exact k.tks x hx
     ·exact k.tks p ho
  ·rw[show Em o.Buf w=some (⟨[]⟩,er2) from s1,zA,if_pos (by rw[decide_eq_false hne];rfl)]
   unfold Sk T2
   dsimp only
   rw[zA]
   split
   ·exact⟨_,_,rfl,h.up (xF n),k,rfl,λh=>absurd h hne⟩
   ·obtain⟨f,g1,g2,g3,g4,-⟩:=Yz h k ho
    rw[g1]
    exact⟨_,_,rfl,g2.up (xF n),g3,g4,λh=>absurd h hne⟩
 ·rw[hf,zA,if_pos (by show(!decide ((7:Int)=0))=true;decide)]
  unfold Dx
  rw[if_neg (by show ¬ decide ((7:Int)=1)=true;decide),zA]
  exact⟨_,_,rfl,h.up (xF n),k,rfl,λh=>by cases h⟩
theorem Au2 {e:Ai} {n:Nat} (h:EgI e n) (hn:n<=400) (k:OpE e) (id:Int) :
  ∃ e' er,Qg e id=some (e',er)/\EgI e' (n+1)/\OpE e'/\e'.Store=e.Store/\((∃ o∈e.Open,o.ID=id)->er=0):=by
 unfold Qg
 rcases Aha h (by omega) k id with⟨o,ho,hid,hf⟩|⟨hno,z,hf⟩
 ·rw[hf,zA,if_neg (by show ¬ (!decide ((0:Int)=0))=true;decide)]
  obtain⟨f,g1,g2,g3,g4,-⟩:=Yz h k ho
  dsimp only
  rw[g1]
  exact⟨_,_,rfl,g2.up (xF n),g3,g4,λ_=>rfl⟩
 ·rw[hf,zA,if_pos (by show(!decide ((7:Int)=0))=true;decide)]
  unfold Dx
  rw[if_neg (by show ¬ decide ((7:Int)=1)=true;decide),zA]
  exact⟨_,_,rfl,h.up (xF n),k,rfl,λ⟨o,ho,hi⟩=>absurd hi (hno o ho)⟩
end Go.Proofs.YtkblaobhhoebaaaGreat.Abs
