/-
 What an engine's calls make of a sane engine.
-/
import Derived.Test.YtkblaobhhoebaaaGreatYY14b
set_option linter.unusedVariables false
set_option linter.unusedSimpArgs false
namespace Go.Proofs.YtkblaobhhoebaaaGreat.Abs
theorem Ana (e:Ah) (tok:Int) (hl:e.Open.length≤1000):∃ r,Kg e tok=some r∧((r.2=true∧r.1 ∈ e.Open∧r.1.Token=tok)∨(r.2=false∧∀ o ∈ e.Open,o.Token≠tok)):=by
 obtain ⟨v,hv,hr⟩:=Dt (f:=Ii e tok) (P:=fun s=>∃ j:Nat,j≤e.Open.length∧s=(j:Int)∧∀ o ∈ e.Open.take j,o.Token≠tok) (μ:=fun s=>e.Open.length-s.toNat)
  (R:=fun v=>(v=.inr ()∧∀ o ∈ e.Open,o.Token≠tok)∨∃ o ∈ e.Open,o.Token=tok∧v=.inl (o,true)) (by
   rintro _ ⟨j,hj,rfl,hk⟩
   unfold Ii
   rcases zP j e.Open.length with hlt | hge
   ·rw [if_pos (decide_eq_true (by omega)),Bp,zB hlt,zA]
    by_cases h:e.Open[j].Token=tok
    ·rw [if_pos (decide_eq_true h)]
     exact .inr (.inr ⟨_,rfl,.inr ⟨_,xI hlt,h,rfl⟩⟩)
    ·rw [if_neg (by rw [decide_eq_true_eq];exact h),Cd (by omega) (by omega)]
     refine .inl ⟨_,rfl,⟨j+1,hlt,rfl,fun o ho=>?_⟩,by simp only [zW];omega⟩
     rw [zM hlt] at ho
     rcases yH.1 ho with ho | ho
     ·exact hk o ho
     ·rw [zT.1 ho];exact h
   ·rw [if_neg (by rw [decide_eq_true_eq];omega)]
    rw [yZ hge] at hk
    exact .inr (.inl ⟨_,rfl,.inl ⟨rfl,hk⟩⟩)) fuel 0 ⟨0,zX _,rfl,by simp⟩ (Ci (by show e.Open.length-0≤_;omega))
 unfold Kg
 rw [hv]
 rcases hr with ⟨rfl,hk⟩ | ⟨o,ho,ht,rfl⟩
 ·exact ⟨_,rfl,.inr ⟨rfl,hk⟩⟩
 ·exact ⟨_,rfl,.inl ⟨rfl,ho,ht⟩⟩
theorem Ag9 {e:Ah} {n:Nat} (h:EgI e n) (hn:n≤400) (k:OpE e) (tok att:Int) (ro:Bool) :
  ∃ e' id er,Iu e tok att ro=some (e',id,er)∧EgI e' (n+1)∧OpE e'∧e'.Store=e.Store ∧
   (er=0→∃ o ∈ e'.Open,o.ID=id∧o.Token=tok∧o.Snap=e.Store.Ts∧o.RO=ro∧o.Buf.L=[])∧(∀ p ∈ e.Open,p.Token≠tok→p ∈ e'.Open)∧NTt e e' tok∧(er≠0→(∀ p ∈ e.Open,p.Token≠tok)→fnd e.Toks.L tok=none→sN tok att=true→16≤e'.Open.length∨e'.Toks.L.length=32∨64≤e'.Cert.Txs.length):=by
 have hop:=h.op
 unfold Iu
 rw [Abn h (by omega) k,zA,if_neg (by decide)]
 obtain ⟨r,hr,hc⟩:=Ana e tok (by omega)
 rw [hr,zA]
 have key:∀ f:Ah,EgI f n→OpE f→f.Store=e.Store→(∀ o ∈ f.Open,o.Token=tok→att≤o.Attempt)→(∀ p ∈ e.Open,p.Token≠tok→p ∈ f.Open)→NTt e f tok→((∀ p ∈ e.Open,p.Token≠tok)→f=e)→∃ e' id er,Fe tok att ro f=some (e',id,er)∧EgI e' (n+1)∧OpE e'∧e'.Store=e.Store ∧
   (er=0→∃ o ∈ e'.Open,o.ID=id∧o.Token=tok∧o.Snap=e.Store.Ts∧o.RO=ro∧o.Buf.L=[])∧(∀ p ∈ e.Open,p.Token≠tok→p ∈ e'.Open)∧NTt e e' tok∧(er≠0→(∀ p ∈ e.Open,p.Token≠tok)→fnd e.Toks.L tok=none→sN tok att=true→16≤e'.Open.length∨e'.Toks.L.length=32∨64≤e'.Cert.Txs.length):=fun f hf kf hs hno hst hnt hfe=>by
  obtain ⟨e',id,er,g1,g2,g3,g4,g5,g6,g7,g8⟩:=Aoq hf hn kf tok att ro hno
  refine ⟨e',id,er,g1,g2,g3,g4.trans hs,fun he=>?_,fun p hp hne=>?_,(fun T ht a1 a2=>by obtain ⟨b1,b2⟩:=hnt T ht a1 a2;exact g7 T ht b2 b1),fun he a1 a2 a3=>by
   have:=hfe a1
   subst this
   rw [g5 he]
   exact g8 he a2 a3⟩
  rotate_left
  ·by_cases he:er=0
   ·rw [(g6 he).2];exact wD _ (hst p hp hne)
   ·rw [g5 he];exact hst p hp hne
  obtain ⟨q1,q2⟩:=g6 he
  exact ⟨Aqo f tok att ro,by rw [q2];exact wF _ (zT.2 rfl),q1.symm,rfl,by show f.Store.Ts=_;rw [hs],rfl,rfl⟩
 rcases hc with ⟨h1,h2,h3⟩ | ⟨h1,h2⟩
 ·rw [if_pos h1]
  by_cases ha:r.1.Attempt<att
  ·rw [if_pos (decide_eq_true ha)]
   obtain ⟨f,g1,g2,g3,g4,g5,g6,g7⟩:=Ua h k h2
   rw [g1,zA]
   refine key f g2 g3 g4 (fun o ho ht=>?_) (fun p hp hne=>?_) (fun T _ a1 a2=>Ahb h2 g6 g7 T a1 a2) (fun a1=>absurd h3 (a1 _ h2))
   ·rw [g6,yQ] at ho
    have hne:o.ID≠r.1.ID:=by simpa using ho.2
    exact absurd (ht.trans h3.symm) (k.tok_ne ho.1 h2 hne)
   ·rw [g6]
    refine yQ.2 ⟨hp,?_⟩
    have:p.ID≠r.1.ID:=fun e1=>hne (by rw [k.id_eq hp h2 e1];exact h3)
    simpa using this
  ·rw [if_neg (by rw [decide_eq_true_eq];exact ha)]
   refine key e h k rfl (fun o ho ht=>?_) (fun p hp _=>hp) (fun T _ a1 a2=>⟨a2,a1⟩) (fun _=>rfl)
   by_cases hne:o.ID=r.1.ID
   ·rw [k.id_eq ho h2 hne];omega
   ·exact absurd (ht.trans h3.symm) (k.tok_ne ho h2 hne)
 ·rw [if_neg (by rw [h1];decide)]
  exact key e h k rfl (fun o ho ht=>absurd ht (h2 o ho)) (fun p hp _=>hp) (fun T _ a1 a2=>⟨a2,a1⟩) (fun _=>rfl)
theorem Yd {α β:Type} {f:α→β} {l:List α} {i:Nat} {a b:α} (h:l[i]? = some b) (hf:f a=f b):(l.set i a).map f=l.map f:=by
 apply xZ
 intro j
 rw [zO,zO,w7]
 by_cases e:i=j
 ·subst e
  have hlt:=(zC.1 h).1
  rw [if_pos rfl,if_pos hlt,h]
  show some (f a)=some (f b)
  rw [hf]
 ·rw [if_neg e]
theorem Avw {e:Ah} {n:Nat} (h:EgI e n) (hn:n≤400) (k:OpE e) (id:Int) (w:A6) :
  ∃ e' er,Nw e id w=some (e',er)∧EgI e' (n+1)∧OpE e'∧e'.Store=e.Store ∧
   (er=0→∃ o ∈ e.Open,o.ID=id∧bf.swV w=true∧bf.Good (bf.setR o.Buf.L w)∧∃ o' ∈ e'.Open,o'.ID=id∧o'.Buf.L=bf.setR o.Buf.L w∧o'.RO=o.RO∧e'.Open.length=e.Open.length)∧(∀ p ∈ e.Open,p.ID≠id→p ∈ e'.Open)∧NT e e':=by
 have hop:=h.op
 have hts:=h.ts
 have hnx:=h.nx
 unfold Nw
 rcases Zc h (by omega) k id with ⟨o,ho,hid,hf⟩ | ⟨-,z,hf⟩
 ·rw [hf,zA,if_neg (by show ¬ (!decide ((0:Int)=0))=true;decide)]
  dsimp only
  split
  ·exact ⟨_,_,rfl,h.up (xD n),k,rfl,(fun h=>by cases h),(fun p hp _=>hp),Pz e⟩
  rename_i hro
  have hro':o.RO=false:=by simpa using hro
  rcases bf.set_any (h.bf o ho) w with ⟨s1,s2,s3⟩ | ⟨er2,hne,s1⟩
  ·rw [show Eg o.Buf w=some (⟨bf.setR o.Buf.L w⟩,0) from s1,zA,if_neg (by show ¬ (!decide ((0:Int)=0))=true;decide)]
   unfold Ns
   dsimp only
   rw [Uz _ (by omega),zA]
   rcases Acg e o.ID (by omega) with ⟨hp,-⟩ | ⟨i,p,hp1,hp2,hp⟩
   ·exact absurd rfl (hp o ho)
   ·obtain rfl:=k.id_eq (zI hp1) ho hp2
    rw [show Ei (Ah.mk (Bw.mk e.Store.Keys e.Store.Chains e.Store.Ts) (Be.mk e.Cert.Txs (Bu.mk e.Cert.Reads.L)) (Bi.mk e.Toks.L) e.Open e.Next) p.ID=some (i:Int) from hp,zA,Bp,hp1,zA]
    have hlt:=(zC.1 hp1).1
    have hmem:∀ {x},x ∈ e.Open.set i { p with Buf:=⟨bf.setR p.Buf.L w⟩ }→(x ∈ e.Open)∨x={ p with Buf:=⟨bf.setR p.Buf.L w⟩ }:=fun {x} hx=>jN hx
    have hin:({ p with Buf:=⟨bf.setR p.Buf.L w⟩ }:Bc) ∈ e.Open.set i { p with Buf:=⟨bf.setR p.Buf.L w⟩ }:=xG.2 ⟨i,by rw [zR hlt]⟩
    have hall:∀ x ∈ e.Open,∃ y ∈ e.Open.set i { p with Buf:=⟨bf.setR p.Buf.L w⟩ },y.ID=x.ID:=fun x hx=>by
     obtain ⟨j,hj⟩:=xG.1 hx
     by_cases e1:i=j
     ·subst e1
      rw [hp1] at hj
      cases hj
      exact ⟨_,hin,rfl⟩
     ·exact ⟨x,xG.2 ⟨j,by rw [zY e1];exact hj⟩,rfl⟩
    refine ⟨_,_,rfl,⟨h.st.mono (xD n),h.kl,by show e.Store.Ts≤((n+1:Nat):Int);omega,h.tk,h.cert,by show (e.Open.set _ _).length≤16;rw [xJ];omega,fun x hx=>?_,h.nx.1,by show e.Next≤((n+1:Nat):Int);omega⟩,⟨fun x hx hs=>?_,fun x hx=>?_,fun x hx hr=>?_,?_,?_,fun x hx=>?_⟩,rfl,(fun _=>⟨p,ho,hid,s3,s2,_,hin,hid,rfl,rfl,xJ ..⟩),(fun y hy hne=>?_),fun T a1 a2=>⟨a2,fun y hy=>?_⟩⟩
    ·rcases hmem hx with hx | rfl
     ·exact h.bf x hx
     ·exact s2
    ·obtain ⟨q,hq,hqi⟩:=k.act x hx hs
     obtain ⟨y,hy,hyi⟩:=hall q hq
     exact ⟨y,hy,hyi.trans hqi⟩
    ·rcases hmem hx with hx | rfl
     ·exact k.ops x hx
     ·exact k.ops p ho
    ·rcases hmem hx with hx | rfl
     ·exact k.ro x hx hr
     ·exact absurd hr (by show ¬ p.RO=true;rw [hro'];decide)
    ·have:=k.ids
     rw [← wH (f:=Bc.ID) (R:=fun a b=>a<b)] at this ⊢
     show List.Pairwise _ ((e.Open.set i _).map Bc.ID)
     rw [Yd (f:=Bc.ID) (a:={ p with Buf:=⟨bf.setR p.Buf.L w⟩ }) hp1 rfl];exact this
    ·have:=k.toks
     rw [← wH (f:=Bc.Token) (R:=fun a b=>a≠b)] at this ⊢
     show List.Pairwise _ ((e.Open.set i _).map Bc.Token)
     rw [Yd (f:=Bc.Token) (a:={ p with Buf:=⟨bf.setR p.Buf.L w⟩ }) hp1 rfl];exact this
    ·rcases hmem hx with hx | rfl
     ·exact k.tks x hx
     ·exact k.tks p ho
    ·obtain ⟨j,hj⟩:=xG.1 hy
     refine xG.2 ⟨j,?_⟩
     show (e.Open.set i _)[j]? = some y
     rw [zY,hj]
     intro e1
     rw [← e1,hp1] at hj
     cases hj
     exact hne hid
    ·rcases hmem hy with hy | rfl
     ·exact a1 y hy
     ·exact a1 p ho
  ·rw [show Eg o.Buf w=some (⟨[]⟩,er2) from s1,zA,if_pos (by rw [decide_eq_false hne];rfl)]
   unfold Qe Rl
   dsimp only
   rw [zA]
   split
   ·exact ⟨_,_,rfl,h.up (xD n),k,rfl,(fun h=>absurd h hne),(fun p hp _=>hp),Pz e⟩
   ·obtain ⟨f,g1,g2,g3,g4,-,g6,g7⟩:=Ua h k ho
    rw [g1]
    exact ⟨_,_,rfl,g2.up (xD n),g3,g4,(fun h=>absurd h hne),(fun p hp hne=>by rw [g6];exact yQ.2 ⟨hp,by simpa [hid] using hne⟩),Ahb ho g6 g7⟩
 ·rw [hf,zA,if_pos (by show (!decide ((7:Int)=0))=true;decide)]
  unfold Dq
  rw [if_neg (by show ¬ decide ((7:Int)=1)=true;decide),zA]
  exact ⟨_,_,rfl,h.up (xD n),k,rfl,(fun h=>by cases h),(fun p hp _=>hp),Pz e⟩
theorem Akz {e:Ah} {n:Nat} (h:EgI e n) (hn:n≤400) (k:OpE e) (id:Int) :
  ∃ e' er,N4 e id=some (e',er)∧EgI e' (n+1)∧OpE e'∧e'.Store=e.Store∧((∃ o ∈ e.Open,o.ID=id)→er=0)∧(∀ p ∈ e.Open,p.ID≠id→p ∈ e'.Open)∧NT e e':=by
 unfold N4
 rcases Zc h (by omega) k id with ⟨o,ho,hid,hf⟩ | ⟨hno,z,hf⟩
 ·rw [hf,zA,if_neg (by show ¬ (!decide ((0:Int)=0))=true;decide)]
  obtain ⟨f,g1,g2,g3,g4,-,g6,g7⟩:=Ua h k ho
  dsimp only
  rw [g1]
  exact ⟨_,_,rfl,g2.up (xD n),g3,g4,(fun _=>rfl),(fun p hp hne=>by rw [g6];exact yQ.2 ⟨hp,by simpa [hid] using hne⟩),Ahb ho g6 g7⟩
 ·rw [hf,zA,if_pos (by show (!decide ((7:Int)=0))=true;decide)]
  unfold Dq
  rw [if_neg (by show ¬ decide ((7:Int)=1)=true;decide),zA]
  exact ⟨_,_,rfl,h.up (xD n),k,rfl,(fun ⟨o,ho,hi⟩=>absurd hi (hno o ho)),(fun p hp _=>hp),Pz e⟩
end Go.Proofs.YtkblaobhhoebaaaGreat.Abs
