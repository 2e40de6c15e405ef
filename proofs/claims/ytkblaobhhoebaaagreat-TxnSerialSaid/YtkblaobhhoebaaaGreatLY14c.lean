/-
 What an engine's calls make of a sane engine.
-/
import Derived.Test.YtkblaobhhoebaaaGreatLY14b
set_option linter.unusedVariables false
set_option linter.unusedSimpArgs false
namespace Go.Proofs.YtkblaobhhoebaaaGreat.Abs
theorem Amx (e:Ab) (tok:Int) (hl:e.Open.length<=1000):∃ r,J7 e tok=some r/\((r.2=true/\r.1∈e.Open/\r.1.Token=tok)\/(r.2=false/\∀ o∈e.Open,o.Token≠tok)):=by
 obtain⟨v,hv,hr⟩:=Cr (f:=Jd e tok) (P:=λs=>∃ j:Nat,j<=e.Open.length/\s=(j:Int)/\∀ o∈e.Open.take j,o.Token≠tok) (μ:=λs=>e.Open.length-s.toNat)
  (R:=λv=>(v=.inr ()/\∀ o∈e.Open,o.Token≠tok)\/∃ o∈e.Open,o.Token=tok/\v=.inl (o,true)) (by
   rintro _ ⟨j,hj,rfl,hk⟩
   unfold Jd
   rcases zU j e.Open.length with hlt|hge
   ·rw[ifo,A3,zC hlt,zA]
    by_cases h:e.Open[j].Token=tok
    ·rw[ifp h]
     exact .inr (.inr ⟨_,rfl,.inr ⟨_,xZ hlt,h,rfl⟩⟩)
    ·rw[ifn h,wIo]
     refine .inl ⟨_,rfl,⟨j+1,hlt,rfl,λo ho=>?_⟩,by simp only[zT];omega⟩
     rw[zV hlt] at ho
     rcases yC.1 ho with ho|ho
     ·exact hk o ho
     ·rw[zP.1 ho];exact h
   ·rw[ifq]
    rw[yO hge] at hk
    exact .inr (.inl ⟨_,rfl,.inl ⟨rfl,hk⟩⟩)) fuel 0 ⟨0,zZ _,rfl,by simp⟩ (Bs (by show e.Open.length-0<=_;omega))
 unfold J7
 rw[hv]
 rcases hr with⟨rfl,hk⟩|⟨o,ho,ht,rfl⟩
 ·exact⟨_,rfl,.inr ⟨rfl,hk⟩⟩
 ·exact⟨_,rfl,.inl ⟨rfl,ho,ht⟩⟩
theorem Auh {e:Ab} {n:Nat} (h:EgI e n) (hn:n<=400) (k:OpE e) (tok att:Int) (ro:Bool) :
  ∃ e' id er,G4 e tok att ro=some (e',id,er)/\EgI e' (n+1)/\OpE e'/\e'.Store=e.Store /\
   (er=0->∃ o∈e'.Open,o.ID=id/\o.Token=tok/\o.Snap=e.Store.Ts/\o.RO=ro/\o.Buf.L=[])/\(∀ p∈e.Open,p.Token≠tok->p∈e'.Open)/\NTt e e' tok/\(er≠0->(∀ p∈e.Open,p.Token≠tok)->fnd e.Toks.L tok=none->sN tok att=true->16<=e'.Open.length\/e'.Toks.L.length=32\/64<=e'.Cert.Txs.length):=by
 have hop:=h.op
 unfold G4
 rw[Vn h omg k,zA,if_neg dcd]
 obtain⟨r,hr,hc⟩:=Amx e tok omg
 rw[hr,zA]
 have key:∀ f:Ab,EgI f n->OpE f->f.Store=e.Store->(∀ o∈f.Open,o.Token=tok->att<=o.Attempt)->(∀ p∈e.Open,p.Token≠tok->p∈f.Open)->NTt e f tok->((∀ p∈e.Open,p.Token≠tok)->f=e)->∃ e' id er,Db tok att ro f=some (e',id,er)/\EgI e' (n+1)/\OpE e'/\e'.Store=e.Store /\
   (er=0->∃ o∈e'.Open,o.ID=id/\o.Token=tok/\o.Snap=e.Store.Ts/\o.RO=ro/\o.Buf.L=[])/\(∀ p∈e.Open,p.Token≠tok->p∈e'.Open)/\NTt e e' tok/\(er≠0->(∀ p∈e.Open,p.Token≠tok)->fnd e.Toks.L tok=none->sN tok att=true->16<=e'.Open.length\/e'.Toks.L.length=32\/64<=e'.Cert.Txs.length):=λf hf kf hs hno hst hnt hfe=>by
  obtain⟨e',id,er,g1,g2,g3,g4,g5,g6,g7,g8⟩:=Aof hf hn kf tok att ro hno
  refine⟨e',id,er,g1,g2,g3,g4.trans hs,λhe=>?_,λp hp hne=>?_,(λT ht a1 a2=>by obtain⟨b1,b2⟩:=hnt T ht a1 a2;exact g7 T ht b2 b1),λhe a1 a2 a3=>by
   have:=hfe a1
   subst this
   rw[g5 he]
   exact g8 he a2 a3⟩
  rotate_left
  ·by_cases he:er=0
   ·rw[(g6 he).2];exact xN _ (hst p hp hne)
   ·rw[g5 he];exact hst p hp hne
  obtain⟨q1,q2⟩:=g6 he
  exact⟨Arv f tok att ro,by rw[q2];exact wA _ (zP.2 rfl),q1.symm,rfl,by show f.Store.Ts=_;rw[hs],rfl,rfl⟩
 rcases hc with⟨h1,h2,h3⟩|⟨h1,h2⟩
 ·rw[if_pos h1]
  by_cases ha:r.1.Attempt<att
  ·rw[ifp ha]
   obtain⟨f,g1,g2,g3,g4,g5,g6,g7⟩:=Xg h k h2
   rw[g1,zA]
   refine key f g2 g3 g4 (λo ho ht=>?_) (λp hp hne=>?_) (λT _ a1 a2=>Ags h2 g6 g7 T a1 a2) (λa1=>absurd h3 (a1 _ h2))
   ·rw[g6,yG] at ho
    have hne:o.ID≠r.1.ID:=by simpa using ho.2
    exact absurd (ht.trans h3.symm) (k.tok_ne ho.1 h2 hne)
   ·rw[g6]
    refine yG.2 ⟨hp,?_⟩
    have:p.ID≠r.1.ID:=λe1=>hne (by rw[k.id_eq hp h2 e1];exact h3)
    simpa using this
  ·rw[ifn ha]
   refine key e h k rfl (λo ho ht=>?_) (λp hp _=>hp) (λT _ a1 a2=>⟨a2,a1⟩) (λ_=>rfl)
   by_cases hne:o.ID=r.1.ID
   ·rw[k.id_eq ho h2 hne];omega
   ·exact absurd (ht.trans h3.symm) (k.tok_ne ho h2 hne)
 ·rw[if_neg (by rw[h1];decide)]
  exact key e h k rfl (λo ho ht=>absurd ht (h2 o ho)) (λp hp _=>hp) (λT _ a1 a2=>⟨a2,a1⟩) (λ_=>rfl)
theorem Rw {α β:Type} {f:α->β} {l:List α} {i:Nat} {a b:α} (h:l[i]? = some b) (hf:f a=f b):(l.set i a).map f=l.map f:=by
 apply wE
 intro j
 rw[zQ,zQ,kL]
 by_cases e:i=j
 ·subst e
  have hlt:=(zB.1 h).1
  rw[if_pos rfl,if_pos hlt,h]
  show some (f a)=some (f b)
  rw[hf]
 ·rw[if_neg e]
theorem Ayk {e:Ab} {n:Nat} (h:EgI e n) (hn:n<=400) (k:OpE e) (id:Int) (w:Ae) :
  ∃ e' er,Kl e id w=some (e',er)/\EgI e' (n+1)/\OpE e'/\e'.Store=e.Store /\
   (er=0->∃ o∈e.Open,o.ID=id/\bf.swV w=true/\bf.Good (bf.setR o.Buf.L w)/\∃ o'∈e'.Open,o'.ID=id/\o'.Buf.L=bf.setR o.Buf.L w/\o'.RO=o.RO/\e'.Open.length=e.Open.length)/\(∀ p∈e.Open,p.ID≠id->p∈e'.Open)/\NT e e':=by
 have hop:=h.op
 have hts:=h.ts
 have hnx:=h.nx
 unfold Kl
 rcases Abb h omg k id with⟨o,ho,hid,hf⟩|⟨-,z,hf⟩
 ·rw[hf,zA,if_neg (by show ¬ (!decide ((0:Int)=0))=true;decide)]
  dsimp only
  split
  ·exact⟨_,_,rfl,h.up (xL n),k,rfl,(λh=>by cases h),(λp hp _=>hp),Pk e⟩
  rename_i hro
  have hro':o.RO=false:=by simpa using hro
  rcases bf.set_any (h.bf o ho) w with⟨s1,s2,s3⟩|⟨er2,hne,s1⟩
  ·rw[show Br o.Buf w=some (⟨bf.setR o.Buf.L w⟩,0) from s1,zA,if_neg (by show ¬ (!decide ((0:Int)=0))=true;decide)]
   unfold Md
   dsimp only
   rw[Pv _ omg,zA]
   rcases Zi e o.ID omg with⟨hp,-⟩|⟨i,p,hp1,hp2,hp⟩
   ·exact absurd rfl (hp o ho)
   ·obtain rfl:=k.id_eq (zG hp1) ho hp2
    rw[show Dc (Ab.mk (Bc.mk e.Store.Keys e.Store.Chains e.Store.Ts) (Ay.mk e.Cert.Txs (Be.mk e.Cert.Reads.L)) (A1.mk e.Toks.L) e.Open e.Next) p.ID=some (i:Int) from hp,zA,A3,hp1,zA]
    have hlt:=(zB.1 hp1).1
    have hmem:∀ {x},x∈e.Open.set i { p with Buf:=⟨bf.setR p.Buf.L w⟩ }->(x∈e.Open)\/x={ p with Buf:=⟨bf.setR p.Buf.L w⟩ }:=λ{x} hx=>kT hx
    have hin:({ p with Buf:=⟨bf.setR p.Buf.L w⟩ }:Ax)∈e.Open.set i { p with Buf:=⟨bf.setR p.Buf.L w⟩ }:=xJ.2 ⟨i,by rw[zI hlt]⟩
    have hall:∀ x∈e.Open,∃ y∈e.Open.set i { p with Buf:=⟨bf.setR p.Buf.L w⟩ },y.ID=x.ID:=λx hx=>by
     obtain⟨j,hj⟩:=xJ.1 hx
     by_cases e1:i=j
     ·subst e1
      rw[hp1] at hj
      cases hj
      exact⟨_,hin,rfl⟩
     ·exact⟨x,xJ.2 ⟨j,by rw[zM e1];exact hj⟩,rfl⟩
    refine⟨_,_,rfl,⟨h.st.mono (xL n),h.kl,by show e.Store.Ts<=((n+1:Nat):Int);omega,h.tk,h.cert,by show(e.Open.set _ _).length<=16;rw[yS];omega,λx hx=>?_,h.nx.1,by show e.Next<=((n+1:Nat):Int);omega⟩,⟨λx hx hs=>?_,λx hx=>?_,λx hx hr=>?_,?_,?_,λx hx=>?_⟩,rfl,(λ_=>⟨p,ho,hid,s3,s2,_,hin,hid,rfl,rfl,yS ..⟩),(λy hy hne=>?_),λT a1 a2=>⟨a2,λy hy=>?_⟩⟩
    ·rcases hmem hx with hx|rfl
     ·exact h.bf x hx
     ·exact s2
    ·obtain⟨q,hq,hqi⟩:=k.act x hx hs
     obtain⟨y,hy,hyi⟩:=hall q hq
     exact⟨y,hy,hyi.trans hqi⟩
    ·rcases hmem hx with hx|rfl
     ·exact k.ops x hx
     ·exact k.ops p ho
    ·rcases hmem hx with hx|rfl
     ·exact k.ro x hx hr
     ·exact absurd hr (by show ¬ p.RO=true;rw[hro'];decide)
    ·have:=k.ids
     rw[<- wF (f:=Ax.ID) (R:=λa b=>a<b)] at this ⊢
     show List.Pairwise _ ((e.Open.set i _).map Ax.ID)
     rw[Rw (f:=Ax.ID) (a:={ p with Buf:=⟨bf.setR p.Buf.L w⟩ }) hp1 rfl];exact this
    ·have:=k.toks
     rw[<- wF (f:=Ax.Token) (R:=λa b=>a≠b)] at this ⊢
     show List.Pairwise _ ((e.Open.set i _).map Ax.Token)
     rw[Rw (f:=Ax.Token) (a:={ p with Buf:=⟨bf.setR p.Buf.L w⟩ }) hp1 rfl];exact this
    ·rcases hmem hx with hx|rfl
     ·exact k.tks x hx
     ·exact k.tks p ho
    ·obtain⟨j,hj⟩:=xJ.1 hy
     refine xJ.2 ⟨j,?_⟩
     show(e.Open.set i _)[j]? = some y
     rw[zM,hj]
     intro e1
     rw[<- e1,hp1] at hj
     cases hj
     exact hne hid
    ·rcases hmem hy with hy|rfl
     ·exact a1 y hy
     ·exact a1 p ho
  ·rw[show Br o.Buf w=some (⟨[]⟩,er2) from s1,zA,if_pos (by rw[decide_eq_false hne];rfl)]
   unfold P4 Ol
   dsimp only
   rw[zA]
   split
   ·exact⟨_,_,rfl,h.up (xL n),k,rfl,(λh=>absurd h hne),(λp hp _=>hp),Pk e⟩
   ·obtain⟨f,g1,g2,g3,g4,-,g6,g7⟩:=Xg h k ho
    rw[g1]
    exact⟨_,_,rfl,g2.up (xL n),g3,g4,(λh=>absurd h hne),(λp hp hne=>by rw[g6];exact yG.2 ⟨hp,by simpa [hid] using hne⟩),Ags ho g6 g7⟩
 ·rw[hf,zA,if_pos (by show(!decide ((7:Int)=0))=true;decide)]
  unfold Ck
  rw[if_neg (by show ¬ decide ((7:Int)=1)=true;decide),zA]
  exact⟨_,_,rfl,h.up (xL n),k,rfl,(λh=>by cases h),(λp hp _=>hp),Pk e⟩
theorem Asj {e:Ab} {n:Nat} (h:EgI e n) (hn:n<=400) (k:OpE e) (id:Int) :
  ∃ e' er,K4 e id=some (e',er)/\EgI e' (n+1)/\OpE e'/\e'.Store=e.Store/\((∃ o∈e.Open,o.ID=id)->er=0)/\(∀ p∈e.Open,p.ID≠id->p∈e'.Open)/\NT e e':=by
 unfold K4
 rcases Abb h omg k id with⟨o,ho,hid,hf⟩|⟨hno,z,hf⟩
 ·rw[hf,zA,if_neg (by show ¬ (!decide ((0:Int)=0))=true;decide)]
  obtain⟨f,g1,g2,g3,g4,-,g6,g7⟩:=Xg h k ho
  dsimp only
  rw[g1]
  exact⟨_,_,rfl,g2.up (xL n),g3,g4,(λ_=>rfl),(λp hp hne=>by rw[g6];exact yG.2 ⟨hp,by simpa [hid] using hne⟩),Ags ho g6 g7⟩
 ·rw[hf,zA,if_pos (by show(!decide ((7:Int)=0))=true;decide)]
  unfold Ck
  rw[if_neg (by show ¬ decide ((7:Int)=1)=true;decide),zA]
  exact⟨_,_,rfl,h.up (xL n),k,rfl,(λ⟨o,ho,hi⟩=>absurd hi (hno o ho)),(λp hp _=>hp),Pk e⟩
end Go.Proofs.YtkblaobhhoebaaaGreat.Abs
