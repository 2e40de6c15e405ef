/-
 What an engine's calls make of a sane engine: those that look, and those that end.
-/
import Derived.Test.YtkblaobhhoebaaaGreatSW14c
set_option linter.unusedVariables false
set_option linter.unusedSimpArgs false
namespace Go.Proofs.YtkblaobhhoebaaaGreat.Abs
theorem Ar5 {e:Ai} {n:Nat} {l:List E12} (h:EgI { e with Toks:=⟨l⟩ } n) (k:OpE e) {o:Bg} (ho:o∈e.Open) (hT:∀ t,t≠o.Token->fnd l t=fnd e.Toks.L t) :
  ∃ e',C9 { e with Toks:=⟨l⟩ } o=some e'/\EgI e' n/\OpE e'/\e'.Store=e.Store:=by
 obtain⟨e',g1,g2,-,-⟩:=Ak4 h o
 refine⟨e',g1,g2,?_⟩
 have hop:e.Open.length<=16:=h.op
 have hsc:ss.SC e.Cert:=h.sc
 unfold C9 at g1
 rw[Abg { e with Toks:=⟨l⟩ } o.ID (by show e.Open.length<=_;omega),zA] at g1
 obtain⟨x,hx,e1,e2,-⟩:=k.ops o ho
 obtain⟨C',hab,hC⟩:∃ C',Ep e.Cert o.ID=some C'/\C'.Txs=e.Cert.Txs.filter λx=>!decide (x.ID∈[o.ID]):=by
  rcases ss.abort_m hsc o.ID with⟨hn,-⟩|⟨-,e3⟩
  ·exact absurd e2 (hn x hx e1)
  ·exact⟨_,e3,rfl⟩
 obtain⟨l',m,er,hf,hf2,-⟩:=Aet h.tk o.Token o.Attempt
 have hm:∀ {x:A3},x∈C'.Txs↔x∈e.Cert.Txs/\x.ID≠o.ID:=λ{x}=>by
  rw[hC,xD];simp
 have ha:∀ x∈C'.Txs,x.State=1->x.ID≠o.ID/\∃ y∈e.Cert.Txs,y.ID=x.ID/\y.State=1:=λx hx hs=>⟨(hm.1 hx).2,x,(hm.1 hx).1,rfl,hs⟩
 have hb:∀ p∈e.Open,p.ID≠o.ID->∃ x∈C'.Txs,x.ID=p.ID/\x.State=1/\x.Begin=p.Snap/\x.RO=p.RO:=λp hp hne=>by
  obtain⟨x,hx,b1,b2⟩:=k.ops p hp
  exact⟨x,hm.2 ⟨hx,by omega⟩,b1,b2⟩
 dsimp only at g1
 rw[hab,zA] at g1
 have hf':C7 ⟨l⟩ o.Token o.Attempt=some (⟨l'⟩,m,er):=hf
 rw[hf',zA] at g1
 dsimp only at g1
 by_cases he:er=0
 ·rw[if_pos (decide_eq_true he)] at g1
  obtain rfl:=zD g1
  obtain⟨-,k2,-⟩:=hf2 he
  exact⟨V2 k ho _ _ _ _ ha hb λt ht=>(k2 t ht).trans (hT t ht),rfl⟩
 ·rw[if_neg (by rw[decide_eq_true_eq];exact he)] at g1
  obtain rfl:=zD g1
  exact⟨V2 k ho _ _ _ _ ha hb hT,rfl⟩
theorem Au4 (e:Ai) (er:Int) (h:er≠1):Dx e er=some e:=by
 unfold Dx
 rw[if_neg (by rw[decide_eq_true_eq];exact h)]
theorem A3u {e:Ai} {n:Nat} (h:EgI e n) (hn:n<=400) (k:OpE e) (id:Int) (key:List UInt8) (hk:key.length<=50) :
  ∃ e' v f er,Pg e id key=some (e',v,f,er)/\EgI e' (n+1)/\OpE e'/\e'.Store=e.Store:=by
 unfold Pg
 rcases Aha h (by omega) k id with⟨o,ho,hid,hf⟩|⟨-,z,hf⟩
 ·rw[hf,zA,if_neg (by show ¬ (!decide ((0:Int)=0))=true;decide)]
  dsimp only
  have hlen:=(h.bf o ho).len
  rw[st.kSane_m,zA]
  split
  ·exact⟨_,_,_,_,rfl,h.up (xF n),k,rfl⟩
  obtain⟨r,hr⟩:=Ax6 o.Buf key (by omega)
  rw[hr,zA]
  split
  ·exact⟨_,_,_,_,rfl,h.up (xF n),k,rfl⟩
  rw[bf.one_m key (by omega),zA]
  obtain⟨f,er2,q1,q2,q3,q4,-⟩:=Atv h k ho ⟨key,key++[0],false⟩
  rw[q1,zA]
  dsimp only
  split
  ·exact⟨_,_,_,_,rfl,q2.up (xF n),q3,q4⟩
  have hg:∃ v,L0 f.Store key o.Snap=some v:=by
   rcases st.get_m q2.st (by omega) q2.kl key o.Snap with⟨c,-,e1⟩|⟨-,e1⟩
   ·exact⟨_,e1⟩
   ·exact⟨_,e1⟩
  obtain⟨v,hv⟩:=hg
  rw[hv]
  exact⟨_,_,_,_,rfl,q2.up (xF n),q3,q4⟩
 ·rw[hf,zA,if_pos (by show(!decide ((7:Int)=0))=true;decide),Au4 e _ (by show(7:Int)≠1;decide),zA]
  exact⟨_,_,_,_,rfl,h.up (xF n),k,rfl⟩
theorem Axh {e:Ai} {n:Nat} (h:EgI e n) (hn:n<=400) (k:OpE e) (id:Int) (r:Bh) :
  ∃ e' l er,Rb e id r 8=some (e',l,er)/\EgI e' (n+1)/\OpE e'/\e'.Store=e.Store:=by
 unfold Rb
 rcases Aha h (by omega) k id with⟨o,ho,hid,hf⟩|⟨-,z,hf⟩
 ·rw[hf,zA,if_neg (by show ¬ (!decide ((0:Int)=0))=true;decide)]
  have hks:∃ b,E6 r=some b:=by
   unfold E6
   repeat' split
   all_goals exact⟨_,rfl⟩
  obtain⟨b,hb⟩:=hks
  rw[hb,zA]
  split
  ·exact⟨_,_,_,rfl,h.up (xF n),k,rfl⟩
  rw[bf.empty_m,zA]
  split
  ·exact⟨_,_,_,rfl,h.up (xF n),k,rfl⟩
  unfold Pn
  dsimp only
  obtain⟨f,er2,q1,q2,q3,q4,-⟩:=Atv h k ho r
  rw[q1,zA]
  dsimp only
  split
  ·exact⟨_,_,_,rfl,q2.up (xF n),q3,q4⟩
  have hents:=st.ents_len r o.Snap f.Store.Keys f.Store.Chains
  have hkl:=q2.kl
  rw[show Hw f.Store r o.Snap 128=some ((st.ents r o.Snap f.Store.Keys f.Store.Chains).take (128:Int).toNat) from st.scan_m q2.st (by omega) q2.kl r o.Snap 128,zA]
  obtain⟨v,hv⟩:=Azi (h.bf o ho) ((st.ents r o.Snap f.Store.Keys f.Store.Chains).take (128:Int).toNat) r (by rw[zK];omega)
  rw[show Gd o.Buf _ r 8=some v from hv]
  exact⟨_,_,_,rfl,q2.up (xF n),q3,q4⟩
 ·rw[hf,zA,if_pos (by show(!decide ((7:Int)=0))=true;decide),Au4 e _ (by show(7:Int)≠1;decide),zA]
  exact⟨_,_,_,rfl,h.up (xF n),k,rfl⟩
def Ok3 (e e':Ai) (n:Nat) (er:Int):Prop:=(er=1/\e'.Next=0)\/(EgI e' (n+1)/\OpE e'/\e'.Store=e.Store)
theorem Atx {e:Ai} {n:Nat} (h:EgI e n) (k:OpE e) (er:Int):∃ e',Dx e er=some e'/\Ok3 e e' n er:=by
 unfold Dx
 by_cases h1:er=1
 ·rw[if_pos (decide_eq_true h1)]
  exact⟨_,rfl,.inl ⟨h1,rfl⟩⟩
 ·rw[if_neg (by rw[decide_eq_true_eq];exact h1)]
  exact⟨_,rfl,.inr ⟨h.up (xF n),k,rfl⟩⟩
theorem Ap0 {e:Ai} {n:Nat} (h:EgI e n) (hn:n<=400) (k:OpE e) (tok:Int):∃ e' er,Na e tok=some (e',er)/\Ok3 e e' n er:=by
 unfold Na
 rw[Abk h (by omega) k,zA,if_neg (by decide)]
 obtain⟨l',er,hr,hr2,hr3⟩:=Aqu h.tk tok
 rw[show G2 e.Toks tok=some (⟨l'⟩,er) from hr,zA]
 dsimp only
 by_cases he:er=0
 ·rw[if_neg (by rw[decide_eq_true he];decide)]
  obtain⟨k1,k2,-⟩:=hr2 he
  refine⟨_,_,rfl,.inr ⟨(show EgI { e with Toks:=⟨l'⟩ } n from⟨h.st,h.kl,h.ts,k1,h.cert,h.op,h.bf,h.nx⟩).up (xF n),⟨k.act,k.ops,k.ro,k.ids,k.toks,λp hp=>?_⟩,rfl⟩⟩
  obtain⟨x,b1,b2,b3⟩:=k.tks p hp
  refine⟨x,(k2 _ λe1=>?_).trans b1,b2,b3⟩
  have:=(hr3 x (by rw[<- e1];exact b1)).1 b2
  omega
 ·rw[if_pos (by rw[decide_eq_false he];rfl)]
  obtain⟨f,g1,g2⟩:=Atx h k er
  rw[g1]
  exact⟨_,_,rfl,g2⟩
theorem Ass {e:Ai} {n:Nat} (h:EgI e n) (hn:n<=400) (k:OpE e) (tok att:Int):∃ e' ts er,O0 e tok att=some (e',ts,er)/\Ok3 e e' n er:=by
 have hop:=h.op
 unfold O0
 rw[Abk h (by omega) k,zA,if_neg (by decide)]
 obtain⟨l',m,er,hf,hf2,-⟩:=Aet h.tk tok att
 rw[show C7 e.Toks tok att=some (⟨l'⟩,m,er) from hf,zA]
 dsimp only
 by_cases he:er=0
 ·rw[if_neg (by rw[decide_eq_true he];decide)]
  obtain⟨k1,k2,-,-,k5⟩:=hf2 he
  have hn1:EgI { e with Toks:=⟨l'⟩ } n:=⟨h.st,h.kl,h.ts,k1,h.cert,h.op,h.bf,h.nx⟩
  have hl32:=k1.n
  have hfd:=Af2 (l:=l') (by omega) tok
  rw[hfd,zA]
  obtain⟨r,hr,hc⟩:=Aqq { e with Toks:=⟨l'⟩ } tok (by show e.Open.length<=_;omega)
  rw[hr,zA]
  have stay:OpE { e with Toks:=⟨l'⟩ }->∃ e' ts er,Fx (⟨l'⟩,m,er) { e with Toks:=⟨l'⟩ }=some (e',ts,er)/\Ok3 e e' n er:=λhk=>⟨_,_,_,rfl,.inr ⟨hn1.up (xF n),hk,rfl⟩⟩
  rcases hc with⟨h1,h2,h3⟩|⟨h1,h2⟩
  ·rw[if_pos h1]
   have h2':r.1∈e.Open:=h2
   obtain⟨x,b1,b2,b3⟩:=k.tks r.1 h2'
   rw[h3] at b1
   obtain⟨b,hb1,hb2⟩:∃ b,fnd l' tok=some ⟨tok,b,3,0⟩/\x.Attempt<=b:=by
    rcases k5 with⟨h1,-⟩|⟨h1,-⟩|⟨-,y,hy,hs,-⟩|⟨-,-,b,q1,q2⟩
    ·cases h1
    ·cases h1
    ·rw[b1] at hy;cases hy;rw[b2] at hs;cases hs
    ·rw[b1] at q2
     have q2:b=max x.Attempt att:=q2
     exact⟨b,q1,by omega⟩
   rw[hb1]
   dsimp only
   rw[if_pos (by show decide ((3:Int)=3)=true;decide),if_pos (decide_eq_true (by show r.1.Attempt<=b;omega))]
   obtain⟨g,g1,g2,g3,g4⟩:=Ar5 hn1 k h2' (λt ht=>k2 t (by rw[<- h3];exact ht))
   rw[g1]
   exact⟨_,_,_,rfl,.inr ⟨g2.up (xF n),g3,g4⟩⟩
  ·rw[if_neg (by rw[h1];decide)]
   exact stay ⟨k.act,k.ops,k.ro,k.ids,k.toks,λp hp=>by
    obtain⟨x,b1,b2⟩:=k.tks p hp
    exact⟨x,(k2 _ (h2 p hp)).trans b1,b2⟩⟩
 ·rw[if_pos (by rw[decide_eq_false he];rfl)]
  obtain⟨f,g1,g2⟩:=Atx h k er
  rw[g1]
  exact⟨_,_,_,rfl,g2⟩
end Go.Proofs.YtkblaobhhoebaaaGreat.Abs
