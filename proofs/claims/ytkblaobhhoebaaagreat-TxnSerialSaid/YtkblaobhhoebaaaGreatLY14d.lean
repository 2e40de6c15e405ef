/-
 What an engine's calls make of a sane engine: those that look, and those that end.
-/
import Derived.Test.YtkblaobhhoebaaaGreatLY14c
set_option linter.unusedVariables false
set_option linter.unusedSimpArgs false
namespace Go.Proofs.YtkblaobhhoebaaaGreat.Abs
theorem Aoj {e:Ab} {n:Nat} {l:List E12} (h:EgI { e with Toks:=⟨l⟩ } n) (k:OpE e) {o:Ax} (ho:o∈e.Open) (hT:∀ t,t≠o.Token->fnd l t=fnd e.Toks.L t) :
  ∃ e',Cd { e with Toks:=⟨l⟩ } o=some e'/\EgI e' n/\OpE e'/\e'.Store=e.Store/\e'.Open=(e.Open.filter λx=>!decide (x.ID=o.ID))/\(∀ t,t≠o.Token->fnd e'.Toks.L t=fnd e.Toks.L t):=by
 obtain⟨e',g1,g2,-,-⟩:=Ac5 h o
 refine⟨e',g1,g2,?_⟩
 have hop:e.Open.length<=16:=h.op
 have hsc:ss.SC e.Cert:=h.sc
 unfold Cd at g1
 rw[Uv { e with Toks:=⟨l⟩ } o.ID (by show e.Open.length<=_;omega),zA] at g1
 obtain⟨x,hx,e1,e2,-⟩:=k.ops o ho
 obtain⟨C',hab,hC⟩:∃ C',C9 e.Cert o.ID=some C'/\C'.Txs=e.Cert.Txs.filter λx=>!decide (x.ID∈[o.ID]):=by
  rcases ss.abort_m hsc o.ID with⟨hn,-⟩|⟨-,e3⟩
  ·exact absurd e2 (hn x hx e1)
  ·exact⟨_,e3,rfl⟩
 obtain⟨l',m,er,hf,hf2,-⟩:=Aci h.tk o.Token o.Attempt
 have hm:∀ {x:Ao},x∈C'.Txs↔x∈e.Cert.Txs/\x.ID≠o.ID:=λ{x}=>by
  rw[hC,yG];simp
 have ha:∀ x∈C'.Txs,x.State=1->x.ID≠o.ID/\∃ y∈e.Cert.Txs,y.ID=x.ID/\y.State=1:=λx hx hs=>⟨(hm.1 hx).2,x,(hm.1 hx).1,rfl,hs⟩
 have hb:∀ p∈e.Open,p.ID≠o.ID->∃ x∈C'.Txs,x.ID=p.ID/\x.State=1/\x.Begin=p.Snap/\x.RO=p.RO:=λp hp hne=>by
  obtain⟨x,hx,b1,b2⟩:=k.ops p hp
  exact⟨x,hm.2 ⟨hx,by omega⟩,b1,b2⟩
 dsimp only at g1
 rw[hab,zA] at g1
 have hf':Co ⟨l⟩ o.Token o.Attempt=some (⟨l'⟩,m,er):=hf
 rw[hf',zA] at g1
 dsimp only at g1
 by_cases he:er=0
 ·rw[ifp he] at g1
  obtain rfl:=zD g1
  obtain⟨-,k2,-⟩:=hf2 he
  exact⟨T2 k ho _ _ _ _ ha hb λt ht=>(k2 t ht).trans (hT t ht),rfl,rfl,λt ht=>(k2 t ht).trans (hT t ht)⟩
 ·rw[ifn he] at g1
  obtain rfl:=zD g1
  exact⟨T2 k ho _ _ _ _ ha hb hT,rfl,rfl,hT⟩
theorem Aou (e:Ab) (er:Int) (h:er≠1):Ck e er=some e:=by
 unfold Ck
 rw[ifn h]
theorem Ayw {e:Ab} {n:Nat} (h:EgI e n) (hn:n<=400) (k:OpE e) (id:Int) (key:List UInt8) (hk:key.length<=50) :
  ∃ e' v f er,Ke e id key=some (e',v,f,er)/\EgI e' (n+1)/\OpE e'/\e'.Store=e.Store/\(∀ p∈e.Open,p.ID≠id->p∈e'.Open)/\NT e e':=by
 unfold Ke
 rcases Abb h omg k id with⟨o,ho,hid,hf⟩|⟨-,z,hf⟩
 ·rw[hf,zA,if_neg (by show ¬ (!decide ((0:Int)=0))=true;decide)]
  dsimp only
  have hlen:=(h.bf o ho).len
  rw[st.kSane_m,zA]
  split
  ·exact⟨_,_,_,_,rfl,h.up (xL n),k,rfl,(λp hp _=>hp),Pk e⟩
  obtain⟨r,hr⟩:=Au7 o.Buf key omg
  rw[hr,zA]
  split
  ·exact⟨_,_,_,_,rfl,h.up (xL n),k,rfl,(λp hp _=>hp),Pk e⟩
  rw[bf.one_m key omg,zA]
  obtain⟨f,er2,q1,q2,q3,q4,-,-,q7,q8⟩:=Aq2 h k ho ⟨key,key++[0],false⟩
  rw[q1,zA]
  dsimp only
  split
  ·exact⟨_,_,_,_,rfl,q2.up (xL n),q3,q4,(λp hp hne=>q7 p hp (by rw[hid];exact hne)),q8⟩
  have hg:∃ v,Fo f.Store key o.Snap=some v:=by
   rcases st.get_m q2.st omg q2.kl key o.Snap with⟨c,-,e1⟩|⟨-,e1⟩
   ·exact⟨_,e1⟩
   ·exact⟨_,e1⟩
  obtain⟨v,hv⟩:=hg
  rw[hv]
  exact⟨_,_,_,_,rfl,q2.up (xL n),q3,q4,(λp hp hne=>q7 p hp (by rw[hid];exact hne)),q8⟩
 ·rw[hf,zA,if_pos (by show(!decide ((7:Int)=0))=true;decide),Aou e _ (by show(7:Int)≠1;decide),zA]
  exact⟨_,_,_,_,rfl,h.up (xL n),k,rfl,(λp hp _=>hp),Pk e⟩
theorem Av9 {e:Ab} {n:Nat} (h:EgI e n) (hn:n<=400) (k:OpE e) (id:Int) (r:Ar) :
  ∃ e' l er,Mp e id r 8=some (e',l,er)/\EgI e' (n+1)/\OpE e'/\e'.Store=e.Store/\(∀ p∈e.Open,p.ID≠id->p∈e'.Open)/\NT e e':=by
 unfold Mp
 rcases Abb h omg k id with⟨o,ho,hid,hf⟩|⟨-,z,hf⟩
 ·rw[hf,zA,if_neg (by show ¬ (!decide ((0:Int)=0))=true;decide)]
  have hks:∃ b,E1 r=some b:=by
   unfold E1
   repeat' split
   all_goals exact⟨_,rfl⟩
  obtain⟨b,hb⟩:=hks
  rw[hb,zA]
  split
  ·exact⟨_,_,_,rfl,h.up (xL n),k,rfl,(λp hp _=>hp),Pk e⟩
  rw[bf.empty_m,zA]
  split
  ·exact⟨_,_,_,rfl,h.up (xL n),k,rfl,(λp hp _=>hp),Pk e⟩
  unfold Mu
  dsimp only
  obtain⟨f,er2,q1,q2,q3,q4,-,-,q7,q8⟩:=Aq2 h k ho r
  rw[q1,zA]
  dsimp only
  split
  ·exact⟨_,_,_,rfl,q2.up (xL n),q3,q4,(λp hp hne=>q7 p hp (by rw[hid];exact hne)),q8⟩
  have hents:=st.ents_len r o.Snap f.Store.Keys f.Store.Chains
  have hkl:=q2.kl
  rw[show Fv f.Store r o.Snap 128=some ((st.ents r o.Snap f.Store.Keys f.Store.Chains).take (128:Int).toNat) from st.scan_m q2.st omg q2.kl r o.Snap 128,zA]
  obtain⟨v,hv⟩:=Axd (h.bf o ho) ((st.ents r o.Snap f.Store.Keys f.Store.Chains).take (128:Int).toNat) r (by rw[zN];omega)
  rw[show Cc o.Buf _ r 8=some v from hv]
  exact⟨_,_,_,rfl,q2.up (xL n),q3,q4,(λp hp hne=>q7 p hp (by rw[hid];exact hne)),q8⟩
 ·rw[hf,zA,if_pos (by show(!decide ((7:Int)=0))=true;decide),Aou e _ (by show(7:Int)≠1;decide),zA]
  exact⟨_,_,_,rfl,h.up (xL n),k,rfl,(λp hp _=>hp),Pk e⟩
theorem Ako {e:Ab} {n:Nat} (h:EgI e n) (hn:n<=400) (k:OpE e) (tok:Int):∃ e' er,H6 e tok=some (e',er)/\((er=1/\e'.Next=0)\/(EgI e' (n+1)/\OpE e'/\e'.Store=e.Store/\e'.Open=e.Open/\NTt e e' tok)):=by
 unfold H6
 rw[Vn h omg k,zA,if_neg dcd]
 obtain⟨l',er,hr,hr2,hr3⟩:=Alx h.tk tok
 rw[show Gs e.Toks tok=some (⟨l'⟩,er) from hr,zA]
 dsimp only
 by_cases he:er=0
 ·rw[if_neg (by rw[decide_eq_true he];decide)]
  obtain⟨k1,k2,-⟩:=hr2 he
  refine⟨_,_,rfl,.inr ⟨(show EgI { e with Toks:=⟨l'⟩ } n from⟨h.st,h.kl,h.ts,k1,h.cert,h.op,h.bf,h.nx⟩).up (xL n),⟨k.act,k.ops,k.ro,k.ids,k.toks,λp hp=>?_⟩,rfl,rfl,λT ht a1 a2=>⟨(k2 T ht).trans a2,a1⟩⟩⟩
  obtain⟨x,b1,b2,b3⟩:=k.tks p hp
  refine⟨x,(k2 _ λe1=>?_).trans b1,b2,b3⟩
  have:=(hr3 x (by rw[<- e1];exact b1)).1 b2
  omega
 ·rw[if_pos (by rw[decide_eq_false he];rfl)]
  unfold Ck
  by_cases h1:er=1
  ·rw[ifp h1]
   exact⟨_,_,rfl,.inl ⟨h1,rfl⟩⟩
  ·rw[ifn h1]
   exact⟨_,_,rfl,.inr ⟨h.up (xL n),k,rfl,rfl,λT _ a1 a2=>⟨a2,a1⟩⟩⟩
theorem Aph {e:Ab} {n:Nat} (h:EgI e n) (hn:n<=400) (k:OpE e) (tok att:Int):∃ e' ts er,I1 e tok att=some (e',ts,er)/\((er=1/\e'.Next=0)\/(EgI e' (n+1)/\OpE e'/\e'.Store=e.Store/\(∀ p∈e.Open,p.Token≠tok->p∈e'.Open)/\NTt e e' tok)):=by
 have hop:=h.op
 unfold I1
 rw[Vn h omg k,zA,if_neg dcd]
 obtain⟨l',m,er,hf,hf2,-⟩:=Aci h.tk tok att
 rw[show Co e.Toks tok att=some (⟨l'⟩,m,er) from hf,zA]
 dsimp only
 by_cases he:er=0
 ·rw[if_neg (by rw[decide_eq_true he];decide)]
  obtain⟨k1,k2,-,-,k5⟩:=hf2 he
  have hn1:EgI { e with Toks:=⟨l'⟩ } n:=⟨h.st,h.kl,h.ts,k1,h.cert,h.op,h.bf,h.nx⟩
  have hl32:=k1.n
  have hfd:=Aeo (l:=l') omg tok
  rw[hfd,zA]
  obtain⟨r,hr,hc⟩:=Amx { e with Toks:=⟨l'⟩ } tok (by show e.Open.length<=_;omega)
  rw[hr,zA]
  have stay:OpE { e with Toks:=⟨l'⟩ }->∃ e' ts er,C3 (⟨l'⟩,m,er) { e with Toks:=⟨l'⟩ }=some (e',ts,er)/\((er=1/\e'.Next=0)\/(EgI e' (n+1)/\OpE e'/\e'.Store=e.Store/\(∀ p∈e.Open,p.Token≠tok->p∈e'.Open)/\NTt e e' tok)):=λhk=>⟨_,_,_,rfl,.inr ⟨hn1.up (xL n),hk,rfl,(λp hp _=>hp),λT ht a1 a2=>⟨(k2 T ht).trans a2,a1⟩⟩⟩
  rcases hc with⟨h1,h2,h3⟩|⟨h1,h2⟩
  ·rw[if_pos h1]
   have h2':r.1∈e.Open:=h2
   obtain⟨x,b1,b2,b3⟩:=k.tks r.1 h2'
   rw[h3] at b1
   obtain⟨b,hb1,hb2⟩:∃ b,fnd l' tok=some ⟨tok,b,3,0⟩/\x.Attempt<=b:=by
    rcases k5 with⟨h1,-⟩|⟨h1,-⟩|⟨-,y,hy,hs,-⟩|⟨-,-,b,q1,q2⟩
    ·cases h1
    ·cases h1
    ·rw[b1] at hy;cases hy;rw[b2] at hs;cases hs
    ·rw[b1] at q2
     have q2:b=max x.Attempt att:=q2
     exact⟨b,q1,by omega⟩
   rw[hb1]
   dsimp only
   rw[if_pos (by show decide ((3:Int)=3)=true;decide),ifp (by show r.1.Attempt<=b;omega)]
   obtain⟨g,g1,g2,g3,g4,g5,g6⟩:=Aoj hn1 k h2' (λt ht=>k2 t (by rw[<- h3];exact ht))
   rw[g1]
   exact⟨_,_,_,rfl,.inr ⟨g2.up (xL n),g3,g4,(λp hp hne=>by
    rw[g5]
    refine yG.2 ⟨hp,?_⟩
    have:p.ID≠r.1.ID:=λe1=>hne (by rw[k.id_eq hp h2' e1];exact h3)
    simpa using this),λT _ a1 a2=>Ags h2' g5 g6 T a1 a2⟩⟩
  ·rw[if_neg (by rw[h1];decide)]
   exact stay ⟨k.act,k.ops,k.ro,k.ids,k.toks,λp hp=>by
    obtain⟨x,b1,b2⟩:=k.tks p hp
    exact⟨x,(k2 _ (h2 p hp)).trans b1,b2⟩⟩
 ·rw[if_pos (by rw[decide_eq_false he];rfl)]
  unfold Ck
  by_cases h1:er=1
  ·rw[ifp h1]
   exact⟨_,_,_,rfl,.inl ⟨h1,rfl⟩⟩
  ·rw[ifn h1]
   exact⟨_,_,_,rfl,.inr ⟨h.up (xL n),k,rfl,(λp hp _=>hp),λT _ a1 a2=>⟨a2,a1⟩⟩⟩
end Go.Proofs.YtkblaobhhoebaaaGreat.Abs
