/-
 What an engine's calls make of a sane engine: those that look, and those that end.
-/
import Derived.Test.YtkblaobhhoebaaaGreatYY14c
set_option linter.unusedVariables false
set_option linter.unusedSimpArgs false
namespace Go.Proofs.YtkblaobhhoebaaaGreat.Abs
theorem Aqa {e:Ah} {n:Nat} {l:List E12} (h:EgI { e with Toks:=⟨l⟩ } n) (k:OpE e) {o:Bc} (ho:o ∈ e.Open) (hT:∀ t,t≠o.Token→fnd l t=fnd e.Toks.L t) :
  ∃ e',Cx { e with Toks:=⟨l⟩ } o=some e'∧EgI e' n∧OpE e'∧e'.Store=e.Store∧e'.Open=(e.Open.filter fun x=>!decide (x.ID=o.ID))∧(∀ t,t≠o.Token→fnd e'.Toks.L t=fnd e.Toks.L t):=by
 obtain ⟨e',g1,g2,-,-⟩:=Ai3 h o
 refine ⟨e',g1,g2,?_⟩
 have hop:e.Open.length≤16:=h.op
 have hsc:ss.SC e.Cert:=h.sc
 unfold Cx at g1
 rw [Y5 { e with Toks:=⟨l⟩ } o.ID (by show e.Open.length≤_;omega),zA] at g1
 obtain ⟨x,hx,e1,e2,-⟩:=k.ops o ho
 obtain ⟨C',hab,hC⟩:∃ C',Ef e.Cert o.ID=some C'∧C'.Txs=e.Cert.Txs.filter fun x=>!decide (x.ID ∈ [o.ID]):=by
  rcases ss.abort_m hsc o.ID with ⟨hn,-⟩ | ⟨-,e3⟩
  ·exact absurd e2 (hn x hx e1)
  ·exact ⟨_,e3,rfl⟩
 obtain ⟨l',m,er,hf,hf2,-⟩:=Ab7 h.tk o.Token o.Attempt
 have hm:∀ {x:A1},x ∈ C'.Txs ↔ x ∈ e.Cert.Txs∧x.ID≠o.ID:=fun {x}=>by
  rw [hC,yQ];simp
 have ha:∀ x ∈ C'.Txs,x.State=1→x.ID≠o.ID∧∃ y ∈ e.Cert.Txs,y.ID=x.ID∧y.State=1:=fun x hx hs=>⟨(hm.1 hx).2,x,(hm.1 hx).1,rfl,hs⟩
 have hb:∀ p ∈ e.Open,p.ID≠o.ID→∃ x ∈ C'.Txs,x.ID=p.ID∧x.State=1∧x.Begin=p.Snap∧x.RO=p.RO:=fun p hp hne=>by
  obtain ⟨x,hx,b1,b2⟩:=k.ops p hp
  exact ⟨x,hm.2 ⟨hx,by omega⟩,b1,b2⟩
 dsimp only at g1
 rw [hab,zA] at g1
 have hf':Ct ⟨l⟩ o.Token o.Attempt=some (⟨l'⟩,m,er):=hf
 rw [hf',zA] at g1
 dsimp only at g1
 by_cases he:er=0
 ·rw [if_pos (decide_eq_true he)] at g1
  obtain rfl:=zD g1
  obtain ⟨-,k2,-⟩:=hf2 he
  exact ⟨Tv k ho _ _ _ _ ha hb fun t ht=>(k2 t ht).trans (hT t ht),rfl,rfl,fun t ht=>(k2 t ht).trans (hT t ht)⟩
 ·rw [if_neg (by rw [decide_eq_true_eq];exact he)] at g1
  obtain rfl:=zD g1
  exact ⟨Tv k ho _ _ _ _ ha hb hT,rfl,rfl,hT⟩
theorem Asy (e:Ah) (er:Int) (h:er≠1):Dq e er=some e:=by
 unfold Dq
 rw [if_neg (by rw [decide_eq_true_eq];exact h)]
theorem Av0 {e:Ah} {n:Nat} (h:EgI e n) (hn:n≤400) (k:OpE e) (id:Int) (key:List UInt8) (hk:key.length≤50) :
  ∃ e' v f er,Hs e id key=some (e',v,f,er)∧EgI e' (n+1)∧OpE e'∧e'.Store=e.Store∧(∀ p ∈ e.Open,p.ID≠id→p ∈ e'.Open)∧NT e e':=by
 unfold Hs
 rcases Zc h (by omega) k id with ⟨o,ho,hid,hf⟩ | ⟨-,z,hf⟩
 ·rw [hf,zA,if_neg (by show ¬ (!decide ((0:Int)=0))=true;decide)]
  dsimp only
  have hlen:=(h.bf o ho).len
  rw [st.kSane_m,zA]
  split
  ·exact ⟨_,_,_,_,rfl,h.up (xD n),k,rfl,(fun p hp _=>hp),Pz e⟩
  obtain ⟨r,hr⟩:=Au0 o.Buf key (by omega)
  rw [hr,zA]
  split
  ·exact ⟨_,_,_,_,rfl,h.up (xD n),k,rfl,(fun p hp _=>hp),Pz e⟩
  rw [bf.one_m key (by omega),zA]
  obtain ⟨f,er2,q1,q2,q3,q4,-,-,q7,q8⟩:=An3 h k ho ⟨key,key++[0],false⟩
  rw [q1,zA]
  dsimp only
  split
  ·exact ⟨_,_,_,_,rfl,q2.up (xD n),q3,q4,(fun p hp hne=>q7 p hp (by rw [hid];exact hne)),q8⟩
  have hg:∃ v,B5 f.Store key o.Snap=some v:=by
   rcases st.get_m q2.st (by omega) q2.kl key o.Snap with ⟨c,-,e1⟩ | ⟨-,e1⟩
   ·exact ⟨_,e1⟩
   ·exact ⟨_,e1⟩
  obtain ⟨v,hv⟩:=hg
  rw [hv]
  exact ⟨_,_,_,_,rfl,q2.up (xD n),q3,q4,(fun p hp hne=>q7 p hp (by rw [hid];exact hne)),q8⟩
 ·rw [hf,zA,if_pos (by show (!decide ((7:Int)=0))=true;decide),Asy e _ (by show (7:Int)≠1;decide),zA]
  exact ⟨_,_,_,_,rfl,h.up (xD n),k,rfl,(fun p hp _=>hp),Pz e⟩
theorem Arc {e:Ah} {n:Nat} (h:EgI e n) (hn:n≤400) (k:OpE e) (id:Int) (r:Bg) :
  ∃ e' l er,Pl e id r 8=some (e',l,er)∧EgI e' (n+1)∧OpE e'∧e'.Store=e.Store∧(∀ p ∈ e.Open,p.ID≠id→p ∈ e'.Open)∧NT e e':=by
 unfold Pl
 rcases Zc h (by omega) k id with ⟨o,ho,hid,hf⟩ | ⟨-,z,hf⟩
 ·rw [hf,zA,if_neg (by show ¬ (!decide ((0:Int)=0))=true;decide)]
  have hks:∃ b,D3 r=some b:=by
   unfold D3
   repeat' split
   all_goals exact ⟨_,rfl⟩
  obtain ⟨b,hb⟩:=hks
  rw [hb,zA]
  split
  ·exact ⟨_,_,_,rfl,h.up (xD n),k,rfl,(fun p hp _=>hp),Pz e⟩
  rw [bf.empty_m,zA]
  split
  ·exact ⟨_,_,_,rfl,h.up (xD n),k,rfl,(fun p hp _=>hp),Pz e⟩
  unfold Ou
  dsimp only
  obtain ⟨f,er2,q1,q2,q3,q4,-,-,q7,q8⟩:=An3 h k ho r
  rw [q1,zA]
  dsimp only
  split
  ·exact ⟨_,_,_,rfl,q2.up (xD n),q3,q4,(fun p hp hne=>q7 p hp (by rw [hid];exact hne)),q8⟩
  have hents:=st.ents_len r o.Snap f.Store.Keys f.Store.Chains
  have hkl:=q2.kl
  rw [show Lk f.Store r o.Snap 128=some ((st.ents r o.Snap f.Store.Keys f.Store.Chains).take (128:Int).toNat) from st.scan_m q2.st (by omega) q2.kl r o.Snap 128,zA]
  obtain ⟨v,hv⟩:=Awk (h.bf o ho) ((st.ents r o.Snap f.Store.Keys f.Store.Chains).take (128:Int).toNat) r (by rw [zL];omega)
  rw [show F6 o.Buf _ r 8=some v from hv]
  exact ⟨_,_,_,rfl,q2.up (xD n),q3,q4,(fun p hp hne=>q7 p hp (by rw [hid];exact hne)),q8⟩
 ·rw [hf,zA,if_pos (by show (!decide ((7:Int)=0))=true;decide),Asy e _ (by show (7:Int)≠1;decide),zA]
  exact ⟨_,_,_,rfl,h.up (xD n),k,rfl,(fun p hp _=>hp),Pz e⟩
theorem Adr {e:Ah} {n:Nat} (h:EgI e n) (hn:n≤400) (k:OpE e) (tok:Int):∃ e' er,Me e tok=some (e',er)∧((er=1∧e'.Next=0)∨(EgI e' (n+1)∧OpE e'∧e'.Store=e.Store∧e'.Open=e.Open∧NTt e e' tok)):=by
 unfold Me
 rw [Abn h (by omega) k,zA,if_neg (by decide)]
 obtain ⟨l',er,hr,hr2,hr3⟩:=Amp h.tk tok
 rw [show Gj e.Toks tok=some (⟨l'⟩,er) from hr,zA]
 dsimp only
 by_cases he:er=0
 ·rw [if_neg (by rw [decide_eq_true he];decide)]
  obtain ⟨k1,k2,-⟩:=hr2 he
  refine ⟨_,_,rfl,.inr ⟨(show EgI { e with Toks:=⟨l'⟩ } n from ⟨h.st,h.kl,h.ts,k1,h.cert,h.op,h.bf,h.nx⟩).up (xD n),⟨k.act,k.ops,k.ro,k.ids,k.toks,fun p hp=>?_⟩,rfl,rfl,fun T ht a1 a2=>⟨(k2 T ht).trans a2,a1⟩⟩⟩
  obtain ⟨x,b1,b2,b3⟩:=k.tks p hp
  refine ⟨x,(k2 _ fun e1=>?_).trans b1,b2,b3⟩
  have:=(hr3 x (by rw [← e1];exact b1)).1 b2
  omega
 ·rw [if_pos (by rw [decide_eq_false he];rfl)]
  unfold Dq
  by_cases h1:er=1
  ·rw [if_pos (decide_eq_true h1)]
   exact ⟨_,_,rfl,.inl ⟨h1,rfl⟩⟩
  ·rw [if_neg (by rw [decide_eq_true_eq];exact h1)]
   exact ⟨_,_,rfl,.inr ⟨h.up (xD n),k,rfl,rfl,fun T _ a1 a2=>⟨a2,a1⟩⟩⟩
theorem Ah1 {e:Ah} {n:Nat} (h:EgI e n) (hn:n≤400) (k:OpE e) (tok att:Int):∃ e' ts er,Ni e tok att=some (e',ts,er)∧((er=1∧e'.Next=0)∨(EgI e' (n+1)∧OpE e'∧e'.Store=e.Store∧(∀ p ∈ e.Open,p.Token≠tok→p ∈ e'.Open)∧NTt e e' tok)):=by
 have hop:=h.op
 unfold Ni
 rw [Abn h (by omega) k,zA,if_neg (by decide)]
 obtain ⟨l',m,er,hf,hf2,-⟩:=Ab7 h.tk tok att
 rw [show Ct e.Toks tok att=some (⟨l'⟩,m,er) from hf,zA]
 dsimp only
 by_cases he:er=0
 ·rw [if_neg (by rw [decide_eq_true he];decide)]
  obtain ⟨k1,k2,-,-,k5⟩:=hf2 he
  have hn1:EgI { e with Toks:=⟨l'⟩ } n:=⟨h.st,h.kl,h.ts,k1,h.cert,h.op,h.bf,h.nx⟩
  have hl32:=k1.n
  have hfd:=Ac8 (l:=l') (by omega) tok
  rw [hfd,zA]
  obtain ⟨r,hr,hc⟩:=Ana { e with Toks:=⟨l'⟩ } tok (by show e.Open.length≤_;omega)
  rw [hr,zA]
  have stay:OpE { e with Toks:=⟨l'⟩ }→∃ e' ts er,Fv (⟨l'⟩,m,er) { e with Toks:=⟨l'⟩ }=some (e',ts,er)∧((er=1∧e'.Next=0)∨(EgI e' (n+1)∧OpE e'∧e'.Store=e.Store∧(∀ p ∈ e.Open,p.Token≠tok→p ∈ e'.Open)∧NTt e e' tok)):=fun hk=>⟨_,_,_,rfl,.inr ⟨hn1.up (xD n),hk,rfl,(fun p hp _=>hp),fun T ht a1 a2=>⟨(k2 T ht).trans a2,a1⟩⟩⟩
  rcases hc with ⟨h1,h2,h3⟩ | ⟨h1,h2⟩
  ·rw [if_pos h1]
   have h2':r.1 ∈ e.Open:=h2
   obtain ⟨x,b1,b2,b3⟩:=k.tks r.1 h2'
   rw [h3] at b1
   obtain ⟨b,hb1,hb2⟩:∃ b,fnd l' tok=some ⟨tok,b,3,0⟩∧x.Attempt≤b:=by
    rcases k5 with ⟨h1,-⟩ | ⟨h1,-⟩ | ⟨-,y,hy,hs,-⟩ | ⟨-,-,b,q1,q2⟩
    ·cases h1
    ·cases h1
    ·rw [b1] at hy;cases hy;rw [b2] at hs;cases hs
    ·rw [b1] at q2
     have q2:b=max x.Attempt att:=q2
     exact ⟨b,q1,by omega⟩
   rw [hb1]
   dsimp only
   rw [if_pos (by show decide ((3:Int)=3)=true;decide),if_pos (decide_eq_true (by show r.1.Attempt≤b;omega))]
   obtain ⟨g,g1,g2,g3,g4,g5,g6⟩:=Aqa hn1 k h2' (fun t ht=>k2 t (by rw [← h3];exact ht))
   rw [g1]
   exact ⟨_,_,_,rfl,.inr ⟨g2.up (xD n),g3,g4,(fun p hp hne=>by
    rw [g5]
    refine yQ.2 ⟨hp,?_⟩
    have:p.ID≠r.1.ID:=fun e1=>hne (by rw [k.id_eq hp h2' e1];exact h3)
    simpa using this),fun T _ a1 a2=>Ahb h2' g5 g6 T a1 a2⟩⟩
  ·rw [if_neg (by rw [h1];decide)]
   exact stay ⟨k.act,k.ops,k.ro,k.ids,k.toks,fun p hp=>by
    obtain ⟨x,b1,b2⟩:=k.tks p hp
    exact ⟨x,(k2 _ (h2 p hp)).trans b1,b2⟩⟩
 ·rw [if_pos (by rw [decide_eq_false he];rfl)]
  unfold Dq
  by_cases h1:er=1
  ·rw [if_pos (decide_eq_true h1)]
   exact ⟨_,_,_,rfl,.inl ⟨h1,rfl⟩⟩
  ·rw [if_neg (by rw [decide_eq_true_eq];exact h1)]
   exact ⟨_,_,_,rfl,.inr ⟨h.up (xD n),k,rfl,(fun p hp _=>hp),fun T _ a1 a2=>⟨a2,a1⟩⟩⟩
end Go.Proofs.YtkblaobhhoebaaaGreat.Abs
