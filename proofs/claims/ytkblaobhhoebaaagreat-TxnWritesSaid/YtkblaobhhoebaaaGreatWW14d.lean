/-
 What an engine's calls make of a sane engine: those that look, and those that end.
-/
import Derived.Test.YtkblaobhhoebaaaGreatWW14c
set_option linter.unusedVariables false
set_option linter.unusedSimpArgs false
namespace Go.Proofs.YtkblaobhhoebaaaGreat.Abs
theorem Ap3 {e:Ah} {n:Nat} {l:List E12} (h:EgI { e with Toks:=⟨l⟩ } n) (k:OpE e) {o:Be} (ho:o ∈ e.Open) (hT:∀ t,t≠o.Token→fnd l t=fnd e.Toks.L t) :
  ∃ e',Cv { e with Toks:=⟨l⟩ } o=some e'∧EgI e' n∧OpE e'∧e'.Store=e.Store:=by
 obtain ⟨e',g1,g2,-,-⟩:=Ahw h o
 refine ⟨e',g1,g2,?_⟩
 have hop:e.Open.length≤16:=h.op
 have hsc:ss.SC e.Cert:=h.sc
 unfold Cv at g1
 rw [Zc { e with Toks:=⟨l⟩ } o.ID (by show e.Open.length≤_;omega),zA] at g1
 obtain ⟨x,hx,e1,e2,-⟩:=k.ops o ho
 obtain ⟨C',hab,hC⟩:∃ C',Ea e.Cert o.ID=some C'∧C'.Txs=e.Cert.Txs.filter fun x=>!decide (x.ID ∈ [o.ID]):=by
  rcases ss.abort_m hsc o.ID with ⟨hn,-⟩ | ⟨-,e3⟩
  ·exact absurd e2 (hn x hx e1)
  ·exact ⟨_,e3,rfl⟩
 obtain ⟨l',m,er,hf,hf2,-⟩:=Ab8 h.tk o.Token o.Attempt
 have hm:∀ {x:A2},x ∈ C'.Txs ↔ x ∈ e.Cert.Txs∧x.ID≠o.ID:=fun {x}=>by
  rw [hC,yZ];simp
 have ha:∀ x ∈ C'.Txs,x.State=1→x.ID≠o.ID∧∃ y ∈ e.Cert.Txs,y.ID=x.ID∧y.State=1:=fun x hx hs=>⟨(hm.1 hx).2,x,(hm.1 hx).1,rfl,hs⟩
 have hb:∀ p ∈ e.Open,p.ID≠o.ID→∃ x ∈ C'.Txs,x.ID=p.ID∧x.State=1∧x.Begin=p.Snap∧x.RO=p.RO:=fun p hp hne=>by
  obtain ⟨x,hx,b1,b2⟩:=k.ops p hp
  exact ⟨x,hm.2 ⟨hx,by omega⟩,b1,b2⟩
 dsimp only at g1
 rw [hab,zA] at g1
 have hf':Cq ⟨l⟩ o.Token o.Attempt=some (⟨l'⟩,m,er):=hf
 rw [hf',zA] at g1
 dsimp only at g1
 by_cases he:er=0
 ·rw [if_pos (decide_eq_true he)] at g1
  obtain rfl:=zD g1
  obtain ⟨-,k2,-⟩:=hf2 he
  exact ⟨T5 k ho _ _ _ _ ha hb fun t ht=>(k2 t ht).trans (hT t ht),rfl⟩
 ·rw [if_neg (by rw [decide_eq_true_eq];exact he)] at g1
  obtain rfl:=zD g1
  exact ⟨T5 k ho _ _ _ _ ha hb hT,rfl⟩
theorem Ar1 (e:Ah) (er:Int) (h:er≠1):Dk e er=some e:=by
 unfold Dk
 rw [if_neg (by rw [decide_eq_true_eq];exact h)]
theorem Azy {e:Ah} {n:Nat} (h:EgI e n) (hn:n≤400) (k:OpE e) (id:Int) (key:List UInt8) (hk:key.length≤50) :
  ∃ e' v f er,N2 e id key=some (e',v,f,er)∧EgI e' (n+1)∧OpE e'∧e'.Store=e.Store:=by
 unfold N2
 rcases Aem h (by omega) k id with ⟨o,ho,hid,hf⟩ | ⟨-,z,hf⟩
 ·rw [hf,zA,if_neg (by show ¬ (!decide ((0:Int)=0))=true;decide)]
  dsimp only
  have hlen:=(h.bf o ho).len
  rw [st.kSane_m,zA]
  split
  ·exact ⟨_,_,_,_,rfl,h.up (xE n),k,rfl⟩
  obtain ⟨r,hr⟩:=Awr o.Buf key (by omega)
  rw [hr,zA]
  split
  ·exact ⟨_,_,_,_,rfl,h.up (xE n),k,rfl⟩
  rw [bf.one_m key (by omega),zA]
  obtain ⟨f,er2,q1,q2,q3,q4,-⟩:=Aqx h k ho ⟨key,key++[0],false⟩
  rw [q1,zA]
  dsimp only
  split
  ·exact ⟨_,_,_,_,rfl,q2.up (xE n),q3,q4⟩
  have hg:∃ v,Ez f.Store key o.Snap=some v:=by
   rcases st.get_m q2.st (by omega) q2.kl key o.Snap with ⟨c,-,e1⟩ | ⟨-,e1⟩
   ·exact ⟨_,e1⟩
   ·exact ⟨_,e1⟩
  obtain ⟨v,hv⟩:=hg
  rw [hv]
  exact ⟨_,_,_,_,rfl,q2.up (xE n),q3,q4⟩
 ·rw [hf,zA,if_pos (by show (!decide ((7:Int)=0))=true;decide),Ar1 e _ (by show (7:Int)≠1;decide),zA]
  exact ⟨_,_,_,_,rfl,h.up (xE n),k,rfl⟩
theorem Au1 {e:Ah} {n:Nat} (h:EgI e n) (hn:n≤400) (k:OpE e) (id:Int) (r:Bg) :
  ∃ e' l er,Pt e id r 8=some (e',l,er)∧EgI e' (n+1)∧OpE e'∧e'.Store=e.Store:=by
 unfold Pt
 rcases Aem h (by omega) k id with ⟨o,ho,hid,hf⟩ | ⟨-,z,hf⟩
 ·rw [hf,zA,if_neg (by show ¬ (!decide ((0:Int)=0))=true;decide)]
  have hks:∃ b,E0 r=some b:=by
   unfold E0
   repeat' split
   all_goals exact ⟨_,rfl⟩
  obtain ⟨b,hb⟩:=hks
  rw [hb,zA]
  split
  ·exact ⟨_,_,_,rfl,h.up (xE n),k,rfl⟩
  rw [bf.empty_m,zA]
  split
  ·exact ⟨_,_,_,rfl,h.up (xE n),k,rfl⟩
  unfold Oa
  dsimp only
  obtain ⟨f,er2,q1,q2,q3,q4,-⟩:=Aqx h k ho r
  rw [q1,zA]
  dsimp only
  split
  ·exact ⟨_,_,_,rfl,q2.up (xE n),q3,q4⟩
  have hents:=st.ents_len r o.Snap f.Store.Keys f.Store.Chains
  have hkl:=q2.kl
  rw [show He f.Store r o.Snap 128=some ((st.ents r o.Snap f.Store.Keys f.Store.Chains).take (128:Int).toNat) from st.scan_m q2.st (by omega) q2.kl r o.Snap 128,zA]
  obtain ⟨v,hv⟩:=Avk (h.bf o ho) ((st.ents r o.Snap f.Store.Keys f.Store.Chains).take (128:Int).toNat) r (by rw [zL];omega)
  rw [show Ga o.Buf _ r 8=some v from hv]
  exact ⟨_,_,_,rfl,q2.up (xE n),q3,q4⟩
 ·rw [hf,zA,if_pos (by show (!decide ((7:Int)=0))=true;decide),Ar1 e _ (by show (7:Int)≠1;decide),zA]
  exact ⟨_,_,_,rfl,h.up (xE n),k,rfl⟩
theorem Alq {e:Ah} {n:Nat} (h:EgI e n) (hn:n≤400) (k:OpE e) (tok:Int):∃ e' er,Mi e tok=some (e',er)∧Ok2 e' n er:=by
 unfold Mi
 rw [Abp h (by omega) k,zA,if_neg (by decide)]
 obtain ⟨l',er,hr,hr2,hr3⟩:=Am4 h.tk tok
 rw [show Gh e.Toks tok=some (⟨l'⟩,er) from hr,zA]
 dsimp only
 by_cases he:er=0
 ·rw [if_neg (by rw [decide_eq_true he];decide)]
  obtain ⟨k1,k2,-⟩:=hr2 he
  refine ⟨_,_,rfl,.inr ⟨(show EgI { e with Toks:=⟨l'⟩ } n from ⟨h.st,h.kl,h.ts,k1,h.cert,h.op,h.bf,h.nx⟩).up (xE n),⟨k.act,k.ops,k.ro,k.ids,k.toks,fun p hp=>?_⟩⟩⟩
  obtain ⟨x,b1,b2,b3⟩:=k.tks p hp
  refine ⟨x,(k2 _ fun e1=>?_).trans b1,b2,b3⟩
  have:=(hr3 x (by rw [← e1];exact b1)).1 b2
  omega
 ·rw [if_pos (by rw [decide_eq_false he];rfl)]
  obtain ⟨f,g1,g2⟩:=Aq0 h k er
  rw [g1]
  exact ⟨_,_,rfl,g2⟩
theorem Aqg {e:Ah} {n:Nat} (h:EgI e n) (hn:n≤400) (k:OpE e) (tok att:Int):∃ e' ts er,Nl e tok att=some (e',ts,er)∧Ok2 e' n er:=by
 have hop:=h.op
 unfold Nl
 rw [Abp h (by omega) k,zA,if_neg (by decide)]
 obtain ⟨l',m,er,hf,hf2,-⟩:=Ab8 h.tk tok att
 rw [show Cq e.Toks tok att=some (⟨l'⟩,m,er) from hf,zA]
 dsimp only
 by_cases he:er=0
 ·rw [if_neg (by rw [decide_eq_true he];decide)]
  obtain ⟨k1,k2,-,-,k5⟩:=hf2 he
  have hn1:EgI { e with Toks:=⟨l'⟩ } n:=⟨h.st,h.kl,h.ts,k1,h.cert,h.op,h.bf,h.nx⟩
  have hl32:=k1.n
  have hfd:=Afd (l:=l') (by omega) tok
  rw [hfd,zA]
  obtain ⟨r,hr,hc⟩:=Amn { e with Toks:=⟨l'⟩ } tok (by show e.Open.length≤_;omega)
  rw [hr,zA]
  have stay:OpE { e with Toks:=⟨l'⟩ }→∃ e' ts er,Fz (⟨l'⟩,m,er) { e with Toks:=⟨l'⟩ }=some (e',ts,er)∧Ok2 e' n er:=fun hk=>⟨_,_,_,rfl,.inr ⟨hn1.up (xE n),hk⟩⟩
  rcases hc with ⟨h1,h2,h3⟩ | ⟨h1,h2⟩
  ·rw [if_pos h1]
   have h2':r.1 ∈ e.Open:=h2
   obtain ⟨x,b1,b2,b3⟩:=k.tks r.1 h2'
   rw [h3] at b1
   obtain ⟨b,hb1,hb2⟩:∃ b,fnd l' tok=some ⟨tok,b,3,0⟩∧x.Attempt≤b:=by
    rcases k5 with ⟨h1,-⟩ | ⟨h1,-⟩ | ⟨-,y,hy,hs,-⟩ | ⟨-,-,b,q1,q2⟩
    ·cases h1
    ·cases h1
    ·rw [b1] at hy;cases hy;rw [b2] at hs;cases hs
    ·rw [b1] at q2
     have q2:b=max x.Attempt att:=q2
     exact ⟨b,q1,by omega⟩
   rw [hb1]
   dsimp only
   rw [if_pos (by show decide ((3:Int)=3)=true;decide),if_pos (decide_eq_true (by show r.1.Attempt≤b;omega))]
   obtain ⟨g,g1,g2,g3,-⟩:=Ap3 hn1 k h2' (fun t ht=>k2 t (by rw [← h3];exact ht))
   rw [g1]
   exact ⟨_,_,_,rfl,.inr ⟨g2.up (xE n),g3⟩⟩
  ·rw [if_neg (by rw [h1];decide)]
   exact stay ⟨k.act,k.ops,k.ro,k.ids,k.toks,fun p hp=>by
    obtain ⟨x,b1,b2⟩:=k.tks p hp
    exact ⟨x,(k2 _ (h2 p hp)).trans b1,b2⟩⟩
 ·rw [if_pos (by rw [decide_eq_false he];rfl)]
  obtain ⟨f,g1,g2⟩:=Aq0 h k er
  rw [g1]
  exact ⟨_,_,_,rfl,g2⟩
end Go.Proofs.YtkblaobhhoebaaaGreat.Abs
