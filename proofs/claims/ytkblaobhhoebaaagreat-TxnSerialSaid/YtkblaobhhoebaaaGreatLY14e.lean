/-
 What an act makes of a sane engine; a script.
-/
import Derived.Test.YtkblaobhhoebaaaGreatLY14d
set_option linter.unusedVariables false
set_option linter.unusedSimpArgs false
namespace Go.Proofs.YtkblaobhhoebaaaGreat.Abs
theorem S4 (l:List Ao) (rs:List Ap) (a:Ao) (ts:Int) (K:List (List UInt8)) (x:Ao):(ss.doneF l rs a ts K x).ID=x.ID/\(x.ID=a.ID->(ss.doneF l rs a ts K x).State=2) /\
  (x.ID≠a.ID->(ss.doneF l rs a ts K x).State=x.State/\(ss.doneF l rs a ts K x).Begin=x.Begin/\(ss.doneF l rs a ts K x).RO=x.RO):=by
 unfold ss.doneF
 split
 ·rename_i h;exact⟨rfl,λ_=>rfl,λhn=>absurd h hn⟩
 ·rename_i h
  split
  ·exact⟨rfl,λe=>absurd e h,λ_=>⟨rfl,rfl,rfl⟩⟩
  ·exact⟨rfl,λe=>absurd e h,λ_=>⟨rfl,rfl,rfl⟩⟩
theorem Ah2 {l:List Ao} {x:Ao} (h:ss.goneV l x=true):x.State=2:=by
 unfold ss.goneV at h
 simp only[zS,decide_eq_true_eq] at h
 exact h.1
theorem Apz {c:Ay} (h:ss.SC c) (id ts:Int) (K:List (List UInt8)) (hK:K.length<=16) {c':Ay} (hc:C8 c id ts K=some (c',0)) :
  ∃ a∈c.Txs,a.ID=id/\a.State=1/\c'.Txs=c.Txs.map (ss.doneF c.Txs c.Reads.L a ts K):=by
 rcases ss.commit_m h id ts K hK with⟨-,e⟩|⟨a,ha,e1,h1,⟨-,e⟩|⟨hm,⟨-,e⟩|⟨hcf,⟨-,e⟩|⟨hno,hpv,e⟩⟩⟩⟩
 ·rw[hc] at e;simp only[zJ,Prod.mk.injEq] at e;exact absurd e.2 dcd
 ·rw[hc] at e;simp only[zJ,Prod.mk.injEq] at e;exact absurd e.2 dcd
 ·rw[hc] at e;simp only[zJ,Prod.mk.injEq] at e;exact absurd e.2 dcd
 ·rw[hc] at e;simp only[zJ,Prod.mk.injEq] at e;exact absurd e.2 dcd
 ·rw[hc] at e;simp only[zJ,Prod.mk.injEq] at e
  exact⟨a,ha,e1,h1,by rw[e.1]⟩
theorem Ao0 {e:Ab} {n:Nat} (h:EgI e n) (hn:n<=400) (k:OpE e) {o:Ax} (ho:o∈e.Open):∃ e' er,Ly e o (e.Store.Ts+1)=some (e',er) /\
  (er=0->EgI e' (n+1)/\OpE e'/\e'.Open=(e.Open.filter λx=>!decide (x.ID=o.ID))/\(∀ t,t≠o.Token->fnd e'.Toks.L t=fnd e.Toks.L t)/\∃ K' C' q,st.Laid e.Store.Keys e.Store.Chains (e.Store.Ts+1) o.Buf.L K' C'/\st.OkS K' C' (e.Store.Ts+1) (n+1)/\K'.length<=128/\(∀ w∈o.Buf.L,st.wOk w=true) /\
   q<=e.Store.Ts+1/\(∀ p∈e.Open,p.ID≠o.ID->q<=p.Snap)/\e'.Store=⟨(st.vacP q K' C').map (·.1),(st.vacP q K' C').map (·.2),e.Store.Ts+1⟩):=by
 have hop:=h.op
 have hts:=h.ts
 have hst0:=h.st.t0
 have hb:=h.bf o ho
 have hbl:=hb.len
 unfold Ly
 rw[ifq,show H9 o.Buf=some (o.Buf.L.map bf.wk) from(show H9 o.Buf=Dn o.Buf from rfl).trans (bf.keysOf_m (b:=o.Buf.L) omg),zA]
 obtain⟨c',er,hc,hc2⟩:=Amy h.cert o.ID (o.Buf.L.map bf.wk) (by rw[zY];omega)
 rw[hc,zA]
 dsimp only
 by_cases he:er=0
 ·rw[if_neg (by rw[decide_eq_true he];decide)]
  subst he
  obtain⟨a,ha,ha1,ha2,hct⟩:=Apz h.sc o.ID _ _ (by rw[zY];omega) hc
  obtain⟨l',er2,hfi,hfi2,-⟩:=Apu h.tk o.Token o.Attempt (e.Store.Ts+1)
  rw[show G3 e.Toks o.Token o.Attempt (e.Store.Ts+1)=some (⟨l'⟩,er2) from hfi,zA]
  dsimp only
  by_cases he2:er2=0
  ·rw[if_neg (by rw[decide_eq_true he2];decide)]
   obtain⟨k1,k2,-⟩:=hfi2 he2
   rcases st.install_m h.st omg h.kl (e.Store.Ts+1) o.Buf.L omg with⟨er3,he3,hin⟩|⟨K',C',hin,hT,hwo,-,hK',hlaid,hok⟩
   ·rw[show Dq e.Store (e.Store.Ts+1) o.Buf.L=some (st.zstore,er3) from hin,zA,if_pos (by rw[decide_eq_false (show ¬ er3=0 by rcases he3 with h|⟨h,-⟩|h <;> omega)];rfl)]
    exact⟨_,_,rfl,λh=>by dsimp only at h;rcases he3 with h|⟨h,-⟩|h <;> omega⟩
   ·rw[show Dq e.Store (e.Store.Ts+1) o.Buf.L=some (⟨K',C',e.Store.Ts+1⟩,0) from hin,zA,if_neg (by show ¬ (!decide ((0:Int)=0))=true;decide),Uv e o.ID omg,zA]
    have hsc':=(hc2 rfl).sc
    obtain⟨w,hiw,hwc,-⟩:=hc2 rfl
    obtain⟨c2,hcl,hcl2,hcl3⟩:=ss.inv_clean hiw
    rw[hwc] at hcl hcl3
    have hci:CI c2 (e.Store.Ts+1) e.Next:=by
     obtain⟨c3,q1,q2⟩:=Aqi (hc2 rfl)
     rw[hcl] at q1
     rw[zD q1];exact q2
    have hcl4:=hci.sc.len
    rw[hcl,zA,ss.oldest_m c2 (e.Store.Ts+1) omg,zA]
    dsimp only
    rw[st.vacS_m hok omg hK',zA]
    refine⟨_,_,rfl,λ_=>⟨⟨st.vac_ok hok _,?_,by show e.Store.Ts+1<=((n+1:Nat):Int);omega,k1,hci,yP (wC _ _) hop,λx hx=>h.bf x (yG.1 hx).1,h.nx.1,by have:=h.nx.2;show e.Next<=((n+1:Nat):Int);omega⟩,?_,rfl,k2,K',C',_,hlaid,hok,hK',hwo,?_,?_,rfl⟩⟩
    ·exact yP (st.vac_len _ K' C') hK'
    ·refine T2 k ho _ c2 ⟨l'⟩ _ (λx hx hs=>?_) (λp hp hne=>?_) k2
     ·rw[hcl3] at hx
      have hx:=(yG.1 hx).1
      rw[hct] at hx
      obtain⟨y,hy,rfl⟩:=z8.1 hx
      obtain⟨d1,d2,d3⟩:=S4 c'.Txs e.Cert.Reads.L a (e.Store.Ts+1) (o.Buf.L.map bf.wk) y
      obtain⟨d1,d2,d3⟩:=S4 e.Cert.Txs e.Cert.Reads.L a (e.Store.Ts+1) (o.Buf.L.map bf.wk) y
      have hne:y.ID≠a.ID:=λe1=>by rw[d2 e1] at hs;cases hs
      exact⟨by rw[d1];omega,y,hy,d1.symm,by rw[<- (d3 hne).1];exact hs⟩
     ·obtain⟨x,hx,b1,b2,b3,b4⟩:=k.ops p hp
      obtain⟨d1,d2,d3⟩:=S4 e.Cert.Txs e.Cert.Reads.L a (e.Store.Ts+1) (o.Buf.L.map bf.wk) x
      obtain⟨d4,d5,d6⟩:=d3 omg
      refine⟨ss.doneF e.Cert.Txs e.Cert.Reads.L a (e.Store.Ts+1) (o.Buf.L.map bf.wk) x,?_,d1.trans b1,d4.trans b2,d5.trans b3,d6.trans b4⟩
      rw[hcl3]
      refine yG.2 ⟨by rw[hct];exact z8.2 ⟨x,hx,rfl⟩,?_⟩
      rw[xS]
      cases hg:ss.goneV c'.Txs (ss.doneF e.Cert.Txs e.Cert.Reads.L a (e.Store.Ts+1) (o.Buf.L.map bf.wk) x) with
      | false=>rfl
      | true=>have:=Ah2 hg;omega
    ·split <;> omega
    ·intro p hp hne
     obtain⟨x,hx,b1,b2,b3,b4⟩:=k.ops p hp
     obtain⟨d1,d2,d3⟩:=S4 e.Cert.Txs e.Cert.Reads.L a (e.Store.Ts+1) (o.Buf.L.map bf.wk) x
     obtain⟨d4,d5,d6⟩:=d3 omg
     have hin:ss.doneF e.Cert.Txs e.Cert.Reads.L a (e.Store.Ts+1) (o.Buf.L.map bf.wk) x∈c2.Txs:=by
      rw[hcl3]
      refine yG.2 ⟨by rw[hct];exact z8.2 ⟨x,hx,rfl⟩,?_⟩
      rw[xS]
      cases hg:ss.goneV c'.Txs (ss.doneF e.Cert.Txs e.Cert.Reads.L a (e.Store.Ts+1) (o.Buf.L.map bf.wk) x) with
      | false=>rfl
      | true=>have:=Ah2 hg;omega
     have hle:=(ss.oldV_le.1 (xQ (ss.oldV c2.Txs (e.Store.Ts+1)))).2 _ hin (d4.trans b2)
     have h2:=(ss.oldV_le.1 (xQ (ss.oldV c2.Txs (e.Store.Ts+1)))).1
     rw[d5,b3] at hle
     split <;> omega
  ·rw[if_pos (by rw[decide_eq_false he2];rfl)]
   exact⟨_,_,rfl,λh=>absurd h he2⟩
 ·rw[if_pos (by rw[decide_eq_false he];rfl)]
  exact⟨_,_,rfl,λh=>absurd h he⟩
theorem Aho {e:Ab} {n:Nat} (h:EgI e n) (hn:n<=400) (k:OpE e) (id:Int):∃ e' ts er,Fu e id=some (e',ts,er)/\EgI e' (n+1)/\OpE e'/\(er≠0->e'.Store=e.Store)/\(∀ p∈e.Open,p.ID≠id->p∈e'.Open)/\NT e e' /\
  (er=0->∃ o∈e.Open,o.ID=id/\e'.Open=(e.Open.filter λx=>!decide (x.ID=o.ID))/\∃ K' C' q,st.Laid e.Store.Keys e.Store.Chains (e.Store.Ts+1) o.Buf.L K' C'/\st.OkS K' C' (e.Store.Ts+1) (n+1)/\K'.length<=128/\(∀ w∈o.Buf.L,st.wOk w=true) /\
   q<=e.Store.Ts+1/\(∀ p∈e.Open,p.ID≠o.ID->q<=p.Snap)/\e'.Store=⟨(st.vacP q K' C').map (·.1),(st.vacP q K' C').map (·.2),e.Store.Ts+1⟩):=by
 have hts:=h.ts
 have hst0:=h.st.t0
 unfold Fu
 rcases Abb h omg k id with⟨o,ho,hid,hf⟩|⟨-,z,hf⟩
 ·rw[hf,zA,if_neg (by show ¬ (!decide ((0:Int)=0))=true;decide),wIo]
  dsimp only
  obtain⟨f,er2,hfi,hfi2⟩:=Ao0 h hn k ho
  rw[hfi,zA]
  dsimp only
  by_cases he2:er2=0
  ·rw[if_neg (by rw[decide_eq_true he2];decide)]
   obtain⟨q1,q2,q3,q5,q4⟩:=hfi2 he2
   exact⟨_,_,_,rfl,q1,q2,(λh=>absurd rfl h),(λp hp hne=>by rw[q3];exact yG.2 ⟨hp,by simpa [hid] using hne⟩),Ags ho q3 q5,λ_=>⟨o,ho,hid,q3,q4⟩⟩
  ·rw[if_pos (by rw[decide_eq_false he2];rfl)]
   obtain⟨g,g1,g2,g3,g4,-,g6,g7⟩:=Xg h k ho
   rw[g1]
   exact⟨_,_,_,rfl,g2.up (xL n),g3,(λ_=>g4),(λp hp hne=>by rw[g6];exact yG.2 ⟨hp,by simpa [hid] using hne⟩),Ags ho g6 g7,λh=>absurd h he2⟩
 ·rw[hf,zA,if_pos (by show(!decide ((7:Int)=0))=true;decide),Aou e _ (by show(7:Int)≠1;decide),zA]
  exact⟨_,_,_,rfl,h.up (xL n),k,(λ_=>rfl),(λp hp _=>hp),Pk e,λh=>by cases h⟩
theorem A0i {e:Ab} {n:Nat} (h:EgI e n) (hn:n<=400) (k:OpE e) (o:Dl) (id:Int) (hk:o.Key.length<=50):∃ e' x,Qd e o id=some (e',x)/\((x.e_=1/\e'.Next=0)\/(EgI e' (n+1)/\OpE e'/\NTt e e' o.Token)):=by
 have nn:∀ {e':Ab},NT e e'->NTt e e' o.Token:=λh T _ a1 a2=>h T a1 a2
 unfold Qd
 by_cases c1:o.What<=1
 ·rw[ifp c1]
  obtain⟨e',i,er,h1,h2,h3,-,-,-,h4,-⟩:=Auh h hn k o.Token o.Attempt o.RO
  rw[h1]
  exact⟨_,_,rfl,.inr ⟨h2,h3,h4⟩⟩
 rw[ifn c1]
 by_cases c3:o.What<=3
 ·rw[ifp c3]
  obtain⟨e',v,f,er,h1,h2,h3,-,-,h4⟩:=Ayw h hn k id o.Key hk
  rw[h1]
  exact⟨_,_,rfl,.inr ⟨h2,h3,nn h4⟩⟩
 rw[ifn c3]
 by_cases c4:o.What=4
 ·rw[ifp c4]
  obtain⟨e',l,er,h1,h2,h3,-,-,h4⟩:=Av9 h hn k id o.Rng
  rw[h1]
  exact⟨_,_,rfl,.inr ⟨h2,h3,nn h4⟩⟩
 rw[ifn c4]
 by_cases c7:o.What<=7
 ·rw[ifp c7]
  obtain⟨e',er,h1,h2,h3,-,-,-,h4⟩:=Ayk h hn k id ⟨o.Key,o.Val,o.Del⟩
  rw[h1]
  exact⟨_,_,rfl,.inr ⟨h2,h3,nn h4⟩⟩
 rw[ifn c7]
 by_cases c10:o.What<=10
 ·rw[ifp c10]
  obtain⟨e',ts,er,h1,h2,h3,-,-,h4,-⟩:=Aho h hn k id
  rw[h1]
  exact⟨_,_,rfl,.inr ⟨h2,h3,nn h4⟩⟩
 rw[ifn c10]
 by_cases c11:o.What=11
 ·rw[ifp c11]
  obtain⟨e',er,h1,h2,h3,-,-,-,h4⟩:=Asj h hn k id
  rw[h1]
  exact⟨_,_,rfl,.inr ⟨h2,h3,nn h4⟩⟩
 rw[ifn c11]
 by_cases c12:o.What=12
 ·rw[ifp c12]
  obtain⟨e',ts,er,h1,h2⟩:=Aph h hn k o.Token o.Attempt
  rw[h1]
  exact⟨_,_,rfl,by rcases h2 with h2|h2;exact .inl h2;exact .inr ⟨h2.1,h2.2.1,h2.2.2.2.2⟩⟩
 rw[ifn c12]
 obtain⟨e',er,h1,h2⟩:=Ako h hn k o.Token
 rw[h1]
 exact⟨_,_,rfl,by rcases h2 with h2|h2;exact .inl h2;exact .inr ⟨h2.1,h2.2.1,h2.2.2.2.2⟩⟩
theorem Aqk:OpE De:=⟨λx hx=>(by cases hx),λx hx=>(by cases hx),λx hx=>(by cases hx),List.Pairwise.nil,List.Pairwise.nil,λx hx=>(by cases hx)⟩
end Go.Proofs.YtkblaobhhoebaaaGreat.Abs
