/-
 What keeps an engine sane.
-/
import Derived.Test.YtkblaobhhoebaaaGreatSW14a
set_option linter.unusedVariables false
set_option linter.unusedSimpArgs false
namespace Go.Proofs.YtkblaobhhoebaaaGreat.Abs
theorem OpE.tok_ne {e:Ai} (k:OpE e) {p o:Bg} (hp:p∈e.Open) (ho:o∈e.Open) (h:p.ID≠o.ID):p.Token≠o.Token:=λe1=>by
 have:=ss.pw_eq k.toks hp ho (λn=>n e1) (λn=>n e1.symm)
 rw[this] at h
 exact h rfl
theorem OpE.id_eq {e:Ai} (k:OpE e) {p o:Bg} (hp:p∈e.Open) (ho:o∈e.Open) (h:p.ID=o.ID):p=o :=
 ss.pw_eq k.ids hp ho (λn=>by omega) (λn=>by omega)
theorem V2 {e:Ai} (k:OpE e) {o:Bg} (ho:o∈e.Open) (S':B2) (C':Be) (T':Bn) (N':Int)
  (h1:∀ x∈C'.Txs,x.State=1->x.ID≠o.ID/\∃ y∈e.Cert.Txs,y.ID=x.ID/\y.State=1)
  (h2:∀ p∈e.Open,p.ID≠o.ID->∃ x∈C'.Txs,x.ID=p.ID/\x.State=1/\x.Begin=p.Snap/\x.RO=p.RO)
  (h3:∀ t,t≠o.Token->fnd T'.L t=fnd e.Toks.L t):OpE ⟨S',C',T',e.Open.filter λx=>!decide (x.ID=o.ID),N'⟩:=by
 have hm:∀ {p:Bg},p∈(e.Open.filter λx=>!decide (x.ID=o.ID))↔p∈e.Open/\p.ID≠o.ID:=λ{p}=>by
  rw[xD];simp
 refine⟨λx hx hs=>?_,λp hp=>?_,λp hp=>k.ro p (hm.1 hp).1,k.ids.filter _,k.toks.filter _,λp hp=>?_⟩
 ·obtain⟨a1,y,hy,a2,a3⟩:=h1 x hx hs
  obtain⟨p,hp,hpi⟩:=k.act y hy a3
  exact⟨p,hm.2 ⟨hp,by omega⟩,by omega⟩
 ·exact h2 p (hm.1 hp).1 (hm.1 hp).2
 ·obtain⟨x,b1,b2⟩:=k.tks p (hm.1 hp).1
  exact⟨x,(h3 _ (k.tok_ne (hm.1 hp).1 ho (hm.1 hp).2)).trans b1,b2⟩
theorem Aux {e:Ai} {n:Nat} (h:EgI e n) (k:OpE e) {o:Bg} (ho:o∈e.Open):∃ C',Ep e.Cert o.ID=some C'/\C'.Txs=e.Cert.Txs.filter λx=>!decide (x.ID∈[o.ID]):=by
 obtain⟨x,hx,e1,e2,-⟩:=k.ops o ho
 rcases ss.abort_m h.sc o.ID with⟨hn,-⟩|⟨-,e3⟩
 ·exact absurd e2 (hn x hx e1)
 ·exact⟨_,e3,rfl⟩
theorem Yz {e:Ai} {n:Nat} (h:EgI e n) (k:OpE e) {o:Bg} (ho:o∈e.Open):∃ e',C9 e o=some e'/\EgI e' n/\OpE e'/\e'.Store=e.Store/\e'.Next=e.Next/\e'.Open=(e.Open.filter λx=>!decide (x.ID=o.ID)) /\
  (∀ t,t≠o.Token->fnd e'.Toks.L t=fnd e.Toks.L t):=by
 obtain⟨e',g1,g2,-,-⟩:=Ak4 h o
 refine⟨e',g1,g2,?_⟩
 have hop:=h.op
 unfold C9 at g1
 rw[Abg e o.ID (by omega),zA] at g1
 obtain⟨C',hab,hC⟩:=Aux h k ho
 obtain⟨l',m,er,hf,hf2,-⟩:=Aet h.tk o.Token o.Attempt
 have hm:∀ {x:A3},x∈C'.Txs↔x∈e.Cert.Txs/\x.ID≠o.ID:=λ{x}=>by
  rw[hC,xD];simp
 have ha:∀ x∈C'.Txs,x.State=1->x.ID≠o.ID/\∃ y∈e.Cert.Txs,y.ID=x.ID/\y.State=1:=λx hx hs=>⟨(hm.1 hx).2,x,(hm.1 hx).1,rfl,hs⟩
 have hb:∀ p∈e.Open,p.ID≠o.ID->∃ x∈C'.Txs,x.ID=p.ID/\x.State=1/\x.Begin=p.Snap/\x.RO=p.RO:=λp hp hne=>by
  obtain⟨x,hx,b1,b2⟩:=k.ops p hp
  exact⟨x,hm.2 ⟨hx,by omega⟩,b1,b2⟩
 dsimp only at g1
 rw[hab,zA] at g1
 have hf':C7 e.Toks o.Token o.Attempt=some (⟨l'⟩,m,er):=hf
 rw[hf',zA] at g1
 dsimp only at g1
 by_cases he:er=0
 ·rw[if_pos (decide_eq_true he)] at g1
  obtain rfl:=zD g1
  obtain⟨-,k2,-⟩:=hf2 he
  exact⟨V2 k ho _ _ _ _ ha hb k2,rfl,rfl,rfl,k2⟩
 ·rw[if_neg (by rw[decide_eq_true_eq];exact he)] at g1
  obtain rfl:=zD g1
  exact⟨V2 k ho _ _ _ _ ha hb (λ_ _=>rfl),rfl,rfl,rfl,λ_ _=>rfl⟩
theorem Atv {e:Ai} {n:Nat} (h:EgI e n) (k:OpE e) {o:Bg} (ho:o∈e.Open) (r:Bh):∃ e' er,Lp e o r=some (e',er)/\EgI e' n/\OpE e'/\e'.Store=e.Store /\
  (er=0->e'.Open=e.Open/\e'.Next=e.Next)/\(er=0\/er=1\/er=8\/er=10):=by
 obtain⟨x,hx,e1,e2,e3,e4⟩:=k.ops o ho
 have up:∀ er:Int,er≠0->(er=1\/er=8\/er=10)->Gb e.Cert o.ID r=some (ss.cN,er)->∃ e' er,Lp e o r=some (e',er)/\EgI e' n/\OpE e'/\e'.Store=e.Store/\(er=0->e'.Open=e.Open/\e'.Next=e.Next)/\(er=0\/er=1\/er=8\/er=10):=λer he hr hc=>by
  obtain⟨e',g1,g2,g3,g4,-⟩:=Yz h k ho
  unfold Lp
  rw[hc,zA,if_pos (by rw[decide_eq_false he];rfl),g1,zA]
  exact⟨_,_,rfl,g2,g3,g4,λh=>absurd h he,.inr hr⟩
 rcases ss.read_m h.sc o.ID r with⟨hno,-⟩|⟨a,ha,a1,a2,⟨er,her,e5⟩|⟨-,e5⟩|⟨rs,hg,r1,r2,r3,r4,r5,e5⟩⟩
 ·exact absurd e2 (hno x hx e1)
 ·exact up er (by rcases her with h|h <;> omega) (by rcases her with h|h;exact .inl h;exact .inr (.inl h.1)) e5
 ·exact up 10 (by omega) (by omega) e5
 ·unfold Lp
  rw[e5,zA,if_neg (by show ¬ (!decide ((0:Int)=0))=true;decide)]
  refine⟨_,_,rfl,⟨h.st,h.kl,h.ts,h.tk,?_,h.op,h.bf,h.nx⟩,⟨λy hy hs=>?_,λp hp=>?_,k.ro,k.ids,k.toks,k.tks⟩,rfl,λ_=>⟨rfl,rfl⟩,.inl rfl⟩
  ·obtain⟨c',e',q1,q2⟩:=Au8 h.cert o.ID r
   rw[e5] at q1
   simp only[zW,Prod.mk.injEq] at q1
   obtain⟨rfl,rfl⟩:=q1
   exact q2 rfl
  ·obtain⟨z,hz,rfl⟩:=yN.1 hy
   obtain⟨f1,f2,f3,f4,f5,f6⟩:=ss.readF_id e.Cert.Txs a r z
   obtain⟨p,hp,hpi⟩:=k.act z hz (by rw[<- f4];exact hs)
   exact⟨p,hp,by rw[f1];exact hpi⟩
  ·obtain⟨z,hz,b1,b2,b3,b4⟩:=k.ops p hp
   obtain⟨f1,f2,f3,f4,f5,f6⟩:=ss.readF_id e.Cert.Txs a r z
   exact⟨_,yN.2 ⟨z,hz,rfl⟩,by rw[f1];exact b1,by rw[f4];exact b2,by rw[f2];exact b3,by rw[f5];exact b4⟩
def Avq (e:Ai) (tok att:Int) (ro:Bool):Bg:=⟨e.Next,tok,att,e.Store.Ts,ro,⟨[]⟩⟩
theorem Atk {f:Ai} {n:Nat} (h:EgI f n) (hn:n<=400) (k:OpE f) (tok att:Int) (ro:Bool) (hno:∀ o∈f.Open,o.Token=tok->att<=o.Attempt) :
  ∃ e' id er,Fq tok att ro f=some (e',id,er)/\EgI e' (n+1)/\OpE e'/\e'.Store=f.Store/\(er≠0->e'=f) /\
   (er=0->id=f.Next/\e'.Open=f.Open++[Avq f tok att ro]):=by
 have hop:=h.op
 have hts:=h.ts
 have hnx:=h.nx
 have stay:∀ er:Int,er≠0->∃ e' id er',some (f,(0:Int),er)=some (e',id,er')/\EgI e' (n+1)/\OpE e'/\e'.Store=f.Store/\(er'≠0->e'=f) /\
   (er'=0->id=f.Next/\e'.Open=f.Open++[Avq f tok att ro]):=λer he=>⟨_,_,_,rfl,h.up (xF n),k,rfl,λ_=>rfl,λh=>absurd h he⟩
 unfold Fq
 split
 ·exact stay _ (by decide)
 split
 ·exact stay _ (by decide)
 rename_i h16
 rw[decide_eq_true_eq] at h16
 obtain⟨l',er,hs,hs2,-⟩:=Auv h.tk tok att
 rw[show I9 f.Toks tok att=some (⟨l'⟩,er) from hs,zA]
 dsimp only
 by_cases he:er=0
 ·rw[if_neg (by rw[decide_eq_true he];decide)]
  obtain⟨k1,k2,k3,k4,k5⟩:=hs2 he
  have hst0:=h.st.t0
  obtain⟨c',er2,hc,hc2⟩:=Arx h.cert (by show f.Store.Ts<=1099511627776;omega) ro
  rw[hc,zA]
  by_cases he2:er2=0
  ·rw[if_neg (by rw[decide_eq_true he2];decide),Yj _ (by simp;omega) (by simp),zA,Cd (by omega) (by omega)]
   subst he2
   have hb:=ss.begin_m h.sc f.Next f.Store.Ts ro hnx.1 hst0 (by show f.Store.Ts<=1099511627776;omega)
   have hcc:c'=⟨f.Cert.Txs++[⟨f.Next,f.Store.Ts,0,1,false,false,ro,[]⟩],f.Cert.Reads⟩:=by
    rcases hb with⟨-,e⟩|⟨-,⟨-,e⟩|⟨-,e⟩⟩ <;> rw[hc] at e <;> simp only[zW,Prod.mk.injEq] at e
    ·exact absurd e.2 (by decide)
    ·exact absurd e.2 (by decide)
    ·exact e.1
   subst hcc
   have hfl:([f.Open,[Avq f tok att ro]]:List (List Bg)).flatten=f.Open++[Avq f tok att ro]:=by simp
   have hk5:(∀ x,fnd f.Toks.L tok=some x->x.State≠2/\x.Attempt<att)/\fnd l' tok=some ⟨tok,att,1,0⟩:=by
    rcases k5 with⟨-,h1,h2⟩|⟨h1,-⟩|⟨h1,-⟩|⟨h1,-⟩
    ·exact⟨h1,h2⟩
    ·cases h1
    ·cases h1
    ·cases h1
   have hlt:∀ o∈f.Open,o.ID<f.Next:=λo ho=>(Ad2 h k ho).2.2
   have htk:∀ o∈f.Open,o.Token≠tok:=λo ho ht=>by
    obtain⟨x,b1,b2,b3⟩:=k.tks o ho
    rw[ht] at b1
    have:=(hk5.1 x b1).2
    have:=hno o ho ht
    omega
   refine⟨_,_,_,rfl,⟨h.st.mono (xF n),h.kl,by show f.Store.Ts<=((n+1:Nat):Int);omega,k1,hc2 rfl,?_,?_,by show 0<=f.Next+1;omega,by show f.Next+1<=((n+1:Nat):Int);omega⟩,?_,rfl,λh=>absurd rfl h,λ_=>⟨rfl,hfl⟩⟩
   ·simp;omega
   ·intro o ho
    simp only[List.flatten_cons,List.flatten_nil,xG,yH,zV] at ho
    rcases ho with ho|rfl
    ·exact h.bf o ho
    ·exact bf.Good.nil
   ·show OpE ⟨f.Store,_,⟨l'⟩,([f.Open,[Avq f tok att ro]]:List (List Bg)).flatten,f.Next+1⟩
    rw[hfl]
    refine⟨λx hx hs=>?_,λp hp=>?_,λp hp hr=>?_,?_,?_,λp hp=>?_⟩
    ·rcases yH.1 hx with hx|hx
     ·obtain⟨o,ho,hid⟩:=k.act x hx hs
      exact⟨o,wR _ ho,hid⟩
     ·rw[zV.1 hx]
      exact⟨Avq f tok att ro,wN _ (zV.2 rfl),rfl⟩
    ·rcases yH.1 hp with hp|hp
     ·obtain⟨x,hx,b⟩:=k.ops p hp
      exact⟨x,wR _ hx,b⟩
     ·rw[zV.1 hp]
      exact⟨_,wN _ (zV.2 rfl),rfl,rfl,rfl,rfl⟩
    ·rcases yH.1 hp with hp|hp
     ·exact k.ro p hp hr
     ·rw[zV.1 hp];rfl
    ·exact wS.2 ⟨k.ids,wG _ _,λa ha b hb=>by rw[zV.1 hb];exact hlt a ha⟩
    ·exact wS.2 ⟨k.toks,wG _ _,λa ha b hb=>by rw[zV.1 hb];exact htk a ha⟩
    ·rcases yH.1 hp with hp|hp
     ·obtain⟨x,b1,b2⟩:=k.tks p hp
      exact⟨x,(k2 _ (htk p hp)).trans b1,b2⟩
     ·rw[zV.1 hp]
      exact⟨_,hk5.2,rfl,rfl⟩
  ·rw[if_pos (by rw[decide_eq_false he2];rfl)]
   exact stay _ he2
 ·rw[if_pos (by rw[decide_eq_false he];rfl)]
  exact stay _ he
end Go.Proofs.YtkblaobhhoebaaaGreat.Abs
