/-
 What keeps an engine sane.
-/
import Derived.Test.YtkblaobhhoebaaaGreatLW14a
set_option linter.unusedVariables false
set_option linter.unusedSimpArgs false
namespace Go.Proofs.YtkblaobhhoebaaaGreat.Abs
theorem OpE.tok_ne {e:Ab} (k:OpE e) {p o:Ax} (hp:p∈e.Open) (ho:o∈e.Open) (h:p.ID≠o.ID):p.Token≠o.Token:=λe1=>by
 have:=ss.pw_eq k.toks hp ho (λn=>n e1) (λn=>n e1.symm)
 rw[this] at h
 exact h rfl
theorem OpE.id_eq {e:Ab} (k:OpE e) {p o:Ax} (hp:p∈e.Open) (ho:o∈e.Open) (h:p.ID=o.ID):p=o :=
 ss.pw_eq k.ids hp ho (λn=>by omega) (λn=>by omega)
theorem T2 {e:Ab} (k:OpE e) {o:Ax} (ho:o∈e.Open) (S':Bc) (C':Ay) (T':A1) (N':Int)
  (h1:∀ x∈C'.Txs,x.State=1->x.ID≠o.ID/\∃ y∈e.Cert.Txs,y.ID=x.ID/\y.State=1)
  (h2:∀ p∈e.Open,p.ID≠o.ID->∃ x∈C'.Txs,x.ID=p.ID/\x.State=1/\x.Begin=p.Snap/\x.RO=p.RO)
  (h3:∀ t,t≠o.Token->fnd T'.L t=fnd e.Toks.L t):OpE ⟨S',C',T',e.Open.filter λx=>!decide (x.ID=o.ID),N'⟩:=by
 have hm:∀ {p:Ax},p∈(e.Open.filter λx=>!decide (x.ID=o.ID))↔p∈e.Open/\p.ID≠o.ID:=λ{p}=>by
  rw[yG];simp
 refine⟨λx hx hs=>?_,λp hp=>?_,λp hp=>k.ro p (hm.1 hp).1,k.ids.filter _,k.toks.filter _,λp hp=>?_⟩
 ·obtain⟨a1,y,hy,a2,a3⟩:=h1 x hx hs
  obtain⟨p,hp,hpi⟩:=k.act y hy a3
  exact⟨p,hm.2 ⟨hp,by omega⟩,by omega⟩
 ·exact h2 p (hm.1 hp).1 (hm.1 hp).2
 ·obtain⟨x,b1,b2⟩:=k.tks p (hm.1 hp).1
  exact⟨x,(h3 _ (k.tok_ne (hm.1 hp).1 ho (hm.1 hp).2)).trans b1,b2⟩
theorem Asm {e:Ab} {n:Nat} (h:EgI e n) (k:OpE e) {o:Ax} (ho:o∈e.Open):∃ C',C9 e.Cert o.ID=some C'/\C'.Txs=e.Cert.Txs.filter λx=>!decide (x.ID∈[o.ID]):=by
 obtain⟨x,hx,e1,e2,-⟩:=k.ops o ho
 rcases ss.abort_m h.sc o.ID with⟨hn,-⟩|⟨-,e3⟩
 ·exact absurd e2 (hn x hx e1)
 ·exact⟨_,e3,rfl⟩
theorem Xg {e:Ab} {n:Nat} (h:EgI e n) (k:OpE e) {o:Ax} (ho:o∈e.Open):∃ e',Cd e o=some e'/\EgI e' n/\OpE e'/\e'.Store=e.Store/\e'.Next=e.Next/\e'.Open=(e.Open.filter λx=>!decide (x.ID=o.ID)) /\
  (∀ t,t≠o.Token->fnd e'.Toks.L t=fnd e.Toks.L t):=by
 obtain⟨e',g1,g2,-,-⟩:=Ac5 h o
 refine⟨e',g1,g2,?_⟩
 have hop:=h.op
 unfold Cd at g1
 rw[Uv e o.ID omg,zA] at g1
 obtain⟨C',hab,hC⟩:=Asm h k ho
 obtain⟨l',m,er,hf,hf2,-⟩:=Aci h.tk o.Token o.Attempt
 have hm:∀ {x:Ao},x∈C'.Txs↔x∈e.Cert.Txs/\x.ID≠o.ID:=λ{x}=>by
  rw[hC,yG];simp
 have ha:∀ x∈C'.Txs,x.State=1->x.ID≠o.ID/\∃ y∈e.Cert.Txs,y.ID=x.ID/\y.State=1:=λx hx hs=>⟨(hm.1 hx).2,x,(hm.1 hx).1,rfl,hs⟩
 have hb:∀ p∈e.Open,p.ID≠o.ID->∃ x∈C'.Txs,x.ID=p.ID/\x.State=1/\x.Begin=p.Snap/\x.RO=p.RO:=λp hp hne=>by
  obtain⟨x,hx,b1,b2⟩:=k.ops p hp
  exact⟨x,hm.2 ⟨hx,by omega⟩,b1,b2⟩
 dsimp only at g1
 rw[hab,zA] at g1
 have hf':Co e.Toks o.Token o.Attempt=some (⟨l'⟩,m,er):=hf
 rw[hf',zA] at g1
 dsimp only at g1
 by_cases he:er=0
 ·rw[ifp he] at g1
  obtain rfl:=zD g1
  obtain⟨-,k2,-⟩:=hf2 he
  exact⟨T2 k ho _ _ _ _ ha hb k2,rfl,rfl,rfl,k2⟩
 ·rw[ifn he] at g1
  obtain rfl:=zD g1
  exact⟨T2 k ho _ _ _ _ ha hb (λ_ _=>rfl),rfl,rfl,rfl,λ_ _=>rfl⟩
def NT (e e':Ab):Prop:=∀ T,(∀ p∈e.Open,p.Token≠T)->fnd e.Toks.L T=none->fnd e'.Toks.L T=none/\∀ p∈e'.Open,p.Token≠T
theorem Pk (e:Ab):NT e e:=λ_ h1 h2=>⟨h2,h1⟩
theorem Ags {e e':Ab} {o:Ax} (ho:o∈e.Open) (h1:e'.Open=e.Open.filter λx=>!decide (x.ID=o.ID)) (h2:∀ t,t≠o.Token->fnd e'.Toks.L t=fnd e.Toks.L t):NT e e':=λT a1 a2 =>
 ⟨(h2 T (λe1=>a1 o ho e1.symm)).trans a2,λp hp=>by rw[h1] at hp;exact a1 p (yG.1 hp).1⟩
def NTt (e e':Ab) (tok:Int):Prop:=∀ T,T≠tok->(∀ p∈e.Open,p.Token≠T)->fnd e.Toks.L T=none->fnd e'.Toks.L T=none/\∀ p∈e'.Open,p.Token≠T
theorem Aq2 {e:Ab} {n:Nat} (h:EgI e n) (k:OpE e) {o:Ax} (ho:o∈e.Open) (r:Ar):∃ e' er,G2 e o r=some (e',er)/\EgI e' n/\OpE e'/\e'.Store=e.Store /\
  (er=0->e'.Open=e.Open/\e'.Next=e.Next)/\(er=0\/er=1\/er=8\/er=10)/\(∀ p∈e.Open,p.ID≠o.ID->p∈e'.Open)/\NT e e':=by
 obtain⟨x,hx,e1,e2,e3,e4⟩:=k.ops o ho
 have up:∀ er:Int,er≠0->(er=1\/er=8\/er=10)->Fp e.Cert o.ID r=some (ss.cN,er)->∃ e' er,G2 e o r=some (e',er)/\EgI e' n/\OpE e'/\e'.Store=e.Store/\(er=0->e'.Open=e.Open/\e'.Next=e.Next)/\(er=0\/er=1\/er=8\/er=10)/\(∀ p∈e.Open,p.ID≠o.ID->p∈e'.Open)/\NT e e':=λer he hr hc=>by
  obtain⟨e',g1,g2,g3,g4,-,g6,g7⟩:=Xg h k ho
  unfold G2
  rw[hc,zA,if_pos (by rw[decide_eq_false he];rfl),g1,zA]
  exact⟨_,_,rfl,g2,g3,g4,λh=>absurd h he,.inr hr,(λp hp hne=>by rw[g6];exact yG.2 ⟨hp,by simpa using hne⟩),Ags ho g6 g7⟩
 rcases ss.read_m h.sc o.ID r with⟨hno,-⟩|⟨a,ha,a1,a2,⟨er,her,e5⟩|⟨-,e5⟩|⟨rs,hg,r1,r2,r3,r4,r5,e5⟩⟩
 ·exact absurd e2 (hno x hx e1)
 ·exact up er (by rcases her with h|h <;> omega) (by rcases her with h|h;exact .inl h;exact .inr (.inl h.1)) e5
 ·exact up 10 omg omg e5
 ·unfold G2
  rw[e5,zA,if_neg (by show ¬ (!decide ((0:Int)=0))=true;decide)]
  refine⟨_,_,rfl,⟨h.st,h.kl,h.ts,h.tk,?_,h.op,h.bf,h.nx⟩,⟨λy hy hs=>?_,λp hp=>?_,k.ro,k.ids,k.toks,k.tks⟩,rfl,λ_=>⟨rfl,rfl⟩,.inl rfl,(λp hp _=>hp),Pk e⟩
  ·obtain⟨c',e',q1,q2⟩:=As0 h.cert o.ID r
   rw[e5] at q1
   simp only[zJ,Prod.mk.injEq] at q1
   obtain⟨rfl,rfl⟩:=q1
   exact q2 rfl
  ·obtain⟨z,hz,rfl⟩:=z8.1 hy
   obtain⟨f1,f2,f3,f4,f5,f6⟩:=ss.readF_id e.Cert.Txs a r z
   obtain⟨p,hp,hpi⟩:=k.act z hz (by rw[<- f4];exact hs)
   exact⟨p,hp,by rw[f1];exact hpi⟩
  ·obtain⟨z,hz,b1,b2,b3,b4⟩:=k.ops p hp
   obtain⟨f1,f2,f3,f4,f5,f6⟩:=ss.readF_id e.Cert.Txs a r z
   exact⟨_,z8.2 ⟨z,hz,rfl⟩,by rw[f1];exact b1,by rw[f4];exact b2,by rw[f2];exact b3,by rw[f5];exact b4⟩
def Arv (e:Ab) (tok att:Int) (ro:Bool):Ax:=⟨e.Next,tok,att,e.Store.Ts,ro,⟨[]⟩⟩
theorem Aof {f:Ab} {n:Nat} (h:EgI f n) (hn:n<=400) (k:OpE f) (tok att:Int) (ro:Bool) (hno:∀ o∈f.Open,o.Token=tok->att<=o.Attempt) :
  ∃ e' id er,Db tok att ro f=some (e',id,er)/\EgI e' (n+1)/\OpE e'/\e'.Store=f.Store/\(er≠0->e'=f) /\
   (er=0->id=f.Next/\e'.Open=f.Open++[Arv f tok att ro])/\NTt f e' tok/\(er≠0->fnd f.Toks.L tok=none->sN tok att=true->16<=f.Open.length\/f.Toks.L.length=32\/64<=f.Cert.Txs.length):=by
 have hop:=h.op
 have hts:=h.ts
 have hnx:=h.nx
 have stay:∀ er:Int,er≠0->(fnd f.Toks.L tok=none->sN tok att=true->16<=f.Open.length\/f.Toks.L.length=32\/64<=f.Cert.Txs.length)->∃ e' id er',some (f,(0:Int),er)=some (e',id,er')/\EgI e' (n+1)/\OpE e'/\e'.Store=f.Store/\(er'≠0->e'=f) /\
   (er'=0->id=f.Next/\e'.Open=f.Open++[Arv f tok att ro])/\NTt f e' tok/\(er'≠0->fnd f.Toks.L tok=none->sN tok att=true->16<=f.Open.length\/f.Toks.L.length=32\/64<=f.Cert.Txs.length):=λer he hw=>⟨_,_,_,rfl,h.up (xL n),k,rfl,(λ_=>rfl),(λh=>absurd h he),(λT _ a1 a2=>⟨a2,a1⟩),λ_=>hw⟩
 unfold Db
 split
 ·rename_i hbig
  rw[decide_eq_true_eq] at hbig
  omega
 split
 ·rename_i hbig
  rw[decide_eq_true_eq] at hbig
  exact stay _ dcd λ_ _=>.inl omg
 rename_i h16
 rw[decide_eq_true_eq] at h16
 obtain⟨l',er,hs,hs2,hs3⟩:=At3 h.tk tok att
 rw[show Iv f.Toks tok att=some (⟨l'⟩,er) from hs,zA]
 dsimp only
 by_cases he:er=0
 ·rw[if_neg (by rw[decide_eq_true he];decide)]
  obtain⟨k1,k2,k3,k4,k5⟩:=hs2 he
  have hst0:=h.st.t0
  obtain⟨c',er2,hc,hc2⟩:=Aor h.cert (by show f.Store.Ts<=1099511627776;omega) ro
  rw[hc,zA]
  by_cases he2:er2=0
  ·rw[if_neg (by rw[decide_eq_true he2];decide),Qr _ (by simp;omega) smp,zA,wIo]
   subst he2
   have hb:=ss.begin_m h.sc f.Next f.Store.Ts ro hnx.1 hst0 (by show f.Store.Ts<=1099511627776;omega)
   have hcc:c'=⟨f.Cert.Txs++[⟨f.Next,f.Store.Ts,0,1,false,false,ro,[]⟩],f.Cert.Reads⟩:=by
    rcases hb with⟨-,e⟩|⟨-,⟨-,e⟩|⟨-,e⟩⟩ <;> rw[hc] at e <;> simp only[zJ,Prod.mk.injEq] at e
    ·exact absurd e.2 dcd
    ·exact absurd e.2 dcd
    ·exact e.1
   subst hcc
   have hfl:([f.Open,[Arv f tok att ro]]:List (List Ax)).flatten=f.Open++[Arv f tok att ro]:=by simp
   have hk5:(∀ x,fnd f.Toks.L tok=some x->x.State≠2/\x.Attempt<att)/\fnd l' tok=some ⟨tok,att,1,0⟩:=by
    rcases k5 with⟨-,h1,h2⟩|⟨h1,-⟩|⟨h1,-⟩|⟨h1,-⟩
    ·exact⟨h1,h2⟩
    ·cases h1
    ·cases h1
    ·cases h1
   have hlt:∀ o∈f.Open,o.ID<f.Next:=λo ho=>(Abc h k ho).2.2
   have htk:∀ o∈f.Open,o.Token≠tok:=λo ho ht=>by
    obtain⟨x,b1,b2,b3⟩:=k.tks o ho
    rw[ht] at b1
    have:=(hk5.1 x b1).2
    have:=hno o ho ht
    omega
   refine⟨_,_,_,rfl,⟨h.st.mono (xL n),h.kl,by show f.Store.Ts<=((n+1:Nat):Int);omega,k1,hc2 rfl,?_,?_,by show 0<=f.Next+1;omega,by show f.Next+1<=((n+1:Nat):Int);omega⟩,?_,rfl,(λh=>absurd rfl h),(λ_=>⟨rfl,hfl⟩),(λT ht a1 a2=>⟨(k2 T ht).trans a2,λp hp=>?_⟩),λh=>absurd rfl h⟩
   rotate_left 3
   ·have hp:p∈f.Open++[Arv f tok att ro]:=by rw[<- hfl];exact hp
    rcases yC.1 hp with hp|hp
    ·exact a1 p hp
    ·rw[zP.1 hp];exact λe1=>ht e1.symm
   ·simp;omega
   ·intro o ho
    simp only[List.flatten_cons,List.flatten_nil,xG,yC,zP] at ho
    rcases ho with ho|rfl
    ·exact h.bf o ho
    ·exact bf.Good.nil
   ·show OpE ⟨f.Store,_,⟨l'⟩,([f.Open,[Arv f tok att ro]]:List (List Ax)).flatten,f.Next+1⟩
    rw[hfl]
    refine⟨λx hx hs=>?_,λp hp=>?_,λp hp hr=>?_,?_,?_,λp hp=>?_⟩
    ·rcases yC.1 hx with hx|hx
     ·obtain⟨o,ho,hid⟩:=k.act x hx hs
      exact⟨o,xN _ ho,hid⟩
     ·rw[zP.1 hx]
      exact⟨Arv f tok att ro,wA _ (zP.2 rfl),rfl⟩
    ·rcases yC.1 hp with hp|hp
     ·obtain⟨x,hx,b⟩:=k.ops p hp
      exact⟨x,xN _ hx,b⟩
     ·rw[zP.1 hp]
      exact⟨_,wA _ (zP.2 rfl),rfl,rfl,rfl,rfl⟩
    ·rcases yC.1 hp with hp|hp
     ·exact k.ro p hp hr
     ·rw[zP.1 hp];rfl
    ·exact wN.2 ⟨k.ids,wT _ _,λa ha b hb=>by rw[zP.1 hb];exact hlt a ha⟩
    ·exact wN.2 ⟨k.toks,wT _ _,λa ha b hb=>by rw[zP.1 hb];exact htk a ha⟩
    ·rcases yC.1 hp with hp|hp
     ·obtain⟨x,b1,b2⟩:=k.tks p hp
      exact⟨x,(k2 _ (htk p hp)).trans b1,b2⟩
     ·rw[zP.1 hp]
      exact⟨_,hk5.2,rfl,rfl⟩
  ·rw[if_pos (by rw[decide_eq_false he2];rfl)]
   refine stay _ he2 λ_ _=>.inr (.inr ?_)
   have hb:=ss.begin_m h.sc f.Next f.Store.Ts ro hnx.1 hst0 (by show f.Store.Ts<=1099511627776;omega)
   rcases hb with⟨⟨x,hx,e1⟩,-⟩|⟨-,⟨h64,-⟩|⟨-,e⟩⟩
   ·have:=(h.begun hx).2.1;omega
   ·exact h64
   ·rw[hc] at e
    simp only[zJ,Prod.mk.injEq] at e
    exact absurd e.2 he2
 ·rw[if_pos (by rw[decide_eq_false he];rfl)]
  refine stay _ he λh1 h2=>.inr (.inl ?_)
  have:=hs3 h1 h2
  split at this
  ·assumption
  ·exact absurd this he
end Go.Proofs.YtkblaobhhoebaaaGreat.Abs
