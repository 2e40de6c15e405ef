/-
 What keeps an engine sane.
-/
import Derived.Test.YtkblaobhhoebaaaGreatWW14a
set_option linter.unusedVariables false
set_option linter.unusedSimpArgs false
namespace Go.Proofs.YtkblaobhhoebaaaGreat.Abs
theorem OpE.tok_ne {e:Ah} (k:OpE e) {p o:Be} (hp:p ∈ e.Open) (ho:o ∈ e.Open) (h:p.ID≠o.ID):p.Token≠o.Token:=fun e1=>by
 have:=ss.pw_eq k.toks hp ho (fun n=>n e1) (fun n=>n e1.symm)
 rw [this] at h
 exact h rfl
theorem OpE.id_eq {e:Ah} (k:OpE e) {p o:Be} (hp:p ∈ e.Open) (ho:o ∈ e.Open) (h:p.ID=o.ID):p=o :=
 ss.pw_eq k.ids hp ho (fun n=>by omega) (fun n=>by omega)
theorem T5 {e:Ah} (k:OpE e) {o:Be} (ho:o ∈ e.Open) (S':Bu) (C':Bc) (T':Bi) (N':Int)
  (h1:∀ x ∈ C'.Txs,x.State=1→x.ID≠o.ID∧∃ y ∈ e.Cert.Txs,y.ID=x.ID∧y.State=1)
  (h2:∀ p ∈ e.Open,p.ID≠o.ID→∃ x ∈ C'.Txs,x.ID=p.ID∧x.State=1∧x.Begin=p.Snap∧x.RO=p.RO)
  (h3:∀ t,t≠o.Token→fnd T'.L t=fnd e.Toks.L t):OpE ⟨S',C',T',e.Open.filter fun x=>!decide (x.ID=o.ID),N'⟩:=by
 have hm:∀ {p:Be},p ∈ (e.Open.filter fun x=>!decide (x.ID=o.ID)) ↔ p ∈ e.Open∧p.ID≠o.ID:=fun {p}=>by
  rw [yZ];simp
 refine ⟨fun x hx hs=>?_,fun p hp=>?_,fun p hp=>k.ro p (hm.1 hp).1,k.ids.filter _,k.toks.filter _,fun p hp=>?_⟩
 ·obtain ⟨a1,y,hy,a2,a3⟩:=h1 x hx hs
  obtain ⟨p,hp,hpi⟩:=k.act y hy a3
  exact ⟨p,hm.2 ⟨hp,by omega⟩,by omega⟩
 ·exact h2 p (hm.1 hp).1 (hm.1 hp).2
 ·obtain ⟨x,b1,b2⟩:=k.tks p (hm.1 hp).1
  exact ⟨x,(h3 _ (k.tok_ne (hm.1 hp).1 ho (hm.1 hp).2)).trans b1,b2⟩
theorem At2 {e:Ah} {n:Nat} (h:EgI e n) (k:OpE e) {o:Be} (ho:o ∈ e.Open):∃ C',Ea e.Cert o.ID=some C'∧C'.Txs=e.Cert.Txs.filter fun x=>!decide (x.ID ∈ [o.ID]):=by
 obtain ⟨x,hx,e1,e2,-⟩:=k.ops o ho
 rcases ss.abort_m h.sc o.ID with ⟨hn,-⟩ | ⟨-,e3⟩
 ·exact absurd e2 (hn x hx e1)
 ·exact ⟨_,e3,rfl⟩
theorem W5 {e:Ah} {n:Nat} (h:EgI e n) (k:OpE e) {o:Be} (ho:o ∈ e.Open):∃ e',Cv e o=some e'∧EgI e' n∧OpE e'∧e'.Store=e.Store∧e'.Next=e.Next∧e'.Open=(e.Open.filter fun x=>!decide (x.ID=o.ID)) ∧
  (∀ t,t≠o.Token→fnd e'.Toks.L t=fnd e.Toks.L t):=by
 obtain ⟨e',g1,g2,-,-⟩:=Ahw h o
 refine ⟨e',g1,g2,?_⟩
 have hop:=h.op
 unfold Cv at g1
 rw [Zc e o.ID (by omega),zA] at g1
 obtain ⟨C',hab,hC⟩:=At2 h k ho
 obtain ⟨l',m,er,hf,hf2,-⟩:=Ab8 h.tk o.Token o.Attempt
 have hm:∀ {x:A2},x ∈ C'.Txs ↔ x ∈ e.Cert.Txs∧x.ID≠o.ID:=fun {x}=>by
  rw [hC,yZ];simp
 have ha:∀ x ∈ C'.Txs,x.State=1→x.ID≠o.ID∧∃ y ∈ e.Cert.Txs,y.ID=x.ID∧y.State=1:=fun x hx hs=>⟨(hm.1 hx).2,x,(hm.1 hx).1,rfl,hs⟩
 have hb:∀ p ∈ e.Open,p.ID≠o.ID→∃ x ∈ C'.Txs,x.ID=p.ID∧x.State=1∧x.Begin=p.Snap∧x.RO=p.RO:=fun p hp hne=>by
  obtain ⟨x,hx,b1,b2⟩:=k.ops p hp
  exact ⟨x,hm.2 ⟨hx,by omega⟩,b1,b2⟩
 dsimp only at g1
 rw [hab,zA] at g1
 have hf':Cq e.Toks o.Token o.Attempt=some (⟨l'⟩,m,er):=hf
 rw [hf',zA] at g1
 dsimp only at g1
 by_cases he:er=0
 ·rw [if_pos (decide_eq_true he)] at g1
  obtain rfl:=zD g1
  obtain ⟨-,k2,-⟩:=hf2 he
  exact ⟨T5 k ho _ _ _ _ ha hb k2,rfl,rfl,rfl,k2⟩
 ·rw [if_neg (by rw [decide_eq_true_eq];exact he)] at g1
  obtain rfl:=zD g1
  exact ⟨T5 k ho _ _ _ _ ha hb (fun _ _=>rfl),rfl,rfl,rfl,fun _ _=>rfl⟩
def Ok2 (e':Ah) (n:Nat) (er:Int):Prop:=(er=1∧e'.Next=0)∨(EgI e' (n+1)∧OpE e')
theorem Aom {e:Ah} {n:Nat} (h:EgI e n) (k:OpE e) (er:Int):Ok2 e n er:=.inr ⟨h.up (xE n),k⟩
theorem Aq0 {e:Ah} {n:Nat} (h:EgI e n) (k:OpE e) (er:Int):∃ e',Dk e er=some e'∧Ok2 e' n er:=by
 unfold Dk
 by_cases h1:er=1
 ·rw [if_pos (decide_eq_true h1)]
  exact ⟨_,rfl,.inl ⟨h1,rfl⟩⟩
 ·rw [if_neg (by rw [decide_eq_true_eq];exact h1)]
  exact ⟨_,rfl,Aom h k er⟩
theorem Aqx {e:Ah} {n:Nat} (h:EgI e n) (k:OpE e) {o:Be} (ho:o ∈ e.Open) (r:Bg):∃ e' er,K0 e o r=some (e',er)∧EgI e' n∧OpE e'∧e'.Store=e.Store ∧
  (er=0→e'.Open=e.Open∧e'.Next=e.Next)∧(er=0∨er=1∨er=8∨er=10):=by
 obtain ⟨x,hx,e1,e2,e3,e4⟩:=k.ops o ho
 have up:∀ er:Int,er≠0→(er=1∨er=8∨er=10)→F6 e.Cert o.ID r=some (ss.cN,er)→∃ e' er,K0 e o r=some (e',er)∧EgI e' n∧OpE e'∧e'.Store=e.Store∧(er=0→e'.Open=e.Open∧e'.Next=e.Next)∧(er=0∨er=1∨er=8∨er=10):=fun er he hr hc=>by
  obtain ⟨e',g1,g2,g3,g4,-⟩:=W5 h k ho
  unfold K0
  rw [hc,zA,if_pos (by rw [decide_eq_false he];rfl),g1,zA]
  exact ⟨_,_,rfl,g2,g3,g4,fun h=>absurd h he,.inr hr⟩
 rcases ss.read_m h.sc o.ID r with ⟨hno,-⟩ | ⟨a,ha,a1,a2,⟨er,her,e5⟩ | ⟨-,e5⟩ | ⟨rs,hg,r1,r2,r3,r4,r5,e5⟩⟩
 ·exact absurd e2 (hno x hx e1)
 ·exact up er (by rcases her with h | h <;> omega) (by rcases her with h | h;exact .inl h;exact .inr (.inl h.1)) e5
 ·exact up 10 (by omega) (by omega) e5
 ·unfold K0
  rw [e5,zA,if_neg (by show ¬ (!decide ((0:Int)=0))=true;decide)]
  refine ⟨_,_,rfl,⟨h.st,h.kl,h.ts,h.tk,?_,h.op,h.bf,h.nx⟩,⟨fun y hy hs=>?_,fun p hp=>?_,k.ro,k.ids,k.toks,k.tks⟩,rfl,fun _=>⟨rfl,rfl⟩,.inl rfl⟩
  ·obtain ⟨c',e',q1,q2⟩:=Ate h.cert o.ID r
   rw [e5] at q1
   simp only [zV,Prod.mk.injEq] at q1
   obtain ⟨rfl,rfl⟩:=q1
   exact q2 rfl
  ·obtain ⟨z,hz,rfl⟩:=yP.1 hy
   obtain ⟨f1,f2,f3,f4,f5,f6⟩:=ss.readF_id e.Cert.Txs a r z
   obtain ⟨p,hp,hpi⟩:=k.act z hz (by rw [← f4];exact hs)
   exact ⟨p,hp,by rw [f1];exact hpi⟩
  ·obtain ⟨z,hz,b1,b2,b3,b4⟩:=k.ops p hp
   obtain ⟨f1,f2,f3,f4,f5,f6⟩:=ss.readF_id e.Cert.Txs a r z
   exact ⟨_,yP.2 ⟨z,hz,rfl⟩,by rw [f1];exact b1,by rw [f4];exact b2,by rw [f2];exact b3,by rw [f5];exact b4⟩
def Asz (e:Ah) (tok att:Int) (ro:Bool):Be:=⟨e.Next,tok,att,e.Store.Ts,ro,⟨[]⟩⟩
theorem Aqu {f:Ah} {n:Nat} (h:EgI f n) (hn:n≤400) (k:OpE f) (tok att:Int) (ro:Bool) (hno:∀ o ∈ f.Open,o.Token=tok→att≤o.Attempt) :
  ∃ e' id er,Fh tok att ro f=some (e',id,er)∧EgI e' (n+1)∧OpE e'∧e'.Store=f.Store∧(er≠0→e'=f) ∧
   (er=0→id=f.Next∧e'.Open=f.Open++[Asz f tok att ro]):=by
 have hop:=h.op
 have hts:=h.ts
 have hnx:=h.nx
 have stay:∀ er:Int,er≠0→∃ e' id er',some (f,(0:Int),er)=some (e',id,er')∧EgI e' (n+1)∧OpE e'∧e'.Store=f.Store∧(er'≠0→e'=f) ∧
   (er'=0→id=f.Next∧e'.Open=f.Open++[Asz f tok att ro]):=fun er he=>⟨_,_,_,rfl,h.up (xE n),k,rfl,fun _=>rfl,fun h=>absurd h he⟩
 unfold Fh
 split
 ·exact stay _ (by decide)
 split
 ·exact stay _ (by decide)
 rename_i h16
 rw [decide_eq_true_eq] at h16
 obtain ⟨l',er,hs,hs2,-⟩:=As0 h.tk tok att
 rw [show Ii f.Toks tok att=some (⟨l'⟩,er) from hs,zA]
 dsimp only
 by_cases he:er=0
 ·rw [if_neg (by rw [decide_eq_true he];decide)]
  obtain ⟨k1,k2,k3,k4,k5⟩:=hs2 he
  have hst0:=h.st.t0
  obtain ⟨c',er2,hc,hc2⟩:=Aoi h.cert (by show f.Store.Ts≤1099511627776;omega) ro
  rw [hc,zA]
  by_cases he2:er2=0
  ·rw [if_neg (by rw [decide_eq_true he2];decide),Vz _ (by simp;omega) (by simp),zA,Cb (by omega) (by omega)]
   subst he2
   have hb:=ss.begin_m h.sc f.Next f.Store.Ts ro hnx.1 hst0 (by show f.Store.Ts≤1099511627776;omega)
   have hcc:c'=⟨f.Cert.Txs++[⟨f.Next,f.Store.Ts,0,1,false,false,ro,[]⟩],f.Cert.Reads⟩:=by
    rcases hb with ⟨-,e⟩ | ⟨-,⟨-,e⟩ | ⟨-,e⟩⟩ <;> rw [hc] at e <;> simp only [zV,Prod.mk.injEq] at e
    ·exact absurd e.2 (by decide)
    ·exact absurd e.2 (by decide)
    ·exact e.1
   subst hcc
   have hfl:([f.Open,[Asz f tok att ro]]:List (List Be)).flatten=f.Open++[Asz f tok att ro]:=by simp
   have hk5:(∀ x,fnd f.Toks.L tok=some x→x.State≠2∧x.Attempt<att)∧fnd l' tok=some ⟨tok,att,1,0⟩:=by
    rcases k5 with ⟨-,h1,h2⟩ | ⟨h1,-⟩ | ⟨h1,-⟩ | ⟨h1,-⟩
    ·exact ⟨h1,h2⟩
    ·cases h1
    ·cases h1
    ·cases h1
   have hlt:∀ o ∈ f.Open,o.ID<f.Next:=fun o ho=>(Ab0 h k ho).2.2
   have htk:∀ o ∈ f.Open,o.Token≠tok:=fun o ho ht=>by
    obtain ⟨x,b1,b2,b3⟩:=k.tks o ho
    rw [ht] at b1
    have:=(hk5.1 x b1).2
    have:=hno o ho ht
    omega
   refine ⟨_,_,_,rfl,⟨h.st.mono (xE n),h.kl,by show f.Store.Ts≤((n+1:Nat):Int);omega,k1,hc2 rfl,?_,?_,by show 0≤f.Next+1;omega,by show f.Next+1≤((n+1:Nat):Int);omega⟩,?_,rfl,fun h=>absurd rfl h,fun _=>⟨rfl,hfl⟩⟩
   ·simp;omega
   ·intro o ho
    simp only [List.flatten_cons,List.flatten_nil,xF,yL,zW] at ho
    rcases ho with ho | rfl
    ·exact h.bf o ho
    ·exact bf.Good.nil
   ·show OpE ⟨f.Store,_,⟨l'⟩,([f.Open,[Asz f tok att ro]]:List (List Be)).flatten,f.Next+1⟩
    rw [hfl]
    refine ⟨fun x hx hs=>?_,fun p hp=>?_,fun p hp hr=>?_,?_,?_,fun p hp=>?_⟩
    ·rcases yL.1 hx with hx | hx
     ·obtain ⟨o,ho,hid⟩:=k.act x hx hs
      exact ⟨o,wS _ ho,hid⟩
     ·rw [zW.1 hx]
      exact ⟨Asz f tok att ro,wP _ (zW.2 rfl),rfl⟩
    ·rcases yL.1 hp with hp | hp
     ·obtain ⟨x,hx,b⟩:=k.ops p hp
      exact ⟨x,wS _ hx,b⟩
     ·rw [zW.1 hp]
      exact ⟨_,wP _ (zW.2 rfl),rfl,rfl,rfl,rfl⟩
    ·rcases yL.1 hp with hp | hp
     ·exact k.ro p hp hr
     ·rw [zW.1 hp];rfl
    ·exact wT.2 ⟨k.ids,wL _ _,fun a ha b hb=>by rw [zW.1 hb];exact hlt a ha⟩
    ·exact wT.2 ⟨k.toks,wL _ _,fun a ha b hb=>by rw [zW.1 hb];exact htk a ha⟩
    ·rcases yL.1 hp with hp | hp
     ·obtain ⟨x,b1,b2⟩:=k.tks p hp
      exact ⟨x,(k2 _ (htk p hp)).trans b1,b2⟩
     ·rw [zW.1 hp]
      exact ⟨_,hk5.2,rfl,rfl⟩
  ·rw [if_pos (by rw [decide_eq_false he2];rfl)]
   exact stay _ he2
 ·rw [if_pos (by rw [decide_eq_false he];rfl)]
  exact stay _ he
end Go.Proofs.YtkblaobhhoebaaaGreat.Abs
