/-
 What an act of another leaves of one that is open.
-/
import Derived.Test.YtkblaobhhoebaaaGreatYY14h
set_option linter.unusedVariables false
set_option linter.unusedSimpArgs false
namespace Go.Proofs.YtkblaobhhoebaaaGreat.Abs
theorem Aw7 {tx:Int} (h0:0≤tx) {key:List UInt8} (hk:st.kOk key=true):ss.srV ⟨tx,⟨key,key++[0],false⟩⟩=true:=by
 unfold st.kOk at hk
 rw [yD,decide_eq_true_eq,decide_eq_true_eq] at hk
 have h1:bf.emptyV ⟨key,key++[0],false⟩=false:=by
  unfold bf.emptyV
  have h2:key≠[]:=fun e=>by rw [e] at hk;simp at hk
  have h3:st.cmpL_swap (key++[0]) key=st.cmpL_swap (key++[0]) key:=rfl
  have h4:=st.cmpL_swap (key++[0]) key
  rw [st.cmpL_app0] at h4
  simp [h2,h4]
 have h2:=ss.sr_m ⟨tx,⟨key,key++[0],false⟩⟩
 unfold C4 D3 at h2
 dsimp only at h2
 rw [if_pos (decide_eq_true h0),if_pos (decide_eq_true (by omega)),if_pos (decide_eq_true (by rw [zG,yE];omega)),if_neg (by decide),zA,if_pos rfl,bf.empty_m,zA,h1] at h2
 exact (zD h2).symm
theorem Asm {e:Ah} {n:Nat} (h:EgI e n) (k:OpE e) {o:Bc} (ho:o ∈ e.Open) {key:List UInt8} (hk:st.kOk key=true) {e':Ah} {er:Int} (hr:G7 e o ⟨key,key++[0],false⟩=some (e',er)):er≠1:=by
 obtain ⟨g,g1,-⟩:=Ua h k ho
 obtain ⟨x,hx,e1,e2,-⟩:=k.ops o ho
 have hid:=(h.begun hx).1
 unfold G7 at hr
 rcases ss.read_s h.sc o.ID ⟨key,key++[0],false⟩ with ⟨hno,-⟩ | ⟨a,ha,a1,a2,⟨er2,her,e5⟩ | ⟨-,e5⟩ | ⟨rs,-,-,-,-,-,-,e5⟩⟩
 ·exact absurd e2 (hno x hx e1)
 ·rw [e5,zA] at hr
  have h8:er2=8:=by
   rcases her with ⟨-,hb⟩ | ⟨h8,-⟩
   ·exact absurd (Aw7 (by omega) hk) hb
   ·exact h8
  subst h8
  rw [if_pos (by show (!decide ((8:Int)=0))=true;decide),g1,zA] at hr
  simp only [zQ,Prod.mk.injEq] at hr
  omega
 ·rw [e5,zA,if_pos (by show (!decide ((10:Int)=0))=true;decide),g1,zA] at hr
  simp only [zQ,Prod.mk.injEq] at hr
  omega
 ·rw [e5,zA,if_neg (by show ¬ (!decide ((0:Int)=0))=true;decide)] at hr
  simp only [zQ,Prod.mk.injEq] at hr
  omega
theorem Ap5 {b:B3} (hb:b.L=[]) (key:List UInt8):Jn b key=some (⟨[],[],false⟩,false):=by
 unfold Jn
 obtain ⟨v,hv,hr⟩:=Dt (f:=Ft b key) (P:=fun s=>s=0) (μ:=fun _=>0) (R:=fun v=>v=.inr ()) (by
  rintro _ rfl
  unfold Ft
  rw [if_neg (by rw [hb];decide)]
  exact .inr (.inl ⟨_,rfl,rfl⟩)) fuel 0 rfl (Ci (zX _))
 rw [hv,hr];rfl
theorem Akx {e:Ah} {n:Nat} (h:EgI e n) (hn:n≤400) (k:OpE e) {o:Bc} (ho:o ∈ e.Open) (hro:o.RO=true) {key:List UInt8} (hk:st.kOk key=true) :
  ∃ e' v f er,Hs e o.ID key=some (e',v,f,er)∧(er=0∨er=8∨er=10)∧(er=0→B5 e.Store key o.Snap=some (v,f)∧EgI e' n∧OpE e'∧o ∈ e'.Open∧e'.Store=e.Store):=by
 have hkl:key.length≤16:=by
  unfold st.kOk at hk
  rw [yD,decide_eq_true_eq,decide_eq_true_eq] at hk
  omega
 unfold Hs
 rcases Zc h (by omega) k o.ID with ⟨o',ho',hid,hf⟩ | ⟨hno,-⟩
 ·obtain rfl:=k.id_eq ho' ho hid
  rw [hf,zA,if_neg (by show ¬ (!decide ((0:Int)=0))=true;decide)]
  dsimp only
  rw [st.kSane_m,hk,zA,if_neg (by decide),Ap5 (k.ro o' ho hro),zA,if_neg (by decide),bf.one_m key (by omega),zA]
  obtain ⟨f,er2,q1,q2,q3,q4,q5,q6,-⟩:=An3 h k ho ⟨key,key++[0],false⟩
  have hne:=Asm h k ho hk q1
  rw [q1,zA]
  dsimp only
  by_cases he:er2=0
  ·rw [if_neg (by rw [decide_eq_true he];decide),q4]
   have hg:∃ v,B5 e.Store key o'.Snap=some v:=by
    rcases st.get_m h.st (by omega) h.kl key o'.Snap with ⟨c,-,e1⟩ | ⟨-,e1⟩
    ·exact ⟨_,e1⟩
    ·exact ⟨_,e1⟩
   obtain ⟨v,hv⟩:=hg
   rw [hv]
   exact ⟨_,_,_,_,rfl,.inl rfl,fun _=>⟨rfl,q2,q3,by rw [(q5 he).1];exact ho,q4⟩⟩
  ·rw [if_pos (by rw [decide_eq_false he];rfl)]
   exact ⟨_,_,_,_,rfl,by rcases q6 with h | h | h | h <;> omega,fun h=>absurd h he⟩
 ·exact absurd rfl (hno o ho)
theorem A06 {e:Ah} {n:Nat} (h:EgI e n) (hn:n≤400) (k:OpE e) (o:Cv) (id:Int) (hk:o.Key.length≤50) {p:Bc} (hp:p ∈ e.Open) (hpi:p.ID≠id) (hpt:p.Token≠o.Token) :
  ∃ e' x,Nz e o id=some (e',x)∧((x.e_=1∧e'.Next=0)∨(EgI e' (n+1)∧OpE e'∧p ∈ e'.Open∧∀ key,B5 e'.Store key p.Snap=B5 e.Store key p.Snap)):=by
 have st_:∀ {S:Bw},S=e.Store→∀ key,B5 S key p.Snap=B5 e.Store key p.Snap:=fun hs key=>by rw [hs]
 unfold Nz
 by_cases c1:o.What≤1
 ·rw [if_pos (decide_eq_true c1)]
  obtain ⟨e',i,er,h1,h2,h3,h4,-,h5,-⟩:=Ag9 h hn k o.Token o.Attempt o.RO
  rw [h1]
  exact ⟨_,_,rfl,.inr ⟨h2,h3,h5 p hp hpt,st_ h4⟩⟩
 rw [if_neg (by rw [decide_eq_true_eq];exact c1)]
 by_cases c3:o.What≤3
 ·rw [if_pos (decide_eq_true c3)]
  obtain ⟨e',v,f,er,h1,h2,h3,h4,h5,-⟩:=Av0 h hn k id o.Key hk
  rw [h1]
  exact ⟨_,_,rfl,.inr ⟨h2,h3,h5 p hp hpi,st_ h4⟩⟩
 rw [if_neg (by rw [decide_eq_true_eq];exact c3)]
 by_cases c4:o.What=4
 ·rw [if_pos (decide_eq_true c4)]
  obtain ⟨e',l,er,h1,h2,h3,h4,h5,-⟩:=Arc h hn k id o.Rng
  rw [h1]
  exact ⟨_,_,rfl,.inr ⟨h2,h3,h5 p hp hpi,st_ h4⟩⟩
 rw [if_neg (by rw [decide_eq_true_eq];exact c4)]
 by_cases c7:o.What≤7
 ·rw [if_pos (decide_eq_true c7)]
  obtain ⟨e',er,h1,h2,h3,h4,-,h5,-⟩:=Avw h hn k id ⟨o.Key,o.Val,o.Del⟩
  rw [h1]
  exact ⟨_,_,rfl,.inr ⟨h2,h3,h5 p hp hpi,st_ h4⟩⟩
 rw [if_neg (by rw [decide_eq_true_eq];exact c7)]
 by_cases c10:o.What≤10
 ·rw [if_pos (decide_eq_true c10)]
  obtain ⟨e',ts,er,h1,h2,h3,h4,h5,-,h6⟩:=Ah5 h hn k id
  rw [h1]
  refine ⟨_,_,rfl,.inr ⟨h2,h3,h5 p hp hpi,?_⟩⟩
  by_cases he:er=0
  ·obtain ⟨q,hq,hqi,-,K',C',s,hl,hok,hK',-,-,hsn,hst⟩:=h6 he
   obtain ⟨x,hx,b1,b2,b3,-⟩:=k.ops p hp
   have hb:=(h.begun hx).2.2.2.1
   intro key
   show B5 e'.Store key p.Snap=_
   rw [hst]
   exact st.get_early h.st (by omega) h.kl hl hok hK' (hsn p hp (by omega)) (by omega) key
  ·exact st_ (h4 he)
 rw [if_neg (by rw [decide_eq_true_eq];exact c10)]
 by_cases c11:o.What=11
 ·rw [if_pos (decide_eq_true c11)]
  obtain ⟨e',er,h1,h2,h3,h4,-,h5,-⟩:=Akz h hn k id
  rw [h1]
  exact ⟨_,_,rfl,.inr ⟨h2,h3,h5 p hp hpi,st_ h4⟩⟩
 rw [if_neg (by rw [decide_eq_true_eq];exact c11)]
 by_cases c12:o.What=12
 ·rw [if_pos (decide_eq_true c12)]
  obtain ⟨e',ts,er,h1,h2⟩:=Ah1 h hn k o.Token o.Attempt
  rw [h1]
  refine ⟨_,_,rfl,?_⟩
  rcases h2 with h2 | ⟨h2,h3,h4,h5,-⟩
  ·exact .inl h2
  ·exact .inr ⟨h2,h3,h5 p hp hpt,st_ h4⟩
 rw [if_neg (by rw [decide_eq_true_eq];exact c12)]
 obtain ⟨e',er,h1,h2⟩:=Adr h hn k o.Token
 rw [h1]
 refine ⟨_,_,rfl,?_⟩
 rcases h2 with h2 | ⟨h2,h3,h4,h5,-⟩
 ·exact .inl h2
 ·exact .inr ⟨h2,h3,by show p ∈ e'.Open;rw [h5];exact hp,st_ h4⟩
end Go.Proofs.YtkblaobhhoebaaaGreat.Abs
