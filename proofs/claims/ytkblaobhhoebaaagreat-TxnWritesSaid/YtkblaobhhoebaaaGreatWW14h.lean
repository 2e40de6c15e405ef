/-
 TxnWrites: what is written is there.
-/
import Derived.Test.YtkblaobhhoebaaaGreatWW14g
set_option linter.unusedVariables false
set_option linter.unusedSimpArgs false
namespace Go.Proofs.YtkblaobhhoebaaaGreat.Abs
theorem Aj2 {l:List Be} (hp:l.Pairwise fun a b=>a.ID<b.ID) {o:Be} (ho:o ∈ l):(l.filter fun x=>!decide (x.ID=o.ID)).length+1=l.length:=by
 induction l with
 | nil=>cases ho
 | cons a l ih =>
  have hp':=wH.1 hp
  rcases yM.1 ho with rfl | ho'
  ·rw [kH,if_neg (by simp),zAa.2 (fun x hx=>by have:=hp'.1 x hx;rw [xW,decide_eq_false_iff_not];omega),yT]
  ·have:=hp'.1 o ho'
   rw [kH,if_pos (by rw [xW,decide_eq_false_iff_not];omega),yT,yT,ih hp'.2 ho']
def Ah8 (good B:List Av):Prop:=∀ (q:Nat) (w:Av),good[q]? = some w→(∀ (p:Nat) (w':Av),q<p→good[p]? = some w'→w'.Key≠w.Key)→w ∈ B
theorem Ah8.step {good B:List Av} (h:Ah8 good B) (u:Av):Ah8 (good++[u]) (bf.setR B u):=by
 intro q w hq hl
 rw [bf.setR_mem]
 rcases zO q good.length with hlt | hge
 ·rw [zK hlt] at hq
  have hne:=hl good.length u hlt (by rw [zX (zN _),kU];rfl)
  refine .inr ⟨h q w hq fun p w' hp hw=>hl p w' hp ?_,fun e=>hne e.symm⟩
  rw [zK (zC.1 hw).1];exact hw
 ·rw [zX hge] at hq
  have hb:=(zC.1 hq).1
  rw [yE] at hb
  have:q-good.length=0:=by omega
  rw [this] at hq
  cases hq
  exact .inl rfl
structure Fil (S0:Bu) (id:Int) (n:Nat) (e:Ah) (good:List Av):Prop where
 eg:EgI e n
 op:OpE e
 st:e.Store=S0
 my:∃ o ∈ e.Open,o.ID=id∧Ah8 good o.Buf.L
theorem Au9 {S0:Bu} {id:Int} {n:Nat} {e:Ah} (h:Fil S0 id n e []) (a1:List Av) (hl:a1.length≤20) (hn:n≤300) (v5:Ah × Int × Int) (hv:v5.2.1=id) :
  ∃ x,Lj (E6 a1 true v5) fuel (0,e,[])=some x∧(x=.inl true∨∃ f good,x=.inr (f,good)∧Fil S0 id (n+a1.length) f good∧good.length≤20):=by
 obtain ⟨x,hx,hr⟩:=Dh (f:=E6 a1 true v5) (P:=fun s=>∃ j:Nat,j≤a1.length∧s.1=(j:Int)∧Fil S0 id (n+j) s.2.1 s.2.2∧s.2.2.length≤j) (μ:=fun s=>a1.length-s.1.toNat)
  (R:=fun x=>x=.inl true∨∃ f good,x=.inr (f,good)∧Fil S0 id (n+a1.length) f good∧good.length≤20) (by
   rintro ⟨_,f,good⟩ ⟨j,hj,rfl,hf,hg⟩
   dsimp only at hf hg
   unfold E6
   dsimp only
   rcases zO j a1.length with hlt | hge
   ·have hw:wI ((j:Int)+1)=((j+1:Nat):Int):=Cb (by omega) (by omega)
    rw [if_pos (decide_eq_true (by omega)),Bn,zB hlt,zA,zA]
    split
    ·exact .inr (.inr ⟨_,rfl,.inl rfl⟩)
    split
    ·exact .inr (.inr ⟨_,rfl,.inl rfl⟩)
    unfold Jv
    dsimp only
    obtain ⟨f',er,q1,q2,q3,q4,q5⟩:=Awt hf.eg (by omega) hf.op id a1[j]
    rw [Bn,zB hlt,zA,hv,q1,zA]
    dsimp only
    split
    ·exact .inr (.inr ⟨_,rfl,.inl rfl⟩)
    split
    ·rename_i h0
     rw [decide_eq_true_eq] at h0
     obtain ⟨o,ho,hid,-,-,o',ho',hid',hb',-,-⟩:=q5 h0
     obtain ⟨p,hp,hpi,hpl⟩:=hf.my
     obtain rfl:=hf.op.id_eq hp ho (by omega)
     rw [zA,if_pos (by rw [yE];omega),hw]
     exact .inl ⟨_,rfl,⟨j+1,hlt,rfl,⟨q2,q3,q4.trans hf.st,o',ho',hid',by rw [hb'];exact hpl.step _⟩,by show (good++[_]).length≤_;rw [zH,yE];omega⟩,by simp only [zR];omega⟩
    ·rw [hw]
     exact .inl ⟨_,rfl,⟨j+1,hlt,rfl,⟨hf.eg.up (by omega),hf.op,hf.st,hf.my⟩,by show good.length≤_;omega⟩,by simp only [zR];omega⟩
   ·have e1:j=a1.length:=by omega
    subst e1
    rw [if_neg (by rw [decide_eq_true_eq];omega)]
    exact .inr (.inl ⟨_,rfl,.inr ⟨f,good,rfl,hf,by omega⟩⟩)) fuel (0,e,[]) ⟨0,zY _,rfl,h,zN _⟩ (Ce (by show a1.length-0≤_;omega))
 exact ⟨x,hx,hr⟩
theorem Azb (good:List Av) (hl:good.length≤20) (b6:Ah × List Av) (hb:b6.2=good) {j:Nat} (hj:j<good.length) :
  ∃ b,Ct (Fe b6 (j:Int)) fuel (true,((j+1:Nat):Int))=some b∧(b=true→∀ (p:Nat) (w':Av),j<p→good[p]? = some w'→w'.Key≠good[j].Key):=by
 subst hb
 obtain ⟨b,h1,h2⟩:=C9 (f:=Fe b6 (j:Int)) (P:=fun s=>∃ p:Nat,p≤b6.2.length∧s.2=(p:Int)∧(s.1=true→∀ (q:Nat) (w':Av),j<q→q<p→b6.2[q]? = some w'→w'.Key≠b6.2[j].Key)) (μ:=fun s=>b6.2.length-s.2.toNat)
  (R:=fun b=>b=true→∀ (p:Nat) (w':Av),j<p→b6.2[p]? = some w'→w'.Key≠b6.2[j].Key) (by
   rintro ⟨b,_⟩ ⟨p,hp,rfl,hk⟩
   dsimp only at hk
   unfold Fe
   dsimp only
   rcases zO p b6.2.length with hlt | hge
   ·left
    have hw:wI ((p:Int)+1)=((p+1:Nat):Int):=Cb (by omega) (by omega)
    rw [if_pos (decide_eq_true (by omega)),hw]
    cases b with
    | true =>
     rw [if_pos rfl,Bn,zB hlt,zA,Bn,zB hj,zA]
     refine ⟨_,rfl,⟨p+1,hlt,rfl,fun he q w' h1 h2 h3=>?_⟩,by simp only [zR];omega⟩
     rcases zO q p with h4 | h4
     ·exact hk rfl q w' h1 h4 h3
     ·have:q=p:=by omega
      subst this
      rw [zB hlt] at h3
      cases h3
      intro e
      rw [e] at he
      simp at he
    | false =>
     rw [if_neg (by decide)]
     exact ⟨_,rfl,⟨p+1,hlt,rfl,fun he=>by cases he⟩,by simp only [zR];omega⟩
   ·right
    rw [if_neg (by rw [decide_eq_true_eq];omega)]
    exact ⟨_,rfl,fun he q w' h1 h2=>hk he q w' h1 (by have:=(zC.1 h2).1;omega) h2⟩) fuel (true,((j+1:Nat):Int)) ⟨j+1,hj,rfl,fun _ q w' h1 h2=>by omega⟩ (Ce (by show b6.2.length-_≤_;omega))
 exact ⟨b,h1,h2⟩
theorem Aau (a0:List Fq) (a1:List Av) (a2:Bool):N0 a0 a1 a2=some true:=by
 unfold N0
 rw [Asi,zA]
 obtain ⟨v,hv,hs⟩:=Atj a0
 rw [hv,zA]
 split
 ·rfl
 rename_i hvt
 have hvt:v=true:=by simpa using hvt
 obtain ⟨h80,hkey⟩:=hs hvt
 split
 ·rfl
 rename_i h20
 rw [decide_eq_true_eq] at h20
 unfold K7
 obtain ⟨e,d,hp,he,ho⟩:=Ao0 a0 h80 hkey
 rw [hp,zA]
 dsimp only
 obtain ⟨L,hL,hLl⟩:=Aqc he (by omega)
 rw [hL,zA]
 obtain ⟨f,id,er,b1,b2,b3,b4,b5⟩:=Aml he (by omega) ho 1073741824 1 false
 rw [b1,zA]
 dsimp only
 split
 ·rfl
 rename_i her
 have her:er=0:=by simpa using her
 obtain ⟨o,ho1,ho2,ho3,ho4,ho5,ho6⟩:=b5 her
 have hf0:Fil e.Store id (a0.length+1) f []:=⟨b2,b3,b4,o,ho1,ho2,fun q w hq=>by simp at hq⟩
 obtain ⟨x,hx,hr⟩:=Au9 hf0 a1 (by omega) (by omega) (f,id,er) rfl
 rw [hx,zA]
 rcases hr with rfl | ⟨g,good,rfl,hg,hgl⟩
 ·rfl
 dsimp only
 unfold Lb
 dsimp only
 obtain ⟨o,ho1,ho2,hlast⟩:=hg.my
 have hlat:∀ S:Bu,S=e.Store→Fj S=some L:=fun S hS=>by rw [hS];exact hL
 split
 ·obtain ⟨f2,er2,q1,q2,q3,q4,q5⟩:=Alb hg.eg (by omega) hg.op id
  rw [q1,zA,if_pos rfl]
  dsimp only
  rw [if_pos (decide_eq_true (q5 ⟨o,ho1,ho2⟩)),hlat f2.Store (q4.trans hg.st),zA,Ajc L hLl]
  rfl
 ·obtain ⟨f2,ts,er2,q1,q2,q3,q4,q5⟩:=Aig hg.eg (by omega) hg.op id
  rw [q1,zA]
  dsimp only
  split
  ·rename_i hne
   have hne:er2≠0:=by simpa using hne
   rw [if_pos rfl,hlat f2.Store ((q4 hne).trans hg.st),zA,Ajc L hLl]
   rfl
  ·rename_i hz
   have hz:er2=0:=by simpa using hz
   obtain ⟨p,hp1,hp2,hop,K',C',q,hlaid,hok,hK',hwo,hq,hst⟩:=q5 hz
   obtain rfl:=hg.op.id_eq ho1 hp1 (by omega)
   have hts:f2.Store.Ts=g.Store.Ts+1:=by rw [hst]
   have hgts:=hg.eg.ts
   have hgst:=hg.eg.st.t0
   obtain ⟨x,hx,hxr⟩:=Dh (f:=G5 (g,good) (f2,ts,er2)) (P:=fun s=>∃ j:Nat,j≤good.length∧s=(j:Int)) (μ:=fun s=>good.length-s.toNat) (R:=fun v=>v=.inr ()) (by
    rintro _ ⟨j,hj,rfl⟩
    unfold G5
    dsimp only
    rcases zO j good.length with hlt | hge
    ·left
     have hw:wI ((j:Int)+1)=((j+1:Nat):Int):=Cb (by omega) (by omega)
     rw [if_pos (decide_eq_true (by omega)),hw]
     obtain ⟨b,hb1,hb2⟩:=Azb good hgl (g,good) rfl hlt
     rw [hb1,zA]
     unfold Jz
     dsimp only
     rw [Bn,zB hlt,zA]
     have nx:∃ s',(some (LR.cont ((j+1:Nat):Int)):Option (LR Int Unit Bool))=some (LR.cont s')∧(∃ j:Nat,j≤good.length∧s'=(j:Int))∧good.length-s'.toNat<good.length-(j:Int).toNat:=⟨_,rfl,⟨j+1,hlt,rfl⟩,by simp only [zR];omega⟩
     cases b with
     | false =>
      have hg2:∃ v,Ez f2.Store good[j].Key f2.Store.Ts=some v:=by
       rcases st.get_m q2.st (by omega) q2.kl good[j].Key f2.Store.Ts with ⟨c,-,e1⟩ | ⟨-,e1⟩
       ·exact ⟨_,e1⟩
       ·exact ⟨_,e1⟩
      obtain ⟨v,hv⟩:=hg2
      rw [hv,zA,if_neg (by decide),hw]
      exact nx
     | true =>
      have hmem:=hlast j good[j] (zB hlt) (hb2 rfl)
      obtain ⟨c,hc⟩:=hlaid.is _ hmem
      have hgrew:=hlaid.new _ hmem c hc
      have hcs:st.OkC c.L:=by
       obtain ⟨i,_,hi⟩:=hc
       exact (hok.cs c (zI hi)).2.1
      obtain ⟨l0,hl0⟩:∃ l0,c.L=l0++[st.ver (g.Store.Ts+1) good[j]]:=by
       rcases hgrew with ⟨c0,-,e1⟩ | ⟨-,e1⟩
       ·exact ⟨_,e1⟩
       ·exact ⟨[],e1⟩
      have hval:st.valC c.L f2.Store.Ts=if good[j].Del then ([],false) else (good[j].Val,true):=by
       rw [hl0] at hcs ⊢
       exact st.valC_late hcs (by show g.Store.Ts+1≤_;omega)
      have hget:Ez f2.Store good[j].Key f2.Store.Ts=some (st.valC c.L f2.Store.Ts):=by
       have:=st.get_vac hok (by omega) hK' (o:=q) (t:=f2.Store.Ts) (by omega) hc
       rw [hts] at this ⊢
       rw [hst];exact this
      rw [hget,zA,hval,if_pos rfl,zA,zA,hw]
      have hwok:=hwo _ hmem
      cases hdel:good[j].Del with
      | false =>
       simp only [kY,if_false,zAb,beq_self_eq_true,jJ]
       exact nx
      | true =>
       have hnil:good[j].Val=[]:=by
        unfold st.wOk at hwok
        rw [hdel] at hwok
        rcases j4 good[j].Val with hn | ⟨a,b,hn⟩
        ·exact hn
        ·exfalso
         rw [hn] at hwok
         simp at hwok
       rw [if_pos rfl,if_neg (by decide),if_neg (by rw [hnil];decide)]
       exact nx
    ·right;left
     rw [if_neg (by rw [decide_eq_true_eq];omega)]
     exact ⟨_,rfl,rfl⟩) fuel 0 ⟨0,zY _,rfl⟩ (Ce (by show good.length-0≤_;omega))
   rw [hx,hxr,zA]
   show G3 true (g,good) (f2,ts,er2) ()=_
   unfold G3
   have hfl:=Aj2 hg.op.ids ho1
   have hgop:=hg.eg.op
   rw [if_pos rfl]
   dsimp only
   rw [hop,Cb (by omega) (by omega),decide_eq_true (by omega)]
end Go.Proofs.YtkblaobhhoebaaaGreat.Abs
