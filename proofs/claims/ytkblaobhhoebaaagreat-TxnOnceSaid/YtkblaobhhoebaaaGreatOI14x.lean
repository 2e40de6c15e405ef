/-
 TxnOnce.
-/
import Derived.Test.YtkblaobhhoebaaaGreatOH14x
set_option linter.unusedVariables false
set_option linter.unusedSimpArgs false
namespace Go.Proofs.YtkblaobhhoebaaaGreat.Abs
theorem Arq:Qt=some true:=by decide +kernel
theorem An0 {e:Am} {n:Nat} (h:EgI e n) (hn:n≤400) {o:Bl} (ho:o ∈ e.Open):∃ e' er,M1 e o (e.Store.Ts+1)=some (e',er) ∧
  (er=0→EgI e' (n+1)∧∀ t done floor,TKI e.Toks.L t done floor→if t=o.Token then done=0∧floor<o.Attempt∧TKI e'.Toks.L t 1 floor else TKI e'.Toks.L t done floor):=by
 have hop:=h.op
 have hts:=h.ts
 have hst0:=h.st.t0
 have hb:=h.bf o ho
 have hbl:=hb.len
 unfold M1
 rw [if_neg (by rw [decide_eq_true_eq];omega),show Lv o.Buf=some (o.Buf.L.map bf.wk) from (show Lv o.Buf=E1 o.Buf from rfl).trans (bf.keysOf_m (b:=o.Buf.L) (by omega)),Option.bind_some]
 obtain ⟨c',er,hc,hc2⟩:=Ak3 h.cert o.ID (o.Buf.L.map bf.wk) (by rw [List.length_map];omega)
 rw [hc,Option.bind_some]
 dsimp only
 by_cases he:er=0
 ·rw [if_neg (by rw [decide_eq_true he];decide)]
  obtain ⟨l',er2,hfi,hfi2⟩:=Anp h.tk o.Token o.Attempt (e.Store.Ts+1)
  rw [show Ex e.Toks o.Token o.Attempt (e.Store.Ts+1)=some (⟨l'⟩,er2) from hfi,Option.bind_some]
  dsimp only
  by_cases he2:er2=0
  ·rw [if_neg (by rw [decide_eq_true he2];decide)]
   obtain ⟨k1,k2⟩:=hfi2 he2
   rcases st.install_m h.st (by omega) h.kl (e.Store.Ts+1) o.Buf.L (by omega) with ⟨er3,he3,hin⟩ | ⟨K',C',hin,hT,-,-,hK',-,hok⟩
   ·rw [show D2 e.Store (e.Store.Ts+1) o.Buf.L=some (st.zstore,er3) from hin,Option.bind_some,if_pos (by rw [decide_eq_false (show ¬ er3=0 by rcases he3 with h | ⟨h,-⟩ | h <;> omega)];rfl)]
    exact ⟨_,_,rfl,fun h=>by dsimp only at h;rcases he3 with h | ⟨h,-⟩ | h <;> omega⟩
   ·rw [show D2 e.Store (e.Store.Ts+1) o.Buf.L=some (⟨K',C',e.Store.Ts+1⟩,0) from hin,Option.bind_some,if_neg (by show ¬ (!decide ((0:Int)=0))=true;decide),Ahk e o.ID (by omega),Option.bind_some]
    obtain ⟨c2,hcl,hcl2⟩:=Ao4 (hc2 he)
    have hcl3:=hcl2.sc.len
    rw [hcl,Option.bind_some,ss.oldest_m c2 (e.Store.Ts+1) (by omega),Option.bind_some]
    dsimp only
    rw [st.vacS_m hok (by omega) hK',Option.bind_some]
    refine ⟨_,_,rfl,fun _=>⟨⟨st.vac_ok hok _,?_,by show e.Store.Ts+1≤((n+1:Nat):Int);omega,k1,hcl2,Nat.le_trans (List.length_filter_le _ _) hop,fun x hx=>h.bf x (List.mem_filter.1 hx).1,h.nx.1,by have:=h.nx.2;show e.Next≤((n+1:Nat):Int);omega⟩,k2⟩⟩
    exact Nat.le_trans (st.vac_len _ K' C') hK'
  ·rw [if_pos (by rw [decide_eq_false he2];rfl)]
   exact ⟨_,_,rfl,fun h=>absurd h he2⟩
 ·rw [if_pos (by rw [decide_eq_false he];rfl)]
  exact ⟨_,_,rfl,fun h=>absurd h he⟩
theorem Am9 {e:Am} {n:Nat} (h:EgI e n) (hn:n≤400) (id:Int):∃ e' ts er,Iw e id=some (e',ts,er) ∧
  ((er≠0∧Kp e n e' er)∨(er=0∧EgI e' (n+1)∧∃ o,Fc e id=some (o,0)∧∀ t done floor,TKI e.Toks.L t done floor→if t=o.Token then done=0∧floor<o.Attempt∧TKI e'.Toks.L t 1 floor else TKI e'.Toks.L t done floor)):=by
 obtain ⟨o,er,hf,hf2⟩:=Aan h (by omega) id
 have hts:=h.ts
 have hst0:=h.st.t0
 unfold Iw
 rw [hf,Option.bind_some]
 dsimp only
 by_cases he:er=0
 ·have ho:o ∈ e.Open:=by rcases hf2 with h | h | h;exact h.2.1;omega;omega
  rw [if_neg (by rw [decide_eq_true he];decide),Cc (by omega) (by omega)]
  obtain ⟨f,er2,hfi,hfi2⟩:=An0 h hn ho
  rw [hfi,Option.bind_some]
  dsimp only
  by_cases he2:er2=0
  ·rw [if_neg (by rw [decide_eq_true he2];decide)]
   obtain ⟨k1,k2⟩:=hfi2 he2
   exact ⟨_,_,_,rfl,.inr ⟨rfl,k1,o,by rw [he],k2⟩⟩
  ·rw [if_pos (by rw [decide_eq_false he2];rfl)]
   obtain ⟨g,hg,hk⟩:=Ar4 h o er2
   rw [hg]
   exact ⟨_,_,_,rfl,.inl ⟨he2,hk⟩⟩
 ·rw [if_pos (by rw [decide_eq_false he];rfl)]
  obtain ⟨f,hs,hk⟩:=Aa3 h er
  rw [hs]
  exact ⟨_,_,_,rfl,.inl ⟨he,hk⟩⟩
theorem Ans {e:Am} {n:Nat} (h:EgI e n) (hn:n≤400) (tok att:Int):∃ e' ts er,Mz e tok att=some (e',ts,er)∧Kp e n e' er ∧
  (er=0→(0<ts ↔ ∃ x,fnd e.Toks.L tok=some x∧x.State=2)∧(ts=0→∀ done floor,TKI e.Toks.L tok done floor→TKI e'.Toks.L tok done (if att > floor then att else floor))):=by
 obtain ⟨b,hb⟩:=Alf h (by omega)
 unfold Mz
 rw [hb,Option.bind_some]
 cases b with
 | false=>exact ⟨_,_,_,rfl,.inl ⟨rfl,rfl⟩,fun h=>by cases h⟩
 | true =>
 rw [if_neg (by decide)]
 obtain ⟨l',m,er,hf,hf2⟩:=All h.tk tok att
 rw [show Dk e.Toks tok att=some (⟨l'⟩,m,er) from hf,Option.bind_some]
 dsimp only
 by_cases he:er=0
 ·rw [if_neg (by rw [decide_eq_true he];decide)]
  obtain ⟨k1,k2,k3,k4⟩:=hf2 he
  have hn1:EgI { e with Toks:=⟨l'⟩ } n:=⟨h.st,h.kl,h.ts,k1,h.cert,h.op,h.bf,h.nx⟩
  have hl32:=k1.n
  have hfd:∃ v,Eg ⟨l'⟩ tok=some v:=⟨_,Ag7 (by omega) tok⟩
  obtain ⟨v,hv⟩:=hfd
  rw [hv,Option.bind_some]
  obtain ⟨r,hr,-⟩:=Akn { e with Toks:=⟨l'⟩ } tok (by have:=h.op;show e.Open.length≤_;omega)
  rw [hr,Option.bind_some]
  have hstay:∃ e' ts er,Em (⟨l'⟩,m,er) { e with Toks:=⟨l'⟩ }=some (e',ts,er)∧Kp e n e' er ∧
   (er=0→(0<ts ↔ ∃ x,fnd e.Toks.L tok=some x∧x.State=2)∧(ts=0→∀ done floor,TKI e.Toks.L tok done floor→TKI e'.Toks.L tok done (if att > floor then att else floor))) :=
   ⟨_,_,_,rfl,.inr ⟨hn1.up (Nat.le_succ n),k2⟩,fun _=>⟨k3,k4⟩⟩
  have hup:∃ e' ts er',((Dn { e with Toks:=⟨l'⟩ } r.1).bind fun v7=>Em (⟨l'⟩,m,er) v7)=some (e',ts,er')∧Kp e n e' er' ∧
   (er'=0→(0<ts ↔ ∃ x,fnd e.Toks.L tok=some x∧x.State=2)∧(ts=0→∀ done floor,TKI e.Toks.L tok done floor→TKI e'.Toks.L tok done (if att > floor then att else floor))):=by
   obtain ⟨g,hg,hg1,hg2,-⟩:=Yg hn1 r.1
   rw [hg]
   exact ⟨_,_,_,rfl,.inr ⟨hg1.up (Nat.le_succ n),k2.trans hg2⟩,fun _=>⟨k3,fun h0 done floor hi=>hg2 tok done _ (k4 h0 done floor hi)⟩⟩
  split
  ·split
   ·split
    ·exact hup
    ·exact hstay
   ·exact hstay
  ·exact hstay
 ·rw [if_pos (by rw [decide_eq_false he];rfl)]
  obtain ⟨f,hs,hk⟩:=Aa3 h er
  rw [hs]
  exact ⟨_,_,_,rfl,hk,fun h=>absurd h he⟩
theorem Aq3 (a0:List I0):∃ v,N8 a0=some v∧(v=true→a0.length≤80∧∀ o ∈ a0,o.Key.length≤50):=by
 unfold N8
 by_cases h80:80<(a0.length:Int)
 ·rw [if_pos (decide_eq_true h80)];exact ⟨_,rfl,fun h=>by cases h⟩
 rw [if_neg (by rw [decide_eq_true_eq];exact h80)]
 obtain ⟨v,hv,hr⟩:=Cx (f:=Kt a0) (P:=fun s=>∃ j:Nat,j≤a0.length∧s=(j:Int)∧∀ o ∈ a0.take j,o.Key.length≤50) (μ:=fun s=>a0.length-s.toNat)
  (R:=fun v=>v=.inl false∨(v=.inr ()∧∀ o ∈ a0,o.Key.length≤50)) (by
   rintro _ ⟨j,hj,rfl,hk⟩
   unfold Kt
   rcases Nat.lt_or_ge j a0.length with hlt | hge
   ·have hsh:∃ b,Nw a0[j].Rng=some b:=by unfold Nw;split <;> exact ⟨_,rfl⟩
    obtain ⟨b,hb⟩:=hsh
    rw [if_pos (decide_eq_true (by omega)),Bp,List.getElem?_eq_getElem hlt,Option.bind_some,hb,Option.bind_some,Option.bind_some,Option.bind_some,Cc (by omega) (by omega)]
    split
    ·exact .inr (.inr ⟨_,rfl,.inl rfl⟩)
    split
    ·exact .inr (.inr ⟨_,rfl,.inl rfl⟩)
    split
    ·exact .inr (.inr ⟨_,rfl,.inl rfl⟩)
    rename_i h50 _
    rw [decide_eq_true_eq] at h50
    refine .inl ⟨_,rfl,⟨j+1,hlt,rfl,fun o ho=>?_⟩,by simp only [Int.toNat_natCast];omega⟩
    rw [List.take_succ_eq_append_getElem hlt] at ho
    rcases List.mem_append.1 ho with ho | ho
    ·exact hk o ho
    ·rw [List.mem_singleton.1 ho];omega
   ·right;left
    have e:j=a0.length:=by omega
    subst e
    rw [List.take_length] at hk
    rw [if_neg (by rw [decide_eq_true_eq];omega)]
    exact ⟨_,rfl,.inr ⟨rfl,hk⟩⟩) fuel 0 ⟨0,Nat.zero_le _,rfl,by simp⟩ (Ck (by show a0.length-0≤_;omega))
 rw [hv]
 rcases hr with rfl | ⟨rfl,hk⟩
 ·exact ⟨_,rfl,fun h=>by cases h⟩
 ·exact ⟨_,rfl,fun _=>⟨by omega,hk⟩⟩
def Avf (e:Am) (o:I0) (id:Int) (e':Am) (x:Hz):Prop :=
 (if 7<o.What∧o.What≤10∧x.e_=0 then ∃ ow,Fc e id=some (ow,0)∧∀ t done floor,TKI e.Toks.L t done floor→if t=ow.Token then done=0∧floor<ow.Attempt∧TKI e'.Toks.L t 1 floor else TKI e'.Toks.L t done floor else Stp e.Toks.L e'.Toks.L) ∧
 (o.What=12→x.e_=0→(0<x.n_ ↔ ∃ y,fnd e.Toks.L o.Token=some y∧y.State=2)∧(x.n_=0→∀ done floor,TKI e.Toks.L o.Token done floor→TKI e'.Toks.L o.Token done (if o.Attempt > floor then o.Attempt else floor)))
theorem Azb {e:Am} {n:Nat} (h:EgI e n) (hn:n≤400) (o:I0) (id:Int) (hk:o.Key.length≤50) (h12:¬ 12<o.What) :
  ∃ e' x,Ra e o id=some (e',x)∧((x.e_=1∧e'.Next=0)∨(EgI e' (n+1)∧Avf e o id e' x)):=by
 have plain:∀ {e':Am} {x:Hz},Kp e n e' x.e_→¬ (7<o.What∧o.What≤10∧x.e_=0)→o.What≠12→(x.e_=1∧e'.Next=0)∨(EgI e' (n+1)∧Avf e o id e' x):=fun hk hc h12=>by
  rcases hk with hk | ⟨h1,h2⟩
  ·exact .inl hk
  ·exact .inr ⟨h1,by rw [if_neg hc];exact h2,fun hh=>absurd hh h12⟩
 unfold Ra
 by_cases c1:o.What≤1
 ·rw [if_pos (decide_eq_true c1)]
  obtain ⟨e',i,er,h1,h2⟩:=Aqy h hn o.Token o.Attempt o.RO
  rw [h1]
  exact ⟨_,_,rfl,plain h2 (by omega) (by omega)⟩
 rw [if_neg (by rw [decide_eq_true_eq];exact c1)]
 by_cases c3:o.What≤3
 ·rw [if_pos (decide_eq_true c3)]
  obtain ⟨e',v,f,er,h1,h2⟩:=Awa h hn id o.Key hk
  rw [h1]
  exact ⟨_,_,rfl,plain h2 (by omega) (by omega)⟩
 rw [if_neg (by rw [decide_eq_true_eq];exact c3)]
 by_cases c4:o.What=4
 ·rw [if_pos (decide_eq_true c4)]
  obtain ⟨e',l,er,h1,h2⟩:=Atl h hn id o.Rng
  rw [h1]
  exact ⟨_,_,rfl,plain h2 (by omega) (by omega)⟩
 rw [if_neg (by rw [decide_eq_true_eq];exact c4)]
 by_cases c7:o.What≤7
 ·rw [if_pos (decide_eq_true c7)]
  obtain ⟨e',er,h1,h2⟩:=Axr h hn id ⟨o.Key,o.Val,o.Del⟩
  rw [h1]
  exact ⟨_,_,rfl,plain h2 (by omega) (by omega)⟩
 rw [if_neg (by rw [decide_eq_true_eq];exact c7)]
 by_cases c10:o.What≤10
 ·rw [if_pos (decide_eq_true c10)]
  obtain ⟨e',ts,er,h1,⟨hne,h2⟩ | ⟨rfl,h2,h3⟩⟩:=Am9 h hn id
  ·rw [h1]
   exact ⟨_,_,rfl,plain h2 (fun hc=>hne hc.2.2) (by omega)⟩
  ·rw [h1]
   refine ⟨_,_,rfl,.inr ⟨h2,?_,fun hh=>by omega⟩⟩
   rw [if_pos ⟨by omega,c10,rfl⟩]
   exact h3
 rw [if_neg (by rw [decide_eq_true_eq];exact c10)]
 by_cases c11:o.What=11
 ·rw [if_pos (decide_eq_true c11)]
  obtain ⟨e',er,h1,h2⟩:=Aqc h hn id
  rw [h1]
  exact ⟨_,_,rfl,plain h2 (by omega) (by omega)⟩
 rw [if_neg (by rw [decide_eq_true_eq];exact c11)]
 have c12:o.What=12:=by omega
 rw [if_pos (decide_eq_true c12)]
 obtain ⟨e',ts,er,h1,h2,h3⟩:=Ans h hn o.Token o.Attempt
 rw [h1]
 refine ⟨_,_,rfl,?_⟩
 rcases h2 with h2 | ⟨k1,k2⟩
 ·exact .inl h2
 ·refine .inr ⟨k1,?_,fun _ he=>h3 he⟩
  rw [if_neg (by omega)]
  exact k2
theorem Ano:EgI Fi 0:=⟨⟨Int.le_refl _,by decide,rfl,by simp,List.Pairwise.nil,by simp⟩,by decide,Int.le_refl _,As0,⟨_,ss.inv_nil,rfl,rfl,rfl⟩,by decide,by simp,Int.le_refl _,Int.le_refl _⟩
theorem Adz (a0:List I0) (a1:Int):O3 a0 a1=some true:=by
 unfold O3
 obtain ⟨v,hv,hs⟩:=Aq3 a0
 rw [Arq,Option.bind_some,hv,Option.bind_some]
 cases v with
 | false=>rfl
 | true =>
 obtain ⟨h80,hk⟩:=hs rfl
 rw [if_neg (by decide)]
 obtain ⟨x,hx,hr⟩:=Cx (f:=Jg a0 a1) (P:=fun s=>∃ j:Nat,j≤a0.length∧s.2.2.1=(j:Int)∧EgI s.2.2.2 j∧TKI s.2.2.2.Toks.L a1 s.1 s.2.1) (μ:=fun s=>a0.length-s.2.2.1.toNat) (R:=fun v=>∃ e,v=.inr e) (by
  rintro ⟨done,floor,_,e⟩ ⟨j,hj,rfl,hi,ht⟩
  dsimp only at hi ht
  unfold Jg
  dsimp only
  rcases Nat.lt_or_ge j a0.length with hlt | hge
  ·left
   have hg:=List.getElem?_eq_getElem hlt
   have hko:=hk _ (List.getElem_mem hlt)
   generalize a0[j]=o at hg hko
   have hmu:a0.length-(((j+1:Nat):Int)).toNat<a0.length-((j:Nat):Int).toNat:=by omega
   have hnx:∀ e',EgI e' (j+1)→∀ d f,TKI e'.Toks.L a1 d f→∃ s':Int × Int × Int × Am,(some (LR.cont (d,f,((j+1:Nat):Int),e')):Option (LR (Int × Int × Int × Am) Am Bool))=some (.cont s')∧(∃ j:Nat,j≤a0.length∧s'.2.2.1=(j:Int)∧EgI s'.2.2.2 j∧TKI s'.2.2.2.Toks.L a1 s'.1 s'.2.1)∧a0.length-s'.2.2.1.toNat<a0.length-(j:Int).toNat:=fun e' h1 d f h2=>⟨_,rfl,⟨j+1,hlt,rfl,h1,h2⟩,hmu⟩
   have hw:wI ((j:Int)+1)=((j+1:Nat):Int):=by rw [Cc (by omega) (by omega)];rfl
   rw [if_pos (decide_eq_true (by omega)),Bp,hg,Option.bind_some,Option.bind_some,hw]
   split
   ·exact hnx e (hi.up (Nat.le_succ j)) _ _ ht
   split
   ·exact hnx e (hi.up (Nat.le_succ j)) _ _ ht
   rename_i h12
   rw [decide_eq_true_eq] at h12
   have hk6:∀ id,∃ s',G4 a0 a1 (done,floor,(j:Int),e) id=some (.cont s')∧(∃ j:Nat,j≤a0.length∧s'.2.2.1=(j:Int)∧EgI s'.2.2.2 j∧TKI s'.2.2.2.Toks.L a1 s'.1 s'.2.1)∧a0.length-s'.2.2.1.toNat<a0.length-(j:Int).toNat:=fun id=>by
    unfold G4 Qu
    dsimp only
    obtain ⟨ow,fe,hf,-⟩:=Aan hi (by omega) id
    rw [hf,Option.bind_some,Option.bind_some,Bp,hg,Option.bind_some,hw]
    obtain ⟨e',y,hd,hcase⟩:=Azb hi (by omega) o id hko h12
    rw [hd,Option.bind_some]
    dsimp only
    have hgo:EgI e' (j+1)→Avf e o id e' y→∃ s',F9 a0 a1 (done,floor,(j:Int),e) (ow,decide (fe=0)) (e',y) ()=some (.cont s')∧(∃ j:Nat,j≤a0.length∧s'.2.2.1=(j:Int)∧EgI s'.2.2.2 j∧TKI s'.2.2.2.Toks.L a1 s'.1 s'.2.1)∧a0.length-s'.2.2.1.toNat<a0.length-(j:Int).toNat:=fun h1 h2=>by
     obtain ⟨d1,d2⟩:=h2
     unfold F9
     dsimp only
     rw [Bp,hg,Option.bind_some,Option.bind_some]
     have hk11:∀ d,TKI e'.Toks.L a1 d floor→(o.What=12→d=done∧TKI e.Toks.L a1 done floor)→∃ s',Cr a0 a1 (done,floor,(j:Int),e) (e',y) d=some (.cont s')∧(∃ j:Nat,j≤a0.length∧s'.2.2.1=(j:Int)∧EgI s'.2.2.2 j∧TKI s'.2.2.2.Toks.L a1 s'.1 s'.2.1)∧a0.length-s'.2.2.1.toNat<a0.length-(j:Int).toNat:=fun d hd hd12=>by
      unfold Cr Dz
      dsimp only
      rw [Bp,hg,Option.bind_some,Option.bind_some,Option.bind_some,hw]
      by_cases g12:o.What=12
      ·rw [if_pos (decide_eq_true g12)]
       by_cases gt:o.Token=a1
       ·rw [if_pos (decide_eq_true gt)]
        by_cases ge:y.e_=0
        ·rw [if_pos (decide_eq_true ge)]
         obtain ⟨hp,h0⟩:=d2 g12 ge
         rw [gt] at hp h0
         obtain ⟨rfl,ht'⟩:=hd12 g12
         have heq:(decide (0<y.n_) == decide (d=1))=true:=by
          rw [beq_iff_eq,Bool.eq_iff_iff,decide_eq_true_eq,decide_eq_true_eq,hp,Ap0 ht']
         rw [heq,if_neg (by decide)]
         by_cases gn:y.n_=0
         ·rw [if_pos (decide_eq_true gn)]
          exact hnx e' h1 _ _ (h0 gn d floor ht')
         ·rw [if_neg (by rw [decide_eq_true_eq];exact gn)]
          exact hnx e' h1 _ _ hd
        ·rw [if_neg (by rw [decide_eq_true_eq];exact ge)]
         exact hnx e' h1 _ _ hd
       ·rw [if_neg (by rw [decide_eq_true_eq];exact gt)]
        exact hnx e' h1 _ _ hd
      ·rw [if_neg (by rw [decide_eq_true_eq];exact g12)]
       exact hnx e' h1 _ _ hd
     by_cases gc:7<o.What∧o.What≤10∧y.e_=0
     ·rw [if_pos gc] at d1
      obtain ⟨ow',hf',hfin⟩:=d1
      rw [hf] at hf'
      simp only [Option.some.injEq,Prod.mk.injEq] at hf'
      obtain ⟨rfl,rfl⟩:=hf'
      have hfa:=hfin a1 done floor ht
      rw [if_pos (decide_eq_true gc.1),if_pos (decide_eq_true gc.2.1),if_pos (decide_eq_true gc.2.2),if_pos (by rfl)]
      by_cases gt:ow.Token=a1
      ·rw [if_pos gt.symm] at hfa
       obtain ⟨rfl,hlt2,hnew⟩:=hfa
       rw [if_pos (decide_eq_true gt),if_neg (by rw [decide_eq_true_eq];omega),show wI (0+1)=1 by decide,if_neg (by decide)]
       exact hk11 1 hnew (fun hh=>by omega)
      ·rw [if_neg (fun hh=>gt hh.symm)] at hfa
       rw [if_neg (by rw [decide_eq_true_eq];exact gt)]
       exact hk11 done hfa (fun hh=>by omega)
     ·rw [if_neg gc] at d1
      have hst:=d1 a1 done floor ht
      have hfin:∃ s',Cr a0 a1 (done,floor,(j:Int),e) (e',y) done=some (.cont s')∧(∃ j:Nat,j≤a0.length∧s'.2.2.1=(j:Int)∧EgI s'.2.2.2 j∧TKI s'.2.2.2.Toks.L a1 s'.1 s'.2.1)∧a0.length-s'.2.2.1.toNat<a0.length-(j:Int).toNat:=hk11 done hst (fun _=>⟨rfl,ht⟩)
      by_cases g7:7<o.What
      ·rw [if_pos (decide_eq_true g7)]
       by_cases g10:o.What≤10
       ·rw [if_pos (decide_eq_true g10),if_neg (by rw [decide_eq_true_eq];exact fun hh=>gc ⟨g7,g10,hh⟩)]
        exact hfin
       ·rw [if_neg (by rw [decide_eq_true_eq];exact g10)]
        exact hfin
      ·rw [if_neg (by rw [decide_eq_true_eq];exact g7)]
       exact hfin
    rcases hcase with ⟨c1,c2⟩ | ⟨c1,c2⟩
    ·rw [if_pos (decide_eq_true c1),if_pos (decide_eq_true c2)]
     exact hnx e (hi.up (Nat.le_succ j)) _ _ ht
    ·split
     ·split
      ·exact hnx e (hi.up (Nat.le_succ j)) _ _ ht
      ·exact hgo c1 c2
     ·exact hgo c1 c2
   unfold Mi
   dsimp only
   split
   ·rename_i hnp
    rw [decide_eq_true_eq] at hnp
    rw [Bp,hg,Option.bind_some,if_pos (by omega)]
    exact hk6 _
   ·exact hk6 _
  ·right;left
   rw [if_neg (by rw [decide_eq_true_eq];omega)]
   exact ⟨_,rfl,_,rfl⟩) fuel (0,-1,0,Fi) ⟨0,Nat.zero_le _,rfl,Ano,Atk a1⟩ (Ck (by show a0.length-0≤_;omega))
 obtain ⟨e,rfl⟩:=hr
 rw [hx];rfl
end Go.Proofs.YtkblaobhhoebaaaGreat.Abs
