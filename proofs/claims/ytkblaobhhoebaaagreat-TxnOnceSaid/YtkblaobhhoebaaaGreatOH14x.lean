/-
 What an engine's calls keep: those that begin, read, write, give up.
-/
import Derived.Test.YtkblaobhhoebaaaGreatOG14x
set_option linter.unusedVariables false
set_option linter.unusedSimpArgs false
namespace Go.Proofs.YtkblaobhhoebaaaGreat.Abs
def CI (c:Bh) (now next:Int):Prop:=∃ w:ss.WL11,ss.Inv ss.K10 w∧w.c=c∧w.now=now∧(w.begun.length:Int)=next
theorem CI.sc {c:Bh} {now next:Int} (h:CI c now next):ss.SC c:=by
 obtain ⟨w,hi,rfl,-⟩:=h
 exact hi.sc
theorem Anl {c:Bh} {now next:Int} (h:CI c now next) (id:Int):∃ c',Fz c id=some c'∧CI c' now next:=by
 obtain ⟨w,hi,rfl,h2,h3⟩:=h
 obtain ⟨c',e,hi',-⟩:=ss.inv_abort hi id
 exact ⟨c',e,_,hi',rfl,h2,h3⟩
theorem Ao4 {c:Bh} {now next:Int} (h:CI c now next):∃ c',Ix c=some c'∧CI c' now next:=by
 obtain ⟨w,hi,rfl,h2,h3⟩:=h
 obtain ⟨c',e,hi',-⟩:=ss.inv_clean hi
 exact ⟨c',e,_,hi',rfl,h2,h3⟩
theorem Aoi {c:Bh} {now next:Int} (h:CI c now next) (hn:now≤ss.maxTs) (ro:Bool):∃ c' e,H2 c next now ro=some (c',e)∧(e=0→CI c' now (next+1)):=by
 obtain ⟨w,hi,rfl,rfl,rfl⟩:=h
 rcases ss.begin_m hi.sc (w.begun.length:Int) w.now ro (Int.natCast_nonneg _) hi.now0 hn with ⟨-,e⟩ | ⟨-,⟨-,e⟩ | ⟨hl,e⟩⟩
 ·exact ⟨_,_,e,fun h=>by cases h⟩
 ·exact ⟨_,_,e,fun h=>by cases h⟩
 ·refine ⟨_,_,e,fun _=>⟨_,ss.inv_begin hi ro hn hl,rfl,rfl,?_⟩⟩
  show ((w.begun++[w.now]).length:Int)=_
  rw [List.length_append,List.length_singleton];rfl
theorem Aqo {c:Bh} {now next:Int} (h:CI c now next) (id:Int) (r:Bi):∃ c' e,Gy c id r=some (c',e)∧(e=0→CI c' now next):=by
 obtain ⟨w,hi,rfl,h2,h3⟩:=h
 rcases ss.read_m hi.sc id r with ⟨-,e⟩ | ⟨a,ha,e1,h1,⟨x,hx,e⟩ | ⟨-,e⟩ | ⟨rs,hg,r1,r2,r3,r4,r5,e⟩⟩
 ·exact ⟨_,_,e,fun h=>by cases h⟩
 ·exact ⟨_,_,e,fun h=>by rcases hx with hx | ⟨hx,-⟩ <;> omega⟩
 ·exact ⟨_,_,e,fun h=>by cases h⟩
 ·exact ⟨_,_,e,fun _=>⟨_,ss.inv_read hi ha h1 r rs hg r1 r2 r3 r5,rfl,h2,h3⟩⟩
theorem Ak3 {c:Bh} {now next:Int} (h:CI c now next) (id:Int) (K:List (List UInt8)) (hK:K.length≤16):∃ c' e,Eh c id (now+1) K=some (c',e)∧(e=0→CI c' (now+1) next):=by
 obtain ⟨w,hi,rfl,rfl,h3⟩:=h
 rcases ss.commit_m hi.sc id (w.now+1) K hK with ⟨-,e⟩ | ⟨a,ha,e1,h1,⟨-,e⟩ | ⟨hm,⟨-,e⟩ | ⟨hcf,⟨-,e⟩ | ⟨hno,hpv,e⟩⟩⟩⟩
 ·exact ⟨_,_,e,fun h=>by cases h⟩
 ·exact ⟨_,_,e,fun h=>by cases h⟩
 ·exact ⟨_,_,e,fun h=>by cases h⟩
 ·exact ⟨_,_,e,fun h=>by cases h⟩
 ·exact ⟨_,_,e,fun _=>⟨_,ss.inv_done hi ha h1 K ⟨hm.1,hm.2.1⟩ ⟨hm.2.2.1,hK⟩ hm.2.2.2.1 hcf hno hpv ⟨a.ID,a.Begin,w.now+1,0,false,false,false,K⟩ ⟨rfl,rfl,rfl,rfl⟩,rfl,rfl,h3⟩⟩
theorem Yg {e:Am} {n:Nat} (h:EgI e n) (o:Bl):∃ e',Dn e o=some e'∧EgI e' n∧Stp e.Toks.L e'.Toks.L∧e'.Next=e.Next:=by
 have hop:=h.op
 unfold Dn
 rw [Ahk e o.ID (by omega),Option.bind_some]
 obtain ⟨c',hc,hci⟩:=Anl h.cert o.ID
 obtain ⟨l',m,er,hf,hf2⟩:=All h.tk o.Token o.Attempt
 have hc':Fz (Am.mk e.Store e.Cert e.Toks (e.Open.filter fun x=>!decide (x.ID=o.ID)) e.Next).Cert o.ID=some c':=hc
 have hfl:(e.Open.filter fun x=>!decide (x.ID=o.ID)).length≤16:=Nat.le_trans (List.length_filter_le _ _) hop
 have hbf:∀ x ∈ (e.Open.filter fun x=>!decide (x.ID=o.ID)),bf.Good x.Buf.L:=fun x hx=>h.bf x (List.mem_filter.1 hx).1
 rw [hc,Option.bind_some]
 show ∃ e',(Dk e.Toks o.Token o.Attempt).bind _=some e'∧_
 rw [show Dk e.Toks o.Token o.Attempt=some (⟨l'⟩,m,er) from hf,Option.bind_some]
 by_cases he:er=0
 ·rw [if_pos (decide_eq_true he)]
  obtain ⟨k1,k2,-⟩:=hf2 he
  exact ⟨_,rfl,⟨h.st,h.kl,h.ts,k1,hci,hfl,hbf,h.nx⟩,k2,rfl⟩
 ·rw [if_neg (by rw [decide_eq_true_eq];exact he)]
  exact ⟨_,rfl,⟨h.st,h.kl,h.ts,h.tk,hci,hfl,hbf,h.nx⟩,Stp.refl _,rfl⟩
def Kp (e:Am) (n:Nat) (e':Am) (er:Int):Prop:=(er=1∧e'.Next=0)∨(EgI e' (n+1)∧Stp e.Toks.L e'.Toks.L)
theorem Vo {e:Am} {n:Nat} (h:EgI e n) (er:Int):Kp e n e er:=.inr ⟨h.up (Nat.le_succ n),Stp.refl _⟩
theorem Ar4 {e:Am} {n:Nat} (h:EgI e n) (o:Bl) (er:Int):∃ e',Dn e o=some e'∧Kp e n e' er:=by
 obtain ⟨e',h1,h2,h3,-⟩:=Yg h o
 exact ⟨e',h1,.inr ⟨h2.up (Nat.le_succ n),h3⟩⟩
theorem Aa3 {e:Am} {n:Nat} (h:EgI e n) (er:Int):∃ e',F3 e er=some e'∧Kp e n e' er:=by
 unfold F3
 by_cases h1:er=1
 ·rw [if_pos (decide_eq_true h1)]
  exact ⟨_,rfl,.inl ⟨h1,rfl⟩⟩
 ·rw [if_neg (by rw [decide_eq_true_eq];exact h1)]
  exact ⟨_,rfl,Vo h er⟩
theorem Aqy {e:Am} {n:Nat} (h:EgI e n) (hn:n≤400) (tok att:Int) (ro:Bool):∃ e' id er,Kl e tok att ro=some (e',id,er)∧Kp e n e' er:=by
 obtain ⟨b,hb⟩:=Alf h (by omega)
 unfold Kl
 rw [hb,Option.bind_some]
 cases b with
 | false=>exact ⟨_,_,_,rfl,.inl ⟨rfl,rfl⟩⟩
 | true =>
 rw [if_neg (by decide)]
 have key:∀ f:Am,EgI f n→Stp e.Toks.L f.Toks.L→∃ e' id er,Gl tok att ro f=some (e',id,er)∧Kp e n e' er:=fun f hf hs=>by
  have hfop:=hf.op
  have hfts:=hf.ts
  have hfnx:=hf.nx
  have hsame:∀ er,Kp e n f er:=fun er=>.inr ⟨hf.up (Nat.le_succ n),hs⟩
  unfold Gl
  split
  ·exact ⟨_,_,_,rfl,hsame _⟩
  split
  ·exact ⟨_,_,_,rfl,hsame _⟩
  rename_i h16
  rw [decide_eq_true_eq] at h16
  obtain ⟨l',er,hst,hst2⟩:=Ap3 hf.tk tok att
  rw [show Gm f.Toks tok att=some (⟨l'⟩,er) from hst,Option.bind_some]
  by_cases he:er=0
  ·rw [if_neg (by rw [decide_eq_true he];decide)]
   obtain ⟨k1,k2⟩:=hst2 he
   obtain ⟨c',er2,hc,hc2⟩:=Aoi hf.cert (by show f.Store.Ts≤1099511627776;omega) ro
   rw [hc,Option.bind_some]
   by_cases he2:er2=0
   ·rw [if_neg (by rw [decide_eq_true he2];decide),Ut _ (by simp;omega) (by simp),Option.bind_some,Cc (by omega) (by omega)]
    refine ⟨_,_,_,rfl,.inr ⟨⟨hf.st.mono (Nat.le_succ n),hf.kl,by show f.Store.Ts≤((n+1:Nat):Int);omega,k1,hc2 he2,?_,?_,by show 0≤f.Next+1;omega,by show f.Next+1≤((n+1:Nat):Int);omega⟩,hs.trans k2⟩⟩
    ·simp;omega
    ·intro o ho
     simp only [List.flatten_cons,List.flatten_nil,List.append_nil,List.mem_append,List.mem_singleton] at ho
     rcases ho with ho | rfl
     ·exact hf.bf o ho
     ·exact bf.Good.nil
   ·rw [if_pos (by rw [decide_eq_false he2];rfl)]
    exact ⟨_,_,_,rfl,hsame _⟩
  ·rw [if_pos (by rw [decide_eq_false he];rfl)]
   exact ⟨_,_,_,rfl,hsame _⟩
 obtain ⟨r,hr,-⟩:=Akn e tok (by have:=h.op;omega)
 rw [hr,Option.bind_some]
 split
 ·split
  ·obtain ⟨f,hf,hf1,hf2,-⟩:=Yg h r.1
   rw [hf,Option.bind_some]
   exact key f hf1 hf2
  ·exact key e h (Stp.refl _)
 ·exact key e h (Stp.refl _)
theorem Apt {e:Am} {n:Nat} (h:EgI e n) (o:Bl) (r:Bi):∃ e' er,Nl e o r=some (e',er)∧EgI e' n∧Stp e.Toks.L e'.Toks.L:=by
 unfold Nl
 obtain ⟨c',er,hc,hc2⟩:=Aqo h.cert o.ID r
 rw [hc,Option.bind_some]
 by_cases he:er=0
 ·rw [if_neg (by rw [decide_eq_true he];decide)]
  exact ⟨_,_,rfl,⟨h.st,h.kl,h.ts,h.tk,hc2 he,h.op,h.bf,h.nx⟩,Stp.refl _⟩
 ·rw [if_pos (by rw [decide_eq_false he];rfl)]
  obtain ⟨f,hf,hf1,hf2,-⟩:=Yg h o
  rw [hf]
  exact ⟨_,_,rfl,hf1,hf2⟩
theorem Asv (b:B4) (k:List UInt8) (hl:b.L.length≤1000):∃ r,M3 b k=some r:=by
 unfold M3
 obtain ⟨v,hv,-⟩:=Cx (f:=Js b k) (P:=fun s=>∃ j:Nat,j≤b.L.length∧s=(j:Int)) (μ:=fun s=>b.L.length-s.toNat) (R:=fun _=>True) (by
  rintro _ ⟨j,hj,rfl⟩
  unfold Js Dl
  rcases Nat.lt_or_ge j b.L.length with hlt | hge
  ·rw [if_pos (decide_eq_true (by omega)),Bp,List.getElem?_eq_getElem hlt,Option.bind_some,Option.bind_some,Cc (by omega) (by omega)]
   split
   ·exact .inr (.inr ⟨_,rfl,trivial⟩)
   ·exact .inl ⟨_,rfl,⟨j+1,hlt,rfl⟩,by simp only [Int.toNat_natCast];omega⟩
  ·rw [if_neg (by rw [decide_eq_true_eq];omega)]
   exact .inr (.inl ⟨_,rfl,trivial⟩)) fuel 0 ⟨0,Nat.zero_le _,rfl⟩ (Ck (by show b.L.length-0≤_;omega))
 rw [hv]
 cases v with
 | inl r=>exact ⟨_,rfl⟩
 | inr u=>exact ⟨_,rfl⟩
theorem Awa {e:Am} {n:Nat} (h:EgI e n) (hn:n≤400) (id:Int) (k:List UInt8) (hk:k.length≤50):∃ e' v f er,Nj e id k=some (e',v,f,er)∧Kp e n e' er:=by
 obtain ⟨o,er,hf,hf2⟩:=Aan h (by omega) id
 unfold Nj
 rw [hf,Option.bind_some]
 dsimp only
 by_cases he:er=0
 ·rw [if_neg (by rw [decide_eq_true he];decide)]
  have ho:o ∈ e.Open:=by rcases hf2 with h | h | h;exact h.2.1;omega;omega
  have hlen:=(h.bf o ho).len
  have hks:∃ b,Dp k=some b:=by unfold Dp;split <;> exact ⟨_,rfl⟩
  obtain ⟨b,hb⟩:=hks
  rw [hb,Option.bind_some]
  cases b with
  | false=>exact ⟨_,_,_,_,rfl,Vo h _⟩
  | true =>
  rw [if_neg (by decide)]
  obtain ⟨r,hr⟩:=Asv o.Buf k (by omega)
  rw [hr,Option.bind_some]
  split
  ·exact ⟨_,_,_,_,rfl,Vo h _⟩
  rw [bf.one_m k (by omega),Option.bind_some]
  obtain ⟨f,er2,hrd,hrd1,hrd2⟩:=Apt h o ⟨k,k++[0],false⟩
  rw [hrd,Option.bind_some]
  dsimp only
  split
  ·exact ⟨_,_,_,_,rfl,.inr ⟨hrd1.up (Nat.le_succ n),hrd2⟩⟩
  have hg:∃ v,Kb f.Store k o.Snap=some v:=by
   rcases st.get_m hrd1.st (by omega) hrd1.kl k o.Snap with ⟨c,-,e1⟩ | ⟨-,e1⟩
   ·exact ⟨_,e1⟩
   ·exact ⟨_,e1⟩
  obtain ⟨v,hv⟩:=hg
  rw [hv]
  exact ⟨_,_,_,_,rfl,.inr ⟨hrd1.up (Nat.le_succ n),hrd2⟩⟩
 ·rw [if_pos (by rw [decide_eq_false he];rfl)]
  obtain ⟨f,hs,hk⟩:=Aa3 h er
  rw [hs]
  exact ⟨_,_,_,_,rfl,hk⟩
theorem Ara (l:List B8) (hl:l.length≤1000000):∃ v,Fh l=some v∧(v=true→Sl kvk l):=by
 unfold Fh
 obtain ⟨v,hv,hr⟩:=Ej (f:=Dv l) (P:=fun s=>∃ j:Nat,j≤l.length∧s=((j:Int),(l.take j).map kvk)) (μ:=fun s=>l.length-s.1.toNat) (R:=fun v=>v=l.map kvk) (by
  rintro _ ⟨j,hj,rfl⟩
  unfold Dv
  dsimp only
  rcases Nat.lt_or_ge j l.length with hlt | hge
  ·left
   rw [if_pos (decide_eq_true (by omega)),Bp,List.getElem?_eq_getElem hlt,Option.bind_some,if_pos (by rw [List.length_map,List.length_take,List.length_singleton];omega),Cc (by omega) (by omega)]
   refine ⟨_,rfl,⟨j+1,hlt,?_⟩,by dsimp only;omega⟩
   rw [List.take_succ_eq_append_getElem hlt,List.map_append];rfl
  ·right
   have e:j=l.length:=by omega
   subst e
   rw [if_neg (by rw [decide_eq_true_eq];omega)]
   exact ⟨_,rfl,by rw [List.take_length]⟩) fuel (0,[]) ⟨0,Nat.zero_le _,by simp⟩ (Ck (by show l.length-0≤_;omega))
 rw [hv,hr]
 show ∃ v,Dx _=some v∧_
 unfold Dx
 have hn:(l.map kvk).length≤1000000000000000000:=by rw [List.length_map];omega
 obtain ⟨b,hb⟩:=st.sorted_some (l.map kvk) hn
 rw [hb]
 refine ⟨b,rfl,fun h=>?_⟩
 rw [h] at hb
 exact List.pairwise_map.1 (st.sorted_conv hn hb)
theorem Atq {b:List A8} (hb:bf.Good b) (l:List B8) (r:Bi) (hl:l.length≤1000000):∃ v,F8 ⟨b⟩ l r 8=some v:=by
 obtain ⟨v,hv,hv2⟩:=Ara l hl
 cases v with
 | true=>exact ⟨_,bf.over_m r hb (hv2 rfl) hl (by decide)⟩
 | false =>
  unfold F8
  rw [bf.sane_m hb,Option.bind_some,if_neg (by decide),hv,Option.bind_some,if_pos (by rfl)]
  exact ⟨_,rfl⟩
theorem Atl {e:Am} {n:Nat} (h:EgI e n) (hn:n≤400) (id:Int) (r:Bi):∃ e' l er,Pb e id r 8=some (e',l,er)∧Kp e n e' er:=by
 obtain ⟨o,er,hf,hf2⟩:=Aan h (by omega) id
 unfold Pb
 rw [hf,Option.bind_some]
 dsimp only
 by_cases he:er=0
 ·rw [if_neg (by rw [decide_eq_true he];decide)]
  have ho:o ∈ e.Open:=by rcases hf2 with h | h | h;exact h.2.1;omega;omega
  have hks:∃ b,Ew r=some b:=by
   unfold Ew
   repeat' split
   all_goals exact ⟨_,rfl⟩
  obtain ⟨b,hb⟩:=hks
  rw [hb,Option.bind_some]
  cases b with
  | false=>exact ⟨_,_,_,rfl,Vo h _⟩
  | true =>
  rw [if_neg (by decide),bf.empty_m,Option.bind_some]
  split
  ·exact ⟨_,_,_,rfl,Vo h _⟩
  unfold Oa
  dsimp only
  obtain ⟨f,er2,hrd,hrd1,hrd2⟩:=Apt h o r
  rw [hrd,Option.bind_some]
  dsimp only
  split
  ·exact ⟨_,_,_,rfl,.inr ⟨hrd1.up (Nat.le_succ n),hrd2⟩⟩
  have hents:=st.ents_len r o.Snap f.Store.Keys f.Store.Chains
  have hkl:=hrd1.kl
  rw [show Kx f.Store r o.Snap 128=some ((st.ents r o.Snap f.Store.Keys f.Store.Chains).take (128:Int).toNat) from st.scan_m hrd1.st (by omega) hrd1.kl r o.Snap 128,Option.bind_some]
  obtain ⟨v,hv⟩:=Atq (h.bf o ho) ((st.ents r o.Snap f.Store.Keys f.Store.Chains).take (128:Int).toNat) r (by rw [List.length_take];omega)
  rw [show F8 o.Buf _ r 8=some v from hv]
  exact ⟨_,_,_,rfl,.inr ⟨hrd1.up (Nat.le_succ n),hrd2⟩⟩
 ·rw [if_pos (by rw [decide_eq_false he];rfl)]
  obtain ⟨f,hs,hk⟩:=Aa3 h er
  rw [hs]
  exact ⟨_,_,_,rfl,hk⟩
theorem Axr {e:Am} {n:Nat} (h:EgI e n) (hn:n≤400) (id:Int) (w:A8):∃ e' er,Nk e id w=some (e',er)∧Kp e n e' er:=by
 obtain ⟨o,er,hf,hf2⟩:=Aan h (by omega) id
 have hop:=h.op
 unfold Nk
 rw [hf,Option.bind_some]
 dsimp only
 by_cases he:er=0
 ·rw [if_neg (by rw [decide_eq_true he];decide)]
  have ho:o ∈ e.Open:=by rcases hf2 with h | h | h;exact h.2.1;omega;omega
  split
  ·exact ⟨_,_,rfl,Vo h _⟩
  rcases bf.set_any (h.bf o ho) w with ⟨s1,s2,-⟩ | ⟨er2,hne,s1⟩
  ·rw [show Ef o.Buf w=some (⟨bf.setR o.Buf.L w⟩,0) from s1,Option.bind_some,if_neg (by show ¬ (!decide ((0:Int)=0))=true;decide)]
   unfold M9
   dsimp only
   rw [T8 _ (by omega),Option.bind_some]
   rcases Af5 e o.ID (by omega) with hp | ⟨i,p,hp1,hp2,hp⟩
   ·obtain ⟨j,hj,hjo⟩:=List.getElem_of_mem ho
    exfalso
    obtain ⟨v,hv,hr⟩:=Cx (f:=Gn e o.ID) (P:=fun s=>∃ k:Nat,k≤j∧s=(k:Int)) (μ:=fun s=>e.Open.length-s.toNat)
     (R:=fun v=>∃ i:Nat,v=.inl (i:Int)) (by
      rintro _ ⟨k,hk,rfl⟩
      unfold Gn
      have hlt:k<e.Open.length:=by omega
      rw [if_pos (decide_eq_true (by omega)),Bp,List.getElem?_eq_getElem hlt,Option.bind_some]
      by_cases hh:e.Open[k].ID=o.ID
      ·rw [if_pos (decide_eq_true hh)]
       exact .inr (.inr ⟨_,rfl,⟨k,rfl⟩⟩)
      ·rw [if_neg (by rw [decide_eq_true_eq];exact hh),Cc (by omega) (by omega)]
       refine .inl ⟨_,rfl,⟨k+1,?_,rfl⟩,by simp only [Int.toNat_natCast];omega⟩
       rcases Nat.lt_or_ge k j with h' | h'
       ·exact h'
       ·exfalso
        have:k=j:=by omega
        subst this
        exact hh (by rw [hjo])) fuel 0 ⟨0,Nat.zero_le _,rfl⟩ (Ck (by show e.Open.length-0≤_;omega))
    obtain ⟨i,rfl⟩:=hr
    unfold Fy at hp
    rw [hv] at hp
    have hp:=Option.some.inj hp
    omega
   ·rw [show Fy (Am.mk (B1.mk e.Store.Keys e.Store.Chains e.Store.Ts) (Bh.mk e.Cert.Txs (Bz.mk e.Cert.Reads.L)) (Bm.mk e.Toks.L) e.Open e.Next) o.ID=some (i:Int) from hp,Option.bind_some,Bp,hp1,Option.bind_some]
    refine ⟨_,_,rfl,.inr ⟨⟨h.st.mono (Nat.le_succ n),h.kl,by have:=h.ts;show e.Store.Ts≤((n+1:Nat):Int);omega,h.tk,h.cert,by show (e.Open.set _ _).length≤16;rw [List.length_set];omega,fun x hx=>?_,h.nx.1,by have:=h.nx.2;show e.Next≤((n+1:Nat):Int);omega⟩,Stp.refl _⟩⟩
    rcases List.mem_or_eq_of_mem_set hx with hx | rfl
    ·exact h.bf x hx
    ·exact s2
  ·rw [show Ef o.Buf w=some (⟨[]⟩,er2) from s1,Option.bind_some,if_pos (by rw [decide_eq_false hne];rfl)]
   unfold P3 Q5
   dsimp only
   rw [Option.bind_some]
   split
   ·exact ⟨_,_,rfl,Vo h _⟩
   ·obtain ⟨f,hf,hk⟩:=Ar4 h o er2
    rw [hf]
    exact ⟨_,_,rfl,hk⟩
 ·rw [if_pos (by rw [decide_eq_false he];rfl)]
  obtain ⟨f,hs,hk⟩:=Aa3 h er
  rw [hs]
  exact ⟨_,_,rfl,hk⟩
theorem Aqc {e:Am} {n:Nat} (h:EgI e n) (hn:n≤400) (id:Int):∃ e' er,Np e id=some (e',er)∧Kp e n e' er:=by
 obtain ⟨o,er,hf,hf2⟩:=Aan h (by omega) id
 unfold Np
 rw [hf,Option.bind_some]
 dsimp only
 by_cases he:er=0
 ·rw [if_neg (by rw [decide_eq_true he];decide)]
  obtain ⟨f,hf,hk⟩:=Ar4 h o 0
  rw [hf]
  exact ⟨_,_,rfl,hk⟩
 ·rw [if_pos (by rw [decide_eq_false he];rfl)]
  obtain ⟨f,hs,hk⟩:=Aa3 h er
  rw [hs]
  exact ⟨_,_,rfl,hk⟩
end Go.Proofs.YtkblaobhhoebaaaGreat.Abs
