/-
 What an engine's calls answer, and what they keep.
-/
import Derived.Test.YtkblaobhhoebaaaGreatOF14x
import Derived.Test.YtkblaobhhoebaaaGreatOB14
import Derived.Test.YtkblaobhhoebaaaGreatOD14
import Derived.Test.YtkblaobhhoebaaaGreatOE14
set_option linter.unusedVariables false
set_option linter.unusedSimpArgs false
namespace Go.Proofs.YtkblaobhhoebaaaGreat.Abs
structure EgI (e:Am) (n:Nat):Prop where
 st:st.OkS e.Store.Keys e.Store.Chains e.Store.Ts n
 kl:e.Store.Keys.length≤128
 ts:e.Store.Ts≤n
 tk:OkT e.Toks.L
 cert:∃ w:ss.WL11,ss.Inv ss.K10 w∧w.c=e.Cert∧w.now=e.Store.Ts∧(w.begun.length:Int)=e.Next
 op:e.Open.length≤16
 bf:∀ o ∈ e.Open,bf.Good o.Buf.L
 nx:0≤e.Next∧e.Next≤n
theorem EgI.up {e:Am} {n m:Nat} (h:EgI e n) (hm:n≤m):EgI e m:=⟨h.st.mono hm,h.kl,by have:=h.ts;omega,h.tk,h.cert,h.op,h.bf,h.nx.1,by have:=h.nx.2;omega⟩
theorem EgI.sc {e:Am} {n:Nat} (h:EgI e n):ss.SC e.Cert:=by
 obtain ⟨w,hi,hc,-⟩:=h.cert
 rw [← hc];exact hi.sc
theorem Af5 (e:Am) (id:Int) (hl:e.Open.length≤1000):(Fy e id=some (-1))∨∃ (i:Nat) (o:Bl),e.Open[i]? = some o∧o.ID=id∧Fy e id=some (i:Int):=by
 obtain ⟨v,hv,hr⟩:=Cx (f:=Gn e id) (P:=fun s=>∃ j:Nat,j≤e.Open.length∧s=(j:Int)) (μ:=fun s=>e.Open.length-s.toNat)
  (R:=fun v=>v=.inr ()∨∃ (i:Nat) (o:Bl),e.Open[i]? = some o∧o.ID=id∧v=.inl (i:Int)) (by
   rintro _ ⟨j,hj,rfl⟩
   unfold Gn
   rcases Nat.lt_or_ge j e.Open.length with hlt | hge
   ·rw [if_pos (decide_eq_true (by omega)),Bp,List.getElem?_eq_getElem hlt,Option.bind_some]
    by_cases h:e.Open[j].ID=id
    ·rw [if_pos (decide_eq_true h)]
     exact .inr (.inr ⟨_,rfl,.inr ⟨j,_,List.getElem?_eq_getElem hlt,h,rfl⟩⟩)
    ·rw [if_neg (by rw [decide_eq_true_eq];exact h),Cc (by omega) (by omega)]
     exact .inl ⟨_,rfl,⟨j+1,hlt,rfl⟩,by simp only [Int.toNat_natCast];omega⟩
   ·rw [if_neg (by rw [decide_eq_true_eq];omega)]
    exact .inr (.inl ⟨_,rfl,.inl rfl⟩)) fuel 0 ⟨0,Nat.zero_le _,rfl⟩ (Ck (by show e.Open.length-0≤_;omega))
 unfold Fy
 rw [hv]
 rcases hr with rfl | ⟨i,o,ho,hid,rfl⟩
 ·exact .inl rfl
 ·exact .inr ⟨i,o,ho,hid,rfl⟩
theorem Akn (e:Am) (tok:Int) (hl:e.Open.length≤1000):∃ r,Jw e tok=some r∧(r.2=true→r.1 ∈ e.Open):=by
 obtain ⟨v,hv,hr⟩:=Cx (f:=H8 e tok) (P:=fun s=>∃ j:Nat,j≤e.Open.length∧s=(j:Int)) (μ:=fun s=>e.Open.length-s.toNat)
  (R:=fun v=>v=.inr ()∨∃ o ∈ e.Open,v=.inl (o,true)) (by
   rintro _ ⟨j,hj,rfl⟩
   unfold H8
   rcases Nat.lt_or_ge j e.Open.length with hlt | hge
   ·rw [if_pos (decide_eq_true (by omega)),Bp,List.getElem?_eq_getElem hlt,Option.bind_some]
    by_cases h:e.Open[j].Token=tok
    ·rw [if_pos (decide_eq_true h)]
     exact .inr (.inr ⟨_,rfl,.inr ⟨_,List.getElem_mem hlt,rfl⟩⟩)
    ·rw [if_neg (by rw [decide_eq_true_eq];exact h),Cc (by omega) (by omega)]
     exact .inl ⟨_,rfl,⟨j+1,hlt,rfl⟩,by simp only [Int.toNat_natCast];omega⟩
   ·rw [if_neg (by rw [decide_eq_true_eq];omega)]
    exact .inr (.inl ⟨_,rfl,.inl rfl⟩)) fuel 0 ⟨0,Nat.zero_le _,rfl⟩ (Ck (by show e.Open.length-0≤_;omega))
 unfold Jw
 rw [hv]
 rcases hr with rfl | ⟨o,ho,rfl⟩
 ·exact ⟨_,rfl,fun h=>by cases h⟩
 ·exact ⟨_,rfl,fun _=>ho⟩
theorem Ahk (e:Am) (id:Int) (hl:e.Open.length≤1000):J6 e id=some { e with Open:=e.Open.filter fun o=>!decide (o.ID=id) }:=by
 unfold J6
 obtain ⟨v,hv,hr⟩:=Ej (f:=Ig e id) (P:=fun s=>∃ j:Nat,j≤e.Open.length∧s=((j:Int),(e.Open.take j).filter fun o=>!decide (o.ID=id))) (μ:=fun s=>e.Open.length-s.1.toNat)
  (R:=fun v=>v=e.Open.filter fun o=>!decide (o.ID=id)) (by
   rintro _ ⟨j,hj,rfl⟩
   unfold Ig
   dsimp only
   rcases Nat.lt_or_ge j e.Open.length with hlt | hge
   ·left
    have hfl:((e.Open.take j).filter fun o=>!decide (o.ID=id)).length≤j:=Nat.le_trans (List.length_filter_le _ _) (by rw [List.length_take];omega)
    rw [if_pos (decide_eq_true (by omega)),Bp,List.getElem?_eq_getElem hlt,Option.bind_some,Cc (by omega) (by omega)]
    have htk:(e.Open.take (j+1)).filter (fun o=>!decide (o.ID=id))=(e.Open.take j).filter (fun o=>!decide (o.ID=id))++[e.Open[j]].filter (fun o=>!decide (o.ID=id)):=by rw [List.take_succ_eq_append_getElem hlt,List.filter_append]
    by_cases h:e.Open[j].ID=id
    ·rw [if_neg (by rw [decide_eq_true h];decide)]
     refine ⟨_,rfl,⟨j+1,hlt,?_⟩,by dsimp only;omega⟩
     rw [htk,List.filter_cons,if_neg (by rw [decide_eq_true h];decide),List.filter_nil,List.append_nil];rfl
    ·rw [if_pos (by rw [decide_eq_false h];rfl),if_pos (by rw [List.length_singleton];omega)]
     refine ⟨_,rfl,⟨j+1,hlt,?_⟩,by dsimp only;omega⟩
     rw [htk,List.filter_cons,if_pos (by rw [decide_eq_false h];rfl),List.filter_nil];rfl
   ·right
    have e1:j=e.Open.length:=by omega
    subst e1
    rw [if_neg (by rw [decide_eq_true_eq];omega),List.take_length]
    exact ⟨_,rfl,rfl⟩) fuel (0,[]) ⟨0,Nat.zero_le _,rfl⟩ (Ck (by show e.Open.length-0≤_;omega))
 rw [hv,Option.bind_some,hr];rfl
theorem Ajb {e:Am} {n:Nat} (h:EgI e n) {o:Bl} (ho:o ∈ e.Open):∃ b,J2 e o=some b:=by
 have hl:=h.sc.len
 unfold J2
 have hf:∃ v,Kh e.Cert o.ID=some v:=by
  rcases ss.find_c e.Cert o.ID (by omega) with ⟨-,z,e1⟩ | ⟨x,-,-,e1⟩
  ·exact ⟨_,e1⟩
  ·exact ⟨_,e1⟩
 obtain ⟨v,hv⟩:=hf
 rw [hv,Option.bind_some,show Fe o.Buf=some true from bf.sane_m (h.bf o ho),Option.bind_some]
 repeat' split
 all_goals exact ⟨_,rfl⟩
theorem Alf {e:Am} {n:Nat} (h:EgI e n) (hn:n≤500):∃ b,Iv e=some b:=by
 have hop:=h.op
 have hcl:=h.sc.len
 have hopens:∃ b,Jk e=some b:=by
  unfold Jk
  obtain ⟨v,hv,hr⟩:=Cx (f:=Gv e) (P:=fun s=>∃ j:Nat,j≤e.Open.length∧s.2=(j:Int)) (μ:=fun s=>e.Open.length-s.2.toNat)
   (R:=fun v=>(∃ b,v=.inl b)∨v=.inr ()) (by
    rintro ⟨last,_⟩ ⟨j,hj,rfl⟩
    unfold Gv
    dsimp only
    rcases Nat.lt_or_ge j e.Open.length with hlt | hge
    ·rw [if_pos (decide_eq_true (by omega)),Bp,List.getElem?_eq_getElem hlt,Option.bind_some]
     obtain ⟨b,hb⟩:=Ajb h (List.getElem_mem hlt)
     rw [hb,Option.bind_some]
     split
     ·exact .inr (.inr ⟨_,rfl,.inl ⟨_,rfl⟩⟩)
     split
     ·exact .inr (.inr ⟨_,rfl,.inl ⟨_,rfl⟩⟩)
     split
     ·exact .inr (.inr ⟨_,rfl,.inl ⟨_,rfl⟩⟩)
     unfold Jb
     dsimp only
     rw [Acs (by omega) (by omega) (by omega),Option.bind_some]
     generalize hc:(e.Open.drop (0:Int).toNat).take ((j:Int).toNat-(0:Int).toNat)=c
     have hcl:c.length≤16:=by rw [← hc,List.length_take,List.length_drop];omega
     have hin:∃ x,Lj (Fa e.Open[j] c) fuel 0=some x:=by
      obtain ⟨x,hx,-⟩:=Cx (f:=Fa e.Open[j] c) (P:=fun s=>∃ k:Nat,k≤c.length∧s=(k:Int)) (μ:=fun s=>c.length-s.toNat) (R:=fun _=>True) (by
       rintro _ ⟨k,hk,rfl⟩
       unfold Fa
       rcases Nat.lt_or_ge k c.length with hlt' | hge'
       ·rw [if_pos (decide_eq_true (by omega)),Bp,List.getElem?_eq_getElem hlt',Option.bind_some,Cc (by omega) (by omega)]
        split
        ·exact .inr (.inr ⟨_,rfl,trivial⟩)
        ·exact .inl ⟨_,rfl,⟨k+1,hlt',rfl⟩,by simp only [Int.toNat_natCast];omega⟩
       ·rw [if_neg (by rw [decide_eq_true_eq];omega)]
        exact .inr (.inl ⟨_,rfl,trivial⟩)) fuel 0 ⟨0,Nat.zero_le _,rfl⟩ (Ck (by show c.length-0≤_;omega))
      exact ⟨x,hx⟩
     obtain ⟨x,hx⟩:=hin
     rw [hx]
     cases x with
     | inl r=>exact .inr (.inr ⟨_,rfl,.inl ⟨_,rfl⟩⟩)
     | inr u =>
      left
      refine ⟨(e.Open[j].ID,((j+1:Nat):Int)),?_,⟨j+1,hlt,rfl⟩,by simp only [Int.toNat_natCast];omega⟩
      show Gq (last,(j:Int)) e.Open[j] ()=_
      unfold Gq
      dsimp only
      rw [Cc (by omega) (by omega)];rfl
    ·rw [if_neg (by rw [decide_eq_true_eq];omega)]
     exact .inr (.inl ⟨_,rfl,.inr rfl⟩)) fuel (-1,0) ⟨0,Nat.zero_le _,rfl⟩ (Ck (by show e.Open.length-0≤_;omega))
  rw [hv]
  rcases hr with ⟨b,rfl⟩ | rfl
  ·exact ⟨_,rfl⟩
  ·exact ⟨_,rfl⟩
 unfold Iv
 rw [show C3 e.Store=some true from st.ssane_m h.st (by omega) h.kl,Option.bind_some,if_neg (by decide),ss.sane_c h.sc,Option.bind_some,if_neg (by decide),show Dd e.Toks=some true from Ag9 h.tk,Option.bind_some,if_neg (by decide)]
 split
 ·exact ⟨_,rfl⟩
 split
 ·exact ⟨_,rfl⟩
 unfold Ny
 obtain ⟨v,hv,hr⟩:=Cx (f:=L3 e) (P:=fun s=>∃ j:Nat,j≤e.Cert.Txs.length∧s=(j:Int)) (μ:=fun s=>e.Cert.Txs.length-s.toNat)
  (R:=fun v=>(∃ b,v=.inl b)∨v=.inr ()) (by
   rintro _ ⟨j,hj,rfl⟩
   unfold L3
   rcases Nat.lt_or_ge j e.Cert.Txs.length with hlt | hge
   ·rw [if_pos (decide_eq_true (by omega)),Bp,List.getElem?_eq_getElem hlt,Option.bind_some,Cc (by omega) (by omega)]
    have hnx:∃ s',some (LR.cont ((j+1:Nat):Int))=(some (LR.cont s'):Option (LR Int Unit Bool))∧(∃ j:Nat,j≤e.Cert.Txs.length∧s'=(j:Int))∧e.Cert.Txs.length-s'.toNat<e.Cert.Txs.length-(j:Int).toNat:=⟨_,rfl,⟨j+1,hlt,rfl⟩,by simp only [Int.toNat_natCast];omega⟩
    split
    ·exact .inr (.inr ⟨_,rfl,.inl ⟨_,rfl⟩⟩)
    split
    ·rcases Af5 e e.Cert.Txs[j].ID (by omega) with hp | ⟨i,o,-,-,hp⟩
     ·rw [hp,Option.bind_some,if_pos (by decide)]
      exact .inr (.inr ⟨_,rfl,.inl ⟨_,rfl⟩⟩)
     ·rw [hp,Option.bind_some,if_neg (by rw [decide_eq_true_eq];omega)]
      exact .inl hnx
    ·exact .inl hnx
   ·rw [if_neg (by rw [decide_eq_true_eq];omega)]
    exact .inr (.inl ⟨_,rfl,.inr rfl⟩)) fuel 0 ⟨0,Nat.zero_le _,rfl⟩ (Ck (by show e.Cert.Txs.length-0≤_;omega))
 rw [hv]
 rcases hr with ⟨b,rfl⟩ | rfl
 ·exact ⟨_,rfl⟩
 ·obtain ⟨b,hb⟩:=hopens
  refine ⟨b,?_⟩
  show Lx e ()=_
  unfold Lx
  rw [hb];rfl
theorem Aan {e:Am} {n:Nat} (h:EgI e n) (hn:n≤500) (id:Int):∃ o err,Fc e id=some (o,err)∧((err=0∧o ∈ e.Open∧o.ID=id)∨err=1∨err=7):=by
 obtain ⟨b,hb⟩:=Alf h hn
 have hop:=h.op
 unfold Fc
 rw [hb,Option.bind_some]
 cases b with
 | false=>exact ⟨_,1,rfl,.inr (.inl rfl)⟩
 | true =>
  rw [if_neg (by decide)]
  rcases Af5 e id (by omega) with hp | ⟨i,o,ho,hid,hp⟩
  ·rw [hp,Option.bind_some,if_pos (by decide)]
   exact ⟨_,7,rfl,.inr (.inr rfl)⟩
  ·rw [hp,Option.bind_some,if_neg (by rw [decide_eq_true_eq];omega),Bp,ho]
   exact ⟨o,0,rfl,.inl ⟨rfl,List.mem_of_getElem? ho,hid⟩⟩
end Go.Proofs.YtkblaobhhoebaaaGreat.Abs
