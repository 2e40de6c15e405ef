/-
 What an engine's calls answer, and what they keep.
-/
import Derived.Test.YtkblaobhhoebaaaGreatYF14x
import Derived.Test.YtkblaobhhoebaaaGreatYB14
import Derived.Test.YtkblaobhhoebaaaGreatYD14
import Derived.Test.YtkblaobhhoebaaaGreatYE14
set_option linter.unusedVariables false
set_option linter.unusedSimpArgs false
namespace Go.Proofs.YtkblaobhhoebaaaGreat.Abs
structure EgI (e:Ah) (n:Nat):Prop where
 st:st.OkS e.Store.Keys e.Store.Chains e.Store.Ts n
 kl:e.Store.Keys.length≤128
 ts:e.Store.Ts≤n
 tk:OkT e.Toks.L
 cert:∃ w:ss.WL11,ss.Inv ss.K10 w∧w.c=e.Cert∧w.now=e.Store.Ts∧(w.begun.length:Int)=e.Next
 op:e.Open.length≤16
 bf:∀ o ∈ e.Open,bf.Good o.Buf.L
 nx:0≤e.Next∧e.Next≤n
theorem EgI.up {e:Ah} {n m:Nat} (h:EgI e n) (hm:n≤m):EgI e m:=⟨h.st.mono hm,h.kl,by have:=h.ts;omega,h.tk,h.cert,h.op,h.bf,h.nx.1,by have:=h.nx.2;omega⟩
theorem EgI.sc {e:Ah} {n:Nat} (h:EgI e n):ss.SC e.Cert:=by
 obtain ⟨w,hi,hc,-⟩:=h.cert
 rw [← hc];exact hi.sc
theorem Ax1 (e:Ah) (id:Int) (hl:e.Open.length≤1000):(Ei e id=some (-1))∨∃ (i:Nat) (o:Bc),e.Open[i]? = some o∧o.ID=id∧Ei e id=some (i:Int):=by
 obtain ⟨v,hv,hr⟩:=Dt (f:=Gu e id) (P:=fun s=>∃ j:Nat,j≤e.Open.length∧s=(j:Int)) (μ:=fun s=>e.Open.length-s.toNat)
  (R:=fun v=>v=.inr ()∨∃ (i:Nat) (o:Bc),e.Open[i]? = some o∧o.ID=id∧v=.inl (i:Int)) (by
   rintro _ ⟨j,hj,rfl⟩
   unfold Gu
   rcases zP j e.Open.length with hlt | hge
   ·rw [if_pos (decide_eq_true (by omega)),Bp,zB hlt,zA]
    by_cases h:e.Open[j].ID=id
    ·rw [if_pos (decide_eq_true h)]
     exact .inr (.inr ⟨_,rfl,.inr ⟨j,_,zB hlt,h,rfl⟩⟩)
    ·rw [if_neg (by rw [decide_eq_true_eq];exact h),Cd (by omega) (by omega)]
     exact .inl ⟨_,rfl,⟨j+1,hlt,rfl⟩,by simp only [zW];omega⟩
   ·rw [if_neg (by rw [decide_eq_true_eq];omega)]
    exact .inr (.inl ⟨_,rfl,.inl rfl⟩)) fuel 0 ⟨0,zX _,rfl⟩ (Ci (by show e.Open.length-0≤_;omega))
 unfold Ei
 rw [hv]
 rcases hr with rfl | ⟨i,o,ho,hid,rfl⟩
 ·exact .inl rfl
 ·exact .inr ⟨i,o,ho,hid,rfl⟩
theorem Y5 (e:Ah) (id:Int) (hl:e.Open.length≤1000):Ko e id=some { e with Open:=e.Open.filter fun o=>!decide (o.ID=id) }:=by
 unfold Ko
 obtain ⟨v,hv,hr⟩:=Di (f:=Iw e id) (P:=fun s=>∃ j:Nat,j≤e.Open.length∧s=((j:Int),(e.Open.take j).filter fun o=>!decide (o.ID=id))) (μ:=fun s=>e.Open.length-s.1.toNat)
  (R:=fun v=>v=e.Open.filter fun o=>!decide (o.ID=id)) (by
   rintro _ ⟨j,hj,rfl⟩
   unfold Iw
   dsimp only
   rcases zP j e.Open.length with hlt | hge
   ·left
    have hfl:((e.Open.take j).filter fun o=>!decide (o.ID=id)).length≤j:=yO (xS _ _) (by rw [zL];omega)
    rw [if_pos (decide_eq_true (by omega)),Bp,zB hlt,zA,Cd (by omega) (by omega)]
    have htk:(e.Open.take (j+1)).filter (fun o=>!decide (o.ID=id))=(e.Open.take j).filter (fun o=>!decide (o.ID=id))++[e.Open[j]].filter (fun o=>!decide (o.ID=id)):=by rw [zM hlt,List.filter_append]
    by_cases h:e.Open[j].ID=id
    ·rw [if_neg (by rw [decide_eq_true h];decide)]
     refine ⟨_,rfl,⟨j+1,hlt,?_⟩,by dsimp only;omega⟩
     rw [htk,kT,if_neg (by rw [decide_eq_true h];decide),List.filter_nil,xF];rfl
    ·rw [if_pos (by rw [decide_eq_false h];rfl),if_pos (by rw [yE];omega)]
     refine ⟨_,rfl,⟨j+1,hlt,?_⟩,by dsimp only;omega⟩
     rw [htk,kT,if_pos (by rw [decide_eq_false h];rfl),List.filter_nil];rfl
   ·right
    have e1:j=e.Open.length:=by omega
    subst e1
    rw [if_neg (by rw [decide_eq_true_eq];omega),yI]
    exact ⟨_,rfl,rfl⟩) fuel (0,[]) ⟨0,zX _,rfl⟩ (Ci (by show e.Open.length-0≤_;omega))
 rw [hv,zA,hr];rfl
end Go.Proofs.YtkblaobhhoebaaaGreat.Abs
