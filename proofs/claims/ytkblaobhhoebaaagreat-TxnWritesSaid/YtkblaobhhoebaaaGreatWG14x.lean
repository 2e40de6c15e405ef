/-
 What an engine's calls answer, and what they keep.
-/
import Derived.Test.YtkblaobhhoebaaaGreatWF14x
import Derived.Test.YtkblaobhhoebaaaGreatWB14
import Derived.Test.YtkblaobhhoebaaaGreatWD14
import Derived.Test.YtkblaobhhoebaaaGreatWE14
set_option linter.unusedVariables false
set_option linter.unusedSimpArgs false
namespace Go.Proofs.YtkblaobhhoebaaaGreat.Abs
structure EgI (e:Ah) (n:Nat):Prop where
 st:st.OkS e.Store.Keys e.Store.Chains e.Store.Ts n
 kl:e.Store.Keys.length≤128
 ts:e.Store.Ts≤n
 tk:OkT e.Toks.L
 cert:∃ w:ss.WL11,ss.Inv ss.K10 w∧w.c=e.Cert∧w.now=e.Store.Ts∧(w.begun.length:Int)=e.Next
 op:e.Open.length≤16
 bf:∀ o ∈ e.Open,bf.Good o.Buf.L
 nx:0≤e.Next∧e.Next≤n
theorem EgI.up {e:Ah} {n m:Nat} (h:EgI e n) (hm:n≤m):EgI e m:=⟨h.st.mono hm,h.kl,by have:=h.ts;omega,h.tk,h.cert,h.op,h.bf,h.nx.1,by have:=h.nx.2;omega⟩
theorem EgI.sc {e:Ah} {n:Nat} (h:EgI e n):ss.SC e.Cert:=by
 obtain ⟨w,hi,hc,-⟩:=h.cert
 rw [← hc];exact hi.sc
theorem Ay2 (e:Ah) (id:Int) (hl:e.Open.length≤1000):(Ee e id=some (-1))∨∃ (i:Nat) (o:Be),e.Open[i]? = some o∧o.ID=id∧Ee e id=some (i:Int):=by
 obtain ⟨v,hv,hr⟩:=Dh (f:=Gv e id) (P:=fun s=>∃ j:Nat,j≤e.Open.length∧s=(j:Int)) (μ:=fun s=>e.Open.length-s.toNat)
  (R:=fun v=>v=.inr ()∨∃ (i:Nat) (o:Be),e.Open[i]? = some o∧o.ID=id∧v=.inl (i:Int)) (by
   rintro _ ⟨j,hj,rfl⟩
   unfold Gv
   rcases zO j e.Open.length with hlt | hge
   ·rw [if_pos (decide_eq_true (by omega)),Bn,zB hlt,zA]
    by_cases h:e.Open[j].ID=id
    ·rw [if_pos (decide_eq_true h)]
     exact .inr (.inr ⟨_,rfl,.inr ⟨j,_,zB hlt,h,rfl⟩⟩)
    ·rw [if_neg (by rw [decide_eq_true_eq];exact h),Cb (by omega) (by omega)]
     exact .inl ⟨_,rfl,⟨j+1,hlt,rfl⟩,by simp only [zR];omega⟩
   ·rw [if_neg (by rw [decide_eq_true_eq];omega)]
    exact .inr (.inl ⟨_,rfl,.inl rfl⟩)) fuel 0 ⟨0,zY _,rfl⟩ (Ce (by show e.Open.length-0≤_;omega))
 unfold Ee
 rw [hv]
 rcases hr with rfl | ⟨i,o,ho,hid,rfl⟩
 ·exact .inl rfl
 ·exact .inr ⟨i,o,ho,hid,rfl⟩
theorem Zc (e:Ah) (id:Int) (hl:e.Open.length≤1000):Kp e id=some { e with Open:=e.Open.filter fun o=>!decide (o.ID=id) }:=by
 unfold Kp
 obtain ⟨v,hv,hr⟩:=C9 (f:=I2 e id) (P:=fun s=>∃ j:Nat,j≤e.Open.length∧s=((j:Int),(e.Open.take j).filter fun o=>!decide (o.ID=id))) (μ:=fun s=>e.Open.length-s.1.toNat)
  (R:=fun v=>v=e.Open.filter fun o=>!decide (o.ID=id)) (by
   rintro _ ⟨j,hj,rfl⟩
   unfold I2
   dsimp only
   rcases zO j e.Open.length with hlt | hge
   ·left
    have hfl:((e.Open.take j).filter fun o=>!decide (o.ID=id)).length≤j:=yO (xQ _ _) (by rw [zL];omega)
    rw [if_pos (decide_eq_true (by omega)),Bn,zB hlt,zA,Cb (by omega) (by omega)]
    have htk:(e.Open.take (j+1)).filter (fun o=>!decide (o.ID=id))=(e.Open.take j).filter (fun o=>!decide (o.ID=id))++[e.Open[j]].filter (fun o=>!decide (o.ID=id)):=by rw [zM hlt,List.filter_append]
    by_cases h:e.Open[j].ID=id
    ·rw [if_neg (by rw [decide_eq_true h];decide)]
     refine ⟨_,rfl,⟨j+1,hlt,?_⟩,by dsimp only;omega⟩
     rw [htk,kH,if_neg (by rw [decide_eq_true h];decide),List.filter_nil,xF];rfl
    ·rw [if_pos (by rw [decide_eq_false h];rfl),if_pos (by rw [yE];omega)]
     refine ⟨_,rfl,⟨j+1,hlt,?_⟩,by dsimp only;omega⟩
     rw [htk,kH,if_pos (by rw [decide_eq_false h];rfl),List.filter_nil];rfl
   ·right
    have e1:j=e.Open.length:=by omega
    subst e1
    rw [if_neg (by rw [decide_eq_true_eq];omega),yI]
    exact ⟨_,rfl,rfl⟩) fuel (0,[]) ⟨0,zY _,rfl⟩ (Ce (by show e.Open.length-0≤_;omega))
 rw [hv,zA,hr];rfl
end Go.Proofs.YtkblaobhhoebaaaGreat.Abs
