/-
 What an engine's calls answer, and what they keep.
-/
import Derived.Test.YtkblaobhhoebaaaGreatLF14x
import Derived.Test.YtkblaobhhoebaaaGreatLB14
import Derived.Test.YtkblaobhhoebaaaGreatLD14
import Derived.Test.YtkblaobhhoebaaaGreatLE14
set_option linter.unusedVariables false
set_option linter.unusedSimpArgs false
namespace Go.Proofs.YtkblaobhhoebaaaGreat.Abs
structure EgI (e:Ab) (n:Nat):Prop where
 st:st.OkS e.Store.Keys e.Store.Chains e.Store.Ts n
 kl:e.Store.Keys.length<=128
 ts:e.Store.Ts<=n
 tk:OkT e.Toks.L
 cert:∃ w:ss.WL11,ss.Inv ss.K10 w/\w.c=e.Cert/\w.now=e.Store.Ts/\(w.begun.length:Int)=e.Next
 op:e.Open.length<=16
 bf:∀ o∈e.Open,bf.Good o.Buf.L
 nx:0<=e.Next/\e.Next<=n
theorem EgI.up {e:Ab} {n m:Nat} (h:EgI e n) (hm:n<=m):EgI e m:=⟨h.st.mono hm,h.kl,by have:=h.ts;omega,h.tk,h.cert,h.op,h.bf,h.nx.1,by have:=h.nx.2;omega⟩
theorem EgI.sc {e:Ab} {n:Nat} (h:EgI e n):ss.SC e.Cert:=by
 obtain⟨w,hi,hc,-⟩:=h.cert
 rw[<- hc];exact hi.sc
theorem Ayn (e:Ab) (id:Int) (hl:e.Open.length<=1000):(Dc e id=some (-1))\/∃ (i:Nat) (o:Ax),e.Open[i]? = some o/\o.ID=id/\Dc e id=some (i:Int):=by
 obtain⟨v,hv,hr⟩:=Cr (f:=Gn e id) (P:=λs=>∃ j:Nat,j<=e.Open.length/\s=(j:Int)) (μ:=λs=>e.Open.length-s.toNat)
  (R:=λv=>v=.inr ()\/∃ (i:Nat) (o:Ax),e.Open[i]? = some o/\o.ID=id/\v=.inl (i:Int)) (by
   rintro _ ⟨j,hj,rfl⟩
   unfold Gn
   rcases zU j e.Open.length with hlt|hge
   ·rw[ifo,A3,zC hlt,zA]
    by_cases h:e.Open[j].ID=id
    ·rw[ifp h]
     exact .inr (.inr ⟨_,rfl,.inr ⟨j,_,zC hlt,h,rfl⟩⟩)
    ·rw[ifn h,wIo]
     exact .inl ⟨_,rfl,⟨j+1,hlt,rfl⟩,by simp only[zT];omega⟩
   ·rw[ifq]
    exact .inr (.inl ⟨_,rfl,.inl rfl⟩)) fuel 0 ⟨0,zZ _,rfl⟩ (Bs (by show e.Open.length-0<=_;omega))
 unfold Dc
 rw[hv]
 rcases hr with rfl|⟨i,o,ho,hid,rfl⟩
 ·exact .inl rfl
 ·exact .inr ⟨i,o,ho,hid,rfl⟩
theorem Uv (e:Ab) (id:Int) (hl:e.Open.length<=1000):Kc e id=some { e with Open:=e.Open.filter λo=>!decide (o.ID=id) }:=by
 unfold Kc
 obtain⟨v,hv,hr⟩:=Cj (f:=Jc e id) (P:=λs=>∃ j:Nat,j<=e.Open.length/\s=((j:Int),(e.Open.take j).filter λo=>!decide (o.ID=id))) (μ:=λs=>e.Open.length-s.1.toNat)
  (R:=λv=>v=e.Open.filter λo=>!decide (o.ID=id)) (by
   rintro _ ⟨j,hj,rfl⟩
   unfold Jc
   dsimp only
   rcases zU j e.Open.length with hlt|hge
   ·left
    have hfl:((e.Open.take j).filter λo=>!decide (o.ID=id)).length<=j:=yP (wC _ _) (by rw[zN];omega)
    rw[ifo,A3,zC hlt,zA,wIo]
    have htk:(e.Open.take (j+1)).filter (λo=>!decide (o.ID=id))=(e.Open.take j).filter (λo=>!decide (o.ID=id))++[e.Open[j]].filter (λo=>!decide (o.ID=id)):=by rw[zV hlt,List.filter_append]
    by_cases h:e.Open[j].ID=id
    ·rw[if_neg (by rw[decide_eq_true h];decide)]
     refine⟨_,rfl,⟨j+1,hlt,?_⟩,by dsimp only;omega⟩
     rw[htk,jI,if_neg (by rw[decide_eq_true h];decide),List.filter_nil,xG];rfl
    ·rw[if_pos (by rw[decide_eq_false h];rfl),if_pos (by rw[yD];omega)]
     refine⟨_,rfl,⟨j+1,hlt,?_⟩,by dsimp only;omega⟩
     rw[htk,jI,if_pos (by rw[decide_eq_false h];rfl),List.filter_nil];rfl
   ·right
    have e1:j=e.Open.length:=by omega
    subst e1
    rw[ifq,yJ]
    exact⟨_,rfl,rfl⟩) fuel (0,[]) ⟨0,zZ _,rfl⟩ (Bs (by show e.Open.length-0<=_;omega))
 rw[hv,zA,hr];rfl
end Go.Proofs.YtkblaobhhoebaaaGreat.Abs
