/-
 An engine as the document's; it is the same as itself.
-/
import Derived.Test.YtkblaobhhoebaaaGreatSZ14f
set_option linter.unusedVariables false
set_option linter.unusedSimpArgs false
namespace Go.Proofs.YtkblaobhhoebaaaGreat.Abs
theorem P4 {f:Int->Option (LR Int Unit Bool)} (n:Nat) (hn:n<=1000000) (h:∀ j:Nat,j<n->f j=some (.cont (wI ((j:Int)+1)))) (h1:f n=some (.brk ())):Iz f fuel 0=some (.inr ()):=by
 obtain⟨v,hv,hr⟩:=D2 (f:=f) (P:=λs=>∃ j:Nat,j<=n/\s=(j:Int)) (μ:=λs=>n-s.toNat) (R:=λv=>v=.inr ()) (by
  rintro _ ⟨j,hj,rfl⟩
  rcases zO j n with hlt|hge
  ·rw[h j hlt,Cd (by omega) (by omega)]
   exact .inl ⟨_,rfl,⟨j+1,hlt,rfl⟩,by simp only[zT];omega⟩
  ·rw[show j=n by omega]
   exact .inr (.inl ⟨_,h1,rfl⟩)) fuel 0 ⟨0,zX _,rfl⟩ (Co (by show n-0<=_;omega))
 rw[hv,hr]
theorem Uk {α:Type} {f:Int×List α->Option (LB (Int×List α) (List α))} (P:α->Prop) (n:Nat) (hn:n<=1000000) (h:∀ (j:Nat) (l:List α),j<n->l.length=j->∃ a,P a/\f ((j:Int),l)=some (.cont (wI ((j:Int)+1),l++[a]))) (h1:∀ l,f ((n:Int),l)=some (.brk l)):∃ l,Cz f fuel (0,[])=some l/\l.length=n/\∀ a∈l,P a:=by
 obtain⟨v,hv,hr⟩:=Dm (f:=f) (P:=λs=>∃ j:Nat,j<=n/\s.1=(j:Int)/\s.2.length=j/\∀ a∈s.2,P a) (μ:=λs=>n-s.1.toNat) (R:=λv=>v.length=n/\∀ a∈v,P a) (by
  rintro⟨_,l⟩ ⟨j,hj,rfl,hl,hp⟩
  dsimp only at hl hp
  rcases zO j n with hlt|hge
  ·obtain⟨a,ha,hf⟩:=h j l hlt hl
   rw[hf,Cd (by omega) (by omega)]
   refine .inl ⟨_,rfl,⟨j+1,hlt,rfl,by show(l++[a]).length=_;rw[zH,hl];rfl,λb hb=>?_⟩,by simp only[zT];omega⟩
   rcases yH.1 hb with hb|hb
   ·exact hp b hb
   ·rw[zV.1 hb];exact ha
  ·have e1:j=n:=by omega
   subst e1
   exact .inr ⟨_,h1 l,hl,hp⟩) fuel (0,[]) ⟨0,zX _,rfl,rfl,λa ha=>by cases ha⟩ (Co (by show n-0<=_;omega))
 exact⟨v,hv,hr⟩
theorem Azy (l:List Fu) (hl:l.length<=1000000):Qh l l=some true:=by
 unfold Qh
 rw[if_neg (by simp),P4 l.length hl ?_ ?_]
 ·rfl
 ·intro j hj
  unfold L6 Tt
  rw[if_pos (decide_eq_true (by omega)),Bo,zB hj]
  simp
 ·unfold L6
  rw[if_neg (by simp)]
theorem Azu (s:Gi) (h1:s.Keys.length<=1000000) (h2:s.Chains.length<=1000000) (h3:∀ c∈s.Chains,c.L.length<=1000000):Rn s s=some true:=by
 unfold Rn
 rw[if_neg (by simp),if_neg (by simp),if_neg (by simp)]
 unfold P7
 rw[P4 s.Keys.length h1 ?_ ?_,zA]
 ·show Nt s s ()=_
  unfold Nt
  rw[P4 s.Chains.length h2 ?_ ?_]
  ·rfl
  ·intro j hj
   unfold Nv
   rw[if_pos (decide_eq_true (by omega)),Bo,zB hj,zA,zA,Azy _ (h3 _ (yY hj))]
   rfl
  ·unfold Nv
   rw[if_neg (by simp)]
 ·intro j hj
  unfold Ng
  rw[if_pos (decide_eq_true (by omega)),Bo,zB hj]
  simp
 ·unfold Ng
  rw[if_neg (by simp)]
theorem Az8 (t:Nc) (hl:t.L.length<=1000000):P0 t t=some true:=by
 unfold P0
 rw[if_neg (by simp),P4 t.L.length hl ?_ ?_]
 ·rfl
 ·intro j hj
  unfold Mb Sf Mx
  rw[if_pos (decide_eq_true (by omega)),Bo,zB hj]
  simp
 ·unfold Mb
  rw[if_neg (by simp)]
theorem Axm (c:Oc) (h1:c.Txs.length<=1000000) (h2:c.Reads.L.length<=1000000) (h3:∀ x∈c.Txs,x.Keys.length<=1000000):Rh c c=some true:=by
 unfold Rh
 rw[if_neg (by simp),Az8 _ h2,zA,if_neg (by decide)]
 unfold P5
 rw[P4 c.Txs.length h1 ?_ ?_]
 ·rfl
 ·intro j hj
  have key:M2 c.Txs[j] c.Txs[j]=some true:=by
   have hk:=h3 _ (yY hj)
   generalize c.Txs[j]=x at hk
   unfold M2
   simp only[decide_true,jH,beq_self_eq_true,kO,if_false]
   unfold Mt
   rw[P4 x.Keys.length hk ?_ ?_]
   ·rfl
   ·intro i hi
    unfold Jl
    rw[if_pos (decide_eq_true (by omega)),Bo,zB hi]
    simp
   ·unfold Jl
    rw[if_neg (by simp)]
  unfold Nm
  rw[if_pos (decide_eq_true (by omega)),Bo,zB hj,zA,zA,key]
  rfl
 ·unfold Nm
  rw[if_neg (by simp)]
theorem Azn (t:Nx) (hl:t.L.length<=1000000):Ro t t=some true:=by
 unfold Ro
 rw[if_neg (by simp),P4 t.L.length hl ?_ ?_]
 ·rfl
 ·intro j hj
  unfold Nl
  rw[if_pos (decide_eq_true (by omega)),Bo,zB hj]
  simp
 ·unfold Nl
  rw[if_neg (by simp)]
theorem Ay6 (l:List A7) (hl:l.length<=1000000):Rf l l=some true:=by
 unfold Rf
 rw[if_neg (by simp),P4 l.length hl ?_ ?_]
 ·rfl
 ·intro j hj
  unfold Nw
  rw[if_pos (decide_eq_true (by omega)),Bo,zB hj]
  simp
 ·unfold Nw
  rw[if_neg (by simp)]
structure A4q (e:Du):Prop where
 s1:e.Store.Keys.length<=1000000
 s2:e.Store.Chains.length<=1000000
 s3:∀ c∈e.Store.Chains,c.L.length<=1000000
 c1:e.Cert.Txs.length<=1000000
 c2:e.Cert.Reads.L.length<=1000000
 c3:∀ x∈e.Cert.Txs,x.Keys.length<=1000000
 t1:e.Toks.L.length<=1000000
 o1:e.Open.length<=1000000
 o2:∀ x∈e.Open,x.Buf.L.length<=1000000
theorem Asi {e:Du} (h:A4q e):Rj e e=some true:=by
 unfold Rj
 rw[Azu _ h.s1 h.s2 h.s3,zA,if_neg (by decide),Axm _ h.c1 h.c2 h.c3,zA,if_neg (by decide),Azn _ h.t1,zA,if_neg (by decide),if_neg (by simp),if_neg (by simp)]
 unfold P1
 rw[P4 e.Open.length h.o1 ?_ ?_]
 ·rfl
 ·intro j hj
  unfold Nz
  rw[if_pos (decide_eq_true (by omega)),Bo,zB hj,zA,zA]
  simp only[decide_true,jH,beq_self_eq_true,kO,if_false]
  rw[Ay6 _ (h.o2 _ (yY hj))]
  rfl
 ·unfold Nz
  rw[if_neg (by simp)]
theorem Atj {e:Ai} {n:Nat} (h:EgI e n) (hn:n<=500):∃ d,Mg e=some d/\A4q d:=by
 have hkl:=h.kl
 have hcl:=h.st.cl
 have hop:=h.op
 have htk:=h.tk.n
 have hsl:=h.sc.len
 have hrl:=h.sc.gr.len
 unfold Mg
 obtain⟨b1,q1,l1,p1⟩:=Uk (f:=G5 e) (λc=>c.L.length<=1000000) e.Store.Chains.length (by omega) (λj l hj hl=>by
  have hc:=(h.st.cs _ (yY hj)).2.2.2
  obtain⟨v,w1,w2,-⟩:=Uk (f:=Gv e ((j:Int),l)) (λ_=>True) e.Store.Chains[j].L.length (by omega) (λi u hi hu=>by
   unfold Gv
   dsimp only
   rw[Bo,zB hj,zA,if_pos (decide_eq_true (by omega)),zA,Bo,zB hi,zA,if_pos (by rw[z6];omega)]
   exact⟨_,trivial,rfl⟩) (λu=>by
   unfold Gv
   dsimp only
   rw[Bo,zB hj,zA,if_neg (by simp)])
  unfold G5
  dsimp only
  rw[if_pos (decide_eq_true (by omega)),w1,zA]
  unfold Mq
  dsimp only
  rw[if_pos (by rw[z6];omega)]
  exact⟨⟨v⟩,by show v.length<=_;omega,rfl⟩) (λl=>by
  unfold G5
  dsimp only
  rw[if_neg (by simp)])
 rw[q1,zA]
 unfold Oa
 obtain⟨b2,q2,l2,p2⟩:=Uk (f:=Gx e) (λc=>c.Keys.length<=1000000) e.Cert.Txs.length (by omega) (λj l hj hl=>by
  have hc:=h.sc.keys _ (yY hj)
  unfold Gx
  dsimp only
  rw[if_pos (decide_eq_true (by omega)),Bo,zB hj,zA,if_pos (by rw[z6];omega)]
  exact⟨_,by show e.Cert.Txs[j].Keys.length<=_;omega,rfl⟩) (λl=>by
  unfold Gx
  dsimp only
  rw[if_neg (by simp)])
 rw[q2,zA]
 unfold Og
 obtain⟨b3,q3,l3,-⟩:=Uk (f:=Gn e) (λ_=>True) e.Cert.Reads.L.length (by omega) (λj l hj hl=>by
  unfold Gn
  dsimp only
  rw[if_pos (decide_eq_true (by omega)),Bo,zB hj,zA,zA,if_pos (by rw[z6];omega)]
  exact⟨_,trivial,rfl⟩) (λl=>by
  unfold Gn
  dsimp only
  rw[if_neg (by simp)])
 rw[q3,zA]
 unfold Oi
 obtain⟨b4,q4,l4,-⟩:=Uk (f:=Gz e) (λ_=>True) e.Toks.L.length (by omega) (λj l hj hl=>by
  unfold Gz
  dsimp only
  rw[if_pos (decide_eq_true (by omega)),Bo,zB hj,zA,if_pos (by rw[z6];omega)]
  exact⟨_,trivial,rfl⟩) (λl=>by
  unfold Gz
  dsimp only
  rw[if_neg (by simp)])
 rw[q4,zA]
 unfold N5
 obtain⟨b5,q5,l5,p5⟩:=Uk (f:=H7 e) (λc=>c.Buf.L.length<=1000000) e.Open.length (by omega) (λj l hj hl=>by
  have hc:=(h.bf _ (yY hj)).len
  unfold H7
  dsimp only
  rw[if_pos (decide_eq_true (by omega)),Bo,zB hj,zA,if_pos (by rw[z6];omega)]
  exact⟨_,by show e.Open[j].Buf.L.length<=_;omega,rfl⟩) (λl=>by
  unfold H7
  dsimp only
  rw[if_neg (by simp)])
 rw[q5,zA]
 exact⟨_,rfl,⟨by show e.Store.Keys.length<=_;omega,by show b1.length<=_;omega,p1,by show b2.length<=_;omega,by show b3.length<=_;omega,p2,by show b4.length<=_;omega,by show b5.length<=_;omega,p5⟩⟩
end Go.Proofs.YtkblaobhhoebaaaGreat.Abs
