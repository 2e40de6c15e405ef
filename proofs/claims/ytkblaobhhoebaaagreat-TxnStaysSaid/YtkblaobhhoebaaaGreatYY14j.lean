/-
 TxnStays: what a transaction sees stays.
-/
import Derived.Test.YtkblaobhhoebaaaGreatYY14i
set_option linter.unusedVariables false
set_option linter.unusedSimpArgs false
namespace Go.Proofs.YtkblaobhhoebaaaGreat.Abs
theorem Axr (a0:List Cv) (hl:a0.length≤80):∃ x,Lj (Fq a0 true) fuel 0=some x∧(x=.inl true∨(x=.inr ()∧∀ o ∈ a0,o.Token≠1073741824)):=by
 obtain ⟨x,hx,hr⟩:=Dt (f:=Fq a0 true) (P:=fun s=>∃ j:Nat,j≤a0.length∧s=(j:Int)∧∀ o ∈ a0.take j,o.Token≠1073741824) (μ:=fun s=>a0.length-s.toNat)
  (R:=fun x=>x=.inl true∨(x=.inr ()∧∀ o ∈ a0,o.Token≠1073741824)) (by
   rintro _ ⟨j,hj,rfl,hk⟩
   unfold Fq
   rcases zP j a0.length with hlt | hge
   ·rw [if_pos (decide_eq_true (by omega)),Bp,zB hlt,zA]
    by_cases h:a0[j].Token=1073741824
    ·rw [if_pos (decide_eq_true h)]
     exact .inr (.inr ⟨_,rfl,.inl rfl⟩)
    ·rw [if_neg (by rw [decide_eq_true_eq];exact h),Cd (by omega) (by omega)]
     refine .inl ⟨_,rfl,⟨j+1,hlt,rfl,fun o ho=>?_⟩,by simp only [zW];omega⟩
     rw [zM hlt] at ho
     rcases yH.1 ho with ho | ho
     ·exact hk o ho
     ·rw [zT.1 ho];exact h
   ·rw [if_neg (by rw [decide_eq_true_eq];omega)]
    rw [yZ hge] at hk
    exact .inr (.inl ⟨_,rfl,.inr ⟨rfl,hk⟩⟩)) fuel 0 ⟨0,zX _,rfl,by simp⟩ (Ci (by show a0.length-0≤_;omega))
 exact ⟨x,hx,hr⟩
theorem Auq (a1:List Cv) (hl:a1.length≤80) (hk:∀ o ∈ a1,o.Key.length≤50) {e:Ah} {n:Nat} (he:EgI e n) (hn:n≤200) (ho:OpE e) {p:Bc} (hp:p ∈ e.Open) (hpt:p.Token=1073741824) (v5:Ah × Int × Int) (hv:v5.2.1=p.ID) (key:List UInt8) :
  ∃ f,Cw (Fp a1 v5) fuel (0,e)=some f∧EgI f (n+a1.length)∧OpE f∧p ∈ f.Open∧B5 f.Store key p.Snap=B5 e.Store key p.Snap:=by
 obtain ⟨f,hf,hr⟩:=Di (f:=Fp a1 v5) (P:=fun s=>∃ j:Nat,j≤a1.length∧s.1=(j:Int)∧EgI s.2 (n+j)∧OpE s.2∧p ∈ s.2.Open∧B5 s.2.Store key p.Snap=B5 e.Store key p.Snap) (μ:=fun s=>a1.length-s.1.toNat)
  (R:=fun f=>EgI f (n+a1.length)∧OpE f∧p ∈ f.Open∧B5 f.Store key p.Snap=B5 e.Store key p.Snap) (by
   rintro ⟨_,g⟩ ⟨j,hj,rfl,hg,hgo,hgp,hgv⟩
   dsimp only at hg hgo hgp hgv
   unfold Fp
   dsimp only
   rcases zP j a1.length with hlt | hge
   ·left
    have hw:wI ((j:Int)+1)=((j+1:Nat):Int):=Cd (by omega) (by omega)
    have nx:∀ g':Ah,EgI g' (n+j+1)→OpE g'→p ∈ g'.Open→B5 g'.Store key p.Snap=B5 e.Store key p.Snap→∃ s',(some (LB.cont (((j+1:Nat):Int),g')):Option (LB (Int × Ah) Ah))=some (LB.cont s')∧(∃ j:Nat,j≤a1.length∧s'.1=(j:Int)∧EgI s'.2 (n+j)∧OpE s'.2∧p ∈ s'.2.Open∧B5 s'.2.Store key p.Snap=B5 e.Store key p.Snap)∧a1.length-s'.1.toNat<a1.length-(j:Int).toNat :=
     fun g' h1 h2 h3 h4=>⟨_,rfl,⟨j+1,hlt,rfl,h1,h2,h3,h4⟩,by simp only [zW];omega⟩
    have same:=nx g (hg.up (by omega)) hgo hgp hgv
    have hge0:a1[j]? = some a1[j]:=zB hlt
    rw [if_pos (decide_eq_true (by omega)),Bp,hge0,zA]
    have hM:(if g.Next > 1 then g.Next else 1)≠0:=by split <;> omega
    rw [if_pos hM,hw]
    unfold K9
    generalize (wI ((BitVec.ofInt 64 a1[j].N &&& BitVec.ofInt 64 65535).toNat:Int)).tmod (if g.Next > 1 then g.Next else 1)=id'
    split
    ·exact same
    rename_i hid
    rw [decide_eq_true_eq,hv] at hid
    rw [zA]
    split
    ·exact same
    rename_i htok
    rw [decide_eq_true_eq] at htok
    rw [zA]
    split
    ·exact same
    dsimp only
    rw [Bp,hge0,zA]
    obtain ⟨g',x,q1,q2⟩:=A06 hg (by omega) hgo a1[j] _ (hk _ (xI hlt)) hgp (fun h=>hid h.symm) (by rw [hpt];exact fun h=>htok h.symm)
    rw [q1,zA,hw]
    dsimp only
    rcases q2 with ⟨r1,r2⟩ | ⟨r1,r2,r3,r4⟩
    ·rw [if_neg (by rw [decide_eq_true r1];decide),if_neg (by rw [decide_eq_true r2];decide)]
     exact same
    ·have good:=nx g' r1 r2 r3 ((r4 key).trans hgv)
     split
     ·exact good
     split
     ·exact good
     ·exact same
   ·right
    have e1:j=a1.length:=by omega
    subst e1
    rw [if_neg (by rw [decide_eq_true_eq];omega)]
    exact ⟨_,rfl,hg,hgo,hgp,hgv⟩) fuel (0,e) ⟨0,zX _,rfl,he,ho,hp,rfl⟩ (Ci (by show a1.length-0≤_;omega))
 exact ⟨f,hf,hr⟩
theorem Acb (a0:List Cv) (a1:List Cv) (a2:List UInt8):Oo a0 a1 a2=some true:=by
 unfold Oo
 rw [Ase,zA]
 obtain ⟨v,hv,hs⟩:=Ak8 a0
 rw [hv,zA]
 split
 ·rfl
 rename_i hvt
 obtain ⟨h80,hkey⟩:=hs (by simpa using hvt)
 obtain ⟨w,hw,hs1⟩:=Ak8 a1
 rw [hw,zA]
 split
 ·rfl
 rename_i hwt
 obtain ⟨h81,hkey1⟩:=hs1 (by simpa using hwt)
 split
 ·rfl
 rename_i hl16
 rw [decide_eq_true_eq] at hl16
 split
 ·rfl
 rename_i hl0
 rw [decide_eq_true_eq] at hl0
 have hk:st.kOk a2=true:=by
  unfold st.kOk
  rw [decide_eq_true (by omega),decide_eq_true (by omega)];rfl
 unfold L0
 obtain ⟨x,hx,hr⟩:=Axr a0 h80
 rw [hx,zA]
 rcases hr with rfl | ⟨rfl,hno⟩
 ·rfl
 dsimp only
 unfold L5
 obtain ⟨e,d,hp,he,ho,hn1,hn2⟩:=Ap2 a0 h80 hkey 1073741824 hno
 rw [hp,zA]
 dsimp only
 obtain ⟨f,id,er,b1,b2,b3,b4,b5,-,-,b6⟩:=Ag9 he (by omega) ho 1073741824 1 true
 rw [b1,zA]
 dsimp only
 have hfo:=b2.op
 have hft:=b2.sc.len
 have hfk:=b2.tk.n
 split
 ·rename_i her
  have her:er≠0:=by simpa using her
  rw [if_pos rfl]
  have:=b6 her hn2 hn1 (by decide)
  rw [Cd (n:=(f.Open.length:Int)+(f.Cert.Txs.length:Int)) (by omega) (by omega),Cd (by omega) (by omega),decide_eq_true (by omega)]
 ·rename_i her
  have her:er=0:=by simpa using her
  obtain ⟨o,ho1,ho2,ho3,ho4,ho5,ho6⟩:=b5 her
  obtain ⟨g,w,fo,er2,c1,-,c3⟩:=Akx b2 (by omega) b3 ho1 ho5 hk
  rw [← ho2,c1,zA]
  dsimp only
  split
  ·rfl
  rename_i he2
  have he2:er2=0:=by simpa using he2
  obtain ⟨d1,d2,d3,d4,d5⟩:=c3 he2
  have hnx:=(W6 d2 d3 d4).2
  rw [if_neg (by rw [decide_eq_true_eq];omega)]
  obtain ⟨q,i1,i2,i3,i4,i5⟩:=Auq a1 h81 hkey1 d2 (by omega) d3 d4 ho3 (f,o.ID,er) rfl a2
  rw [i1,zA]
  unfold Lv Rj
  dsimp only
  have hfind:Fc q o.ID=some (o,0):=by
   rcases Zc i2 (by omega) i3 o.ID with ⟨p,p1,p2,p3⟩ | ⟨p1,-⟩
   ·rw [i3.id_eq p1 i4 p2] at p3;exact p3
   ·exact absurd rfl (p1 o i4)
  rw [hfind,zA,zA]
  obtain ⟨q2,w2,fo2,er3,j1,j2,j3⟩:=Akx i2 (by omega) i3 i4 ho5 hk
  rw [j1,zA,if_pos rfl]
  dsimp only
  rw [if_pos (by show decide ((0:Int)=0)=true;decide)]
  by_cases hz:er3=0
  ·subst hz
   have h1:=(j3 rfl).1
   rw [i5,d5,d1] at h1
   simp only [zQ,Prod.mk.injEq] at h1
   obtain ⟨rfl,rfl⟩:=h1
   rw [if_neg (by show ¬ (!decide ((0:Int)=0))=true;decide),if_pos (beq_self_eq_true _),if_pos (beq_self_eq_true _),if_pos (by show decide ((0:Int)=0)=true;decide)]
  ·rw [if_pos (by rw [decide_eq_false hz];rfl),if_neg (by rw [decide_eq_true_eq];exact hz)]
   rcases j2 with h | h | h
   ·exact absurd h hz
   ·rw [if_neg (by rw [decide_eq_true_eq];omega),decide_eq_true h]
   ·rw [if_pos (decide_eq_true h)]
end Go.Proofs.YtkblaobhhoebaaaGreat.Abs
