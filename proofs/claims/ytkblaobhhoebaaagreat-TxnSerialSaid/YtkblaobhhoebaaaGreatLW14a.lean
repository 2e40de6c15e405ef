/-
 What an engine must be for it to be sane; it is.
-/
import Derived.Test.YtkblaobhhoebaaaGreatLJ14x
set_option linter.unusedVariables false
set_option linter.unusedSimpArgs false
namespace Go.Proofs.YtkblaobhhoebaaaGreat.Abs
structure OpE (e:Ab):Prop where
 act:∀ x∈e.Cert.Txs,x.State=1->∃ o∈e.Open,o.ID=x.ID
 ops:∀ o∈e.Open,∃ x∈e.Cert.Txs,x.ID=o.ID/\x.State=1/\x.Begin=o.Snap/\x.RO=o.RO
 ro:∀ o∈e.Open,o.RO=true->o.Buf.L=[]
 ids:e.Open.Pairwise λa b=>a.ID<b.ID
 toks:e.Open.Pairwise λa b=>a.Token≠b.Token
 tks:∀ o∈e.Open,∃ x,fnd e.Toks.L o.Token=some x/\x.State=1/\x.Attempt=o.Attempt
theorem Zi (e:Ab) (id:Int) (hl:e.Open.length<=1000):((∀ o∈e.Open,o.ID≠id)/\Dc e id=some (-1))\/∃ (i:Nat) (o:Ax),e.Open[i]? = some o/\o.ID=id/\Dc e id=some (i:Int):=by
 obtain⟨v,hv,hr⟩:=Cr (f:=Gn e id) (P:=λs=>∃ j:Nat,j<=e.Open.length/\s=(j:Int)/\∀ o∈e.Open.take j,o.ID≠id) (μ:=λs=>e.Open.length-s.toNat)
  (R:=λv=>(v=.inr ()/\∀ o∈e.Open,o.ID≠id)\/∃ (i:Nat) (o:Ax),e.Open[i]? = some o/\o.ID=id/\v=.inl (i:Int)) (by
   rintro _ ⟨j,hj,rfl,hk⟩
   unfold Gn
   rcases zU j e.Open.length with hlt|hge
   ·rw[ifo,A3,zC hlt,zA]
    by_cases h:e.Open[j].ID=id
    ·rw[ifp h]
     exact .inr (.inr ⟨_,rfl,.inr ⟨j,_,zC hlt,h,rfl⟩⟩)
    ·rw[ifn h,wIo]
     refine .inl ⟨_,rfl,⟨j+1,hlt,rfl,λo ho=>?_⟩,by simp only[zT];omega⟩
     rw[zV hlt] at ho
     rcases yC.1 ho with ho|ho
     ·exact hk o ho
     ·rw[zP.1 ho];exact h
   ·rw[ifq]
    rw[yO hge] at hk
    exact .inr (.inl ⟨_,rfl,.inl ⟨rfl,hk⟩⟩)) fuel 0 ⟨0,zZ _,rfl,by simp⟩ (Bs (by show e.Open.length-0<=_;omega))
 unfold Dc
 rw[hv]
 rcases hr with⟨rfl,hk⟩|⟨i,o,ho,hid,rfl⟩
 ·exact .inl ⟨hk,rfl⟩
 ·exact .inr ⟨i,o,ho,hid,rfl⟩
theorem EgI.begun {e:Ab} {n:Nat} (h:EgI e n) {x:Ao} (hx:x∈e.Cert.Txs):0<=x.ID/\x.ID<e.Next/\0<=x.Begin/\x.Begin<=e.Store.Ts/\x.End<=e.Store.Ts:=by
 obtain⟨w,hi,hc,hn,hb⟩:=h.cert
 rw[<- hc] at hx
 have ha:=hi.act x hx
 have hid:0<=x.ID:=(hi.each x hx).id
 obtain⟨hlt,hge⟩:=Ft ha
 have hmem:=bf.idx_mem ha
 have hbg:=hi.beg _ hmem
 have h0:=hi.now0
 refine⟨hid,by rw[<- hb];have:=(zB.1 hge).1;omega,hbg.1,by rw[<- hn];exact hbg.2,?_⟩
 rw[<- hn]
 rcases hi.sc.st hx with hs|hs
 ·rcases(hi.each x hx).st with⟨_,h2,_⟩|⟨h1,_⟩
  ·omega
  ·omega
 ·obtain⟨d,hd,h1,h2,h3,h4⟩:=hi.don x hx hs
  rw[<- h3]
  exact(hi.did0 d hd).2.2.2.1
theorem Abc {e:Ab} {n:Nat} (h:EgI e n) (k:OpE e) {o:Ax} (ho:o∈e.Open):Kq e o=some true/\0<=o.ID/\o.ID<e.Next:=by
 have hl:=h.sc.len
 obtain⟨x,hx,e1,e2,e3,e4⟩:=k.ops o ho
 obtain⟨b1,b2,b3,b4,-⟩:=h.begun hx
 refine⟨?_,by omega,by omega⟩
 unfold Kq
 rcases ss.find_c e.Cert o.ID omg with⟨hn,-⟩|⟨y,hy,hy1,hy2⟩
 ·exact absurd e1 (hn x hx)
 ·obtain rfl:=h.sc.one hy hx omg
  rw[hy2,zA,ifp e2,ifp e3,if_pos (by rw[e4];exact beq_self_eq_true _),ifp (by rw[<- e3];exact b4),
   show E8 o.Buf=some true from bf.sane_m (h.bf o ho),zA,if_pos rfl]
  by_cases hr:o.RO=true
  ·rw[if_pos hr,k.ro o ho hr];rfl
  ·rw[if_neg hr]
theorem Af0 {e:Ab} {n:Nat} (h:EgI e n) (k:OpE e):K0 e=some true:=by
 have hop:=h.op
 unfold K0
 obtain⟨v,hv,hr⟩:=Cr (f:=Hj e) (P:=λs=>∃ j:Nat,j<=e.Open.length/\s.2=(j:Int)/\((j=0/\s.1 = -1)\/∃ p,e.Open[j-1]? = some p/\0<j/\s.1=p.ID)) (μ:=λs=>e.Open.length-s.2.toNat)
  (R:=λv=>v=.inr ()) (by
   rintro⟨last,_⟩ ⟨j,hj,rfl,hlast⟩
   unfold Hj
   dsimp only at hlast ⊢
   rcases zU j e.Open.length with hlt|hge
   ·obtain⟨s1,s2,s3⟩:=Abc h k (xZ hlt)
    have hgt:last<e.Open[j].ID:=by
     rcases hlast with⟨-,rfl⟩|⟨p,hp,hj0,rfl⟩
     ·omega
     ·have hp':=zB.1 hp
      have:=yN.1 k.ids (j-1) j hp'.1 hlt omg
      rw[hp'.2] at this
      exact this
    rw[ifo,A3,zC hlt,zA,ifq,ifq,s1,zA,if_neg dcd]
    unfold Lj
    dsimp only
    rw[Aaw omg omg omg,zA]
    have hcut:(e.Open.drop (0:Int).toNat).take ((j:Int).toNat-(0:Int).toNat)=e.Open.take j:=by simp
    rw[hcut]
    obtain⟨x,hx,hx2⟩:=Cr (f:=Hn e.Open[j] (e.Open.take j)) (P:=λs=>∃ q:Nat,q<=(e.Open.take j).length/\s=(q:Int)) (μ:=λs=>(e.Open.take j).length-s.toNat) (R:=λv=>v=.inr ()) (by
     rintro _ ⟨q,hq,rfl⟩
     unfold Hn
     rcases zU q (e.Open.take j).length with hlt'|hge'
     ·have hqj:q<j:=by rw[zN] at hlt';omega
      have hne:=yN.1 k.toks q j omg hlt hqj
      rw[ifo,A3,zC hlt',zA,X3 (by rw[zN] at hlt';omega) (by rw[zN] at hlt';omega),if_neg (by rw[decide_eq_true_eq,jQ];exact hne)]
      exact .inl ⟨_,rfl,⟨q+1,hlt',rfl⟩,by simp only[zT];omega⟩
     ·rw[ifq]
      exact .inr (.inl ⟨_,rfl,rfl⟩)) fuel 0 ⟨0,zZ _,rfl⟩ (Bs (by show(e.Open.take j).length-0<=_;rw[zN];omega))
    rw[hx,hx2]
    left
    refine⟨(e.Open[j].ID,((j+1:Nat):Int)),?_,⟨j+1,hlt,rfl,.inr ⟨e.Open[j],by rw[j4];exact zC hlt,Nat.succ_pos _,rfl⟩⟩,by simp only[zT];omega⟩
    show Ho (last,(j:Int)) e.Open[j] ()=_
    unfold Ho
    dsimp only
    rw[wIo];rfl
   ·rw[ifq]
    exact .inr (.inl ⟨_,rfl,rfl⟩)) fuel (-1,0) ⟨0,zZ _,rfl,.inl ⟨rfl,rfl⟩⟩ (Bs (by show e.Open.length-0<=_;omega))
 rw[hv,hr,zA]
 show Hp e ()=_
 unfold Hp
 rw[decide_eq_true omg]
theorem Vn {e:Ab} {n:Nat} (h:EgI e n) (hn:n<=500) (k:OpE e):G1 e=some true:=by
 have hop:=h.op
 have hcl:=h.sc.len
 have hnx:=h.nx
 unfold G1
 rw[show Cy e.Store=some true from st.ssane_m h.st omg h.kl,zA,if_neg dcd,ss.sane_c h.sc,zA,if_neg dcd,show Cx e.Toks=some true from Adh h.tk,zA,if_neg dcd,
  ifq,ifq]
 unfold Qg
 obtain⟨v,hv,hr⟩:=Cr (f:=Nr e) (P:=λs=>∃ j:Nat,j<=e.Cert.Txs.length/\s=(j:Int)) (μ:=λs=>e.Cert.Txs.length-s.toNat)
  (R:=λv=>v=.inr ()) (by
   rintro _ ⟨j,hj,rfl⟩
   unfold Nr
   rcases zU j e.Cert.Txs.length with hlt|hge
   ·obtain⟨-,-,-,-,b5⟩:=h.begun (xZ hlt)
    rw[ifo,A3,zC hlt,zA,wIo,ifq]
    have hnx:∃ s',some (LR.cont ((j+1:Nat):Int))=(some (LR.cont s'):Option (LR Int Unit Bool))/\(∃ j:Nat,j<=e.Cert.Txs.length/\s'=(j:Int))/\e.Cert.Txs.length-s'.toNat<e.Cert.Txs.length-(j:Int).toNat:=⟨_,rfl,⟨j+1,hlt,rfl⟩,by simp only[zT];omega⟩
    split
    ·rename_i hs
     rw[decide_eq_true_eq] at hs
     obtain⟨o,ho,hid⟩:=k.act _ (xZ hlt) hs
     rcases Zi e e.Cert.Txs[j].ID omg with⟨hp,-⟩|⟨i,q,-,-,hp⟩
     ·exact absurd hid (hp o ho)
     ·rw[hp,zA,ifq]
      exact .inl hnx
    ·exact .inl hnx
   ·rw[ifq]
    exact .inr (.inl ⟨_,rfl,rfl⟩)) fuel 0 ⟨0,zZ _,rfl⟩ (Bs (by show e.Cert.Txs.length-0<=_;omega))
 rw[hv,hr,zA]
 show Nj e ()=_
 unfold Nj
 rw[Af0 h k];rfl
theorem Abb {e:Ab} {n:Nat} (h:EgI e n) (hn:n<=500) (k:OpE e) (id:Int):(∃ o∈e.Open,o.ID=id/\Fq e id=some (o,0))\/((∀ o∈e.Open,o.ID≠id)/\∃ z,Fq e id=some (z,7)):=by
 have hop:=h.op
 unfold Fq
 rw[Vn h hn k,zA,if_neg dcd]
 rcases Zi e id omg with⟨hno,hp⟩|⟨i,o,ho,hid,hp⟩
 ·rw[hp,zA,if_pos dcd]
  exact .inr ⟨hno,_,rfl⟩
 ·rw[hp,zA,ifq,A3,ho]
  exact .inl ⟨o,zG ho,hid,rfl⟩
end Go.Proofs.YtkblaobhhoebaaaGreat.Abs
