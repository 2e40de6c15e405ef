/-
 What an engine must be for it to be sane; it is.
-/
import Derived.Test.YtkblaobhhoebaaaGreatSJ14x
set_option linter.unusedVariables false
set_option linter.unusedSimpArgs false
namespace Go.Proofs.YtkblaobhhoebaaaGreat.Abs
structure OpE (e:Ai):Prop where
 act:∀ x∈e.Cert.Txs,x.State=1->∃ o∈e.Open,o.ID=x.ID
 ops:∀ o∈e.Open,∃ x∈e.Cert.Txs,x.ID=o.ID/\x.State=1/\x.Begin=o.Snap/\x.RO=o.RO
 ro:∀ o∈e.Open,o.RO=true->o.Buf.L=[]
 ids:e.Open.Pairwise λa b=>a.ID<b.ID
 toks:e.Open.Pairwise λa b=>a.Token≠b.Token
 tks:∀ o∈e.Open,∃ x,fnd e.Toks.L o.Token=some x/\x.State=1/\x.Attempt=o.Attempt
theorem Ae0 (e:Ai) (id:Int) (hl:e.Open.length<=1000):((∀ o∈e.Open,o.ID≠id)/\Es e id=some (-1))\/∃ (i:Nat) (o:Bg),e.Open[i]? = some o/\o.ID=id/\Es e id=some (i:Int):=by
 obtain⟨v,hv,hr⟩:=D2 (f:=G7 e id) (P:=λs=>∃ j:Nat,j<=e.Open.length/\s=(j:Int)/\∀ o∈e.Open.take j,o.ID≠id) (μ:=λs=>e.Open.length-s.toNat)
  (R:=λv=>(v=.inr ()/\∀ o∈e.Open,o.ID≠id)\/∃ (i:Nat) (o:Bg),e.Open[i]? = some o/\o.ID=id/\v=.inl (i:Int)) (by
   rintro _ ⟨j,hj,rfl,hk⟩
   unfold G7
   rcases zO j e.Open.length with hlt|hge
   ·rw[if_pos (decide_eq_true (by omega)),Bo,zB hlt,zA]
    by_cases h:e.Open[j].ID=id
    ·rw[if_pos (decide_eq_true h)]
     exact .inr (.inr ⟨_,rfl,.inr ⟨j,_,zB hlt,h,rfl⟩⟩)
    ·rw[if_neg (by rw[decide_eq_true_eq];exact h),Cd (by omega) (by omega)]
     refine .inl ⟨_,rfl,⟨j+1,hlt,rfl,λo ho=>?_⟩,by simp only[zT];omega⟩
     rw[zM hlt] at ho
     rcases yH.1 ho with ho|ho
     ·exact hk o ho
     ·rw[zV.1 ho];exact h
   ·rw[if_neg (by rw[decide_eq_true_eq];omega)]
    rw[yX hge] at hk
    exact .inr (.inl ⟨_,rfl,.inl ⟨rfl,hk⟩⟩)) fuel 0 ⟨0,zX _,rfl,by simp⟩ (Co (by show e.Open.length-0<=_;omega))
 unfold Es
 rw[hv]
 rcases hr with⟨rfl,hk⟩|⟨i,o,ho,hid,rfl⟩
 ·exact .inl ⟨hk,rfl⟩
 ·exact .inr ⟨i,o,ho,hid,rfl⟩
theorem EgI.begun {e:Ai} {n:Nat} (h:EgI e n) {x:A3} (hx:x∈e.Cert.Txs):0<=x.ID/\x.ID<e.Next/\0<=x.Begin/\x.Begin<=e.Store.Ts/\x.End<=e.Store.Ts:=by
 obtain⟨w,hi,hc,hn,hb⟩:=h.cert
 rw[<- hc] at hx
 have ha:=hi.act x hx
 have hid:0<=x.ID:=(hi.each x hx).id
 obtain⟨hlt,hge⟩:=Jd ha
 have hmem:=bf.idx_mem ha
 have hbg:=hi.beg _ hmem
 have h0:=hi.now0
 refine⟨hid,by rw[<- hb];have:=(zC.1 hge).1;omega,hbg.1,by rw[<- hn];exact hbg.2,?_⟩
 rw[<- hn]
 rcases hi.sc.st hx with hs|hs
 ·rcases(hi.each x hx).st with⟨_,h2,_⟩|⟨h1,_⟩
  ·omega
  ·omega
 ·obtain⟨d,hd,h1,h2,h3,h4⟩:=hi.don x hx hs
  rw[<- h3]
  exact(hi.did0 d hd).2.2.2.1
theorem Ad2 {e:Ai} {n:Nat} (h:EgI e n) (k:OpE e) {o:Bg} (ho:o∈e.Open):Kr e o=some true/\0<=o.ID/\o.ID<e.Next:=by
 have hl:=h.sc.len
 obtain⟨x,hx,e1,e2,e3,e4⟩:=k.ops o ho
 obtain⟨b1,b2,b3,b4,-⟩:=h.begun hx
 refine⟨?_,by omega,by omega⟩
 unfold Kr
 rcases ss.find_c e.Cert o.ID (by omega) with⟨hn,-⟩|⟨y,hy,hy1,hy2⟩
 ·exact absurd e1 (hn x hx)
 ·obtain rfl:=h.sc.one hy hx (by omega)
  rw[hy2,zA,if_pos (decide_eq_true e2),if_pos (decide_eq_true e3),if_pos (by rw[e4];exact beq_self_eq_true _),if_pos (decide_eq_true (by rw[<- e3];exact b4)),
   show Ft o.Buf=some true from bf.sane_m (h.bf o ho),zA,if_pos rfl]
  by_cases hr:o.RO=true
  ·rw[if_pos hr,k.ro o ho hr];rfl
  ·rw[if_neg hr]
theorem Ajk {e:Ai} {n:Nat} (h:EgI e n) (k:OpE e):Lm e=some true:=by
 have hop:=h.op
 unfold Lm
 obtain⟨v,hv,hr⟩:=D2 (f:=Hb e) (P:=λs=>∃ j:Nat,j<=e.Open.length/\s.2=(j:Int)/\((j=0/\s.1 = -1)\/∃ p,e.Open[j-1]? = some p/\0<j/\s.1=p.ID)) (μ:=λs=>e.Open.length-s.2.toNat)
  (R:=λv=>v=.inr ()) (by
   rintro⟨last,_⟩ ⟨j,hj,rfl,hlast⟩
   unfold Hb
   dsimp only at hlast ⊢
   rcases zO j e.Open.length with hlt|hge
   ·obtain⟨s1,s2,s3⟩:=Ad2 h k (yY hlt)
    have hgt:last<e.Open[j].ID:=by
     rcases hlast with⟨-,rfl⟩|⟨p,hp,hj0,rfl⟩
     ·omega
     ·have hp':=zC.1 hp
      have:=yI.1 k.ids (j-1) j hp'.1 hlt (by omega)
      rw[hp'.2] at this
      exact this
    rw[if_pos (decide_eq_true (by omega)),Bo,zB hlt,zA,if_neg (by rw[decide_eq_true_eq];omega),if_neg (by rw[decide_eq_true_eq];omega),s1,zA,if_neg (by decide)]
    unfold Ko
    dsimp only
    rw[Abl (by omega) (by omega) (by omega),zA]
    have hcut:(e.Open.drop (0:Int).toNat).take ((j:Int).toNat-(0:Int).toNat)=e.Open.take j:=by simp
    rw[hcut]
    obtain⟨x,hx,hx2⟩:=D2 (f:=He e.Open[j] (e.Open.take j)) (P:=λs=>∃ q:Nat,q<=(e.Open.take j).length/\s=(q:Int)) (μ:=λs=>(e.Open.take j).length-s.toNat) (R:=λv=>v=.inr ()) (by
     rintro _ ⟨q,hq,rfl⟩
     unfold He
     rcases zO q (e.Open.take j).length with hlt'|hge'
     ·have hqj:q<j:=by rw[zK] at hlt';omega
      have hne:=yI.1 k.toks q j (by omega) hlt hqj
      rw[if_pos (decide_eq_true (by omega)),Bo,zB hlt',zA,Cd (by rw[zK] at hlt';omega) (by rw[zK] at hlt';omega),if_neg (by rw[decide_eq_true_eq,kZ];exact hne)]
      exact .inl ⟨_,rfl,⟨q+1,hlt',rfl⟩,by simp only[zT];omega⟩
     ·rw[if_neg (by rw[decide_eq_true_eq];omega)]
      exact .inr (.inl ⟨_,rfl,rfl⟩)) fuel 0 ⟨0,zX _,rfl⟩ (Co (by show(e.Open.take j).length-0<=_;rw[zK];omega))
    rw[hx,hx2]
    left
    refine⟨(e.Open[j].ID,((j+1:Nat):Int)),?_,⟨j+1,hlt,rfl,.inr ⟨e.Open[j],by rw[jQ];exact zB hlt,Nat.succ_pos _,rfl⟩⟩,by simp only[zT];omega⟩
    show Hf (last,(j:Int)) e.Open[j] ()=_
    unfold Hf
    dsimp only
    rw[Cd (by omega) (by omega)];rfl
   ·rw[if_neg (by rw[decide_eq_true_eq];omega)]
    exact .inr (.inl ⟨_,rfl,rfl⟩)) fuel (-1,0) ⟨0,zX _,rfl,.inl ⟨rfl,rfl⟩⟩ (Co (by show e.Open.length-0<=_;omega))
 rw[hv,hr,zA]
 show Hj e ()=_
 unfold Hj
 rw[decide_eq_true (by omega)]
theorem Abk {e:Ai} {n:Nat} (h:EgI e n) (hn:n<=500) (k:OpE e):Hv e=some true:=by
 have hop:=h.op
 have hcl:=h.sc.len
 have hnx:=h.nx
 unfold Hv
 rw[show Dh e.Store=some true from st.ssane_m h.st (by omega) h.kl,zA,if_neg (by decide),ss.sane_c h.sc,zA,if_neg (by decide),show De e.Toks=some true from Agf h.tk,zA,if_neg (by decide),
  if_neg (by rw[decide_eq_true_eq];omega),if_neg (by rw[decide_eq_true_eq];omega)]
 unfold Pr
 obtain⟨v,hv,hr⟩:=D2 (f:=M7 e) (P:=λs=>∃ j:Nat,j<=e.Cert.Txs.length/\s=(j:Int)) (μ:=λs=>e.Cert.Txs.length-s.toNat)
  (R:=λv=>v=.inr ()) (by
   rintro _ ⟨j,hj,rfl⟩
   unfold M7
   rcases zO j e.Cert.Txs.length with hlt|hge
   ·obtain⟨-,-,-,-,b5⟩:=h.begun (yY hlt)
    rw[if_pos (decide_eq_true (by omega)),Bo,zB hlt,zA,Cd (by omega) (by omega),if_neg (by rw[decide_eq_true_eq];omega)]
    have hnx:∃ s',some (LR.cont ((j+1:Nat):Int))=(some (LR.cont s'):Option (LR Int Unit Bool))/\(∃ j:Nat,j<=e.Cert.Txs.length/\s'=(j:Int))/\e.Cert.Txs.length-s'.toNat<e.Cert.Txs.length-(j:Int).toNat:=⟨_,rfl,⟨j+1,hlt,rfl⟩,by simp only[zT];omega⟩
    split
    ·rename_i hs
     rw[decide_eq_true_eq] at hs
     obtain⟨o,ho,hid⟩:=k.act _ (yY hlt) hs
     rcases Ae0 e e.Cert.Txs[j].ID (by omega) with⟨hp,-⟩|⟨i,q,-,-,hp⟩
     ·exact absurd hid (hp o ho)
     ·rw[hp,zA,if_neg (by rw[decide_eq_true_eq];omega)]
      exact .inl hnx
    ·exact .inl hnx
   ·rw[if_neg (by rw[decide_eq_true_eq];omega)]
    exact .inr (.inl ⟨_,rfl,rfl⟩)) fuel 0 ⟨0,zX _,rfl⟩ (Co (by show e.Cert.Txs.length-0<=_;omega))
 rw[hv,hr,zA]
 show Nf e ()=_
 unfold Nf
 rw[Ajk h k];rfl
theorem Aha {e:Ai} {n:Nat} (h:EgI e n) (hn:n<=500) (k:OpE e) (id:Int):(∃ o∈e.Open,o.ID=id/\Hu e id=some (o,0))\/((∀ o∈e.Open,o.ID≠id)/\∃ z,Hu e id=some (z,7)):=by
 have hop:=h.op
 unfold Hu
 rw[Abk h hn k,zA,if_neg (by decide)]
 rcases Ae0 e id (by omega) with⟨hno,hp⟩|⟨i,o,ho,hid,hp⟩
 ·rw[hp,zA,if_pos (by decide)]
  exact .inr ⟨hno,_,rfl⟩
 ·rw[hp,zA,if_neg (by rw[decide_eq_true_eq];omega),Bo,ho]
  exact .inl ⟨o,zJ ho,hid,rfl⟩
end Go.Proofs.YtkblaobhhoebaaaGreat.Abs
