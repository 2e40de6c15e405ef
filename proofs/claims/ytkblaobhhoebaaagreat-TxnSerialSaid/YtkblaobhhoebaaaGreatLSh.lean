import Derived.Test.YtkblaobhhoebaaaGreatLSg
set_option linter.unusedVariables false
set_option linter.unusedSimpArgs false
namespace Go.Proofs.YtkblaobhhoebaaaGreat.Abs
theorem Ap6 (x:Int):0<=wI ((BitVec.ofInt 64 x &&& BitVec.ofInt 64 65535).toNat:Int):=by
 have h1:(BitVec.ofInt 64 x &&& BitVec.ofInt 64 65535).toNat<=65535:=by
  rw[BitVec.toNat_and]
  exact yP Nat.and_le_right dcd
 rw[wIo]
 exact xV _
theorem Ath:SrI De [] [] 0:=by
 refine⟨Ap7,Aqk,⟨_,ss.inv_nil,rfl,rfl,rfl,rfl,λh hh=>(by cases hh)⟩,rfl,λi h hh=>(by simp at hh),λo ho=>(by cases ho),λh hh=>(by cases hh),λh hh=>(by cases hh),λh hh=>(by cases hh),λs _=>⟨List.Pairwise.nil,λx=>⟨λh=>(by cases h),λh=>(by cases h.2)⟩⟩,zO _,λh hh=>(by cases hh),zO _⟩
theorem Ao9 (a0:List Dl) (hl:a0.length<=80) (hk:∀ o∈a0,o.Key.length<=50):∃ e d all,Ha a0=some (e,d)/\SrI e d all a0.length:=by
 unfold Ha
 obtain⟨v,hv,all,hr⟩:=Cj (f:=Ic a0) (P:=λs=>∃ j:Nat,j<=a0.length/\s.1=(j:Int)/\SrI s.2.1 s.2.2.1 s.2.2.2 j) (μ:=λs=>a0.length-s.1.toNat) (R:=λv=>∃ all,SrI v.1 v.2 all a0.length) (by
  rintro⟨_,e,done,all⟩ ⟨j,hj,rfl,h⟩
  dsimp only at h
  unfold Ic
  dsimp only
  rcases zU j a0.length with hlt|hge
  ·left
   rw[ifo]
   have hg:a0[j]? = some a0[j]:=zC hlt
   have hw:wI ((j:Int)+1)=((j+1:Nat):Int):=wIo
   have key:∀ id:Nat,∃ s',C0 a0 ((j:Int),e,done,all) (id:Int)=some (.cont s')/\(∃ j:Nat,j<=a0.length/\s'.1=(j:Int)/\SrI s'.2.1 s'.2.2.1 s'.2.2.2 j)/\a0.length-s'.1.toNat<a0.length-(j:Int).toNat:=λid=>by
    obtain⟨e',x,hx,hok⟩:=A0i h.eg omg h.op a0[j] (id:Int) (hk _ (xZ hlt))
    have keep:(x.e_=1/\e'.Next=0)->∃ s',C0 a0 ((j:Int),e,done,all) (id:Int)=some (.cont s')/\(∃ j:Nat,j<=a0.length/\s'.1=(j:Int)/\SrI s'.2.1 s'.2.2.1 s'.2.2.2 j)/\a0.length-s'.1.toNat<a0.length-(j:Int).toNat:=λ⟨h1,h2⟩=>by
     unfold C0
     dsimp only
     rw[A3,hg,zA,hx,zA]
     dsimp only
     rw[ifp h1,ifp h2,hw]
     exact⟨_,rfl,⟨j+1,hlt,rfl,h.up⟩,by simp only[zT];omega⟩
    by_cases hc:x.e_=1/\e'.Next=0
    ·exact keep hc
    rcases hok with h1|⟨h1,h2,-⟩
    ·exact absurd h1 hc
    rcases Awk (a0:=a0) h omg hg (hk _ (xZ hlt)) hx h1 h2 with h3|⟨done',all',h3,h4⟩
    ·exact absurd h3 hc
    ·have:C0 a0 ((j:Int),e,done,all) (id:Int)=some (.cont (((j+1:Nat):Int),e',done',all')):=by
      unfold C0
      dsimp only
      rw[A3,hg,zA,hx,zA]
      dsimp only
      split
      ·rename_i h5
       rw[ifn (λh6=>hc ⟨of_decide_eq_true h5,h6⟩)]
       exact h4
      ·exact h4
     exact⟨_,this,⟨j+1,hlt,rfl,h3⟩,by simp only[zT];omega⟩
   split
   ·rename_i h0
    rw[decide_eq_true_eq] at h0
    rw[A3,hg,zA,if_pos omg]
    obtain⟨m,hm⟩:=Int.eq_ofNat_of_zero_le (Int.tmod_nonneg (all.length:Int) (Ap6 a0[j].N))
    rw[hm]
    exact key m
   ·exact key 0
  ·right
   have e1:j=a0.length:=by omega
   subst e1
   rw[ifq]
   exact⟨_,rfl,all,h⟩) fuel (0,De,[],[]) ⟨0,zZ _,rfl,Ath⟩ (Bs (by show a0.length-0<=_;omega))
 rw[hv]
 exact⟨_,_,all,rfl,hr⟩
theorem Alm {rd:List ss.GR10Read} {b:Ai} {l:List Ae} (hx:∀ x∈b.acts_,RdX rd b.id_ (B4 b.acts_) x) (h:Aoz b l=true):ss.Rd rd b.id_ (l.map bf.wk)\/∃ k,k∈l.map bf.wk/\k∈(B4 b.acts_).map bf.wk:=by
 obtain⟨x,hxm,h⟩:=yX.1 h
 obtain⟨w,hw,h⟩:=yX.1 h
 have hwk:w.Key∈l.map bf.wk:=z8.2 ⟨w,hw,rfl⟩
 unfold Tf at h
 rw[wQ,zS,zS,decide_eq_true_eq,decide_eq_true_eq,beq_iff_eq] at h
 rcases h with⟨h1,h2⟩|⟨h1,h2⟩
 ·rw[<- h2] at hwk
  rcases(hx x hxm).one h1 with h3|h3
  ·exact .inr ⟨_,hwk,h3⟩
  ·exact .inl ⟨_,h3,rfl,ss.metV_iff.2 ⟨_,hwk,Asz _⟩⟩
 ·exact .inl ⟨_,(hx x hxm).rng h1,rfl,ss.metV_iff.2 ⟨_,hwk,h2⟩⟩
theorem SrI.doneL {e:Ab} {done all:List Ai} {n:Nat} (h:SrI e done all n) (hn:n<=80):Aea done:=by
 obtain⟨w,hw,hc,hnw,hbg,hd,hr⟩:=h.wit
 have hsum:=h.sum
 have hld:=h.ld
 have hin:∀ {x},x∈done->txH x∈w.did:=λhx=>by rw[hd];exact z8.2 ⟨_,hx,rfl⟩
 refine⟨λd hdd=>⟨h.ok d (h.mem d hdd),by have:=h.len d (h.mem d hdd);omega,h.wh d (h.mem d hdd)⟩,?_,?_,λd hdd=>(h.fin hdd).1,λS hS hne=>?_,by omega,by omega⟩
 ·have:=hw.didE
  rw[hd] at this
  exact(wF (f:=txH) (R:=λa b:ss.GR11Tx=>a.End<b.End)).1 this
 ·have:=hw.didI
  rw[hd] at this
  exact(wF (f:=txH) (R:=λa b:ss.GR11Tx=>a.ID≠b.ID)).1 this
 ·obtain⟨t,ht,hno⟩:=hw.first (S:=S.map txH) (λt ht=>by
   obtain⟨x,hx,rfl⟩:=z8.1 ht
   exact hin (hS x hx)) (λe=>hne (List.map_eq_nil_iff.1 e))
  obtain⟨x,hx,rfl⟩:=z8.1 ht
  refine⟨x,hx,λy hy hid=>?_⟩
  have hxD:=hS x hx
  have hyD:=hS y hy
  have hnA:=hno (txH y) (z8.2 ⟨y,hy,rfl⟩) hid
  cases hA:Ji y x with
  | false=>rfl
  | true =>
   exfalso
   apply hnA
   unfold Ji at hA
   rw[wQ,wQ,zS,zS,zS,decide_eq_true_eq,decide_eq_true_eq,decide_eq_true_eq] at hA
   have fx:=h.fin hxD
   have fy:=h.fin hyD
   rcases hA with⟨h1,h2⟩|⟨h1,h2⟩|⟨h1,h2⟩
   ·obtain⟨a,ha,h1⟩:=yX.1 h1
    obtain⟨b,hb,h1⟩:=yX.1 h1
    rw[beq_iff_eq] at h1
    exact .inl ⟨⟨a.Key,z8.2 ⟨a,ha,rfl⟩,z8.2 ⟨b,hb,h1.symm⟩⟩,h2⟩
   ·rcases Alm (hr x (h.mem x hxD)) h2 with h3|⟨k,h3,h4⟩
    ·exact .inr (.inl ⟨h1,h3⟩)
    ·exact .inl ⟨⟨k,h3,h4⟩,by show y.end_<x.end_;omega⟩
   ·rcases Alm (hr y (h.mem y hyD)) h2 with h3|⟨k,h3,h4⟩
    ·exact .inr (.inr ⟨h1,h3⟩)
    ·refine .inl ⟨⟨k,h4,h3⟩,?_⟩
     show y.end_<x.end_
     rcases Int.lt_or_le y.end_ x.end_ with h5|h5
     ·exact h5
     ·exfalso
      have hne2:y.end_≠x.end_:=λe1=>by
       have:=ss.pw_eq hw.didE (hin hyD) (hin hxD) (by show ¬ y.end_<x.end_;omega) (by show ¬ x.end_<y.end_;omega)
       exact hid (congrArg ss.GR11Tx.ID this)
      have:=hw.ww (txH x) (hin hxD) (txH y) (hin hyD) (by show x.end_<y.end_;omega) ⟨k,h3,h4⟩
      have:x.end_<=y.snap_:=this
      omega
theorem Aaz (a0:List Dl):Pj a0=some true:=by
 unfold Pj
 rw[As8,zA]
 obtain⟨v,hv,hv2⟩:=Atn a0
 rw[hv,zA]
 cases v with
 | false=>rfl
 | true =>
  obtain⟨hl,hk⟩:=hv2 rfl
  rw[if_neg dcd]
  obtain⟨e,d,all,hp,hS⟩:=Ao9 a0 hl hk
  rw[hp,zA]
  obtain⟨base,hb,hrp,hlen⟩:=Af4 (hS.doneL hl)
  dsimp only
  rw[hb,zA]
  show Iq true (e,d) base=some true
  unfold Iq
  rw[if_pos rfl]
  dsimp only
  have hkl:=hS.eg.kl
  have hents:=st.ents_len aR e.Store.Ts e.Store.Keys e.Store.Chains
  have hlat:Mb e.Store=some (st.ents aR e.Store.Ts e.Store.Keys e.Store.Chains):=by
   unfold Mb
   rw[show Fv e.Store ⟨[],[],true⟩ e.Store.Ts (e.Store.Keys.length:Int)=some ((st.ents ⟨[],[],true⟩ e.Store.Ts e.Store.Keys e.Store.Chains).take (e.Store.Keys.length:Int).toNat) from st.scan_m hS.eg.st omg hS.eg.kl _ _ _,zA]
   rw[yO (by rw[zT];exact hents)];rfl
  have hvis:vis d e.Store.Ts=O8 (λ_=>true) d λ_=>none:=by
   funext k
   exact N1 rfl λx hx _=>decide_eq_true (hS.fin hx).2
  have heq:base=st.ents aR e.Store.Ts e.Store.Keys e.Store.Chains:=by
   refine hrp.uniq ?_
   rw[<- hvis]
   exact hS.sto _ (.inl (xQ _))
  rw[hlat,zA,heq,Air _ omg,zA,if_pos rfl,Vn hS.eg omg hS.op];rfl
end Go.Proofs.YtkblaobhhoebaaaGreat.Abs
