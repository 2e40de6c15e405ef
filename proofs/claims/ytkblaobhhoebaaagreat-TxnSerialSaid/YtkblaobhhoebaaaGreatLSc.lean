import Derived.Test.YtkblaobhhoebaaaGreatLSb
set_option linter.unusedVariables false
set_option linter.unusedSimpArgs false
namespace Go.Proofs.YtkblaobhhoebaaaGreat.Abs
theorem Ane {B:List Ae} (h:Li bf.wk B) (x:B9):(Ta B x).length<=B.length+1:=by
 unfold Ta
 split
 ·omega
 ·rw[bf.setR_len h];split <;> omega
theorem OkA.blen {M:Map} {l:List B9} (h:OkA M l):(B4 l).length<=l.length:=by
 have key:∀ j,j<=l.length->(B4 (l.take j)).length<=j:=by
  intro j
  induction j with
  | zero=>intro _;rw[jE];exact zO _
  | succ j ih =>
   intro hj
   have hx:=zC (show j<l.length from hj)
   rw[P6 hx,Mo]
   have:=Ane (h.good j omg).rise l[j]
   have:=ih omg
   omega
 have:=key l.length (zO _)
 rwa [yJ] at this
structure Aea (D:List Ai):Prop where
 h:∀ d∈D,Aur (λx=>vis D x.snap_) d
 ends:D.Pairwise λa b=>a.end_<b.end_
 ids:D.Pairwise λa b=>a.id_≠b.id_
 lt:∀ d∈D,d.snap_<d.end_
 first:∀ S:List Ai,(∀ x∈S,x∈D)->S≠[]->∃ x∈S,∀ y∈S,y.id_≠x.id_->Ji y x=false
 len:D.length<=80
 sum:(D.map λd=>d.acts_.length).sum<=80
def pF (left:List Ai) (d:Ai):Bool:=!left.any λx=>decide (x.id_=d.id_)
structure LvI (D left:List Ai) (base:List A5):Prop where
 sub:left.Sublist D
 rp:Rp base (O8 (pF left) D λ_=>none)
 ah:∀ p∈D,pF left p=true->∀ b∈left,Ji b p=false
 sum:base.length+(left.map λd=>d.acts_.length).sum<=80
theorem Aea.one {D:List Ai} (h:Aea D) {x y:Ai} (hx:x∈D) (hy:y∈D) (e:x.id_=y.id_):x=y:=ss.pw_eq h.ids hx hy (λn=>n e) (λn=>n e.symm)
theorem Ar9 {D left:List Ai} (hD:Aea D) (hs:left.Sublist D) (base:List A5) (p:Int) {i:Nat} {b:Ai} (hb:left[i]? = some b):∃ w,B8 (Fb (left,base) (p,(i:Int))) fuel (false,0)=some w/\(w=true↔∃ k x,left[k]? = some x/\k≠i/\Ji x b=true):=by
 have hl:left.length<=80:=yP hs.length_le hD.len
 obtain⟨w,hw,hr⟩:=Cj (f:=Fb (left,base) (p,(i:Int))) (P:=λs=>∃ j:Nat,j<=left.length/\s.2=(j:Int)/\(s.1=true↔∃ k x,left[k]? = some x/\k<j/\k≠i/\Ji x b=true)) (μ:=λs=>left.length-s.2.toNat)
  (R:=λw=>(w=true↔∃ k x,left[k]? = some x/\k≠i/\Ji x b=true)) (by
   rintro⟨w,_⟩ ⟨j,hj,rfl,hw⟩
   dsimp only at hw
   unfold Fb
   dsimp only
   rcases zU j left.length with hlt|hge
   ·have hx:=zC hlt
    have hext:∀ w':Bool,(w'=true↔(w=true\/(j≠i/\Ji left[j] b=true)))->(w'=true↔∃ k x,left[k]? = some x/\k<j+1/\k≠i/\Ji x b=true):=λw' h=>by
     rw[h,hw]
     constructor
     ·rintro(⟨k,x,h1,h2,h3⟩|⟨h1,h2⟩)
      ·exact⟨k,x,h1,by omega,h3⟩
      ·exact⟨j,_,hx,by omega,h1,h2⟩
     ·rintro⟨k,x,h1,h2,h3,h4⟩
      by_cases e:k=j
      ·subst e
       rw[hx] at h1;cases h1
       exact .inr ⟨h3,h4⟩
      ·exact .inl ⟨k,x,h1,by omega,h3,h4⟩
    rw[ifo,wIo]
    cases w with
    | true =>
     rw[if_pos rfl]
     exact .inl ⟨_,rfl,⟨j+1,hlt,rfl,hext true smp⟩,by simp only[zT];omega⟩
    | false =>
     rw[if_neg dcd]
     by_cases e:j=i
     ·rw[if_neg (by rw[decide_eq_true (by rw[e])];decide)]
      exact .inl ⟨_,rfl,⟨j+1,hlt,rfl,hext false (by simp [e])⟩,by simp only[zT];omega⟩
     ·rw[if_pos (by rw[decide_eq_false omg];rfl),A3,hx,zA,A3,hb,zA,Aup (hD.h _ (hs.subset (xZ hlt))) (hD.h _ (hs.subset (zG hb))),zA]
      exact .inl ⟨_,rfl,⟨j+1,hlt,rfl,hext _ (by simp [e])⟩,by simp only[zT];omega⟩
   ·rw[ifq]
    refine .inr ⟨_,rfl,hw.trans ⟨λ⟨k,x,h1,_,h3⟩=>⟨k,x,h1,h3⟩,λ⟨k,x,h1,h3⟩=>⟨k,x,h1,?_,h3⟩⟩⟩
    have:=(zB.1 h1).1
    omega) fuel (false,0) ⟨0,zZ _,rfl,by simp⟩ (Bs (by show left.length-0<=_;omega))
 exact⟨w,hw,hr⟩
theorem Awd {D left:List Ai} (hD:Aea D) (hs:left.Sublist D) (hne:left≠[]) (base:List A5):∃ i b,B8 (Du (left,base)) fuel (-1,0)=some ((i:Nat):Int)/\left[i]? = some b/\∀ y∈left,y.id_≠b.id_->Ji y b=false:=by
 have hl:left.length<=80:=yP hs.length_le hD.len
 obtain⟨w,hw,hr⟩:=Cj (f:=Du (left,base)) (P:=λs=>(s.1 = -1/\∃ j:Nat,j<=left.length/\s.2=(j:Int)/\∀ (i:Nat) (b:Ai),i<j->left[i]? = some b->∃ k x,left[k]? = some x/\k≠i/\Ji x b=true)\/(∃ (i:Nat) (b:Ai),s.1=(i:Int)/\s.2=((i+1:Nat):Int)/\left[i]? = some b/\¬ ∃ k x,left[k]? = some x/\k≠i/\Ji x b=true))
  (μ:=λs=>left.length+1-s.2.toNat) (R:=λw=>(w = -1/\∀ (i:Nat) (b:Ai),left[i]? = some b->∃ k x,left[k]? = some x/\k≠i/\Ji x b=true)\/∃ (i:Nat) (b:Ai),w=(i:Int)/\left[i]? = some b/\¬ ∃ k x,left[k]? = some x/\k≠i/\Ji x b=true) (by
   rintro⟨p,q⟩ (⟨rfl,j,hj,rfl,h1⟩|⟨i,b,rfl,rfl,h1,h2⟩)
   ·unfold Du
    dsimp only
    rcases zU j left.length with hlt|hge
    ·have hx:=zC hlt
     obtain⟨w,hw,hw2⟩:=Ar9 hD hs base (-1) hx
     rw[ifo,if_pos (show decide ((-1:Int)<0)=true from rfl)]
     unfold Lr
     rw[hw,zA]
     unfold Lk
     dsimp only
     rw[wIo]
     cases w with
     | true =>
      rw[if_neg dcd]
      refine .inl ⟨_,rfl,.inl ⟨rfl,j+1,hlt,rfl,λi b hi hb=>?_⟩,by simp only[zT];omega⟩
      by_cases e:i=j
      ·subst e
       rw[hx] at hb;cases hb
       exact hw2.1 rfl
      ·exact h1 i b omg hb
     | false =>
      rw[if_pos dcd]
      exact .inl ⟨_,rfl,.inr ⟨j,_,rfl,rfl,hx,λhc=>Bool.noConfusion (hw2.2 hc)⟩,by simp only[zT];omega⟩
    ·rw[ifq]
     refine .inr ⟨_,rfl,.inl ⟨rfl,λi b hb=>h1 i b ?_ hb⟩⟩
     have:=(zB.1 hb).1
     omega
   ·unfold Du
    dsimp only
    split
    ·rw[ifq]
     exact .inr ⟨_,rfl,.inr ⟨i,b,rfl,h1,h2⟩⟩
    ·exact .inr ⟨_,rfl,.inr ⟨i,b,rfl,h1,h2⟩⟩) fuel (-1,0) (.inl ⟨rfl,0,zZ _,rfl,λi b hi=>by omega⟩) (Bs (by show left.length+1-0<=_;omega))
 have hids:∀ {i k:Nat} {x y:Ai},left[i]? = some x->left[k]? = some y->k≠i->y.id_≠x.id_:=λ{i k x y} hx hy hne he=>by
  have hp:=yN.1 (hD.ids.sublist hs)
  obtain⟨h1,rfl⟩:=zB.1 hx
  obtain⟨h2,rfl⟩:=zB.1 hy
  rcases j7 hne with h|h
  ·exact hp k i h2 h1 h he
  ·exact hp i k h1 h2 h he.symm
 rcases hr with⟨_,hall⟩|⟨i,b,rfl,hb,hno⟩
 ·obtain⟨x,hx,hf⟩:=hD.first left (λx hx=>hs.subset hx) hne
  obtain⟨i,hi⟩:=jD hx
  obtain⟨k,y,h1,h2,h3⟩:=hall i x hi
  have:=hf y (zG h1) (hids hi h1 h2)
  rw[this] at h3;cases h3
 ·refine⟨i,b,hw,hb,λy hy hne=>?_⟩
  obtain⟨k,hk⟩:=jD hy
  cases ha:Ji y b with
  | false=>rfl
  | true=>exact absurd ⟨k,y,hk,λe=>by subst e;rw[hb] at hk;cases hk;exact hne rfl,ha⟩ hno
theorem Ant {left:List Ai} {d:Ai} (h:d∈left):pF left d=false:=by
 unfold pF
 rw[yX.2 ⟨d,h,decide_eq_true rfl⟩];rfl
theorem Zb {left:List Ai} {d:Ai} (h:pF left d=false):∃ x∈left,x.id_=d.id_:=by
 unfold pF at h
 have:(left.any λx=>decide (x.id_=d.id_))=true:=by simpa using h
 obtain⟨x,hx,e⟩:=yX.1 this
 exact⟨x,hx,of_decide_eq_true e⟩
theorem LvI.step {D left:List Ai} {base:List A5} (hD:Aea D) (hI:LvI D left base) {i:Nat} {b:Ai} (hb:left[i]? = some b) (hno:∀ y∈left,y.id_≠b.id_->Ji y b=false) :
  ∃ base',Lx base b=some (base',true)/\LvI D (left.take i++left.drop (i+1)) base':=by
 have hbl:b∈left:=zG hb
 have hbD:b∈D:=hI.sub.subset hbl
 have hH:=hD.h b hbD
 have hlt:=hD.lt b hbD
 have hsum:=hI.sum
 have hspl:left=left.take i++b::left.drop (i+1):=by
  have hil:=(zB.1 hb).1
  have he:=(zB.1 hb).2
  rw[<- he,List.getElem_cons_drop,xI]
 have hsee:∀ x∈b.acts_,∀ k,Tf x k=true->vis D b.snap_ k=O8 (pF left) D (λ_=>none) k:=λx hx k hk=>by
  refine N1 rfl λd hd hw=>?_
  obtain⟨w,hwm,hwk⟩:=z8.1 hw
  have hr:Aoz b (B4 d.acts_)=true:=yX.2 ⟨x,hx,yX.2 ⟨w,hwm,by rw[show w.Key=k from hwk];exact hk⟩⟩
  by_cases hid:d.id_=b.id_
  ·have:=hD.one hd hbD hid
   subst this
   rw[Ant hbl,decide_eq_false omg]
  ·by_cases hle:d.end_<=b.snap_
   ·have ha:Ji d b=true:=by unfold Ji;rw[decide_eq_true hle,hr];simp
    rw[decide_eq_true hle]
    cases hp:pF left d with
    | true=>rfl
    | false =>
     obtain⟨y,hy,e⟩:=Zb hp
     have:=hD.one (hI.sub.subset hy) hd e
     subst this
     rw[hno y hy hid] at ha;cases ha
   ·have ha:Ji b d=true:=by unfold Ji;rw[decide_eq_true (show b.snap_<d.end_ by omega),hr];simp
    rw[decide_eq_false hle]
    cases hp:pF left d with
    | false=>rfl
    | true=>rw[hI.ah d hd hp b hbl] at ha;cases ha
 obtain⟨base',h1,h2,h3⟩:=Apg hI.rp omg (hH.ok.congr hsee) hH.len
 have hbuf:=hH.ok.blen
 have hids:=hD.ids.sublist hI.sub
 rw[hspl] at hids
 have hout:∀ x∈left.take i++left.drop (i+1),x.id_≠b.id_/\x∈left:=λx hx=>by
  obtain⟨p1,p2,p3⟩:=wN.1 hids
  have p4:=xP.1 p2
  rcases yC.1 hx with hx|hx
  ·exact⟨p3 x hx b (yR ..),List.mem_of_mem_take hx⟩
  ·exact⟨λe=>p4.1 x hx e.symm,kE hx⟩
 have hin:∀ x∈left,x.id_≠b.id_->x∈left.take i++left.drop (i+1):=λx hx hne=>by
  rw[hspl] at hx
  rcases yC.1 hx with hx|hx
  ·exact xN _ hx
  ·rcases yM.1 hx with rfl|hx
   ·exact absurd rfl hne
   ·exact wA _ hx
 have hpb:pF (left.take i++left.drop (i+1)) b=true:=by
  cases hp:pF (left.take i++left.drop (i+1)) b with
  | true=>rfl
  | false=>obtain⟨x,hx,e⟩:=Zb hp;exact absurd e (hout x hx).1
 have hpo:∀ d,d.id_≠b.id_->pF (left.take i++left.drop (i+1)) d=pF left d:=λd hne=>by
  cases hp:pF left d with
  | true =>
   cases hq:pF (left.take i++left.drop (i+1)) d with
   | true=>rfl
   | false =>
    obtain⟨x,hx,e⟩:=Zb hq
    unfold pF at hp
    rw[yX.2 ⟨x,(hout x hx).2,decide_eq_true e⟩] at hp
    cases hp
  | false =>
   obtain⟨x,hx,e⟩:=Zb hp
   have:=hin x hx (by rw[e];exact hne)
   unfold pF
   rw[yX.2 ⟨x,this,decide_eq_true e⟩];rfl
 refine⟨base',h1,⟨?_,h2.congr λk _=>?_,λp hp hpp c hc=>?_,?_⟩⟩
 ·refine List.Sublist.trans ?_ hI.sub
  conv=>rhs;rw[hspl]
  exact List.Sublist.append (List.Sublist.refl _) (List.sublist_cons_self _ _)
 ·by_cases hw:wrt b k
  ·obtain⟨D1,D2,rfl⟩:=List.append_of_mem hbD
   refine(Aju hpb hw (λd hd hwd=>?_) _ _).symm
   obtain⟨p1,p2,p3⟩:=wN.1 hD.ends
   have hend:=(xP.1 p2).1 d hd
   have hdD:d∈D1++b::D2:=wA _ (yQ _ hd)
   have hne:d.id_≠b.id_:=λe=>by have:=hD.one hdD hbD e;subst this;omega
   have ha:Ji b d=true:=by
    obtain⟨w1,m1,e1⟩:=z8.1 hw
    obtain⟨w2,m2,e2⟩:=z8.1 hwd
    have:wW (B4 b.acts_) (B4 d.acts_)=true:=yX.2 ⟨w1,m1,yX.2 ⟨w2,m2,by rw[show w1.Key=k from e1,show w2.Key=k from e2];simp⟩⟩
    unfold Ji
    rw[this,decide_eq_true hend];rfl
   rw[hpo d hne]
   cases hp:pF left d with
   | false=>rfl
   | true=>rw[hI.ah d hdD hp b hbl] at ha;cases ha
  ·rw[V5 hw]
   refine N1 rfl λd hd hwd=>(hpo d λe=>?_).symm
   have:=hD.one hd hbD e
   subst this
   exact hw hwd
 ·by_cases e:p.id_=b.id_
  ·have:=hD.one hp hbD e
   subst this
   exact hno c (hout c hc).2 (hout c hc).1
  ·rw[hpo p e] at hpp
   exact hI.ah p hp hpp c (hout c hc).2
 ·have:(left.map λd=>d.acts_.length).sum=((left.take i++left.drop (i+1)).map λd=>d.acts_.length).sum+b.acts_.length:=by
   conv=>lhs;rw[hspl]
   simp only[xC,xO,List.sum_append,List.sum_cons]
   omega
  omega
theorem LvI.start {D:List Ai} (hD:Aea D):LvI D D []:=by
 refine⟨List.Sublist.refl _,⟨List.Pairwise.nil,λx=>⟨λh=>by simp at h,λh=>?_⟩⟩,λp hp hpp=>?_,by simpa using hD.sum⟩
 ·have:O8 (pF D) D (λ_=>none) x.Key=O8 (λ_=>false) D (λ_=>none) x.Key:=N1 rfl λd hd _=>Ant hd
  rw[this] at h
  have h2:∀ (E:List Ai) (M:Map),O8 (λ_=>false) E M=M:=λE=>by
   induction E with
   | nil=>intro M;rfl
   | cons d E ih=>intro M;exact ih M
  rw[h2] at h
  cases h.2
 ·rw[Ant hp] at hpp;cases hpp
theorem Af4 {D:List Ai} (hD:Aea D):∃ base,Gj F7 fuel (D,([]:List A5))=some (.inr base)/\Rp base (O8 (λ_=>true) D λ_=>none)/\base.length<=500:=by
 obtain⟨v,hv,hr⟩:=Cr (f:=F7) (P:=λs=>LvI D s.1 s.2) (μ:=λs=>s.1.length) (R:=λv=>∃ base,v=.inr base/\Rp base (O8 (λ_=>true) D λ_=>none)/\base.length<=500) (by
  rintro⟨left,base⟩ hI
  dsimp only at hI
  have hl:left.length<=80:=yP hI.sub.length_le hD.len
  unfold F7
  dsimp only
  by_cases hne:left=[]
  ·subst hne
   rw[if_neg (by rw[decide_eq_true_eq];simp)]
   exact .inr (.inl ⟨_,rfl,base,rfl,hI.rp,by have:=hI.sum;omega⟩)
  ·have hpos:0<left.length:=List.length_pos_iff.2 hne
   rw[ifo]
   obtain⟨i,b,hp,hb,hno⟩:=Awd hD hI.sub hne base
   rw[hp,zA]
   have hil:=(zB.1 hb).1
   obtain⟨base',h1,h2⟩:=hI.step hD hb hno
   unfold Mg
   dsimp only
   rw[ifq,A3,hb,zA,h1,zA,if_neg (show ¬ (!true)=true by decide)]
   have c1:cut left 0 (i:Int)=some (left.take i):=by
    unfold cut
    rw[if_pos ⟨by omega,by omega,by omega⟩]
    simp
   have c2:cut left (wI ((i:Int)+1)) (left.length:Int)=some (left.drop (i+1)):=by
    rw[wIo]
    unfold cut
    rw[if_pos ⟨by omega,by omega,by omega⟩]
    have:((i:Int)+1).toNat=i+1:=by omega
    rw[this,yO (by rw[yB];omega)]
   rw[c1,zA,if_pos (by simp only[kV,zN];omega),c2,zA,if_pos (by simp only[zH,kV,zN,yB];omega)]
   refine .inl ⟨_,rfl,by rw[wZ];exact h2,?_⟩
   simp only[zH,kV,zN,yB]
   omega) fuel (D,[]) (LvI.start hD) (Bs (by show D.length<=_;have:=hD.len;omega))
 obtain⟨base,rfl,h1,h2⟩:=hr
 exact⟨base,hv,h1,h2⟩
end Go.Proofs.YtkblaobhhoebaaaGreat.Abs
