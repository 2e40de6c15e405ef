/-
  played: what it does, with what its rows hold.
-/
import Derived.Test.YtkblaobhhoebaaaGreatLT14
import Derived.Test.YtkblaobhhoebaaaGreatLAbsD
set_option linter.unusedVariables false
set_option linter.unusedSimpArgs false
namespace Go.Proofs.YtkblaobhhoebaaaGreat.Abs
open Go.RowKit Go.Proofs
set_option maxRecDepth 100000
theorem Awe:EI Tryz.prog 152 16 216 [Ii6 0,Ii6 0,Ii6 0,Ii6 0,.b false,.b false,Znl,Znl,Znl,Znl,.b false,Ii6 0,.b false,Znl,Znl,Ii6 0]:=Tq krf dcd
theorem Axe:FI Tryz.prog 60 1 1:=⟨⟨_,_,1,Tryz.underlying60,rfl,rfl,by kernel_rfl,by decide⟩⟩
theorem A0t:NI Tryz.prog 77:=⟨.inl ⟨_,Tryz.underlying77⟩⟩
theorem Ax1:PI Tryz.prog 152 [(0,11),(11,5)]:=Agz Tryz.underlying152 krf krf
theorem Azn:(Tryz.prog.info? 77).map (·.size)=some 1:=by kernel_rfl
theorem Ayb:ZI Tryz.prog 152 ([Ii6 0,Ii6 0,Ii6 0,Ii6 0,.b false,.b false,Znl,Znl,Znl,Znl,.b false,Ii6 0,.b false,Znl,Znl,Ii6 0]):=Ac1 krf
theorem Azw {Q:Exit->AS->List Fam->Prop} {id:Nat} {st:AS} {Φ:List Fam} (h:Q .normal st Φ):Zd id Q (.exit id) st Φ:=by
  show(if id=id then Q .normal st Φ else Q (.exit id) st Φ)
  rw[if_pos rfl];exact h
theorem Anb {n':AS->List Fam->Prop} {Q:Exit->AS->List Fam->Prop} {st:AS} {Φ:List Fam} (h:n' st Φ):Acp n' Q .normal st Φ:=h
theorem Atm {n':AS->List Fam->Prop} {Q:Exit->AS->List Fam->Prop} {id:Nat} {st:AS} {Φ:List Fam} (h:Q (.exit id) st Φ):Acp n' Q (.exit id) st Φ:=h
theorem Av0 {Q:Exit->AS->List Fam->Prop} {id:Nat} {st:AS} {Φ:List Fam} (h:Q .normal st Φ):Zd id Q .normal st Φ:=h
structure HG where
  h:Ai
  hd:Option (Nat×Nat)
def eHG (x:HG):List Lf:=[.i .i64 x.h.id_,.i .i64 x.h.snap_,.i .i64 x.h.end_,.raw (hv x.hd x.h.acts_.length)]
def Wn (x:HG):List Fam:=match x.hd with
  | none=>[]
  | some y=>[⟨y.1,152,16,y.2,x.h.acts_.flatMap Dj⟩]
def hs (l:List HG):List Ai:=l.map HG.h
theorem Yl (l:List HG):(hs l).length=l.length:=zY ..
theorem Anh {l:List HG} {j:Int} {u:Ai} (h:idx (hs l) j=some u):∃ x,idx l j=some x/\x.h=u:=by
  obtain⟨h1,h2⟩:=Ft h
  unfold hs at h2
  rw[zQ] at h2
  cases h3:l[j.toNat]? with
  | none=>rw[h3] at h2;cases h2
  | some x =>
    rw[h3] at h2
    cases h2
    refine⟨x,?_,rfl⟩
    unfold idx
    rw[if_pos h1];exact h3
theorem Aqw (l:List HG) (i:Nat) (x:HG):(hs l).set i x.h=hs (l.set i x):=by unfold hs;rw[kQ]
structure LI (done all:List HG):Prop where
  nl:∀ x∈all,x.hd=none->x.h.acts_=[]
  dn:∀ d∈done,∃ x∈all,x.hd=d.hd/\x.h.acts_=d.h.acts_/\x.h.end_≠0
theorem Amp {α:Type} {l:List α} {i:Nat} {u x y:α} (h:l[i]? = some u) (hy:y∈l):y=u\/y∈l.set i x:=by
  obtain⟨j,hj⟩:=jD hy
  by_cases e:i=j
  · subst e;rw[h] at hj;cases hj;exact .inl rfl
  · exact .inr (zG (by rw[zM e];exact hj))
theorem Akm {α:Type} {l:List α} {i:Nat} {x y:α} (hy:y∈l.set i x):y=x\/y∈l:=(kT hy).symm
theorem LI.new {done all:List HG} (h:LI done all) (x:HG) (hx:x.hd=none->x.h.acts_=[]):LI done (all++[x]) :=
  ⟨λy hy=>by rcases yC.1 hy with hy|hy;exact h.nl y hy;rw[zP.1 hy];exact hx,λd hd=>by obtain⟨y,h1,h2⟩:=h.dn d hd;exact⟨y,xN _ h1,h2⟩⟩
theorem LI.act {done all:List HG} (h:LI done all) {i:Nat} {u:HG} (hu:all[i]? = some u) (h0:u.h.end_=0) (x:HG) (hx:x.hd=none->x.h.acts_=[]):LI done (all.set i x) :=
  ⟨λy hy=>by rcases Akm hy with hy|hy;rw[hy];exact hx;exact h.nl y hy,λd hd=>by
    obtain⟨y,h1,h2,h3,h4⟩:=h.dn d hd
    rcases Amp (x:=x) hu h1 with h5|h5
    · rw[h5] at h4;exact absurd h0 h4
    · exact⟨y,h5,h2,h3,h4⟩⟩
theorem LI.done {done all:List HG} (h:LI done all) {i:Nat} {u:HG} (hu:all[i]? = some u) {n:Int} (hn:n≠0):LI (done++[⟨{u.h with end_:=n},u.hd⟩]) (all.set i ⟨{u.h with end_:=n},u.hd⟩):=by
  have hil:i<all.length:=(zB.1 hu).1
  have hin:(⟨{u.h with end_:=n},u.hd⟩:HG)∈all.set i ⟨{u.h with end_:=n},u.hd⟩:=zG (zI hil)
  refine⟨λy hy=>?_,λd hd=>?_⟩
  · rcases Akm hy with hy|hy
    · rw[hy];exact h.nl u (zG hu)
    · exact h.nl y hy
  · rcases yC.1 hd with hd|hd
    · obtain⟨y,h1,h2,h3,h4⟩:=h.dn d hd
      rcases Amp (x:=(⟨{u.h with end_:=n},u.hd⟩:HG)) hu h1 with h5|h5
      · exact⟨_,hin,by rw[<- h2,h5],by rw[<- h3,h5],hn⟩
      · exact⟨y,h5,h2,h3,h4⟩
    · rw[zP.1 hd]
      exact⟨_,hin,rfl,rfl,hn⟩
theorem Apx {α:Type} {l:List α} {i:Nat} {u:α} (h:l[i]? = some u):l=l.take i++u::l.drop (i+1):=by
  have hil:=(zB.1 h).1
  have he:=(zB.1 h).2
  rw[<- he,List.getElem_cons_drop,xI]
theorem Alj {α:Type} {l:List α} {i:Nat} {u x:α} (h:l[i]? = some u):l.set i x=l.take i++x::l.drop (i+1):=by
  have hil:=(zB.1 h).1
  rw[kP,if_pos hil]
theorem Alw {all:List HG} {i:Nat} {u x:HG} (h:all[i]? = some u):(all.set i x).flatMap Wn=(all.take i).flatMap Wn++Wn x++(all.drop (i+1)).flatMap Wn:=by
  rw[Alj h,w9,yW,xM]
theorem Ar1 {all:List HG} {i:Nat} {u:HG} (h:all[i]? = some u):all.flatMap Wn=(all.take i).flatMap Wn++Wn u++(all.drop (i+1)).flatMap Wn:=by
  conv=>lhs;rw[Apx h]
  rw[w9,yW,xM]
theorem Aqo {all:List HG} {i:Nat} {u x:HG} (h:all[i]? = some u) (he:Wn x=Wn u):(all.set i x).flatMap Wn=all.flatMap Wn:=by rw[Alw h,Ar1 h,he]
theorem Y5.perm {c:Ctx} {st:AS} {a:Act} {w:World} {S:Bz} {H:Nat->Value} {Φ Φ':List Fam} (r:Y5 c st a w S H Φ) (h:Φ.Perm Φ'):Y5 c st a w S H Φ' :=
  ⟨r.r,λf hf=>r.ok f (h.mem_iff.2 hf),(h.map Fam.g).nodup_iff.1 r.nd⟩
theorem Ao6 {P:Program} {c:Ctx} {x:Code} {n':AS->List Fam->Prop} {Q:Exit->AS->List Fam->Prop} {st:AS} {Φ:List Fam} (h:AWJ P c x (Acp (λst Φ=>∃ Φ',Φ.Perm Φ'/\n' st Φ') Q) st Φ):AWJ P c x (Acp n' Q) st Φ:=λa w S H r =>
  wp_mono (h a w S H r) λe a w ⟨st,S,H,Φ,r,q⟩=>by
    cases e with
    | normal=>obtain⟨Φ',h1,h2⟩:=q;exact⟨st,S,H,Φ',r.perm h1,h2⟩
    | _=>exact⟨st,S,H,Φ,r,q⟩
theorem Ase {x:HG} {l:Lf} (h:l∈eHG x):l.pubd=true:=by
  simp only[eHG,yM,List.not_mem_nil,or_false] at h
  rcases h with rfl|rfl|rfl|rfl <;> rfl
theorem Rel.retellArr {c:Ctx} {t:Nat->AV} {m:List Blk} {a:Act} {w:World} {S:Bz} {H:Nat->Value} (r:Rel c ⟨t,m⟩ a w S H) {p e sz:Nat} {cs cs':List Lf} (hm:m[p]? = some (.arr e sz 0 cs)) (hl:cs'.length=cs.length) (h:∀ (j:Nat) (l':Lf) (v:Value),cs'[j]? = some l'->(∀ l,cs[j]? = some l->Rep w S l v)->Rep w S l' v) :
    Rel c ⟨t,m.set p (.arr e sz 0 cs')⟩ a w S H:=by
  have hp:p<m.length:=(zB.1 hm).1
  obtain⟨h0,_,n,vals,h2,h3,_⟩:=r.bl p _ hm
  have hown:∀ g,Cz (H p)=some g->(Blk.arr e sz 0 cs).own (H p)=some g:=λg h=>h
  have:=r.change (m':=m.set p (.arr e sz 0 cs')) (p:=p) (b':=.arr e sz 0 cs') (v:=H p) (w':=w) (S':=S) smp (zI hp) (λq hq=>zM (λe=>hq e.symm)) (λb i h=>⟨h,rfl⟩) (λ_ _ _=>rfl)
    (λe' sz' k' cs2 _ h=>by cases h;exact⟨0,cs,hm,.inl ⟨hl.symm,rfl⟩⟩) (λ_ _ _=>rfl)
    ⟨h0,zZ _,n,vals,h2,⟨hl.trans h3.1,λj l' v h4 h5=>h j l' v h4 λl h6=>h3.2 j l v h6 h5⟩,λg _ i hi=>absurd hi (zW _)⟩
    (λg hg=>by
      have h4:=r.lo p _ g hm (hown g hg)
      exact⟨h4.1,h4.2,λq b hq hb ho=>hq (r.inj q p b _ g hb hm ho (hown g hg)),λi hs=>absurd (r.sb p _ g i hm (hown g hg) hs) (zW _)⟩)
    (λq b g i _ _ _ h=>h) (λg i _ _ h=>h) r.sl.two (zO _) rfl rfl rfl
  rwa [V0] at this
theorem Agf (l:List HG):((hs l).flatMap Cl).length=(l.flatMap eHG).length:=by
  rw[Aq (f:=Cl) (sz:=4) (λ_=>rfl),Aq (f:=eHG) (sz:=4) (λ_=>rfl),Yl]
theorem LI.give {c:Ctx} {t:Nat->AV} {m:List Blk} {a:Act} {w:World} {S:Bz} {H:Nat->Value} {done all:List HG} (hI:LI done all) (r:Y5 c ⟨t,m⟩ a w S H (all.flatMap Wn)) {p:Nat} (hm:m[p]? = some (.arr 79 4 0 (done.flatMap eHG))) :
    ∃ S',Rel c ⟨t,m.set p (.arr 79 4 0 ((hs done).flatMap Cl))⟩ a w S' H:=by
  obtain⟨S',r',hsub,hrow⟩:=r.pub
  refine⟨S',r'.retellArr hm (Agf done) λj l' v h1 h2=>?_⟩
  have hjl:j<done.length*4:=by
    have:=(zB.1 h1).1
    rw[Aq (f:=Cl) (sz:=4) (λ_=>rfl),Yl] at this;exact this
  have hj:j=j / 4*4+j % 4:=by omega
  have hmod:j % 4<4:=zAe _ dcd
  have hd:done[j / 4]? = some done[j / 4]:=zC omg
  generalize done[j / 4]=d at hd
  have hd':(hs done)[j / 4]? = some d.h:=by unfold hs;rw[zQ,hd];rfl
  rw[hj] at h1 h2
  rw[Sx (f:=Cl) (sz:=4) (λ_=>rfl) hd' hmod] at h1
  rw[Sx (f:=eHG) (sz:=4) (λ_=>rfl) hd hmod] at h2
  have h3:∀ k,j % 4=k->(Cl d.h)[k]? = some l'/\∀ l,(eHG d)[k]? = some l->Rep w S' l v:=λk hk=>by rw[<- hk];exact⟨h1,h2⟩
  have h4:j % 4=0\/j % 4=1\/j % 4=2\/j % 4=3:=by omega
  rcases h4 with h4|h4|h4|h4 <;> obtain⟨h5,h6⟩:=h3 _ h4
  · cases h5;exact h6 _ rfl
  · cases h5;exact h6 _ rfl
  · cases h5;exact h6 _ rfl
  · cases h5
    have h7:=Eu (h6 _ rfl)
    subst h7
    obtain⟨x,hx,e1,e2,_⟩:=hI.dn d (zG hd)
    cases hhd:d.hd with
    | none =>
      have:=hI.nl x hx (e1.trans hhd)
      rw[e2] at this
      rw[this]
      exact .sl0 _ _
    | some y =>
      have hf:(⟨y.1,152,16,y.2,x.h.acts_.flatMap Dj⟩:Fam)∈all.flatMap Wn:=jX.2 ⟨x,hx,by unfold Wn;rw[e1,hhd];simp⟩
      have hlen:(x.h.acts_.flatMap Dj).length=x.h.acts_.length*16:=Aq (f:=Dj) (sz:=16) (λ_=>rfl) _
      obtain⟨⟨_,⟨cur,_,b2,b3⟩,_,_⟩,_⟩:=r.ok _ hf
      have hle:x.h.acts_.length<=y.2:=by
        have hcl:cur.toList.length=y.2*16:=by rw[zX,b2]
        have:=b3.1
        simp only at this
        rw[hlen,hcl] at this
        omega
      have:=hrow _ hf y.2 x.h.acts_.length hlen rfl hle x.h.acts_.length (zO _)
      rw[show(x.h.acts_.flatMap Dj).take (x.h.acts_.length*16)=x.h.acts_.flatMap Dj from yO (kC hlen)] at this
      rw[<- e2]
      exact this
abbrev SG:=Int×Ab×(List HG)×(List HG)
def stS (s:SG):Int×Ab×(List Ai)×(List Ai):=(s.1,s.2.1,hs s.2.2.1,hs s.2.2.2)
def A0d (x2:Ab×List Ai) (e:Exit) (st:AS) (Φ:List Fam):Prop:=e=.exit 0/\∃ (e0:Ab) (done all:List HG) (ex:List Blk),LI done all/\Nm st.t [(2,.s (.one (.lp 0 0))),(4,.s (.one (.lp 1 0))),(6,.s (.one (.ls 2 done.length)))]/\st.m=[.box Zba,.box (EL.el e0),.arr 79 4 0 (done.flatMap eHG),.arr 79 4 0 (all.flatMap eHG)]++ex/\Φ=all.flatMap Wn/\(e0,hs done)=x2
abbrev sl9 (a0:List Dl) (n3 n2:Nat) (i b3:Int):List (Nat×AV):=[(0,.s (.one (.sl a0.length (a0.flatMap Dm)))),(2,.s (.one (.lp 0 0))),(4,.s (.one (.lp 1 0))),(5,.s (.one (.ls 3 n3))),(6,.s (.one (.ls 2 n2))),(7,.s (.one (Ii6 i))),(8,.s (.one (Ii6 b3))),(9,.s (.one (.lp 4 0))),(10,.s (.one (.lp 5 0)))]
theorem Ax8 {a0:List Dl} {r:Ab×(List Ai)} (h:Ha a0=some r):A6 Tryz.prog 17 [.one (.sl a0.length (a0.flatMap Dm))] (·=.tup [.agg (EL.el r.1),.one (.sl r.2.length (r.2.flatMap Cl))]):=by
 unfold Ha at h
 refine An Tryz.func17 R (nt:=151) R (Nbl R) ?_
 intro w0 S0
 refine crs R (crs R (crs R (crs R (Bb (crs R ?_)))))
 refine Cq 79 4 6 dcd R ?_
 refine cj (Ab×(List Ai)) (λb1=>[(2,.s (.one (.lp 0 0))),(4,.s (.one (.lp 1 0))),(6,.s (.one (.ls 2 b1.2.length)))]) (λb1=>[.box Zba,BE b1.1,.arr 79 4 0 (b1.2.flatMap Cl)]) (λb1=>N9 b1=some r) fR (λb1 h=>?_) ?_
 ·unfold N9 at h
  refine crs R (Bn ?_)
  cases SJ h
  refine⟨Or.inr R,_,_,_,(Au (ra Aii R R R) (Au (rt R) A4)),pb,?_⟩
  rfl
 ·refine Bh ?_
  refine Cq 79 4 5 dcd R ?_
  refine Uj 1 0 R R Oe.nil R (Uj 1 1 R R Oe.nil R (Uj 1 3 R R Oe.nil R (Uj 1 4 R R Oe.nil R (Uj 1 5 R R Oe.nil R (Uj 1 6 R R Oe.nil R ?_)))))
  obtain⟨x2,hx2,ho2⟩:=Aa h
  refine Aji (Q:=A0d x2) ?_ ?_
  ·refine Ao4 (G:=Nat×SG) (λg=>[(0,.s (.one (.sl a0.length (a0.flatMap Dm)))),(2,.s (.one (.lp 0 0))),(4,.s (.one (.lp 1 0))),(5,.s (.one (.ls 3 g.2.2.2.2.length))),(6,.s (.one (.ls 2 g.2.2.2.1.length))),(7,.s (.one (Ii6 g.2.1)))]) (λg=>[.box Zba,BE g.2.2.1,.arr 79 4 0 (g.2.2.2.1.flatMap eHG),.arr 79 4 0 (g.2.2.2.2.flatMap eHG)]) (λg=>g.2.2.2.2.flatMap Wn) (λg=>B8 (Ic a0) g.1 (stS g.2)=some x2/\LI g.2.2.2.1 g.2.2.2.2) (λg=>g.1) (fuel,(0,De,([]:List HG),([]:List HG))) ⟨hx2,⟨λx h=>by simp at h,λx h=>by simp at h⟩⟩ (ml R) [] R R (λg _=>T9 R) (λg _=>M1 R) (λg _=>zZ _) ?_
   clear hx2 h ho2
   rintro⟨n2,s2⟩ ⟨h,hI⟩
   obtain⟨n2,y2,rfl,h,hk2⟩:=Cb h
   unfold Ic at h
   have hl3:((stS s2).2.2.2.length:Int)=(s2.2.2.2.length:Int):=congrArg Nat.cast (Yl _)
   simp only[hl3] at h
   refine jsp λw0 S0 X H0=>crs R (ccI h R (λh=>?_) (λh=>?_))
   ·refine Vu (tjn (Aco (Anx (jsr λw0 S0 X H0=>rm 1 R (Au3 ?_)))))
    refine jj Int (λb3=>[(0,.s (.one (.sl a0.length (a0.flatMap Dm)))),(2,.s (.one (.lp 0 0))),(4,.s (.one (.lp 1 0))),(5,.s (.one (.ls 3 s2.2.2.2.length))),(6,.s (.one (.ls 2 s2.2.2.1.length))),(7,.s (.one (Ii6 s2.1))),(8,.s (.one (Ii6 b3)))]) (λb3=>[.box Zba,BE s2.2.1,.arr 79 4 0 (s2.2.2.1.flatMap eHG),.arr 79 4 0 (s2.2.2.2.flatMap eHG)]) (λ_=>s2.2.2.2.flatMap Wn) (λb3=>C0 a0 (stS s2) b3=some y2) fR (λb3 h=>?_) ?_
    ·unfold C0 at h
     obtain⟨u4,hu4,h⟩:=Aa h
     obtain⟨v5,hv5,h⟩:=Aa h
     refine jsp λw0 S0 X H0=>Aa2 (Aa2 ?_)
     refine Am2 [10,11,12,13] [0,0,0,6,14,0,63,127,255,255,0,0,3583,8191] [([false,false,false,false],[.box Zba,BE s2.2.1,.arr 79 4 0 (s2.2.2.1.flatMap eHG),.arr 79 4 0 (s2.2.2.2.flatMap eHG),.hole,.hole]),([false,true,false,false],[.box Zba,BE s2.2.1,.arr 79 4 0 (s2.2.2.1.flatMap eHG),.arr 79 4 0 (s2.2.2.2.flatMap eHG),.hole,.box [Ii6 0,.b false,Znl,Znl,Ii6 0]]),([true,false,false,false],[.box Zba,BE s2.2.1,.arr 79 4 0 (s2.2.2.1.flatMap eHG),.arr 79 4 0 (s2.2.2.2.flatMap eHG),.box Zba,.hole]),([true,true,false,false],[.box Zba,BE s2.2.1,.arr 79 4 0 (s2.2.2.1.flatMap eHG),.arr 79 4 0 (s2.2.2.2.flatMap eHG),.box Zba,.box [Ii6 0,.b false,Znl,Znl,Ii6 0]]),([true,true,true,false],[.box Zba,BE s2.2.1,.arr 79 4 0 (s2.2.2.1.flatMap eHG),.arr 79 4 0 (s2.2.2.2.flatMap eHG),BE v5.1,.box [Ii6 0,.b false,Znl,Znl,Ii6 0]]),([true,true,true,true],[.box Zba,BE s2.2.1,.arr 79 4 0 (s2.2.2.1.flatMap eHG),.arr 79 4 0 (s2.2.2.2.flatMap eHG),BE v5.1,BE v5.2])] krf mixed krf dcd R krf R R ?_
     refine mev (md:=[.box Zba,BE s2.2.1,.arr 79 4 0 (s2.2.2.1.flatMap eHG),.arr 79 4 0 (s2.2.2.2.flatMap eHG),.dead,.dead]) (Cm R ⟨R,⟨R,⟨R,⟨R,⟨trivial,⟨trivial,trivial⟩⟩⟩⟩⟩⟩ (Cm R ⟨R,⟨R,⟨R,⟨R,⟨trivial,⟨trivial,trivial⟩⟩⟩⟩⟩⟩ (Cm R ⟨R,⟨R,⟨R,⟨R,⟨trivial,⟨trivial,trivial⟩⟩⟩⟩⟩⟩ (Cm R ⟨R,⟨R,⟨R,⟨R,⟨trivial,⟨trivial,trivial⟩⟩⟩⟩⟩⟩ (Bu R (Bu R Fj)))))) R R (lo Aii R R R) (Avi R R (λ_=>Bj R) ?_)
     refine Avi R R (λ_=>Bj R) ?_
     refine mev (md:=[.box Zba,BE s2.2.1,.arr 79 4 0 (s2.2.2.1.flatMap eHG),.arr 79 4 0 (s2.2.2.2.flatMap eHG),.dead,.dead]) (Cm R ⟨R,⟨R,⟨R,⟨R,⟨trivial,⟨trivial,trivial⟩⟩⟩⟩⟩⟩ (Cm R ⟨R,⟨R,⟨R,⟨R,⟨trivial,⟨trivial,trivial⟩⟩⟩⟩⟩⟩ (Cm R ⟨R,⟨R,⟨R,⟨R,⟨trivial,⟨trivial,trivial⟩⟩⟩⟩⟩⟩ (Cm R ⟨R,⟨R,⟨R,⟨R,⟨trivial,⟨trivial,trivial⟩⟩⟩⟩⟩⟩ (Bu R (Bu R Fj)))))) R R (Bl (f:=Dm) An6 fR R R R R hu4) ?_
     refine mev (md:=[.box Zba,BE s2.2.1,.arr 79 4 0 (s2.2.2.1.flatMap eHG),.arr 79 4 0 (s2.2.2.2.flatMap eHG),.dead,.dead]) (Cm R ⟨R,⟨R,⟨R,⟨R,⟨trivial,⟨trivial,trivial⟩⟩⟩⟩⟩⟩ (Cm R ⟨R,⟨R,⟨R,⟨R,⟨trivial,⟨trivial,trivial⟩⟩⟩⟩⟩⟩ (Cm R ⟨R,⟨R,⟨R,⟨R,⟨trivial,⟨trivial,trivial⟩⟩⟩⟩⟩⟩ (Cm R ⟨R,⟨R,⟨R,⟨R,⟨trivial,⟨trivial,trivial⟩⟩⟩⟩⟩⟩ (Bu R (Bu R Fj)))))) R R (A8 (ys:=[Ii6 u4.What,Ii6 u4.N,Ii6 u4.Token,Ii6 u4.Attempt,.b u4.RO,.b u4.Del,.sl u4.Key.length (u4.Key.flatMap eU8),.sl u4.Val.length (u4.Val.flatMap eU8),.sl u4.Rng.Lo.length (u4.Rng.Lo.flatMap eU8),.sl u4.Rng.Hi.length (u4.Rng.Hi.flatMap eU8),.b u4.Rng.Open]) Aw3 R (.cp _) R R) (Avi R R (λ_=>Bj R) ?_)
     refine med (md:=[.box Zba,BE s2.2.1,.arr 79 4 0 (s2.2.2.1.flatMap eHG),.arr 79 4 0 (s2.2.2.2.flatMap eHG),.dead,.dead]) (Cm R ⟨R,⟨R,⟨R,⟨R,⟨trivial,⟨trivial,trivial⟩⟩⟩⟩⟩⟩ (Cm R ⟨R,⟨R,⟨R,⟨R,⟨trivial,⟨trivial,trivial⟩⟩⟩⟩⟩⟩ (Cm R ⟨R,⟨R,⟨R,⟨R,⟨trivial,⟨trivial,trivial⟩⟩⟩⟩⟩⟩ (Cm R ⟨R,⟨R,⟨R,⟨R,⟨trivial,⟨trivial,trivial⟩⟩⟩⟩⟩⟩ (Bu R (Bu R Fj)))))) R R (Cf (fk R) (Af R (Af R (Af R A2))) R (Aeg hv5)) (Avi R R (λ_=>Wf R) ?_)
     refine mev (md:=[.box Zba,BE s2.2.1,.arr 79 4 0 (s2.2.2.1.flatMap eHG),.arr 79 4 0 (s2.2.2.2.flatMap eHG),.dead,.dead]) (Cm R ⟨R,⟨R,⟨R,⟨R,⟨trivial,⟨trivial,trivial⟩⟩⟩⟩⟩⟩ (Cm R ⟨R,⟨R,⟨R,⟨R,⟨trivial,⟨trivial,trivial⟩⟩⟩⟩⟩⟩ (Cm R ⟨R,⟨R,⟨R,⟨R,⟨trivial,⟨trivial,trivial⟩⟩⟩⟩⟩⟩ (Cm R ⟨R,⟨R,⟨R,⟨R,⟨trivial,⟨trivial,trivial⟩⟩⟩⟩⟩⟩ (Bu R (Bu R Fj)))))) R R (Ei R R) (mev (md:=[.box Zba,BE s2.2.1,.arr 79 4 0 (s2.2.2.1.flatMap eHG),.arr 79 4 0 (s2.2.2.2.flatMap eHG),.dead,.dead]) (Cm R ⟨R,⟨R,⟨R,⟨R,⟨trivial,⟨trivial,trivial⟩⟩⟩⟩⟩⟩ (Cm R ⟨R,⟨R,⟨R,⟨R,⟨trivial,⟨trivial,trivial⟩⟩⟩⟩⟩⟩ (Cm R ⟨R,⟨R,⟨R,⟨R,⟨trivial,⟨trivial,trivial⟩⟩⟩⟩⟩⟩ (Cm R ⟨R,⟨R,⟨R,⟨R,⟨trivial,⟨trivial,trivial⟩⟩⟩⟩⟩⟩ (Cm R ⟨R,⟨R,⟨R,⟨R,⟨trivial,⟨trivial,trivial⟩⟩⟩⟩⟩⟩ (Bu R Fj)))))) R R (Ei R R) (mee (x:=.s (.one (.lp 4 0))) 0 R R ?_ ?_))
     ·refine Cm R ⟨_,R,λζ=>?_⟩ ?_
      ·refine Lz 4 R Axl R ?_
       exact Tt
      refine Cm R ⟨_,R,λζ=>?_⟩ ?_
      ·refine Lz 4 R Axl R ?_
       exact Tt
      refine Bu R (Bu R (Bu R (Bu R ?_)))
      exact Fj
     refine mee (x:=.s (.one (.lp 5 0))) 1 R R ?_ ?_
     ·refine Cm R ⟨_,R,λζ=>?_⟩ ?_
      ·refine Lz 5 R Azk R ?_
       exact Tt
      refine Bu R (Cm R ⟨_,R,λζ=>?_⟩ ?_)
      ·refine Lz 5 R Azk R ?_
       exact Tt
      refine Bu R (Bu R (Bu R ?_))
      exact Fj
     refine Ayu 2 R ?_ ?_
     ·refine Bu R (Bu R (Bu R (Cm R ⟨_,R,λζ=>?_⟩ ?_)))
      ·refine rx 1 R (Pf [.box Zba,BE s2.2.1,.arr 79 4 0 (s2.2.2.1.flatMap eHG),.arr 79 4 0 (s2.2.2.2.flatMap eHG),BE v5.1,.box [Ii6 0,.b false,Znl,Znl,Ii6 0]] R ?_)
       exact Tt
      refine Bu R (Bu R ?_)
      exact Fj
     refine Ayu 3 R ?_ ?_
     ·refine Bu R (Bu R (Bu R (Bu R (Cm R ⟨_,R,λζ=>?_⟩ ?_))))
      ·refine rx 1 R (Pf [.box Zba,BE s2.2.1,.arr 79 4 0 (s2.2.2.1.flatMap eHG),.arr 79 4 0 (s2.2.2.2.flatMap eHG),BE v5.1,BE v5.2] R ?_)
       exact Tt
      refine Bu R ?_
      exact Fj
     refine Avx (tjn ?_)
     refine jj Unit (λ_=>sl9 a0 s2.2.2.2.length s2.2.2.1.length s2.1 b3) (λ_=>[.box Zba,BE s2.2.1,.arr 79 4 0 (s2.2.2.1.flatMap eHG),.arr 79 4 0 (s2.2.2.2.flatMap eHG),BE v5.1,BE v5.2]) (λ_=>s2.2.2.2.flatMap Wn) (λb6=>Bv a0 (stS s2) b3 v5 b6=some y2) fR (λb6 h=>?_) ?_
     ·unfold Bv at h
      refine jj (List HG) (λb7=>sl9 a0 b7.length s2.2.2.1.length s2.1 b3) (λb7=>[.box Zba,BE s2.2.1,.arr 79 4 0 (s2.2.2.1.flatMap eHG),.arr 79 4 0 (b7.flatMap eHG),BE v5.1,BE v5.2]) (λb7=>b7.flatMap Wn) (λb7=>C4 a0 (stS s2) b3 v5 (hs b7)=some y2/\LI s2.2.2.1 b7) fR (λb7 h=>?_) ?_
      ·obtain⟨h,hI7⟩:=h
       unfold C4 at h
       refine jj (List HG) (λb8=>sl9 a0 b8.length s2.2.2.1.length s2.1 b3) (λb8=>[.box Zba,BE s2.2.1,.arr 79 4 0 (s2.2.2.1.flatMap eHG),.arr 79 4 0 (b8.flatMap eHG),BE v5.1,BE v5.2]) (λb8=>b8.flatMap Wn) (λb8=>Ch a0 (stS s2) b3 v5 (hs b8)=some y2/\LI s2.2.2.1 b8) fR (λb8 h=>?_) ?_
       ·obtain⟨h,hI8⟩:=h
        unfold Ch at h
        have hl8:((hs b8).length:Int)=(b8.length:Int):=congrArg Nat.cast (Yl _)
        simp only[hl8] at h
        refine jj ((List HG)×(List HG)) (λb9=>[(0,.s (.one (.sl a0.length (a0.flatMap Dm)))),(2,.s (.one (.lp 0 0))),(4,.s (.one (.lp 1 0))),(5,.s (.one (.ls 3 b9.2.length))),(6,.s (.one (.ls 2 b9.1.length))),(7,.s (.one (Ii6 s2.1))),(9,.s (.one (.lp 4 0)))]) (λb9=>[.box Zba,BE s2.2.1,.arr 79 4 0 (b9.1.flatMap eHG),.arr 79 4 0 (b9.2.flatMap eHG),BE v5.1,BE v5.2]) (λb9=>b9.2.flatMap Wn) (λb9=>B7 (stS s2) v5 (hs b9.1,hs b9.2)=some y2/\LI b9.1 b9.2) fR (λb9 h=>?_) ?_
        ·obtain⟨h,hI9⟩:=h
         unfold B7 at h
         refine jp R λw0 S0 X H0=>Bg (rx 2 R (Fi (Av0 (Anb (jp R λw0 S0 X H0=>Bg (rx 3 R (Fi ?_)))))))
         obtain rfl:=SJ h
         exact⟨(n2,((wI (s2.1+1)),v5.1,b9.1,b9.2)),_,⟨hk2,hI9⟩,(ml R),R,R,wM _⟩
        ·refine jp R λw0 S0 X H0=>csr (rx 2 R ?_)
         obtain⟨u10,hu10,h⟩:=Aa h
         refine sv R (Bl (f:=Dm) An6 fR R R R R hu10) ?_
         refine sv R (A9 Yf R) (rx 3 R (ssI 116 h R (λh=>?_) (λh=>?_)))
         ·refine rm 2 R (son R R R ?_)
          obtain⟨u11,hu11,h⟩:=Aa h
          refine sv R (Bl (f:=Dm) An6 fR R R R R hu11) ?_
          refine son R R R (sv R (A9 Yf R) (rx 4 R (ssI 124 h R (λh=>?_) (λh=>?_))))
          ·refine rx 5 R (ssI 129 h R (λh=>?_) (λh=>?_))
           ·refine rm 2 R (son R R R (sv R (Fw Ajg R R (Aq (f:=eHG) fR _).symm) ?_))
            refine rsn R (ccI h R (λh=>?_) (λh=>?_))
            ·refine csr (rx 4 R ?_)
             obtain⟨v12,hv12,h⟩:=Aa h
             obtain⟨u12,hu12,rfl⟩:=Anh hv12
             refine sv R (Gc (f:=eHG) Ajg fR R R R R R hu12) ?_
             refine sv R (Mc Akh R R (Aq (f:=eHG) fR _).symm) ?_
             refine Aa1 (f:=eHG) (u':=⟨{u12.h with end_:=v5.2.n_},u12.hd⟩) (sz:=4) 2 sz3 fR R R R R R R R (zL.1 R) (Ft hu12).2 (Nbl R) R ?_
             refine Kk 5 (y:=.s (.one (.ls 3 b8.length))) (.s (.one (.ls 3 (b8.set b3.toNat ⟨{u12.h with end_:=v5.2.n_},u12.hd⟩).length))) R (congrArg (λn=>AV.s (.one (.ls 3 n))) List.length_set.symm) ?_
             refine Kk 131 (y:=.s (.one (.ls 3 b8.length))) (.s (.one (.ls 3 (b8.set b3.toNat ⟨{u12.h with end_:=v5.2.n_},u12.hd⟩).length))) R (congrArg (λn=>AV.s (.one (.ls 3 n))) List.length_set.symm) ?_
             refine Kk 135 (y:=.s (.one (.ls 3 b8.length))) (.s (.one (.ls 3 (b8.set b3.toNat ⟨{u12.h with end_:=v5.2.n_},u12.hd⟩).length))) R (congrArg (λn=>AV.s (.one (.ls 3 n))) List.length_set.symm) ?_
             refine Oy (Bg (rx 3 R ?_))
             obtain⟨v13,hv13,h⟩:=Aa h
             have he:(hs b8).set b3.toNat {u12.h with end_:=v5.2.n_}=hs (b8.set b3.toNat ⟨{u12.h with end_:=v5.2.n_},u12.hd⟩):=Aqw b8 b3.toNat ⟨{u12.h with end_:=v5.2.n_},u12.hd⟩
             rw[he] at hv13 h
             obtain⟨u13,hu13,rfl⟩:=Anh hv13
             refine sv R (Gc (f:=eHG) Ajg fR R R R R R hu13) ?_
             refine sv R (Np (f:=eHG) (sz:=4) 0 Axo fR R R R R (Ft hu13).2 (Nbl R) R) ?_
             refine Eg R Tryz.underlying73 Auw R R (zL.1 R) dcd ?_
             refine Pf [.box Zba,BE s2.2.1,.arr 79 4 0 (s2.2.2.1.flatMap eHG),.arr 79 4 0 ((b8.set b3.toNat ⟨{u12.h with end_:=v5.2.n_},u12.hd⟩).flatMap eHG),BE v5.1,BE v5.2,.arr 79 4 0 ([u13].flatMap eHG)] R ?_
             obtain⟨hb14,h⟩:=B5 h
             obtain⟨hb14,hn14⟩:=hb14
             have hb15:(s2.2.2.1.length+[u13].length)*48<=140737488355328:=by
              have:(stS s2).2.2.1.length=s2.2.2.1.length:=Yl _
              rw[<- this];exact hb14
             refine Tp (f:=eHG) (xs:=s2.2.2.1) (us:=[u13]) R Tryz.underlying73 Auw Axk fR R R (.one _ _ _ _ (.ls _ _ _ _ _ _ R (Aq (f:=eHG) fR [u13]).symm)) R R R (.sl _ _ _ (Aq (f:=eHG) fR _)) R R hb15 dcd ?_
             refine rm 1 R (Fi ?_)
             have h8:=(Ft hu12).2
             have h13:u13=⟨{u12.h with end_:=v5.2.n_},u12.hd⟩:=by
              have:=(Ft hu13).2
              rw[zI (zB.1 h8).1] at this
              exact(SJ this).symm
             refine⟨((s2.2.2.1++[u13]),(b8.set b3.toNat ⟨{u12.h with end_:=v5.2.n_},u12.hd⟩)),_,⟨?_,?_⟩,(ml R),R,(Aqo (x:=⟨{u12.h with end_:=v5.2.n_},u12.hd⟩) h8 rfl).symm⟩
             ·show B7 (stS s2) v5 (hs (s2.2.2.1++[u13]),_)=some y2
              unfold hs
              rw[xC]
              exact h
             ·show LI (s2.2.2.1++[u13]) _
              rw[h13];exact hI8.done h8 hn14
            ·refine Vu ?_
             exact⟨(s2.2.2.1,b8),_,⟨h,hI8⟩,(ml R),R,R⟩
           ·refine rsn R (B1 R (λhx=>Bool.noConfusion hx) (λ_=>?_))
            refine Vu ?_
            exact⟨(s2.2.2.1,b8),_,⟨h,hI8⟩,(ml R),R,R⟩
          ·refine rsn R (B1 R (λhx=>Bool.noConfusion hx) (λ_=>?_))
           refine Vu ?_
           exact⟨(s2.2.2.1,b8),_,⟨h,hI8⟩,(ml R),R,R⟩
         ·refine rsn R (B1 R (λhx=>Bool.noConfusion hx) (λ_=>?_))
          refine Vu ?_
          exact⟨(s2.2.2.1,b8),_,⟨h,hI8⟩,(ml R),R,R⟩
       ·have hl7:((hs b7).length:Int)=(b7.length:Int):=congrArg Nat.cast (Yl _)
        simp only[hl7] at h
        refine jsr λw0 S0 X H0=>rx 2 R ?_
        obtain⟨u15,hu15,h⟩:=Aa h
        refine sv R (Bl (f:=Dm) An6 fR R R R R hu15) ?_
        refine sv R (A9 Yf R) (rx 3 R (ssI 74 h R (λh=>?_) (λh=>?_)))
        ·refine rm 2 R (son R R R ?_)
         obtain⟨u16,hu16,h⟩:=Aa h
         refine sv R (Bl (f:=Dm) An6 fR R R R R hu16) ?_
         refine son R R R (sv R (A9 Yf R) (rx 4 R (ssI 82 h R (λh=>?_) (λh=>?_))))
         ·refine rx 5 R (ssI 87 h R (λh=>?_) (λh=>?_))
          ·refine rm 2 R (son R R R (sv R (Fw Ajg R R (Aq (f:=eHG) fR _).symm) ?_))
           refine rx 2 R (Au3 (jcI h R (λh=>?_) (λh=>?_)))
           ·obtain⟨v17,hv17,h⟩:=Aa h
            obtain⟨u17,hu17,rfl⟩:=Anh hv17
            obtain⟨u18,hu18,h⟩:=Aa h
            obtain⟨⟨hm19,hb19,he19⟩,h⟩:=B5 h
            have h7:=(Ft hu17).2
            have hr7:0<=b3/\b3<(b7.length:Int):=by
             have h1:=(Ft hu17).1
             have h2:=(zB.1 h7).1
             omega
            have hlen7:(b7.flatMap eHG).length=b7.length*4:=Aq (f:=eHG) fR _
            have hkl:b3.toNat*4+3<(b7.flatMap eHG).length:=by rw[hlen7];omega
            have hk7:(b7.flatMap eHG)[b3.toNat*4+3]? = some (.raw (hv u17.hd u17.h.acts_.length)):=Sx (f:=eHG) (sz:=4) (λ_=>rfl) h7 dcd
            have hnl:u17.hd=none->u17.h.acts_=[]:=hI7.nl u17 (zG h7)
            refine Ao6 (Atw (λ_ h=>h) rfl 3 5 79 4 b7.length (b3.toNat*4+3) 152 16 u17.h.acts_.length (cs:=b7.flatMap eHG) (hd:=u17.hd) (acts:=u17.h.acts_.flatMap Dj) (Φ:=b7.flatMap Wn) (Φ1:=(b7.take b3.toNat).flatMap Wn++(b7.drop (b3.toNat+1)).flatMap Wn) R hlen7 omg hk7 dcd (Aq (f:=Dj) fR _) (λh=>by rw[hnl h];rfl) ?_ R (wH rfl) λG CAP w0 S0 X H0=>?_)
            ·rw[Ar1 h7]
             unfold Wn
             cases hd7:u17.hd with
             | none=>exact .inl ⟨rfl,by simp⟩
             | some y=>exact .inr ⟨y.1,y.2,_,_,rfl,by simp,rfl⟩
            ·have hg0:((b7.flatMap eHG).set (b3.toNat*4+3) (.ls 6 u17.h.acts_.length))[b3.toNat*4+3]? = some (.ls 6 u17.h.acts_.length):=zI hkl
             have hkl1:b3.toNat*4+3<((b7.flatMap eHG).set (b3.toNat*4+3) (.ls 6 u17.h.acts_.length)).length:=by rw[yS];exact hkl
             refine Hs [14,17] [0,0,0,0,12,28,60,0,0,384,896,0,3968,8064,16380,32767,65535,131071] [[.box Zba,BE s2.2.1,.arr 79 4 0 (s2.2.2.1.flatMap eHG),.arn 79 4 G b7.length CAP ((b7.flatMap eHG).set (b3.toNat*4+3) (.ls 6 u17.h.acts_.length)),BE v5.1,BE v5.2,.arr 152 16 0 (u17.h.acts_.flatMap Dj)],[.box Zba,BE s2.2.1,.arr 79 4 0 (s2.2.2.1.flatMap eHG),.arn 79 4 G b7.length CAP ((b7.flatMap eHG).set (b3.toNat*4+3) (.ls 6 u17.h.acts_.length)),BE v5.1,BE v5.2,.arr 152 16 0 ((u17.h.acts_++[B9.mk u18 v5.2]).flatMap Dj)],[.box Zba,BE s2.2.1,.arr 79 4 0 (s2.2.2.1.flatMap eHG),.arn 79 4 G b7.length CAP (((b7.flatMap eHG).set (b3.toNat*4+3) (.ls 6 u17.h.acts_.length)).set (b3.toNat*4+3) (.ls 6 (u17.h.acts_++[B9.mk u18 v5.2]).length)),BE v5.1,BE v5.2,.arr 152 16 0 ((u17.h.acts_++[B9.mk u18 v5.2]).flatMap Dj)]] krf mixed krf dcd R R R R ?_
             refine emv R R (λ_=>Bj R) ?_
             refine emv R R (λ_=>Bj R) ?_
             refine ev (Aw 0 R R) R R (Bj R) (ev (Aw 0 R R) R R (Bj R) ?_)
             refine ev (Aw 0 rfl rfl) rfl rfl (Amo Ajg R R hr7.1 hr7.2) ?_
             refine ev (Aw 0 R R) R R (Alc Aqr R) ?_
             refine ev (Aw 0 R R) R R (Asy (p:=3) A0f R R hg0) ?_
             refine ev (Aw 0 R R) R R (Bj R) (ev (Aw 0 R R) R R (Bj R) (ev (Aw 0 R R) R R (Bl (f:=Dm) An6 fR R R R R hu18) ?_))
             refine ev (Aw 0 R R) R R (A8 (ys:=[Ii6 u18.What,Ii6 u18.N,Ii6 u18.Token,Ii6 u18.Attempt,.b u18.RO,.b u18.Del,.sl u18.Key.length (u18.Key.flatMap eU8),.sl u18.Val.length (u18.Val.flatMap eU8),.sl u18.Rng.Lo.length (u18.Rng.Lo.flatMap eU8),.sl u18.Rng.Hi.length (u18.Rng.Hi.flatMap eU8),.b u18.Rng.Open]) Aw3 R (.cp _) R R) (ev (Aw 0 R R) R R (lo Azg R R R) (ev (Aw 0 R R) R R (O4 Ayb Ax1 (Bo R (Bo R Dh)) (.cons _ _ _ _ _ _ _ R R (Nbl R) (.cons _ _ _ _ _ _ _ R R (Nbl R) (.nil _)))) ?_))
             refine ed (Aw 0 R R) R R (Z1 (out:=([(B9.mk u18 v5.2)]:List B9).flatMap Dj) Tryz.underlying77 Awe (Bo R Dh) (.cons _ _ _ _ _ _ _ R R (Nbl R) (.nil _)) R dcd) ?_
             refine ee (x:=.s (.one (.ls 6 (u17.h.acts_++[B9.mk u18 v5.2]).length))) 0 R R R R R (λζ=>?_) ?_
             ·refine Tp (f:=Dj) (xs:=u17.h.acts_) (us:=[B9.mk u18 v5.2]) R Tryz.underlying77 Awe A0t fR R R (.one _ _ _ _ (.id _ R)) R R R (.sl _ _ _ (Aq (f:=Dj) fR _)) R R hb19 dcd ?_
              exact Tt
             refine ev (Aw 1 rfl rfl) rfl rfl (Amo Ajg R R hr7.1 hr7.2) ?_
             refine ev (Aw 1 R R) R R (Alc Aqr R) ?_
             refine ee0 1 R R R R (λζ=>?_) ?_
             ·refine Ata (p:=3) Azn R R R hkl1 ?_
              exact Tt
             refine Abz ⟨rfl,6,(u17.h.acts_++[B9.mk u18 v5.2]).length,_,_,rfl,rfl,?_,(Aq (f:=Dj) fR _).symm,by simp,?_,R,λg cap=>?_⟩
             ·exact zI hkl1
             ·intro j l hj hl
              rw[zM (λe=>hj e.symm),zM (λe=>hj e.symm)] at hl
              obtain⟨x,_,hx⟩:=jX.1 (zG hl)
              exact Ase hx
             ·have hset:((((b7.flatMap eHG).set (b3.toNat*4+3) (.ls 6 u17.h.acts_.length)).set (b3.toNat*4+3) (.ls 6 (u17.h.acts_++[B9.mk u18 v5.2]).length)).set (b3.toNat*4+3) (.raw (hv (some (g,cap)) (u17.h.acts_++[B9.mk u18 v5.2]).length)))=(b7.set b3.toNat ⟨{u17.h with acts_:=u17.h.acts_++[B9.mk u18 v5.2]},some (g,cap)⟩).flatMap eHG:=by
               rw[jJ,jJ]
               exact Amk (f:=eHG) (sz:=4) (λ_=>rfl) h7 dcd rfl
              rw[hset]
              refine⟨_,?_,b7.set b3.toNat ⟨{u17.h with acts_:=u17.h.acts_++[B9.mk u18 v5.2]},some (g,cap)⟩,[.dead,.dead],⟨?_,hI7.act h7 he19 _ (λh=>by cases h)⟩,⟨R,R,R,?_,R,R,R,R,R,trivial⟩,R,rfl⟩
              ·show List.Perm _ ((b7.set b3.toNat ⟨{u17.h with acts_:=u17.h.acts_++[B9.mk u18 v5.2]},some (g,cap)⟩).flatMap Wn)
               rw[Alw h7,xM]
               exact List.perm_middle.symm
              ·rw[<- Aqw]
               exact h
              ·show AV.s (SV.one (Lf.ls 3 b7.length))=.s (.one (.ls 3 (b7.set b3.toNat _).length))
               rw[yS]
           ·refine Zj ?_
            exact⟨b7,_,⟨h,hI7⟩,(ml R),R,R⟩
          ·refine rm 5 R (Au3 (Zk R (λhx=>Bool.noConfusion hx) (λ_=>?_)))
           refine Zj ?_
           exact⟨b7,_,⟨h,hI7⟩,(ml R),R,R⟩
         ·refine rm 10 R (Au3 (Zk R (λhx=>Bool.noConfusion hx) (λ_=>?_)))
          refine Zj ?_
          exact⟨b7,_,⟨h,hI7⟩,(ml R),R,R⟩
        ·refine rm 18 R (Au3 (Zk R (λhx=>Bool.noConfusion hx) (λ_=>?_)))
         refine Zj ?_
         exact⟨b7,_,⟨h,hI7⟩,(ml R),R,R⟩
      ·refine jp R λw0 S0 X H0=>csr (rx 2 R ?_)
       obtain⟨u21,hu21,h⟩:=Aa h
       refine sv R (Bl (f:=Dm) An6 fR R R R R hu21) ?_
       refine sv R (A9 Yf R) (rx 3 R (ssI 54 h R (λh=>?_) (λh=>?_)))
       ·refine rsn R (ccI h R (λh=>?_) (λh=>?_))
        ·refine Bg (rx 7 R ?_)
         refine Eg R Tryz.underlying73 Auw R R (zL.1 R) dcd ?_
         refine Pf [.box Zba,BE s2.2.1,.arr 79 4 0 (s2.2.2.1.flatMap eHG),.arr 79 4 0 (s2.2.2.2.flatMap eHG),BE v5.1,BE v5.2,.arr 79 4 0 (([⟨Ai.mk v5.2.n_ s2.2.1.Store.Ts 0 [],none⟩]:List HG).flatMap eHG)] R ?_
         obtain⟨hb22,h⟩:=B5 h
         have hb23:(s2.2.2.2.length+([⟨Ai.mk v5.2.n_ s2.2.1.Store.Ts 0 [],none⟩]:List HG).length)*48<=140737488355328:=by
          have:(stS s2).2.2.2.length=s2.2.2.2.length:=Yl _
          rw[<- this];exact hb22
         refine Tp (f:=eHG) (xs:=s2.2.2.2) (us:=[⟨Ai.mk v5.2.n_ s2.2.1.Store.Ts 0 [],none⟩]) R Tryz.underlying73 Auw Axk fR R R (.one _ _ _ _ (.ls _ _ _ _ _ _ R (Aq (f:=eHG) fR [⟨Ai.mk v5.2.n_ s2.2.1.Store.Ts 0 [],none⟩]).symm)) R R R (.sl _ _ _ (Aq (f:=eHG) fR _)) R R hb23 dcd ?_
         refine rm 1 R (Fi ?_)
         refine⟨(s2.2.2.2++[⟨Ai.mk v5.2.n_ s2.2.1.Store.Ts 0 [],none⟩]),_,⟨?_,hI.new _ (λ_=>rfl)⟩,(ml R),R,?_⟩
         ·unfold hs
          rw[xC]
          exact h
         ·show s2.2.2.2.flatMap Wn=(s2.2.2.2++[_]).flatMap Wn
          rw[w9]
          exact(xG _).symm
        ·refine Vu ?_
         exact⟨s2.2.2.2,_,⟨h,hI⟩,(ml R),R,R⟩
       ·refine rsn R (B1 R (λhx=>Bool.noConfusion hx) (λ_=>?_))
        refine Vu ?_
        exact⟨s2.2.2.2,_,⟨h,hI⟩,(ml R),R,R⟩
     ·refine jp R λw0 S0 X H0=>csr (rx 4 R (ssI 43 h R (λh=>?_) (λh=>?_)))
      ·refine rsn R (ccI h R (λh=>?_) (λh=>?_))
       ·refine Tm (Atm (Azw (Anb (jp R λw0 S0 X H0=>Bg (rx 3 R (Fi ?_))))))
        cases SJ h
        exact⟨(n2,((wI (s2.1+1)),s2.2.1,s2.2.2.1,s2.2.2.2)),_,⟨hk2,hI⟩,(ml R),R,R,wM _⟩
       ·refine Vu ?_
        exact⟨(),_,h,(ml R),R,R⟩
      ·refine rsn R (B1 R (λhx=>Bool.noConfusion hx) (λ_=>?_))
       refine Vu ?_
       exact⟨(),_,h,(ml R),R,R⟩
    ·refine jp R λw0 S0 X H0=>csr (rm 1 R (sv R (Fw Ajg R R (Aq (f:=eHG) fR _).symm) (rsn R (ccI h R (λh=>?_) (λh=>?_)))))
     ·refine Bg (rx 2 R ?_)
      obtain⟨u23,hu23,h⟩:=Aa h
      refine sv R (Bl (f:=Dm) An6 fR R R R R hu23) ?_
      refine sv R (A9 Axe R) (rx 1 R (sv R (As7 R R) (rm 1 R (sv R (Fw Ajg R R (Aq (f:=eHG) fR _).symm) ?_))))
      obtain⟨hz24,h⟩:=B5 h
      refine sv R (Asf R R hz24) (rm 1 R (Fi ?_))
      exact⟨_,_,h,(ml R),R,R⟩
     ·refine Vu ?_
      exact⟨0,_,h,(ml R),R,R⟩
   ·refine Tm ?_
    cases SJ h
    exact⟨rfl,s2.2.1,s2.2.2.1,s2.2.2.2,[],hI,(ml R),R,R,hk2⟩
  ·rintro e ⟨t',m'⟩ Φ ⟨rfl,e0,done,all,ex,hI,hM,hm',rfl,rfl⟩ a w S H r
   simp only at hm'
   subst hm'
   obtain⟨S',r'⟩:=hI.give r (p:=2) rfl
   refine⟨_,S',H,r',?_⟩
   refine Ez (Ag ⟨(e0,hs done),.arr 79 4 0 (all.flatMap eHG)::ex,ho2,?_,?_⟩)
   ·show Nm t' [(2,.s (.one (.lp 0 0))),(4,.s (.one (.lp 1 0))),(6,.s (.one (.ls 2 (hs done).length)))]
    rw[Yl];exact hM
   ·rfl
instance playC:PlayC:=⟨Ax8⟩
end Go.Proofs.YtkblaobhhoebaaaGreat.Abs
