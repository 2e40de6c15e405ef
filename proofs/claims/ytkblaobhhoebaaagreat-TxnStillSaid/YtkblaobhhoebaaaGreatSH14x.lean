/-
 What an engine's calls keep: those that begin, read, write, give up.
-/
import Derived.Test.YtkblaobhhoebaaaGreatSG14x
set_option linter.unusedVariables false
set_option linter.unusedSimpArgs false
namespace Go.Proofs.YtkblaobhhoebaaaGreat.Abs
def CI (c:Be) (now next:Int):Prop:=∃ w:ss.WL11,ss.Inv ss.K10 w/\w.c=c/\w.now=now/\(w.begun.length:Int)=next
theorem CI.sc {c:Be} {now next:Int} (h:CI c now next):ss.SC c:=by
 obtain⟨w,hi,rfl,-⟩:=h
 exact hi.sc
theorem Atb {c:Be} {now next:Int} (h:CI c now next) (id:Int):∃ c',Ep c id=some c'/\CI c' now next:=by
 obtain⟨w,hi,rfl,h2,h3⟩:=h
 obtain⟨c',e,hi',-⟩:=ss.inv_abort hi id
 exact⟨c',e,_,hi',rfl,h2,h3⟩
theorem Asy {c:Be} {now next:Int} (h:CI c now next):∃ c',Kd c=some c'/\CI c' now next:=by
 obtain⟨w,hi,rfl,h2,h3⟩:=h
 obtain⟨c',e,hi',-⟩:=ss.inv_clean hi
 exact⟨c',e,_,hi',rfl,h2,h3⟩
theorem Arx {c:Be} {now next:Int} (h:CI c now next) (hn:now<=ss.maxTs) (ro:Bool):∃ c' e,Js c next now ro=some (c',e)/\(e=0->CI c' now (next+1)):=by
 obtain⟨w,hi,rfl,rfl,rfl⟩:=h
 rcases ss.begin_m hi.sc (w.begun.length:Int) w.now ro (xL _) hi.now0 hn with⟨-,e⟩|⟨-,⟨-,e⟩|⟨hl,e⟩⟩
 ·exact⟨_,_,e,λh=>by cases h⟩
 ·exact⟨_,_,e,λh=>by cases h⟩
 ·refine⟨_,_,e,λ_=>⟨_,ss.inv_begin hi ro hn hl,rfl,rfl,?_⟩⟩
  show((w.begun++[w.now]).length:Int)=_
  rw[zH,z6];rfl
theorem Au8 {c:Be} {now next:Int} (h:CI c now next) (id:Int) (r:Bh):∃ c' e,Gb c id r=some (c',e)/\(e=0->CI c' now next):=by
 obtain⟨w,hi,rfl,h2,h3⟩:=h
 rcases ss.read_m hi.sc id r with⟨-,e⟩|⟨a,ha,e1,h1,⟨x,hx,e⟩|⟨-,e⟩|⟨rs,hg,r1,r2,r3,r4,r5,e⟩⟩
 ·exact⟨_,_,e,λh=>by cases h⟩
 ·exact⟨_,_,e,λh=>by rcases hx with hx|⟨hx,-⟩ <;> omega⟩
 ·exact⟨_,_,e,λh=>by cases h⟩
 ·exact⟨_,_,e,λ_=>⟨_,ss.inv_read hi ha h1 r rs hg r1 r2 r3 r5,rfl,h2,h3⟩⟩
theorem Aqb {c:Be} {now next:Int} (h:CI c now next) (id:Int) (K:List (List UInt8)) (hK:K.length<=16):∃ c' e,Dy c id (now+1) K=some (c',e)/\(e=0->CI c' (now+1) next):=by
 obtain⟨w,hi,rfl,rfl,h3⟩:=h
 rcases ss.commit_m hi.sc id (w.now+1) K hK with⟨-,e⟩|⟨a,ha,e1,h1,⟨-,e⟩|⟨hm,⟨-,e⟩|⟨hcf,⟨-,e⟩|⟨hno,hpv,e⟩⟩⟩⟩
 ·exact⟨_,_,e,λh=>by cases h⟩
 ·exact⟨_,_,e,λh=>by cases h⟩
 ·exact⟨_,_,e,λh=>by cases h⟩
 ·exact⟨_,_,e,λh=>by cases h⟩
 ·exact⟨_,_,e,λ_=>⟨_,ss.inv_done hi ha h1 K ⟨hm.1,hm.2.1⟩ ⟨hm.2.2.1,hK⟩ hm.2.2.2.1 hcf hno hpv ⟨a.ID,a.Begin,w.now+1,0,false,false,false,K⟩ ⟨rfl,rfl,rfl,rfl⟩,rfl,rfl,h3⟩⟩
theorem Ak4 {e:Ai} {n:Nat} (h:EgI e n) (o:Bg):∃ e',C9 e o=some e'/\EgI e' n/\Stp e.Toks.L e'.Toks.L/\e'.Next=e.Next:=by
 have hop:=h.op
 unfold C9
 rw[Abg e o.ID (by omega),zA]
 obtain⟨c',hc,hci⟩:=Atb h.cert o.ID
 obtain⟨l',m,er,hf,hf2⟩:=Awc h.tk o.Token o.Attempt
 have hc':Ep (Ai.mk e.Store e.Cert e.Toks (e.Open.filter λx=>!decide (x.ID=o.ID)) e.Next).Cert o.ID=some c':=hc
 have hfl:(e.Open.filter λx=>!decide (x.ID=o.ID)).length<=16:=yO (xQ _ _) hop
 have hbf:∀ x∈(e.Open.filter λx=>!decide (x.ID=o.ID)),bf.Good x.Buf.L:=λx hx=>h.bf x (xD.1 hx).1
 rw[hc,zA]
 show ∃ e',(C7 e.Toks o.Token o.Attempt).bind _=some e'/\_
 rw[show C7 e.Toks o.Token o.Attempt=some (⟨l'⟩,m,er) from hf,zA]
 by_cases he:er=0
 ·rw[if_pos (decide_eq_true he)]
  obtain⟨k1,k2,-⟩:=hf2 he
  exact⟨_,rfl,⟨h.st,h.kl,h.ts,k1,hci,hfl,hbf,h.nx⟩,k2,rfl⟩
 ·rw[if_neg (by rw[decide_eq_true_eq];exact he)]
  exact⟨_,rfl,⟨h.st,h.kl,h.ts,h.tk,hci,hfl,hbf,h.nx⟩,Stp.refl _,rfl⟩
theorem Ax6 (b:B7) (k:List UInt8) (hl:b.L.length<=1000):∃ r,O3 b k=some r:=by
 unfold O3
 obtain⟨v,hv,-⟩:=D2 (f:=Ld b k) (P:=λs=>∃ j:Nat,j<=b.L.length/\s=(j:Int)) (μ:=λs=>b.L.length-s.toNat) (R:=λ_=>True) (by
  rintro _ ⟨j,hj,rfl⟩
  unfold Ld Fs
  rcases zO j b.L.length with hlt|hge
  ·rw[if_pos (decide_eq_true (by omega)),Bo,zB hlt,zA,zA,Cd (by omega) (by omega)]
   split
   ·exact .inr (.inr ⟨_,rfl,trivial⟩)
   ·exact .inl ⟨_,rfl,⟨j+1,hlt,rfl⟩,by simp only[zT];omega⟩
  ·rw[if_neg (by rw[decide_eq_true_eq];omega)]
   exact .inr (.inl ⟨_,rfl,trivial⟩)) fuel 0 ⟨0,zX _,rfl⟩ (Co (by show b.L.length-0<=_;omega))
 rw[hv]
 cases v with
 | inl r=>exact⟨_,rfl⟩
 | inr u=>exact⟨_,rfl⟩
theorem Awt (l:List B8) (hl:l.length<=1000000):∃ v,Fz l=some v/\(v=true->Vq kvk l):=by
 unfold Fz
 obtain⟨v,hv,hr⟩:=Dm (f:=D6 l) (P:=λs=>∃ j:Nat,j<=l.length/\s=((j:Int),(l.take j).map kvk)) (μ:=λs=>l.length-s.1.toNat) (R:=λv=>v=l.map kvk) (by
  rintro _ ⟨j,hj,rfl⟩
  unfold D6
  dsimp only
  rcases zO j l.length with hlt|hge
  ·left
   rw[if_pos (decide_eq_true (by omega)),Bo,zB hlt,zA,if_pos (by rw[z2,zK,z6];omega),Cd (by omega) (by omega)]
   refine⟨_,rfl,⟨j+1,hlt,?_⟩,by dsimp only;omega⟩
   rw[zM hlt,wA];rfl
  ·right
   have e:j=l.length:=by omega
   subst e
   rw[if_neg (by rw[decide_eq_true_eq];omega)]
   exact⟨_,rfl,by rw[yF]⟩) fuel (0,[]) ⟨0,zX _,by simp⟩ (Co (by show l.length-0<=_;omega))
 rw[hv,hr]
 show ∃ v,D8 _=some v/\_
 unfold D8
 have hn:(l.map kvk).length<=1000000000000000000:=by rw[z2];omega
 obtain⟨b,hb⟩:=ss.sorted_some (l.map kvk) hn
 rw[hb]
 refine⟨b,rfl,λh=>?_⟩
 rw[h] at hb
 exact wF.1 (st.sorted_conv hn hb)
theorem Azi {b:List A7} (hb:bf.Good b) (l:List B8) (r:Bh) (hl:l.length<=1000000):∃ v,Gd ⟨b⟩ l r 8=some v:=by
 obtain⟨v,hv,hv2⟩:=Awt l hl
 cases v with
 | true=>exact⟨_,bf.over_m r hb (hv2 rfl) hl (by decide)⟩
 | false =>
  unfold Gd
  rw[bf.sane_m hb,zA,if_neg (by decide),hv,zA,if_pos (by rfl)]
  exact⟨_,rfl⟩
end Go.Proofs.YtkblaobhhoebaaaGreat.Abs
