/-
 What an engine's calls keep: those that begin, read, write, give up.
-/
import Derived.Test.YtkblaobhhoebaaaGreatLG14x
set_option linter.unusedVariables false
set_option linter.unusedSimpArgs false
namespace Go.Proofs.YtkblaobhhoebaaaGreat.Abs
def CI (c:Ay) (now next:Int):Prop:=∃ w:ss.WL11,ss.Inv ss.K10 w/\w.c=c/\w.now=now/\(w.begun.length:Int)=next
theorem CI.sc {c:Ay} {now next:Int} (h:CI c now next):ss.SC c:=by
 obtain⟨w,hi,rfl,-⟩:=h
 exact hi.sc
theorem App {c:Ay} {now next:Int} (h:CI c now next) (id:Int):∃ c',C9 c id=some c'/\CI c' now next:=by
 obtain⟨w,hi,rfl,h2,h3⟩:=h
 obtain⟨c',e,hi',-⟩:=ss.inv_abort hi id
 exact⟨c',e,_,hi',rfl,h2,h3⟩
theorem Aqi {c:Ay} {now next:Int} (h:CI c now next):∃ c',I2 c=some c'/\CI c' now next:=by
 obtain⟨w,hi,rfl,h2,h3⟩:=h
 obtain⟨c',e,hi',-⟩:=ss.inv_clean hi
 exact⟨c',e,_,hi',rfl,h2,h3⟩
theorem Aor {c:Ay} {now next:Int} (h:CI c now next) (hn:now<=ss.maxTs) (ro:Bool):∃ c' e,Ik c next now ro=some (c',e)/\(e=0->CI c' now (next+1)):=by
 obtain⟨w,hi,rfl,rfl,rfl⟩:=h
 rcases ss.begin_m hi.sc (w.begun.length:Int) w.now ro (xV _) hi.now0 hn with⟨-,e⟩|⟨-,⟨-,e⟩|⟨hl,e⟩⟩
 ·exact⟨_,_,e,λh=>by cases h⟩
 ·exact⟨_,_,e,λh=>by cases h⟩
 ·refine⟨_,_,e,λ_=>⟨_,ss.inv_begin hi ro hn hl,rfl,rfl,?_⟩⟩
  show((w.begun++[w.now]).length:Int)=_
  rw[zH,yD];rfl
theorem As0 {c:Ay} {now next:Int} (h:CI c now next) (id:Int) (r:Ar):∃ c' e,Fp c id r=some (c',e)/\(e=0->CI c' now next):=by
 obtain⟨w,hi,rfl,h2,h3⟩:=h
 rcases ss.read_m hi.sc id r with⟨-,e⟩|⟨a,ha,e1,h1,⟨x,hx,e⟩|⟨-,e⟩|⟨rs,hg,r1,r2,r3,r4,r5,e⟩⟩
 ·exact⟨_,_,e,λh=>by cases h⟩
 ·exact⟨_,_,e,λh=>by rcases hx with hx|⟨hx,-⟩ <;> omega⟩
 ·exact⟨_,_,e,λh=>by cases h⟩
 ·exact⟨_,_,e,λ_=>⟨_,ss.inv_read hi ha h1 r rs hg r1 r2 r3 r5,rfl,h2,h3⟩⟩
theorem Amy {c:Ay} {now next:Int} (h:CI c now next) (id:Int) (K:List (List UInt8)) (hK:K.length<=16):∃ c' e,C8 c id (now+1) K=some (c',e)/\(e=0->CI c' (now+1) next):=by
 obtain⟨w,hi,rfl,rfl,h3⟩:=h
 rcases ss.commit_m hi.sc id (w.now+1) K hK with⟨-,e⟩|⟨a,ha,e1,h1,⟨-,e⟩|⟨hm,⟨-,e⟩|⟨hcf,⟨-,e⟩|⟨hno,hpv,e⟩⟩⟩⟩
 ·exact⟨_,_,e,λh=>by cases h⟩
 ·exact⟨_,_,e,λh=>by cases h⟩
 ·exact⟨_,_,e,λh=>by cases h⟩
 ·exact⟨_,_,e,λh=>by cases h⟩
 ·exact⟨_,_,e,λ_=>⟨_,ss.inv_done hi ha h1 K ⟨hm.1,hm.2.1⟩ ⟨hm.2.2.1,hK⟩ hm.2.2.2.1 hcf hno hpv ⟨a.ID,a.Begin,w.now+1,0,false,false,false,K⟩ ⟨rfl,rfl,rfl,rfl⟩,rfl,rfl,h3⟩⟩
theorem Ac5 {e:Ab} {n:Nat} (h:EgI e n) (o:Ax):∃ e',Cd e o=some e'/\EgI e' n/\Stp e.Toks.L e'.Toks.L/\e'.Next=e.Next:=by
 have hop:=h.op
 unfold Cd
 rw[Uv e o.ID omg,zA]
 obtain⟨c',hc,hci⟩:=App h.cert o.ID
 obtain⟨l',m,er,hf,hf2⟩:=At4 h.tk o.Token o.Attempt
 have hc':C9 (Ab.mk e.Store e.Cert e.Toks (e.Open.filter λx=>!decide (x.ID=o.ID)) e.Next).Cert o.ID=some c':=hc
 have hfl:(e.Open.filter λx=>!decide (x.ID=o.ID)).length<=16:=yP (wC _ _) hop
 have hbf:∀ x∈(e.Open.filter λx=>!decide (x.ID=o.ID)),bf.Good x.Buf.L:=λx hx=>h.bf x (yG.1 hx).1
 rw[hc,zA]
 show ∃ e',(Co e.Toks o.Token o.Attempt).bind _=some e'/\_
 rw[show Co e.Toks o.Token o.Attempt=some (⟨l'⟩,m,er) from hf,zA]
 by_cases he:er=0
 ·rw[ifp he]
  obtain⟨k1,k2,-⟩:=hf2 he
  exact⟨_,rfl,⟨h.st,h.kl,h.ts,k1,hci,hfl,hbf,h.nx⟩,k2,rfl⟩
 ·rw[ifn he]
  exact⟨_,rfl,⟨h.st,h.kl,h.ts,h.tk,hci,hfl,hbf,h.nx⟩,Stp.refl _,rfl⟩
theorem Au7 (b:Bf) (k:List UInt8) (hl:b.L.length<=1000):∃ r,I5 b k=some r:=by
 unfold I5
 obtain⟨v,hv,-⟩:=Cr (f:=F0 b k) (P:=λs=>∃ j:Nat,j<=b.L.length/\s=(j:Int)) (μ:=λs=>b.L.length-s.toNat) (R:=λ_=>True) (by
  rintro _ ⟨j,hj,rfl⟩
  unfold F0 Dz
  rcases zU j b.L.length with hlt|hge
  ·rw[ifo,A3,zC hlt,zA,zA,wIo]
   split
   ·exact .inr (.inr ⟨_,rfl,trivial⟩)
   ·exact .inl ⟨_,rfl,⟨j+1,hlt,rfl⟩,by simp only[zT];omega⟩
  ·rw[ifq]
   exact .inr (.inl ⟨_,rfl,trivial⟩)) fuel 0 ⟨0,zZ _,rfl⟩ (Bs (by show b.L.length-0<=_;omega))
 rw[hv]
 cases v with
 | inl r=>exact⟨_,rfl⟩
 | inr u=>exact⟨_,rfl⟩
theorem Asn (l:List A5) (hl:l.length<=1000000):∃ v,Fx l=some v/\(v=true->Li kvk l):=by
 unfold Fx
 obtain⟨v,hv,hr⟩:=Cj (f:=Dw l) (P:=λs=>∃ j:Nat,j<=l.length/\s=((j:Int),(l.take j).map kvk)) (μ:=λs=>l.length-s.1.toNat) (R:=λv=>v=l.map kvk) (by
  rintro _ ⟨j,hj,rfl⟩
  unfold Dw
  dsimp only
  rcases zU j l.length with hlt|hge
  ·left
   rw[ifo,A3,zC hlt,zA,if_pos (by rw[zY,zN,yD];omega),wIo]
   refine⟨_,rfl,⟨j+1,hlt,?_⟩,by dsimp only;omega⟩
   rw[zV hlt,xC];rfl
  ·right
   have e:j=l.length:=by omega
   subst e
   rw[ifq]
   exact⟨_,rfl,by rw[yJ]⟩) fuel (0,[]) ⟨0,zZ _,by simp⟩ (Bs (by show l.length-0<=_;omega))
 rw[hv,hr]
 show ∃ v,Dt _=some v/\_
 unfold Dt
 have hn:(l.map kvk).length<=1000000000000000000:=by rw[zY];omega
 obtain⟨b,hb⟩:=ss.sorted_some (l.map kvk) hn
 rw[hb]
 refine⟨b,rfl,λh=>?_⟩
 rw[h] at hb
 exact wF.1 (st.sorted_conv hn hb)
theorem Axd {b:List Ae} (hb:bf.Good b) (l:List A5) (r:Ar) (hl:l.length<=1000000):∃ v,Cc ⟨b⟩ l r 8=some v:=by
 obtain⟨v,hv,hv2⟩:=Asn l hl
 cases v with
 | true=>exact⟨_,bf.over_m r hb (hv2 rfl) hl dcd⟩
 | false =>
  unfold Cc
  rw[bf.sane_m hb,zA,if_neg dcd,hv,zA,if_pos (by rfl)]
  exact⟨_,rfl⟩
end Go.Proofs.YtkblaobhhoebaaaGreat.Abs
