/-
  What the library's functions compute.
-/
import Derived.Test.YtkblaobhhoebaaaGreatSS14
set_option linter.unusedVariables false
set_option linter.unusedSimpArgs false
namespace Go.Proofs.YtkblaobhhoebaaaGreat.Abs.bf
theorem Aen (a b:List UInt8):Jp a b=some (Gm a b):=rfl
def Ah9 (r:Bh) (k:List UInt8):Bool:=decide (0<=Gm k r.Lo)&&(r.Open||decide (Gm k r.Hi<0))
theorem Apz (r:Bh) (k:List UInt8):Hp r k=some (Ah9 r k):=by
  unfold Hp Ah9
  simp only[Aen,zA]
  cases decide (0<=Gm k r.Lo) <;> cases r.Open <;> simp
def At1 (r:Bh):Bool:=!r.Open&&((decide (r.Lo=[])&&decide (r.Hi=[0]))||decide (Gm r.Hi r.Lo<=0))
theorem A5b {α:Type} (a:List α):decide ((a.length:Int)=0)=decide (a=[]):=by
  rw[decide_eq_decide]
  cases a <;> simp
  omega
theorem empty_m (r:Bh):Hs r=some (At1 r):=by
  obtain⟨lo,hi,o⟩:=r
  unfold Hs F4 At1
  simp only[Aen,zA,A5b]
  cases o with
  | true=>rfl
  | false =>
    cases lo with
    | cons x xs=>simp
    | nil =>
      rcases hi with _|⟨x,_|⟨y,ys⟩⟩
      · simp
      · have e:(decide ((x.toBitVec.toNat:Int)=(0:Int)))=decide (x=0):=by
          rw[decide_eq_decide]
          constructor
          · intro h; exact UInt8.toNat_inj.1 (by have : x.toNat = 0 := by have h' : ((x.toNat : Nat) : Int) = 0 := h; omega
                                                 rw[this];rfl)
          · rintro rfl;rfl
        rw[show idx [x] 0=some x from rfl]
        simp only[zA,e]
        by_cases hx:x=0 <;> simp [hx]
      · have:((List.length (x::y::ys):Nat):Int)≠1:=by simp;omega
        simp [this]
        omega
theorem one_m (a:List UInt8) (h:a.length<=1000000):Rk a=some ⟨a,a++[0],false⟩:=by
  unfold Rk
  rw[V9 _ (by simp;omega) (by simp)]
  simp
abbrev Keys:=List (List UInt8)
def kat (xs:Keys) (k:List UInt8):Nat:=xs.findIdx (λx=>decide (0<=Gm x k))
def hit (xs:Keys) (k:List UInt8):Bool:=xs[kat xs k]? == some k
theorem Ape (xs:Keys) (k:List UInt8):kat xs k<=xs.length:=List.findIdx_le_length
theorem At4 {xs:Keys} {k:List UInt8} {i:Nat} {x:List UInt8} (h:xs[i]? = some x) (h1:0<=Gm x k) (h2:∀ j y,j<i->xs[j]? = some y->Gm y k<0):kat xs k=i:=by
  obtain⟨hi,rfl⟩:=zC.1 h
  unfold kat
  rw[List.findIdx_eq hi]
  refine⟨by simpa using h1,λj hj=>?_⟩
  have:=h2 j xs[j] hj (zB (by omega))
  rw[decide_eq_false_iff_not]
  omega
theorem Aj9 {xs:Keys} {k:List UInt8} (h:∀ j y,j<xs.length->xs[j]? = some y->Gm y k<0):kat xs k=xs.length:=by
  unfold kat
  rw[List.findIdx_eq_length]
  intro x hx
  obtain⟨j,hj,rfl⟩:=yS hx
  have:=h j xs[j] hj (zB hj)
  rw[decide_eq_false_iff_not]
  omega
theorem Alg (xs:Keys) (k:List UInt8) (hn:xs.length<=1000000000000000000):Ly xs k=some ((kat xs k:Int),hit xs k):=by
  obtain⟨v,hv,hr⟩:=D2 (f:=En xs k) (P:=λs=>∃ i:Nat,s=(i:Int)/\i<=xs.length/\∀ j y,j<i->xs[j]? = some y->Gm y k<0) (μ:=λs=>xs.length-s.toNat)
    (R:=λv=>match v with | .inl r=>r=(kat xs k:Int)/\kat xs k<xs.length | .inr _=>kat xs k=xs.length) (by
    rintro _ ⟨i,rfl,h1,h2⟩
    unfold En Eg
    by_cases hi:i<xs.length
    · have e:=zB hi
      rw[if_pos (decide_eq_true (by omega)),Bo,e]
      simp only[zA,Aen]
      by_cases hc:0<=Gm xs[i] k
      · right;right
        rw[if_pos (decide_eq_true hc)]
        have ea:=At4 e hc h2
        exact⟨_,rfl,by rw[ea],by rw[ea];exact hi⟩
      · left
        rw[if_neg (by rw[decide_eq_true_eq];exact hc)]
        refine⟨_,rfl,⟨i+1,by rw[Cd (by omega) (by omega)];rfl,hi,λj y hj hy=>?_⟩,by rw[Cd (by omega) (by omega)];omega⟩
        rcases jR.1 hj with h|rfl
        · exact h2 j y h hy
        · rw[e] at hy;cases hy;omega
    · right;left
      rw[if_neg (by rw[decide_eq_true_eq];omega)]
      refine⟨_,rfl,?_⟩
      have:i=xs.length:=by omega
      subst this
      exact Aj9 h2) fuel 0 ⟨0,rfl,zX _,λj y hj=>absurd hj (zR _)⟩ (Co (by show xs.length-0<=_;omega))
  unfold Ly Iv
  rw[hv]
  simp only[zA]
  cases v with
  | inl r =>
    obtain⟨rfl,hlt⟩:r=(kat xs k:Int)/\kat xs k<xs.length:=hr
    simp only[zA]
    rw[if_neg (by rw[decide_eq_true_eq];omega),Bo,zB hlt]
    simp only[zA,Fs]
    unfold hit
    rw[zB hlt]
    rfl
  | inr u =>
    have e:kat xs k=xs.length:=hr
    unfold F8
    simp only[zA]
    rw[if_pos (by decide)]
    unfold hit
    rw[e]
    simp
def ins (xs:Keys) (k:List UInt8):Keys:=if hit xs k then xs else xs.take (kat xs k)++k::xs.drop (kat xs k)
def part (xs:Keys) (k:List UInt8) (j:Nat):Keys:=if hit xs k=true\/j<=kat xs k then xs.take j else xs.take (kat xs k)++k::(xs.drop (kat xs k)).take (j-kat xs k)
theorem Atr {xs:Keys} {k:List UInt8} (h:hit xs k=true):kat xs k<xs.length:=by
  unfold hit at h
  have:=eq_of_beq h
  exact(zC.1 this).1
abbrev PW (xs:Keys):Prop:=xs.Pairwise (λx y=>Gm x y<0)
theorem Aty {xs:Keys} {k x:List UInt8} (h:x∈xs.take (kat xs k)):Gm x k<0:=by
  obtain⟨j,hj,rfl⟩:=yS h
  rw[zK] at hj
  rw[kZ]
  have:=List.not_of_lt_findIdx (p:=λx=>decide (0<=Gm x k)) (xs:=xs) (i:=j) (by have h':kat xs k=List.findIdx (λx=>decide (0<=Gm x k)) xs:=rfl;omega)
  have h2:¬ 0<=Gm xs[j] k:=by simpa using this
  omega
theorem At9 {xs:Keys} {k:List UInt8} (h:kat xs k<xs.length):0<=Gm xs[kat xs k] k:=by
  have:=List.findIdx_getElem (p:=λx=>decide (0<=Gm x k)) (xs:=xs) (w:=h)
  exact of_decide_eq_true this
theorem Ajw {xs:Keys} {k:List UInt8} (h:hit xs k=true):k∈xs:=by
  unfold hit at h
  exact zJ (eq_of_beq h)
theorem Av1 {xs:Keys} {k:List UInt8} (hp:PW xs) (h:k∈xs):hit xs k=true:=by
  obtain⟨j,hj,rfl⟩:=yS h
  have hle:kat xs xs[j]<=j:=by
    rcases zO j (kat xs xs[j]) with h1|h1
    · have:=Aty (xs:=xs) (k:=xs[j]) (x:=xs[j]) (List.mem_take_iff_getElem.2 ⟨j,by omega,rfl⟩)
      rw[Rl] at this
      omega
    · exact h1
  have hk:kat xs xs[j]<xs.length:=by omega
  unfold hit
  rw[zB hk]
  rcases zO (kat xs xs[j]) j with h1|h1
  · have h2:=yI.1 hp _ _ hk hj h1
    have h3:=At9 hk
    omega
  · have e:kat xs xs[j]=j:=by omega
    simp only[e]
    simp
theorem Ai0 {xs:Keys} {k:List UInt8} (hp:PW xs):hit xs k=true↔k∈xs:=⟨Ajw,Av1 hp⟩
theorem Att {xs:Keys} {k:List UInt8} (hp:PW xs):PW (ins xs k):=by
  unfold ins
  by_cases h:hit xs k=true
  · rw[if_pos h];exact hp
  · rw[if_neg h]
    have hap:PW (xs.take (kat xs k)++xs.drop (kat xs k)):=by rw[xK];exact hp
    obtain⟨h1,h2,h3⟩:=wS.1 hap
    have hk:∀ y∈xs.drop (kat xs k),Gm k y<0:=by
      intro y hy
      have hlt:kat xs k<xs.length:=by
        rcases zO (kat xs k) xs.length with h'|h'
        · exact h'
        · rw[wV h'] at hy;cases hy
      have hge:=At9 hlt
      have hne:Gm xs[kat xs k] k≠0:=λe=>h (by
        unfold hit
        rw[zB hlt,Ua e]
        simp)
      have hs:=Uo k xs[kat xs k]
      have hlt2:Gm k xs[kat xs k]<0:=by omega
      rw[wY hlt] at hy h2
      rcases yM.1 hy with rfl|hy
      · exact hlt2
      · have:=(wH.1 h2).1 y hy
        exact(Of (kP hlt2) (kP this)).2 (.inl hlt2)
    refine wS.2 ⟨h1,wH.2 ⟨hk,h2⟩,λx hx y hy=>?_⟩
    rcases yM.1 hy with rfl|hy
    · exact Aty hx
    · exact h3 x hx y hy
theorem Abf {xs:Keys} (hp:PW xs) (hn:xs.length<=1000000000000000000):Cr xs=some true:=by
  obtain⟨v,hv,hr⟩:=D2 (f:=Cu xs) (P:=λs=>∃ i:Nat,s=(i:Int)/\1<=i) (μ:=λs=>xs.length-s.toNat)
    (R:=λv=>match v with | .inl r=>False | .inr _=>True) (by
    rintro _ ⟨i,rfl,h1⟩
    unfold Cu
    by_cases hi:i<xs.length
    · left
      rw[if_pos (decide_eq_true (by omega)),Cd (by omega) (by omega),show(i:Int)-1=((i-1:Nat):Int) from by omega,Bo,Bo,zB hi,zB (by omega)]
      simp only[zA,Aen]
      have:=yI.1 hp (i-1) i (by omega) hi (by omega)
      rw[if_neg (by rw[decide_eq_true_eq];omega)]
      exact⟨_,rfl,⟨i+1,by rw[Cd (by omega) (by omega)];rfl,by omega⟩,by rw[Cd (by omega) (by omega)];omega⟩
    · right;left
      rw[if_neg (by rw[decide_eq_true_eq];omega)]
      exact⟨_,rfl,trivial⟩) fuel 1 ⟨1,rfl,zN _⟩ (Co (by show xs.length-1<=_;omega))
  unfold Cr
  rw[hv]
  cases v with
  | inl r=>exact hr.elim
  | inr u=>rfl
theorem idx_mem {α:Type} {xs:List α} {j:Int} {u:α} (h:idx xs j=some u):u∈xs:=zJ (Jd h).2
def wk (x:A7):List UInt8:=x.Key
def swV (w:A7):Bool:=(Da w).getD false
theorem A1k (w:A7):Da w=some (swV w):=by
  have:∃ b,Da w=some b:=by
    unfold Da Fa
    repeat' (first|exact⟨_,rfl⟩|split|dsimp only [Option.bind_some])
  obtain⟨b,hb⟩:=this
  unfold swV
  rw[hb];rfl
structure Good (b:List A7):Prop where
  sw:∀ w∈b,swV w=true
  len:b.length<=16
  rise:Vq wk b
theorem Good.nil:Good []:=⟨λw h=>(by simp at h),by decide,List.Pairwise.nil⟩
theorem Z8 {α:Type} {kf:α->List UInt8} {l:List α}:PW (l.map kf)↔Vq kf l:=wF
theorem keysOf_m {b:List A7} (hb:b.length<=1000000):Fc ⟨b⟩=some (b.map wk):=by
  unfold Fc
  obtain⟨v,hv,hr⟩:=Dm (f:=Gh ⟨b⟩) (P:=λs=>∃ j:Nat,j<=b.length/\s=((j:Int),(b.take j).map wk)) (μ:=λs=>b.length-s.1.toNat) (R:=λv=>v=b.map wk) (by
    rintro _ ⟨j,hj,rfl⟩
    unfold Gh
    dsimp only
    rcases zO j b.length with hlt|hge
    · left
      rw[if_pos (decide_eq_true (by omega)),Bo,zB hlt,zA,if_pos (by rw[z2,zK,z6];omega),Cd (by omega) (by omega)]
      refine⟨_,rfl,⟨j+1,hlt,?_⟩,by dsimp only;omega⟩
      rw[zM hlt,wA];rfl
    · right
      have e:j=b.length:=by omega
      subst e
      rw[if_neg (by rw[decide_eq_true_eq];omega)]
      exact⟨_,rfl,by rw[yF]⟩) fuel (0,[]) ⟨0,zX _,by simp⟩ (Co (by show b.length-0<=_;omega))
  rw[hv,hr];rfl
theorem sane_m {b:List A7} (h:Good b):Ft ⟨b⟩=some true:=by
  have hl:=h.len
  unfold Ft
  rw[Aol b (λw=>!swV w) (λ_=>false) (F0 ⟨b⟩) (by omega) (λi x hx=>by
    have hlt:=(zC.1 hx).1
    unfold F0
    dsimp only
    rw[if_pos (decide_eq_true (by omega)),Bo,hx,zA,A1k,zA,Cd (by omega) (by omega)]
    cases swV x <;> rfl) (by
    unfold F0
    dsimp only
    rw[if_neg (by rw[decide_eq_true_eq];omega)]),Ahu (λx hx=>by rw[h.sw x hx];rfl)]
  show Ij ⟨b⟩ ()=_
  unfold Ij
  dsimp only
  rw[if_pos (decide_eq_true (by omega)),keysOf_m (by omega),zA,Abf (Z8.2 h.rise) (by rw[z2];omega),zA]
def setR (b:List A7) (w:A7):List A7:=Afj wk (Uq wk b w)
theorem Apq {α:Type} {kf:α->List UInt8} {t:List α} (h:Qz kf t) (x:α):Qz kf (Uq kf t x):=by
  refine wH.2 ⟨λy hy=>?_,h.sublist (jK ..)⟩
  have:=(xD.1 hy).2
  intro e
  rw[e] at this
  simp at this
theorem Ar4 {α:Type} {kf:α->List UInt8} {t:List α} {x y:α}:y∈Uq kf t x↔y=x\/(y∈t/\kf y≠kf x):=by
  unfold Uq
  rw[yM,xD]
  simp
theorem Ard {b:List A7} {w x:A7}:x∈setR b w↔x=w\/(x∈b/\wk x≠wk w):=Asf.trans Ar4
theorem Ab3 {b:List A7} (h:Vq wk b) (w:A7):Vq wk (setR b w):=V3 (Apq h.dist w)
theorem Ae8 {b:List A7} (h:Vq wk b) {k:List UInt8}:hit (b.map wk) k=true↔k∈b.map wk:=Ai0 (Z8.2 h)
theorem Aht {b:List A7} (h:Vq wk b) {w:A7} (hh:hit (b.map wk) (wk w)=true):b.set (kat (b.map wk) (wk w)) w=setR b w:=by
  have hk:(b.map wk)[kat (b.map wk) (wk w)]? = some (wk w):=by
    unfold hit at hh
    exact beq_iff_eq.1 hh
  obtain⟨p1,_,p3⟩:=Aew (List.Perm.refl b) h.dist (x:=w) hk
  refine Ae4 ?_ (Ab3 h w) (p1.trans (Nr _).symm)
  have e:(b.set (kat (b.map wk) (wk w)) w).map wk=b.map wk:=(Aew (List.Perm.refl b) h.dist (x:=w) hk).2.1
  exact Z8.1 (by rw[e];exact Z8.2 h)
theorem Apo {b:List A7} (h:Vq wk b) {w:A7} (hh:hit (b.map wk) (wk w)=false):b.take (kat (b.map wk) (wk w))++w::b.drop (kat (b.map wk) (wk w))=setR b w:=by
  have hk:wk w∉b.map wk:=λhm=>by rw[(Ae8 h).2 hm] at hh;cases hh
  have hp:(b.take (kat (b.map wk) (wk w))++w::b.drop (kat (b.map wk) (wk w))).Perm (w::b):=by
    refine List.perm_middle.trans ?_
    rw[xK]
  have hf:Uq wk b w=w::b:=by unfold Uq;rw[Acj hk]
  refine Ae4 ?_ (Ab3 h w) (hp.trans (by rw[<- hf];exact(Nr _).symm))
  have hi:=Att (k:=wk w) (Z8.2 h)
  unfold ins at hi
  rw[if_neg (by rw[hh];decide)] at hi
  refine Z8.1 ?_
  rw[wA,wB,List.map_take,List.map_drop]
  exact hi
theorem Ati {b:List A7} (h:Vq wk b) (w:A7):(setR b w).length=if hit (b.map wk) (wk w)=true then b.length else b.length+1:=by
  cases hh:hit (b.map wk) (wk w) with
  | true=>rw[<- Aht h hh,if_pos rfl,xI]
  | false =>
    rw[<- Apo h hh,if_neg (by decide),zH,yW,zK,yC]
    have:=Ape (b.map wk) (wk w)
    rw[z2] at this
    omega
theorem Azm {b:List A7} (h:Good b) {w:A7} (hw:swV w=true) (hr:wk w∈b.map wk\/b.length<16):Em ⟨b⟩ w=some (⟨setR b w⟩,0)/\Good (setR b w):=by
  have hl:=h.len
  have hg:Good (setR b w):=by
    refine⟨λx hx=>?_,?_,Ab3 h.rise w⟩
    · rcases Ard.1 hx with rfl|⟨hx,_⟩
      · exact hw
      · exact h.sw x hx
    · rw[Ati h.rise]
      split
      · exact hl
      · rename_i hn
        rcases hr with hr|hr
        · exact absurd ((Ae8 h.rise).2 hr) hn
        · omega
  refine⟨?_,hg⟩
  unfold Em
  rw[show(⟨(B7.mk b).L⟩:B7)=⟨b⟩ from rfl,sane_m h,zA,show(⟨w.Key,w.Val,w.Del⟩:A7)=w from rfl,A1k,zA,hw]
  unfold Lb
  rw[keysOf_m (by omega),zA,Alg _ _ (by rw[z2];omega),zA]
  dsimp only
  rw[R4 _ (by omega),zA]
  have hkl:=Ape (b.map wk) (wk w)
  rw[z2] at hkl
  rw[if_neg (by decide),if_neg (by decide)]
  cases hh:hit (b.map wk) w.Key with
  | true =>
    have hlt:=Atr hh
    rw[z2] at hlt
    rw[if_pos rfl,Bo,zB hlt,zA,zT]
    exact congrArg (λl=>some (B7.mk l,(0:Int))) (Aht h.rise hh)
  | false =>
    have hlt:b.length<16:=by
      rcases hr with hr|hr
      · have:=(Ae8 h.rise).2 hr
        rw[show wk w=w.Key from rfl,hh] at this;cases this
      · exact hr
    rw[if_neg (by decide),if_neg (by rw[decide_eq_true_eq];omega)]
    unfold Px Aqz
    dsimp only
    rw[if_pos ⟨⟨xL _,by show((kat (b.map wk) (wk w):Nat):Int)<=_;omega⟩,by omega⟩,zA,zT]
    exact congrArg (λl=>some (B7.mk l,(0:Int))) (Apo h.rise hh)
theorem Auz {b:List A7} (h:Good b) {w:A7} (hn:¬ (swV w=true/\(wk w∈b.map wk\/b.length<16))):∃ e:Int,e≠0/\(swV w=true->e=8)/\Em ⟨b⟩ w=some (⟨[]⟩,e):=by
  have hl:=h.len
  unfold Em
  rw[show(⟨(B7.mk b).L⟩:B7)=⟨b⟩ from rfl,sane_m h,zA,show(⟨w.Key,w.Val,w.Del⟩:A7)=w from rfl,A1k,zA,if_neg (by decide)]
  cases hw:swV w with
  | false=>exact⟨1,by decide,λh=>(by cases h),rfl⟩
  | true =>
    have hn2:¬ (wk w∈b.map wk\/b.length<16):=λh=>hn ⟨hw,h⟩
    have hh:hit (b.map wk) w.Key=false:=by
      cases hh:hit (b.map wk) w.Key with
      | false=>rfl
      | true=>exact absurd (.inl ((Ae8 h.rise).1 hh)) hn2
    unfold Lb
    rw[if_neg (by decide),keysOf_m (by omega),zA,Alg _ _ (by rw[z2];omega),zA]
    dsimp only
    rw[R4 _ (by omega),zA,hh,if_neg (by decide),if_pos (decide_eq_true (by omega))]
    exact⟨8,by decide,λ_=>rfl,rfl⟩
theorem set_any {b:List A7} (h:Good b) (w:A7):(Em ⟨b⟩ w=some (⟨setR b w⟩,0)/\Good (setR b w)/\swV w=true)\/∃ e:Int,e≠0/\Em ⟨b⟩ w=some (⟨[]⟩,e):=by
  by_cases hc:swV w=true/\(wk w∈b.map wk\/b.length<16)
  · obtain⟨h1,h2⟩:=Azm h hc.1 hc.2
    exact .inl ⟨h1,h2,hc.1⟩
  · obtain⟨e,h1,_,h2⟩:=Auz h hc
    exact .inr ⟨e,h1,h2⟩
def kvw (w:A7):B8:=⟨w.Key,w.Val⟩
def Aa4 (r:Bh) (t:List B8) (x:B8):List B8:=if Ah9 r x.Key then Uq kvk t x else t
def Aer (r:Bh) (t:List B8) (w:A7):List B8:=if w.Del then Ae5 kvk t w.Key else if Ah9 r w.Key then Uq kvk t (kvw w) else t
def ovL (b:List A7) (l:List B8) (r:Bh):List B8:=Afj kvk (b.foldl (Aer r) (l.foldl (Aa4 r) []))
theorem Ah6 (r:Bh):∀ (l t:List B8),(l.foldl (Aa4 r) t).length<=t.length+l.length
  | [],t=>by simp
  | y::l,t=>by
    have:=Ah6 r l (Aa4 r t y)
    have h2:(Aa4 r t y).length<=t.length+1:=by
      unfold Aa4 Uq
      split
      · have:=xQ (λz=>!(kvk z==kvk y)) t
        rw[yW];omega
      · omega
    rw[kX,yW];omega
theorem Ags (r:Bh):∀ (b:List A7) (t:List B8),(b.foldl (Aer r) t).length<=t.length+b.length
  | [],t=>by simp
  | y::l,t=>by
    have:=Ags r l (Aer r t y)
    have h2:(Aer r t y).length<=t.length+1:=by
      unfold Aer Uq Ae5
      split
      · have:=xQ (λz=>!(kvk z==y.Key)) t;omega
      · split
        · have:=xQ (λz=>!(kvk z==kvk (kvw y))) t
          rw[yW];omega
        · omega
    rw[kX,yW];omega
theorem Aye (b:List A7) (l:List B8) (r:Bh):(ovL b l r).length<=l.length+b.length:=by
  unfold ovL
  rw[(Nr _).length_eq]
  have h1:=Ags r b (l.foldl (Aa4 r) [])
  have h2:=Ah6 r l []
  simp at h2
  omega
theorem Au1 {l:List B8} (h:Vq kvk l) (hl:l.length<=1000000):Fz l=some true:=by
  unfold Fz
  obtain⟨v,hv,hr⟩:=Dm (f:=D6 l) (P:=λs=>∃ j:Nat,j<=l.length/\s=((j:Int),(l.take j).map kvk)) (μ:=λs=>l.length-s.1.toNat) (R:=λv=>v=l.map kvk) (by
    rintro _ ⟨j,hj,rfl⟩
    unfold D6
    dsimp only
    rcases zO j l.length with hlt|hge
    · left
      rw[if_pos (decide_eq_true (by omega)),Bo,zB hlt,zA,if_pos (by rw[z2,zK,z6];omega),Cd (by omega) (by omega)]
      refine⟨_,rfl,⟨j+1,hlt,?_⟩,by dsimp only;omega⟩
      rw[zM hlt,wA];rfl
    · right
      have e:j=l.length:=by omega
      subst e
      rw[if_neg (by rw[decide_eq_true_eq];omega)]
      exact⟨_,rfl,by rw[yF]⟩) fuel (0,[]) ⟨0,zX _,by simp⟩ (Co (by show l.length-0<=_;omega))
  rw[hv,hr]
  show D8 _=_
  unfold D8
  rw[Abf (wF.2 h) (by rw[z2];omega)]
  rfl
theorem over_m {b:List A7} {l:List B8} (r:Bh) {n:Int} (hb:Good b) (hl:Vq kvk l) (hn:l.length<=1000000) (h1:1<=n):Gd ⟨b⟩ l r n=some ((ovL b l r).take n.toNat):=by
  have hbl:=hb.len
  unfold Gd
  rw[sane_m hb,zA,if_neg (by decide),Au1 hl hn,zA,if_neg (by decide),if_neg (by rw[decide_eq_true_eq];omega)]
  have e1:=Z4 (f:=Ac3 l r) (λ(t:List B8) (i:Nat)=>((i:Int),t)) l (Aa4 r) (λt=>t) (by omega) (λacc i x hx=>by
    have hlt:=(zC.1 hx).1
    unfold Ac3
    dsimp only
    rw[if_pos (decide_eq_true (by omega)),Bo,hx,zA,Apz,zA,Cd (by omega) (by omega)]
    rfl) (λacc=>by
    unfold Ac3
    dsimp only
    rw[if_neg (by rw[decide_eq_true_eq];omega)]) []
  have e2:=Z4 (f:=Aca ⟨b⟩ r) (λ(t:List B8) (i:Nat)=>((i:Int),t)) b (Aer r) (λt=>t) (by omega) (λacc i x hx=>by
    have hlt:=(zC.1 hx).1
    unfold Aca Aer
    dsimp only
    rw[if_pos (decide_eq_true (by omega)),Bo,hx,zA,Cd (by omega) (by omega)]
    cases hd:x.Del with
    | true=>rfl
    | false =>
      rw[if_neg (by decide),Apz,zA]
      rfl) (λacc=>by
    unfold Aca
    dsimp only
    rw[if_neg (by rw[decide_eq_true_eq];omega)]) (l.foldl (Aa4 r) [])
  have e1':Cz (Ac3 l r) fuel (0,[])=some (l.foldl (Aa4 r) []):=e1
  have e2':Cz (Aca ⟨b⟩ r) fuel (0,l.foldl (Aa4 r) [])=some (b.foldl (Aer r) (l.foldl (Aa4 r) [])):=e2
  rw[e1',zA]
  unfold Ak1
  rw[e2',zA]
  unfold Akn
  have hlen:=Aye b l r
  have hlen':(b.foldl (Aer r) (l.foldl (Aa4 r) [])).length=(ovL b l r).length:=(Nr (kf:=kvk) _).length_eq.symm
  rw[if_pos (by omega)]
  show cut (ovL b l r) 0 (if n<((ovL b l r).length:Int) then n else((ovL b l r).length:Int))=_
  split
  · rw[Abl (by omega) (by omega) (by omega)];simp
  · rw[Abl (by omega) (by omega) (by omega),yX (l:=ovL b l r) (by omega)];simp
end Go.Proofs.YtkblaobhhoebaaaGreat.Abs.bf
