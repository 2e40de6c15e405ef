/-
  What the library's functions compute.
-/
import Derived.Test.YtkblaobhhoebaaaGreatLS14
set_option linter.unusedVariables false
set_option linter.unusedSimpArgs false
namespace Go.Proofs.YtkblaobhhoebaaaGreat.Abs.bf
theorem Acl (a b:List UInt8):Ij a b=some (Dp a b):=rfl
theorem An1 {a b:List UInt8} {i:Nat} {x y:UInt8} (ha:a[i]? = some x) (hb:b[i]? = some y):Dp (a.drop i) (b.drop i)=if x<y then -1 else if y<x then 1 else Dp (a.drop (i+1)) (b.drop (i+1)):=by
  obtain⟨h1,rfl⟩:=zB.1 ha
  obtain⟨h2,rfl⟩:=zB.1 hb
  rw[wD h1,wD h2]
  rfl
theorem W2 (x y:UInt8):((x.toBitVec.toNat:Int)<(y.toBitVec.toNat:Int))↔x<y:=by
  rw[xK,Int.ofNat_lt]
  rfl
def hasV (r:Ar) (k:List UInt8):Bool:=decide (0<=Dp k r.Lo)&&(r.Open||decide (Dp k r.Hi<0))
theorem Alo (r:Ar) (k:List UInt8):Gw r k=some (hasV r k):=by
  unfold Gw hasV
  simp only[Acl,zA]
  cases decide (0<=Dp k r.Lo) <;> cases r.Open <;> simp
def Ara (r:Ar):Bool:=!r.Open&&((decide (r.Lo=[])&&decide (r.Hi=[0]))||decide (Dp r.Hi r.Lo<=0))
theorem Azz {α:Type} (a:List α):decide ((a.length:Int)=0)=decide (a=[]):=by
  rw[decide_eq_decide]
  cases a <;> simp
  omega
theorem empty_m (r:Ar):Fs r=some (Ara r):=by
  obtain⟨lo,hi,o⟩:=r
  unfold Fs Eh Ara
  simp only[Acl,zA,Azz]
  cases o with
  | true=>rfl
  | false =>
    cases lo with
    | cons x xs=>simp
    | nil =>
      rcases hi with _|⟨x,_|⟨y,ys⟩⟩
      · simp
      · have e:(decide ((x.toBitVec.toNat:Int)=(0:Int)))=decide (x=0):=by
          rw[decide_eq_decide]
          constructor
          · intro h; exact UInt8.toNat_inj.1 (by have : x.toNat = 0 := by have h' : ((x.toNat : Nat) : Int) = 0 := h; omega
                                                 rw[this];rfl)
          · rintro rfl;rfl
        rw[show idx [x] 0=some x from rfl]
        simp only[zA,e]
        by_cases hx:x=0 <;> simp [hx]
      · have:((List.length (x::y::ys):Nat):Int)≠1:=by simp;omega
        simp [this]
        omega
theorem one_m (a:List UInt8) (h:a.length<=1000000):Rt a=some ⟨a,a++[0],false⟩:=by
  unfold Rt
  rw[Tv _ (by simp;omega) smp]
  simp
abbrev Keys:=List (List UInt8)
def kat (xs:Keys) (k:List UInt8):Nat:=xs.findIdx (λx=>decide (0<=Dp x k))
def hit (xs:Keys) (k:List UInt8):Bool:=xs[kat xs k]? == some k
theorem An4 (xs:Keys) (k:List UInt8):kat xs k<=xs.length:=List.findIdx_le_length
theorem Arn {xs:Keys} {k:List UInt8} {i:Nat} {x:List UInt8} (h:xs[i]? = some x) (h1:0<=Dp x k) (h2:∀ j y,j<i->xs[j]? = some y->Dp y k<0):kat xs k=i:=by
  obtain⟨hi,rfl⟩:=zB.1 h
  unfold kat
  rw[List.findIdx_eq hi]
  refine⟨by simpa using h1,λj hj=>?_⟩
  have:=h2 j xs[j] hj (zC omg)
  rw[decide_eq_false_iff_not]
  omega
theorem Ag8 {xs:Keys} {k:List UInt8} (h:∀ j y,j<xs.length->xs[j]? = some y->Dp y k<0):kat xs k=xs.length:=by
  unfold kat
  rw[List.findIdx_eq_length]
  intro x hx
  obtain⟨j,hj,rfl⟩:=yU hx
  have:=h j xs[j] hj (zC hj)
  rw[decide_eq_false_iff_not]
  omega
theorem Ag4 (xs:Keys) (k:List UInt8) (hn:xs.length<=1000000000000000000):Kr xs k=some ((kat xs k:Int),hit xs k):=by
  obtain⟨v,hv,hr⟩:=Cr (f:=En xs k) (P:=λs=>∃ i:Nat,s=(i:Int)/\i<=xs.length/\∀ j y,j<i->xs[j]? = some y->Dp y k<0) (μ:=λs=>xs.length-s.toNat)
    (R:=λv=>match v with | .inl r=>r=(kat xs k:Int)/\kat xs k<xs.length | .inr _=>kat xs k=xs.length) (by
    rintro _ ⟨i,rfl,h1,h2⟩
    unfold En Eb
    by_cases hi:i<xs.length
    · have e:=zC hi
      rw[ifo,A3,e]
      simp only[zA,Acl]
      by_cases hc:0<=Dp xs[i] k
      · right;right
        rw[ifp hc]
        have ea:=Arn e hc h2
        exact⟨_,rfl,by rw[ea],by rw[ea];exact hi⟩
      · left
        rw[ifn hc]
        refine⟨_,rfl,⟨i+1,by rw[wIo];rfl,hi,λj y hj hy=>?_⟩,by rw[wIo];omega⟩
        rcases j6.1 hj with h|rfl
        · exact h2 j y h hy
        · rw[e] at hy;cases hy;omega
    · right;left
      rw[ifq]
      refine⟨_,rfl,?_⟩
      have:i=xs.length:=by omega
      subst this
      exact Ag8 h2) fuel 0 ⟨0,rfl,zZ _,λj y hj=>absurd hj (zW _)⟩ (Bs (by show xs.length-0<=_;omega))
  unfold Kr I7
  rw[hv]
  simp only[zA]
  cases v with
  | inl r =>
    obtain⟨rfl,hlt⟩:r=(kat xs k:Int)/\kat xs k<xs.length:=hr
    simp only[zA]
    rw[ifq,A3,zC hlt]
    simp only[zA,Dz]
    unfold hit
    rw[zC hlt]
    rfl
  | inr u =>
    have e:kat xs k=xs.length:=hr
    unfold G9
    simp only[zA]
    rw[if_pos dcd]
    unfold hit
    rw[e]
    simp
def ins (xs:Keys) (k:List UInt8):Keys:=if hit xs k then xs else xs.take (kat xs k)++k::xs.drop (kat xs k)
def part (xs:Keys) (k:List UInt8) (j:Nat):Keys:=if hit xs k=true\/j<=kat xs k then xs.take j else xs.take (kat xs k)++k::(xs.drop (kat xs k)).take (j-kat xs k)
theorem Aqu {xs:Keys} {k:List UInt8} (h:hit xs k=true):kat xs k<xs.length:=by
  unfold hit at h
  have:=eq_of_beq h
  exact(zB.1 this).1
abbrev PW (xs:Keys):Prop:=xs.Pairwise (λx y=>Dp x y<0)
theorem Arf {xs:Keys} {k x:List UInt8} (h:x∈xs.take (kat xs k)):Dp x k<0:=by
  obtain⟨j,hj,rfl⟩:=yU h
  rw[zN] at hj
  rw[jQ]
  have:=List.not_of_lt_findIdx (p:=λx=>decide (0<=Dp x k)) (xs:=xs) (i:=j) (by have h':kat xs k=List.findIdx (λx=>decide (0<=Dp x k)) xs:=rfl;omega)
  have h2:¬ 0<=Dp xs[j] k:=by simpa using this
  omega
theorem Ari {xs:Keys} {k:List UInt8} (h:kat xs k<xs.length):0<=Dp xs[kat xs k] k:=by
  have:=List.findIdx_getElem (p:=λx=>decide (0<=Dp x k)) (xs:=xs) (w:=h)
  exact of_decide_eq_true this
theorem Af3 {xs:Keys} {k:List UInt8} (h:hit xs k=true):k∈xs:=by
  unfold hit at h
  exact zG (eq_of_beq h)
theorem Asr {xs:Keys} {k:List UInt8} (hp:PW xs) (h:k∈xs):hit xs k=true:=by
  obtain⟨j,hj,rfl⟩:=yU h
  have hle:kat xs xs[j]<=j:=by
    rcases zU j (kat xs xs[j]) with h1|h1
    · have:=Arf (xs:=xs) (k:=xs[j]) (x:=xs[j]) (List.mem_take_iff_getElem.2 ⟨j,by omega,rfl⟩)
      rw[cmpL_self] at this
      omega
    · exact h1
  have hk:kat xs xs[j]<xs.length:=by omega
  unfold hit
  rw[zC hk]
  rcases zU (kat xs xs[j]) j with h1|h1
  · have h2:=yN.1 hp _ _ hk hj h1
    have h3:=Ari hk
    omega
  · have e:kat xs xs[j]=j:=by omega
    simp only[e]
    simp
theorem Aga {xs:Keys} {k:List UInt8} (hp:PW xs):hit xs k=true↔k∈xs:=⟨Af3,Asr hp⟩
theorem Ary {xs:Keys} {k:List UInt8} (hp:PW xs):PW (ins xs k):=by
  unfold ins
  by_cases h:hit xs k=true
  · rw[if_pos h];exact hp
  · rw[if_neg h]
    have hap:PW (xs.take (kat xs k)++xs.drop (kat xs k)):=by rw[xI];exact hp
    obtain⟨h1,h2,h3⟩:=wN.1 hap
    have hk:∀ y∈xs.drop (kat xs k),Dp k y<0:=by
      intro y hy
      have hlt:kat xs k<xs.length:=by
        rcases zU (kat xs k) xs.length with h'|h'
        · exact h'
        · rw[w7 h'] at hy;cases hy
      have hge:=Ari hlt
      have hne:Dp xs[kat xs k] k≠0:=λe=>h (by
        unfold hit
        rw[zC hlt,Sm e]
        simp)
      have hs:=Sc k xs[kat xs k]
      have hlt2:Dp k xs[kat xs k]<0:=by omega
      rw[wD hlt] at hy h2
      rcases yM.1 hy with rfl|hy
      · exact hlt2
      · have:=(xP.1 h2).1 y hy
        exact(Ks (jA hlt2) (jA this)).2 (.inl hlt2)
    refine wN.2 ⟨h1,xP.2 ⟨hk,h2⟩,λx hx y hy=>?_⟩
    rcases yM.1 hy with rfl|hy
    · exact Arf hx
    · exact h3 x hx y hy
theorem Za {xs:Keys} (hp:PW xs) (hn:xs.length<=1000000000000000000):B6 xs=some true:=by
  obtain⟨v,hv,hr⟩:=Cr (f:=Ce xs) (P:=λs=>∃ i:Nat,s=(i:Int)/\1<=i) (μ:=λs=>xs.length-s.toNat)
    (R:=λv=>match v with | .inl r=>False | .inr _=>True) (by
    rintro _ ⟨i,rfl,h1⟩
    unfold Ce
    by_cases hi:i<xs.length
    · left
      rw[ifo,wIo,show(i:Int)-1=((i-1:Nat):Int) from by omega,A3,A3,zC hi,zC omg]
      simp only[zA,Acl]
      have:=yN.1 hp (i-1) i omg hi omg
      rw[ifq]
      exact⟨_,rfl,⟨i+1,by rw[wIo];rfl,by omega⟩,by rw[wIo];omega⟩
    · right;left
      rw[ifq]
      exact⟨_,rfl,trivial⟩) fuel 1 ⟨1,rfl,zO _⟩ (Bs (by show xs.length-1<=_;omega))
  unfold B6
  rw[hv]
  cases v with
  | inl r=>exact hr.elim
  | inr u=>rfl
theorem idx_mem {α:Type} {xs:List α} {j:Int} {u:α} (h:idx xs j=some u):u∈xs:=zG (Ft h).2
def wk (x:Ae):List UInt8:=x.Key
def swV (w:Ae):Bool:=(Ca w).getD false
theorem sw_m (w:Ae):Ca w=some (swV w):=by
  have:∃ b,Ca w=some b:=by
    unfold Ca Dr
    repeat' (first|exact⟨_,rfl⟩|split|dsimp only [Option.bind_some])
  obtain⟨b,hb⟩:=this
  unfold swV
  rw[hb];rfl
structure Good (b:List Ae):Prop where
  sw:∀ w∈b,swV w=true
  len:b.length<=16
  rise:Li wk b
theorem Good.nil:Good []:=⟨λw h=>(by simp at h),by decide,List.Pairwise.nil⟩
theorem Xx {α:Type} {kf:α->List UInt8} {l:List α}:PW (l.map kf)↔Li kf l:=wF
theorem keysOf_m {b:List Ae} (hb:b.length<=1000000):Dn ⟨b⟩=some (b.map wk):=by
  unfold Dn
  obtain⟨v,hv,hr⟩:=Cj (f:=G5 ⟨b⟩) (P:=λs=>∃ j:Nat,j<=b.length/\s=((j:Int),(b.take j).map wk)) (μ:=λs=>b.length-s.1.toNat) (R:=λv=>v=b.map wk) (by
    rintro _ ⟨j,hj,rfl⟩
    unfold G5
    dsimp only
    rcases zU j b.length with hlt|hge
    · left
      rw[ifo,A3,zC hlt,zA,if_pos (by rw[zY,zN,yD];omega),wIo]
      refine⟨_,rfl,⟨j+1,hlt,?_⟩,by dsimp only;omega⟩
      rw[zV hlt,xC];rfl
    · right
      have e:j=b.length:=by omega
      subst e
      rw[ifq]
      exact⟨_,rfl,by rw[yJ]⟩) fuel (0,[]) ⟨0,zZ _,by simp⟩ (Bs (by show b.length-0<=_;omega))
  rw[hv,hr];rfl
theorem sane_m {b:List Ae} (h:Good b):E8 ⟨b⟩=some true:=by
  have hl:=h.len
  unfold E8
  rw[Afv b (λw=>!swV w) (λ_=>false) (Gf ⟨b⟩) omg (λi x hx=>by
    have hlt:=(zB.1 hx).1
    unfold Gf
    dsimp only
    rw[ifo,A3,hx,zA,sw_m,zA,wIo]
    cases swV x <;> rfl) (by
    unfold Gf
    dsimp only
    rw[ifq]),Zs (λx hx=>by rw[h.sw x hx];rfl)]
  show Il ⟨b⟩ ()=_
  unfold Il
  dsimp only
  rw[ifo,keysOf_m omg,zA,Za (Xx.2 h.rise) (by rw[zY];omega),zA]
def setR (b:List Ae) (w:Ae):List Ae:=Acx wk (Sb wk b w)
theorem Z7 {α:Type} {kf:α->List UInt8} {t:List α} (h:Hz kf t) (x:α):Hz kf (Sb kf t x):=by
  refine xP.2 ⟨λy hy=>?_,h.sublist (jK ..)⟩
  have:=(yG.1 hy).2
  intro e
  rw[e] at this
  simp at this
theorem Anq {α:Type} {kf:α->List UInt8} {t:List α} (h:Hz kf t) (k:List UInt8):Hz kf (Yw kf t k):=h.sublist (jK ..)
theorem Ab8 {α:Type} {kf:α->List UInt8} {t:List α} {x y:α}:y∈Sb kf t x↔y=x\/(y∈t/\kf y≠kf x):=by
  unfold Sb
  rw[yM,yG]
  simp
theorem Aox {α:Type} {kf:α->List UInt8} {t:List α} {k:List UInt8} {y:α}:y∈Yw kf t k↔y∈t/\kf y≠k:=by
  unfold Yw
  rw[yG]
  simp
theorem setR_mem {b:List Ae} {w x:Ae}:x∈setR b w↔x=w\/(x∈b/\wk x≠wk w):=Ahp.trans Ab8
theorem Aar {b:List Ae} (h:Li wk b) (w:Ae):Li wk (setR b w):=Sn (Z7 h.dist w)
theorem Ab9 {b:List Ae} (h:Li wk b) {k:List UInt8}:hit (b.map wk) k=true↔k∈b.map wk:=Aga (Xx.2 h)
theorem Ad9 {b:List Ae} (h:Li wk b) {w:Ae} (hh:hit (b.map wk) (wk w)=true):b.set (kat (b.map wk) (wk w)) w=setR b w:=by
  have hk:(b.map wk)[kat (b.map wk) (wk w)]? = some (wk w):=by
    unfold hit at hh
    exact beq_iff_eq.1 hh
  obtain⟨p1,_,p3⟩:=Acf (List.Perm.refl b) h.dist (x:=w) hk
  refine Aap ?_ (Aar h w) (p1.trans (J6 _).symm)
  have e:(b.set (kat (b.map wk) (wk w)) w).map wk=b.map wk:=(Acf (List.Perm.refl b) h.dist (x:=w) hk).2.1
  exact Xx.1 (by rw[e];exact Xx.2 h)
theorem Anr {b:List Ae} (h:Li wk b) {w:Ae} (hh:hit (b.map wk) (wk w)=false):b.take (kat (b.map wk) (wk w))++w::b.drop (kat (b.map wk) (wk w))=setR b w:=by
  have hk:wk w∉b.map wk:=λhm=>by rw[(Ab9 h).2 hm] at hh;cases hh
  have hp:(b.take (kat (b.map wk) (wk w))++w::b.drop (kat (b.map wk) (wk w))).Perm (w::b):=by
    refine List.perm_middle.trans ?_
    rw[xI]
  have hf:Sb wk b w=w::b:=by unfold Sb;rw[Aak hk]
  refine Aap ?_ (Aar h w) (hp.trans (by rw[<- hf];exact(J6 _).symm))
  have hi:=Ary (k:=wk w) (Xx.2 h)
  unfold ins at hi
  rw[if_neg (by rw[hh];decide)] at hi
  refine Xx.1 ?_
  rw[xC,xO,List.map_take,List.map_drop]
  exact hi
theorem setR_len {b:List Ae} (h:Li wk b) (w:Ae):(setR b w).length=if hit (b.map wk) (wk w)=true then b.length else b.length+1:=by
  cases hh:hit (b.map wk) (wk w) with
  | true=>rw[<- Ad9 h hh,if_pos rfl,yS]
  | false =>
    rw[<- Anr h hh,if_neg dcd,zH,xD,zN,yB]
    have:=An4 (b.map wk) (wk w)
    rw[zY] at this
    omega
theorem Av7 {b:List Ae} (h:Good b) {w:Ae} (hw:swV w=true) (hr:wk w∈b.map wk\/b.length<16):Br ⟨b⟩ w=some (⟨setR b w⟩,0)/\Good (setR b w):=by
  have hl:=h.len
  have hg:Good (setR b w):=by
    refine⟨λx hx=>?_,?_,Aar h.rise w⟩
    · rcases setR_mem.1 hx with rfl|⟨hx,_⟩
      · exact hw
      · exact h.sw x hx
    · rw[setR_len h.rise]
      split
      · exact hl
      · rename_i hn
        rcases hr with hr|hr
        · exact absurd ((Ab9 h.rise).2 hr) hn
        · omega
  refine⟨?_,hg⟩
  unfold Br
  rw[show(⟨(Bf.mk b).L⟩:Bf)=⟨b⟩ from rfl,sane_m h,zA,show(⟨w.Key,w.Val,w.Del⟩:Ae)=w from rfl,sw_m,zA,hw]
  unfold K8
  rw[keysOf_m omg,zA,Ag4 _ _ (by rw[zY];omega),zA]
  dsimp only
  rw[P1 _ omg,zA]
  have hkl:=An4 (b.map wk) (wk w)
  rw[zY] at hkl
  rw[if_neg dcd,if_neg dcd]
  cases hh:hit (b.map wk) w.Key with
  | true =>
    have hlt:=Aqu hh
    rw[zY] at hlt
    rw[if_pos rfl,A3,zC hlt,zA,zT]
    exact congrArg (λl=>some (Bf.mk l,(0:Int))) (Ad9 h.rise hh)
  | false =>
    have hlt:b.length<16:=by
      rcases hr with hr|hr
      · have:=(Ab9 h.rise).2 hr
        rw[show wk w=w.Key from rfl,hh] at this;cases this
      · exact hr
    rw[if_neg dcd,ifq]
    unfold Mz An9
    dsimp only
    rw[if_pos ⟨⟨xV _,by show((kat (b.map wk) (wk w):Nat):Int)<=_;omega⟩,by omega⟩,zA,zT]
    exact congrArg (λl=>some (Bf.mk l,(0:Int))) (Anr h.rise hh)
theorem Ats {b:List Ae} (h:Good b) {w:Ae} (hn:¬ (swV w=true/\(wk w∈b.map wk\/b.length<16))):∃ e:Int,e≠0/\(swV w=true->e=8)/\Br ⟨b⟩ w=some (⟨[]⟩,e):=by
  have hl:=h.len
  unfold Br
  rw[show(⟨(Bf.mk b).L⟩:Bf)=⟨b⟩ from rfl,sane_m h,zA,show(⟨w.Key,w.Val,w.Del⟩:Ae)=w from rfl,sw_m,zA,if_neg dcd]
  cases hw:swV w with
  | false=>exact⟨1,by decide,λh=>(by cases h),rfl⟩
  | true =>
    have hn2:¬ (wk w∈b.map wk\/b.length<16):=λh=>hn ⟨hw,h⟩
    have hh:hit (b.map wk) w.Key=false:=by
      cases hh:hit (b.map wk) w.Key with
      | false=>rfl
      | true=>exact absurd (.inl ((Ab9 h.rise).1 hh)) hn2
    unfold K8
    rw[if_neg dcd,keysOf_m omg,zA,Ag4 _ _ (by rw[zY];omega),zA]
    dsimp only
    rw[P1 _ omg,zA,hh,if_neg dcd,ifo]
    exact⟨8,by decide,λ_=>rfl,rfl⟩
theorem set_any {b:List Ae} (h:Good b) (w:Ae):(Br ⟨b⟩ w=some (⟨setR b w⟩,0)/\Good (setR b w)/\swV w=true)\/∃ e:Int,e≠0/\Br ⟨b⟩ w=some (⟨[]⟩,e):=by
  by_cases hc:swV w=true/\(wk w∈b.map wk\/b.length<16)
  · obtain⟨h1,h2⟩:=Av7 h hc.1 hc.2
    exact .inl ⟨h1,h2,hc.1⟩
  · obtain⟨e,h1,_,h2⟩:=Ats h hc
    exact .inr ⟨e,h1,h2⟩
theorem get_some {α:Type} {kf:α->List UInt8} {b:List α} (h:Hz kf b) {w:α} (hw:w∈b):b.find? (λx=>kf x==kf w)=some w:=by
  induction b with
  | nil=>simp at hw
  | cons x b ih =>
    obtain⟨h1,h2⟩:=xP.1 h
    rcases yM.1 hw with rfl|hw
    · rw[kU];simp
    · rw[kU,show(kf x==kf w)=false from by simpa using h1 w hw]
      exact ih h2 hw
theorem get_none {α:Type} {kf:α->List UInt8} {b:List α} {k:List UInt8} (h:∀ w∈b,kf w≠k):b.find? (λx=>kf x==k)=none:=Zs λx hx=>by simpa using h x hx
def kvw (w:Ae):A5:=⟨w.Key,w.Val⟩
def Rz (r:Ar) (t:List A5) (x:A5):List A5:=if hasV r x.Key then Sb kvk t x else t
def Uc (r:Ar) (t:List A5) (w:Ae):List A5:=if w.Del then Yw kvk t w.Key else if hasV r w.Key then Sb kvk t (kvw w) else t
def ovL (b:List Ae) (l:List A5) (r:Ar):List A5:=Acx kvk (b.foldl (Uc r) (l.foldl (Rz r) []))
theorem Ad2 {r:Ar}:∀ {l t:List A5},Hz kvk l->(∀ x∈t,∀ y∈l,kvk x≠kvk y)->Hz kvk t->(∀ x,x∈l.foldl (Rz r) t↔x∈t\/(x∈l/\hasV r x.Key=true))/\Hz kvk (l.foldl (Rz r) t)
  | [],t,_,_,hd=>⟨λx=>by simp,hd⟩
  | y::l,t,h,hn,hd=>by
    obtain⟨h1,h2⟩:=xP.1 h
    rw[kO]
    have hs:(∀ x,x∈Rz r t y↔x∈t\/(x=y/\hasV r y.Key=true))/\Hz kvk (Rz r t y):=by
      unfold Rz
      cases hh:hasV r y.Key with
      | false=>exact⟨λx=>by simp,hd⟩
      | true =>
        rw[if_pos rfl]
        refine⟨λx=>?_,Z7 hd y⟩
        rw[Ab8]
        constructor
        · rintro(h|⟨h,_⟩)
          · exact .inr ⟨h,rfl⟩
          · exact .inl h
        · rintro(h|⟨h,_⟩)
          · exact .inr ⟨h,hn x h y (yR ..)⟩
          · exact .inl h
    obtain⟨i1,i2⟩:=Ad2 (r:=r) h2 (t:=Rz r t y) (λx hx z hz=>by
      rcases(hs.1 x).1 hx with h|⟨h,_⟩
      · exact hn x h z (yQ _ hz)
      · rw[h];exact h1 z hz) hs.2
    refine⟨λx=>?_,i2⟩
    rw[i1,hs.1,yM]
    constructor
    · rintro((h|⟨h,h'⟩)|⟨h,h'⟩)
      · exact .inl h
      · exact .inr ⟨.inl h,by rw[h];exact h'⟩
      · exact .inr ⟨.inr h,h'⟩
    · rintro(h|⟨h|h,h'⟩)
      · exact .inl (.inl h)
      · exact .inl (.inr ⟨h,by rw[<- h];exact h'⟩)
      · exact .inr ⟨h,h'⟩
theorem Ads {r:Ar}:∀ {b:List Ae} {t:List A5},Hz wk b->(∀ x∈t,hasV r x.Key=true)->Hz kvk t ->
    (∀ x,x∈b.foldl (Uc r) t↔(x∈t/\x.Key∉b.map wk)\/∃ w∈b,w.Del=false/\hasV r w.Key=true/\x=kvw w)/\Hz kvk (b.foldl (Uc r) t)
  | [],t,_,_,hd=>⟨λx=>by simp,hd⟩
  | y::b,t,h,hr,hd=>by
    obtain⟨h1,h2⟩:=xP.1 h
    rw[kO]
    have hs:(∀ x,x∈Uc r t y↔(x∈t/\x.Key≠y.Key)\/(y.Del=false/\hasV r y.Key=true/\x=kvw y))/\Hz kvk (Uc r t y):=by
      unfold Uc
      cases hdel:y.Del with
      | true =>
        rw[if_pos rfl]
        refine⟨λx=>?_,Anq hd _⟩
        rw[Aox]
        simp [kvk]
      | false =>
        rw[if_neg dcd]
        cases hh:hasV r y.Key with
        | false =>
          rw[if_neg dcd]
          refine⟨λx=>⟨λhx=>.inl ⟨hx,λe=>?_⟩,λhx=>?_⟩,hd⟩
          · have:=hr x hx;rw[e,hh] at this;cases this
          · rcases hx with⟨hx,_⟩|⟨_,hx,_⟩
            · exact hx
            · cases hx
        | true =>
          rw[if_pos rfl]
          refine⟨λx=>?_,Z7 hd _⟩
          rw[Ab8]
          constructor
          · rintro(h|h)
            · exact .inr ⟨rfl,rfl,h⟩
            · exact .inl h
          · rintro(h|⟨_,_,h⟩)
            · exact .inr h
            · exact .inl h
    obtain⟨i1,i2⟩:=Ads (r:=r) h2 (t:=Uc r t y) (λx hx=>by
      rcases(hs.1 x).1 hx with⟨h,_⟩|⟨_,h,e⟩
      · exact hr x h
      · rw[e];exact h) hs.2
    refine⟨λx=>?_,i2⟩
    rw[i1,hs.1,xO,yM]
    constructor
    · rintro(⟨⟨h,h'⟩|⟨hd',hr',e⟩,hb⟩|⟨w,hw,hx⟩)
      · exact .inl ⟨h,λe=>e.elim h' hb⟩
      · exact .inr ⟨y,yR ..,hd',hr',e⟩
      · exact .inr ⟨w,yQ _ hw,hx⟩
    · rintro(⟨h,hb⟩|⟨w,hw,hx⟩)
      · exact .inl ⟨.inl ⟨h,λe=>hb (.inl e)⟩,λe=>hb (.inr e)⟩
      · rcases yM.1 hw with rfl|hw
        · refine .inl ⟨.inr hx,λhm=>?_⟩
          obtain⟨z,hz,hk⟩:=z8.1 hm
          rw[hx.2.2] at hk
          exact h1 z hz hk.symm
        · exact .inr ⟨w,hw,hx⟩
theorem Akx {b:List Ae} {l:List A5} (r:Ar) (hb:Li wk b) (hl:Li kvk l) :
    (∀ x,x∈b.foldl (Uc r) (l.foldl (Rz r) [])↔(hasV r x.Key=true/\x∈l/\x.Key∉b.map wk)\/∃ w∈b,w.Del=false/\hasV r w.Key=true/\x=kvw w)/\Hz kvk (b.foldl (Uc r) (l.foldl (Rz r) [])):=by
  obtain⟨h1,h2⟩:=Ad2 (r:=r) (t:=[]) hl.dist (λx hx=>by simp at hx) List.Pairwise.nil
  obtain⟨h3,h4⟩:=Ads (r:=r) hb.dist (t:=l.foldl (Rz r) []) (λx hx=>by
    rcases(h1 x).1 hx with h|h
    · simp at h
    · exact h.2) h2
  refine⟨λx=>?_,h4⟩
  rw[h3,h1]
  simp only[List.not_mem_nil,false_or]
  constructor
  · rintro(⟨⟨a,b⟩,c⟩|h)
    · exact .inl ⟨b,a,c⟩
    · exact .inr h
  · rintro(⟨b,a,c⟩|h)
    · exact .inl ⟨⟨a,b⟩,c⟩
    · exact .inr h
theorem ov_mem {b:List Ae} {l:List A5} {r:Ar} (hb:Li wk b) (hl:Li kvk l) {x:A5} :
    x∈ovL b l r↔(hasV r x.Key=true/\x∈l/\x.Key∉b.map wk)\/∃ w∈b,w.Del=false/\hasV r w.Key=true/\x=kvw w:=Ahp.trans ((Akx r hb hl).1 x)
theorem ov_rise {b:List Ae} {l:List A5} (r:Ar) (hb:Li wk b) (hl:Li kvk l):Li kvk (ovL b l r):=Sn (Akx r hb hl).2
theorem Aem (r:Ar):∀ (l t:List A5),(l.foldl (Rz r) t).length<=t.length+l.length
  | [],t=>by simp
  | y::l,t=>by
    have:=Aem r l (Rz r t y)
    have h2:(Rz r t y).length<=t.length+1:=by
      unfold Rz Sb
      split
      · have:=wC (λz=>!(kvk z==kvk y)) t
        rw[xD];omega
      · omega
    rw[kO,xD];omega
theorem Adj (r:Ar):∀ (b:List Ae) (t:List A5),(b.foldl (Uc r) t).length<=t.length+b.length
  | [],t=>by simp
  | y::l,t=>by
    have:=Adj r l (Uc r t y)
    have h2:(Uc r t y).length<=t.length+1:=by
      unfold Uc Sb Yw
      split
      · have:=wC (λz=>!(kvk z==y.Key)) t;omega
      · split
        · have:=wC (λz=>!(kvk z==kvk (kvw y))) t
          rw[xD];omega
        · omega
    rw[kO,xD];omega
theorem ov_len (b:List Ae) (l:List A5) (r:Ar):(ovL b l r).length<=l.length+b.length:=by
  unfold ovL
  rw[(J6 _).length_eq]
  have h1:=Adj r b (l.foldl (Rz r) [])
  have h2:=Aem r l []
  simp at h2
  omega
theorem At2 {l:List A5} (h:Li kvk l) (hl:l.length<=1000000):Fx l=some true:=by
  unfold Fx
  obtain⟨v,hv,hr⟩:=Cj (f:=Dw l) (P:=λs=>∃ j:Nat,j<=l.length/\s=((j:Int),(l.take j).map kvk)) (μ:=λs=>l.length-s.1.toNat) (R:=λv=>v=l.map kvk) (by
    rintro _ ⟨j,hj,rfl⟩
    unfold Dw
    dsimp only
    rcases zU j l.length with hlt|hge
    · left
      rw[ifo,A3,zC hlt,zA,if_pos (by rw[zY,zN,yD];omega),wIo]
      refine⟨_,rfl,⟨j+1,hlt,?_⟩,by dsimp only;omega⟩
      rw[zV hlt,xC];rfl
    · right
      have e:j=l.length:=by omega
      subst e
      rw[ifq]
      exact⟨_,rfl,by rw[yJ]⟩) fuel (0,[]) ⟨0,zZ _,by simp⟩ (Bs (by show l.length-0<=_;omega))
  rw[hv,hr]
  show Dt _=_
  unfold Dt
  rw[Za (wF.2 h) (by rw[zY];omega)]
  rfl
theorem over_m {b:List Ae} {l:List A5} (r:Ar) {n:Int} (hb:Good b) (hl:Li kvk l) (hn:l.length<=1000000) (h1:1<=n):Cc ⟨b⟩ l r n=some ((ovL b l r).take n.toNat):=by
  have hbl:=hb.len
  unfold Cc
  rw[sane_m hb,zA,if_neg dcd,At2 hl hn,zA,if_neg dcd,ifq]
  have e1:=Uq (f:=Zw l r) (λ(t:List A5) (i:Nat)=>((i:Int),t)) l (Rz r) (λt=>t) omg (λacc i x hx=>by
    have hlt:=(zB.1 hx).1
    unfold Zw
    dsimp only
    rw[ifo,A3,hx,zA,Alo,zA,wIo]
    rfl) (λacc=>by
    unfold Zw
    dsimp only
    rw[ifq]) []
  have e2:=Uq (f:=Z0 ⟨b⟩ r) (λ(t:List A5) (i:Nat)=>((i:Int),t)) b (Uc r) (λt=>t) omg (λacc i x hx=>by
    have hlt:=(zB.1 hx).1
    unfold Z0 Uc
    dsimp only
    rw[ifo,A3,hx,zA,wIo]
    cases hd:x.Del with
    | true=>rfl
    | false =>
      rw[if_neg dcd,Alo,zA]
      rfl) (λacc=>by
    unfold Z0
    dsimp only
    rw[ifq]) (l.foldl (Rz r) [])
  have e1':B8 (Zw l r) fuel (0,[])=some (l.foldl (Rz r) []):=e1
  have e2':B8 (Z0 ⟨b⟩ r) fuel (0,l.foldl (Rz r) [])=some (b.foldl (Uc r) (l.foldl (Rz r) [])):=e2
  rw[e1',zA]
  unfold Ah8
  rw[e2',zA]
  unfold Aig
  have hlen:=ov_len b l r
  have hlen':(b.foldl (Uc r) (l.foldl (Rz r) [])).length=(ovL b l r).length:=(J6 (kf:=kvk) _).length_eq.symm
  rw[if_pos omg]
  show cut (ovL b l r) 0 (if n<((ovL b l r).length:Int) then n else((ovL b l r).length:Int))=_
  split
  · rw[Aaw omg omg omg];simp
  · rw[Aaw omg omg omg,yO (l:=ovL b l r) omg];simp
theorem key_small {b:List Ae} (h:Good b):∀ w∈b,w.Key.length<=1000:=λw hw=>by
  have h1:=h.sw w hw
  have h2:=sw_m w
  rw[h1] at h2
  unfold Ca Dr at h2
  by_cases hc:(w.Key.length:Int)<=16
  · omega
  · exfalso
    revert h2
    simp [hc]
    try split <;> simp
end Go.Proofs.YtkblaobhhoebaaaGreat.Abs.bf
