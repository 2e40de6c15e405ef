/-
  What the library's functions compute.
-/
import Derived.Test.YtkblaobhhoebaaaGreatWS14
set_option linter.unusedVariables false
set_option linter.unusedSimpArgs false
namespace Go.Proofs.YtkblaobhhoebaaaGreat.Abs.bf
theorem Acd (a b:List UInt8):I4 a b=some (Gg a b):=rfl
def Af6 (r:Bg) (k:List UInt8):Bool:=decide (0≤Gg k r.Lo) && (r.Open || decide (Gg k r.Hi<0))
theorem Anx (r:Bg) (k:List UInt8):G8 r k=some (Af6 r k):=by
  unfold G8 Af6
  simp only [Acd,zA]
  cases decide (0≤Gg k r.Lo) <;> cases r.Open <;> simp
def Aro (r:Bg):Bool:=!r.Open && ((decide (r.Lo=[]) && decide (r.Hi=[0])) || decide (Gg r.Hi r.Lo≤0))
theorem A1m {α:Type} (a:List α):decide ((a.length:Int)=0)=decide (a=[]):=by
  rw [decide_eq_decide]
  cases a <;> simp
  omega
theorem empty_m (r:Bg):Hb r=some (Aro r):=by
  obtain ⟨lo,hi,o⟩:=r
  unfold Hb F1 Aro
  simp only [Acd,zA,A1m]
  cases o with
  | true=>rfl
  | false =>
    cases lo with
    | cons x xs=>simp
    | nil =>
      rcases hi with _ | ⟨x,_ | ⟨y,ys⟩⟩
      · simp
      · have e:(decide ((x.toBitVec.toNat:Int)=(0:Int)))=decide (x=0):=by
          rw [decide_eq_decide]
          constructor
          · intro h; exact UInt8.toNat_inj.1 (by have : x.toNat = 0 := by have h' : ((x.toNat : Nat) : Int) = 0 := h; omega
                                                 rw [this];rfl)
          · rintro rfl;rfl
        rw [show idx [x] 0=some x from rfl]
        simp only [zA,e]
        by_cases hx:x=0 <;> simp [hx]
      · have:((List.length (x::y::ys):Nat):Int)≠1:=by simp;omega
        simp [this]
        omega
theorem one_m (a:List UInt8) (h:a.length≤1000000):Py a=some ⟨a,a++[0],false⟩:=by
  unfold Py
  rw [Ul _ (by simp;omega) (by simp)]
  simp
abbrev Keys:=List (List UInt8)
def kat (xs:Keys) (k:List UInt8):Nat:=xs.findIdx (fun x=>decide (0≤Gg x k))
def hit (xs:Keys) (k:List UInt8):Bool:=xs[kat xs k]? == some k
theorem Alm (xs:Keys) (k:List UInt8):kat xs k≤xs.length:=List.findIdx_le_length
theorem Aq5 {xs:Keys} {k:List UInt8} {i:Nat} {x:List UInt8} (h:xs[i]? = some x) (h1:0≤Gg x k) (h2:∀ j y,j<i→xs[j]? = some y→Gg y k<0):kat xs k=i:=by
  obtain ⟨hi,rfl⟩:=zC.1 h
  unfold kat
  rw [List.findIdx_eq hi]
  refine ⟨by simpa using h1,fun j hj=>?_⟩
  have:=h2 j xs[j] hj (zB (by omega))
  rw [decide_eq_false_iff_not]
  omega
theorem Ah1 {xs:Keys} {k:List UInt8} (h:∀ j y,j<xs.length→xs[j]? = some y→Gg y k<0):kat xs k=xs.length:=by
  unfold kat
  rw [List.findIdx_eq_length]
  intro x hx
  obtain ⟨j,hj,rfl⟩:=yR hx
  have:=h j xs[j] hj (zB hj)
  rw [decide_eq_false_iff_not]
  omega
theorem Aid (xs:Keys) (k:List UInt8) (hn:xs.length≤1000000000000000000):K5 xs k=some ((kat xs k:Int),hit xs k):=by
  obtain ⟨v,hv,hr⟩:=Dh (f:=Eb xs k) (P:=fun s=>∃ i:Nat,s=(i:Int)∧i≤xs.length∧∀ j y,j<i→xs[j]? = some y→Gg y k<0) (μ:=fun s=>xs.length-s.toNat)
    (R:=fun v=>match v with | .inl r=>r=(kat xs k:Int)∧kat xs k<xs.length | .inr _=>kat xs k=xs.length) (by
    rintro _ ⟨i,rfl,h1,h2⟩
    unfold Eb D2
    by_cases hi:i<xs.length
    · have e:=zB hi
      rw [if_pos (decide_eq_true (by omega)),Bn,e]
      simp only [zA,Acd]
      by_cases hc:0≤Gg xs[i] k
      · right;right
        rw [if_pos (decide_eq_true hc)]
        have ea:=Aq5 e hc h2
        exact ⟨_,rfl,by rw [ea],by rw [ea];exact hi⟩
      · left
        rw [if_neg (by rw [decide_eq_true_eq];exact hc)]
        refine ⟨_,rfl,⟨i+1,by rw [Cb (by omega) (by omega)];rfl,hi,fun j y hj hy=>?_⟩,by rw [Cb (by omega) (by omega)];omega⟩
        rcases jU.1 hj with h | rfl
        · exact h2 j y h hy
        · rw [e] at hy;cases hy;omega
    · right;left
      rw [if_neg (by rw [decide_eq_true_eq];omega)]
      refine ⟨_,rfl,?_⟩
      have:i=xs.length:=by omega
      subst this
      exact Ah1 h2) fuel 0 ⟨0,rfl,zY _,fun j y hj=>absurd hj (zT _)⟩ (Ce (by show xs.length-0≤_;omega))
  unfold K5 H7
  rw [hv]
  simp only [zA]
  cases v with
  | inl r =>
    obtain ⟨rfl,hlt⟩:r=(kat xs k:Int)∧kat xs k<xs.length:=hr
    simp only [zA]
    rw [if_neg (by rw [decide_eq_true_eq];omega),Bn,zB hlt]
    simp only [zA,Fl]
    unfold hit
    rw [zB hlt]
    rfl
  | inr u =>
    have e:kat xs k=xs.length:=hr
    unfold F5
    simp only [zA]
    rw [if_pos (by decide)]
    unfold hit
    rw [e]
    simp
def ins (xs:Keys) (k:List UInt8):Keys:=if hit xs k then xs else xs.take (kat xs k)++k::xs.drop (kat xs k)
def part (xs:Keys) (k:List UInt8) (j:Nat):Keys:=if hit xs k=true∨j≤kat xs k then xs.take j else xs.take (kat xs k)++k::(xs.drop (kat xs k)).take (j-kat xs k)
theorem Aq7 {xs:Keys} {k:List UInt8} (h:hit xs k=true):kat xs k<xs.length:=by
  unfold hit at h
  have:=eq_of_beq h
  exact (zC.1 this).1
abbrev PW (xs:Keys):Prop:=xs.Pairwise (fun x y=>Gg x y<0)
theorem Aq3 {xs:Keys} {k x:List UInt8} (h:x ∈ xs.take (kat xs k)):Gg x k<0:=by
  obtain ⟨j,hj,rfl⟩:=yR h
  rw [zL] at hj
  rw [jB]
  have:=List.not_of_lt_findIdx (p:=fun x=>decide (0≤Gg x k)) (xs:=xs) (i:=j) (by have h':kat xs k=List.findIdx (fun x=>decide (0≤Gg x k)) xs:=rfl;omega)
  have h2:¬ 0≤Gg xs[j] k:=by simpa using this
  omega
theorem Aq6 {xs:Keys} {k:List UInt8} (h:kat xs k<xs.length):0≤Gg xs[kat xs k] k:=by
  have:=List.findIdx_getElem (p:=fun x=>decide (0≤Gg x k)) (xs:=xs) (w:=h)
  exact of_decide_eq_true this
theorem Ag0 {xs:Keys} {k:List UInt8} (h:hit xs k=true):k ∈ xs:=by
  unfold hit at h
  exact zI (eq_of_beq h)
theorem Ats {xs:Keys} {k:List UInt8} (hp:PW xs) (h:k ∈ xs):hit xs k=true:=by
  obtain ⟨j,hj,rfl⟩:=yR h
  have hle:kat xs xs[j]≤j:=by
    rcases zO j (kat xs xs[j]) with h1 | h1
    · have:=Aq3 (xs:=xs) (k:=xs[j]) (x:=xs[j]) (List.mem_take_iff_getElem.2 ⟨j,by omega,rfl⟩)
      rw [Px] at this
      omega
    · exact h1
  have hk:kat xs xs[j]<xs.length:=by omega
  unfold hit
  rw [zB hk]
  rcases zO (kat xs xs[j]) j with h1 | h1
  · have h2:=yK.1 hp _ _ hk hj h1
    have h3:=Aq6 hk
    omega
  · have e:kat xs xs[j]=j:=by omega
    simp only [e]
    simp
theorem Agm {xs:Keys} {k:List UInt8} (hp:PW xs):hit xs k=true ↔ k ∈ xs:=⟨Ag0,Ats hp⟩
theorem Aq2 {xs:Keys} {k:List UInt8} (hp:PW xs):PW (ins xs k):=by
  unfold ins
  by_cases h:hit xs k=true
  · rw [if_pos h];exact hp
  · rw [if_neg h]
    have hap:PW (xs.take (kat xs k)++xs.drop (kat xs k)):=by rw [xJ];exact hp
    obtain ⟨h1,h2,h3⟩:=wT.1 hap
    have hk:∀ y ∈ xs.drop (kat xs k),Gg k y<0:=by
      intro y hy
      have hlt:kat xs k<xs.length:=by
        rcases zO (kat xs k) xs.length with h' | h'
        · exact h'
        · rw [wW h'] at hy;cases hy
      have hge:=Aq6 hlt
      have hne:Gg xs[kat xs k] k≠0:=fun e=>h (by
        unfold hit
        rw [zB hlt,R0 e]
        simp)
      have hs:=Se k xs[kat xs k]
      have hlt2:Gg k xs[kat xs k]<0:=by omega
      rw [wY hlt] at hy h2
      rcases yM.1 hy with rfl | hy
      · exact hlt2
      · have:=(wH.1 h2).1 y hy
        exact (M8 (kP hlt2) (kP this)).2 (.inl hlt2)
    refine wT.2 ⟨h1,wH.2 ⟨hk,h2⟩,fun x hx y hy=>?_⟩
    rcases yM.1 hy with rfl | hy
    · exact Aq3 hx
    · exact h3 x hx y hy
theorem Zi {xs:Keys} (hp:PW xs) (hn:xs.length≤1000000000000000000):Ck xs=some true:=by
  obtain ⟨v,hv,hr⟩:=Dh (f:=Cl xs) (P:=fun s=>∃ i:Nat,s=(i:Int)∧1≤i) (μ:=fun s=>xs.length-s.toNat)
    (R:=fun v=>match v with | .inl r=>False | .inr _=>True) (by
    rintro _ ⟨i,rfl,h1⟩
    unfold Cl
    by_cases hi:i<xs.length
    · left
      rw [if_pos (decide_eq_true (by omega)),Cb (by omega) (by omega),show (i:Int)-1=((i-1:Nat):Int) from by omega,Bn,Bn,zB hi,zB (by omega)]
      simp only [zA,Acd]
      have:=yK.1 hp (i-1) i (by omega) hi (by omega)
      rw [if_neg (by rw [decide_eq_true_eq];omega)]
      exact ⟨_,rfl,⟨i+1,by rw [Cb (by omega) (by omega)];rfl,by omega⟩,by rw [Cb (by omega) (by omega)];omega⟩
    · right;left
      rw [if_neg (by rw [decide_eq_true_eq];omega)]
      exact ⟨_,rfl,trivial⟩) fuel 1 ⟨1,rfl,zN _⟩ (Ce (by show xs.length-1≤_;omega))
  unfold Ck
  rw [hv]
  cases v with
  | inl r=>exact hr.elim
  | inr u=>rfl
theorem idx_mem {α:Type} {xs:List α} {j:Int} {u:α} (h:idx xs j=some u):u ∈ xs:=zI (Gq h).2
def wk (x:Av):List UInt8:=x.Key
def swV (w:Av):Bool:=(Cw w).getD false
theorem Axz (w:Av):Cw w=some (swV w):=by
  have:∃ b,Cw w=some b:=by
    unfold Cw E1
    repeat' (first | exact ⟨_,rfl⟩ | split | dsimp only [Option.bind_some])
  obtain ⟨b,hb⟩:=this
  unfold swV
  rw [hb];rfl
structure Good (b:List Av):Prop where
  sw:∀ w ∈ b,swV w=true
  len:b.length≤16
  rise:Tk wk b
theorem Good.nil:Good []:=⟨fun w h=>(by simp at h),by decide,List.Pairwise.nil⟩
theorem Xw {α:Type} {kf:α→List UInt8} {l:List α}:PW (l.map kf) ↔ Tk kf l:=wK
theorem keysOf_m {b:List Av} (hb:b.length≤1000000):Ey ⟨b⟩=some (b.map wk):=by
  unfold Ey
  obtain ⟨v,hv,hr⟩:=C9 (f:=Gd ⟨b⟩) (P:=fun s=>∃ j:Nat,j≤b.length∧s=((j:Int),(b.take j).map wk)) (μ:=fun s=>b.length-s.1.toNat) (R:=fun v=>v=b.map wk) (by
    rintro _ ⟨j,hj,rfl⟩
    unfold Gd
    dsimp only
    rcases zO j b.length with hlt | hge
    · left
      rw [if_pos (decide_eq_true (by omega)),Bn,zB hlt,zA,if_pos (by rw [z8,zL,yE];omega),Cb (by omega) (by omega)]
      refine ⟨_,rfl,⟨j+1,hlt,?_⟩,by dsimp only;omega⟩
      rw [zM hlt,wE];rfl
    · right
      have e:j=b.length:=by omega
      subst e
      rw [if_neg (by rw [decide_eq_true_eq];omega)]
      exact ⟨_,rfl,by rw [yI]⟩) fuel (0,[]) ⟨0,zY _,by simp⟩ (Ce (by show b.length-0≤_;omega))
  rw [hv,hr];rfl
theorem sane_m {b:List Av} (h:Good b):Fg ⟨b⟩=some true:=by
  have hl:=h.len
  unfold Fg
  rw [Ann b (fun w=>!swV w) (fun _=>false) (Fv ⟨b⟩) (by omega) (fun i x hx=>by
    have hlt:=(zC.1 hx).1
    unfold Fv
    dsimp only
    rw [if_pos (decide_eq_true (by omega)),Bn,hx,zA,Axz,zA,Cb (by omega) (by omega)]
    cases swV x <;> rfl) (by
    unfold Fv
    dsimp only
    rw [if_neg (by rw [decide_eq_true_eq];omega)]),Ad1 (fun x hx=>by rw [h.sw x hx];rfl)]
  show Hy ⟨b⟩ ()=_
  unfold Hy
  dsimp only
  rw [if_pos (decide_eq_true (by omega)),keysOf_m (by omega),zA,Zi (Xw.2 h.rise) (by rw [z8];omega),zA]
def setR (b:List Av) (w:Av):List Av:=Adh wk (Sa wk b w)
theorem Amu {α:Type} {kf:α→List UInt8} {t:List α} (h:Pk kf t) (x:α):Pk kf (Sa kf t x):=by
  refine wH.2 ⟨fun y hy=>?_,h.sublist (jM ..)⟩
  have:=(yZ.1 hy).2
  intro e
  rw [e] at this
  simp at this
theorem Apy {α:Type} {kf:α→List UInt8} {t:List α} {x y:α}:y ∈ Sa kf t x ↔ y=x∨(y ∈ t∧kf y≠kf x):=by
  unfold Sa
  rw [yM,yZ]
  simp
theorem setR_mem {b:List Av} {w x:Av}:x ∈ setR b w ↔ x=w∨(x ∈ b∧wk x≠wk w):=Aqh.trans Apy
theorem Zt {b:List Av} (h:Tk wk b) (w:Av):Tk wk (setR b w):=Tn (Amu h.dist w)
theorem Ab9 {b:List Av} (h:Tk wk b) {k:List UInt8}:hit (b.map wk) k=true ↔ k ∈ b.map wk:=Agm (Xw.2 h)
theorem Aee {b:List Av} (h:Tk wk b) {w:Av} (hh:hit (b.map wk) (wk w)=true):b.set (kat (b.map wk) (wk w)) w=setR b w:=by
  have hk:(b.map wk)[kat (b.map wk) (wk w)]? = some (wk w):=by
    unfold hit at hh
    exact beq_iff_eq.1 hh
  obtain ⟨p1,_,p3⟩:=Acn (List.Perm.refl b) h.dist (x:=w) hk
  refine Ac2 ?_ (Zt h w) (p1.trans (L9 _).symm)
  have e:(b.set (kat (b.map wk) (wk w)) w).map wk=b.map wk:=(Acn (List.Perm.refl b) h.dist (x:=w) hk).2.1
  exact Xw.1 (by rw [e];exact Xw.2 h)
theorem Anc {b:List Av} (h:Tk wk b) {w:Av} (hh:hit (b.map wk) (wk w)=false):b.take (kat (b.map wk) (wk w))++w::b.drop (kat (b.map wk) (wk w))=setR b w:=by
  have hk:wk w ∉ b.map wk:=fun hm=>by rw [(Ab9 h).2 hm] at hh;cases hh
  have hp:(b.take (kat (b.map wk) (wk w))++w::b.drop (kat (b.map wk) (wk w))).Perm (w::b):=by
    refine List.perm_middle.trans ?_
    rw [xJ]
  have hf:Sa wk b w=w::b:=by unfold Sa;rw [Z2 hk]
  refine Ac2 ?_ (Zt h w) (hp.trans (by rw [← hf];exact (L9 _).symm))
  have hi:=Aq2 (k:=wk w) (Xw.2 h)
  unfold ins at hi
  rw [if_neg (by rw [hh];decide)] at hi
  refine Xw.1 ?_
  rw [wE,wF,List.map_take,List.map_drop]
  exact hi
theorem Ap2 {b:List Av} (h:Tk wk b) (w:Av):(setR b w).length=if hit (b.map wk) (wk w)=true then b.length else b.length+1:=by
  cases hh:hit (b.map wk) (wk w) with
  | true=>rw [← Aee h hh,if_pos rfl,xH]
  | false =>
    rw [← Anc h hh,if_neg (by decide),zH,yT,zL,yD]
    have:=Alm (b.map wk) (wk w)
    rw [z8] at this
    omega
theorem Auz {b:List Av} (h:Good b) {w:Av} (hw:swV w=true) (hr:wk w ∈ b.map wk∨b.length<16):Ec ⟨b⟩ w=some (⟨setR b w⟩,0)∧Good (setR b w):=by
  have hl:=h.len
  have hg:Good (setR b w):=by
    refine ⟨fun x hx=>?_,?_,Zt h.rise w⟩
    · rcases setR_mem.1 hx with rfl | ⟨hx,_⟩
      · exact hw
      · exact h.sw x hx
    · rw [Ap2 h.rise]
      split
      · exact hl
      · rename_i hn
        rcases hr with hr | hr
        · exact absurd ((Ab9 h.rise).2 hr) hn
        · omega
  refine ⟨?_,hg⟩
  unfold Ec
  rw [show (⟨(B2.mk b).L⟩:B2)=⟨b⟩ from rfl,sane_m h,zA,show (⟨w.Key,w.Val,w.Del⟩:Av)=w from rfl,Axz,zA,hw]
  unfold Kv
  rw [keysOf_m (by omega),zA,Aid _ _ (by rw [z8];omega),zA]
  dsimp only
  rw [P5 _ (by omega),zA]
  have hkl:=Alm (b.map wk) (wk w)
  rw [z8] at hkl
  rw [if_neg (by decide),if_neg (by decide)]
  cases hh:hit (b.map wk) w.Key with
  | true =>
    have hlt:=Aq7 hh
    rw [z8] at hlt
    rw [if_pos rfl,Bn,zB hlt,zA,zR]
    exact congrArg (fun l=>some (B2.mk l,(0:Int))) (Aee h.rise hh)
  | false =>
    have hlt:b.length<16:=by
      rcases hr with hr | hr
      · have:=(Ab9 h.rise).2 hr
        rw [show wk w=w.Key from rfl,hh] at this;cases this
      · exact hr
    rw [if_neg (by decide),if_neg (by rw [decide_eq_true_eq];omega)]
    unfold Om Aoe
    dsimp only
    rw [if_pos ⟨⟨xK _,by show ((kat (b.map wk) (wk w):Nat):Int)≤_;omega⟩,by omega⟩,zA,zR]
    exact congrArg (fun l=>some (B2.mk l,(0:Int))) (Anc h.rise hh)
theorem Asa {b:List Av} (h:Good b) {w:Av} (hn:¬ (swV w=true∧(wk w ∈ b.map wk∨b.length<16))):∃ e:Int,e≠0∧(swV w=true→e=8)∧Ec ⟨b⟩ w=some (⟨[]⟩,e):=by
  have hl:=h.len
  unfold Ec
  rw [show (⟨(B2.mk b).L⟩:B2)=⟨b⟩ from rfl,sane_m h,zA,show (⟨w.Key,w.Val,w.Del⟩:Av)=w from rfl,Axz,zA,if_neg (by decide)]
  cases hw:swV w with
  | false=>exact ⟨1,by decide,fun h=>(by cases h),rfl⟩
  | true =>
    have hn2:¬ (wk w ∈ b.map wk∨b.length<16):=fun h=>hn ⟨hw,h⟩
    have hh:hit (b.map wk) w.Key=false:=by
      cases hh:hit (b.map wk) w.Key with
      | false=>rfl
      | true=>exact absurd (.inl ((Ab9 h.rise).1 hh)) hn2
    unfold Kv
    rw [if_neg (by decide),keysOf_m (by omega),zA,Aid _ _ (by rw [z8];omega),zA]
    dsimp only
    rw [P5 _ (by omega),zA,hh,if_neg (by decide),if_pos (decide_eq_true (by omega))]
    exact ⟨8,by decide,fun _=>rfl,rfl⟩
theorem set_any {b:List Av} (h:Good b) (w:Av):(Ec ⟨b⟩ w=some (⟨setR b w⟩,0)∧Good (setR b w)∧swV w=true)∨∃ e:Int,e≠0∧Ec ⟨b⟩ w=some (⟨[]⟩,e):=by
  by_cases hc:swV w=true∧(wk w ∈ b.map wk∨b.length<16)
  · obtain ⟨h1,h2⟩:=Auz h hc.1 hc.2
    exact .inl ⟨h1,h2,hc.1⟩
  · obtain ⟨e,h1,_,h2⟩:=Asa h hc
    exact .inr ⟨e,h1,h2⟩
def kvw (w:Av):B3:=⟨w.Key,w.Val⟩
def Zb (r:Bg) (t:List B3) (x:B3):List B3:=if Af6 r x.Key then Sa kvk t x else t
def Ads (r:Bg) (t:List B3) (w:Av):List B3:=if w.Del then Ab4 kvk t w.Key else if Af6 r w.Key then Sa kvk t (kvw w) else t
def ovL (b:List Av) (l:List B3) (r:Bg):List B3:=Adh kvk (b.foldl (Ads r) (l.foldl (Zb r) []))
theorem Ae4 (r:Bg):∀ (l t:List B3),(l.foldl (Zb r) t).length≤t.length+l.length
  | [],t=>by simp
  | y::l,t=>by
    have:=Ae4 r l (Zb r t y)
    have h2:(Zb r t y).length≤t.length+1:=by
      unfold Zb Sa
      split
      · have:=xQ (fun z=>!(kvk z == kvk y)) t
        rw [yT];omega
      · omega
    rw [kZ,yT];omega
theorem Ae3 (r:Bg):∀ (b:List Av) (t:List B3),(b.foldl (Ads r) t).length≤t.length+b.length
  | [],t=>by simp
  | y::l,t=>by
    have:=Ae3 r l (Ads r t y)
    have h2:(Ads r t y).length≤t.length+1:=by
      unfold Ads Sa Ab4
      split
      · have:=xQ (fun z=>!(kvk z == y.Key)) t;omega
      · split
        · have:=xQ (fun z=>!(kvk z == kvk (kvw y))) t
          rw [yT];omega
        · omega
    rw [kZ,yT];omega
theorem Avy (b:List Av) (l:List B3) (r:Bg):(ovL b l r).length≤l.length+b.length:=by
  unfold ovL
  rw [(L9 _).length_eq]
  have h1:=Ae3 r b (l.foldl (Zb r) [])
  have h2:=Ae4 r l []
  simp at h2
  omega
theorem Arv {l:List B3} (h:Tk kvk l) (hl:l.length≤1000000):Fs l=some true:=by
  unfold Fs
  obtain ⟨v,hv,hr⟩:=C9 (f:=Dr l) (P:=fun s=>∃ j:Nat,j≤l.length∧s=((j:Int),(l.take j).map kvk)) (μ:=fun s=>l.length-s.1.toNat) (R:=fun v=>v=l.map kvk) (by
    rintro _ ⟨j,hj,rfl⟩
    unfold Dr
    dsimp only
    rcases zO j l.length with hlt | hge
    · left
      rw [if_pos (decide_eq_true (by omega)),Bn,zB hlt,zA,if_pos (by rw [z8,zL,yE];omega),Cb (by omega) (by omega)]
      refine ⟨_,rfl,⟨j+1,hlt,?_⟩,by dsimp only;omega⟩
      rw [zM hlt,wE];rfl
    · right
      have e:j=l.length:=by omega
      subst e
      rw [if_neg (by rw [decide_eq_true_eq];omega)]
      exact ⟨_,rfl,by rw [yI]⟩) fuel (0,[]) ⟨0,zY _,by simp⟩ (Ce (by show l.length-0≤_;omega))
  rw [hv,hr]
  show Dt _=_
  unfold Dt
  rw [Zi (wK.2 h) (by rw [z8];omega)]
  rfl
theorem over_m {b:List Av} {l:List B3} (r:Bg) {n:Int} (hb:Good b) (hl:Tk kvk l) (hn:l.length≤1000000) (h1:1≤n):Ga ⟨b⟩ l r n=some ((ovL b l r).take n.toNat):=by
  have hbl:=hb.len
  unfold Ga
  rw [sane_m hb,zA,if_neg (by decide),Arv hl hn,zA,if_neg (by decide),if_neg (by rw [decide_eq_true_eq];omega)]
  have e1:=Xz (f:=Z1 l r) (fun (t:List B3) (i:Nat)=>((i:Int),t)) l (Zb r) (fun t=>t) (by omega) (fun acc i x hx=>by
    have hlt:=(zC.1 hx).1
    unfold Z1
    dsimp only
    rw [if_pos (decide_eq_true (by omega)),Bn,hx,zA,Anx,zA,Cb (by omega) (by omega)]
    rfl) (fun acc=>by
    unfold Z1
    dsimp only
    rw [if_neg (by rw [decide_eq_true_eq];omega)]) []
  have e2:=Xz (f:=Z9 ⟨b⟩ r) (fun (t:List B3) (i:Nat)=>((i:Int),t)) b (Ads r) (fun t=>t) (by omega) (fun acc i x hx=>by
    have hlt:=(zC.1 hx).1
    unfold Z9 Ads
    dsimp only
    rw [if_pos (decide_eq_true (by omega)),Bn,hx,zA,Cb (by omega) (by omega)]
    cases hd:x.Del with
    | true=>rfl
    | false =>
      rw [if_neg (by decide),Anx,zA]
      rfl) (fun acc=>by
    unfold Z9
    dsimp only
    rw [if_neg (by rw [decide_eq_true_eq];omega)]) (l.foldl (Zb r) [])
  have e1':Ct (Z1 l r) fuel (0,[])=some (l.foldl (Zb r) []):=e1
  have e2':Ct (Z9 ⟨b⟩ r) fuel (0,l.foldl (Zb r) [])=some (b.foldl (Ads r) (l.foldl (Zb r) [])):=e2
  rw [e1',zA]
  unfold Air
  rw [e2',zA]
  unfold Aif
  have hlen:=Avy b l r
  have hlen':(b.foldl (Ads r) (l.foldl (Zb r) [])).length=(ovL b l r).length:=(L9 (kf:=kvk) _).length_eq.symm
  rw [if_pos (by omega)]
  show cut (ovL b l r) 0 (if n<((ovL b l r).length:Int) then n else ((ovL b l r).length:Int))=_
  split
  · rw [Aaq (by omega) (by omega) (by omega)];simp
  · rw [Aaq (by omega) (by omega) (by omega),y9 (l:=ovL b l r) (by omega)];simp
end Go.Proofs.YtkblaobhhoebaaaGreat.Abs.bf
