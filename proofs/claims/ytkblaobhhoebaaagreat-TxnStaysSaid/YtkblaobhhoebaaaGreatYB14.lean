/-
  What the library's functions compute.
-/
import Derived.Test.YtkblaobhhoebaaaGreatYS14
set_option linter.unusedVariables false
set_option linter.unusedSimpArgs false
namespace Go.Proofs.YtkblaobhhoebaaaGreat.Abs.bf
theorem Acl (a b:List UInt8):I3 a b=some (Gc a b):=rfl
def Afo (r:Bg) (k:List UInt8):Bool:=decide (0≤Gc k r.Lo) && (r.Open || decide (Gc k r.Hi<0))
theorem Als (r:Bg) (k:List UInt8):G4 r k=some (Afo r k):=by
  unfold G4 Afo
  simp only [Acl,zA]
  cases decide (0≤Gc k r.Lo) <;> cases r.Open <;> simp
def emptyV (r:Bg):Bool:=!r.Open && ((decide (r.Lo=[]) && decide (r.Hi=[0])) || decide (Gc r.Hi r.Lo≤0))
theorem A0f {α:Type} (a:List α):decide ((a.length:Int)=0)=decide (a=[]):=by
  rw [decide_eq_decide]
  cases a <;> simp
  omega
theorem empty_m (r:Bg):G5 r=some (emptyV r):=by
  obtain ⟨lo,hi,o⟩:=r
  unfold G5 Fl emptyV
  simp only [Acl,zA,A0f]
  cases o with
  | true=>rfl
  | false =>
    cases lo with
    | cons x xs=>simp
    | nil =>
      rcases hi with _ | ⟨x,_ | ⟨y,ys⟩⟩
      · simp
      · have e:(decide ((x.toBitVec.toNat:Int)=(0:Int)))=decide (x=0):=by
          rw [decide_eq_decide]
          constructor
          · intro h; exact UInt8.toNat_inj.1 (by have : x.toNat = 0 := by have h' : ((x.toNat : Nat) : Int) = 0 := h; omega
                                                 rw [this];rfl)
          · rintro rfl;rfl
        rw [show idx [x] 0=some x from rfl]
        simp only [zA,e]
        by_cases hx:x=0 <;> simp [hx]
      · have:((List.length (x::y::ys):Nat):Int)≠1:=by simp;omega
        simp [this]
        omega
theorem one_m (a:List UInt8) (h:a.length≤1000000):Pt a=some ⟨a,a++[0],false⟩:=by
  unfold Pt
  rw [T8 _ (by simp;omega) (by simp)]
  simp
abbrev Keys:=List (List UInt8)
def kat (xs:Keys) (k:List UInt8):Nat:=xs.findIdx (fun x=>decide (0≤Gc x k))
def hit (xs:Keys) (k:List UInt8):Bool:=xs[kat xs k]? == some k
theorem Am0 (xs:Keys) (k:List UInt8):kat xs k≤xs.length:=List.findIdx_le_length
theorem Aq3 {xs:Keys} {k:List UInt8} {i:Nat} {x:List UInt8} (h:xs[i]? = some x) (h1:0≤Gc x k) (h2:∀ j y,j<i→xs[j]? = some y→Gc y k<0):kat xs k=i:=by
  obtain ⟨hi,rfl⟩:=zC.1 h
  unfold kat
  rw [List.findIdx_eq hi]
  refine ⟨by simpa using h1,fun j hj=>?_⟩
  have:=h2 j xs[j] hj (zB (by omega))
  rw [decide_eq_false_iff_not]
  omega
theorem Ah2 {xs:Keys} {k:List UInt8} (h:∀ j y,j<xs.length→xs[j]? = some y→Gc y k<0):kat xs k=xs.length:=by
  unfold kat
  rw [List.findIdx_eq_length]
  intro x hx
  obtain ⟨j,hj,rfl⟩:=yU hx
  have:=h j xs[j] hj (zB hj)
  rw [decide_eq_false_iff_not]
  omega
theorem Ajb (xs:Keys) (k:List UInt8) (hn:xs.length≤1000000000000000000):K8 xs k=some ((kat xs k:Int),hit xs k):=by
  obtain ⟨v,hv,hr⟩:=Dt (f:=Eh xs k) (P:=fun s=>∃ i:Nat,s=(i:Int)∧i≤xs.length∧∀ j y,j<i→xs[j]? = some y→Gc y k<0) (μ:=fun s=>xs.length-s.toNat)
    (R:=fun v=>match v with | .inl r=>r=(kat xs k:Int)∧kat xs k<xs.length | .inr _=>kat xs k=xs.length) (by
    rintro _ ⟨i,rfl,h1,h2⟩
    unfold Eh D7
    by_cases hi:i<xs.length
    · have e:=zB hi
      rw [if_pos (decide_eq_true (by omega)),Bp,e]
      simp only [zA,Acl]
      by_cases hc:0≤Gc xs[i] k
      · right;right
        rw [if_pos (decide_eq_true hc)]
        have ea:=Aq3 e hc h2
        exact ⟨_,rfl,by rw [ea],by rw [ea];exact hi⟩
      · left
        rw [if_neg (by rw [decide_eq_true_eq];exact hc)]
        refine ⟨_,rfl,⟨i+1,by rw [Cd (by omega) (by omega)];rfl,hi,fun j y hj hy=>?_⟩,by rw [Cd (by omega) (by omega)];omega⟩
        rcases jP.1 hj with h | rfl
        · exact h2 j y h hy
        · rw [e] at hy;cases hy;omega
    · right;left
      rw [if_neg (by rw [decide_eq_true_eq];omega)]
      refine ⟨_,rfl,?_⟩
      have:i=xs.length:=by omega
      subst this
      exact Ah2 h2) fuel 0 ⟨0,rfl,zX _,fun j y hj=>absurd hj (zS _)⟩ (Ci (by show xs.length-0≤_;omega))
  unfold K8 Hu
  rw [hv]
  simp only [zA]
  cases v with
  | inl r =>
    obtain ⟨rfl,hlt⟩:r=(kat xs k:Int)∧kat xs k<xs.length:=hr
    simp only [zA]
    rw [if_neg (by rw [decide_eq_true_eq];omega),Bp,zB hlt]
    simp only [zA,Ff]
    unfold hit
    rw [zB hlt]
    rfl
  | inr u =>
    have e:kat xs k=xs.length:=hr
    unfold F4
    simp only [zA]
    rw [if_pos (by decide)]
    unfold hit
    rw [e]
    simp
def ins (xs:Keys) (k:List UInt8):Keys:=if hit xs k then xs else xs.take (kat xs k)++k::xs.drop (kat xs k)
def part (xs:Keys) (k:List UInt8) (j:Nat):Keys:=if hit xs k=true∨j≤kat xs k then xs.take j else xs.take (kat xs k)++k::(xs.drop (kat xs k)).take (j-kat xs k)
theorem Aqw {xs:Keys} {k:List UInt8} (h:hit xs k=true):kat xs k<xs.length:=by
  unfold hit at h
  have:=eq_of_beq h
  exact (zC.1 this).1
abbrev PW (xs:Keys):Prop:=xs.Pairwise (fun x y=>Gc x y<0)
theorem Aqy {xs:Keys} {k x:List UInt8} (h:x ∈ xs.take (kat xs k)):Gc x k<0:=by
  obtain ⟨j,hj,rfl⟩:=yU h
  rw [zL] at hj
  rw [kY]
  have:=List.not_of_lt_findIdx (p:=fun x=>decide (0≤Gc x k)) (xs:=xs) (i:=j) (by have h':kat xs k=List.findIdx (fun x=>decide (0≤Gc x k)) xs:=rfl;omega)
  have h2:¬ 0≤Gc xs[j] k:=by simpa using this
  omega
theorem Aqr {xs:Keys} {k:List UInt8} (h:kat xs k<xs.length):0≤Gc xs[kat xs k] k:=by
  have:=List.findIdx_getElem (p:=fun x=>decide (0≤Gc x k)) (xs:=xs) (w:=h)
  exact of_decide_eq_true this
theorem Agm {xs:Keys} {k:List UInt8} (h:hit xs k=true):k ∈ xs:=by
  unfold hit at h
  exact zI (eq_of_beq h)
theorem As2 {xs:Keys} {k:List UInt8} (hp:PW xs) (h:k ∈ xs):hit xs k=true:=by
  obtain ⟨j,hj,rfl⟩:=yU h
  have hle:kat xs xs[j]≤j:=by
    rcases zP j (kat xs xs[j]) with h1 | h1
    · have:=Aqy (xs:=xs) (k:=xs[j]) (x:=xs[j]) (List.mem_take_iff_getElem.2 ⟨j,by omega,rfl⟩)
      rw [Pp] at this
      omega
    · exact h1
  have hk:kat xs xs[j]<xs.length:=by omega
  unfold hit
  rw [zB hk]
  rcases zP (kat xs xs[j]) j with h1 | h1
  · have h2:=yK.1 hp _ _ hk hj h1
    have h3:=Aqr hk
    omega
  · have e:kat xs xs[j]=j:=by omega
    simp only [e]
    simp
theorem Ag0 {xs:Keys} {k:List UInt8} (hp:PW xs):hit xs k=true ↔ k ∈ xs:=⟨Agm,As2 hp⟩
theorem Arl {xs:Keys} {k:List UInt8} (hp:PW xs):PW (ins xs k):=by
  unfold ins
  by_cases h:hit xs k=true
  · rw [if_pos h];exact hp
  · rw [if_neg h]
    have hap:PW (xs.take (kat xs k)++xs.drop (kat xs k)):=by rw [xL];exact hp
    obtain ⟨h1,h2,h3⟩:=wR.1 hap
    have hk:∀ y ∈ xs.drop (kat xs k),Gc k y<0:=by
      intro y hy
      have hlt:kat xs k<xs.length:=by
        rcases zP (kat xs k) xs.length with h' | h'
        · exact h'
        · rw [wU h'] at hy;cases hy
      have hge:=Aqr hlt
      have hne:Gc xs[kat xs k] k≠0:=fun e=>h (by
        unfold hit
        rw [zB hlt,R2 e]
        simp)
      have hs:=cmpL_swap k xs[kat xs k]
      have hlt2:Gc k xs[kat xs k]<0:=by omega
      rw [wX hlt] at hy h2
      rcases yN.1 hy with rfl | hy
      · exact hlt2
      · have:=(wK.1 h2).1 y hy
        exact (My (kO hlt2) (kO this)).2 (.inl hlt2)
    refine wR.2 ⟨h1,wK.2 ⟨hk,h2⟩,fun x hx y hy=>?_⟩
    rcases yN.1 hy with rfl | hy
    · exact Aqy hx
    · exact h3 x hx y hy
theorem Y7 {xs:Keys} (hp:PW xs) (hn:xs.length≤1000000000000000000):Cm xs=some true:=by
  obtain ⟨v,hv,hr⟩:=Dt (f:=Co xs) (P:=fun s=>∃ i:Nat,s=(i:Int)∧1≤i) (μ:=fun s=>xs.length-s.toNat)
    (R:=fun v=>match v with | .inl r=>False | .inr _=>True) (by
    rintro _ ⟨i,rfl,h1⟩
    unfold Co
    by_cases hi:i<xs.length
    · left
      rw [if_pos (decide_eq_true (by omega)),Cd (by omega) (by omega),show (i:Int)-1=((i-1:Nat):Int) from by omega,Bp,Bp,zB hi,zB (by omega)]
      simp only [zA,Acl]
      have:=yK.1 hp (i-1) i (by omega) hi (by omega)
      rw [if_neg (by rw [decide_eq_true_eq];omega)]
      exact ⟨_,rfl,⟨i+1,by rw [Cd (by omega) (by omega)];rfl,by omega⟩,by rw [Cd (by omega) (by omega)];omega⟩
    · right;left
      rw [if_neg (by rw [decide_eq_true_eq];omega)]
      exact ⟨_,rfl,trivial⟩) fuel 1 ⟨1,rfl,zN _⟩ (Ci (by show xs.length-1≤_;omega))
  unfold Cm
  rw [hv]
  cases v with
  | inl r=>exact hr.elim
  | inr u=>rfl
theorem idx_mem {α:Type} {xs:List α} {j:Int} {u:α} (h:idx xs j=some u):u ∈ xs:=zI (Iv h).2
def wk (x:A6):List UInt8:=x.Key
def swV (w:A6):Bool:=(C0 w).getD false
theorem Ay5 (w:A6):C0 w=some (swV w):=by
  have:∃ b,C0 w=some b:=by
    unfold C0 Ez
    repeat' (first | exact ⟨_,rfl⟩ | split | dsimp only [Option.bind_some])
  obtain ⟨b,hb⟩:=this
  unfold swV
  rw [hb];rfl
structure Good (b:List A6):Prop where
  sw:∀ w ∈ b,swV w=true
  len:b.length≤16
  rise:Tb wk b
theorem Good.nil:Good []:=⟨fun w h=>(by simp at h),by decide,List.Pairwise.nil⟩
theorem Xx {α:Type} {kf:α→List UInt8} {l:List α}:PW (l.map kf) ↔ Tb kf l:=wH
theorem keysOf_m {b:List A6} (hb:b.length≤1000000):E4 ⟨b⟩=some (b.map wk):=by
  unfold E4
  obtain ⟨v,hv,hr⟩:=Di (f:=Ga ⟨b⟩) (P:=fun s=>∃ j:Nat,j≤b.length∧s=((j:Int),(b.take j).map wk)) (μ:=fun s=>b.length-s.1.toNat) (R:=fun v=>v=b.map wk) (by
    rintro _ ⟨j,hj,rfl⟩
    unfold Ga
    dsimp only
    rcases zP j b.length with hlt | hge
    · left
      rw [if_pos (decide_eq_true (by omega)),Bp,zB hlt,zA,if_pos (by rw [z6,zL,yE];omega),Cd (by omega) (by omega)]
      refine ⟨_,rfl,⟨j+1,hlt,?_⟩,by dsimp only;omega⟩
      rw [zM hlt,wA];rfl
    · right
      have e:j=b.length:=by omega
      subst e
      rw [if_neg (by rw [decide_eq_true_eq];omega)]
      exact ⟨_,rfl,by rw [yI]⟩) fuel (0,[]) ⟨0,zX _,by simp⟩ (Ci (by show b.length-0≤_;omega))
  rw [hv,hr];rfl
theorem sane_m {b:List A6} (h:Good b):Fg ⟨b⟩=some true:=by
  have hl:=h.len
  unfold Fg
  rw [Aln b (fun w=>!swV w) (fun _=>false) (F1 ⟨b⟩) (by omega) (fun i x hx=>by
    have hlt:=(zC.1 hx).1
    unfold F1
    dsimp only
    rw [if_pos (decide_eq_true (by omega)),Bp,hx,zA,Ay5,zA,Cd (by omega) (by omega)]
    cases swV x <;> rfl) (by
    unfold F1
    dsimp only
    rw [if_neg (by rw [decide_eq_true_eq];omega)]),Ad6 (fun x hx=>by rw [h.sw x hx];rfl)]
  show Hr ⟨b⟩ ()=_
  unfold Hr
  dsimp only
  rw [if_pos (decide_eq_true (by omega)),keysOf_m (by omega),zA,Y7 (Xx.2 h.rise) (by rw [z6];omega),zA]
def setR (b:List A6) (w:A6):List A6:=Ab0 wk (Rw wk b w)
theorem Akw {α:Type} {kf:α→List UInt8} {t:List α} (h:O4 kf t) (x:α):O4 kf (Rw kf t x):=by
  refine wK.2 ⟨fun y hy=>?_,h.sublist (jH ..)⟩
  have:=(yQ.1 hy).2
  intro e
  rw [e] at this
  simp at this
theorem Apd {α:Type} {kf:α→List UInt8} {t:List α} {x y:α}:y ∈ Rw kf t x ↔ y=x∨(y ∈ t∧kf y≠kf x):=by
  unfold Rw
  rw [yN,yQ]
  simp
theorem Apn {b:List A6} {w x:A6}:x ∈ setR b w ↔ x=w∨(x ∈ b∧wk x≠wk w):=Aop.trans Apd
theorem Aaa {b:List A6} (h:Tb wk b) (w:A6):Tb wk (setR b w):=To (Akw h.dist w)
theorem Ab3 {b:List A6} (h:Tb wk b) {k:List UInt8}:hit (b.map wk) k=true ↔ k ∈ b.map wk:=Ag0 (Xx.2 h)
theorem Afh {b:List A6} (h:Tb wk b) {w:A6} (hh:hit (b.map wk) (wk w)=true):b.set (kat (b.map wk) (wk w)) w=setR b w:=by
  have hk:(b.map wk)[kat (b.map wk) (wk w)]? = some (wk w):=by
    unfold hit at hh
    exact beq_iff_eq.1 hh
  obtain ⟨p1,_,p3⟩:=Aby (List.Perm.refl b) h.dist (x:=w) hk
  refine Acp ?_ (Aaa h w) (p1.trans (Mr _).symm)
  have e:(b.set (kat (b.map wk) (wk w)) w).map wk=b.map wk:=(Aby (List.Perm.refl b) h.dist (x:=w) hk).2.1
  exact Xx.1 (by rw [e];exact Xx.2 h)
theorem Ak9 {b:List A6} (h:Tb wk b) {w:A6} (hh:hit (b.map wk) (wk w)=false):b.take (kat (b.map wk) (wk w))++w::b.drop (kat (b.map wk) (wk w))=setR b w:=by
  have hk:wk w ∉ b.map wk:=fun hm=>by rw [(Ab3 h).2 hm] at hh;cases hh
  have hp:(b.take (kat (b.map wk) (wk w))++w::b.drop (kat (b.map wk) (wk w))).Perm (w::b):=by
    refine List.perm_middle.trans ?_
    rw [xL]
  have hf:Rw wk b w=w::b:=by unfold Rw;rw [Zq hk]
  refine Acp ?_ (Aaa h w) (hp.trans (by rw [← hf];exact (Mr _).symm))
  have hi:=Arl (k:=wk w) (Xx.2 h)
  unfold ins at hi
  rw [if_neg (by rw [hh];decide)] at hi
  refine Xx.1 ?_
  rw [wA,wB,List.map_take,List.map_drop]
  exact hi
theorem Aou {b:List A6} (h:Tb wk b) (w:A6):(setR b w).length=if hit (b.map wk) (wk w)=true then b.length else b.length+1:=by
  cases hh:hit (b.map wk) (wk w) with
  | true=>rw [← Afh h hh,if_pos rfl,xJ]
  | false =>
    rw [← Ak9 h hh,if_neg (by decide),zG,y9,zL,yB]
    have:=Am0 (b.map wk) (wk w)
    rw [z6] at this
    omega
theorem Avt {b:List A6} (h:Good b) {w:A6} (hw:swV w=true) (hr:wk w ∈ b.map wk∨b.length<16):Eg ⟨b⟩ w=some (⟨setR b w⟩,0)∧Good (setR b w):=by
  have hl:=h.len
  have hg:Good (setR b w):=by
    refine ⟨fun x hx=>?_,?_,Aaa h.rise w⟩
    · rcases Apn.1 hx with rfl | ⟨hx,_⟩
      · exact hw
      · exact h.sw x hx
    · rw [Aou h.rise]
      split
      · exact hl
      · rename_i hn
        rcases hr with hr | hr
        · exact absurd ((Ab3 h.rise).2 hr) hn
        · omega
  refine ⟨?_,hg⟩
  unfold Eg
  rw [show (⟨(B3.mk b).L⟩:B3)=⟨b⟩ from rfl,sane_m h,zA,show (⟨w.Key,w.Val,w.Del⟩:A6)=w from rfl,Ay5,zA,hw]
  unfold J3
  rw [keysOf_m (by omega),zA,Ajb _ _ (by rw [z6];omega),zA]
  dsimp only
  rw [P9 _ (by omega),zA]
  have hkl:=Am0 (b.map wk) (wk w)
  rw [z6] at hkl
  rw [if_neg (by decide),if_neg (by decide)]
  cases hh:hit (b.map wk) w.Key with
  | true =>
    have hlt:=Aqw hh
    rw [z6] at hlt
    rw [if_pos rfl,Bp,zB hlt,zA,zW]
    exact congrArg (fun l=>some (B3.mk l,(0:Int))) (Afh h.rise hh)
  | false =>
    have hlt:b.length<16:=by
      rcases hr with hr | hr
      · have:=(Ab3 h.rise).2 hr
        rw [show wk w=w.Key from rfl,hh] at this;cases this
      · exact hr
    rw [if_neg (by decide),if_neg (by rw [decide_eq_true_eq];omega)]
    unfold Oa An5
    dsimp only
    rw [if_pos ⟨⟨xM _,by show ((kat (b.map wk) (wk w):Nat):Int)≤_;omega⟩,by omega⟩,zA,zW]
    exact congrArg (fun l=>some (B3.mk l,(0:Int))) (Ak9 h.rise hh)
theorem Ass {b:List A6} (h:Good b) {w:A6} (hn:¬ (swV w=true∧(wk w ∈ b.map wk∨b.length<16))):∃ e:Int,e≠0∧(swV w=true→e=8)∧Eg ⟨b⟩ w=some (⟨[]⟩,e):=by
  have hl:=h.len
  unfold Eg
  rw [show (⟨(B3.mk b).L⟩:B3)=⟨b⟩ from rfl,sane_m h,zA,show (⟨w.Key,w.Val,w.Del⟩:A6)=w from rfl,Ay5,zA,if_neg (by decide)]
  cases hw:swV w with
  | false=>exact ⟨1,by decide,fun h=>(by cases h),rfl⟩
  | true =>
    have hn2:¬ (wk w ∈ b.map wk∨b.length<16):=fun h=>hn ⟨hw,h⟩
    have hh:hit (b.map wk) w.Key=false:=by
      cases hh:hit (b.map wk) w.Key with
      | false=>rfl
      | true=>exact absurd (.inl ((Ab3 h.rise).1 hh)) hn2
    unfold J3
    rw [if_neg (by decide),keysOf_m (by omega),zA,Ajb _ _ (by rw [z6];omega),zA]
    dsimp only
    rw [P9 _ (by omega),zA,hh,if_neg (by decide),if_pos (decide_eq_true (by omega))]
    exact ⟨8,by decide,fun _=>rfl,rfl⟩
theorem set_any {b:List A6} (h:Good b) (w:A6):(Eg ⟨b⟩ w=some (⟨setR b w⟩,0)∧Good (setR b w)∧swV w=true)∨∃ e:Int,e≠0∧Eg ⟨b⟩ w=some (⟨[]⟩,e):=by
  by_cases hc:swV w=true∧(wk w ∈ b.map wk∨b.length<16)
  · obtain ⟨h1,h2⟩:=Avt h hc.1 hc.2
    exact .inl ⟨h1,h2,hc.1⟩
  · obtain ⟨e,h1,_,h2⟩:=Ass h hc
    exact .inr ⟨e,h1,h2⟩
def kvw (w:A6):B7:=⟨w.Key,w.Val⟩
def Yo (r:Bg) (t:List B7) (x:B7):List B7:=if Afo r x.Key then Rw kvk t x else t
def Abv (r:Bg) (t:List B7) (w:A6):List B7:=if w.Del then Ach kvk t w.Key else if Afo r w.Key then Rw kvk t (kvw w) else t
def ovL (b:List A6) (l:List B7) (r:Bg):List B7:=Ab0 kvk (b.foldl (Abv r) (l.foldl (Yo r) []))
theorem Aeq (r:Bg):∀ (l t:List B7),(l.foldl (Yo r) t).length≤t.length+l.length
  | [],t=>by simp
  | y::l,t=>by
    have:=Aeq r l (Yo r t y)
    have h2:(Yo r t y).length≤t.length+1:=by
      unfold Yo Rw
      split
      · have:=xS (fun z=>!(kvk z == kvk y)) t
        rw [y9];omega
      · omega
    rw [kX,y9];omega
theorem Adl (r:Bg):∀ (b:List A6) (t:List B7),(b.foldl (Abv r) t).length≤t.length+b.length
  | [],t=>by simp
  | y::l,t=>by
    have:=Adl r l (Abv r t y)
    have h2:(Abv r t y).length≤t.length+1:=by
      unfold Abv Rw Ach
      split
      · have:=xS (fun z=>!(kvk z == y.Key)) t;omega
      · split
        · have:=xS (fun z=>!(kvk z == kvk (kvw y))) t
          rw [y9];omega
        · omega
    rw [kX,y9];omega
theorem Avl (b:List A6) (l:List B7) (r:Bg):(ovL b l r).length≤l.length+b.length:=by
  unfold ovL
  rw [(Mr _).length_eq]
  have h1:=Adl r b (l.foldl (Yo r) [])
  have h2:=Aeq r l []
  simp at h2
  omega
theorem Ats {l:List B7} (h:Tb kvk l) (hl:l.length≤1000000):Fs l=some true:=by
  unfold Fs
  obtain ⟨v,hv,hr⟩:=Di (f:=Dx l) (P:=fun s=>∃ j:Nat,j≤l.length∧s=((j:Int),(l.take j).map kvk)) (μ:=fun s=>l.length-s.1.toNat) (R:=fun v=>v=l.map kvk) (by
    rintro _ ⟨j,hj,rfl⟩
    unfold Dx
    dsimp only
    rcases zP j l.length with hlt | hge
    · left
      rw [if_pos (decide_eq_true (by omega)),Bp,zB hlt,zA,if_pos (by rw [z6,zL,yE];omega),Cd (by omega) (by omega)]
      refine ⟨_,rfl,⟨j+1,hlt,?_⟩,by dsimp only;omega⟩
      rw [zM hlt,wA];rfl
    · right
      have e:j=l.length:=by omega
      subst e
      rw [if_neg (by rw [decide_eq_true_eq];omega)]
      exact ⟨_,rfl,by rw [yI]⟩) fuel (0,[]) ⟨0,zX _,by simp⟩ (Ci (by show l.length-0≤_;omega))
  rw [hv,hr]
  show D1 _=_
  unfold D1
  rw [Y7 (wH.2 h) (by rw [z6];omega)]
  rfl
theorem over_m {b:List A6} {l:List B7} (r:Bg) {n:Int} (hb:Good b) (hl:Tb kvk l) (hn:l.length≤1000000) (h1:1≤n):F6 ⟨b⟩ l r n=some ((ovL b l r).take n.toNat):=by
  have hbl:=hb.len
  unfold F6
  rw [sane_m hb,zA,if_neg (by decide),Ats hl hn,zA,if_neg (by decide),if_neg (by rw [decide_eq_true_eq];omega)]
  have e1:=W9 (f:=Z3 l r) (fun (t:List B7) (i:Nat)=>((i:Int),t)) l (Yo r) (fun t=>t) (by omega) (fun acc i x hx=>by
    have hlt:=(zC.1 hx).1
    unfold Z3
    dsimp only
    rw [if_pos (decide_eq_true (by omega)),Bp,hx,zA,Als,zA,Cd (by omega) (by omega)]
    rfl) (fun acc=>by
    unfold Z3
    dsimp only
    rw [if_neg (by rw [decide_eq_true_eq];omega)]) []
  have e2:=W9 (f:=Zm ⟨b⟩ r) (fun (t:List B7) (i:Nat)=>((i:Int),t)) b (Abv r) (fun t=>t) (by omega) (fun acc i x hx=>by
    have hlt:=(zC.1 hx).1
    unfold Zm Abv
    dsimp only
    rw [if_pos (decide_eq_true (by omega)),Bp,hx,zA,Cd (by omega) (by omega)]
    cases hd:x.Del with
    | true=>rfl
    | false =>
      rw [if_neg (by decide),Als,zA]
      rfl) (fun acc=>by
    unfold Zm
    dsimp only
    rw [if_neg (by rw [decide_eq_true_eq];omega)]) (l.foldl (Yo r) [])
  have e1':Cw (Z3 l r) fuel (0,[])=some (l.foldl (Yo r) []):=e1
  have e2':Cw (Zm ⟨b⟩ r) fuel (0,l.foldl (Yo r) [])=some (b.foldl (Abv r) (l.foldl (Yo r) [])):=e2
  rw [e1',zA]
  unfold Ajc
  rw [e2',zA]
  unfold Aic
  have hlen:=Avl b l r
  have hlen':(b.foldl (Abv r) (l.foldl (Yo r) [])).length=(ovL b l r).length:=(Mr (kf:=kvk) _).length_eq.symm
  rw [if_pos (by omega)]
  show cut (ovL b l r) 0 (if n<((ovL b l r).length:Int) then n else ((ovL b l r).length:Int))=_
  split
  · rw [Zj (by omega) (by omega) (by omega)];simp
  · rw [Zj (by omega) (by omega) (by omega),yZ (l:=ovL b l r) (by omega)];simp
end Go.Proofs.YtkblaobhhoebaaaGreat.Abs.bf
