/-
  What the library's functions compute.
-/
import Derived.Test.YtkblaobhhoebaaaGreatOS14
set_option linter.unusedVariables false
set_option linter.unusedSimpArgs false
namespace Go.Proofs.YtkblaobhhoebaaaGreat.Abs.bf
theorem Si (a b:List UInt8):Fw a b=some (Dc a b):=rfl
def Zw (r:Bi) (k:List UInt8):Bool:=decide (0≤Dc k r.Lo) && (r.Open || decide (Dc k r.Hi<0))
theorem Ae5 (r:Bi) (k:List UInt8):Dq r k=some (Zw r k):=by
  unfold Dq Zw
  simp only [Si,Option.bind_some]
  cases decide (0≤Dc k r.Lo) <;> cases r.Open <;> simp
def Agq (r:Bi):Bool:=!r.Open && ((decide (r.Lo=[]) && decide (r.Hi=[0])) || decide (Dc r.Hi r.Lo≤0))
theorem Awo {α:Type} (a:List α):decide ((a.length:Int)=0)=decide (a=[]):=by
  rw [decide_eq_decide]
  cases a <;> simp
  omega
theorem empty_m (r:Bi):G1 r=some (Agq r):=by
  obtain ⟨lo,hi,o⟩:=r
  unfold G1 Fu Agq
  simp only [Si,Option.bind_some,Awo]
  cases o with
  | true=>rfl
  | false =>
    cases lo with
    | cons x xs=>simp
    | nil =>
      rcases hi with _ | ⟨x,_ | ⟨y,ys⟩⟩
      · simp
      · have e:(decide ((x.toBitVec.toNat:Int)=(0:Int)))=decide (x=0):=by
          rw [decide_eq_decide]
          constructor
          · intro h; exact UInt8.toNat_inj.1 (by have : x.toNat = 0 := by have h' : ((x.toNat : Nat) : Int) = 0 := h; omega
                                                 rw [this];rfl)
          · rintro rfl;rfl
        rw [show idx [x] 0=some x from rfl]
        simp only [Option.bind_some,e]
        by_cases hx:x=0 <;> simp [hx]
      · have:((List.length (x::y::ys):Nat):Int)≠1:=by simp;omega
        simp [this]
        omega
theorem one_m (a:List UInt8) (h:a.length≤1000000):Pg a=some ⟨a,a++[0],false⟩:=by
  unfold Pg
  rw [Tg _ (by simp;omega) (by simp)]
  simp
abbrev Keys:=List (List UInt8)
def kat (xs:Keys) (k:List UInt8):Nat:=xs.findIdx (fun x=>decide (0≤Dc x k))
def hit (xs:Keys) (k:List UInt8):Bool:=xs[kat xs k]? == some k
theorem Agw (xs:Keys) (k:List UInt8):kat xs k≤xs.length:=List.findIdx_le_length
theorem Aap {xs:Keys} {k:List UInt8} {i:Nat} {x:List UInt8} (h:xs[i]? = some x) (h1:0≤Dc x k) (h2:∀ j y,j<i→xs[j]? = some y→Dc y k<0):kat xs k=i:=by
  obtain ⟨hi,rfl⟩:=List.getElem?_eq_some_iff.1 h
  unfold kat
  rw [List.findIdx_eq hi]
  refine ⟨by simpa using h1,fun j hj=>?_⟩
  have:=h2 j xs[j] hj (List.getElem?_eq_getElem (by omega))
  rw [decide_eq_false_iff_not]
  omega
theorem Tq {xs:Keys} {k:List UInt8} (h:∀ j y,j<xs.length→xs[j]? = some y→Dc y k<0):kat xs k=xs.length:=by
  unfold kat
  rw [List.findIdx_eq_length]
  intro x hx
  obtain ⟨j,hj,rfl⟩:=List.getElem_of_mem hx
  have:=h j xs[j] hj (List.getElem?_eq_getElem hj)
  rw [decide_eq_false_iff_not]
  omega
theorem Aa0 (xs:Keys) (k:List UInt8) (hn:xs.length≤1000000000000000000):Eu xs k=some ((kat xs k:Int),hit xs k):=by
  obtain ⟨v,hv,hr⟩:=Cx (f:=Cf xs k) (P:=fun s=>∃ i:Nat,s=(i:Int)∧i≤xs.length∧∀ j y,j<i→xs[j]? = some y→Dc y k<0) (μ:=fun s=>xs.length-s.toNat)
    (R:=fun v=>match v with | .inl r=>r=(kat xs k:Int)∧kat xs k<xs.length | .inr _=>kat xs k=xs.length) (by
    rintro _ ⟨i,rfl,h1,h2⟩
    unfold Cf Cs
    by_cases hi:i<xs.length
    · have e:=List.getElem?_eq_getElem hi
      rw [if_pos (decide_eq_true (by omega)),Bp,e]
      simp only [Option.bind_some,Si]
      by_cases hc:0≤Dc xs[i] k
      · right;right
        rw [if_pos (decide_eq_true hc)]
        have ea:=Aap e hc h2
        exact ⟨_,rfl,by rw [ea],by rw [ea];exact hi⟩
      · left
        rw [if_neg (by rw [decide_eq_true_eq];exact hc)]
        refine ⟨_,rfl,⟨i+1,by rw [Cc (by omega) (by omega)];rfl,hi,fun j y hj hy=>?_⟩,by rw [Cc (by omega) (by omega)];omega⟩
        rcases Nat.lt_succ_iff_lt_or_eq.1 hj with h | rfl
        · exact h2 j y h hy
        · rw [e] at hy;cases hy;omega
    · right;left
      rw [if_neg (by rw [decide_eq_true_eq];omega)]
      refine ⟨_,rfl,?_⟩
      have:i=xs.length:=by omega
      subst this
      exact Tq h2) fuel 0 ⟨0,rfl,Nat.zero_le _,fun j y hj=>absurd hj (Nat.not_lt_zero _)⟩ (Ck (by show xs.length-0≤_;omega))
  unfold Eu Ec
  rw [hv]
  simp only [Option.bind_some]
  cases v with
  | inl r =>
    obtain ⟨rfl,hlt⟩:r=(kat xs k:Int)∧kat xs k<xs.length:=hr
    simp only [Option.bind_some]
    rw [if_neg (by rw [decide_eq_true_eq];omega),Bp,List.getElem?_eq_getElem hlt]
    simp only [Option.bind_some,Dl]
    unfold hit
    rw [List.getElem?_eq_getElem hlt]
    rfl
  | inr u =>
    have e:kat xs k=xs.length:=hr
    unfold C4
    simp only [Option.bind_some]
    rw [if_pos (by decide)]
    unfold hit
    rw [e]
    simp
def ins (xs:Keys) (k:List UInt8):Keys:=if hit xs k then xs else xs.take (kat xs k)++k::xs.drop (kat xs k)
def part (xs:Keys) (k:List UInt8) (j:Nat):Keys:=if hit xs k=true∨j≤kat xs k then xs.take j else xs.take (kat xs k)++k::(xs.drop (kat xs k)).take (j-kat xs k)
theorem Ajt {xs:Keys} {k:List UInt8} (h:hit xs k=true):kat xs k<xs.length:=by
  unfold hit at h
  have:=eq_of_beq h
  exact (List.getElem?_eq_some_iff.1 this).1
abbrev PW (xs:Keys):Prop:=xs.Pairwise (fun x y=>Dc x y<0)
theorem Zn {xs:Keys} {k x:List UInt8} (h:x ∈ xs.take (kat xs k)):Dc x k<0:=by
  obtain ⟨j,hj,rfl⟩:=List.getElem_of_mem h
  rw [List.length_take] at hj
  rw [List.getElem_take]
  have:=List.not_of_lt_findIdx (p:=fun x=>decide (0≤Dc x k)) (xs:=xs) (i:=j) (by have h':kat xs k=List.findIdx (fun x=>decide (0≤Dc x k)) xs:=rfl;omega)
  have h2:¬ 0≤Dc xs[j] k:=by simpa using this
  omega
theorem Zg {xs:Keys} {k:List UInt8} (h:kat xs k<xs.length):0≤Dc xs[kat xs k] k:=by
  have:=List.findIdx_getElem (p:=fun x=>decide (0≤Dc x k)) (xs:=xs) (w:=h)
  exact of_decide_eq_true this
theorem U1 {xs:Keys} {k:List UInt8} (h:hit xs k=true):k ∈ xs:=by
  unfold hit at h
  exact List.mem_of_getElem? (eq_of_beq h)
theorem Zu {xs:Keys} {k:List UInt8} (hp:PW xs) (h:k ∈ xs):hit xs k=true:=by
  obtain ⟨j,hj,rfl⟩:=List.getElem_of_mem h
  have hle:kat xs xs[j]≤j:=by
    rcases Nat.lt_or_ge j (kat xs xs[j]) with h1 | h1
    · have:=Zn (xs:=xs) (k:=xs[j]) (x:=xs[j]) (List.mem_take_iff_getElem.2 ⟨j,by omega,rfl⟩)
      rw [M4] at this
      omega
    · exact h1
  have hk:kat xs xs[j]<xs.length:=by omega
  unfold hit
  rw [List.getElem?_eq_getElem hk]
  rcases Nat.lt_or_ge (kat xs xs[j]) j with h1 | h1
  · have h2:=List.pairwise_iff_getElem.1 hp _ _ hk hj h1
    have h3:=Zg hk
    omega
  · have e:kat xs xs[j]=j:=by omega
    simp only [e]
    simp
theorem Zk {xs:Keys} {k:List UInt8} (hp:PW xs):hit xs k=true ↔ k ∈ xs:=⟨U1,Zu hp⟩
theorem Alh {xs:Keys} {k:List UInt8} (hp:PW xs):PW (ins xs k):=by
  unfold ins
  by_cases h:hit xs k=true
  · rw [if_pos h];exact hp
  · rw [if_neg h]
    have hap:PW (xs.take (kat xs k)++xs.drop (kat xs k)):=by rw [List.take_append_drop];exact hp
    obtain ⟨h1,h2,h3⟩:=List.pairwise_append.1 hap
    have hk:∀ y ∈ xs.drop (kat xs k),Dc k y<0:=by
      intro y hy
      have hlt:kat xs k<xs.length:=by
        rcases Nat.lt_or_ge (kat xs k) xs.length with h' | h'
        · exact h'
        · rw [List.drop_of_length_le h'] at hy;cases hy
      have hge:=Zg hlt
      have hne:Dc xs[kat xs k] k≠0:=fun e=>h (by
        unfold hit
        rw [List.getElem?_eq_getElem hlt,Qp e]
        simp)
      have hs:=Qe k xs[kat xs k]
      have hlt2:Dc k xs[kat xs k]<0:=by omega
      rw [List.drop_eq_getElem_cons hlt] at hy h2
      rcases List.mem_cons.1 hy with rfl | hy
      · exact hlt2
      · have:=(List.pairwise_cons.1 h2).1 y hy
        exact (Ky (Int.le_of_lt hlt2) (Int.le_of_lt this)).2 (.inl hlt2)
    refine List.pairwise_append.2 ⟨h1,List.pairwise_cons.2 ⟨hk,h2⟩,fun x hx y hy=>?_⟩
    rcases List.mem_cons.1 hy with rfl | hy
    · exact Zn hx
    · exact h3 x hx y hy
theorem Tw {xs:Keys} (hp:PW xs) (hn:xs.length≤1000000000000000000):B9 xs=some true:=by
  obtain ⟨v,hv,hr⟩:=Cx (f:=B7 xs) (P:=fun s=>∃ i:Nat,s=(i:Int)∧1≤i) (μ:=fun s=>xs.length-s.toNat)
    (R:=fun v=>match v with | .inl r=>False | .inr _=>True) (by
    rintro _ ⟨i,rfl,h1⟩
    unfold B7
    by_cases hi:i<xs.length
    · left
      rw [if_pos (decide_eq_true (by omega)),Cc (by omega) (by omega),show (i:Int)-1=((i-1:Nat):Int) from by omega,Bp,Bp,List.getElem?_eq_getElem hi,List.getElem?_eq_getElem (by omega)]
      simp only [Option.bind_some,Si]
      have:=List.pairwise_iff_getElem.1 hp (i-1) i (by omega) hi (by omega)
      rw [if_neg (by rw [decide_eq_true_eq];omega)]
      exact ⟨_,rfl,⟨i+1,by rw [Cc (by omega) (by omega)];rfl,by omega⟩,by rw [Cc (by omega) (by omega)];omega⟩
    · right;left
      rw [if_neg (by rw [decide_eq_true_eq];omega)]
      exact ⟨_,rfl,trivial⟩) fuel 1 ⟨1,rfl,Nat.le_refl _⟩ (Ck (by show xs.length-1≤_;omega))
  unfold B9
  rw [hv]
  cases v with
  | inl r=>exact hr.elim
  | inr u=>rfl
def wk (x:A8):List UInt8:=x.Key
def swV (w:A8):Bool:=(Cv w).getD false
theorem Awh (w:A8):Cv w=some (swV w):=by
  have:∃ b,Cv w=some b:=by
    unfold Cv Dp
    repeat' (first | exact ⟨_,rfl⟩ | split | dsimp only [Option.bind_some])
  obtain ⟨b,hb⟩:=this
  unfold swV
  rw [hb];rfl
structure Good (b:List A8):Prop where
  sw:∀ w ∈ b,swV w=true
  len:b.length≤16
  rise:Sl wk b
theorem Good.nil:Good []:=⟨fun w h=>(by simp at h),by decide,List.Pairwise.nil⟩
theorem W0 {α:Type} {kf:α→List UInt8} {l:List α}:PW (l.map kf) ↔ Sl kf l:=List.pairwise_map
theorem keysOf_m {b:List A8} (hb:b.length≤1000000):E1 ⟨b⟩=some (b.map wk):=by
  unfold E1
  obtain ⟨v,hv,hr⟩:=Ej (f:=F6 ⟨b⟩) (P:=fun s=>∃ j:Nat,j≤b.length∧s=((j:Int),(b.take j).map wk)) (μ:=fun s=>b.length-s.1.toNat) (R:=fun v=>v=b.map wk) (by
    rintro _ ⟨j,hj,rfl⟩
    unfold F6
    dsimp only
    rcases Nat.lt_or_ge j b.length with hlt | hge
    · left
      rw [if_pos (decide_eq_true (by omega)),Bp,List.getElem?_eq_getElem hlt,Option.bind_some,if_pos (by rw [List.length_map,List.length_take,List.length_singleton];omega),Cc (by omega) (by omega)]
      refine ⟨_,rfl,⟨j+1,hlt,?_⟩,by dsimp only;omega⟩
      rw [List.take_succ_eq_append_getElem hlt,List.map_append];rfl
    · right
      have e:j=b.length:=by omega
      subst e
      rw [if_neg (by rw [decide_eq_true_eq];omega)]
      exact ⟨_,rfl,by rw [List.take_length]⟩) fuel (0,[]) ⟨0,Nat.zero_le _,by simp⟩ (Ck (by show b.length-0≤_;omega))
  rw [hv,hr];rfl
theorem sane_m {b:List A8} (h:Good b):Fe ⟨b⟩=some true:=by
  have hl:=h.len
  unfold Fe
  rw [Alt b (fun w=>!swV w) (fun _=>false) (Fl ⟨b⟩) (by omega) (fun i x hx=>by
    have hlt:=(List.getElem?_eq_some_iff.1 hx).1
    unfold Fl
    dsimp only
    rw [if_pos (decide_eq_true (by omega)),Bp,hx,Option.bind_some,Awh,Option.bind_some,Cc (by omega) (by omega)]
    cases swV x <;> rfl) (by
    unfold Fl
    dsimp only
    rw [if_neg (by rw [decide_eq_true_eq];omega)]),Adx (fun x hx=>by rw [h.sw x hx];rfl)]
  show Hd ⟨b⟩ ()=_
  unfold Hd
  dsimp only
  rw [if_pos (decide_eq_true (by omega)),keysOf_m (by omega),Option.bind_some,Tw (W0.2 h.rise) (by rw [List.length_map];omega),Option.bind_some]
def setR (b:List A8) (w:A8):List A8:=Aa8 wk (Rk wk b w)
theorem Akr {α:Type} {kf:α→List UInt8} {t:List α} (h:Ox kf t) (x:α):Ox kf (Rk kf t x):=by
  refine List.pairwise_cons.2 ⟨fun y hy=>?_,h.sublist (List.filter_sublist ..)⟩
  have:=(List.mem_filter.1 hy).2
  intro e
  rw [e] at this
  simp at this
theorem An7 {α:Type} {kf:α→List UInt8} {t:List α} {x y:α}:y ∈ Rk kf t x ↔ y=x∨(y ∈ t∧kf y≠kf x):=by
  unfold Rk
  rw [List.mem_cons,List.mem_filter]
  simp
theorem Am0 {b:List A8} {w x:A8}:x ∈ setR b w ↔ x=w∨(x ∈ b∧wk x≠wk w):=Anr.trans An7
theorem Yj {b:List A8} (h:Sl wk b) (w:A8):Sl wk (setR b w):=Td (Akr h.dist w)
theorem Abg {b:List A8} (h:Sl wk b) {k:List UInt8}:hit (b.map wk) k=true ↔ k ∈ b.map wk:=Zk (W0.2 h)
theorem Ac5 {b:List A8} (h:Sl wk b) {w:A8} (hh:hit (b.map wk) (wk w)=true):b.set (kat (b.map wk) (wk w)) w=setR b w:=by
  have hk:(b.map wk)[kat (b.map wk) (wk w)]? = some (wk w):=by
    unfold hit at hh
    exact beq_iff_eq.1 hh
  obtain ⟨p1,_,p3⟩:=Abf (List.Perm.refl b) h.dist (x:=w) hk
  refine Abh ?_ (Yj h w) (p1.trans (L8 _).symm)
  have e:(b.set (kat (b.map wk) (wk w)) w).map wk=b.map wk:=(Abf (List.Perm.refl b) h.dist (x:=w) hk).2.1
  exact W0.1 (by rw [e];exact W0.2 h)
theorem Ak0 {b:List A8} (h:Sl wk b) {w:A8} (hh:hit (b.map wk) (wk w)=false):b.take (kat (b.map wk) (wk w))++w::b.drop (kat (b.map wk) (wk w))=setR b w:=by
  have hk:wk w ∉ b.map wk:=fun hm=>by rw [(Abg h).2 hm] at hh;cases hh
  have hp:(b.take (kat (b.map wk) (wk w))++w::b.drop (kat (b.map wk) (wk w))).Perm (w::b):=by
    refine List.perm_middle.trans ?_
    rw [List.take_append_drop]
  have hf:Rk wk b w=w::b:=by unfold Rk;rw [Yu hk]
  refine Abh ?_ (Yj h w) (hp.trans (by rw [← hf];exact (L8 _).symm))
  have hi:=Alh (k:=wk w) (W0.2 h)
  unfold ins at hi
  rw [if_neg (by rw [hh];decide)] at hi
  refine W0.1 ?_
  rw [List.map_append,List.map_cons,List.map_take,List.map_drop]
  exact hi
theorem Ant {b:List A8} (h:Sl wk b) (w:A8):(setR b w).length=if hit (b.map wk) (wk w)=true then b.length else b.length+1:=by
  cases hh:hit (b.map wk) (wk w) with
  | true=>rw [← Ac5 h hh,if_pos rfl,List.length_set]
  | false =>
    rw [← Ak0 h hh,if_neg (by decide),List.length_append,List.length_cons,List.length_take,List.length_drop]
    have:=Agw (b.map wk) (wk w)
    rw [List.length_map] at this
    omega
theorem Ast {b:List A8} (h:Good b) {w:A8} (hw:swV w=true) (hr:wk w ∈ b.map wk∨b.length<16):Ef ⟨b⟩ w=some (⟨setR b w⟩,0)∧Good (setR b w):=by
  have hl:=h.len
  have hg:Good (setR b w):=by
    refine ⟨fun x hx=>?_,?_,Yj h.rise w⟩
    · rcases Am0.1 hx with rfl | ⟨hx,_⟩
      · exact hw
      · exact h.sw x hx
    · rw [Ant h.rise]
      split
      · exact hl
      · rename_i hn
        rcases hr with hr | hr
        · exact absurd ((Abg h.rise).2 hr) hn
        · omega
  refine ⟨?_,hg⟩
  unfold Ef
  rw [show (⟨(B4.mk b).L⟩:B4)=⟨b⟩ from rfl,sane_m h,Option.bind_some,show (⟨w.Key,w.Val,w.Del⟩:A8)=w from rfl,Awh,Option.bind_some,hw]
  unfold Jz
  rw [keysOf_m (by omega),Option.bind_some,Aa0 _ _ (by rw [List.length_map];omega),Option.bind_some]
  dsimp only
  rw [Pr _ (by omega),Option.bind_some]
  have hkl:=Agw (b.map wk) (wk w)
  rw [List.length_map] at hkl
  rw [if_neg (by decide),if_neg (by decide)]
  cases hh:hit (b.map wk) w.Key with
  | true =>
    have hlt:=Ajt hh
    rw [List.length_map] at hlt
    rw [if_pos rfl,Bp,List.getElem?_eq_getElem hlt,Option.bind_some,Int.toNat_natCast]
    exact congrArg (fun l=>some (B4.mk l,(0:Int))) (Ac5 h.rise hh)
  | false =>
    have hlt:b.length<16:=by
      rcases hr with hr | hr
      · have:=(Abg h.rise).2 hr
        rw [show wk w=w.Key from rfl,hh] at this;cases this
      · exact hr
    rw [if_neg (by decide),if_neg (by rw [decide_eq_true_eq];omega)]
    unfold Nt Amr
    dsimp only
    rw [if_pos ⟨⟨Int.natCast_nonneg _,by show ((kat (b.map wk) (wk w):Nat):Int)≤_;omega⟩,by omega⟩,Option.bind_some,Int.toNat_natCast]
    exact congrArg (fun l=>some (B4.mk l,(0:Int))) (Ak0 h.rise hh)
theorem Aqx {b:List A8} (h:Good b) {w:A8} (hn:¬ (swV w=true∧(wk w ∈ b.map wk∨b.length<16))):∃ e:Int,e≠0∧(swV w=true→e=8)∧Ef ⟨b⟩ w=some (⟨[]⟩,e):=by
  have hl:=h.len
  unfold Ef
  rw [show (⟨(B4.mk b).L⟩:B4)=⟨b⟩ from rfl,sane_m h,Option.bind_some,show (⟨w.Key,w.Val,w.Del⟩:A8)=w from rfl,Awh,Option.bind_some,if_neg (by decide)]
  cases hw:swV w with
  | false=>exact ⟨1,by decide,fun h=>(by cases h),rfl⟩
  | true =>
    have hn2:¬ (wk w ∈ b.map wk∨b.length<16):=fun h=>hn ⟨hw,h⟩
    have hh:hit (b.map wk) w.Key=false:=by
      cases hh:hit (b.map wk) w.Key with
      | false=>rfl
      | true=>exact absurd (.inl ((Abg h.rise).1 hh)) hn2
    unfold Jz
    rw [if_neg (by decide),keysOf_m (by omega),Option.bind_some,Aa0 _ _ (by rw [List.length_map];omega),Option.bind_some]
    dsimp only
    rw [Pr _ (by omega),Option.bind_some,hh,if_neg (by decide),if_pos (decide_eq_true (by omega))]
    exact ⟨8,by decide,fun _=>rfl,rfl⟩
theorem set_any {b:List A8} (h:Good b) (w:A8):(Ef ⟨b⟩ w=some (⟨setR b w⟩,0)∧Good (setR b w)∧swV w=true)∨∃ e:Int,e≠0∧Ef ⟨b⟩ w=some (⟨[]⟩,e):=by
  by_cases hc:swV w=true∧(wk w ∈ b.map wk∨b.length<16)
  · obtain ⟨h1,h2⟩:=Ast h hc.1 hc.2
    exact .inl ⟨h1,h2,hc.1⟩
  · obtain ⟨e,h1,_,h2⟩:=Aqx h hc
    exact .inr ⟨e,h1,h2⟩
def kvw (w:A8):B8:=⟨w.Key,w.Val⟩
def Xw (r:Bi) (t:List B8) (x:B8):List B8:=if Zw r x.Key then Rk kvk t x else t
def Ab2 (r:Bi) (t:List B8) (w:A8):List B8:=if w.Del then Aa7 kvk t w.Key else if Zw r w.Key then Rk kvk t (kvw w) else t
def ovL (b:List A8) (l:List B8) (r:Bi):List B8:=Aa8 kvk (b.foldl (Ab2 r) (l.foldl (Xw r) []))
theorem Adr (r:Bi):∀ (l t:List B8),(l.foldl (Xw r) t).length≤t.length+l.length
  | [],t=>by simp
  | y::l,t=>by
    have:=Adr r l (Xw r t y)
    have h2:(Xw r t y).length≤t.length+1:=by
      unfold Xw Rk
      split
      · have:=List.length_filter_le (fun z=>!(kvk z == kvk y)) t
        rw [List.length_cons];omega
      · omega
    rw [List.foldl_cons,List.length_cons];omega
theorem Ac9 (r:Bi):∀ (b:List A8) (t:List B8),(b.foldl (Ab2 r) t).length≤t.length+b.length
  | [],t=>by simp
  | y::l,t=>by
    have:=Ac9 r l (Ab2 r t y)
    have h2:(Ab2 r t y).length≤t.length+1:=by
      unfold Ab2 Rk Aa7
      split
      · have:=List.length_filter_le (fun z=>!(kvk z == y.Key)) t;omega
      · split
        · have:=List.length_filter_le (fun z=>!(kvk z == kvk (kvw y))) t
          rw [List.length_cons];omega
        · omega
    rw [List.foldl_cons,List.length_cons];omega
theorem Auu (b:List A8) (l:List B8) (r:Bi):(ovL b l r).length≤l.length+b.length:=by
  unfold ovL
  rw [(L8 _).length_eq]
  have h1:=Ac9 r b (l.foldl (Xw r) [])
  have h2:=Adr r l []
  simp at h2
  omega
theorem Ard {l:List B8} (h:Sl kvk l) (hl:l.length≤1000000):Fh l=some true:=by
  unfold Fh
  obtain ⟨v,hv,hr⟩:=Ej (f:=Dv l) (P:=fun s=>∃ j:Nat,j≤l.length∧s=((j:Int),(l.take j).map kvk)) (μ:=fun s=>l.length-s.1.toNat) (R:=fun v=>v=l.map kvk) (by
    rintro _ ⟨j,hj,rfl⟩
    unfold Dv
    dsimp only
    rcases Nat.lt_or_ge j l.length with hlt | hge
    · left
      rw [if_pos (decide_eq_true (by omega)),Bp,List.getElem?_eq_getElem hlt,Option.bind_some,if_pos (by rw [List.length_map,List.length_take,List.length_singleton];omega),Cc (by omega) (by omega)]
      refine ⟨_,rfl,⟨j+1,hlt,?_⟩,by dsimp only;omega⟩
      rw [List.take_succ_eq_append_getElem hlt,List.map_append];rfl
    · right
      have e:j=l.length:=by omega
      subst e
      rw [if_neg (by rw [decide_eq_true_eq];omega)]
      exact ⟨_,rfl,by rw [List.take_length]⟩) fuel (0,[]) ⟨0,Nat.zero_le _,by simp⟩ (Ck (by show l.length-0≤_;omega))
  rw [hv,hr]
  show Dx _=_
  unfold Dx
  rw [Tw (List.pairwise_map.2 h) (by rw [List.length_map];omega)]
  rfl
theorem over_m {b:List A8} {l:List B8} (r:Bi) {n:Int} (hb:Good b) (hl:Sl kvk l) (hn:l.length≤1000000) (h1:1≤n):F8 ⟨b⟩ l r n=some ((ovL b l r).take n.toNat):=by
  have hbl:=hb.len
  unfold F8
  rw [sane_m hb,Option.bind_some,if_neg (by decide),Ard hl hn,Option.bind_some,if_neg (by decide),if_neg (by rw [decide_eq_true_eq];omega)]
  have e1:=W7 (f:=Yv l r) (fun (t:List B8) (i:Nat)=>((i:Int),t)) l (Xw r) (fun t=>t) (by omega) (fun acc i x hx=>by
    have hlt:=(List.getElem?_eq_some_iff.1 hx).1
    unfold Yv
    dsimp only
    rw [if_pos (decide_eq_true (by omega)),Bp,hx,Option.bind_some,Ae5,Option.bind_some,Cc (by omega) (by omega)]
    rfl) (fun acc=>by
    unfold Yv
    dsimp only
    rw [if_neg (by rw [decide_eq_true_eq];omega)]) []
  have e2:=W7 (f:=Zs ⟨b⟩ r) (fun (t:List B8) (i:Nat)=>((i:Int),t)) b (Ab2 r) (fun t=>t) (by omega) (fun acc i x hx=>by
    have hlt:=(List.getElem?_eq_some_iff.1 hx).1
    unfold Zs Ab2
    dsimp only
    rw [if_pos (decide_eq_true (by omega)),Bp,hx,Option.bind_some,Cc (by omega) (by omega)]
    cases hd:x.Del with
    | true=>rfl
    | false =>
      rw [if_neg (by decide),Ae5,Option.bind_some]
      rfl) (fun acc=>by
    unfold Zs
    dsimp only
    rw [if_neg (by rw [decide_eq_true_eq];omega)]) (l.foldl (Xw r) [])
  have e1':C5 (Yv l r) fuel (0,[])=some (l.foldl (Xw r) []):=e1
  have e2':C5 (Zs ⟨b⟩ r) fuel (0,l.foldl (Xw r) [])=some (b.foldl (Ab2 r) (l.foldl (Xw r) [])):=e2
  rw [e1',Option.bind_some]
  unfold Agd
  rw [e2',Option.bind_some]
  unfold Ag2
  have hlen:=Auu b l r
  have hlen':(b.foldl (Ab2 r) (l.foldl (Xw r) [])).length=(ovL b l r).length:=(L8 (kf:=kvk) _).length_eq.symm
  rw [if_pos (by omega)]
  show cut (ovL b l r) 0 (if n<((ovL b l r).length:Int) then n else ((ovL b l r).length:Int))=_
  split
  · rw [Acs (by omega) (by omega) (by omega)];simp
  · rw [Acs (by omega) (by omega) (by omega),List.take_of_length_le (l:=ovL b l r) (by omega)];simp
end Go.Proofs.YtkblaobhhoebaaaGreat.Abs.bf
