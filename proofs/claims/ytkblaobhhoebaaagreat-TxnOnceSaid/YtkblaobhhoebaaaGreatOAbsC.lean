/-
  A walk over abstract states: its rules, part C.
-/
import Derived.Test.YtkblaobhhoebaaaGreatOAbsB
import Derived.WalkKit
import Derived.Lib.Walk
import Derived.Lib.SliceRun
import Derived.Lib.JoinLaws
import Derived.Lib.AppendZeros
import Derived.Lib.AppendZerosOnto
import Derived.Lib.Overlaps
import Derived.Laws.Externs
import Derived.Laws.IdiomCopy
import Derived.Laws.NewBlocks
import Derived.Shelf.RegionOpenPlain
import Derived.Shelf.Spec.SlicesInsert
import Derived.Lib.ConvBytes
import Derived.Maps.Range
import Derived.Shelf.SlSortCmp.WholeK
import Derived.Shelf.SlSortCmp.NoneTotal
import Derived.Shelf.SortM.Plain
import Derived.Shelf.SortM.SortNone
import Derived.Shelf.SlicesE.Compact
import Derived.Conc.LoneSelect
import Derived.Test.YtkblaobhhoebaaaGreatOAbsA
import Derived.SizedLaws
import Derived.OpenShut
import Derived.ChangeKeysEq
import Derived.LaidEql
import Derived.Stop.Asserts
import Derived.Stop.IfaceNil
import Derived.RowKitTokens
import Derived.Lib.IfaceEq
set_option linter.unusedVariables false
set_option linter.unusedSimpArgs false
namespace Go.Proofs.YtkblaobhhoebaaaGreat.Abs
open Go.RowKit
abbrev Agm:=List (List Bool × List Blk)
def Abv:Agm→List Bool→Option (List Blk)
  | [],_=>none
  | (b,M)::r,bits=>if b == bits then some M else Abv r bits
theorem Aht:∀ {tbl:Agm} {bits:List Bool} {M:List Blk},Abv tbl bits=some M→(bits,M) ∈ tbl
  | (b,N)::r,bits,M,h=>by
    unfold Abv at h
    by_cases hb:(b == bits)=true
    · rw [if_pos hb] at h
      cases h
      have:b=bits:=by simpa using hb
      subst this
      exact List.mem_cons_self ..
    · rw [if_neg hb] at h
      exact List.mem_cons_of_mem _ (Aht h)
theorem Xd:∀ {es:List Nat} {a b:Nat},(a,b) ∈ es.zip es→a=b∧a ∈ es
  | [],_,_,h=>by simp at h
  | e::r,a,b,h=>by
    rw [List.zip_cons_cons] at h
    rcases List.mem_cons.1 h with h | h
    · cases h;exact ⟨rfl,List.mem_cons_self ..⟩
    · obtain ⟨h1,h2⟩:=Xd h
      exact ⟨h1,List.mem_cons_of_mem _ h2⟩
def L5 (es:List Nat) (listed:Array Bool):List Bool:=es.map fun e=>listed.getD e false
def Vs (ws es:List Nat) (i:Nat) (bits:List Bool):Bool:=(es.zip bits).all fun x=>(!((ws.getD i 0).testBit x.1) || x.2) && (!(x.1 == i || (ws.getD x.1 0).testBit i) || !x.2)
def Ae7 (ws es:List Nat) (bits:List Bool):Bool:=(es.zip bits).all fun x=>!x.2 || (es.zip bits).all fun y=>!((ws.getD x.1 0).testBit y.1) || y.2
def Y3:Nat→List (List Bool)
  | 0=>[[]]
  | n+1=>(Y3 n).map (false::·)++(Y3 n).map (true::·)
theorem Y4:∀ {n:Nat} {bits:List Bool},bits.length=n→bits ∈ Y3 n
  | 0,[],_=>List.mem_singleton.2 rfl
  | 0,_::_,h=>by simp at h
  | n+1,[],h=>by simp at h
  | n+1,b::bits,h=>by
    have ih:=Y4 (n:=n) (bits:=bits) (by simpa using h)
    unfold Y3
    rw [List.mem_append]
    cases b with
    | false=>exact .inl (List.mem_map.2 ⟨bits,ih,rfl⟩)
    | true=>exact .inr (List.mem_map.2 ⟨bits,ih,rfl⟩)
def Atn (ws es:List Nat) (tbl:Agm):Bool:=(Y3 es.length).all fun bits=>!Ae7 ws es bits || (Abv tbl bits).isSome
def Ad1 (p:List Bool→Bool) (Q:List Bool→List Blk→Prop) (tbl:Agm):Prop:=∀ e ∈ tbl,p e.1=true→Q e.1 e.2
theorem Gx {p:List Bool→Bool} {Q:List Bool→List Blk→Prop}:Ad1 p Q []:=fun e h=>by cases h
theorem Cu {p:List Bool→Bool} {Q:List Bool→List Blk→Prop} {b:List Bool} {M:List Blk} {r:Agm} (_:p b=true) (q:Q b M) (h:Ad1 p Q r):Ad1 p Q ((b,M)::r):=fun e he hp=>by
  rcases List.mem_cons.1 he with rfl | he
  · exact q
  · exact h e he hp
theorem Ch {p:List Bool→Bool} {Q:List Bool→List Blk→Prop} {b:List Bool} {M:List Blk} {r:Agm} (hf:p b=false) (h:Ad1 p Q r):Ad1 p Q ((b,M)::r):=fun e he hp=>by
  rcases List.mem_cons.1 he with rfl | he
  · have hp':p b=true:=hp
    rw [hf] at hp';cases hp'
  · exact h e he hp
section
variable {P:Program} {c:Ctx} {t:Nat→AV} {m:List Blk} {Q:Exit→AS→Prop}
def Ajp (P:Program) (c:Ctx) (ops:Array Oper) (ws es:List Nat) (tbl:Agm) (i:Nat) (t:Nat→AV) (o:Oper) (x:AV):Prop :=
  (∃ md,Wm P c md ops t o x∧Ad1 (Vs ws es i) (fun _ M=>Aa9 md M) tbl)∨Ad1 (Vs ws es i) (fun _ M=>Wm P c M ops t o x) tbl
theorem Ajp.congr {ops:Array Oper} {ws es:List Nat} {tbl:Agm} {i:Nat} {t t':Nat→AV} {o:Oper} {x:AV} (h:Ajp P c ops ws es tbl i t o x) (ht:∀ y ∈ o.looksAt ops,t y=t' y):Ajp P c ops ws es tbl i t' o x:=by
  rcases h with ⟨md,h1,h2⟩ | h
  · exact .inl ⟨md,h1.congr ht,h2⟩
  · exact .inr fun e he hp=>(h e he hp).congr ht
def DM (P:Program) (c:Ctx) (ops:Array Oper) (ws es:List Nat) (tbl:Agm) (k:(Nat→AV)→Prop):Nat→List Oper→(Nat→AV)→Prop
  | _,[],t=>k t
  | i,o::rest,t =>
    (es.contains i=false∧∃ x d,o.dst=some d∧d<c.nt∧Ajp P c ops ws es tbl i t o x∧DM P c ops ws es tbl k (i+1) rest (upd t d x)) ∨
    (∃ j x,es[j]? = some i∧Ao2 ops t o∧Ad1 (Vs ws es i) (fun b M=>∃ M',Abv tbl (b.set j true)=some M'∧Apn P c ops t M M' o x) tbl∧(∀ d,o.dst=some d→d<c.nt) ∧
      DM P c ops ws es tbl k (i+1) rest (match o.dst with | some d=>upd t d x | none=>t))
theorem DM.get {ops:Array Oper} {ws es:List Nat} {tbl:Agm} {k:(Nat→AV)→Prop}:∀ {l:List Oper} {i:Nat} {t:Nat→AV},DM P c ops ws es tbl k i l t→(Mr l).Nodup→(∀ (q:Nat) (o:Oper),l[q]? = some o→∀ y ∈ o.looksAt ops,y ∉ Mr (l.drop q)) →
    ∃ T,k T∧(∀ y,y ∉ Mr l→T y=t y)∧∀ (q:Nat) (o:Oper),l[q]? = some o →
      (es.contains (i+q)=false∧∃ d,o.dst=some d∧d<c.nt∧Ajp P c ops ws es tbl (i+q) T o (T d)) ∨
      (∃ j x,es[j]? = some (i+q)∧Ao2 ops T o∧Ad1 (Vs ws es (i+q)) (fun b M=>∃ M',Abv tbl (b.set j true)=some M'∧Apn P c ops T M M' o x) tbl∧∀ d,o.dst=some d→d<c.nt∧T d=x)
  | [],i,t,h,_,_=>⟨t,h,fun _ _=>rfl,fun q o h=>by simp at h⟩
  | o::rest,i,t,h,hnd,hl=>by
    have hlook:∀ y ∈ o.looksAt ops,y ∉ Mr (o::rest):=fun y hy=>by simpa using hl 0 o rfl y hy
    have hlt:∀ (q:Nat) (o':Oper),rest[q]? = some o'→∀ y ∈ o'.looksAt ops,y ∉ Mr (rest.drop q):=fun q o' h' y hy=>by
      have:=hl (q+1) o' (by simpa using h') y hy
      simpa using this
    rcases h with ⟨hne,x,d,hd,hdn,hg,hr⟩ | ⟨j,x,h1,h6,h7,h8,hr⟩
    · have hds:Mr (o::rest)=d::Mr rest:=by simp [Mr,hd]
      rw [hds] at hnd hlook
      have hnd':=List.nodup_cons.1 hnd
      obtain ⟨T,hk,hT,hG⟩:=DM.get hr hnd'.2 hlt
      have hTl:∀ y ∈ o.looksAt ops,t y=T y:=fun y hy=>by
        have:=hlook y hy
        simp only [List.mem_cons,not_or] at this
        rw [hT y this.2,Hq,if_neg this.1]
      have hTd:T d=x:=by rw [hT d hnd'.1,Hq,if_pos rfl]
      refine ⟨T,hk,fun y hy=>?_,fun q o' h'=>?_⟩
      · rw [hds] at hy
        simp only [List.mem_cons,not_or] at hy
        rw [hT y hy.2,Hq,if_neg hy.1]
      · cases q with
        | zero =>
          simp only [List.getElem?_cons_zero,Option.some.injEq] at h'
          subst h'
          exact .inl ⟨hne,d,hd,hdn,by rw [hTd];exact hg.congr hTl⟩
        | succ q =>
          have:=hG q o' (by simpa using h')
          rw [show i+1+q=i+(q+1) by omega] at this
          exact this
    · have fin:∀ {T:Nat→AV},(∀ y ∈ o.looksAt ops,t y=T y)→Ad1 (Vs ws es i) (fun b M=>∃ M',Abv tbl (b.set j true)=some M'∧Apn P c ops T M M' o x) tbl:=fun hTl e he hp=>by
        obtain ⟨M',h3,h4⟩:=h7 e he hp
        exact ⟨M',h3,h4.congr hTl⟩
      cases hd:o.dst with
      | none =>
        have hds:Mr (o::rest)=Mr rest:=by simp [Mr,hd]
        rw [hds] at hnd hlook
        rw [hd] at hr
        obtain ⟨T,hk,hT,hG⟩:=DM.get hr hnd hlt
        have hTl:∀ y ∈ o.looksAt ops,t y=T y:=fun y hy=>(hT y (hlook y hy)).symm
        refine ⟨T,hk,fun y hy=>hT y (by rw [hds] at hy;exact hy),fun q o' h'=>?_⟩
        cases q with
        | zero =>
          simp only [List.getElem?_cons_zero,Option.some.injEq] at h'
          subst h'
          exact .inr ⟨j,x,h1,h6.congr hTl,fin hTl,fun d h=>by rw [hd] at h;cases h⟩
        | succ q =>
          have:=hG q o' (by simpa using h')
          rw [show i+1+q=i+(q+1) by omega] at this
          exact this
      | some d =>
        have hds:Mr (o::rest)=d::Mr rest:=by simp [Mr,hd]
        rw [hds] at hnd hlook
        have hnd':=List.nodup_cons.1 hnd
        rw [hd] at hr
        obtain ⟨T,hk,hT0,hG⟩:=DM.get hr hnd'.2 hlt
        have hT:∀ y,y ∉ Mr rest→T y=upd t d x y:=hT0
        have hTl:∀ y ∈ o.looksAt ops,t y=T y:=fun y hy=>by
          have:=hlook y hy
          simp only [List.mem_cons,not_or] at this
          rw [hT y this.2,Hq,if_neg this.1]
        have hTd:T d=x:=by rw [hT d hnd'.1,Hq,if_pos rfl]
        refine ⟨T,hk,fun y hy=>?_,fun q o' h'=>?_⟩
        · rw [hds] at hy
          simp only [List.mem_cons,not_or] at hy
          rw [hT y hy.2,Hq,if_neg hy.1]
        · cases q with
          | zero =>
            simp only [List.getElem?_cons_zero,Option.some.injEq] at h'
            subst h'
            refine .inr ⟨j,x,h1,h6.congr hTl,fin hTl,fun d' h=>?_⟩
            rw [hd] at h
            cases h
            exact ⟨h8 d hd,hTd⟩
          | succ q =>
            have:=hG q o' (by simpa using h')
            rw [show i+1+q=i+(q+1) by omega] at this
            exact this
theorem Aot {l:List Oper} (es ws:List Nat) (tbl:Agm) {last:List Blk} (hws:Mo l []=ws) (hok:Zl l.toArray=true) (hnd:es.Nodup) (hes:(es.all fun e=>decide (e<l.length))=true) (hfull:Atn ws es tbl=true) (h0:Abv tbl (es.map fun _=>false)=some m) (hlast:Abv tbl (es.map fun _=>true)=some last)
    (h:DM P c l.toArray ws es tbl (fun T=>Q .normal ⟨T,last⟩) 0 l t):AWD P c Q l ⟨t,m⟩:=by
  subst hws
  have ok:=Aal hok
  have hdn:(Mr l).Nodup:=by
    have key:∀ (k:List Oper) (n:Nat),(∀ i o,k[i]? = some o→l[n+i]? = some o)→(Mr k).Nodup:=by
      intro k
      induction k with
      | nil=>intro n _;exact List.nodup_nil
      | cons o r ih =>
        intro n hk
        have ih':=ih (n+1) (fun i o' h'=>by have:=hk (i+1) o' (by simpa using h');rw [← this];congr 1;omega)
        cases hd:o.dst with
        | none=>simpa [Mr,hd] using ih'
        | some d =>
          have hds:Mr (o::r)=d::Mr r:=by simp [Mr,hd]
          rw [hds]
          refine List.nodup_cons.2 ⟨fun hmem=>?_,ih'⟩
          unfold Mr at hmem
          rw [List.mem_filterMap] at hmem
          obtain ⟨p,hp,hpd⟩:=hmem
          obtain ⟨q,hq,hqp⟩:=List.getElem_of_mem hp
          have h1:=hk 0 o rfl
          have h2:=hk (q+1) p (by simp [hq,hqp])
          exact ok.ne n o (n+(q+1)) p (by simpa using h1) (by simpa using h2) (by omega) d hd hpd
    exact key l 0 (fun i o h=>by simpa using h)
  obtain ⟨T,hQ,hTt,hG⟩:=DM.get h hdn (Auq ok)
  let B:Array Bool→List Blk:=fun listed=>(Abv tbl (L5 es listed)).getD []
  let HI:Array Bool→(Nat→Value)→Prop:=fun listed _=>Rj l.toArray listed
  have hws:∀ {listed:Array Bool},Rj l.toArray listed→∀ i,listed.getD i false=true→∀ j,((Mo l []).getD i 0).testBit j=true→listed.getD j false=true:=fun hc =>
    Vz hc l [] (fun i o h=>by simpa using h) (fun i h=>by simp at h)
  have huf:∀ {listed:Array Bool} {i:Nat},listed.size=l.toArray.size→i<l.length→listed.getD i true=false→listed.getD i false=false:=by
    intro listed i hs hi h
    simp only [Array.getD_eq_getD_getElem?] at h ⊢
    rw [Array.getElem?_eq_getElem (by rw [hs];simpa using hi)] at h ⊢
    exact h
  have hzip:∀ {listed:Array Bool} {x:Nat × Bool},x ∈ es.zip (L5 es listed)→x.2=listed.getD x.1 false∧x.1 ∈ es:=by
    intro listed x hx
    unfold L5 at hx
    rw [List.zip_map_right] at hx
    obtain ⟨y,hy,rfl⟩:=List.mem_map.1 hx
    obtain ⟨a,b⟩:=y
    have hab:=Xd hy
    obtain ⟨rfl,hm⟩:=hab
    exact ⟨rfl,hm⟩
  have hclosed:∀ {listed:Array Bool},Rj l.toArray listed→Ae7 (Mo l []) es (L5 es listed)=true:=by
    intro listed hc
    unfold Ae7
    rw [List.all_eq_true]
    intro x hx
    obtain ⟨h1,_⟩:=hzip hx
    cases hb:x.2 with
    | false=>rfl
    | true =>
      simp only [Bool.not_true,Bool.false_or]
      rw [List.all_eq_true]
      intro y hy
      obtain ⟨h2,_⟩:=hzip hy
      cases hw:((Mo l []).getD x.1 0).testBit y.1 with
      | false=>rfl
      | true =>
        rw [h1] at hb
        rw [h2,hws hc x.1 hb y.1 hw]
        rfl
  have hmem:∀ {listed:Array Bool},Rj l.toArray listed→(L5 es listed,B listed) ∈ tbl:=by
    intro listed hc
    have hf:=(List.all_eq_true.1 hfull) (L5 es listed) (Y4 (by simp [L5]))
    rw [hclosed hc] at hf
    simp only [Bool.not_true,Bool.false_or,Option.isSome_iff_exists] at hf
    obtain ⟨M,hM⟩:=hf
    have:B listed=M:=by show (Abv tbl (L5 es listed)).getD []=M;rw [hM];rfl
    rw [this]
    exact Aht hM
  have hcons:∀ {listed:Array Bool} {i:Nat} {o:Oper},Rj l.toArray listed→l[i]? = some o→Met listed o→listed.getD i false=false→Vs (Mo l []) es i (L5 es listed)=true:=by
    intro listed i o hc ho hmt hun
    unfold Vs
    rw [List.all_eq_true]
    intro x hx
    obtain ⟨h1,_⟩:=hzip hx
    rw [Bool.and_eq_true,Bool.or_eq_true,Bool.or_eq_true]
    constructor
    · cases hw:((Mo l []).getD i 0).testBit x.1 with
      | false=>exact .inl rfl
      | true =>
        right
        rw [h1]
        exact Zq (ops:=l.toArray) hc (i:=i) (o:=o) (by simpa using ho) hmt (j:=x.1) hw
    · cases hb:x.2 with
      | false=>exact .inr rfl
      | true =>
        left
        rw [h1] at hb
        simp only [Bool.not_eq_true',Bool.or_eq_false_iff]
        constructor
        · cases he:(x.1 == i) with
          | false=>rfl
          | true =>
            have:x.1=i:=by simpa using he
            rw [this,hun] at hb;cases hb
        · cases hw:((Mo l []).getD x.1 0).testBit i with
          | false=>rfl
          | true =>
            have:=hws hc x.1 hb i hw
            rw [hun] at this;cases this
  have hbsame:∀ {listed:Array Bool} {i:Nat},es.contains i=false→L5 es (listed.setIfInBounds i true)=L5 es listed:=by
    intro listed i hi
    unfold L5
    refine List.map_congr_left fun e he=>?_
    have : i ≠ e := fun e' => by subst e'; have : es.contains i = true := by simpa using he
                                 rw [hi] at this;cases this
    simp only [Array.getD_eq_getD_getElem?,Array.getElem?_setIfInBounds_ne this]
  have hlk:∀ {i:Nat} {o:Oper},l.toArray[i]? = some o→l[i]? = some o∧i<l.length:=fun {i o} h=>by
    have h':l[i]? = some o:=by simpa using h
    exact ⟨h',(List.getElem?_eq_some_iff.1 h').1⟩
  refine Acp (T:=T) (B:=B) (HI:=HI) ok (fun i o ho=>?_) hTt (fun a w S H r=>⟨H,?_,?_⟩) (fun listed hs hl=>?_)
  · obtain ⟨ho',hil⟩:=hlk ho
    rcases hG i o ho' with ⟨hne,d,hd,hdn,hg⟩ | ⟨j,x,h1,h5,h6,h7⟩
    · rw [Nat.zero_add] at hne hg
      refine .inl fun listed H hs hun hmt hc=>?_
      have hBs:B (listed.setIfInBounds i true)=B listed:=by
        show (Abv tbl (L5 es (listed.setIfInBounds i true))).getD []=_
        rw [hbsame hne]
      have hm:=hmem hc
      have hcs:=hcons hc ho' hmt (huf hs hil hun)
      rcases hg with ⟨md,hg,hmd⟩ | hg
      · exact ⟨md,⟨d,hd,hdn,hg⟩,hmd _ hm hcs,hBs,hc.set ho hmt⟩
      · exact ⟨B listed,⟨d,hd,hdn,hg _ hm hcs⟩,Aa9.refl _,hBs,hc.set ho hmt⟩
    · rw [Nat.zero_add] at h1 h6
      refine .inr ⟨h5,fun listed hs hun hmt a w S H r hc K Qn hK=>?_⟩
      have hm:=hmem hc
      have hcs:=hcons hc ho' hmt (huf hs hil hun)
      obtain ⟨M',hM',h6⟩:=h6 _ hm hcs
      have hbits:L5 es (listed.setIfInBounds i true)=(L5 es listed).set j true:=by
        refine List.ext_getElem? fun q=>?_
        unfold L5
        rw [List.getElem?_map,List.getElem?_set,List.length_map,List.getElem?_map]
        have hjl:=(List.getElem?_eq_some_iff.1 h1).1
        by_cases e:j=q
        · subst e
          rw [if_pos rfl,if_pos hjl,h1]
          simp only [Option.map_some,Option.some.injEq,Array.getD_eq_getD_getElem?]
          rw [Array.getElem?_setIfInBounds_self_of_lt (by rw [hs];simpa using hil)]
          rfl
        · rw [if_neg e]
          cases hq:es[q]? with
          | none=>rfl
          | some e' =>
            have hne:i≠e':=fun e''=>by
              subst e''
              have hql:=(List.getElem?_eq_some_iff.1 hq).1
              have h8:=(List.getElem?_eq_some_iff.1 hq).2
              have h9:=(List.getElem?_eq_some_iff.1 h1).2
              exact e ((List.getElem_inj hnd).1 (h9.trans h8.symm))
            simp only [Option.map_some,Option.some.injEq,Array.getD_eq_getD_getElem?]
            rw [Array.getElem?_setIfInBounds_ne hne]
      have hB2:B (listed.setIfInBounds i true)=M':=by
        show (Abv tbl (L5 es (listed.setIfInBounds i true))).getD []=M'
        rw [hbits,hM']
        rfl
      have hlook:=Ae4 (T:=T) ok hs ho hmt
      have hmix:mix T (o.looksAt l.toArray) (TL l.toArray T listed)=TL l.toArray T listed:=by
        funext y
        unfold mix
        cases hc':(o.looksAt l.toArray).contains y with
        | false=>rfl
        | true=>exact (hlook y (by simpa using hc')).symm
      have heff:=h6 (TL l.toArray T listed)
      rw [hmix] at heff
      have hw:=heff a w S H r
      unfold wpList at hw
      rw [if_pos (by rfl)] at hw
      rcases hw with hw | ⟨_,a',w',st',S',H',_,he,_⟩
      · refine Acv (P:=P) (o:=o) ?_ ?_ (show o.wp P a w _ _ from hw)
        · rintro a' w' ⟨st',S',H',r',_,rfl⟩
          refine hK a' w' S' H' ?_ (hc.set ho hmt)
          rw [hB2]
          cases hd:o.dst with
          | none =>
            rw [hd] at r'
            rw [← Yt ho hd]
            exact r'
          | some d =>
            rw [hd] at r'
            rw [← Akm (T:=T) ok hs ho hun hd,(h7 d hd).2]
            exact r'
        · rintro e a' w' hne ⟨st',S',H',r',he,_⟩
          exact absurd he hne
      · cases he
  · have:B (Array.replicate l.toArray.size false)=m:=by
      have e1:L5 es (Array.replicate l.toArray.size false)=es.map fun _=>false:=by
        unfold L5
        refine List.map_congr_left fun e _=>?_
        simp only [Array.getD_eq_getD_getElem?,Array.getElem?_replicate]
        split <;> rfl
      show (Abv tbl (L5 es (Array.replicate l.toArray.size false))).getD []=m
      rw [e1,h0]
      rfl
    rw [this]
    exact r
  · intro i o _ hl
    simp only [Array.getD_eq_getD_getElem?,Array.getElem?_replicate] at hl
    split at hl <;> simp at hl
  · have hin:∀ e ∈ es,e<l.length:=fun e he=>by simpa using List.all_eq_true.1 hes e he
    have e1:L5 es listed=es.map fun _=>true:=by
      unfold L5
      refine List.map_congr_left fun e he=>?_
      have h1:=hl e (by simpa using hin e he)
      have h2:e<listed.size:=by rw [hs];simpa using hin e he
      simp only [Array.getD_eq_getD_getElem?,Array.getElem?_eq_getElem h2,Option.getD_some] at h1 ⊢
      exact h1
    have:B listed=last:=by
      show (Abv tbl (L5 es listed)).getD []=last
      rw [e1,hlast]
      rfl
    rw [this]
    exact hQ
theorem Aju {id:Nat} {l:List Oper} (es ws:List Nat) (tbl:Agm) {last:List Blk} (hws:Mo l []=ws) (hm:P.follows .mixedOrders=true) (hok:Zl l.toArray=true) (hnd:es.Nodup) (hes:(es.all fun e=>decide (e<l.length))=true) (hfull:Atn ws es tbl=true) (h0:Abv tbl (es.map fun _=>false)=some m) (hlast:Abv tbl (es.map fun _=>true)=some last)
    (h:DM P c l.toArray ws es tbl (fun T=>Q .normal ⟨T,last⟩) 0 l t):AWC P c (.region id l.toArray true) Q ⟨t,m⟩:=(Aot es ws tbl hws hok hnd hes hfull h0 hlast h).awc hm
variable {ops:Array Oper} {ws es:List Nat} {tbl:Agm} {k:(Nat→AV)→Prop} {rest:List Oper} {op:Op} {ty:TypeId} {pos:String} {af:Array Edge} {d:Tmp} {x:AV} {i:Nat}
theorem At1 {md:List Blk} (h:Ad1 (Vs ws es i) (fun _ M=>Aab md M) tbl):Ad1 (Vs ws es i) (fun _ M=>Aa9 md M) tbl:=fun e he hp=>Af9 (h e he hp)
theorem Atz (h:k t):DM P c ops ws es tbl k i [] t:=h
theorem mev {md:List Blk} (hs:Ad1 (Vs ws es i) (fun _ M=>Aab md M) tbl) (hi:es.contains i=false) (hd:decide (d<c.nt)=true) (h:OpV P c ⟨Rn t (Oper.looksAt ops ⟨some d,op,ty,pos,af,none⟩),md⟩ op ty x) (kk:DM P c ops ws es tbl k (i+1) rest (upd t d x)):DM P c ops ws es tbl k i (⟨some d,op,ty,pos,af,none⟩::rest) t :=
  .inl ⟨hi,x,d,rfl,of_decide_eq_true hd,.inl ⟨md,.inl ⟨.inl rfl,h.opD⟩,At1 hs⟩,kk⟩
theorem med {md:List Blk} (hs:Ad1 (Vs ws es i) (fun _ M=>Aab md M) tbl) (hi:es.contains i=false) (hd:decide (d<c.nt)=true) (h:OpD P c ⟨Rn t (Oper.looksAt ops ⟨some d,op,ty,pos,af,none⟩),md⟩ op ty x) (kk:DM P c ops ws es tbl k (i+1) rest (upd t d x)):DM P c ops ws es tbl k i (⟨some d,op,ty,pos,af,none⟩::rest) t :=
  .inl ⟨hi,x,d,rfl,of_decide_eq_true hd,.inl ⟨md,.inl ⟨.inl rfl,h⟩,At1 hs⟩,kk⟩
theorem Atj (hi:es.contains i=false) (hd:decide (d<c.nt)=true) (h:∀ md,OpV P c ⟨Rn t (Oper.looksAt ops ⟨some d,op,ty,pos,af,none⟩),md⟩ op ty x) (kk:DM P c ops ws es tbl k (i+1) rest (upd t d x)):DM P c ops ws es tbl k i (⟨some d,op,ty,pos,af,none⟩::rest) t :=
  .inl ⟨hi,x,d,rfl,of_decide_eq_true hd,.inr fun _ _ _=>.inl ⟨.inl rfl,(h _).opD⟩,kk⟩
theorem mee (j:Nat) (he:es[j]? = some i) (hd:decide (d<c.nt)=true)
    (h:Ad1 (Vs ws es i) (fun b M=>∃ M',Abv tbl (b.set j true)=some M'∧∀ ζ,AWL P c ops (fun e st=>e=.normal∧st=⟨upd (mix t (Oper.looksAt ops ⟨some d,op,ty,pos,af,none⟩) ζ) d x,M'⟩) [⟨some d,op,ty,pos,af,none⟩] ⟨mix t (Oper.looksAt ops ⟨some d,op,ty,pos,af,none⟩) ζ,M⟩) tbl)
    (kk:DM P c ops ws es tbl k (i+1) rest (upd t d x)):DM P c ops ws es tbl k i (⟨some d,op,ty,pos,af,none⟩::rest) t :=
  .inr ⟨j,x,he,.inl rfl,h,fun d' h'=>by cases h';exact of_decide_eq_true hd,kk⟩
theorem Axg (j:Nat) (he:es[j]? = some i)
    (h:Ad1 (Vs ws es i) (fun b M=>∃ M',Abv tbl (b.set j true)=some M'∧∀ ζ,AWL P c ops (fun e st=>e=.normal∧st=⟨mix t (Oper.looksAt ops ⟨none,op,ty,pos,af,none⟩) ζ,M'⟩) [⟨none,op,ty,pos,af,none⟩] ⟨mix t (Oper.looksAt ops ⟨none,op,ty,pos,af,none⟩) ζ,M⟩) tbl)
    (kk:DM P c ops ws es tbl k (i+1) rest t):DM P c ops ws es tbl k i (⟨none,op,ty,pos,af,none⟩::rest) t :=
  .inr ⟨j,.top,he,.inl rfl,h,(fun d' h'=>by cases h'),kk⟩
end
end Go.Proofs.YtkblaobhhoebaaaGreat.Abs
namespace Go.Proofs.YtkblaobhhoebaaaGreat.Abs
open Go.RowKit
theorem Acf {P:Program} {c:Ctx} {st:AS} {op:Op} {ty:TypeId} {e sz n:Nat} {cs:List Lf} (h:Acg P c st op ty e sz n cs):Acg P c st op ty e sz n (cs.map Lf.canon):=by
 intro a w S H r
 obtain ⟨v,w',vals,hrun,hext,hin,hown,hls⟩:=h a w S H r
 exact ⟨v,w',vals,hrun,hext,hin,hown,Ace hls⟩
theorem Ag8 {P:Program} {c:Ctx} {st:AS} {ty:TypeId} {t e sz bytes len:Nat} {zl out out':List Lf} {parts:Array (Nat × Operand)} {xs:List (Nat × SV)} (si:P.underlying t=some (.slice e)) (ei:EI P e sz bytes zl) (hp:Ys st parts.toList xs)
  (hb:V6 (fun i:Nat=>some (i*sz,sz)) (Zy zl (len*sz)) xs out) (hout:out.all Lf.pubd=true) (hlen:len*sz≤16777216) (he:out.map Lf.canon=out'):OpD P c st (.buildSlice t len parts) ty (.s (.one (.sl len out'))) :=
 he ▸ Aa1 ei.p (Acf (Q3 si ei hp hb (List.all_eq_true.1 hout) hlen))
section
variable {P:Program} {c:Ctx} {ops:Array Oper} {ws es:List Nat} {tbl:Agm} {k:(Nat→AV)→Prop} {t:Nat→AV} {rest:List Oper} {op:Op} {ty:TypeId} {pos:String} {af:Array Edge} {d:Tmp} {x:AV} {i:Nat}
theorem Aut (hi:es.contains i=false) (hd:decide (d<c.nt)=true) (h:Ad1 (Vs ws es i) (fun _ M=>OpV P c ⟨Rn t (Oper.looksAt ops ⟨some d,op,ty,pos,af,none⟩),M⟩ op ty x) tbl) (kk:DM P c ops ws es tbl k (i+1) rest (upd t d x)):DM P c ops ws es tbl k i (⟨some d,op,ty,pos,af,none⟩::rest) t :=
 .inl ⟨hi,x,d,rfl,of_decide_eq_true hd,.inr fun e he hp=>.inl ⟨.inl rfl,(h e he hp).opD⟩,kk⟩
end
theorem Aps {P:Program} {c:Ctx} {id:Nat} {x y:Code} {Q Q':Exit→AS→Prop} {st:AS} (G:Type) (sl:G→List (Nat × AV)) (mm:G→List Blk) (pre:G→Prop) (hin:∀ g,pre g→Aoe (mm g).length (sl g)) (hmin:∀ g,pre g→∀ b ∈ mm g,b.inb (mm g).length) (hk:∀ g,pre g→c.m0.length≤(mm g).length)
  (hy:∀ g,pre g→AWC P c y Q ⟨Aex (fun _=>.top) (sl g),mm g⟩) (hx:AWC P c x (Mh id (Q6 (Au6 sl mm pre) Q')) st):AWC P c x (Mh id (Q6 (AWC P c y Q) Q')) st:=by
 refine hx.mono fun e st h=>?_
 cases e with
 | normal=>exact Ab6 h hin hmin hk hy
 | exit id' =>
  simp only [Mh] at h ⊢
  split
  ·rename_i he
   rw [if_pos he] at h
   exact Ab6 h hin hmin hk hy
  ·rename_i he
   rw [if_neg he] at h
   exact h
 | _=>exact h
end Go.Proofs.YtkblaobhhoebaaaGreat.Abs
namespace Go.Proofs.YtkblaobhhoebaaaGreat.Abs
open Go.RowKit Go.Proofs Go.Lib
theorem Hu {P:Program} (w:World) (dT sT ty elem:TypeId) (b o dLen dCap:Nat) (a:Addr) (sLen sCap sz q:Nat) (cs:List Value)
  (hu:P.underlying dT=some (.slice elem)) (hs:(P.info? elem).map (·.size)=some sz) (hq:Nat.min sLen dLen=q) (hn:cs.length=q*sz)
  (hsrc:∀ j v,cs[j]? = some v→w.cell? (a.add j)=some v) (hc:∀ j,j<cs.length→(w.cell? ⟨b,o+j,none⟩).isSome=true) (hf:∀ j,j<cs.length→w.frozen? ⟨b,o+j,none⟩=false) (h1:∀ v ∈ cs,v.oneCell'=true) :
  (Builtin.copy_ #[dT,sT] ty #[.slice (some ⟨b,o,none⟩) dLen dCap,.slice (some a) sLen sCap]).run P w=.ok (goInt q) (w.setCells b o cs):=by
 have ld:=run_loadCells_list (P:=P) w a cs hsrc
 have sd:=run_storeCells_cells (P:=P) b o cs 0 w (by simpa using hc) (by simpa using hf) h1
 rw [hn] at ld
 cases hi:P.info? elem with
 | none=>simp [hi] at hs
 | some i =>
  have e:i.size=sz:=by simpa [hi] using hs
  simp [Builtin.copy_,run_underlying hu,Builtin.lenOf,Builtin.firstCells,sizeOf,typeInfo,hi,e,hq,ld,sd]
def Ad9 {α:Type} (o:Nat) (vs L:List α):List α:=L.take o++vs++L.drop (o+vs.length)
theorem V1 {α:Type} {o:Nat} {vs L:List α} (h:o+vs.length≤L.length):(Ad9 o vs L).length=L.length:=by
 simp only [Ad9,List.length_append,List.length_take,List.length_drop];omega
theorem Aoo {α:Type} (L:List α) (o:Nat) (v:α) (h:o<L.length):L.set o v=L.take o++v::L.drop (o+1):=by
 rw [List.set_eq_take_append_cons_drop,if_pos h]
theorem Me (b:Nat) (t:TypeId):∀ (vs:List Value) (o:Nat) (w:World) (cur:Array Value),w.heap[b]? = some (.cells cur t (0,0))→o+vs.length≤cur.size →
  (w.setCells b o vs).heap[b]? = some (.cells (Ad9 o vs cur.toList).toArray t (0,0))∧(w.setCells b o vs).heap.size=w.heap.size∧(∀ g,g≠b→(w.setCells b o vs).heap[g]? = w.heap[g]?) ∧
   (w.setCells b o vs).os=w.os∧(w.setCells b o vs).tape=w.tape∧(w.setCells b o vs).output=w.output
 | [],o,w,cur,h,hl=>by
  refine ⟨?_,rfl,fun _ _=>rfl,rfl,rfl,rfl⟩
  show w.heap[b]? = _
  rw [h]
  simp [Ad9,List.take_append_drop]
 | v::vs,o,w,cur,h,hl=>by
  rw [List.length_cons] at hl
  have hb:=Array.getElem?_eq_some_iff.1 h
  have h1:(w.setCell ⟨b,o,none⟩ v).heap[b]? = some (.cells (cur.setIfInBounds o v) t (0,0)):=by
   simp only [World.setCell,Array.getElem?_modify,if_true,h,Option.map_some]
   rfl
  obtain ⟨h2,h3,h4,h5,h6,h7⟩:=Me b t vs (o+1) (w.setCell ⟨b,o,none⟩ v) (cur.setIfInBounds o v) h1 (by rw [Array.size_setIfInBounds];omega)
  have e0:w.setCells b o (v::vs)=(w.setCell ⟨b,o,none⟩ v).setCells b (o+1) vs:=rfl
  rw [e0]
  refine ⟨?_,by rw [h3];simp [World.setCell],fun g hg=>by rw [h4 g hg];simp only [World.setCell,Array.getElem?_modify];rw [if_neg (fun e=>hg e.symm)],h5,h6,h7⟩
  rw [h2]
  congr 3
  have ho:o<cur.toList.length:=by rw [Array.length_toList];omega
  have es:(cur.setIfInBounds o v).toList=cur.toList.take o++v::cur.toList.drop (o+1):=by
   rw [Array.toList_setIfInBounds,Aoo _ _ _ ho]
  unfold Ad9
  rw [es,List.length_cons]
  have hto:(cur.toList.take o).length=o:=by rw [List.length_take];omega
  have e1:(cur.toList.take o++v::cur.toList.drop (o+1)).take (o+1)=cur.toList.take o++[v]:=by
   rw [List.take_append,List.take_of_length_le (by omega),hto,show o+1-o=1 by omega];rfl
  have e2:(cur.toList.take o++v::cur.toList.drop (o+1)).drop (o+1+vs.length)=cur.toList.drop (o+(vs.length+1)):=by
   rw [List.drop_append,List.drop_of_length_le (by omega),hto,show o+1+vs.length-o=vs.length+1 by omega,List.drop_succ_cons,List.drop_drop,List.nil_append]
   congr 1;omega
  rw [e1,e2]
  simp
theorem Ao5 {α:Type} (L vs D:List α) (a s m:Nat) (hv:vs.length=s) (hD:D.length=m) (hL:a+s+m≤L.length) :
  (Ad9 a vs (Ad9 (a+s) D L)).take (a+s+m)=L.take a++vs++D:=by
 unfold Ad9
 have h1:(L.take (a+s)++D++L.drop (a+s+D.length)).take a=L.take a:=by
  rw [List.append_assoc,List.take_append_of_le_length (by rw [List.length_take];omega),List.take_take,Nat.min_eq_left (by omega)]
 have h2:(L.take (a+s)++D++L.drop (a+s+D.length)).drop (a+vs.length)=D++L.drop (a+s+D.length):=by
  rw [List.append_assoc,hv,List.drop_left' (by rw [List.length_take];omega)]
 rw [h1,h2,← List.append_assoc,List.take_left' (by simp only [List.length_append,List.length_take];omega)]
theorem Agn {α:Type} (L vs:List α) (a s:Nat) (hv:vs.length=s) (hL:a+s≤L.length):(Ad9 a vs L).take (a+s)=L.take a++vs:=by
 unfold Ad9
 rw [List.take_left' (by simp only [List.length_append,List.length_take];omega)]
structure Zp (E sz b n:Nat) (w w':World) (v:Value) (vals:List Value):Prop where
 os:w'.os=w.os
 tape:w'.tape=w.tape
 output:w'.output=w.output
 size:w.heap.size≤w'.heap.size
 blk:∀ g,g<w.heap.size→g≠b→w'.heap[g]? = w.heap[g]?
 row:∃ G cap cur,(G=b∨w.heap.size≤G)∧v=.slice (some ⟨G,0,none⟩) n cap∧w'.heap[G]? = some (.cells cur E (0,0))∧n≤cap∧cap≤maxLen∧cur.size=cap*sz∧cur.toList.take (n*sz)=vals
theorem U4 {E sz b n c:Nat} {w:World} {cur:Array Value} {vs:List Value} (hg:w.heap[b]? = some (.cells cur E (0,0))) (hc:n+1≤c) (hm:c≤maxLen) (hs:cur.size=c*sz) (hv:vs.length=sz) :
  Zp E sz b (n+1) w (w.setCells b (n*sz) vs) (.slice (some ⟨b,0,none⟩) (n+1) c) (cur.toList.take (n*sz)++vs):=by
 have hfit:n*sz+vs.length≤cur.size:=by
  rw [hs,hv]
  have:=Nat.mul_le_mul_right sz hc
  rw [Nat.add_mul,Nat.one_mul] at this
  exact this
 obtain ⟨h1,h2,h3,h4,h5,h6⟩:=Me b E vs (n*sz) w cur hg hfit
 refine ⟨h4,h5,h6,by rw [h2];exact Nat.le_refl _,fun g _ hne=>h3 g hne,b,c,_,.inl rfl,rfl,h1,hc,hm,?_,?_⟩
 ·rw [List.size_toArray,V1 (by rw [Array.length_toList];exact hfit),Array.length_toList,hs]
 ·rw [List.toList_toArray,Nat.add_mul,Nat.one_mul]
  exact Agn _ _ _ _ hv (by rw [Array.length_toList];omega)
theorem Rz {E sz b n c i:Nat} {w:World} {cur:Array Value} {vs:List Value} (hg:w.heap[b]? = some (.cells cur E (0,0))) (hi:i<n) (hc:n+1≤c) (hm:c≤maxLen) (hs:cur.size=c*sz) (hv:vs.length=sz) :
  Zp E sz b (n+1) w ((w.drew.setCells b ((i+1)*sz) ((cur.toList.take (n*sz)).drop (i*sz))).setCells b (i*sz) vs) (.slice (some ⟨b,0,none⟩) (n+1) c)
   ((cur.toList.take (n*sz)).take (i*sz)++vs++(cur.toList.take (n*sz)).drop (i*sz)):=by
 have hle:(n+1)*sz≤cur.size:=by rw [hs];exact Nat.mul_le_mul_right sz hc
 have hin:i*sz≤n*sz:=Nat.mul_le_mul_right sz (Nat.le_of_lt hi)
 have ei:(i+1)*sz=i*sz+sz:=by rw [Nat.add_mul,Nat.one_mul]
 have en:(n+1)*sz=n*sz+sz:=by rw [Nat.add_mul,Nat.one_mul]
 have hdl:((cur.toList.take (n*sz)).drop (i*sz)).length=n*sz-i*sz:=by rw [List.length_drop,List.length_take,Array.length_toList];omega
 have hl0:cur.toList.length=cur.size:=Array.length_toList
 obtain ⟨h1,h2,h3,h4,h5,h6⟩:=Me b E ((cur.toList.take (n*sz)).drop (i*sz)) ((i+1)*sz) w.drew cur hg (by omega)
 have hp1:=V1 (o:=(i+1)*sz) (vs:=(cur.toList.take (n*sz)).drop (i*sz)) (L:=cur.toList) (by omega)
 obtain ⟨k1,k2,k3,k4,k5,k6⟩:=Me b E vs (i*sz) _ _ h1 (by rw [List.size_toArray,hp1];omega)
 rw [List.toList_toArray] at k1
 have hp2:=V1 (o:=i*sz) (vs:=vs) (L:=Ad9 ((i+1)*sz) ((cur.toList.take (n*sz)).drop (i*sz)) cur.toList) (by rw [hp1];omega)
 refine ⟨k4.trans h4,k5.trans h5,k6.trans h6,by rw [k2,h2];exact Nat.le_refl _,fun g _ hne=>(k3 g hne).trans (h3 g hne),b,c,_,.inl rfl,rfl,k1,hc,hm,?_,?_⟩
 ·rw [List.size_toArray,hp2,hp1,hl0,hs]
 ·rw [List.toList_toArray,List.take_take,Nat.min_eq_left hin]
  have:=Ao5 cur.toList vs ((cur.toList.take (n*sz)).drop (i*sz)) (i*sz) sz (n*sz-i*sz) hv hdl (by omega)
  rw [← ei,show (i+1)*sz+(n*sz-i*sz)=(n+1)*sz by omega] at this
  exact this
theorem Ot {E sz b n c:Nat} {w:World} {row:Array Value} {vals:List Value} (hc:n≤c) (hm:c≤maxLen) (hs:row.size=c*sz) (hv:row.toList.take (n*sz)=vals) :
  Zp E sz b n w (w.drew.alloc (.cells row E)) (.slice (some ⟨w.heap.size,0,none⟩) n c) vals:=by
 refine ⟨rfl,rfl,rfl,by simp,fun g hg _=>Below.heap_alloc w.drew _ g hg,w.heap.size,c,row,.inr (Nat.le_refl _),rfl,?_,hc,hm,hs,hv⟩
 show (w.heap.push (.cells row E))[w.heap.size]? = _
 simp
theorem Ak4 {α:Type} (L vs D:List α) (a s m:Nat) (hv:vs.length=s) (hD:D.length=m) (hL:a+s+m≤L.length) :
  (Ad9 (a+s) D (Ad9 a vs L)).take (a+s+m)=L.take a++vs++D:=by
 have h1:(Ad9 a vs L).take (a+s)=L.take a++vs:=Agn _ _ _ _ hv (by omega)
 show ((Ad9 a vs L).take (a+s)++D++_).take (a+s+m)=_
 rw [h1,List.take_left' (by simp only [List.length_append,List.length_take];omega)]
theorem Tn {E sz n c i:Nat} {w:World} {row:Array Value} {xs vs D:List Value} (hi:i<n) (hc:n+1≤c) (hm:c≤maxLen) (hs:row.size=c*sz) (hv:vs.length=sz) (hD:D.length=(n-i)*sz) (ht:row.toList.take (i*sz)=xs) :
  Zp E sz w.heap.size (n+1) w ((((w.alloc (.cells row E)).drew.setCells w.heap.size (i*sz) vs).drew).setCells w.heap.size ((i+1)*sz) D) (.slice (some ⟨w.heap.size,0,none⟩) (n+1) c) (xs++vs++D):=by
 have hle:(n+1)*sz≤row.size:=by rw [hs];exact Nat.mul_le_mul_right sz hc
 have ei:(i+1)*sz=i*sz+sz:=by rw [Nat.add_mul,Nat.one_mul]
 have e3:(i+1)*sz+(n-i)*sz=(n+1)*sz:=by rw [← Nat.add_mul];congr 1;omega
 have hl0:row.toList.length=row.size:=Array.length_toList
 have hg:(w.alloc (.cells row E)).drew.heap[w.heap.size]? = some (.cells row E (0,0)):=by
  show (w.heap.push (.cells row E))[w.heap.size]? = _
  simp
 obtain ⟨h1,h2,h3,h4,h5,h6⟩:=Me w.heap.size E vs (i*sz) _ row hg (by omega)
 have hp1:=V1 (o:=i*sz) (vs:=vs) (L:=row.toList) (by omega)
 obtain ⟨k1,k2,k3,k4,k5,k6⟩:=Me w.heap.size E D ((i+1)*sz) (((w.alloc (.cells row E)).drew.setCells w.heap.size (i*sz) vs).drew) _ h1 (by rw [List.size_toArray,hp1];omega)
 rw [List.toList_toArray] at k1
 have hp2:=V1 (o:=(i+1)*sz) (vs:=D) (L:=Ad9 (i*sz) vs row.toList) (by rw [hp1];omega)
 refine ⟨k4.trans h4,k5.trans h5,k6.trans h6,?_,fun g hg2 hne=>((k3 g hne).trans (h3 g hne)).trans (Below.heap_alloc w _ g hg2),w.heap.size,c,_,.inl rfl,rfl,k1,hc,hm,?_,?_⟩
 ·rw [k2]
  show w.heap.size≤((w.alloc (.cells row E)).drew.setCells w.heap.size (i*sz) vs).heap.size
  rw [h2]
  show w.heap.size≤(w.heap.push _).size
  rw [Array.size_push];omega
 ·rw [List.size_toArray,hp2,hp1,hl0,hs]
 ·rw [List.toList_toArray,← ht,← e3,ei]
  exact Ak4 row.toList vs D (i*sz) sz ((n-i)*sz) hv hD (by omega)
theorem Wv {P:Program} {F E sz:Nat} {cs vs:List Lf} {n i:Nat} (hsz:0<sz) (hcl:cs.length=n*sz) (hvl:vs.length=sz)
  (hmain:∀ (w:World) (v1:Value) (vb vc:Nat) (cur2:Array Value) (xs ys:List Value),w.ownsRow 0 E sz v1 n xs→w.heap[vb]? = some (.cells cur2 E (0,0))→(∀ j y,ys[j]? = some y→w.cell? ⟨vb,j,none⟩=some y)→ys.length=sz→E2 v1≠some vb →
   (∀ x ∈ xs,x.oneCell'=true)→(∀ y ∈ ys,y.oneCell'=true) →
   Calls P F #[v1,.int .i64 i,.slice (some ⟨vb,0,none⟩) 1 vc] w fun e w'=>∃ v b,e=.returned v∧Zp E sz b (n+1) w w' v (xs.take (i*sz)++ys++xs.drop (i*sz))∧(E2 v1=some b∨w.heap.size≤b)) :
  De P F [.arr E sz 0 cs,.arr E sz 0 vs] [.one (.ls 0 n),.one (.i .i64 (i:Int)),.one (.ls 1 1)] (fun y m'=>y=.s (.one (.ls 0 (n+1)))∧m'=[.arr E sz 0 (cs.take (i*sz)++vs++cs.drop (i*sz)),.dead]):=by
 intro w S H args hS hm hv
 obtain ⟨hl,hv⟩:=hv
 obtain ⟨v1,v2,v3,rfl⟩:∃ a b c,args = #[a,b,c]:=by
  obtain ⟨l⟩:=args
  have h3:l.length=3:=hl.symm
  match l,h3 with
  | [a,b,c],_=>exact ⟨a,b,c,rfl⟩
 have g0:=hv 0 _ v1 rfl rfl
 have g1:=hv 1 _ v2 rfl rfl
 have g2:=hv 2 _ v3 rfl rfl
 obtain ⟨_,_,h0⟩:=(show Cn w S _ H (.ls 0 n) v1 from g0)
 have hv1:v1=H 0:=(h0 E sz 0 cs rfl).2 hcl.symm
 obtain ⟨_,_,h2⟩:=(show Cn w S _ H (.ls 1 1) v3 from g2)
 have hv3:v3=H 1:=(h2 E sz 0 vs rfl).2 (by rw [Nat.one_mul];exact hvl.symm)
 have hv2:v2=.int .i64 i:=by
  cases (show Rep w S (.i .i64 i) v2 from g1)
  rfl
 subst hv1 hv3 hv2
 obtain ⟨_,_,n0,xs,hown,hxs,_⟩:=hm.bl 0 _ rfl
 obtain ⟨_,_,m0,ys,hown2,hys,_⟩:=hm.bl 1 _ rfl
 have hn0:n0=n:=Ph hown hsz (by rw [← hxs.1];exact hcl.symm)
 have hm0:m0=1:=Ph hown2 hsz (by rw [← hys.1,Nat.one_mul];exact hvl.symm)
 subst hn0 hm0
 rcases hown2.2 with ⟨_,h⟩ | ⟨vb,vc,cur2,e2,_,hg2,hc2,_,hs2,ht2⟩
 ·omega
 have hyl:ys.length=sz:=by rw [← hys.1];exact hvl
 have hlsO:∀ {ls:List Lf} {us:List Value},LsR (Rep w S) ls us→∀ u ∈ us,u.oneCell'=true:=fun {ls us} h u hu=>by
  obtain ⟨j,hj⟩:=List.mem_iff_getElem?.1 hu
  have hjl:j<ls.length:=by rw [h.1];exact (List.getElem?_eq_some_iff.1 hj).1
  exact (h.2 j _ u (List.getElem?_eq_getElem hjl) hj).oneCell
 have hcell:∀ j y,ys[j]? = some y→w.cell? ⟨vb,j,none⟩=some y:=fun j y hj=>by
  unfold World.cell?
  rw [hg2]
  have hjl:=(List.getElem?_eq_some_iff.1 hj).1
  rw [← ht2,List.getElem?_take] at hj
  split at hj
  ·simpa using hj
  ·cases hj
 have hown0:E2 (H 0)≠some vb:=fun h=>by
  have h1:Blk.own (.arr E sz 0 vs) (H 1)=some vb:=by rw [e2];rfl
  have:=hm.inj 0 1 _ _ vb rfl rfl h h1
  cases this
 have hpk:∀ p g,p<2→H p≠.pointer (some ⟨g,0,none⟩):=fun p g hp e=>by
  match p,hp with
  | 0,_=>rcases hown.2 with ⟨h,_⟩ | ⟨_,_,_,h,_⟩ <;> (rw [h] at e;cases e)
  | 1,_=>rw [e2] at e;cases e
 rw [e2] at hown2 ⊢
 refine (hmain w (H 0) vb vc cur2 xs ys hown hg2 hcell hyl hown0 (hlsO hxs) (hlsO hys)).mono ?_
 rintro e w' ⟨v,b,rfl,r,hb⟩
 obtain ⟨G,cap,cur,hG,hve,hrow,hcn,hcm,hcs,hct⟩:=r.row
 have hSb:∀ g j,S g j→g<w.heap.size∧g≠b:=fun g j hs=>by
  refine ⟨hS.1 g j hs,fun e=>?_⟩
  subst e
  rcases hb with h | h
  ·have:=hm.sb 0 _ g j rfl h hs
   exact Nat.not_lt_zero _ this
  ·have:=hS.1 g j hs;omega
 have hkeep:∀ g j,S g j→S g j∧w'.cell? ⟨g,j,none⟩=w.cell? ⟨g,j,none⟩:=fun g j hs=>⟨hs,World.cell?_of_block (w:=w) (r.blk g (hSb g j hs).1 (hSb g j hs).2)⟩
 have hGS:∀ j,¬ S G j:=fun j hs=>by
  rcases hG with rfl | h
  ·exact (hSb _ j hs).2 rfl
  ·have:=hS.1 G j hs;omega
 have hbX:∀ g,g=b→g<w.heap.size→Acc [.arr E sz 0 cs,.arr E sz 0 vs] H g:=fun g e hlt=>by
  subst e
  rcases hb with h | h
  ·exact ⟨0,_,rfl,h⟩
  ·omega
 have hexists:∃ o,w'.heap[G]? = some o:=⟨_,hrow⟩
 have hnl:(cs.take (i*sz)++vs++cs.drop (i*sz)).length=(n0+1)*sz:=by
  simp only [List.length_append,List.length_take,List.length_drop,hvl,hcl,Nat.add_mul,Nat.one_mul]
  omega
 refine ⟨v,_,_,S,fun p=>if p=0 then v else H p,rfl,⟨rfl,rfl⟩,⟨r.os,r.tape,r.output,r.size,fun g hlt hx=>r.blk g hlt (fun e=>hx (hbX g e hlt)),fun _ _ h=>h,fun g j hs=>(hkeep g j hs).2,fun _ _ _ _ h=>h⟩,
  hS.turn r.size (fun g j hs=>(hkeep g j hs).2),⟨?_,?_,?_,?_⟩,?_,⟨show 2≤2 by decide,fun p g hp h=>absurd h (hpk p g hp),fun p e' sz' k cs' hp h=>?_,fun p hp hne=>?_⟩,?_⟩
 ·intro p bb hbb
  match p,hbb with
  | 1,hbb=>cases hbb;trivial
  | 0,hbb =>
   cases hbb
   refine ⟨hsz,Nat.zero_le _,n0+1,xs.take (i*sz)++ys++xs.drop (i*sz),⟨?_,.inr ⟨G,cap,cur,hve,Nat.zero_le _,hrow,hcn,hcm,hcs,hct⟩⟩,?_,fun _ _ _ h=>absurd h (Nat.not_lt_zero _)⟩
   ·have:xs.length=n0*sz:=by rw [← hxs.1];exact hcl
    simp only [List.length_append,List.length_take,List.length_drop,hyl,this,Nat.add_mul,Nat.one_mul]
    omega
   ·have key:∀ {l1 l2:List Lf} {u1 u2:List Value},LsR (Rep w' S) l1 u1→LsR (Rep w' S) l2 u2→LsR (Rep w' S) (l1++l2) (u1++u2):=fun {l1 l2 u1 u2} h1 h2=>by
     refine ⟨by rw [List.length_append,List.length_append,h1.1,h2.1],fun j l u hl hu=>?_⟩
     rw [List.getElem?_append] at hl hu
     rw [h1.1] at hl
     split at hl
     ·next hj=>rw [if_pos hj] at hu;exact h1.2 j l u hl hu
     ·next hj=>rw [if_neg hj] at hu;exact h2.2 _ l u hl hu
    have hx':LsR (Rep w' S) cs xs:=hxs.mono fun _ _=>Rep.mono hkeep
    have hy':LsR (Rep w' S) vs ys:=hys.mono fun _ _=>Rep.mono hkeep
    refine key (key ⟨by rw [List.length_take,List.length_take,hx'.1],fun j l u hl hu=>?_⟩ hy') ⟨by rw [List.length_drop,List.length_drop,hx'.1],fun j l u hl hu=>?_⟩
    ·rw [List.getElem?_take] at hl hu
     split at hl
     ·next hj=>rw [if_pos hj] at hu;exact hx'.2 j l u hl hu
     ·cases hl
    ·rw [List.getElem?_drop] at hl hu
     exact hx'.2 _ l u hl hu
  | p+2,hbb=>cases hbb
 ·intro p bb g hbb ho
  match p,hbb with
  | 1,hbb=>cases hbb;cases ho
  | 0,hbb =>
   cases hbb
   have:some G=some g:=by rw [← ho];show _=E2 v;rw [hve];rfl
   cases this
   exact (Array.getElem?_eq_some_iff.1 hrow).1
  | p+2,hbb=>cases hbb
 ·intro p q b1 b2 g h1 h2 o1 o2
  match p,q,h1,h2 with
  | 1,_,h1,_=>cases h1;cases o1
  | 0,1,_,h2=>cases h2;cases o2
  | 0,0,_,_=>rfl
  | 0,q+2,_,h2=>cases h2
  | p+2,_,h1,_=>cases h1
 ·intro p bb g j hbb ho hs
  match p,hbb with
  | 1,hbb=>cases hbb;cases ho
  | 0,hbb =>
   cases hbb
   have:some G=some g:=by rw [← ho];show _=E2 v;rw [hve];rfl
   cases this
   exact absurd hs (hGS j)
  | p+2,hbb=>cases hbb
 ·intro p bb g hbb ho
  match p,hbb with
  | 1,hbb=>cases hbb;cases ho
  | 0,hbb =>
   cases hbb
   have:some G=some g:=by rw [← ho];show _=E2 v;rw [hve];rfl
   cases this
   rcases hG with h | h
   ·by_cases hlt:G<w.heap.size
    ·exact .inr (hbX G h hlt)
    ·exact .inl (by omega)
   ·exact .inl h
  | p+2,hbb=>cases hbb
 ·match p,hp,h with
  | 0,_,h =>
   cases h
   exact ⟨0,cs,rfl,.inr (by rw [hnl,hcl];exact Nat.mul_lt_mul_of_pos_right (Nat.lt_succ_self _) hsz)⟩
  | 1,_,h=>cases h
 ·match p,hp,hne with
  | 0,_,_=>show v≠undef;rw [hve];exact fun h=>by cases h
  | 1,_,hne=>exact hne
 ·show Fx w' S [.arr E sz 0 (cs.take (i*sz)++vs++cs.drop (i*sz)),.dead] (fun p=>if p=0 then v else H p) (.ls 0 (n0+1)) v
  refine ⟨show 0<2 by decide,⟨by rw [hve];rfl,by show v≠undef;rw [hve];exact fun h=>by cases h⟩,fun e' sz' k cs' h=>?_⟩
  cases h
  exact ⟨Nat.le_of_eq hnl.symm,fun _=>rfl⟩
section
variable {P:Program} {c:Ctx} {Q:Exit→AS→Prop} {t:Nat→AV} {m:List Blk}
theorem Ats {l:Nat} (h:Q .normal ⟨t,m⟩):AWC P c (.label l) Q ⟨t,m⟩:=fun _ _ S H r=>wp_label ⟨⟨t,m⟩,S,H,r,h⟩
theorem Asl {x:Code} (hg:∀ l st,¬ Q (.goto l) st) (h:AWC P c x Q ⟨t,m⟩):AWC P c (.scope x) Q ⟨t,m⟩:=fun a w S H r =>
 wp_scope_straight (wp_mono (h a w S H r) fun e a' w' hq=>by
  cases e with
  | goto l =>
   obtain ⟨st,S',H',hr,hq⟩:=hq
   exact absurd hq (hg l _)
  | _=>exact hq)
end
def Amr {α:Type} (by_:Nat) (xs:List α) (i:Int) (vs:List α):Option (List α):=match vs with
 | [x]=>if (0≤i∧i≤(xs.length:Int))∧(xs.length+1)*by_≤140737488355328 then some (xs.take i.toNat++x::xs.drop i.toNat) else none
 | _=>none
theorem Alg {P:Program} {F E sz by_:Nat} {α:Type} {f:α→List Lf} (hf:∀ x,(f x).length=sz) (hB:∀ {cs vs:List Lf} {n i:Nat},cs.length=n*sz→vs.length=sz→i≤n→(n+1)*by_≤140737488355328 →
   De P F [.arr E sz 0 cs,.arr E sz 0 vs] [.one (.ls 0 n),.one (.i .i64 (i:Int)),.one (.ls 1 1)] (fun y m'=>y=.s (.one (.ls 0 (n+1)))∧m'=[.arr E sz 0 (cs.take (i*sz)++vs++cs.drop (i*sz)),.dead]))
  {xs:List α} {i:Int} {vs r:List α} (h:Amr by_ xs i vs=some r) :
  De P F [.arr E sz 0 (xs.flatMap f),.arr E sz 0 (vs.flatMap f)] [.one (.ls 0 xs.length),.one (.i .i64 i),.one (.ls 1 vs.length)] (fun y m'=>y=.s (.one (.ls 0 r.length))∧m'=[.arr E sz 0 (r.flatMap f),.dead]):=by
 unfold Amr at h
 match vs,h with
 | [x],h =>
  obtain ⟨⟨⟨h0,h1⟩,h2⟩,h⟩:=Cy h
  obtain rfl:=Option.some.inj h
  have hb:=hB (cs:=xs.flatMap f) (vs:=[x].flatMap f) (n:=xs.length) (i:=i.toNat) (A1 hf xs) (by rw [A1 hf,List.length_singleton,Nat.one_mul]) (by omega) h2
  rw [Int.toNat_of_nonneg h0] at hb
  refine hb.mono ?_
  rintro y m' ⟨rfl,rfl⟩
  have e1:(xs.take i.toNat++x::xs.drop i.toNat).length=xs.length+1:=by
   rw [List.length_append,List.length_cons,List.length_take,List.length_drop];omega
  rw [e1]
  refine ⟨rfl,?_⟩
  rw [List.flatMap_append,Vx hf,List.flatMap_cons,V9 hf,← List.append_assoc]
  simp
theorem Rel.fillRow {c:Ctx} {t:Nat→AV} {m:List Blk} {a:Act} {w w':World} {S S':Cq} {H H':Nat→Value} (r:Rel c ⟨t,m⟩ a w S H) {p:Nat} (hm:m[p]? = some .hole) (hp0:c.m0.length≤p) {e sz:Nat} {cs:List Lf}
  (hx:Ext w S w' S') (hin:InH w' S') (mem:Mem w' S' [.arr e sz 0 cs] H') (hown:∀ g,E2 (H' 0)=some g→w.heap.size≤g) :
  Rel c ⟨t,m.set p (.arr e sz 0 cs)⟩ a w' S' (R7 H p (H' 0)):=by
 have hp:p<m.length:=(List.getElem?_eq_some_iff.1 hm).1
 have hH:H p=undef:=r.bl p _ hm
 obtain ⟨hsz,hk,n,vals,h1,h2,h3⟩:=mem.bl 0 _ rfl
 refine r.changeH (p:=p) (b':=.arr e sz 0 cs) (v:=H' 0) (by simp) (List.getElem?_set_self hp) (fun q hq=>List.getElem?_set_ne (fun e=>hq e.symm)) (hx.keeps r.sl) (fun g _ h=>(Ye (hH.symm.trans h)).elim)
  (fun e sz k cs _ h _=>by rcases h with h | h;exact absurd hH h;omega) (fun g hg _=>hx.blk g hg) ⟨hsz,Nat.zero_le _,n,vals,h1,h2,fun _ _ _ h=>absurd h (Nat.not_lt_zero _)⟩ (fun g hg=>?_)
  (fun q b g i _ hb ho hs=>hx.back g i (r.lo q b g hb ho).2 hs) (fun g i hg _ hs=>hx.back g i (Nat.lt_of_lt_of_le hg r.ex.size) hs) hin hx.size hx.os hx.tape hx.output
 have hge:=hown g hg
 refine ⟨.inl (Nat.le_trans r.ex.size hge),mem.hp 0 _ g rfl hg,fun q b _ hb ho=>?_,fun i hs=>mem.sb 0 _ g i rfl hg hs⟩
 have:=(r.lo q b g hb ho).2
 omega
section
variable {P:Program} {c:Ctx} {t:Nat→AV} {M:List Blk} {ops:Array Oper} {Q:Exit→AS→Prop} {rest:List Oper} {ty:TypeId} {pos:String} {af:Array Edge} {d:Tmp}
theorem Wa {callee:Operand} {f:FuncId} {args:Array Operand} {ats:Array TypeId} {xs:List SV} {e sz n:Nat} {cs:List Lf} {α:Type} {g:α→List Lf} {ys:List α} (p:Nat) (hd:decide (d<c.nt)=true) (hf:FnI P f) (hcal:Cal ⟨t,M⟩ callee f [] []) (ho:Wu ⟨t,M⟩ args.toList xs)
  (hc:De P f [] xs (fun y m'=>y=.s (.one (.ls 0 n))∧m'=[.arr e sz 0 cs])) (hpub:xs.all (fun x=>x.inbB 0)=true) (hg:∀ x,(g x).length=sz) (hcs:cs=ys.flatMap g) (hn:n=ys.length) (hm:M[p]? = some .hole) (hp0:Nat.ble c.m0.length p=true)
  (k:AWL P c ops Q rest ⟨upd t d (.s (.one (.ls p n))),M.set p (.arr e sz 0 cs)⟩):AWL P c ops Q (⟨some d,.call { callee:=.value callee,args:=args,argTypes:=ats },ty,pos,af,none⟩::rest) ⟨t,M⟩:=by
 subst hcs hn
 intro a w S H r
 obtain ⟨vs,hvs,hrun⟩:=Y7 (pos:=pos) (af:=af) (ty:=ty) (ats:=ats) r hf hcal ho (some d)
 refine wpList_plain rfl fun K hK=>?_
 unfold Oper.wp
 rw [hrun]
 have hvs':Xv (Cn w S [] H) xs vs.toList:=by
  have tie:Tie [] M H H (fun j=>j):=⟨fun p h=>absurd h (Nat.not_lt_zero _),fun _ _=>rfl,fun p b h=>by cases h⟩
  have e:xs.map (SV.ren (fun j=>j))=xs:=by
   have hl:∀ l:Lf,l.ren0 (fun j=>j)=l:=fun l=>by cases l <;> rfl
   have hl2:∀ l:Lf,l.ren (fun j=>j)=l:=fun l=>by
    cases l with
    | fn f a b =>
     show Lf.fn f (a.map _) (b.map _)=_
     rw [show (Lf.ren0 fun j=>j)=id from funext hl,List.map_id,List.map_id]
    | _=>rfl
   have hs:∀ x:SV,x.ren (fun j=>j)=x:=fun x=>by
    cases x with
    | one l=>show SV.one _=_;rw [hl2]
    | agg ls=>show SV.agg _=_;rw [show (Lf.ren fun j=>j)=id from funext hl2,List.map_id]
   rw [show (SV.ren fun j=>j)=id from funext hs,List.map_id]
  exact tie.svsDown hpub (by rw [e];simpa using hvs)
 refine (hc w S H vs r.sl ⟨fun p b h=>by simp at h,fun p b g h=>by simp at h,fun p q b b' g h=>by simp at h,fun p b g i h=>by simp at h⟩ hvs').mono ?_
 rintro e' w' ⟨v,y,m',S',H',rfl,⟨rfl,rfl⟩,ext,hin,mem',hown',_,hav⟩
 have hx:Ext w S w' S':=ext.toExt (fun b ⟨q,bb,h,_⟩=>by simp at h)
 have r':=r.fillRow hm (Nat.le_of_ble_eq_true hp0) hx hin mem' (fun g hg=>by
  rcases hown' 0 _ g rfl hg with h | ⟨q,bb,h,_⟩
  ·exact h
  ·simp at h)
 have hp:p<M.length:=(List.getElem?_eq_some_iff.1 hm).1
 obtain ⟨_,ho1,hv⟩:=(show Fx w' S' [.arr e sz 0 (ys.flatMap g)] H' (.ls 0 ys.length) v from hav)
 have hvH:=(hv e sz 0 _ rfl).2 (A1 hg ys).symm
 refine hK _ _ (k _ _ _ _ (r'.put (of_decide_eq_true hd) ?_))
 show Fx w' S' (M.set p (.arr e sz 0 (ys.flatMap g))) (R7 H p (H' 0)) (.ls p ys.length) v
 refine ⟨by simpa using hp,⟨ho1.1,by rw [Ce];exact ho1.2⟩,fun e2 sz2 k2 cs2 h2=>?_⟩
 rw [List.getElem?_set_self hp] at h2
 cases h2
 exact ⟨Nat.le_of_eq (A1 hg ys).symm,fun _=>by rw [Ce];exact hvH⟩
end
end Go.Proofs.YtkblaobhhoebaaaGreat.Abs
namespace Go.Proofs.YtkblaobhhoebaaaGreat.Abs
open Go.RowKit Go.Lib
end Go.Proofs.YtkblaobhhoebaaaGreat.Abs
namespace Go.Proofs.YtkblaobhhoebaaaGreat.Abs
open Go.RowKit Go.MapKept
open Go.ChangeMaps (setBlock)
def L2 (vof:List Value→Value) (ks:List Value):List (List Value)→Obj→Prop:=fun vss o =>
 ∃ es clock,o=.map es clock∧Stamped es clock∧es.toList.map (·.key)=ks∧es.toList.map (·.val)=vss.map vof
def Ada (vof:List Value→Value) (es:Array MapEntry) (clock:Nat):List (List Value)→Obj→Prop:=fun vss o=>o=.map es clock∧es.toList.map (·.val)=vss.map vof
def Ajl (g since:Nat) (seen:Array Nat) (c0:Nat):List (List Value)→Obj→Prop:=fun _ o=>o=.mapIter (some g) since seen c0
def Uh (vs:List Value):Value:=.agg vs.toArray
def Aes (vs:List Value):Value:=vs.headD undef
theorem Rel.newObj {c:Ctx} {st:AS} {a:Act} {w:World} {S:Cq} {H:Nat→Value} (r:Rel c st a w S H) {o:Obj} {mk:List (List Value)→Obj→Prop} {vss:List (List Value)} {css:List (List Lf)} (ho:Aiz o=true) (hmk:mk vss o)
  (hl:Aki (Rep w S) css vss):Rel c ⟨st.t,st.m++[.obj w.heap.size mk css]⟩ a (w.alloc o) S (R7 H st.m.length (.pointer (some ⟨w.heap.size,0,none⟩))):=by
 have hx:Ext w S (w.alloc o) S:=Ext.alloc w S _
 have hk:=hx.keeps r.sl
 have hf:=r.fresh (Nat.le_refl w.heap.size)
 refine r.change (b':=.obj w.heap.size mk css) (by simp) (by simp) (fun q hq=>?_) hk (fun g h=>absurd h (Nat.lt_irrefl _)) (fun e sz k cs h=>absurd h (Nat.lt_irrefl _))
  (fun g hg _=>Below.heap_alloc w o g hg) ⟨rfl,vss,o,heap_alloc_new w o,ho,hmk,hl.mono (fun l v=>Rep.mono hk)⟩ (fun g hg=>?_) (fun q b g i _ _ _ h=>h) (fun g i _ _ h=>h) (r.sl.ext hx) hx.size rfl rfl rfl
 ·rcases Nat.lt_or_ge q st.m.length with h | h
  ·rw [List.getElem?_append_left h]
  ·rw [List.getElem?_eq_none (by simp;omega),List.getElem?_eq_none h]
 ·have:w.heap.size=g:=by simpa [Blk.own,E2] using hg
  subst this
  exact ⟨.inl r.ex.size,by simp,fun q b _ hb=>hf.1 q b hb,fun i hi=>absurd hi (hf.2 i)⟩
theorem R4 (w:World) (g:Nat) (o:Obj):(setBlock w g o).heap.size=w.heap.size:=by simp [setBlock]
theorem Rel.setObj {c:Ctx} {st:AS} {a:Act} {w:World} {S:Cq} {H:Nat→Value} (r:Rel c st a w S H) {p g:Nat} {mk mk':List (List Value)→Obj→Prop} {css css':List (List Lf)} {o:Obj} {vss:List (List Value)}
  (hm:st.m[p]? = some (.obj g mk css)) (ho:Aiz o=true) (hmk:mk' vss o) (hl:Aki (Rep w S) css' vss):∃ H',Rel c ⟨st.t,st.m.set p (.obj g mk' css')⟩ a (setBlock w g o) S H'∧∀ b i,S b i→S b i∧(setBlock w g o).cell? ⟨b,i,none⟩=w.cell? ⟨b,i,none⟩:=by
 have hp:p<st.m.length:=(List.getElem?_eq_some_iff.1 hm).1
 obtain ⟨h1,vs0,o0,h2,h3,h4,h5⟩:=r.bl p _ hm
 have hlo:=r.lo p _ g hm (by rw [h1];rfl)
 have hset:=heap_set (o':=o) h2
 have hcell:∀ b i,S b i→(setBlock w g o).cell? ⟨b,i,none⟩=w.cell? ⟨b,i,none⟩:=fun b i hs=>by
  refine World.cell?_of_block (w:=w) (hset.2 b fun e=>?_)
  subst e
  have:=r.sb p _ b i hm (by rw [h1];rfl) hs
  exact absurd this (Nat.not_lt_zero _)
 have hk:∀ b i,S b i→S b i∧(setBlock w g o).cell? ⟨b,i,none⟩=w.cell? ⟨b,i,none⟩:=fun b i hs=>⟨hs,hcell b i hs⟩
 refine ⟨_,r.change (m':=st.m.set p (.obj g mk' css')) (b':=.obj g mk' css') (v:=H p) (by simp) (by rw [List.getElem?_set_self hp]) (fun q hq=>by rw [List.getElem?_set_ne (Ne.symm hq)]) hk (fun _ _ _=>rfl) (fun e sz k cs _ h=>by cases h)
  (fun g' _ hg'=>hset.2 g' fun e=>?_) ⟨h1,vss,o,hset.1,ho,hmk,hl.mono (fun l v=>Rep.mono hk)⟩ (fun g' hg'=>?_) (fun q b g i _ _ _ h=>h) (fun g i _ _ h=>h) (r.sl.turn (Nat.le_of_eq (R4 w g o).symm) hcell) (Nat.le_of_eq (R4 w g o).symm) rfl rfl rfl,hk⟩
 ·subst e
  exact hg' _ hm (by rw [h1];rfl)
 ·have hg2:g=g':=by
   rw [h1] at hg'
   simpa [Blk.own,E2] using hg'
  subst hg2
  exact ⟨hlo.1,by rw [R4];exact hlo.2,fun q b hq hb ho'=>hq (r.inj q p b _ g hb hm ho' (by rw [h1];rfl)),fun i hi=>absurd (r.sb p _ g i hm (by rw [h1];rfl) hi) (Nat.not_lt_zero _)⟩
section
variable {P:Program} {c:Ctx} {ops:Array Oper} {Q:Exit→AS→Prop} {rest:List Oper} {ty:TypeId} {pos:String} {af:Array Edge} {d:Tmp} {t:Nat→AV} {m:List Blk}
theorem Aog {tm:TypeId} (vof:List Value→Value) (hd:decide (d<c.nt)=true)
  (k:∀ g,AWL P c ops Q rest ⟨upd t d (.s (.one (.raw (.map (some g))))),m++[.obj g (L2 vof []) []]⟩):AWL P c ops Q (⟨some d,.makeMap tm none,ty,pos,af,none⟩::rest) ⟨t,m⟩:=by
 intro a w S H r
 refine wpList_plain rfl fun K hK=>?_
 unfold Oper.wp
 have hrun:(execOp a.eval ⟨some d,.makeMap tm none,ty,pos,af,none⟩).run P w=.ok (.value (.map (some w.heap.size))) (w.alloc (.map #[] 0)):=by
  simp [execOp,Instr.makeMap]
 rw [hrun]
 have r':=r.newObj (o:=.map #[] 0) (mk:=L2 vof []) (vss:=[]) (css:=[]) rfl ⟨#[],0,rfl,stamped_empty 0,rfl,rfl⟩ ⟨rfl,fun j cs vs h=>by simp at h⟩
 exact hK _ _ (k w.heap.size _ _ _ _ (r'.put (d:=d) (x:=.s (.one (.raw (.map (some w.heap.size))))) (of_decide_eq_true hd) (Iy (.raw _ rfl))))
theorem Abo {st:AS} {a:Act} {w:World} {S:Cq} {H:Nat→Value} (r:Rel c st a w S H) {x:Operand} {g:Nat} (hx:Cz st x=.s (.one (.raw (.map (some g))))):a.eval x=.map (some g):=by
 have h:=B0 r x
 rw [hx] at h
 exact K4 h
theorem Ahg {st:AS} {a:Act} {w:World} {S:Cq} {H:Nat→Value} (r:Rel c st a w S H) {x:Operand} {s:ByteArray} (hx:Cz st x=.s (.one (.s s))):a.eval x=.string s:=by
 have h:=B0 r x
 rw [hx] at h
 exact Aig h
theorem Ahm {es:Array MapEntry} {ss:List ByteArray} (h:es.toList.map (·.key)=ss.map .string):∀ x ∈ es.toList,IsKey .string x.key:=fun x hx=>by
 have:x.key ∈ ss.map Value.string:=by rw [← h];exact List.mem_map.2 ⟨x,hx,rfl⟩
 obtain ⟨s,_,hs⟩:=List.mem_map.1 this
 rw [← hs];trivial
theorem Re {α β:Type} (f:α→α) (g:α→β) (h:β→β) (hgh:∀ x,g (f x)=h (g x)):∀ (l:List α) (i:Nat),(l.modify i f).map g=(l.map g).modify i h
 | [],i=>by cases i <;> rfl
 | x::l,0=>by simp [List.modify,hgh]
 | x::l,i+1=>by
  have:=Re f g h hgh l i
  simp [List.modify] at this ⊢
  exact this
theorem Pe {α:Type} (v:α):∀ (l:List α) (i:Nat),l.modify i (fun _=>v)=l.set i v
 | [],i=>by cases i <;> rfl
 | x::l,0=>rfl
 | x::l,i+1=>by
  have:=Pe v l i
  simp [List.modify] at this ⊢
  exact this
theorem Ale {tm kt et:TypeId} {x y z:Operand} {g p:Nat} {ss:List ByteArray} {css:List (List Lf)} {s:ByteArray} {ls:List Lf} (hu:P.underlying tm=some (.map kt et)) (hkt:P.underlying kt=some .string)
  (hx:Cz ⟨t,m⟩ x=.s (.one (.raw (.map (some g))))) (hy:Cz ⟨t,m⟩ y=.s (.one (.s s))) (hz:Cz ⟨t,m⟩ z=.s (.agg ls)) (hpub:ls.all Lf.pubd=true) (hm:m[p]? = some (.obj g (L2 Uh (ss.map .string)) css))
  (k1:∀ j,ss[j]? = some s→AWL P c ops Q rest ⟨t,m.set p (.obj g (L2 Uh (ss.map .string)) (css.set j ls))⟩)
  (k2:s ∉ ss→AWL P c ops Q rest ⟨t,m.set p (.obj g (L2 Uh ((ss++[s]).map .string)) (css++[ls]))⟩) :
  AWL P c ops Q (⟨none,.mapUpdate tm x y z,ty,pos,af,none⟩::rest) ⟨t,m⟩:=by
 intro a w S H r
 obtain ⟨h1,vss,o,h2,h3,⟨es,clock,rfl,hst,hks,hvs⟩,h5⟩:=r.bl p _ hm
 have ex:=Abo r hx
 have ey:=Ahg r hy
 have hzr:=B0 r z
 rw [hz] at hzr
 obtain ⟨vz,ez,hzl⟩:=hzr
 have hzl':LsR (Rep w S) ls vz.toList:=⟨hzl.1,fun j l v e1 e2=>(hzl.2 j l v e1 e2).rep (List.all_eq_true.1 hpub l (List.mem_of_getElem? e1))⟩
 have hkey:=Ahm hks
 have hlen:css.length=vss.length:=h5.1
 have hev:es.size=vss.length:=by
  have:=congrArg List.length hvs
  simpa using this
 have hes:es.size=ss.length:=by
  have:=congrArg List.length hks
  simpa using this
 refine wpList_plain rfl fun K hK=>?_
 unfold Oper.wp
 rcases findNow_spec (d:=.string) (k:=.string s) trivial es.toList 0 hkey with ⟨f1,f2⟩ | ⟨j,e,f1,f2,f3⟩
 ·have hns:s ∉ ss:=fun hs=>by
   have:Value.string s ∈ es.toList.map (·.key):=by rw [hks];exact List.mem_map.2 ⟨s,hs,rfl⟩
   obtain ⟨e,he,hek⟩:=List.mem_map.1 this
   exact f2 e he hek
  have hrun:(execOp a.eval ⟨none,.mapUpdate tm x y z,ty,pos,af,none⟩).run P w=.ok .skip (setBlock w g (.map (es.push { key:=.string s,val:=.agg vz,born:=clock }) (clock+1))):=by
   simp [execOp,ex,ey,ez,Instr.mapUpdate,run_underlying hu,MapKept.run_getObj_map h2,run_checkKey (k:=.string s) hkt trivial,run_findKey hkt f1,run_setObj_map _ h2,Result.andThen,setBlock]
  rw [hrun]
  have hl2:Aki (Rep w S) (css++[ls]) (vss++[vz.toList]):=⟨by simp [hlen],fun i cs vs e1 e2=>by
   rcases Nat.lt_or_ge i css.length with hi | hi
   ·rw [List.getElem?_append_left hi] at e1
    rw [List.getElem?_append_left (by omega)] at e2
    exact h5.2 i cs vs e1 e2
   ·rw [List.getElem?_append_right hi] at e1
    rw [List.getElem?_append_right (by omega),← hlen] at e2
    rcases Nat.eq_zero_or_pos (i-css.length) with h0 | h0
    ·rw [h0] at e1 e2
     obtain rfl:=Option.some.inj e1
     obtain rfl:=Option.some.inj e2
     exact hzl'
    ·rw [List.getElem?_eq_none (by rw [List.length_singleton];omega)] at e1;cases e1⟩
  obtain ⟨H',r',_⟩:=r.setObj (mk':=L2 Uh ((ss++[s]).map .string)) (css':=css++[ls]) (vss:=vss++[vz.toList]) (o:=.map (es.push { key:=.string s,val:=.agg vz,born:=clock }) (clock+1)) hm rfl
   ⟨_,_,rfl,stamped_push hst f2,by simp [hks],by simp [hvs,Uh]⟩ hl2
  exact hK _ _ (k2 hns _ _ _ _ r')
 ·rw [Nat.zero_add] at f1
  have hj:j<es.size:=by
   have:=(List.getElem?_eq_some_iff.1 f2).1
   simpa using this
  have hsj:ss[j]? = some s:=by
   have:(es.toList.map (·.key))[j]? = some (.string s):=by rw [List.getElem?_map,f2];simp [f3]
   rw [hks,List.getElem?_map] at this
   cases hsj:ss[j]? with
   | none=>rw [hsj] at this;cases this
   | some s'=>rw [hsj] at this;simpa using this
  have hej:es[j]? = some e:=by rw [← Array.getElem?_toList];exact f2
  have hrun:(execOp a.eval ⟨none,.mapUpdate tm x y z,ty,pos,af,none⟩).run P w=.ok .skip (setBlock w g (.map (es.modify j fun e=>{ e with key:=.string s,val:=.agg vz }) clock)):=by
   simp [execOp,ex,ey,ez,Instr.mapUpdate,run_underlying hu,MapKept.run_getObj_map h2,run_checkKey (k:=.string s) hkt trivial,run_findKey hkt f1,run_setObj_map _ h2,Result.andThen,setBlock,hej,f3,run_keyThatStays (d:=.string) (k:=.string s) trivial]
  rw [hrun]
  have hmk:(es.modify j fun e=>{ e with key:=.string s,val:=.agg vz }).toList.map (·.key)=ss.map .string:=by
   rw [Array.toList_modify,Re (fun e:MapEntry=>{ e with key:=.string s,val:=.agg vz }) (fun e:MapEntry=>e.key) (fun _=>Value.string s) (fun _=>rfl),Pe,hks,← List.map_set]
   congr 1
   apply List.ext_getElem?
   intro i
   rw [List.getElem?_set]
   by_cases hij:j=i
   ·subst hij;rw [if_pos rfl,if_pos (by omega),hsj]
   ·rw [if_neg hij]
  have hmv:(es.modify j fun e=>{ e with key:=.string s,val:=.agg vz }).toList.map (·.val)=(vss.set j vz.toList).map Uh:=by
   rw [Array.toList_modify,Re (fun e:MapEntry=>{ e with key:=.string s,val:=.agg vz }) (fun e:MapEntry=>e.val) (fun _=>Value.agg vz) (fun _=>rfl),Pe,hvs,List.map_set]
   simp [Uh]
  have hl2:Aki (Rep w S) (css.set j ls) (vss.set j vz.toList):=⟨by simp [hlen],fun i cs vs e1 e2=>by
   rw [List.getElem?_set] at e1 e2
   by_cases hij:j=i
   ·subst hij
    rw [if_pos rfl,if_pos (by omega)] at e1 e2
    obtain rfl:=Option.some.inj e1
    obtain rfl:=Option.some.inj e2
    exact hzl'
   ·rw [if_neg hij] at e1 e2
    exact h5.2 i cs vs e1 e2⟩
  obtain ⟨H',r',_⟩:=r.setObj (mk':=L2 Uh (ss.map .string)) (css':=css.set j ls) (vss:=vss.set j vz.toList) (o:=.map (es.modify j fun e=>{ e with key:=.string s,val:=.agg vz }) clock) hm rfl
   ⟨_,_,rfl,stamped_modify hst j _ (fun _ _=>rfl) (fun e' _ he'=>by rw [hej] at he';cases he';exact f3.symm),hmk,hmv⟩ hl2
  exact hK _ _ (k1 j hsj _ _ _ _ r')
theorem Aq8 {tm kt et:TypeId} {x y:Operand} {g p:Nat} {ss:List ByteArray} {css:List (List Lf)} {s:ByteArray} (hu:P.underlying tm=some (.map kt et)) (hkt:P.underlying kt=some .string)
  (hx:Cz ⟨t,m⟩ x=.s (.one (.raw (.map (some g))))) (hy:Cz ⟨t,m⟩ y=.s (.one (.s s))) (hm:m[p]? = some (.obj g (L2 Uh (ss.map .string)) css))
  (k1:∀ j,ss[j]? = some s→AWL P c ops Q rest ⟨t,m.set p (.obj g (L2 Uh ((ss.eraseIdx j).map .string)) (css.eraseIdx j))⟩)
  (k2:s ∉ ss→AWL P c ops Q rest ⟨t,m.set p (.obj g (L2 Uh (ss.map .string)) css)⟩) {ats:Array TypeId} (hat:ats = #[tm,kt]) :
  AWL P c ops Q (⟨none,.call { callee:=.builtin .delete,args:=#[x,y],argTypes:=ats },ty,pos,af,none⟩::rest) ⟨t,m⟩:=by
 subst hat
 intro a w S H r
 obtain ⟨h1,vss,o,h2,h3,⟨es,clock,rfl,hst,hks,hvs⟩,h5⟩:=r.bl p _ hm
 have ex:=Abo r hx
 have ey:=Ahg r hy
 have hkey:=Ahm hks
 have hlen:css.length=vss.length:=h5.1
 refine wpList_plain rfl fun K hK=>?_
 unfold Oper.wp
 rcases findNow_spec (d:=.string) (k:=.string s) trivial es.toList 0 hkey with ⟨f1,f2⟩ | ⟨j,e,f1,f2,f3⟩
 ·have hns:s ∉ ss:=fun hs=>by
   have:Value.string s ∈ es.toList.map (·.key):=by rw [hks];exact List.mem_map.2 ⟨s,hs,rfl⟩
   obtain ⟨e,he,hek⟩:=List.mem_map.1 this
   exact f2 e he hek
  have hrun:(execOp a.eval ⟨none,.call { callee:=.builtin .delete,args:=#[x,y],argTypes:=#[tm,kt] },ty,pos,af,none⟩).run P w=.ok (.value (.tuple #[])) (setBlock w g (.map es clock)):=by
   simp [execOp,resolve,invoke,builtin,ex,ey,Builtin.delete_,run_underlying hu,MapKept.run_getObj_map h2,run_checkKey (k:=.string s) hkt trivial,run_findKey hkt f1,run_setObj_map _ h2,Result.andThen,setBlock]
  rw [hrun]
  obtain ⟨H',r',_⟩:=r.setObj (mk':=L2 Uh (ss.map .string)) (css':=css) (vss:=vss) (o:=.map es clock) hm rfl ⟨_,_,rfl,hst,hks,hvs⟩ h5
  exact hK _ _ (k2 hns _ _ _ _ r')
 ·rw [Nat.zero_add] at f1
  have hj:j<es.size:=by
   have:=(List.getElem?_eq_some_iff.1 f2).1
   simpa using this
  have hsj:ss[j]? = some s:=by
   have:(es.toList.map (·.key))[j]? = some (.string s):=by rw [List.getElem?_map,f2];simp [f3]
   rw [hks,List.getElem?_map] at this
   cases hsj:ss[j]? with
   | none=>rw [hsj] at this;cases this
   | some s'=>rw [hsj] at this;simpa using this
  have hrun:(execOp a.eval ⟨none,.call { callee:=.builtin .delete,args:=#[x,y],argTypes:=#[tm,kt] },ty,pos,af,none⟩).run P w=.ok (.value (.tuple #[])) (setBlock w g (.map (es.eraseIdxIfInBounds j) clock)):=by
   simp [execOp,resolve,invoke,builtin,ex,ey,Builtin.delete_,run_underlying hu,MapKept.run_getObj_map h2,run_checkKey (k:=.string s) hkt trivial,run_findKey hkt f1,run_setObj_map _ h2,Result.andThen,setBlock]
  rw [hrun]
  have herase:(es.eraseIdxIfInBounds j).toList=es.toList.eraseIdx j:=by
   unfold Array.eraseIdxIfInBounds
   rw [dif_pos hj,Array.toList_eraseIdx]
  obtain ⟨H',r',_⟩:=r.setObj (mk':=L2 Uh ((ss.eraseIdx j).map .string)) (css':=css.eraseIdx j) (vss:=vss.eraseIdx j) (o:=.map (es.eraseIdxIfInBounds j) clock) hm rfl
   ⟨_,_,rfl,stamped_erase hst j,by rw [herase,Go.ChangeMaps.map_eraseIdx,hks,Go.ChangeMaps.map_eraseIdx],by rw [herase,Go.ChangeMaps.map_eraseIdx,hvs,Go.ChangeMaps.map_eraseIdx]⟩
   ⟨by rw [List.length_eraseIdx,List.length_eraseIdx,hlen],fun i cs vs e1 e2=>by
    rw [List.getElem?_eraseIdx] at e1 e2
    by_cases hij:i<j
    ·rw [if_pos hij] at e1 e2;exact h5.2 i cs vs e1 e2
    ·rw [if_neg hij] at e1 e2;exact h5.2 (i+1) cs vs e1 e2⟩
  exact hK _ _ (k1 j hsj _ _ _ _ r')
theorem Al6 {tm kt et:TypeId} {x:Operand} {g p:Nat} {ks:List Value} {css:List (List Lf)} {vof:List Value→Value} (hd:decide (d<c.nt)=true) (hu:P.underlying tm=some (.map kt et))
  (hx:Cz ⟨t,m⟩ x=.s (.one (.raw (.map (some g))))) (hm:m[p]? = some (.obj g (L2 vof ks) css))
  (k:∀ es clock q,Stamped es clock→es.toList.map (·.key)=ks→es.size=css.length →
   AWL P c ops Q rest ⟨upd t d (.s (.one (.raw (.pointer (some ⟨q,0,none⟩))))),m.set p (.obj g (Ada vof es clock) css)++[.obj q (Ajl g clock #[] clock) []]⟩) :
  AWL P c ops Q (⟨some d,.range tm x,ty,pos,af,none⟩::rest) ⟨t,m⟩:=by
 intro a w S H r
 obtain ⟨h1,vss,o,h2,h3,⟨es,clock,rfl,hst,hks,hvs⟩,h5⟩:=r.bl p _ hm
 have ex:=Abo r hx
 refine wpList_plain rfl fun K hK=>?_
 unfold Oper.wp
 have hrun:(execOp a.eval ⟨some d,.range tm x,ty,pos,af,none⟩).run P w=.ok (.value (.pointer (some ⟨w.heap.size,0,none⟩))) (w.alloc (.mapIter (some g) clock #[] clock)):=by
  simp [execOp,ex,run_range_map w tm kt et g es clock hu h2]
 rw [hrun]
 have hb:setBlock w g (.map es clock)=w:=by
  unfold setBlock
  have hlt:=(Array.getElem?_eq_some_iff.1 h2).1
  have:w.heap.setIfInBounds g (.map es clock)=w.heap:=by
   apply Array.ext_getElem?
   intro i
   rw [Array.getElem?_setIfInBounds]
   by_cases e:g=i
   ·subst e;rw [if_pos rfl,if_pos hlt,h2]
   ·rw [if_neg e]
  rw [this]
 obtain ⟨H1,r1,_⟩:=r.setObj (mk':=Ada vof es clock) (css':=css) (vss:=vss) (o:=.map es clock) hm rfl ⟨rfl,hvs⟩ h5
 rw [hb] at r1
 have r2:=r1.newObj (o:=.mapIter (some g) clock #[] clock) (mk:=Ajl g clock #[] clock) (vss:=[]) (css:=[]) rfl rfl ⟨rfl,fun j cs vs h=>by simp at h⟩
 have hsz:es.size=css.length:=by
  have:=congrArg List.length hvs
  rw [h5.1];simpa using this
 exact hK _ _ (k es clock w.heap.size hst hks hsz _ _ _ _ (r2.put (d:=d) (x:=.s (.one (.raw (.pointer (some ⟨w.heap.size,0,none⟩))))) (of_decide_eq_true hd) (Iy (.raw _ rfl))))
theorem Apv {w:World} {S:Cq} {es:Array MapEntry} {css:List (List Lf)} {vss:List (List Value)} {ss:List ByteArray} (hks:es.toList.map (·.key)=ss.map .string) (hvs:es.toList.map (·.val)=vss.map Uh) (h5:Aki (Rep w S) css vss) {j:Nat} {e:MapEntry} (hj:es[j]? = some e) :
  ∃ s cs vs,ss[j]? = some s∧css[j]? = some cs∧LsR (Rep w S) cs vs∧e.key=.string s∧e.val=.agg vs.toArray:=by
 have hj':es.toList[j]? = some e:=by rw [Array.getElem?_toList];exact hj
 have h1:(ss.map Value.string)[j]? = some e.key:=by rw [← hks,List.getElem?_map,hj'];rfl
 have h2:(vss.map Uh)[j]? = some e.val:=by rw [← hvs,List.getElem?_map,hj'];rfl
 rw [List.getElem?_map] at h1 h2
 cases hs:ss[j]? with
 | none=>rw [hs] at h1;cases h1
 | some s =>
 cases hv:vss[j]? with
 | none=>rw [hv] at h2;cases h2
 | some vs =>
 have hlt:j<css.length:=by rw [h5.1];exact (List.getElem?_eq_some_iff.1 hv).1
 rw [hs] at h1;rw [hv] at h2
 exact ⟨s,_,vs,rfl,List.getElem?_eq_getElem hlt,h5.2 j _ vs (List.getElem?_eq_getElem hlt) hv,(Option.some.inj h1).symm,(Option.some.inj h2).symm⟩
theorem Amw {x:Operand} {g q p pi since c0:Nat} {es:Array MapEntry} {clock:Nat} {seen:Array Nat} {css:List (List Lf)} {ss:List ByteArray} (hd:decide (d<c.nt)=true)
  (hx:Cz ⟨t,m⟩ x=.s (.one (.raw (.pointer (some ⟨q,0,none⟩))))) (hm:m[p]? = some (.obj g (Ada Uh es clock) css)) (hi:m[pi]? = some (.obj q (Ajl g since seen c0) [])) (hold:∀ x ∈ es.toList,x.born<since) (hsc:since≤c0)
  (hks:es.toList.map (·.key)=ss.map .string)
  (k0:(leftOf es seen).size=0→AWL P c ops Q rest ⟨upd t d (.tup [.one (.b false)]),m⟩)
  (k1:∀ (j:Nat) e s cs,es[j]? = some e→e ∈ (leftOf es seen).toList→ss[j]? = some s→css[j]? = some cs→AWL P c ops Q rest ⟨upd t d (.tup [.one (.b true),.one (.s s),.agg cs]),m.set pi (.obj q (Ajl g since (seen.push e.born) clock) [])⟩) :
  AWL P c ops Q (⟨some d,.next x false,ty,pos,af,none⟩::rest) ⟨t,m⟩:=by
 intro a w S H r
 obtain ⟨g1,vss,o,g2,g3,⟨rfl,hvs⟩,g5⟩:=r.bl p _ hm
 obtain ⟨i1,vss2,o2,i2,i3,rfl,i5⟩:=r.bl pi _ hi
 have ex:a.eval x=.pointer (some ⟨q,0,none⟩):=by
  have h:=B0 r x
  rw [hx] at h
  exact K4 h
 have hrw:(execOp a.eval ⟨some d,.next x false,ty,pos,af,none⟩).run P w=((Instr.next (.pointer (some ⟨q,0,none⟩)) false ty).run P w).andThen fun v w'=>.ok (.value v) w':=by
  simp [execOp,ex]
 refine wpList_plain rfl fun K hK=>?_
 unfold Oper.wp
 rw [hrw]
 rcases run_next_at (P:=P) w ty q g since c0 seen es clock i2 g2 hold hsc with ⟨h0,hr⟩ | ⟨e,he,w1,hw1,hr⟩
 ·rw [hr]
  exact hK _ _ (k0 h0 _ _ _ _ (r.put (d:=d) (x:=.tup [.one (.b false)]) (of_decide_eq_true hd) ⟨_,rfl,rfl,fun j x u h1 h2=>by
   cases j with
   | zero=>obtain rfl:=Option.some.inj h1;obtain rfl:=Option.some.inj h2;exact Cn.of_rep (m:=m) (H:=H) (.b _)
   | succ j=>simp at h1⟩))
 ·rw [hr]
  have hmem:e ∈ es.toList:=by unfold leftOf at he;simp at he ⊢;exact he.1
  obtain ⟨j,hj⟩:=List.mem_iff_getElem?.1 hmem
  have hj':es[j]? = some e:=by rw [← Array.getElem?_toList];exact hj
  have r1:Rel c ⟨t,m⟩ a w1 S H:=by
   rcases hw1 with rfl | rfl
   ·exact r
   ·exact r.ext (Ext.drew w S) (r.sl.ext (Ext.drew w S))
  obtain ⟨g1',vss',o',g2',g3',⟨ho',hvs'⟩,g5'⟩:=r1.bl p _ hm
  obtain ⟨s,cs,vs,e1,e2,e3,e4,e5⟩:=Apv hks hvs' g5' hj'
  obtain ⟨H',r2,hk2⟩:=r1.setObj (mk':=Ajl g since (seen.push e.born) clock) (css':=[]) (vss:=[]) (o:=.mapIter (some g) since (seen.push e.born) clock) hi rfl rfl ⟨rfl,fun j cs vs h=>by simp at h⟩
  refine hK _ _ (k1 j e s cs hj' he e1 e2 _ _ _ _ (r2.put (d:=d) (x:=.tup [.one (.b true),.one (.s s),.agg cs]) (of_decide_eq_true hd) ⟨_,rfl,rfl,fun i x u h1 h2=>?_⟩))
  match i with
  | 0=>obtain rfl:=Option.some.inj h1;obtain rfl:=Option.some.inj h2;exact Cn.of_rep (m:=m.set pi (.obj q (Ajl g since (seen.push e.born) clock) [])) (H:=H') (.b _)
  | 1=>obtain rfl:=Option.some.inj h1;obtain rfl:=Option.some.inj h2;rw [e4];exact Cn.of_rep (m:=m.set pi (.obj q (Ajl g since (seen.push e.born) clock) [])) (H:=H') (.s _)
  | 2=>obtain rfl:=Option.some.inj h1;obtain rfl:=Option.some.inj h2;rw [e5];exact ⟨_,rfl,show LsR _ _ vs.toArray.toList from by rw [List.toList_toArray];exact e3.mono fun l v h=>Cn.of_rep (Rep.mono hk2 h)⟩
  | i+3=>simp at h1
theorem Amf {x:Operand} {g q p pi since:Nat} {es:Array MapEntry} {clock:Nat} {seen:Array Nat} {css:List (List Lf)} {ss:List ByteArray} {j:Nat} {e:MapEntry} {s:ByteArray} {cs:List Lf} (hd:decide (d<c.nt)=true)
  (hx:Cz ⟨t,m⟩ x=.s (.one (.raw (.pointer (some ⟨q,0,none⟩))))) (hm:m[p]? = some (.obj g (Ada Uh es clock) css)) (hi:m[pi]? = some (.obj q (Ajl g since (seen.push e.born) clock) [])) (hn:(es.toList.map (·.born)).Nodup)
  (hks:es.toList.map (·.key)=ss.map .string) (hj:es[j]? = some e) (hs:ss[j]? = some s) (hcs:css[j]? = some cs)
  (k:AWL P c ops Q rest ⟨upd t d (.tup [.one (.s s),.agg cs]),m⟩) :
  AWL P c ops Q (⟨some d,.entry x,ty,pos,af,none⟩::rest) ⟨t,m⟩:=by
 intro a w S H r
 obtain ⟨g1,vss,o,g2,g3,⟨rfl,hvs⟩,g5⟩:=r.bl p _ hm
 obtain ⟨i1,vss2,o2,i2,i3,rfl,i5⟩:=r.bl pi _ hi
 have ex:a.eval x=.pointer (some ⟨q,0,none⟩):=by
  have h:=B0 r x
  rw [hx] at h
  exact K4 h
 obtain ⟨s',cs',vs,e1,e2,e3,e4,e5⟩:=Apv hks hvs g5 hj
 rw [hs] at e1;rw [hcs] at e2
 obtain rfl:=Option.some.inj e1
 obtain rfl:=Option.some.inj e2
 have hmem:e ∈ es.toList:=List.mem_of_getElem? (i:=j) (by rw [Array.getElem?_toList];exact hj)
 have hrw:(execOp a.eval ⟨some d,.entry x,ty,pos,af,none⟩).run P w=.ok (.value (.tuple #[e.key,e.val])) w:=by
  simp [execOp,ex,run_entry_at w q g since seen es clock e i2 g2 hmem hn]
 refine wpList_plain rfl fun K hK=>?_
 unfold Oper.wp
 rw [hrw]
 refine hK _ _ (k _ _ _ _ (r.put (d:=d) (x:=.tup [.one (.s s),.agg cs]) (of_decide_eq_true hd) ⟨_,rfl,rfl,fun i x u h1 h2=>?_⟩))
 match i with
 | 0=>obtain rfl:=Option.some.inj h1;obtain rfl:=Option.some.inj h2;rw [e4];exact Cn.of_rep (m:=m) (H:=H) (.s _)
 | 1=>obtain rfl:=Option.some.inj h1;obtain rfl:=Option.some.inj h2;rw [e5];exact ⟨_,rfl,show LsR _ _ vs.toArray.toList from by rw [List.toList_toArray];exact e3.mono fun l v h=>Cn.of_rep h⟩
 | i+2=>simp at h1
end
end Go.Proofs.YtkblaobhhoebaaaGreat.Abs
namespace Go.Proofs.YtkblaobhhoebaaaGreat.Abs
open Go.RowKit Go.Shelf Go.Sort
open Go.Proofs (sortWorldK)
theorem Akt {R:Lf→Value→Prop}:∀ {a b:List Lf} {vs:List Value},LsR R (a++b) vs→LsR R a (vs.take a.length)∧LsR R b (vs.drop a.length):=fun {a b vs} h=>by
 obtain ⟨h1,h2⟩:=h
 rw [List.length_append] at h1
 refine ⟨⟨by rw [List.length_take];omega,fun j l v e1 e2=>?_⟩,⟨by rw [List.length_drop];omega,fun j l v e1 e2=>?_⟩⟩
 ·have hj:=(List.getElem?_eq_some_iff.1 e1).1
  rw [List.getElem?_take,if_pos hj] at e2
  exact h2 j l v (by rw [List.getElem?_append_left hj];exact e1) e2
 ·rw [List.getElem?_drop] at e2
  exact h2 (a.length+j) l v (by rw [List.getElem?_append_right (by omega)];simpa using e1) e2
theorem Aoh {R:Lf→Value→Prop} {a b:List Lf} {va vb:List Value} (ha:LsR R a va) (hb:LsR R b vb):LsR R (a++b) (va++vb):=by
 refine ⟨by rw [List.length_append,List.length_append,ha.1,hb.1],fun j l v e1 e2=>?_⟩
 rcases Nat.lt_or_ge j a.length with hj | hj
 ·rw [List.getElem?_append_left hj] at e1
  rw [List.getElem?_append_left (by rw [← ha.1];exact hj)] at e2
  exact ha.2 j l v e1 e2
 ·rw [List.getElem?_append_right hj] at e1
  rw [List.getElem?_append_right (by rw [← ha.1];exact hj),← ha.1] at e2
  exact hb.2 _ l v e1 e2
theorem Apj {α:Type} {f:α→List Lf} {R:Lf→Value→Prop}:∀ {xs:List α} {vals:List Value},LsR R (xs.flatMap f) vals→∃ d:List { p:α × List Value // LsR R (f p.1) p.2 },d.map (fun p=>p.1.1)=xs∧d.flatMap (fun p=>p.1.2)=vals
 | [],vals,h=>by
  have:vals=[]:=List.eq_nil_of_length_eq_zero h.1.symm
  exact ⟨[],rfl,this.symm⟩
 | x::xs,vals,h=>by
  rw [List.flatMap_cons] at h
  obtain ⟨h1,h2⟩:=Akt h
  obtain ⟨d,e1,e2⟩:=Apj h2
  refine ⟨⟨(x,vals.take (f x).length),h1⟩::d,by rw [List.map_cons,e1],?_⟩
  rw [List.flatMap_cons,e2]
  exact List.take_append_drop ..
theorem Alj {α:Type} {f:α→List Lf} {R:Lf→Value→Prop}:∀ d:List { p:α × List Value // LsR R (f p.1) p.2 },LsR R ((d.map (fun p=>p.1.1)).flatMap f) (d.flatMap (fun p=>p.1.2))
 | []=>⟨rfl,fun j l v h=>by simp at h⟩
 | p::d=>by
  rw [List.map_cons,List.flatMap_cons,List.flatMap_cons]
  exact Aoh p.2 (Alj d)
theorem Am1 {β γ:Type} {g:β→List γ} {k:Nat} (hk:∀ x,(g x).length=k) (xs:List β) {j i:Nat} (hi:i<k) (hj:j<xs.length):(xs.flatMap g)[j*k+i]? = (g xs[j])[i]? := by
 have e:(xs.flatMap g)[j*k+i]? = ((xs.flatMap g).drop (j*k))[i]? := by rw [List.getElem?_drop]
 have h2:(xs.flatMap g).drop (j*k)=(xs.drop j).flatMap g:=by
  clear e hj
  induction xs generalizing j with
  | nil=>simp
  | cons a l ih =>
   cases j with
   | zero=>simp
   | succ j =>
    rw [List.flatMap_cons,List.drop_append,List.drop_succ_cons,← ih,hk]
    rw [List.drop_eq_nil_of_le (by rw [hk,Nat.succ_mul];omega),List.nil_append]
    congr 1
    rw [Nat.succ_mul];omega
 rw [e,h2,List.drop_eq_getElem_cons hj,List.flatMap_cons,List.getElem?_append_left (by rw [hk];exact hi)]
theorem Abx {β:Type} [Inhabited β] {enc:β→List Value} {k:Nat} (hk:∀ x,(enc x).length=k) (d:Array β):(flatK enc k d).toList=d.toList.flatMap enc:=by
 have hlen:(d.toList.flatMap enc).length=d.size*k:=by
  have:∀ l:List β,(l.flatMap enc).length=l.length*k:=fun l=>by
   induction l with
   | nil=>simp
   | cons a l ih=>rw [List.flatMap_cons,List.length_append,ih,hk,List.length_cons,Nat.succ_mul,Nat.add_comm]
  rw [this];simp
 apply List.ext_getElem
 ·rw [hlen];simp
 ·intro t h1 h2
  rw [hlen] at h2
  have k0:0<k:=by
   rcases Nat.eq_zero_or_pos k with h | h
   ·rw [h] at h2;simp at h2
   ·exact h
  have hj:t / k<d.size:=Nat.div_lt_of_lt_mul (by rw [Nat.mul_comm];exact h2)
  have hi:t % k<k:=Nat.mod_lt _ k0
  have ht:(flatK enc k d)[t]! = (flatK enc k d)[t]'(by simpa using h2):=getElem!_pos _ t _
  have e1:(flatK enc k d).toList[t]=(enc d[t / k])[t % k]'(by rw [hk];exact hi):=by
   rw [Array.getElem_toList,← ht,get_flatK enc k d t h2,getElem!_pos d _ hj,getElem!_pos _ _ (by rw [hk];exact hi)]
  have e2:=Am1 hk d.toList (j:=t / k) hi (by simpa using hj)
  have e3:t / k*k+t % k=t:=by rw [Nat.mul_comm];exact Nat.div_add_mod t k
  have e4:d.toList[t / k]'(by simpa using hj)=d[t / k]:=Array.getElem_toList ..
  rw [e3,List.getElem?_eq_getElem (by rw [hlen];exact h2),e4,List.getElem?_eq_getElem (by rw [hk];exact hi)] at e2
  rw [e1,Option.some.inj e2]
section
variable {β:Type} [Inhabited β] {enc:β→List Value} {k:Nat} {w:World} {b n:Nat} {d:Array β} {os:Array Obj} {cur:Array Value} {e:TypeId}
theorem Aqr (hb:w.heap[b]? = some (.cells cur e (0,0))) (hd:d.size*k≤cur.size):(sortWorldK enc k w b 0 n d os).heap[b]? = some (.cells ((flatK enc k d).toList++cur.toList.drop (d.size*k)).toArray e (0,0)):=by
 have hlt:=(Array.getElem?_eq_some_iff.1 hb).1
 have h1:(sortWorldK enc k w b 0 n d os).heap[b]? = (putRowK enc k (Sort.ahead w n) b 0 d).heap[b]? := by
  show ((putRowK enc k (Sort.ahead w n) b 0 d).heap++os)[b]? = _
  rw [Array.getElem?_append_left (by simp [putRowK,Sort.ahead];exact hlt)]
 rw [h1]
 show ((Sort.ahead w n).heap.modify b _)[b]? = _
 rw [Array.getElem?_modify,if_pos rfl]
 show (w.heap[b]?).map _=_
 rw [hb]
 show some (Obj.cells (putCells id 0 (flatK enc k d) cur) e (0,0))=_
 congr 2
 apply Array.ext_getElem?
 intro i
 rw [putCells,Array.getElem?_mapIdx]
 simp only [size_flatK,Nat.zero_le,true_and,Nat.zero_add,Nat.sub_zero,id]
 have hto:((flatK enc k d).toList++cur.toList.drop (d.size*k)).toArray[i]? = ((flatK enc k d).toList++cur.toList.drop (d.size*k))[i]? := List.getElem?_toArray ..
 rw [hto]
 rcases Nat.lt_or_ge i (d.size*k) with hi | hi
 ·rw [List.getElem?_append_left (by simpa using hi),Array.getElem?_toList,Array.getElem?_eq_getElem (show i<cur.size by omega),Array.getElem?_eq_getElem (show i<(flatK enc k d).size by simpa using hi),Option.map_some,if_pos hi,getElem!_pos]
 ·rw [List.getElem?_append_right (by simpa using hi),List.getElem?_drop,Array.getElem?_toList,Array.length_toList,size_flatK,show d.size*k+(i-d.size*k)=i by omega]
  cases cur[i]? with
  | none=>rfl
  | some v=>rw [Option.map_some,if_neg (by omega)]
theorem Ab4 {i:Nat} (hi:i<w.heap.size) (hne:i≠b):(sortWorldK enc k w b 0 n d os).heap[i]? = w.heap[i]? := by
 have h1:(sortWorldK enc k w b 0 n d os).heap[i]? = (putRowK enc k (Sort.ahead w n) b 0 d).heap[i]? := by
  show ((putRowK enc k (Sort.ahead w n) b 0 d).heap++os)[i]? = _
  rw [Array.getElem?_append_left (by simp [putRowK,Sort.ahead];exact hi)]
 rw [h1]
 show ((Sort.ahead w n).heap.modify b _)[i]? = _
 rw [Array.getElem?_modify,if_neg (fun h=>hne h.symm)]
 rfl
theorem Aba:w.heap.size≤(sortWorldK enc k w b 0 n d os).heap.size:=by
 show _≤((putRowK enc k (Sort.ahead w n) b 0 d).heap++os).size
 rw [Array.size_append]
 simp [putRowK,Sort.ahead]
end
theorem Atv {P:Program} {ρ:Ren} (L:Go.Proofs.SlLaysF0.n6 P ρ) {α:Type} {f:α→List Lf} {e sz g:Nat} (cf:α→α→Int) (hf:∀ x,(f x).length=sz) (hsz:0<sz)
  (aE:∀ w,(isAgg (ρ.t 24)).run P w=.ok true w) (zE:∀ w,(Go.sizeOf (ρ.t 24)).run P w=.ok sz w) (hO:SWO (Go.Proofs.ltOf cf)) (eg:∀ args w,(callFunc g args).run P w=.ok (.enter g args) w)
  (hg:∀ (W:World) (S:Cq) (x y:α) (vx vy:List Value),(∀ b i,S b i→b<W.heap.size)→LsR (Rep W S) (f x) vx→LsR (Rep W S) (f y) vy→Calls P g #[.agg vx.toArray,.agg vy.toArray] W fun e w'=>e=.returned (.int .i64 (cf x y))∧∃ q os',w'=grow (W.drewN q) os')
  {xs ys:List α} (hn:xs.length≤1000000000000000000) (hys:∀ zs:List α,zs.Perm xs→zs.Pairwise (fun a b=>Go.Proofs.ltOf cf b a=false)→zs=ys) :
  De P (ρ.f 6) [.arr e sz 0 (xs.flatMap f)] [.one (.ls 0 xs.length),.one (.raw (.func (.func g) #[] #[]))] (fun y m'=>y=.tup []∧m'=[.arr e sz 0 (ys.flatMap f)]):=by
 intro w S H vs hin mem hvs
 obtain ⟨hvl,hvr⟩:=hvs
 obtain ⟨v0,v1,rfl⟩:∃ v0 v1,vs = #[v0,v1]:=by
  obtain ⟨l⟩:=vs
  match l,hvl with
  | [a,b],_=>exact ⟨a,b,rfl⟩
 have hv1:v1=.func (.func g) #[] #[]:=K4 (hvr 1 _ v1 rfl rfl)
 obtain ⟨_,_,hv0⟩:=(show Fx w S [.arr e sz 0 (xs.flatMap f)] H (.ls 0 xs.length) v0 from hvr 0 _ v0 rfl rfl)
 have hv0:=(hv0 e sz 0 _ rfl).2 (A1 hf xs).symm
 obtain ⟨_,_,n',vals,hown,hls,_⟩:=mem.bl 0 _ rfl
 have hn':n'=xs.length:=Ph hown hsz (by rw [← hls.1,A1 hf])
 subst hn'
 have hin':=hin
 subst hv1
 have none0:xs.length=0→(∃ p cap,v0=.slice p 0 cap)→Calls P (ρ.f 6) #[v0,.func (.func g) #[] #[]] w fun e' w'=>∃ v x m' S' H',e'=.returned v∧(x=.tup []∧m'=[.arr e sz 0 (ys.flatMap f)])∧Ve (Acc [.arr e sz 0 (xs.flatMap f)] H) w S w' S'∧InH w' S'∧Mem w' S' m' H' ∧
   (∀ (p:Nat) (b:Blk) (g:Nat),m'[p]? = some b→b.own (H' p)=some g→w.heap.size≤g∨Acc [.arr e sz 0 (xs.flatMap f)] H g)∧Au3 [.arr e sz 0 (xs.flatMap f)] H m' H'∧AVR (Cn w' S' m' H') x v:=fun h0 ⟨p,cap,hp⟩=>by
  have hx:xs=[]:=List.eq_nil_of_length_eq_zero h0
  have hy:ys=xs:=(hys xs (List.Perm.refl _) (by rw [hx];exact List.Pairwise.nil)).symm
  subst hp
  refine (Go.Proofs.AnyF.slices_SortFunc_none { L with } p cap _ w).mono ?_
  rintro e' w' ⟨rfl,rfl⟩
  rw [hy]
  exact ⟨_,.tup [],_,S,H,rfl,⟨rfl,rfl⟩,Ve.refl _ _ _,hin,mem,fun p b g hb ho=>.inr ⟨p,b,hb,ho⟩,⟨Nat.le_refl _,fun _ _ _ _=>rfl,fun p e' sz' k cs _ hm=>⟨k,cs,hm,.inl ⟨rfl,rfl⟩⟩,fun _ _ h=>h⟩,Kq⟩
 rcases hown.2 with ⟨hH,h0⟩ | ⟨blk,cap,cur,hH,_,hheap,hcap,hmax,hcs,hvals⟩
 ·exact none0 h0 ⟨none,0,hv0.trans hH⟩
 rcases Nat.eq_zero_or_pos xs.length with h0 | hpos
 ·exact none0 h0 ⟨_,_,by rw [hv0,hH,h0]⟩
 obtain ⟨d,hd1,hd2⟩:=Apj hls
 have hdl:d.length=xs.length:=by rw [← hd1,List.length_map]
 obtain ⟨p0,hp0⟩:∃ p0,d[0]? = some p0:=⟨_,List.getElem?_eq_getElem (by omega)⟩
 let β:={ p:α × List Value // LsR (Rep w S) (f p.1) p.2 }
 let _:Inhabited β:=⟨p0⟩
 let enc:β→List Value:=fun p=>p.1.2
 have hk:∀ x:β,(enc x).length=sz:=fun x=>by rw [← x.2.1,hf]
 have h1:∀ x:β,∀ v ∈ enc x,v.oneCell'=true:=fun x v hv=>by
  obtain ⟨j,hj⟩:=List.mem_iff_getElem?.1 hv
  have hjl:j<(f x.1.1).length:=by rw [x.2.1];exact (List.getElem?_eq_some_iff.1 hj).1
  exact Rep.oneCell (x.2.2 j _ v (List.getElem?_eq_getElem hjl) hj)
 have hblk:blk<w.heap.size:=(Array.getElem?_eq_some_iff.1 hheap).1
 have hnoS:∀ i,¬ S blk i:=fun i hi=>absurd (mem.sb 0 _ blk i rfl (by show E2 (H 0)=_;rw [hH];rfl) hi) (Nat.not_lt_zero _)
 have hflat:(flatK enc sz d.toArray).toList=vals:=by rw [Abx hk];exact hd2
 have hcurlen:d.toArray.size*sz≤cur.size:=by
  rw [hcs];simp only [List.size_toArray,hdl];exact Nat.mul_le_mul_right _ hcap
 have hH':HoldsK enc sz w blk 0 d.toArray:=fun j hj=>by
  rw [size_flatK,List.size_toArray] at hj
  have hjv:j<vals.length:=by rw [← hls.1,A1 hf,← hdl];exact hj
  have hval:(flatK enc sz d.toArray)[j]! = vals[j]:=by
   rw [getElem!_pos _ _ (by rw [size_flatK,List.size_toArray];exact hj),← Array.getElem_toList]
   simp only [hflat]
  have hcur:cur.toList[j]? = some vals[j]:=by
   have:(cur.toList.take (xs.length*sz))[j]? = some vals[j]:=by rw [hvals,List.getElem?_eq_getElem hjv]
   rw [List.getElem?_take] at this
   split at this
   ·exact this
   ·cases this
  refine ⟨?_,?_⟩
  ·rw [Nat.zero_add,cell_of_row w _ _ cur e (0,0) hheap,hval]
   simpa using hcur
  ·rw [Nat.zero_add]
   unfold World.frozen?
   rw [hheap]
   simp
 have hcmp:Go.Proofs.CmpLays P g #[] enc sz (fun x y:β=>cf x.1.1 y.1.1) blk 0 d.toArray.size w:=fun m os dk hdk x y=>by
  have hkeep:∀ b i,S b i→S b i∧(sortWorldK enc sz w blk 0 m dk os).cell? ⟨b,i,none⟩=w.cell? ⟨b,i,none⟩:=fun b i hs =>
   ⟨hs,World.cell?_of_block (w:=w) (Ab4 (hin.1 b i hs) fun e=>hnoS i (e ▸ hs))⟩
  have:=hg (sortWorldK enc sz w blk 0 m dk os) S x.1.1 y.1.1 x.1.2 y.1.2 (fun b i hs=>Nat.lt_of_lt_of_le (hin.1 b i hs) Aba) (x.2.mono fun l v=>Rep.mono hkeep) (y.2.mono fun l v=>Rep.mono hkeep)
  simpa using this
 have hO':SWO (Go.Proofs.ltOf (fun x y:β=>cf x.1.1 y.1.1)):=⟨fun x=>hO.irrefl x.1.1,fun x y z=>hO.trans x.1.1 y.1.1 z.1.1,fun x y z=>hO.ntrans x.1.1 y.1.1 z.1.1⟩
 have hcon:=Go.Proofs.AnyQ.slices_SortFunc L sz aE zE enc hk h1 (fun x y:β=>cf x.1.1 y.1.1) hO' g #[] blk 0 cap d.toArray w eg hcmp hH' hblk (by rw [List.size_toArray,hdl];omega)
 rw [hv0,hH]
 rw [List.size_toArray,hdl] at hcon
 refine hcon.mono ?_
 rintro e' w' ⟨rfl,d',n2,os,hperm,hsort,rfl⟩
 obtain ⟨hps,_,hpp⟩:=hperm
 have hds:d'.size=xs.length:=by rw [hps,List.size_toArray,hdl]
 have hpl:d'.toList.Perm d:=by
  have e1:d'.extract 0 xs.length=d':=by rw [← hds];simp
  have e2:d.toArray.extract 0 xs.length=d.toArray:=by rw [← hdl];simp
  rw [e1,e2] at hpp
  simpa using hpp
 have hz:d'.toList.map (fun p=>p.1.1)=ys:=by
  refine hys _ ?_ ?_
  ·rw [← hd1];exact hpl.map _
  ·rw [List.pairwise_map]
   refine List.pairwise_iff_getElem.2 fun i j hi hj hij=>?_
   rw [Array.length_toList] at hi hj
   have:=hsort i j (Nat.zero_le _) hij (by omega)
   rw [getElem!_pos d' j (by omega),getElem!_pos d' i (by omega)] at this
   exact this
 have hyl:ys.length=xs.length:=by rw [← hz,List.length_map,Array.length_toList,hds]
 have hsame:=Aqr (enc:=enc) (k:=sz) (n:=n2) (d:=d') (os:=os) hheap (by rw [hds];rw [List.size_toArray,hdl] at hcurlen;exact hcurlen)
 have hkeep:∀ b i,S b i→S b i∧(sortWorldK enc sz w blk 0 n2 d' os).cell? ⟨b,i,none⟩=w.cell? ⟨b,i,none⟩:=fun b i hs =>
  ⟨hs,World.cell?_of_block (w:=w) (Ab4 (hin.1 b i hs) fun e=>hnoS i (e ▸ hs))⟩
 have hin2:InH (sortWorldK enc sz w blk 0 n2 d' os) S:=hin.turn Aba fun b i hs=>(hkeep b i hs).2
 have hlenv:(d'.toList.flatMap enc).length=xs.length*sz:=by rw [← Abx hk,Array.length_toList,size_flatK,hds]
 have hownX:Acc [.arr e sz 0 (xs.flatMap f)] H blk:=⟨0,_,rfl,by show E2 (H 0)=_;rw [hH];rfl⟩
 refine ⟨_,.tup [],[.arr e sz 0 (ys.flatMap f)],S,H,rfl,⟨rfl,rfl⟩,⟨rfl,rfl,rfl,Aba,fun b hb hx=>Ab4 hb fun e=>hx (e ▸ hownX),fun b i hs=>hs,fun b i hs=>(hkeep b i hs).2,fun b i _ _ hs=>hs⟩,hin2,⟨fun p b hb=>?_,fun p b g' hb ho=>?_,fun p q b b' g' hb hb' _ _=>?_,fun p b g' i hb ho hs=>?_⟩,fun p b g' hb ho=>?_,⟨Nat.le_refl _,fun _ _ _ _=>rfl,fun p e' sz' k' cs' hp hm=>?_,fun _ _ h=>h⟩,Kq⟩
 ·match p with
  | 0 =>
   obtain rfl:=Option.some.inj hb
   refine ⟨hsz,Nat.zero_le _,xs.length,d'.toList.flatMap enc,⟨hlenv,.inr ⟨blk,cap,_,hH,Nat.zero_le _,hsame,hcap,hmax,?_,?_⟩⟩,?_,fun g' _ i hi=>absurd hi (Nat.not_lt_zero _)⟩
   ·rw [List.size_toArray,List.length_append,Array.length_toList,size_flatK,List.length_drop,Array.length_toList,hds,hcs]
    have:=Nat.mul_le_mul_right sz hcap
    omega
   ·rw [Abx hk,List.toList_toArray,List.take_append_of_le_length (by rw [hlenv];exact Nat.le_refl _),← hlenv,List.take_length]
   ·rw [← hz]
    exact (Alj d'.toList).mono fun l v=>Rep.mono hkeep
  | p+1=>simp at hb
 ·match p with
  | 0 =>
   obtain rfl:=Option.some.inj hb
   have hg':E2 (H 0)=some g':=ho
   rw [hH] at hg'
   obtain rfl:blk=g':=by simpa [E2] using hg'
   exact Nat.lt_of_lt_of_le hblk Aba
  | p+1=>simp at hb
 ·match p,q with
  | 0,0=>rfl
  | 0,q+1=>simp at hb'
  | p+1,_=>simp at hb
 ·match p with
  | 0 =>
   obtain rfl:=Option.some.inj hb
   have hg':E2 (H 0)=some g':=ho
   rw [hH] at hg'
   obtain rfl:blk=g':=by simpa [E2] using hg'
   exact absurd hs (hnoS i)
  | p+1=>simp at hb
 ·match p with
  | 0 =>
   obtain rfl:=Option.some.inj hb
   exact .inr ⟨0,_,rfl,ho⟩
  | p+1=>simp at hb
 ·match p with
  | 0 =>
   obtain ⟨rfl,rfl,rfl,rfl⟩:e=e'∧sz=sz'∧0=k'∧ys.flatMap f=cs':=by simpa using hm
   exact ⟨0,_,rfl,.inl ⟨by rw [A1 hf,A1 hf,hyl],rfl⟩⟩
  | p+1=>simp at hp
end Go.Proofs.YtkblaobhhoebaaaGreat.Abs
namespace Go.Proofs.YtkblaobhhoebaaaGreat.Abs
open Go.RowKit
theorem Ady {ls:List Lf} (h:Ad8 (.int .i64) ls):∃ n:Int,(-9223372036854775808≤n∧n≤9223372036854775807)∧ls=eI n:=by
 obtain ⟨n,hw,rfl⟩:=h
 exact ⟨n,Ap7 hw,rfl⟩
theorem Auy {k:IntKind} {n:Int} (h:(Lit.int k n).wf=true):k.min≤n∧n≤k.max:=by
 simp only [Lit.wf,Bool.and_eq_true,decide_eq_true_eq] at h
 exact h
theorem An6 {ls:List Lf} (h:Ad8 (.int .u8) ls):∃ a:UInt8,True∧ls=eU8 a:=by
 obtain ⟨n,hw,rfl⟩:=h
 obtain ⟨h1,h2⟩:=Auy hw
 simp [IntKind.min,IntKind.max,IntKind.bits,IntKind.signed] at h1 h2
 refine ⟨UInt8.ofNat n.toNat,trivial,?_⟩
 show _=[Lf.i .u8 _]
 rw [show ((UInt8.ofNat n.toNat).toNat:Int)=n by rw [UInt8.toNat_ofNat'];omega]
theorem Aff {ls:List Lf} (h:Ad8 .bool ls):∃ b:Bool,True∧ls=eB b:=by
 obtain ⟨b,rfl⟩:=h
 exact ⟨b,trivial,rfl⟩
theorem Aml {α:Type} {e:Sh} {f:α→List Lf} {Q:α→Prop} (he:∀ {r},Ad8 e r→∃ x,Q x∧r=f x) {ls:List Lf} (h:Ad8 (.sl e) ls):∃ xs:List α,(xs.length≤maxLen∧∀ x ∈ xs,Q x)∧ls=eL f xs:=by
 obtain ⟨rows,hl,hr,rfl⟩:=h
 have:∃ xs:List α,(∀ x ∈ xs,Q x)∧rows=xs.map f:=by
  clear hl
  induction rows with
  | nil=>exact ⟨[],fun _ h=>by simp at h,rfl⟩
  | cons r rs ih =>
   obtain ⟨x,hq,hx⟩:=he (hr r (List.mem_cons_self ..))
   obtain ⟨xs,hqs,hxs⟩:=ih (fun r h=>hr r (List.mem_cons_of_mem _ h))
   exact ⟨x::xs,fun y hy=>by rcases List.mem_cons.1 hy with rfl | hy;exact hq;exact hqs y hy,by rw [hx,hxs];rfl⟩
 obtain ⟨xs,hq,rfl⟩:=this
 exact ⟨xs,⟨by simpa using hl,hq⟩,by rw [eL,List.flatMap,List.length_map]⟩
end Go.Proofs.YtkblaobhhoebaaaGreat.Abs
namespace Go.Proofs.YtkblaobhhoebaaaGreat.Abs
theorem Cc {n:Int} (h1:-9223372036854775808≤n) (h2:n≤9223372036854775807):wI n=n:=by
 unfold wI IntKind.wrap
 simp [IntKind.bits,IntKind.signed]
 omega
theorem Ck {n:Nat} (h:n≤1000000000000000000):n<fuel:=by unfold fuel;omega
theorem Bp {α:Type} (xs:List α) (i:Nat):idx xs (i:Int)=xs[i]? := by
 unfold idx
 rw [if_pos (Int.natCast_nonneg i),Int.toNat_natCast]
theorem Ark {α:Type} {xs:List α} {j:Int} (h0:0≤j) (h1:j<xs.length):∃ x,idx xs j=some x∧xs[j.toNat]? = some x:=by
 have h:j.toNat<xs.length:=by omega
 exact ⟨xs[j.toNat],by unfold idx;rw [if_pos h0,List.getElem?_eq_getElem h],List.getElem?_eq_getElem h⟩
theorem As4 {α:Type} {xs:List α} {j:Int} {x:α} (h0:0≤j) (h:xs[j.toNat]? = some x):idx xs j=some x:=by
 unfold idx
 rw [if_pos h0,h]
theorem Acs {α:Type} {xs:List α} {lo hi:Int} (h0:0≤lo) (h1:lo≤hi) (h2:hi≤xs.length):cut xs lo hi=some ((xs.drop lo.toNat).take (hi.toNat-lo.toNat)):=by
 unfold cut
 rw [if_pos ⟨h0,h1,h2⟩]
theorem Ej {σ β:Type} {f:σ→Option (LB σ β)} {P:σ→Prop} {μ:σ→Nat} {R:β→Prop}
  (h:∀ s,P s→(∃ s',f s=some (.cont s')∧P s'∧μ s'<μ s)∨∃ b,f s=some (.brk b)∧R b):∀ (n:Nat) (s:σ),P s→μ s<n→∃ b,C5 f n s=some b∧R b
 | 0,s,_,hm=>by omega
 | n+1,s,hp,hm=>by
  rcases h s hp with ⟨s',hf,hp',hlt⟩ | ⟨b,hf,hr⟩
  ·obtain ⟨b,hb,hr⟩:=Ej h n s' hp' (by omega)
   exact ⟨b,by rw [C5,hf];exact hb,hr⟩
  ·exact ⟨b,by rw [C5,hf],hr⟩
theorem Cx {σ β ρ:Type} {f:σ→Option (LR σ β ρ)} {P:σ→Prop} {μ:σ→Nat} {R:Sum ρ β→Prop}
  (h:∀ s,P s→(∃ s',f s=some (.cont s')∧P s'∧μ s'<μ s)∨(∃ b,f s=some (.brk b)∧R (.inr b))∨∃ r,f s=some (.ret r)∧R (.inl r)):∀ (n:Nat) (s:σ),P s→μ s<n→∃ b,Lj f n s=some b∧R b
 | 0,s,_,hm=>by omega
 | n+1,s,hp,hm=>by
  rcases h s hp with ⟨s',hf,hp',hlt⟩ | ⟨b,hf,hr⟩ | ⟨b,hf,hr⟩
  ·obtain ⟨b,hb,hr⟩:=Cx h n s' hp' (by omega)
   exact ⟨b,by rw [Lj,hf];exact hb,hr⟩
  ·exact ⟨.inr b,by rw [Lj,hf],hr⟩
  ·exact ⟨.inl b,by rw [Lj,hf],hr⟩
theorem W7 {α σ β τ:Type} {f:τ→Option (LB τ β)} (st:σ→Nat→τ) (xs:List α) (g:σ→α→σ) (out:σ→β) (hl:xs.length<1000000000000000000000000)
  (h1:∀ acc i x,xs[i]? = some x→f (st acc i)=some (.cont (st (g acc x) (i+1)))) (h2:∀ acc,f (st acc xs.length)=some (.brk (out acc))) (a0:σ):C5 f fuel (st a0 0)=some (out (xs.foldl g a0)):=by
 have key:∀ (k i:Nat) (acc:σ) (n:Nat),k+i=xs.length→k<n→C5 f n (st acc i)=some (out ((xs.drop i).foldl g acc)):=by
  intro k
  induction k with
  | zero =>
   intro i acc n hi hn
   obtain ⟨m,rfl⟩:∃ m,n=m+1:=⟨n-1,by omega⟩
   have:i=xs.length:=by omega
   subst this
   rw [C5,h2,List.drop_length]
   rfl
  | succ k ih =>
   intro i acc n hi hn
   obtain ⟨m,rfl⟩:∃ m,n=m+1:=⟨n-1,by omega⟩
   have hlt:i<xs.length:=by omega
   rw [C5,h1 acc i xs[i] (List.getElem?_eq_getElem hlt),List.drop_eq_getElem_cons hlt,List.foldl_cons]
   exact ih (i+1) _ m (by omega) (by omega)
 have:=key xs.length 0 a0 fuel (by omega) hl
 rwa [List.drop_zero] at this
end Go.Proofs.YtkblaobhhoebaaaGreat.Abs
namespace Go.Proofs.YtkblaobhhoebaaaGreat.Abs
theorem Sr (x y:UInt8):x<y∨x=y∨y<x:=by
 rcases Nat.lt_trichotomy x.toNat y.toNat with h | h | h
 ·exact .inl (UInt8.lt_iff_toNat_lt.2 h)
 ·exact .inr (.inl (UInt8.toNat_inj.1 h))
 ·exact .inr (.inr (UInt8.lt_iff_toNat_lt.2 h))
theorem Mk {x y:UInt8} (h:x<y):¬ y<x:=fun h'=>by
 have:=UInt8.lt_iff_toNat_lt.1 h
 have:=UInt8.lt_iff_toNat_lt.1 h'
 omega
theorem Abn {x y z:UInt8} (h:x<y) (h':y<z):x<z:=by
 have h1:=UInt8.lt_iff_toNat_lt.1 h
 have h2:=UInt8.lt_iff_toNat_lt.1 h'
 exact UInt8.lt_iff_toNat_lt.2 (by omega)
theorem M4:∀ a:List UInt8,Dc a a=0
 | []=>rfl
 | x::xs=>by unfold Dc;rw [if_neg (UInt8.lt_irrefl x),if_neg (UInt8.lt_irrefl x)];exact M4 xs
theorem Qe:∀ a b:List UInt8,Dc a b = -Dc b a
 | [],[]=>rfl
 | [],_::_=>rfl
 | _::_,[]=>rfl
 | x::xs,y::ys=>by
  unfold Dc
  rcases Sr x y with h | h | h
  ·rw [if_pos h,if_neg (Mk h),if_pos h]
  ·subst h
   rw [if_neg (UInt8.lt_irrefl x),if_neg (UInt8.lt_irrefl x),if_neg (UInt8.lt_irrefl x),if_neg (UInt8.lt_irrefl x)];exact Qe xs ys
  ·rw [if_neg (Mk h),if_pos h,if_pos h];rfl
theorem Qp:∀ {a b:List UInt8},Dc a b=0→a=b
 | [],[],_=>rfl
 | [],_::_,h=>by cases h
 | _::_,[],h=>by cases h
 | x::xs,y::ys,h=>by
  unfold Dc at h
  rcases Sr x y with h1 | h1 | h1
  ·rw [if_pos h1] at h;cases h
  ·subst h1
   rw [if_neg (UInt8.lt_irrefl x),if_neg (UInt8.lt_irrefl x)] at h
   rw [Qp h]
  ·rw [if_neg (Mk h1),if_pos h1] at h;cases h
theorem Ky:∀ {a b c:List UInt8},Dc a b≤0→Dc b c≤0→Dc a c≤0∧(Dc a b<0∨Dc b c<0→Dc a c<0)
 | [],b,[],h1,h2=>⟨Int.le_refl _,fun h=>by
   cases b with
   | nil=>rcases h with h | h <;> simp [Dc] at h
   | cons y ys=>simp [Dc] at h2⟩
 | [],_,_::_,_,_=>⟨by simp [Dc],fun _=>by simp [Dc]⟩
 | _::_,[],_,h1,_=>by simp [Dc] at h1
 | _::_,_::_,[],_,h2=>by simp [Dc] at h2
 | x::xs,y::ys,z::zs,h1,h2=>by
  unfold Dc at h1 h2 ⊢
  rcases Sr x y with e1 | e1 | e1
  ·rcases Sr y z with e2 | e2 | e2
   ·rw [if_pos (Abn e1 e2)];exact ⟨by decide,fun _=>by decide⟩
   ·subst e2;rw [if_pos e1];exact ⟨by decide,fun _=>by decide⟩
   ·rw [if_neg (Mk e2),if_pos e2] at h2;exact absurd h2 (by decide)
  ·subst e1
   rw [if_neg (UInt8.lt_irrefl x),if_neg (UInt8.lt_irrefl x)] at h1 ⊢
   rcases Sr x z with e2 | e2 | e2
   ·rw [if_pos e2];exact ⟨by decide,fun _=>by decide⟩
   ·subst e2
    simp only [UInt8.lt_irrefl,if_false] at h2 ⊢
    exact Ky h1 h2
   ·rw [if_neg (Mk e2),if_pos e2] at h2;exact absurd h2 (by decide)
  ·rw [if_neg (Mk e1),if_pos e1] at h1;exact absurd h1 (by decide)
theorem Y9 {a b:List UInt8}:0≤Dc a b ↔ Dc b a≤0:=by rw [Qe a b];omega
open Go.Sort
def Ar9 {α:Type} (kf:α→List UInt8) (x:α):List α→List α
 | []=>[x]
 | y::l=>if Dc (kf x) (kf y)<0 then x::y::l else y::Ar9 kf x l
def Aa8 {α:Type} (kf:α→List UInt8):List α→List α
 | []=>[]
 | x::l=>Ar9 kf x (Aa8 kf l)
def Sl {α:Type} (kf:α→List UInt8) (l:List α):Prop:=l.Pairwise (fun a b=>Dc (kf a) (kf b)<0)
def Ox {α:Type} (kf:α→List UInt8) (l:List α):Prop:=l.Pairwise (fun a b=>kf a≠kf b)
section
variable {α:Type} {kf:α→List UInt8}
theorem Zf (x:α):∀ l:List α,(Ar9 kf x l).Perm (x::l)
 | []=>List.Perm.refl _
 | y::l=>by
  unfold Ar9
  split
  ·exact List.Perm.refl _
  ·exact ((Zf x l).cons y).trans (List.Perm.swap x y l)
theorem L8:∀ l:List α,(Aa8 kf l).Perm l
 | []=>List.Perm.refl _
 | x::l=>(Zf x (Aa8 kf l)).trans ((L8 l).cons x)
theorem Ado {x:α}:∀ {l:List α},Sl kf l→(∀ y ∈ l,kf x≠kf y)→Sl kf (Ar9 kf x l)
 | [],_,_=>List.pairwise_singleton _ _
 | y::l,h,hd=>by
  obtain ⟨h1,h2⟩:=List.pairwise_cons.1 h
  unfold Ar9
  split
  ·rename_i hlt
   refine List.pairwise_cons.2 ⟨fun z hz=>?_,h⟩
   rcases List.mem_cons.1 hz with rfl | hz
   ·exact hlt
   ·exact (Ky (by omega) (Int.le_of_lt (h1 z hz))).2 (.inl hlt)
  ·rename_i hge
   refine List.pairwise_cons.2 ⟨fun z hz=>?_,Ado h2 fun z hz=>hd z (List.mem_cons_of_mem _ hz)⟩
   rcases List.mem_cons.1 ((Zf x l).mem_iff.1 hz) with rfl | hz
   ·have h3:=Y9.1 (show 0≤Dc (kf z) (kf y) by omega)
    rcases Int.lt_or_eq_of_le h3 with h | h
    ·exact h
    ·exact absurd (Qp h).symm (hd y (List.mem_cons_self ..))
   ·exact h1 z hz
theorem Ox.perm {a b:List α} (h:a.Perm b):Ox kf a ↔ Ox kf b:=h.pairwise_iff fun h=>Ne.symm h
theorem Td:∀ {l:List α},Ox kf l→Sl kf (Aa8 kf l)
 | [],_=>List.Pairwise.nil
 | x::l,h=>by
  obtain ⟨h1,h2⟩:=List.pairwise_cons.1 h
  exact Ado (Td h2) fun y hy=>h1 y ((L8 l).mem_iff.1 hy)
theorem Sl.dist {l:List α} (h:Sl kf l):Ox kf l:=h.imp fun h e=>by rw [e,M4] at h;exact absurd h (by decide)
theorem Abh {a b:List α} (ha:Sl kf a) (hb:Sl kf b) (h:a.Perm b):a=b :=
 List.Perm.eq_of_pairwise (le:=fun a b=>Dc (kf a) (kf b)<0) (fun a b _ _ h1 h2=>by rw [Qe] at h2;omega) ha hb h
theorem Anr {l:List α} {x:α}:x ∈ Aa8 kf l ↔ x ∈ l:=(L8 l).mem_iff
theorem Ahx {a b:List α} (h:a.Perm b) (hd:Ox kf a):Aa8 kf a=Aa8 kf b:=Abh (Td hd) (Td ((Ox.perm h).1 hd)) (((L8 a).trans h).trans (L8 b).symm)
theorem Ayy:SWO (Go.Proofs.ltOf fun a b:α=>Dc (kf a) (kf b)):=by
 refine ⟨fun x=>?_,fun x y z h1 h2=>?_,fun x y z h1 h2=>?_⟩
 ·unfold Go.Proofs.ltOf;rw [decide_eq_false_iff_not];dsimp only;rw [M4];decide
 ·unfold Go.Proofs.ltOf at *
  dsimp only at *
  rw [decide_eq_true_eq] at *
  exact (Ky (Int.le_of_lt h1) (Int.le_of_lt h2)).2 (.inl h1)
 ·unfold Go.Proofs.ltOf at *
  dsimp only at *
  rw [decide_eq_false_iff_not] at *
  have h3:=Y9.1 (show 0≤Dc (kf x) (kf y) by omega)
  have h4:=Y9.1 (show 0≤Dc (kf y) (kf z) by omega)
  have:=Y9.2 (Ky h4 h3).1
  omega
theorem Ajg {xs:List α} (hd:Ox kf xs) (zs:List α) (hp:zs.Perm xs) (hs:zs.Pairwise (fun a b=>Go.Proofs.ltOf (fun a b:α=>Dc (kf a) (kf b)) b a=false)):zs=Aa8 kf xs:=by
 have hdz:Ox kf zs:=(Ox.perm hp).2 hd
 refine Abh ?_ (Td hd) (hp.trans (L8 xs).symm)
 refine (List.Pairwise.and hs hdz).imp fun ⟨h1,h2⟩=>?_
 unfold Go.Proofs.ltOf at h1
 rw [decide_eq_false_iff_not] at h1
 have h3:=Y9.1 (Int.not_lt.1 h1)
 rcases Int.lt_or_eq_of_le h3 with h | h
 ·exact h
 ·exact absurd (Qp h) h2
def Rk (kf:α→List UInt8) (t:List α) (x:α):List α:=x::t.filter (fun y=>!(kf y == kf x))
def Aa7 (kf:α→List UInt8) (t:List α) (k:List UInt8):List α:=t.filter (fun y=>!(kf y == k))
theorem Ak9 {t:List α} (hd:Ox kf t) {j:Nat} {k:List UInt8} (hj:(t.map kf)[j]? = some k):t.filter (fun y=>!(kf y == k))=t.eraseIdx j:=by
 induction t generalizing j with
 | nil=>simp at hj
 | cons y l ih =>
  obtain ⟨h1,h2⟩:=List.pairwise_cons.1 hd
  cases j with
  | zero =>
   have hk:kf y=k:=by simpa using hj
   rw [List.filter_cons,if_neg (by simp [hk]),List.eraseIdx_cons_zero,List.filter_eq_self]
   intro z hz
   have:=h1 z hz
   rw [hk] at this
   simp [Ne.symm this]
  | succ j =>
   rw [List.map_cons,List.getElem?_cons_succ] at hj
   have hm:k ∈ l.map kf:=List.mem_of_getElem? hj
   obtain ⟨z,hz,hzk⟩:=List.mem_map.1 hm
   have hne:kf y≠k:=by rw [← hzk];exact h1 z hz
   rw [List.filter_cons,if_pos (by simp [hne]),ih h2 hj,List.eraseIdx_cons_succ]
theorem Yu {t:List α} {k:List UInt8} (hk:k ∉ t.map kf):t.filter (fun y=>!(kf y == k))=t:=by
 rw [List.filter_eq_self]
 intro y hy
 have:kf y≠k:=fun e=>hk (List.mem_map.2 ⟨y,hy,e⟩)
 simp [this]
theorem Am2 {t:List α} {j:Nat} (x:α) (hj:j<t.length):(t.set j x).Perm (x::t.eraseIdx j):=by
 rw [List.set_eq_take_append_cons_drop,if_pos hj,List.eraseIdx_eq_take_drop_succ]
 exact List.perm_middle
theorem Abf {t t':List α} (hp:t'.Perm t) (hd:Ox kf t') {j:Nat} {x:α} (hj:(t'.map kf)[j]? = some (kf x)):(t'.set j x).Perm (Rk kf t x)∧(t'.set j x).map kf=t'.map kf∧Ox kf (t'.set j x):=by
 have hlt:j<t'.length:=by simpa using (List.getElem?_eq_some_iff.1 hj).1
 have e:(t'.set j x).map kf=t'.map kf:=by
  rw [List.map_set]
  apply List.ext_getElem?
  intro i
  rw [List.getElem?_set]
  by_cases h:j=i
  ·subst h;rw [if_pos rfl,if_pos (by simpa using hlt),hj]
  ·rw [if_neg h]
 refine ⟨(Am2 x hlt).trans ?_,e,?_⟩
 ·unfold Rk
  rw [← Ak9 hd hj]
  exact (hp.filter _).cons x
 ·unfold Ox at *
  have:=(List.pairwise_map (f:=kf) (R:=(·≠·)) (l:=t')).2 hd
  rw [← e] at this
  exact List.pairwise_map.1 this
theorem Agu {t t':List α} (hp:t'.Perm t) (hd:Ox kf t') {x:α} (hx:kf x ∉ t'.map kf):(t'++[x]).Perm (Rk kf t x)∧Ox kf (t'++[x]):=by
 have hx':kf x ∉ t.map kf:=fun h=>hx ((hp.map kf).mem_iff.2 h)
 refine ⟨?_,?_⟩
 ·unfold Rk
  rw [Yu hx']
  exact (List.perm_append_comm.trans (List.Perm.refl _)).trans (hp.cons x)
 ·refine List.pairwise_append.2 ⟨hd,List.pairwise_singleton _ _,fun a ha b hb=>?_⟩
  rw [List.mem_singleton.1 hb]
  exact fun e=>hx (List.mem_map.2 ⟨a,ha,e⟩)
theorem Ap4 {t t':List α} (hp:t'.Perm t) (hd:Ox kf t') {j:Nat} {k:List UInt8} (hj:(t'.map kf)[j]? = some k):(t'.eraseIdx j).Perm (Aa7 kf t k)∧Ox kf (t'.eraseIdx j):=by
 refine ⟨?_,hd.sublist (List.eraseIdx_sublist ..)⟩
 unfold Aa7
 rw [← Ak9 hd hj]
 exact hp.filter _
theorem Ako {t t':List α} (hp:t'.Perm t) {k:List UInt8} (hk:k ∉ t'.map kf):t'.Perm (Aa7 kf t k):=by
 unfold Aa7
 rw [Yu fun h=>hk ((hp.map kf).mem_iff.2 h)]
 exact hp
end
end Go.Proofs.YtkblaobhhoebaaaGreat.Abs
namespace Go.Proofs.YtkblaobhhoebaaaGreat.Abs
theorem An2 {α:Type} (l:List α):(List.range l.length).filterMap (l[·]?)=l:=by
 have key:∀ n,n≤l.length→(List.range n).filterMap (l[·]?)=l.take n:=fun n=>by
  induction n with
  | zero=>intro _;simp
  | succ n ih =>
   intro h
   rw [List.range_succ,List.filterMap_append,ih (by omega),List.take_succ_eq_append_getElem (by omega)]
   simp [List.getElem?_eq_getElem (show n<l.length by omega)]
 rw [key _ (Nat.le_refl _),List.take_length]
theorem Ah1 {α:Type} {l:List α} {ps:List Nat} (hn:ps.Nodup) (hl:∀ j ∈ ps,j<l.length) (ha:∀ j,j<l.length→j ∈ ps):(ps.filterMap (l[·]?)).Perm l:=by
 have hp:ps.Perm (List.range l.length):=(List.perm_ext_iff_of_nodup hn List.nodup_range).2 fun j=>⟨fun h=>List.mem_range.2 (hl j h),fun h=>ha j (List.mem_range.1 h)⟩
 have:=hp.filterMap (l[·]?)
 rwa [An2] at this
theorem Aq1 {es:Array MapEntry} (hn:(es.toList.map (·.born)).Nodup) {i j:Nat} {e e':MapEntry} (hi:es[i]? = some e') (hj:es[j]? = some e):(e'.born=e.born∨i ∈ ([]:List Nat)) ↔ i=j:=by
 have hi':es.toList[i]? = some e':=by rw [Array.getElem?_toList];exact hi
 have hj':es.toList[j]? = some e:=by rw [Array.getElem?_toList];exact hj
 constructor
 ·rintro (h | h)
  ·have h1:=(List.getElem?_eq_some_iff.1 hi').1
   have h2:=(List.getElem?_eq_some_iff.1 hj').1
   rcases Nat.lt_trichotomy i j with hlt | heq | hgt
   ·exact absurd (by rw [List.getElem_map,List.getElem_map,(List.getElem?_eq_some_iff.1 hi').2,(List.getElem?_eq_some_iff.1 hj').2];exact h) ((List.pairwise_iff_getElem.1 hn) i j (by simpa using h1) (by simpa using h2) hlt)
   ·exact heq
   ·exact absurd (by rw [List.getElem_map,List.getElem_map,(List.getElem?_eq_some_iff.1 hi').2,(List.getElem?_eq_some_iff.1 hj').2];exact h.symm) ((List.pairwise_iff_getElem.1 hn) j i (by simpa using h2) (by simpa using h1) hgt)
  ·simp at h
 ·rintro rfl
  rw [hi'] at hj'
  cases hj'
  exact .inl rfl
end Go.Proofs.YtkblaobhhoebaaaGreat.Abs
namespace Go.Proofs.YtkblaobhhoebaaaGreat.Abs
open Go.RowKit Go.MapKept
open Go.ChangeMaps (setBlock)
theorem Aku (H:Nat→Value) (p:Nat):R7 H p (H p)=H:=by
  funext q
  by_cases h:q=p
  · subst h;rw [Ce]
  · rw [Ct _ _ h]
theorem Q0 {α β:Type} (f:α→β):∀ {l:List α},(l.map f).Nodup→l.Nodup
  | [],_=>List.nodup_nil
  | x::l,h=>by
    rw [List.map_cons,List.nodup_cons] at h
    exact List.nodup_cons.2 ⟨fun hx=>h.1 (List.mem_map.2 ⟨x,hx,rfl⟩),Q0 f h.2⟩
theorem Rel.retab {c:Ctx} {t:Nat→AV} {m:List Blk} {a:Act} {w:World} {S:Cq} {H:Nat→Value} (r:Rel c ⟨t,m⟩ a w S H) {p g:Nat} {b b':Blk} {mk:List (List Value)→Obj→Prop} {cs:List (List Lf)}
    (hm:m[p]? = some b) (hbb:b=.obj g mk cs∨b=.tab mk cs) (hbb':b'=.obj g mk cs∨b'=.tab mk cs) (hH:H p=.pointer (some ⟨g,0,none⟩)):Rel c ⟨t,m.set p b'⟩ a w S H:=by
  have hp:p<m.length:=(List.getElem?_eq_some_iff.1 hm).1
  have hob:b.own (H p)=some g:=by rcases hbb with rfl | rfl <;> rw [hH] <;> rfl
  have hlo:=r.lo p _ g hm hob
  have hbl:=r.bl p _ hm
  have hcont:∃ vs o,w.heap[g]? = some o∧Aiz o=true∧mk vs o∧Aki (Rep w S) cs vs:=by
    rcases hbb with rfl | rfl
    · obtain ⟨_,h⟩:=hbl;exact h
    · obtain ⟨g',h1,h⟩:=hbl
      rw [hH] at h1;cases h1
      exact h
  have hst:b'.stab=0:=by rcases hbb' with rfl | rfl <;> rfl
  have hst0:b.stab=0:=by rcases hbb with rfl | rfl <;> rfl
  have:=r.change (m':=m.set p b') (b':=b') (v:=H p) (w':=w) (S':=S) (by simp) (by rw [List.getElem?_set_self hp]) (fun q hq=>by rw [List.getElem?_set_ne (Ne.symm hq)]) (fun b i hs=>⟨hs,rfl⟩) (fun _ _ _=>rfl) (fun e sz k cs _ h=>by rcases hbb' with rfl | rfl <;> cases h)
    (fun g' _ hg' => rfl) (by rcases hbb' with rfl | rfl
                              · exact ⟨hH,hcont⟩
                              · exact ⟨g,hH,hcont⟩) (fun g' hg'=>?_) (fun q b g i _ _ _ h=>h) (fun g i _ _ h=>h) r.sl (Nat.le_refl _) rfl rfl rfl (fun h=>by rcases h with h | h <;> rcases hbb' with rfl | rfl <;> cases h)
  · rw [Aku] at this
    exact this
  · have hg2:g=g':=by
      have:b'.own (H p)=some g:=by rcases hbb' with rfl | rfl <;> rw [hH] <;> rfl
      rw [this] at hg'
      exact Option.some.inj hg'
    subst hg2
    exact ⟨hlo.1,hlo.2,fun q b2 hq hb ho'=>hq (r.inj q p b2 _ g hb hm ho' hob),fun i hi=>absurd (r.sb p _ g i hm hob hi) (by rw [hst0];exact Nat.not_lt_zero _)⟩
theorem Rel.toTab {c:Ctx} {t:Nat→AV} {m:List Blk} {a:Act} {w:World} {S:Cq} {H:Nat→Value} (r:Rel c ⟨t,m⟩ a w S H) {p g:Nat} {mk:List (List Value)→Obj→Prop} {cs:List (List Lf)} (hm:m[p]? = some (.obj g mk cs)):Rel c ⟨t,m.set p (.tab mk cs)⟩ a w S H :=
  r.retab hm (.inl rfl) (.inr rfl) (r.bl p _ hm).1
theorem Rel.ofTab {c:Ctx} {t:Nat→AV} {m:List Blk} {a:Act} {w:World} {S:Cq} {H:Nat→Value} (r:Rel c ⟨t,m⟩ a w S H) {p:Nat} {mk:List (List Value)→Obj→Prop} {cs:List (List Lf)} (hm:m[p]? = some (.tab mk cs)):∃ g,H p=.pointer (some ⟨g,0,none⟩)∧Rel c ⟨t,m.set p (.obj g mk cs)⟩ a w S H:=by
  obtain ⟨g,h1,_⟩:=r.bl p _ hm
  exact ⟨g,h1,r.retab hm (.inr rfl) (.inl rfl) h1⟩
def Aj6:Lf→Value
  | .i k n=>.int k n
  | .b x=>.bool x
  | .s x=>.string x
  | _=>undef
def Sm (l:List Lf):Value:=.agg (l.map Aj6).toArray
theorem Ar0 {w:World} {S:Cq} {m:List Blk} {H:Nat→Value} {l:Lf} {v:Value} (h:Cn w S m H l v) (ht:l.tag<3):v=Aj6 l:=by
  cases l <;> simp [Lf.tag] at ht
  · exact R9 h
  · exact Us h
  · exact Aig h
theorem An5 {w:World} {S:Cq} {m:List Blk} {H:Nat→Value} {ls:List Lf} {vs:List Value} (h:LsR (Cn w S m H) ls vs) (ht:∀ l ∈ ls,l.tag<3):vs=ls.map Aj6:=by
  apply List.ext_getElem?
  intro j
  rw [List.getElem?_map]
  rcases Nat.lt_or_ge j ls.length with hj | hj
  · have hv:j<vs.length:=by rw [← h.1];exact hj
    rw [List.getElem?_eq_getElem hj,List.getElem?_eq_getElem hv]
    exact congrArg some (Ar0 (h.2 j _ _ (List.getElem?_eq_getElem hj) (List.getElem?_eq_getElem hv)) (ht _ (List.getElem_mem hj)))
  · rw [List.getElem?_eq_none hj,List.getElem?_eq_none (by rw [← h.1];exact hj)];rfl
theorem Acw {w:World} {S:Cq} {m:List Blk} {H:Nat→Value} {l:Lf} (ht:l.tag<3):Cn w S m H l (Aj6 l):=by
  cases l <;> simp [Lf.tag] at ht
  · exact .i _ _
  · exact .b _
  · exact .s _
section
variable {P:Program} {kt:TypeId} {n:List Nat}
theorem V5 {w:World} {em:Bool} {d:Nat} {xs:Array Value}:∀ (fs:List Field) (i:Nat) (n:List Nat),Ahu P i fs n=true→(∀ k ∈ n,k<3)→(∀ j,j<n.length→∃ v,xs[i+j]? = some v) →
    (forIn fs PUnit.unit (fun f (_ : PUnit) => if f.name ≠ "_" then (do
              let v ← part f.type xs f.offset
              Instr.checkKey em (d+1) f.type v
              pure (ForInStep.yield PUnit.unit):Sem (ForInStep PUnit))
            else pure (ForInStep.yield PUnit.unit))).run P w=.ok PUnit.unit w
  | [],_,_,_,_,_=>by simp
  | f::fs,i,[],h,_,_=>by cases h
  | f::fs,i,k::ks,h,ht,hx=>by
    simp only [Ahu,Bool.and_eq_true,bne_iff_ne,ne_eq,beq_iff_eq] at h
    obtain ⟨⟨⟨h1,h2⟩,h3⟩,h4⟩:=h
    obtain ⟨v,hv⟩:=hx 0 (by simp)
    have hk:=ht k (List.mem_cons_self ..)
    have ht4:Xp (P.underlying f.type)<4:=by rw [h3];omega
    have hc:(Instr.checkKey em (d+1) f.type v).run P w=.ok () w:=by
      cases hu:P.underlying f.type with
      | none=>rw [hu] at ht4;simp [Xp] at ht4
      | some dd =>
        rw [hu] at h3 ht4
        cases dd <;> simp [Xp] at ht4 <;> simp [Instr.checkKey,run_underlying hu]
    have ih:=V5 (w:=w) (em:=em) (d:=d) fs (i+1) ks h4 (fun x hx=>ht x (List.mem_cons_of_mem _ hx)) (fun j hj=>by
      obtain ⟨v,hv⟩:=hx (j+1) (by simpa using hj)
      exact ⟨v,by rw [show i+1+j=i+(j+1) by omega];exact hv⟩)
    rw [Nat.add_zero] at hv
    rw [List.forIn_cons]
    simp only [Sem.run_bind,h2,h1,ne_eq,not_false_eq_true,if_true,Y2 ht4 hv,Result.andThen_ok,hc,Sem.run_pure]
    exact ih
theorem Tp {w:World} {em:Bool} {ls:List Lf} (et:EqT P kt n) (hn:ls.map Lf.tag=n) (ht:∀ l ∈ ls,l.tag<3):(Instr.checkKey em 10000 kt (Sm ls)).run P w=.ok () w:=by
  show (Instr.checkKey em (9998+1+1) kt (.agg _)).run P w=_
  rw [Instr.checkKey]
  simp only [Sem.run_bind,run_underlying et.u,Result.andThen_ok]
  rw [← Array.forIn_toList]
  have:=V5 (w:=w) (em:=em) (d:=9998) (xs:=(ls.map Aj6).toArray) _ 0 n et.f (fun k hk=>by
    rw [← hn] at hk
    obtain ⟨l,hl,rfl⟩:=List.mem_map.1 hk
    exact ht l hl) (fun j hj=>by
    have hl:j<ls.length:=by rw [← hn] at hj;simpa using hj
    exact ⟨Aj6 ls[j],by simp [hl]⟩)
  rw [this]
  simp
structure Ad6 (κ:Type) [DecidableEq κ] (P:Program) (kt:TypeId) (e:κ→List Lf) (n:List Nat):Prop where
  et:EqT P kt n
  tag:∀ k,(e k).map Lf.tag=n
  low:∀ x ∈ n,x<3
  eq:∀ k k',Ase (e k) (e k')=some (decide (k=k'))
variable {κ:Type} [DecidableEq κ] {e:κ→List Lf}
theorem Ad6.lt (h:Ad6 κ P kt e n) (k:κ):∀ l ∈ e k,l.tag<3:=fun l hl=>h.low _ (by rw [← h.tag k];exact List.mem_map.2 ⟨l,hl,rfl⟩)
theorem Ad6.equal (h:Ad6 κ P kt e n) (w:World) (k k':κ):(Op.equal kt (Sm (e k)) (Sm (e k'))).run P w=.ok (decide (k=k')) w:=by
  show (Op.equalIn (9999+1) kt (.agg _) (.agg _)).run P w=_
  rw [run_equalIn_struct w 9999 kt _ _ h.et.u h.et.h]
  refine Wd (d:=9998) (S:=fun _ _=>False) (m:=[]) (H:=fun _=>undef) _ 0 (e k) (e k') _ (by rw [h.tag];exact h.et.f) ((h.tag k).trans (h.tag k').symm) (h.eq k k') (fun j l hl=>?_) (fun j l hl=>?_)
  · exact ⟨Aj6 l,by simp [hl],Acw (h.lt k l (List.mem_of_getElem? hl))⟩
  · exact ⟨Aj6 l,by simp [hl],Acw (h.lt k' l (List.mem_of_getElem? hl))⟩
theorem Ad6.inj (h:Ad6 κ P kt e n) {k k':κ} (hk:Sm (e k)=Sm (e k')):k=k':=by
  have h1:=h.equal default k k'
  rw [hk,h.equal default k' k'] at h1
  have:decide (k'=k')=decide (k=k'):=by injection h1
  rw [decide_eq_true rfl] at this
  exact of_decide_eq_true this.symm
theorem Ad6.asking (h:Ad6 κ P kt e n) (w:World) (k:κ):∀ (es:List MapEntry) (ks:List κ) (i:Nat),es.map (·.key)=ks.map (fun k=>Sm (e k)) →
    ((Instr.findAsking kt (Sm (e k)) es i).run P w=.ok none w∧k ∉ ks)∨∃ j x,(Instr.findAsking kt (Sm (e k)) es i).run P w=.ok (some (i+j,x.val)) w∧es[j]? = some x∧ks[j]? = some k
  | [],[],i,_=>.inl ⟨by simp [Instr.findAsking],by simp⟩
  | [],_::_,i,h=>by cases h
  | _::_,[],i,h=>by cases h
  | x::es,k'::ks,i,hk=>by
    simp only [List.map_cons,List.cons.injEq] at hk
    obtain ⟨hk1,hk2⟩:=hk
    by_cases hkk:k=k'
    · subst hkk
      refine .inr ⟨0,x,?_,rfl,rfl⟩
      simp [Instr.findAsking,hk1,h.equal]
    · rcases h.asking w k es ks (i+1) hk2 with ⟨h1,h2⟩ | ⟨j,y,h1,h2,h3⟩
      · refine .inl ⟨by simp [Instr.findAsking,hk1,h.equal,hkk,h1],?_⟩
        rw [List.mem_cons];rintro (h | h);exact hkk h;exact h2 h
      · refine .inr ⟨j+1,y,?_,by simpa using h2,by simpa using h3⟩
        simp [Instr.findAsking,hk1,h.equal,hkk,h1,Nat.add_assoc,Nat.add_comm 1 j]
theorem Ad6.find (h:Ad6 κ P kt e n) (w:World) (k:κ) {es:List MapEntry} {ks:List κ} (hk:es.map (·.key)=ks.map (fun k=>Sm (e k))) :
    ((Instr.findKey kt (Sm (e k)) es).run P w=.ok none w∧k ∉ ks)∨∃ j x,(Instr.findKey kt (Sm (e k)) es).run P w=.ok (some (j,x.val)) w∧es[j]? = some x∧ks[j]? = some k:=by
  have hf:(Instr.findKey kt (Sm (e k)) es).run P w=(Instr.findAsking kt (Sm (e k)) es).run P w:=by
    cases es with
    | nil=>simp [Instr.findKey,run_underlying h.et.u,Result.andThen,Instr.findNow,Instr.findAsking]
    | cons x es =>
      have:Instr.findNow (.struct (P.fieldsOf kt)) (Sm (e k)) (x::es) 0=none:=by simp [Instr.findNow,Instr.sameNow]
      simp [Instr.findKey,run_underlying h.et.u,Result.andThen,this]
  rw [hf]
  rcases h.asking w k es ks 0 hk with h | ⟨j,x,h1,h2,h3⟩
  · exact .inl h
  · rw [Nat.zero_add] at h1
    exact .inr ⟨j,x,h1,h2,h3⟩
theorem Abl (l:Lf) (h:l.tag<3) (d:Nat):Instr.sameBits d (Aj6 l) (Aj6 l)=true:=by
  cases l <;> simp [Lf.tag] at h <;> cases d <;> simp [Aj6,Instr.sameBits] <;> exact (bytes_beq _ _).2 rfl
theorem Ad6.stays (h:Ad6 κ P kt e n) (w:World) (k:κ):(Instr.keyThatStays (Sm (e k)) (Sm (e k))).run P w=.ok (Sm (e k)) w:=by
  have hs:Instr.sameBits 10000 (Sm (e k)) (Sm (e k))=true:=by
    show Instr.sameBits (9999+1) (.agg _) (.agg _)=true
    simp only [Instr.sameBits,beq_self_eq_true,Bool.true_and,List.all_eq_true]
    intro p hp
    obtain ⟨i,hi,hpe⟩:=List.getElem_of_mem hp
    rw [List.getElem_zip] at hpe
    rw [← hpe]
    simp only [List.getElem_map]
    exact Abl _ (h.lt k _ (List.getElem_mem _)) 9999
  simp [Instr.keyThatStays,hs]
end
section
variable {κ:Type} [DecidableEq κ]
def Up (M:List (κ × Int)) (k:κ) (i:Int):List (κ × Int):=if M.any (fun x=>decide (x.1=k)) then M.map (fun x=>if x.1=k then (x.1,i) else x) else M++[(k,i)]
def Adu (M:List (κ × Int)) (k:κ):Bool:=M.any (fun x=>decide (x.1=k))
def Ah9 (M:List (κ × Int)) (k:κ):Int:=match M.find? (fun x=>decide (x.1=k)) with | some x=>x.2 | none=>0
def Pv (e:κ→List Lf) (M:List (κ × Int)):List Value:=(M.map (·.1)).map (fun k=>Sm (e k))
def I3 (M:List (κ × Int)):List (List Lf):=M.map fun x=>[.i .i64 x.2]
abbrev T4 (e:κ→List Lf) (M:List (κ × Int)):Blk:=.tab (L2 Aes (Pv e M)) (I3 M)
theorem Rr {M:List (κ × Int)} {k:κ}:Adu M k=true ↔ k ∈ M.map (·.1):=by
  unfold Adu
  rw [List.any_eq_true,List.mem_map]
  constructor
  · rintro ⟨x,h1,h2⟩;exact ⟨x,h1,of_decide_eq_true h2⟩
  · rintro ⟨x,h1,h2⟩;exact ⟨x,h1,decide_eq_true h2⟩
theorem Adv {M:List (κ × Int)} {k:κ} {i:Int} (h:k ∉ M.map (·.1)):Up M k i=M++[(k,i)]:=by
  unfold Up
  rw [if_neg]
  intro hh
  exact h (Rr.1 hh)
theorem Amy {M:List (κ × Int)} {k:κ} {i:Int} {j:Nat} (hd:(M.map (·.1)).Nodup) (hj:(M.map (·.1))[j]? = some k):Up M k i=M.set j (k,i):=by
  have hj':=List.getElem?_eq_some_iff.1 hj
  obtain ⟨hlt,hk⟩:=hj'
  have hlt':j<M.length:=by simpa using hlt
  rw [List.getElem_map] at hk
  unfold Up
  rw [if_pos (show (M.any fun x=>decide (x.1=k))=true from Rr.2 (List.mem_of_getElem? hj))]
  apply List.ext_getElem (by simp)
  intro q h1 h2
  rw [List.getElem_map,List.getElem_set]
  by_cases hq:j=q
  · subst hq;rw [if_pos rfl,if_pos hk,hk]
  · rw [if_neg hq,if_neg]
    intro he
    have h3:q<M.length:=by simpa using h2
    have h4:q<(M.map (·.1)).length:=by simpa using h3
    rcases Nat.lt_trichotomy j q with h5 | h5 | h5
    · exact (List.pairwise_iff_getElem.1 hd) j q hlt h4 h5 (by rw [List.getElem_map,List.getElem_map,hk];exact he.symm)
    · exact hq h5
    · exact (List.pairwise_iff_getElem.1 hd) q j h4 hlt h5 (by rw [List.getElem_map,List.getElem_map,hk];exact he)
theorem Ane {M:List (κ × Int)} {k:κ} {j:Nat} (hd:(M.map (·.1)).Nodup) (hj:(M.map (·.1))[j]? = some k):∃ x,M[j]? = some x∧Ah9 M k=x.2:=by
  induction M generalizing j with
  | nil=>simp at hj
  | cons y M ih =>
    rw [List.map_cons,List.nodup_cons] at hd
    cases j with
    | zero =>
      have:y.1=k:=by simpa using hj
      refine ⟨y,rfl,?_⟩
      unfold Ah9
      rw [List.find?_cons,decide_eq_true this]
    | succ j =>
      have hj':(M.map (·.1))[j]? = some k:=by simpa using hj
      obtain ⟨x,h1,h2⟩:=ih hd.2 hj'
      refine ⟨x,by simpa using h1,?_⟩
      have hne:y.1≠k:=fun he=>hd.1 (by rw [he];exact List.mem_of_getElem? hj')
      unfold Ah9 at h2 ⊢
      rw [List.find?_cons,decide_eq_false hne]
      exact h2
theorem An1 {M:List (κ × Int)} {k:κ} (h:k ∉ M.map (·.1)):Ah9 M k=0:=by
  unfold Ah9
  rw [List.find?_eq_none.2 fun x hx=>by
    intro hh
    exact h (List.mem_map.2 ⟨x,hx,of_decide_eq_true hh⟩)]
end
section
variable {P:Program} {c:Ctx} {ops:Array Oper} {Q:Exit→AS→Prop} {rest:List Oper} {ty:TypeId} {pos:String} {af:Array Edge} {d:Tmp} {t:Nat→AV} {m:List Blk}
variable {κ:Type} [DecidableEq κ] {e:κ→List Lf} {n:List Nat} {kt:TypeId}
omit [DecidableEq κ] in
theorem Ann {tm:TypeId} (e:κ→List Lf) (hd:decide (d<c.nt)=true)
    (k:AWL P c ops Q rest ⟨upd t d (.s (.one (.mp 0 m.length))),m++[T4 e []]⟩):AWL P c ops Q (⟨some d,.makeMap tm none,ty,pos,af,none⟩::rest) ⟨t,m⟩:=by
  intro a w S H r
  refine wpList_plain rfl fun K hK=>?_
  unfold Oper.wp
  have hrun:(execOp a.eval ⟨some d,.makeMap tm none,ty,pos,af,none⟩).run P w=.ok (.value (.map (some w.heap.size))) (w.alloc (.map #[] 0)):=by
    simp [execOp,Instr.makeMap]
  rw [hrun]
  have r1:=r.newObj (o:=.map #[] 0) (mk:=L2 Aes (Pv e [])) (vss:=[]) (css:=[]) rfl ⟨#[],0,rfl,stamped_empty 0,rfl,rfl⟩ ⟨rfl,fun j cs vs h=>by simp at h⟩
  have r2:=r1.toTab (p:=m.length) (g:=w.heap.size) (mk:=L2 Aes (Pv e [])) (cs:=[]) (by simp)
  have e2:(m++[Blk.obj w.heap.size (L2 Aes (Pv e [])) []]).set m.length (.tab (L2 Aes (Pv e [])) [])=m++[T4 e []]:=by simp [I3]
  rw [e2] at r2
  exact hK _ _ (k _ _ _ _ (r2.put (d:=d) (x:=.s (.one (.mp 0 m.length))) (of_decide_eq_true hd) ⟨by simp,w.heap.size,Ce _ _ _,rfl⟩))
theorem Aby {st:AS} {a:Act} {w:World} {S:Cq} {H:Nat→Value} (r:Rel c st a w S H) {x:Operand} {k p g:Nat} (hx:Cz st x=.s (.one (.mp k p))) (hH:H p=.pointer (some ⟨g,0,none⟩)):a.eval x=Xe k g:=by
  have h:=B0 r x
  rw [hx] at h
  obtain ⟨_,g',h1,h2⟩:=h
  rw [hH] at h1;cases h1
  exact h2
theorem Ahi (K:Ad6 κ P kt e n) {st:AS} {a:Act} {w:World} {S:Cq} {H:Nat→Value} (r:Rel c st a w S H) {y:Operand} {k:κ} (hy:Cz st y=.s (.agg (e k))):a.eval y=Sm (e k):=by
  have h:=B0 r y
  rw [hy] at h
  obtain ⟨vs,h1,h2⟩:=h
  rw [h1]
  unfold Sm
  rw [← An5 h2 (K.lt k)]
theorem Aqg {tm et:TypeId} (K:Ad6 κ P kt e n) {x y z:Operand} {p:Nat} {M:List (κ × Int)} {k:κ} {i:Int} (hu:P.underlying tm=some (.map kt et))
    (hx:Cz ⟨t,m⟩ x=.s (.one (.mp 0 p))) (hy:Cz ⟨t,m⟩ y=.s (.agg (e k))) (hz:Cz ⟨t,m⟩ z=.s (.one (.i .i64 i))) (hm:m[p]? = some (T4 e M))
    (kk:AWL P c ops Q rest ⟨t,m.set p (T4 e (Up M k i))⟩) :
    AWL P c ops Q (⟨none,.mapUpdate tm x y z,ty,pos,af,none⟩::rest) ⟨t,m⟩:=by
  intro a w S H r0
  have ey0:=Ahi K r0 hy
  obtain ⟨g,hH,r⟩:=r0.ofTab hm
  have hp:p<m.length:=(List.getElem?_eq_some_iff.1 hm).1
  have ex:=Aby r0 hx hH
  have ez:a.eval z=.int .i64 i:=by
    have h:=B0 r0 z
    rw [hz] at h
    exact R9 h
  have hmo:(m.set p (Blk.obj g (L2 Aes (Pv e M)) (I3 M)))[p]? = some (.obj g (L2 Aes (Pv e M)) (I3 M)):=List.getElem?_set_self hp
  obtain ⟨h1,vss,o,h2,h3,⟨es,clock,rfl,hst,hks,hvs⟩,h5⟩:=r.bl p _ hmo
  have hkeys:es.toList.map (·.key)=(M.map (·.1)).map (fun k=>Sm (e k)):=hks
  have hlen:(I3 M).length=vss.length:=h5.1
  have hlM:M.length=vss.length:=by rw [← hlen];simp [I3]
  have hesM:es.size=M.length:=by
    have:=congrArg List.length hkeys
    simpa using this
  have hnd:(M.map (·.1)).Nodup:=by
    have h:=hst.2.2
    rw [hkeys] at h
    exact Q0 _ h
  have fin:∀ {w':World} {H':Nat→Value} {o:Obj} {M':List (κ × Int)},Rel c ⟨t,(m.set p (Blk.obj g (L2 Aes (Pv e M)) (I3 M))).set p (.obj g (L2 Aes (Pv e M')) (I3 M'))⟩ a w' S H'→Rel c ⟨t,m.set p (T4 e M')⟩ a w' S H':=fun {w' H' o M'} r'=>by
    have r'':=r'.toTab (p:=p) (g:=g) (mk:=L2 Aes (Pv e M')) (cs:=I3 M') (by rw [List.set_set,List.getElem?_set_self hp])
    rw [List.set_set,List.set_set] at r''
    exact r''
  refine wpList_plain rfl fun KK hK=>?_
  unfold Oper.wp
  rcases K.find w k hkeys with ⟨f1,f2⟩ | ⟨j,x',f1,f2,f3⟩
  · have hrun:(execOp a.eval ⟨none,.mapUpdate tm x y z,ty,pos,af,none⟩).run P w=.ok .skip (setBlock w g (.map (es.push { key:=Sm (e k),val:=.int .i64 i,born:=clock }) (clock+1))):=by
      simp [execOp,ex,ey0,ez,Xe,Instr.mapUpdate,run_underlying hu,MapKept.run_getObj_map h2,Tp K.et (K.tag k) (K.lt k),f1,run_setObj_map _ h2,Result.andThen,setBlock]
    rw [hrun]
    have hput:=Adv (i:=i) f2
    have hne:∀ x ∈ es.toList,x.key≠Sm (e k):=fun x hx he=>by
      have:Sm (e k) ∈ (M.map (·.1)).map (fun k=>Sm (e k)):=by rw [← hkeys,← he];exact List.mem_map.2 ⟨x,hx,rfl⟩
      obtain ⟨k',hk',he'⟩:=List.mem_map.1 this
      rw [K.inj he'] at hk'
      exact f2 hk'
    obtain ⟨H',r',_⟩:=r.setObj (mk':=L2 Aes (Pv e (Up M k i))) (css':=I3 (Up M k i)) (vss:=vss++[[.int .i64 i]]) (o:=.map (es.push { key:=Sm (e k),val:=.int .i64 i,born:=clock }) (clock+1)) hmo rfl
      ⟨_,_,rfl,stamped_push hst hne,by rw [hput];simp [hkeys,Pv],by simp [hvs,Aes]⟩ (by
        rw [hput]
        refine ⟨by simp [I3,hlM],fun q cs vs e1 e2=>?_⟩
        rcases Nat.lt_or_ge q M.length with hq | hq
        · refine h5.2 q cs vs ?_ (by rw [List.getElem?_append_left (by omega)] at e2;exact e2)
          have:(I3 (M++[(k,i)]))[q]? = (I3 M)[q]? := by unfold I3;rw [List.map_append,List.getElem?_append_left (by simpa using hq)]
          rw [← this];exact e1
        · rw [List.getElem?_append_right (by omega),← hlM] at e2
          have:(I3 (M++[(k,i)]))[q]? = ([[Lf.i .i64 i]]:List (List Lf))[q-M.length]? := by unfold I3;rw [List.map_append,List.getElem?_append_right (by simpa using hq)];simp
          rw [this] at e1
          rcases Nat.eq_zero_or_pos (q-M.length) with h0 | h0
          · rw [h0] at e1 e2
            obtain rfl:=Option.some.inj e1
            obtain rfl:=Option.some.inj e2
            exact ⟨rfl,fun j l v a b=>by
              cases j with
              | zero=>obtain rfl:=Option.some.inj a;obtain rfl:=Option.some.inj b;exact .i _ _
              | succ j=>simp at a⟩
          · rw [List.getElem?_eq_none (by rw [List.length_singleton];omega)] at e1;cases e1)
    exact hK _ _ (kk _ _ _ _ (fin (o:=.map #[] 0) r'))
  · have hj:j<es.size:=by
      have:=(List.getElem?_eq_some_iff.1 f2).1
      simpa using this
    have hjM:j<M.length:=by omega
    have hkj:x'.key=Sm (e k):=by
      have h6:(es.toList.map (·.key))[j]? = some x'.key:=by rw [List.getElem?_map,f2];rfl
      rw [hkeys,List.getElem?_map,f3] at h6
      exact (Option.some.inj h6).symm
    have hej:es[j]? = some x':=by rw [← Array.getElem?_toList];exact f2
    have hrun:(execOp a.eval ⟨none,.mapUpdate tm x y z,ty,pos,af,none⟩).run P w=.ok .skip (setBlock w g (.map (es.modify j fun E=>{ E with key:=Sm (e k),val:=.int .i64 i }) clock)):=by
      simp [execOp,ex,ey0,ez,Xe,Instr.mapUpdate,run_underlying hu,MapKept.run_getObj_map h2,Tp K.et (K.tag k) (K.lt k),f1,run_setObj_map _ h2,Result.andThen,setBlock,hej,hkj,K.stays]
    rw [hrun]
    have hput:=Amy (i:=i) hnd f3
    have hmk:(es.modify j fun E=>{ E with key:=Sm (e k),val:=.int .i64 i }).toList.map (·.key)=Pv e (M.set j (k,i)):=by
      rw [Array.toList_modify,Re (fun E:MapEntry=>{ E with key:=Sm (e k),val:=.int .i64 i }) (fun E:MapEntry=>E.key) (fun _=>Sm (e k)) (fun _=>rfl),Pe,hkeys]
      unfold Pv
      rw [List.map_set,List.map_set]
    have hmv:(es.modify j fun E=>{ E with key:=Sm (e k),val:=.int .i64 i }).toList.map (·.val)=(vss.set j [.int .i64 i]).map Aes:=by
      rw [Array.toList_modify,Re (fun E:MapEntry=>{ E with key:=Sm (e k),val:=.int .i64 i }) (fun E:MapEntry=>E.val) (fun _=>Value.int .i64 i) (fun _=>rfl),Pe,hvs,List.map_set]
      rfl
    obtain ⟨H',r',_⟩:=r.setObj (mk':=L2 Aes (Pv e (Up M k i))) (css':=I3 (Up M k i)) (vss:=vss.set j [.int .i64 i]) (o:=.map (es.modify j fun E=>{ E with key:=Sm (e k),val:=.int .i64 i }) clock) hmo rfl
      ⟨_,_,rfl,stamped_modify hst j _ (fun _ _=>rfl) (fun e' _ he'=>by rw [hej] at he';cases he';exact hkj.symm),by rw [hput];exact hmk,hmv⟩ (by
        rw [hput]
        refine ⟨by simp [I3,hlM],fun q cs vs e1 e2=>?_⟩
        have e1':((I3 M).set j [.i .i64 i])[q]? = some cs:=by rw [← e1];unfold I3;rw [List.map_set]
        rw [List.getElem?_set] at e1' e2
        by_cases hq:j=q
        · subst hq
          rw [if_pos rfl,if_pos (by omega)] at e1' e2
          obtain rfl:=Option.some.inj e1'
          obtain rfl:=Option.some.inj e2
          exact ⟨rfl,fun j l v a b=>by
              cases j with
              | zero=>obtain rfl:=Option.some.inj a;obtain rfl:=Option.some.inj b;exact .i _ _
              | succ j=>simp at a⟩
        · rw [if_neg hq] at e1' e2
          exact h5.2 q cs vs e1' e2)
    exact hK _ _ (kk _ _ _ _ (fin (o:=.map #[] 0) r'))
omit [DecidableEq κ] in
theorem Ah4 {tm et:TypeId} {x:Operand} {p:Nat} {M:List (κ × Int)} (hu:P.underlying tm=some (.map kt et)) (hx:Cz ⟨t,m⟩ x=.s (.one (.mp 0 p))) (hm:m[p]? = some (T4 e M)) :
    OpV P c ⟨t,m⟩ (.call { callee:=.builtin .len,args:=#[x],argTypes:=#[tm] }) ty (.s (.one (.i .i64 (M.length:Int)))):=by
  intro a w S H r
  obtain ⟨g,hH,vss,o,h2,h3,⟨es,clock,rfl,hst,hks,hvs⟩,h5⟩:=r.bl p _ hm
  have ex:=Aby r hx hH
  have hesM:es.size=M.length:=by
    have:=congrArg List.length hks
    simpa [Pv] using this
  refine ⟨.int .i64 M.length,Iy (.i _ _),fun _ _ _ _=>?_⟩
  simp [execOp,resolve,invoke,builtin,Builtin.len_,run_underlying hu,ex,Xe,MapKept.run_getObj_map h2,Result.andThen,goInt,hesM]
theorem Aib {tm et:TypeId} (K:Ad6 κ P kt e n) {x y:Operand} {p:Nat} {M:List (κ × Int)} {k:κ} (hu:P.underlying tm=some (.map kt et)) (zi:(P.info? et).bind (·.zero)=some (.int .i64 0)) (hx:Cz ⟨t,m⟩ x=.s (.one (.mp 0 p))) (hy:Cz ⟨t,m⟩ y=.s (.agg (e k))) (hm:m[p]? = some (T4 e M)) :
    OpV P c ⟨t,m⟩ (.lookup tm x y true) ty (.tup [.one (.i .i64 (Ah9 M k)),.one (.b (Adu M k))]):=by
  intro a w S H r
  have ey0:=Ahi K r hy
  obtain ⟨g,hH,vss,o,h2,h3,⟨es,clock,rfl,hst,hks,hvs⟩,h5⟩:=r.bl p _ hm
  have ex:=Aby r hx hH
  have hkeys:es.toList.map (·.key)=(M.map (·.1)).map (fun k=>Sm (e k)):=hks
  have hnd:(M.map (·.1)).Nodup:=by
    have h:=hst.2.2
    rw [hkeys] at h
    exact Q0 _ h
  have tup:∀ (n:Int) (b:Bool),AVR (Cn w S m H) (.tup [.one (.i .i64 n),.one (.b b)]) (.tuple #[.int .i64 n,.bool b]):=fun n b=>⟨_,rfl,rfl,fun i x u h1 h2=>by
    match i with
    | 0=>obtain rfl:=Option.some.inj h1;obtain rfl:=Option.some.inj h2;exact Cn.of_rep (m:=m) (H:=H) (.i _ _)
    | 1=>obtain rfl:=Option.some.inj h1;obtain rfl:=Option.some.inj h2;exact Cn.of_rep (m:=m) (H:=H) (.b _)
    | i+2=>simp at h1⟩
  rcases K.find w k hkeys with ⟨f1,f2⟩ | ⟨j,x',f1,f2,f3⟩
  · have e1:Adu M k=false:=by
      cases hh:Adu M k with
      | false=>rfl
      | true=>exact absurd (Rr.1 hh) f2
    rw [e1,An1 f2]
    have hz:(zeroValue et).run P w=.ok (.int .i64 0) w:=by
      cases hi:P.info? et with
      | none=>rw [hi] at zi;cases zi
      | some inf =>
        rw [hi] at zi
        have hz0:inf.zero=some (.int .i64 0):=zi
        simp [zeroValue,typeInfo,hi,hz0,Result.andThen]
    refine ⟨_,tup 0 false,fun _ _ _ _=>?_⟩
    simp [execOp,ex,ey0,Xe,Instr.lookup,run_underlying hu,MapKept.run_getObj_map h2,Tp K.et (K.tag k) (K.lt k),f1,Result.andThen,hz]
  · obtain ⟨y',h6,h7⟩:=Ane hnd f3
    have e1:Adu M k=true:=Rr.2 (List.mem_of_getElem? f3)
    rw [e1,h7]
    have hv:x'.val=.int .i64 y'.2:=by
      have h8:(es.toList.map (·.val))[j]? = some x'.val:=by rw [List.getElem?_map,f2];rfl
      rw [hvs,List.getElem?_map] at h8
      cases hvj:vss[j]? with
      | none=>rw [hvj] at h8;cases h8
      | some vs =>
        rw [hvj] at h8
        have h9:=h5.2 j [.i .i64 y'.2] vs (by unfold I3;rw [List.getElem?_map,h6];rfl) hvj
        have h10:Aes vs=x'.val:=Option.some.inj h8
        rw [← h10]
        match vs,h9 with
        | [v],h9=>exact R9 (Cn.of_rep (m:=m) (H:=H) (h9.2 0 _ v rfl rfl))
        | [],h9=>have:=h9.1;cases this
        | _::_::_,h9=>have:=h9.1;simp at this
    refine ⟨_,tup y'.2 true,fun _ _ _ _=>?_⟩
    simp [execOp,ex,ey0,Xe,Instr.lookup,run_underlying hu,MapKept.run_getObj_map h2,Tp K.et (K.tag k) (K.lt k),f1,Result.andThen,hv]
theorem Rel.fillTab {c:Ctx} {t:Nat→AV} {m:List Blk} {a:Act} {w w':World} {S S':Cq} {H H':Nat→Value} (r:Rel c ⟨t,m⟩ a w S H) {p:Nat} (hm:m[p]? = some .hole) {mk:List (List Value)→Obj→Prop} {cs:List (List Lf)}
    (hx:Ext w S w' S') (hin:InH w' S') (mem:Mem w' S' [.tab mk cs] H') (hown:∀ g,E2 (H' 0)=some g→w.heap.size≤g) :
    Rel c ⟨t,m.set p (.tab mk cs)⟩ a w' S' (R7 H p (H' 0)):=by
  have hp:p<m.length:=(List.getElem?_eq_some_iff.1 hm).1
  have hH:H p=undef:=r.bl p _ hm
  refine r.changeH (p:=p) (b':=.tab mk cs) (v:=H' 0) (by simp) (List.getElem?_set_self hp) (fun q hq=>List.getElem?_set_ne (fun e=>hq e.symm)) (hx.keeps r.sl) (fun g _ h=>(Ye (hH.symm.trans h)).elim)
    (fun e sz k cs _ h he=>by cases he) (fun g hg _=>hx.blk g hg) (mem.bl 0 _ rfl) (fun g hg=>?_)
    (fun q b g i _ hb ho hs=>hx.back g i (r.lo q b g hb ho).2 hs) (fun g i hg _ hs=>hx.back g i (Nat.lt_of_lt_of_le hg r.ex.size) hs) hin hx.size hx.os hx.tape hx.output
  have hge:=hown g hg
  refine ⟨.inl (Nat.le_trans r.ex.size hge),mem.hp 0 _ g rfl hg,fun q b _ hb ho=>?_,fun i hs=>mem.sb 0 _ g i rfl hg hs⟩
  have:=(r.lo q b g hb ho).2
  omega
theorem Acd {M:List Blk} {callee:Operand} {f:FuncId} {args:Array Operand} {ats:Array TypeId} {xs:List SV} {mk:List (List Value)→Obj→Prop} {cs:List (List Lf)} {kd:Nat} (p:Nat) (hd:decide (d<c.nt)=true) (hf:FnI P f) (hcal:Cal ⟨t,M⟩ callee f [] []) (ho:Wu ⟨t,M⟩ args.toList xs)
    (hc:De P f [] xs (fun y m'=>y=.s (.one (.mp kd 0))∧m'=[.tab mk cs])) (hpub:xs.all (fun x=>x.inbB 0)=true) (hm:M[p]? = some .hole) (hp0:Nat.ble c.m0.length p=true)
    (k:AWL P c ops Q rest ⟨upd t d (.s (.one (.mp kd p))),M.set p (.tab mk cs)⟩):AWL P c ops Q (⟨some d,.call { callee:=.value callee,args:=args,argTypes:=ats },ty,pos,af,none⟩::rest) ⟨t,M⟩:=by
  intro a w S H r
  obtain ⟨vs,hvs,hrun⟩:=Y7 (pos:=pos) (af:=af) (ty:=ty) (ats:=ats) r hf hcal ho (some d)
  refine wpList_plain rfl fun K hK=>?_
  unfold Oper.wp
  rw [hrun]
  have hvs':Xv (Cn w S [] H) xs vs.toList:=by
    have tie:Tie [] M H H (fun j=>j):=⟨fun p h=>absurd h (Nat.not_lt_zero _),fun _ _=>rfl,fun p b h=>by cases h⟩
    have e:xs.map (SV.ren (fun j=>j))=xs:=by
      have hl:∀ l:Lf,l.ren0 (fun j=>j)=l:=fun l=>by cases l <;> rfl
      have hl2:∀ l:Lf,l.ren (fun j=>j)=l:=fun l=>by
        cases l with
        | fn f a b =>
          show Lf.fn f (a.map _) (b.map _)=_
          rw [show (Lf.ren0 fun j=>j)=id from funext hl,List.map_id,List.map_id]
        | _=>rfl
      have hs:∀ x:SV,x.ren (fun j=>j)=x:=fun x=>by
        cases x with
        | one l=>show SV.one _=_;rw [hl2]
        | agg ls=>show SV.agg _=_;rw [show (Lf.ren fun j=>j)=id from funext hl2,List.map_id]
      rw [show (SV.ren fun j=>j)=id from funext hs,List.map_id]
    exact tie.svsDown hpub (by rw [e];simpa using hvs)
  refine (hc w S H vs r.sl ⟨fun p b h=>by simp at h,fun p b g h=>by simp at h,fun p q b b' g h=>by simp at h,fun p b g i h=>by simp at h⟩ hvs').mono ?_
  rintro e' w' ⟨v,y,m',S',H',rfl,⟨rfl,rfl⟩,ext,hin,mem',hown',_,hav⟩
  have hx:Ext w S w' S':=ext.toExt (fun b ⟨q,bb,h,_⟩=>by simp at h)
  have r':=r.fillTab hm hx hin mem' (fun g hg=>by
    rcases hown' 0 _ g rfl hg with h | ⟨q,bb,h,_⟩
    · exact h
    · simp at h)
  have hp:p<M.length:=(List.getElem?_eq_some_iff.1 hm).1
  obtain ⟨_,g,hg,hv⟩:=(show Fx w' S' [.tab mk cs] H' (.mp kd 0) v from hav)
  refine hK _ _ (k _ _ _ _ (r'.put (of_decide_eq_true hd) ?_))
  exact ⟨by simpa using hp,g,by rw [Ce];exact hg,hv⟩
theorem Ayb (a b:List UInt8):((⟨a.toArray⟩:ByteArray).toList == (⟨b.toArray⟩:ByteArray).toList)=decide (a=b):=by
  have h:∀ l:List UInt8,(⟨l.toArray⟩:ByteArray).toList=l:=fun l=>by rw [ByteArray.toList_eq]
  rw [h,h]
  by_cases e:a=b
  · subst e;simp
  · simp [e]
theorem Ay6 {α:Type} [BEq α] [LawfulBEq α] [DecidableEq α] (a b:α):(a == b)=decide (a=b):=by
  by_cases h:a=b
  · subst h;simp
  · simp [h]
end
end Go.Proofs.YtkblaobhhoebaaaGreat.Abs
namespace Go.Proofs.YtkblaobhhoebaaaGreat.Abs
open Go.RowKit Go.Shelf Go.Sort
def Vn:Int→Value:=Value.int .i64
theorem Aky (xs:List Int):xs.flatMap eI=xs.map fun n=>.i .i64 n:=by
 induction xs with
 | nil=>rfl
 | cons x xs ih=>rw [List.flatMap_cons,List.map_cons,ih];rfl
theorem Aq6 {w:World} {S:Cq} {xs:List Int} {vals:List Value} (h:LsR (Rep w S) (xs.flatMap eI) vals):vals=xs.map Vn:=by
 rw [Aky] at h
 apply List.ext_getElem?
 intro j
 rw [List.getElem?_map]
 rcases Nat.lt_or_ge j xs.length with hj | hj
 ·have hv:j<vals.length:=by rw [← h.1];simpa using hj
  rw [List.getElem?_eq_getElem hj,List.getElem?_eq_getElem hv]
  exact congrArg some (R9 (Cn.of_rep (m:=[]) (H:=fun _=>undef) (h.2 j (.i .i64 xs[j]) vals[j] (by rw [List.getElem?_map,List.getElem?_eq_getElem hj];rfl) (List.getElem?_eq_getElem hv))))
 ·rw [List.getElem?_eq_none hj,List.getElem?_eq_none (by rw [← h.1];simpa using hj)];rfl
theorem Agj {w:World} {S:Cq} (xs:List Int):LsR (Rep w S) (xs.flatMap eI) (xs.map Vn):=by
 rw [Aky]
 refine ⟨by simp,fun j l v h1 h2=>?_⟩
 rw [List.getElem?_map] at h1 h2
 cases hx:xs[j]? with
 | none=>rw [hx] at h1;cases h1
 | some x=>rw [hx] at h1 h2;cases h1;cases h2;exact .i _ _
section
variable {w:World} {b n:Nat} {d:Array Int} {os:Array Obj} {cur:Array Value} {e:TypeId}
theorem Alc (hb:w.heap[b]? = some (.cells cur e (0,0))) (hd:d.size≤cur.size):(grow (putRow Vn (Sort.ahead w n) b 0 d) os).heap[b]? = some (.cells (d.toList.map Vn++cur.toList.drop d.size).toArray e (0,0)):=by
 have hlt:=(Array.getElem?_eq_some_iff.1 hb).1
 have h1:(grow (putRow Vn (Sort.ahead w n) b 0 d) os).heap[b]? = (putRow Vn (Sort.ahead w n) b 0 d).heap[b]? := by
  show ((putRow Vn (Sort.ahead w n) b 0 d).heap++os)[b]? = _
  rw [Array.getElem?_append_left (by simp [putRow,Sort.ahead,mapBlock];exact hlt)]
 rw [h1]
 show ((Sort.ahead w n).heap.modify b _)[b]? = _
 rw [Array.getElem?_modify,if_pos rfl]
 show (w.heap[b]?).map _=_
 rw [hb]
 show some (Obj.cells (putCells Vn 0 d cur) e (0,0))=_
 congr 2
 apply Array.ext_getElem?
 intro i
 rw [putCells,Array.getElem?_mapIdx]
 simp only [Nat.zero_le,true_and,Nat.zero_add,Nat.sub_zero]
 have hto:(d.toList.map Vn++cur.toList.drop d.size).toArray[i]? = (d.toList.map Vn++cur.toList.drop d.size)[i]? := List.getElem?_toArray ..
 rw [hto]
 rcases Nat.lt_or_ge i d.size with hi | hi
 ·rw [List.getElem?_append_left (by simpa using hi),Array.getElem?_eq_getElem (show i<cur.size by omega),List.getElem?_map,Array.getElem?_toList,Array.getElem?_eq_getElem hi,Option.map_some,if_pos hi,getElem!_pos d i hi]
  rfl
 ·rw [List.getElem?_append_right (by simpa using hi),List.getElem?_drop,Array.getElem?_toList,List.length_map,Array.length_toList,show d.size+(i-d.size)=i by omega]
  cases cur[i]? with
  | none=>rfl
  | some v=>rw [Option.map_some,if_neg (by omega)]
theorem Yf {i:Nat} (hi:i<w.heap.size) (hne:i≠b):(grow (putRow Vn (Sort.ahead w n) b 0 d) os).heap[i]? = w.heap[i]? := by
 have h1:(grow (putRow Vn (Sort.ahead w n) b 0 d) os).heap[i]? = (putRow Vn (Sort.ahead w n) b 0 d).heap[i]? := by
  show ((putRow Vn (Sort.ahead w n) b 0 d).heap++os)[i]? = _
  rw [Array.getElem?_append_left (by simp [putRow,Sort.ahead,mapBlock];exact hi)]
 rw [h1]
 show ((Sort.ahead w n).heap.modify b _)[i]? = _
 rw [Array.getElem?_modify,if_neg (fun h=>hne h.symm)]
 rfl
theorem Wk:w.heap.size≤(grow (putRow Vn (Sort.ahead w n) b 0 d) os).heap.size:=by
 show _≤((putRow Vn (Sort.ahead w n) b 0 d).heap++os).size
 rw [Array.size_append]
 simp [putRow,Sort.ahead,mapBlock]
end
structure Av7 (P:Program) (e:TypeId) (w:World) (S:Cq) (H:Nat→Value) (xs:List Int) (blk cap:Nat) (cur:Array Value):Prop where
 h:H 0=.slice (some ⟨blk,0,none⟩) xs.length cap
 heap:w.heap[blk]? = some (.cells cur e (0,0))
 fits:xs.length≤cap
 most:cap≤maxLen
 cs:cur.size=cap*1
 vals:cur.toList.take xs.length=xs.map Vn
 lt:blk<w.heap.size
 noS:∀ i,¬ S blk i
theorem Av7.holds {P:Program} {e:TypeId} {w:World} {S:Cq} {H:Nat→Value} {xs:List Int} {blk cap:Nat} {cur:Array Value} (h:Av7 P e w S H xs blk cap cur):Holds (Value.int .i64) w blk 0 xs.toArray:=fun j hj=>by
 rw [List.size_toArray] at hj
 have hcur:cur.toList[j]? = some (.int .i64 xs[j]):=by
  have:(cur.toList.take xs.length)[j]? = some (Vn xs[j]):=by rw [h.vals,List.getElem?_map,List.getElem?_eq_getElem hj];rfl
  rw [List.getElem?_take,if_pos hj] at this
  exact this
 refine ⟨?_,?_⟩
 ·rw [Nat.zero_add,cell_of_row w _ _ cur e (0,0) h.heap,getElem!_pos _ _ (by simpa using hj)]
  simpa using hcur
 ·rw [Nat.zero_add]
  unfold World.frozen?
  rw [h.heap]
  simp
theorem Akx {P:Program} {e:TypeId} {w:World} {S:Cq} {H:Nat→Value} {xs:List Int} (mem:Mem w S [.arr e 1 0 (xs.flatMap eI)] H):(H 0=.slice none 0 0∧xs=[])∨∃ blk cap cur,Av7 P e w S H xs blk cap cur:=by
 have hf:∀ x:Int,(eI x).length=1:=fun _=>rfl
 obtain ⟨_,_,n',vals,hown,hls,_⟩:=mem.bl 0 _ rfl
 have hn':n'=xs.length:=Ph hown (by decide) (by rw [← hls.1,A1 hf])
 subst hn'
 have hv:=Aq6 hls
 rcases hown.2 with ⟨hH,h0⟩ | ⟨blk,cap,cur,hH,_,hheap,hcap,hmax,hcs,hvals⟩
 ·exact .inl ⟨hH,List.eq_nil_of_length_eq_zero h0⟩
 ·refine .inr ⟨blk,cap,cur,hH,hheap,hcap,hmax,hcs,?_,(Array.getElem?_eq_some_iff.1 hheap).1,fun i hi=>absurd (mem.sb 0 _ blk i rfl (by show E2 (H 0)=_;rw [hH];rfl) hi) (Nat.not_lt_zero _)⟩
  rw [Nat.mul_one] at hvals
  rw [hvals,hv]
theorem Arb {P:Program} {ρ:Ren} (L:Go.Proofs.SlLaysM.n5 P ρ) {e:Nat} {xs:List Int} (hn:xs.length≤1000000000000000000) :
  De P (ρ.f 5) [.arr e 1 0 (xs.flatMap eI)] [.one (.ls 0 xs.length)] (fun y m'=>y=.tup []∧m'=[.arr e 1 0 ((xs.mergeSort fun x y=>decide (x≤y)).flatMap eI)]):=by
 have hf:∀ x:Int,(eI x).length=1:=fun _=>rfl
 intro w S H vs hin mem hvs
 obtain ⟨hvl,hvr⟩:=hvs
 obtain ⟨v0,rfl⟩:∃ v0,vs = #[v0]:=by
  obtain ⟨l⟩:=vs
  match l,hvl with
  | [a],_=>exact ⟨a,rfl⟩
 obtain ⟨_,_,hv0⟩:=(show Fx w S [.arr e 1 0 (xs.flatMap eI)] H (.ls 0 xs.length) v0 from hvr 0 _ v0 rfl rfl)
 have hv0':=(hv0 e 1 0 _ rfl).2 (A1 hf xs).symm
 rcases Akx (P:=P) mem with ⟨hH,rfl⟩ | ⟨blk,cap,cur,R⟩
 ·rw [hv0',hH]
  refine (Go.Proofs.AnyM.slices_Sort_int_none L none 0 w).mono ?_
  rintro e' w' ⟨rfl,rfl⟩
  have hy:([]:List Int).mergeSort (fun x y=>decide (x≤y))=[]:=by simp
  rw [hy]
  exact ⟨_,.tup [],_,S,H,rfl,⟨rfl,rfl⟩,Ve.refl _ _ _,hin,mem,fun p b g hb ho=>.inr ⟨p,b,hb,ho⟩,⟨Nat.le_refl _,fun _ _ _ _=>rfl,fun p e' sz' k cs _ hm=>⟨k,cs,hm,.inl ⟨rfl,rfl⟩⟩,fun _ _ h=>h⟩,Kq⟩
 have hH:=R.h
 have hcon:=Go.Proofs.AnyM.slices_Sort_int L blk 0 cap xs w R.holds R.lt (by omega)
 rw [hv0',hH]
 refine hcon.mono ?_
 rintro e' w' ⟨rfl,n2,os,rfl⟩
 generalize hys:xs.mergeSort (fun x y=>decide (x≤y))=ys
 have hyl:ys.length=xs.length:=by rw [← hys,List.length_mergeSort]
 have hsame:(grow (putRow Vn (Sort.ahead w n2) blk 0 ys.toArray) os).heap[blk]? = _:=Alc (n:=n2) (os:=os) (d:=ys.toArray) R.heap (by rw [List.size_toArray,hyl,R.cs];have:=R.fits;omega)
 have hkeep:∀ b i,S b i→S b i∧(grow (putRow Vn (Sort.ahead w n2) blk 0 ys.toArray) os).cell? ⟨b,i,none⟩=w.cell? ⟨b,i,none⟩:=fun b i hs =>
  ⟨hs,World.cell?_of_block (w:=w) (Yf (hin.1 b i hs) fun e=>R.noS i (e ▸ hs))⟩
 have hin2:InH (grow (putRow Vn (Sort.ahead w n2) blk 0 ys.toArray) os) S:=hin.turn Wk fun b i hs=>(hkeep b i hs).2
 have hownX:Acc [.arr e 1 0 (xs.flatMap eI)] H blk:=⟨0,_,rfl,by show E2 (H 0)=_;rw [hH];rfl⟩
 refine ⟨_,.tup [],[.arr e 1 0 (ys.flatMap eI)],S,H,rfl,⟨rfl,rfl⟩,⟨rfl,rfl,rfl,Wk,fun b hb hx=>Yf hb fun e=>hx (e ▸ hownX),fun b i hs=>hs,fun b i hs=>(hkeep b i hs).2,fun b i _ _ hs=>hs⟩,hin2,⟨fun p b hb=>?_,fun p b g' hb ho=>?_,fun p q b b' g' hb hb' _ _=>?_,fun p b g' i hb ho hs=>?_⟩,fun p b g' hb ho=>?_,⟨Nat.le_refl _,fun _ _ _ _=>rfl,fun p e' sz' k' cs' hp hm=>?_,fun _ _ h=>h⟩,Kq⟩
 ·match p with
  | 0 =>
   obtain rfl:=Option.some.inj hb
   refine ⟨by decide,Nat.zero_le _,xs.length,ys.map Vn,⟨by rw [List.length_map,hyl];omega,.inr ⟨blk,cap,_,hH,Nat.zero_le _,hsame,R.fits,R.most,?_,?_⟩⟩,Agj ys,fun g' _ i hi=>absurd hi (Nat.not_lt_zero _)⟩
   ·rw [List.size_toArray,List.length_append,List.length_map,List.length_drop,Array.length_toList,Array.length_toList,List.size_toArray,hyl,R.cs]
    have:=R.fits
    omega
   ·rw [List.toList_toArray,Nat.mul_one,List.take_append_of_le_length (by rw [List.length_map];simp [hyl]),← hyl]
    have:ys.toArray.toList.map Vn=ys.map Vn:=by simp
    rw [this,← List.length_map (f:=Vn),List.take_length]
  | p+1=>simp at hb
 ·match p with
  | 0 =>
   obtain rfl:=Option.some.inj hb
   have hg':E2 (H 0)=some g':=ho
   rw [hH] at hg'
   obtain rfl:blk=g':=by simpa [E2] using hg'
   exact Nat.lt_of_lt_of_le R.lt Wk
  | p+1=>simp at hb
 ·match p,q with
  | 0,0=>rfl
  | 0,q+1=>simp at hb'
  | p+1,_=>simp at hb
 ·match p with
  | 0 =>
   obtain rfl:=Option.some.inj hb
   have hg':E2 (H 0)=some g':=ho
   rw [hH] at hg'
   obtain rfl:blk=g':=by simpa [E2] using hg'
   exact absurd hs (R.noS i)
  | p+1=>simp at hb
 ·match p with
  | 0 =>
   obtain rfl:=Option.some.inj hb
   exact .inr ⟨0,_,rfl,ho⟩
  | p+1=>simp at hb
 ·match p with
  | 0 =>
   obtain ⟨rfl,rfl,rfl,rfl⟩:e=e'∧1=sz'∧0=k'∧ys.flatMap eI=cs':=by simpa using hm
   exact ⟨0,_,rfl,.inl ⟨by rw [A1 hf,A1 hf,hyl],rfl⟩⟩
  | p+1=>simp at hp
def Ajk (xs:List Int):List Int:=Go.Lib.compactUpTo xs.toArray xs.toArray.size
theorem Axu {e:Nat} {w w':World} {S S':Cq} {H:Nat→Value} {xs zs:List Int} {v:Value} (hx:Ve (Acc [.arr e 1 0 (xs.flatMap eI)] H) w S w' S') (hin:InH w' S') (hown:w'.ownsRow 0 e 1 v zs.length (zs.map Vn))
  (hv:∀ g,E2 v=some g→g<w'.heap.size∧(w.heap.size≤g∨Acc [.arr e 1 0 (xs.flatMap eI)] H g)∧∀ i,¬ S' g i) :
  ∃ v' x m' S'' H',Ending.returned v=.returned v'∧(x=.s (.one (.ls 1 zs.length))∧m'=[.dead,.arr e 1 0 (zs.flatMap eI)])∧Ve (Acc [.arr e 1 0 (xs.flatMap eI)] H) w S w' S''∧InH w' S''∧Mem w' S'' m' H' ∧
   (∀ (p:Nat) (b:Blk) (g:Nat),m'[p]? = some b→b.own (H' p)=some g→w.heap.size≤g∨Acc [.arr e 1 0 (xs.flatMap eI)] H g)∧Au3 [.arr e 1 0 (xs.flatMap eI)] H m' H'∧AVR (Cn w' S'' m' H') x v':=by
 have hf:∀ x:Int,(eI x).length=1:=fun _=>rfl
 have h01:R7 H 1 v 0=H 0:=Ct _ _ (by decide)
 obtain ⟨ho1,ho2⟩:=R8 hown
 refine ⟨v,_,_,S',R7 H 1 v,rfl,⟨rfl,rfl⟩,hx,hin,⟨fun p b hb=>?_,fun p b g' hb ho=>?_,fun p q b b' g' hb hb' ho ho'=>?_,fun p b g' i hb ho hs=>?_⟩,fun p b g' hb ho=>?_,⟨by simp,fun p g hp hh=>?_,fun p e' sz' k' cs' hp hm=>?_,fun p hp h=>?_⟩,?_⟩
 ·match p with
  | 0=>obtain rfl:=Option.some.inj hb;trivial
  | 1 =>
   obtain rfl:=Option.some.inj hb
   rw [Ce]
   exact ⟨by decide,Nat.zero_le _,_,_,hown,Agj zs,fun g' _ i hi=>absurd hi (Nat.not_lt_zero _)⟩
  | p+2=>simp at hb
 ·match p with
  | 0=>obtain rfl:=Option.some.inj hb;cases ho
  | 1=>obtain rfl:=Option.some.inj hb;rw [Ce] at ho;exact (hv g' ho).1
  | p+2=>simp at hb
 ·match p,q with
  | 0,_=>obtain rfl:=Option.some.inj hb;cases ho
  | _,0=>obtain rfl:=Option.some.inj hb';cases ho'
  | 1,1=>rfl
  | p+2,_=>simp at hb
  | _,q+2=>simp at hb'
 ·match p with
  | 0=>obtain rfl:=Option.some.inj hb;cases ho
  | 1=>obtain rfl:=Option.some.inj hb;rw [Ce] at ho;exact absurd hs ((hv g' ho).2.2 i)
  | p+2=>simp at hb
 ·match p with
  | 0=>obtain rfl:=Option.some.inj hb;cases ho
  | 1=>obtain rfl:=Option.some.inj hb;rw [Ce] at ho;exact (hv g' ho).2.1
  | p+2=>simp at hb
 ·match p with
  | 0=>exact h01
  | p+1=>simp at hp
 ·match p with
  | 0=>cases hm
  | p+1=>simp at hp
 ·match p with
  | 0=>rw [h01];exact h
  | p+1=>simp at hp
 ·refine ⟨by simp,⟨ho1,by rw [Ce];exact ho2⟩,fun e' sz k cs hm=>?_⟩
  obtain ⟨rfl,rfl,rfl,rfl⟩:e=e'∧1=sz∧0=k∧zs.flatMap eI=cs:=by simpa using hm
  exact ⟨by rw [A1 hf];omega,fun _=>(Ce _ _ _).symm⟩
theorem Arx {P:Program} {ρ:Ren} (L:Go.Proofs.SlLaysE.n43 P ρ) {e:Nat} {xs:List Int} (hn:xs.length≤1000000000000000000) (heq:Go.Proofs.EqlAt P (ρ.t 23) (Value.int .i64) (fun x y=>decide (x=y))) (hne:Go.Proofs.NeqAt P (ρ.t 23) (Value.int .i64) (fun x y=>decide (x=y))) (v23:∀ w,(zeroValue (ρ.t 23)).run P w=.ok (.int .i64 0) w)
  (hnil:Bt P (ρ.f 43) [.one (.raw (.slice none 0 0))] (·=.s (.one (.raw (.slice none 0 0))))) :
  De P (ρ.f 43) [.arr e 1 0 (xs.flatMap eI)] [.one (.ls 0 xs.length)] (fun y m'=>y=.s (.one (.ls 1 (Ajk xs).length))∧m'=[.dead,.arr e 1 0 ((Ajk xs).flatMap eI)]):=by
 have hf:∀ x:Int,(eI x).length=1:=fun _=>rfl
 intro w S H vs hin mem hvs
 obtain ⟨hvl,hvr⟩:=hvs
 obtain ⟨v0,rfl⟩:∃ v0,vs = #[v0]:=by
  obtain ⟨l⟩:=vs
  match l,hvl with
  | [a],_=>exact ⟨a,rfl⟩
 obtain ⟨_,_,hv0⟩:=(show Fx w S [.arr e 1 0 (xs.flatMap eI)] H (.ls 0 xs.length) v0 from hvr 0 _ v0 rfl rfl)
 have hv0':=(hv0 e 1 0 _ rfl).2 (A1 hf xs).symm
 rcases Akx (P:=P) mem with ⟨hH,rfl⟩ | ⟨blk,cap,cur,R⟩
 ·rw [hv0',hH]
  refine (hnil w S #[.slice none 0 0] hin ⟨rfl,fun j x u h1 h2=>?_⟩).mono ?_
  ·cases j with
   | zero=>obtain rfl:=Option.some.inj h1;obtain rfl:=Option.some.inj h2;exact .raw _ rfl
   | succ j=>simp at h1
  rintro e' w' ⟨v,x,S',rfl,rfl,ext,hin',hav⟩
  have hvn:v=.slice none 0 0:=K4 (Cn.of_rep (m:=[]) (H:=H) hav)
  subst hvn
  have hx:Ve (Acc [.arr e 1 0 (([]:List Int).flatMap eI)] H) w S w' S':=⟨ext.os,ext.tape,ext.output,ext.size,fun b hb _=>ext.blk b hb,ext.sub,fun b i hs=>(ext.keeps hin b i hs).2,fun b i hb _ hs=>ext.back b i hb hs⟩
  exact Axu (zs:=[]) hx hin' ⟨rfl,.inl ⟨rfl,rfl⟩⟩ (fun g hg=>by cases hg)
 have hH:=R.h
 have hO:Go.Proofs.OneCell (Value.int .i64):=fun _=>rfl
 have hcon:=Go.Proofs.AnyE.slices_Compact L (Value.int .i64) hO heq hne 0 v23 blk 0 cap xs.toArray w R.holds (by rw [List.size_toArray];omega) (by rw [List.size_toArray];exact R.fits)
 rw [hv0',hH]
 rw [List.size_toArray] at hcon
 refine hcon.mono ?_
 rintro e' w' ⟨rfl,n2,rfl⟩
 have hcz:Go.Lib.compactUpTo xs.toArray xs.length=Ajk xs:=by unfold Ajk;rw [List.size_toArray]
 rw [hcz]
 have hzl:(Ajk xs).length≤xs.length:=by
  unfold Ajk Go.Lib.compactUpTo
  rw [List.length_map]
  refine Nat.le_trans (List.length_filter_le _ _) ?_
  rw [List.length_range,List.size_toArray]
  exact Nat.le_refl _
 generalize Ajk xs=zs at hzl
 generalize hds:(zs++List.replicate (xs.length-zs.length) (0:Int)).toArray=ds
 have hdsz:ds.size=xs.length:=by rw [← hds,List.size_toArray,List.length_append,List.length_replicate];omega
 have hdt:ds.toList.take zs.length=zs:=by rw [← hds,List.toList_toArray,List.take_left'];rfl
 have hw:putRow (Value.int .i64) (Sort.ahead w n2) blk 0 ds=grow (putRow Vn (Sort.ahead w n2) blk 0 ds) #[]:=(grow_empty _).symm
 rw [hw]
 have hsame:(grow (putRow Vn (Sort.ahead w n2) blk 0 ds) #[]).heap[blk]? = _:=Alc (n:=n2) (os:=#[]) (d:=ds) R.heap (by rw [hdsz,R.cs];have:=R.fits;omega)
 have hkeep:∀ b i,S b i→S b i∧(grow (putRow Vn (Sort.ahead w n2) blk 0 ds) #[]).cell? ⟨b,i,none⟩=w.cell? ⟨b,i,none⟩:=fun b i hs =>
  ⟨hs,World.cell?_of_block (w:=w) (Yf (hin.1 b i hs) fun e=>R.noS i (e ▸ hs))⟩
 have hin2:InH (grow (putRow Vn (Sort.ahead w n2) blk 0 ds) #[]) S:=hin.turn Wk fun b i hs=>(hkeep b i hs).2
 have hownX:Acc [.arr e 1 0 (xs.flatMap eI)] H blk:=⟨0,_,rfl,by show E2 (H 0)=_;rw [hH];rfl⟩
 refine Axu ⟨rfl,rfl,rfl,Wk,fun b hb hx=>Yf hb fun e=>hx (e ▸ hownX),fun b i hs=>hs,fun b i hs=>(hkeep b i hs).2,fun b i _ _ hs=>hs⟩ hin2 ⟨by rw [List.length_map,Nat.mul_one],.inr ⟨blk,cap,_,rfl,Nat.zero_le _,hsame,by have:=R.fits;omega,R.most,?_,?_⟩⟩ (fun g hg=>?_)
 ·rw [List.size_toArray,List.length_append,List.length_map,List.length_drop,Array.length_toList,Array.length_toList,hdsz,R.cs]
  have:=R.fits
  omega
 ·rw [List.toList_toArray,Nat.mul_one,List.take_append_of_le_length (by simpa [hdsz] using hzl),← List.map_take]
  exact congrArg (List.map Vn) hdt
 ·obtain rfl:blk=g:=by simpa [E2] using hg
  exact ⟨Nat.lt_of_lt_of_le R.lt Wk,.inr hownX,R.noS⟩
end Go.Proofs.YtkblaobhhoebaaaGreat.Abs
namespace Go.Proofs.YtkblaobhhoebaaaGreat.Abs
theorem nn {b:Bool} (h:b=false):¬ b=true:=fun h'=>by rw [h] at h';cases h'
theorem Adx {α:Type} {xs:List α} {p:α→Bool} (h:∀ x ∈ xs,p x=false):xs.find? p=none:=List.find?_eq_none.2 fun x hx=>by rw [h x hx];decide
theorem Alt {α ρ:Type} (xs:List α) (p:α→Bool) (g:α→ρ) (f:Int→Option (LR Int Unit ρ)) (hl:xs.length≤1000000000000000000)
  (h:∀ (i:Nat) x,xs[i]? = some x→f (i:Int)=some (if p x then .ret (g x) else .cont ((i+1:Nat):Int))) (hend:f (xs.length:Int)=some (.brk ())) :
  Lj f fuel 0=some (match xs.find? p with | some x=>.inl (g x) | none=>.inr ()):=by
 obtain ⟨v,hv,hr⟩:=Cx (f:=f) (P:=fun s=>∃ i:Nat,i≤xs.length∧s=(i:Int)∧xs.find? p=(xs.drop i).find? p) (μ:=fun s=>xs.length-s.toNat)
  (R:=fun r=>r=(match xs.find? p with | some x=>Sum.inl (g x) | none=>Sum.inr ())) (by
   rintro _ ⟨i,hi,rfl,hp⟩
   rcases Nat.lt_or_ge i xs.length with hlt | hge
   ·have hx:=List.getElem?_eq_getElem hlt
    have hf:=h i _ hx
    have hd:xs.drop i=xs[i]::xs.drop (i+1):=List.drop_eq_getElem_cons hlt
    cases hpx:p xs[i] with
    | true =>
     rw [hpx,if_pos rfl] at hf
     refine .inr (.inr ⟨_,hf,?_⟩)
     rw [hp,hd,List.find?_cons,hpx]
    | false =>
     rw [hpx,if_neg (by decide)] at hf
     refine .inl ⟨_,hf,⟨i+1,hlt,rfl,?_⟩,by simp only [Int.toNat_natCast];omega⟩
     rw [hp,hd,List.find?_cons,hpx]
   ·have e:i=xs.length:=by omega
    subst e
    refine .inr (.inl ⟨(),hend,?_⟩)
    rw [hp,List.drop_length];rfl) fuel 0 ⟨0,Nat.zero_le _,rfl,rfl⟩ (Ck (by show xs.length-0≤_;omega))
 rw [hv,hr]
theorem Aw5 {α ρ:Type} (xs:List α) (p:α→Bool) (no:ρ) (f:Int→Option (LR Int Unit ρ)) (hl:xs.length≤1000000000000000000)
  (h:∀ (i:Nat) x,xs[i]? = some x→f (i:Int)=some (if p x then .cont ((i+1:Nat):Int) else .ret no)) (hend:f (xs.length:Int)=some (.brk ())) :
  Lj f fuel 0=some (if xs.all p then .inr () else .inl no):=by
 rw [Alt xs (fun x=>!p x) (fun _=>no) f hl (fun i x hx=>by
  rw [h i x hx]
  cases p x <;> rfl) hend]
 cases ha:xs.all p with
 | true =>
  rw [Adx fun x hx=>by rw [List.all_eq_true.1 ha x hx];rfl];rfl
 | false =>
  obtain ⟨x,hx,hp⟩:=List.all_eq_false.1 ha
  cases hf:xs.find? (fun x=>!p x) with
  | none=>exact absurd (List.find?_eq_none.1 hf x hx) (by simpa using hp)
  | some y=>rfl
theorem Ajd {α β:Type} (xs:List α) (g:α→List β) (f:Int × List β→Option (LB (Int × List β) (List β))) (k:Nat) (hg:∀ x,(g x).length≤k) (hl:xs.length≤1000000000000000000)
  (h:∀ (i:Nat) x acc,xs[i]? = some x→acc.length≤i*k→f ((i:Int),acc)=some (.cont (((i+1:Nat):Int),acc++g x))) (hend:∀ acc,f ((xs.length:Int),acc)=some (.brk acc)) :
  C5 f fuel (0,[])=some (xs.flatMap g):=by
 obtain ⟨v,hv,hr⟩:=Ej (f:=f) (P:=fun s=>∃ i:Nat,i≤xs.length∧s=((i:Int),(xs.take i).flatMap g)) (μ:=fun s=>xs.length-s.1.toNat) (R:=fun v=>v=xs.flatMap g) (by
  rintro _ ⟨i,hi,rfl⟩
  rcases Nat.lt_or_ge i xs.length with hlt | hge
  ·left
   have hlen:((xs.take i).flatMap g).length≤i*k:=by
    have key:∀ l:List α,(l.flatMap g).length≤l.length*k:=fun l=>by
     induction l with
     | nil=>simp
     | cons a l ih =>
      rw [List.flatMap_cons,List.length_append,List.length_cons,Nat.succ_mul]
      have:=hg a
      omega
    have:=key (xs.take i)
    rwa [List.length_take,Nat.min_eq_left hi] at this
   refine ⟨_,h i _ _ (List.getElem?_eq_getElem hlt) hlen,⟨i+1,hlt,?_⟩,by simp only [Int.toNat_natCast];omega⟩
   rw [List.take_succ_eq_append_getElem hlt,List.flatMap_append];simp
  ·right
   have e:i=xs.length:=by omega
   subst e
   exact ⟨_,hend _,by rw [List.take_length]⟩) fuel (0,[]) ⟨0,Nat.zero_le _,by simp⟩ (Ck (by show xs.length-0≤_;omega))
 rw [hv,hr]
theorem Yc {α β:Type} (xs:List α) (p:α→Bool) (g:α→β):xs.flatMap (fun x=>if p x then [g x] else [])=(xs.filter p).map g:=by
 induction xs with
 | nil=>rfl
 | cons x xs ih =>
  rw [List.flatMap_cons,ih,List.filter_cons]
  cases p x <;> rfl
theorem Aoz {α β:Type} (xs:List α) (g:α→β):xs.flatMap (fun x=>[g x])=xs.map g:=by
 induction xs with
 | nil=>rfl
 | cons x xs ih=>rw [List.flatMap_cons,ih];rfl
def Aoc (l:List Int):Prop:=l.Pairwise (· < ·)
theorem Akl {xs:List Int} (hs:xs.Pairwise (·≤·)):Aoc (Ajk xs)∧∀ x,x ∈ Ajk xs ↔ x ∈ xs:=by
 have key:∀ m,m≤xs.length→Aoc (Go.Lib.compactUpTo xs.toArray m)∧(∀ x,x ∈ Go.Lib.compactUpTo xs.toArray m ↔ x ∈ xs.take m):=fun m=>by
  induction m with
  | zero=>intro _;exact ⟨by simp [Go.Lib.compactUpTo,Aoc],fun x=>by simp [Go.Lib.compactUpTo]⟩
  | succ m ih =>
   intro hm
   obtain ⟨h1,h2⟩:=ih (by omega)
   have hlt:m<xs.length:=by omega
   have hU:Go.Lib.compactUpTo xs.toArray (m+1)=Go.Lib.compactUpTo xs.toArray m++(if Go.Lib.keeps xs.toArray m then [xs[m]] else []):=by
    unfold Go.Lib.compactUpTo
    rw [List.range_succ,List.filter_append,List.map_append]
    congr 1
    rw [List.filter_cons]
    cases Go.Lib.keeps xs.toArray m with
    | true =>
     rw [if_pos rfl,if_pos rfl]
     simp [List.getElem?_eq_getElem hlt]
    | false=>rfl
   rw [hU,List.take_succ_eq_append_getElem hlt]
   have hle:∀ x ∈ xs.take m,x≤xs[m]:=fun x hx=>by
    obtain ⟨j,hj,rfl⟩:=List.getElem_of_mem hx
    rw [List.getElem_take]
    have hjm:j<m:=by rw [List.length_take] at hj;omega
    exact (List.pairwise_iff_getElem.1 hs) j m (by omega) hlt hjm
   by_cases h0:m=0
   ·subst h0
    have hk:Go.Lib.keeps xs.toArray 0=true:=by unfold Go.Lib.keeps;simp
    rw [hk,if_pos rfl]
    refine ⟨?_,fun x=>by simp [Go.Lib.compactUpTo]⟩
    simp [Go.Lib.compactUpTo,Aoc]
   have hm1:m-1<xs.length:=by omega
   have hkk:Go.Lib.keeps xs.toArray m=decide (xs[m]≠xs[m-1]):=by
    unfold Go.Lib.keeps
    rw [getElem!_pos xs.toArray m (by simpa using hlt),getElem!_pos xs.toArray (m-1) (by simpa using hm1)]
    simp [h0]
   rw [hkk]
   have hlast:xs[m-1] ∈ xs.take m:=List.mem_iff_getElem.2 ⟨m-1,by rw [List.length_take];omega,by rw [List.getElem_take]⟩
   by_cases he:xs[m]=xs[m-1]
   ·rw [if_neg (by simp [he]),List.append_nil]
    refine ⟨h1,fun x=>?_⟩
    rw [h2,List.mem_append,List.mem_singleton]
    constructor
    ·exact .inl
    ·rintro (h | rfl)
     ·exact h
     ·rw [he];exact hlast
   ·rw [if_pos (by simp [he])]
    have hll:xs[m-1]≤xs[m]:=hle _ hlast
    have hlt2:∀ x ∈ xs.take m,x<xs[m]:=fun x hx=>by
     obtain ⟨j,hj,rfl⟩:=List.getElem_of_mem hx
     rw [List.getElem_take]
     have hjm:j<m:=by rw [List.length_take] at hj;omega
     have:xs[j]≤xs[m-1]:=by
      rcases Nat.lt_or_ge j (m-1) with h | h
      ·exact (List.pairwise_iff_getElem.1 hs) j (m-1) (by omega) hm1 h
      ·have:j=m-1:=by omega
       subst this;exact Int.le_refl _
     omega
    refine ⟨List.pairwise_append.2 ⟨h1,List.pairwise_singleton _ _,fun a ha b hb=>?_⟩,fun x=>?_⟩
    ·rw [List.mem_singleton.1 hb];exact hlt2 a ((h2 a).1 ha)
    ·rw [List.mem_append,List.mem_append,h2]
 have:=key xs.length (Nat.le_refl _)
 unfold Ajk
 rw [List.size_toArray]
 rw [List.take_length] at this
 exact this
def Acl (l:List Int):List Int:=Ajk (l.mergeSort fun x y=>decide (x≤y))
theorem Ar2 (l:List Int):(l.mergeSort fun x y=>decide (x≤y)).Pairwise (·≤·):=by
 have:=List.pairwise_mergeSort (le:=fun x y:Int=>decide (x≤y)) (fun a b c h1 h2=>by rw [decide_eq_true_eq] at *;omega) (fun a b=>by simp;omega) l
 exact this.imp fun h=>of_decide_eq_true h
theorem Aj9 {l:List Int} {x:Int}:x ∈ Acl l ↔ x ∈ l:=((Akl (Ar2 l)).2 x).trans (List.mem_mergeSort ..)
theorem Amk (l:List Int):(Acl l).length≤l.length:=by
 unfold Acl Ajk Go.Lib.compactUpTo
 rw [List.length_map]
 refine Nat.le_trans (List.length_filter_le _ _) ?_
 rw [List.length_range,List.size_toArray,List.length_mergeSort]
 exact Nat.le_refl _
end Go.Proofs.YtkblaobhhoebaaaGreat.Abs
namespace Go.Proofs.YtkblaobhhoebaaaGreat.Abs
open Go.RowKit Go.MapKept Go.Conc
open Go.ChangeMaps (setBlock)
end Go.Proofs.YtkblaobhhoebaaaGreat.Abs
namespace Go.Proofs.YtkblaobhhoebaaaGreat.Abs
open Go.RowKit
end Go.Proofs.YtkblaobhhoebaaaGreat.Abs
namespace Go.Proofs.YtkblaobhhoebaaaGreat.Abs
open Go.RowKit
end Go.Proofs.YtkblaobhhoebaaaGreat.Abs
namespace Go.Proofs.YtkblaobhhoebaaaGreat.Abs
open Go.RowKit
end Go.Proofs.YtkblaobhhoebaaaGreat.Abs
namespace Go.Proofs.YtkblaobhhoebaaaGreat.Abs
open Go.RowKit
end Go.Proofs.YtkblaobhhoebaaaGreat.Abs
namespace Go.Proofs.YtkblaobhhoebaaaGreat.Abs
section
variable {P:Program} {c:Ctx} {st:AS} {ty:TypeId}
theorem Agf {xt:TypeId} {x:Operand} {n:Int} (hu:P.underlying xt=some (.int .i64)) (hx:Cz st x=.s (.one (.i .i64 n))):OpV P c st (.makeInterface xt x) ty (.s (.one (.raw (.iface xt (.int .i64 n))))):=by
 intro a w S H r
 have h1:=B0 r x
 rw [hx] at h1
 have e1:a.eval x=.int .i64 n:=R9 h1
 exact ⟨.iface xt (.int .i64 n),Iy (.raw _ rfl),fun _ _ _ _=>by simp [execOp,e1,Instr.makeInterface,run_underlying hu]⟩
end
theorem ccI {P:Program} {c:Ctx} {x y:Code} {o:Operand} {t:Nat→AV} {m:List Blk} {Q:Exit→AS→Prop} {b:Bool} {α:Type} {u v:Option α} {r:α} (h:(if b then u else v)=some r) (ho:Cz ⟨t,m⟩ o=.s (.one (.b b)))
  (h1:u=some r→AWC P c x Q ⟨t,m⟩) (h0:v=some r→AWC P c y Q ⟨t,m⟩):AWC P c (.cond o x y) Q ⟨t,m⟩:=Cp ho (fun hc=>h1 (Va hc h)) (fun hc=>h0 (Vr hc h))
theorem Af6 {P:Program} {f:FuncId} {x y:Value} {r:Lf} {v:Value} (hr:∀ w S,Rep w S r v) (h:∀ w,Calls P f #[x,y] w fun e w'=>e=.returned v∧w'=w):Bt P f [.one (.raw x),.one (.raw y)] (·=.s (.one r)):=by
 intro w S vs hS hv
 have hvs:vs = #[x,y]:=by
  obtain ⟨l⟩:=vs
  obtain ⟨hl,hg⟩:=hv
  match l,hl with
  | [v1,v2],_ =>
   have g1:Rep w S (.raw x) v1:=hg 0 _ v1 rfl rfl
   have g2:Rep w S (.raw y) v2:=hg 1 _ v2 rfl rfl
   cases g1;cases g2;rfl
 subst hvs
 refine (h w).mono ?_
 rintro e w' ⟨rfl,rfl⟩
 exact ⟨v,_,S,rfl,rfl,Ext.refl _ _,hS,hr _ _⟩
end Go.Proofs.YtkblaobhhoebaaaGreat.Abs
namespace Go.Proofs.YtkblaobhhoebaaaGreat.Abs
open Go.RowKit
def Au2 (st:AS):Op→Option SV
 | .move x=>match Cz st x with
  | .s v=>some v
  | _=>none
 | .assign x=>match Cz st x with
  | .s v=>some v
  | _=>none
 | .pick b x y=>match Cz st b with
  | .s (.one (.b true))=>match Cz st x with
   | .s v=>some v
   | _=>none
  | .s (.one (.b false))=>match Cz st y with
   | .s v=>some v
   | _=>none
  | _=>none
 | _=>none
theorem Ali {P:Program} {c:Ctx} {st:AS} {op:Op} {ty:TypeId} {v:SV} (h:Au2 st op=some v):OpV P c st op ty (.s v):=by
 unfold Au2 at h
 split at h
 ·split at h
  ·rename_i hx;cases h;exact Bc hx
  ·cases h
 ·split at h
  ·rename_i hx;cases h;exact Ko hx
  ·cases h
 ·split at h
  ·rename_i hb
   split at h
   ·rename_i hx;cases h;exact Hv hb hx
   ·cases h
  ·rename_i hb
   split at h
   ·rename_i hx;cases h;exact Mg hb hx
   ·cases h
  ·cases h
 ·cases h
def Ajn (nt:Nat) (m:List Blk) (ops:Array Oper):Nat→List Oper→(Nat→AV)→Option (List Oper × (Nat→AV))
 | 0,l,t=>some (l,t)
 | n+1,l,t=>match l with
  | []=>none
  | o::rest=>match o with
   | ⟨some d,op,_,_,_,g⟩=>match decide (d<nt) with
    | true=>match g with
     | none=>match Au2 ⟨t,m⟩ op with
      | some v=>Ajn nt m ops n rest (upd t d (.s v))
      | none=>none
     | some (j,want)=>match (ops[j]?).bind (·.dst) with
      | some dj=>match t dj with
       | .s (.one (.b b))=>match b == want with
        | false=>Ajn nt m ops n rest (upd t d (.tup []))
        | true=>match decide (dj<nt) with
         | true=>match Au2 ⟨t,m⟩ op with
          | some v=>Ajn nt m ops n rest (upd t d (.s v))
          | none=>none
         | false=>none
       | _=>none
      | none=>none
    | false=>none
   | _=>none
theorem rm {P:Program} {c:Ctx} {m:List Blk} {ops:Array Oper} {Q:Exit→AS→Prop} (n:Nat) {l l':List Oper} {t t':Nat→AV} (h:Ajn c.nt m ops n l t=some (l',t')) (k:AWL P c ops Q l' ⟨t',m⟩):AWL P c ops Q l ⟨t,m⟩:=by
 induction n generalizing l t with
 | zero=>cases h;exact k
 | succ n ih =>
  unfold Ajn at h
  split at h
  ·cases h
  split at h
  ·rename_i rest d op ty pos af g
   split at h
   ·rename_i hd
    split at h
    ·split at h
     ·rename_i v hv
      exact sv hd (Ali hv) (ih h)
     ·cases h
    ·rename_i j want
     split at h
     ·rename_i dj hj
      split at h
      ·rename_i b ht
       split at h
       ·rename_i hb
        exact Ayu hd hj ht hb (ih h)
       ·rename_i hb
        split at h
        ·rename_i hn
         split at h
         ·rename_i v hv
          have hb:b=want:=by simpa using hb
          subst hb
          exact son hn hj ht (sv hd (Ali hv) (ih h))
         ·cases h
        ·cases h
      ·cases h
     ·cases h
   ·cases h
  ·cases h
theorem dnT {P:Program} {fn:Func} {R:AV→Prop} {st:AS} {t:Tmp} {x:SV} (hr:fn.results.toList=[.tmp t]) (hx:st.t t=.s x) (hp:x.cells.all Lf.pubd=true) (hR:R (.s x)):Asg P fn R .ret st :=
 ⟨Or.inr rfl,[x],[x],st.m,by rw [hr];exact Ad (.tmp _ _ hx) Ah,Ao (by simpa using hp),hR⟩
theorem dnA {P:Program} {fn:Func} {R:AV→Prop} {st:AS} {t:Tmp} {ty:TypeId} {sz:Nat} {l:Lf} {cs:List Lf} (hr:fn.results.toList=[.cell t ty]) (ti:TI P ty true sz) (ht:st.t t=.s (.one l)) (hp:Z8 st l cs) (hy:sz≤cs.length) (hb:(cs.take sz).all Lf.pubd=true) (hR:R (.s (.agg (cs.take sz)))):Asg P fn R .ret st :=
 ⟨Or.inr rfl,[.agg (cs.take sz)],[.agg (cs.take sz)],st.m,by rw [hr];exact Ad (.agg _ _ _ _ _ ti ht hp hy) Ah,Ao (by simpa [SV.cells] using hb),hR⟩
theorem evs {α:Prop} {md:List Blk} {all:List (List Blk)} (k:Y0 md all→α) (h:Y0 md all):α:=k h
section
variable {P:Program} {c:Ctx} {t:Nat→AV} {m:List Blk} {ops:Array Oper} {Q:Exit→AS→Prop} {rest:List Oper} {ty ty':TypeId} {pos pos':String} {af af':Array Edge} {d e:Tmp}
theorem csr {id:Nat} {l:List Oper} {y:Code} (h:AWL P c l.toArray (Q6 (AWC P c y Q) Q) l ⟨t,m⟩):AWC P c (.seq (.region id l.toArray false) y) Q ⟨t,m⟩:=Br (As h)
theorem fl {s f off:Nat} {x y:Operand} {p o q:Nat} {T:TypeId} {cs:List Lf} {z:Lf} (fi:FI P s f off) (ti:TI P T false 1) (h1:decide (d<c.nt)=true) (hx:Cz ⟨t,m⟩ x=.s (.one (.lp p o))) (h2:decide (e<c.nt)=true) (hy:Cz ⟨upd t d (.s (.one (.lp p (o+off)))),m⟩ y=.s (.one (.lp p q))) (hm:m[p]? = some (.box cs)) (hz:(cs.drop q)[0]? = some z)
  (k:AWL P c ops Q rest ⟨upd (upd t d (.s (.one (.lp p (o+off))))) e (.s (.one z)),m⟩):AWL P c ops Q (⟨some d,.fieldAddr s x f,ty,pos,af,none⟩::⟨some e,.load T y,ty',pos',af',none⟩::rest) ⟨t,m⟩ :=
 sv h1 (Ac fi hx) (sv h2 (Ak ti hy (.lp _ _ _ hm) hz) k)
end
end Go.Proofs.YtkblaobhhoebaaaGreat.Abs
namespace Go.Proofs.YtkblaobhhoebaaaGreat.Abs
open Go.RowKit
theorem R.{u} {α:Sort u} {a:α}:a=a:=rfl
section
variable {P:Program} {c:Ctx} {t:Nat→AV} {m:List Blk} {ops:Array Oper} {Q:Exit→AS→Prop} {rest:List Oper} {ty:TypeId} {pos:String} {af:Array Edge} {d:Tmp}
theorem ld {T:TypeId} {sz:Nat} {x:Operand} {p off:Nat} {cs:List Lf} (ti:TI P T true sz) (h1:decide (d<c.nt)=true) (hx:Cz ⟨t,m⟩ x=.s (.one (.lp p off))) (hm:m[p]? = some (.box cs)) (hy:Nat.ble sz (cs.drop off).length=true)
    (k:AWL P c ops Q rest ⟨upd t d (.s (.agg ((cs.drop off).take sz))),m⟩):AWL P c ops Q (⟨some d,.load T x,ty,pos,af,none⟩::rest) ⟨t,m⟩ :=
  sv h1 (Bf ti hx (.lp _ _ _ hm) (Nat.le_of_ble_eq_true hy)) k
theorem sst {t':TypeId} {x y:Operand} {p off sz:Nat} {v:SV} {cs:List Lf} (hi:(P.info? t').map (·.size)=some sz) (hx:Cz ⟨t,m⟩ x=.s (.one (.lp p off))) (hy:Cz ⟨t,m⟩ y=.s v) (hm:m[p]? = some (.box cs))
    (hv:v.cells.length=sz) (hfit:Nat.ble (off+sz) cs.length=true)
    (k:AWL P c ops Q rest ⟨t,m.set p (.box (M5 cs off v.cells))⟩):AWL P c ops Q (⟨none,.store t' x y,ty,pos,af,none⟩::rest) ⟨t,m⟩ :=
  Ata hi hx hy hm hv (Nat.le_of_ble_eq_true hfit) k
theorem ssI {l:List Oper} (dj:Tmp) {b:Bool} {α:Type} {u v:Option α} {r:α} (h:(if b then u else v)=some r) (ht:t dj=.s (.one (.b b))) (k1:u=some r→AWL P c ops Q l ⟨upd t dj (.s (.one (.b true))),m⟩) (k0:v=some r→AWL P c ops Q l ⟨upd t dj (.s (.one (.b false))),m⟩):AWL P c ops Q l ⟨t,m⟩ :=
  Ak7 dj ht (fun hc=>k1 (Va hc h)) (fun hc=>k0 (Vr hc h))
theorem ra {st:AS} {t:Tmp} {ty:TypeId} {sz:Nat} {p off:Nat} {cs:List Lf} (ti:TI P ty true sz) (h:st.t t=.s (.one (.lp p off))) (hm:st.m[p]? = some (.box cs)) (hy:Nat.ble sz (cs.drop off).length=true):Ag6 P st (.cell t ty) (.agg ((cs.drop off).take sz)) :=
  .agg _ _ _ _ _ ti h (.lp _ _ _ hm) (Nat.le_of_ble_eq_true hy)
theorem rt {st:AS} {t:Tmp} {x:SV} (h:st.t t=.s x):Ag6 P st (.tmp t) x:=.tmp _ _ h
theorem dn {fn:Func} {R':AV→Prop} {st:AS} {xs ys:List SV} {m':List Blk} (hr:Aad P st fn.results.toList xs) (hp:J7 st.m xs ys m') (h:R' (Adh ys)):Asg P fn R' .ret st:=⟨Or.inr rfl,xs,ys,m',hr,hp,h⟩
end
end Go.Proofs.YtkblaobhhoebaaaGreat.Abs
