/-
  A walk over abstract states: its rules, part C.
-/
import Derived.Test.YtkblaobhhoebaaaGreatSAbsB
import Derived.WalkKit
import Derived.Lib.Walk
import Derived.Lib.SliceRun
import Derived.Lib.JoinLaws
import Derived.Lib.AppendZeros
import Derived.Lib.AppendZerosOnto
import Derived.Lib.Overlaps
import Derived.Laws.Externs
import Derived.Laws.IdiomCopy
import Derived.Laws.NewBlocks
import Derived.Shelf.RegionOpenPlain
import Derived.Shelf.Spec.SlicesInsert
import Derived.Lib.ConvBytes
import Derived.Maps.Range
import Derived.Shelf.SlSortCmp.WholeK
import Derived.Shelf.SlSortCmp.NoneTotal
import Derived.Shelf.SortM.Plain
import Derived.Shelf.SortM.SortNone
import Derived.Shelf.SlicesE.Compact
import Derived.Conc.LoneSelect
import Derived.Test.YtkblaobhhoebaaaGreatSAbsA
import Derived.SizedLaws
import Derived.OpenShut
import Derived.ChangeKeysEq
import Derived.LaidEql
import Derived.Stop.Asserts
import Derived.Stop.IfaceNil
import Derived.RowKitTokens
import Derived.Lib.IfaceEq
set_option linter.unusedVariables false
set_option linter.unusedSimpArgs false
namespace Go.Proofs.YtkblaobhhoebaaaGreat.Abs
open Go.RowKit
abbrev Akr:=List (List Bool×List Blk)
def Ad9:Akr->List Bool->Option (List Blk)
  | [],_=>none
  | (b,M)::r,bits=>if b==bits then some M else Ad9 r bits
theorem Aj8:∀ {tbl:Akr} {bits:List Bool} {M:List Blk},Ad9 tbl bits=some M->(bits,M)∈tbl
  | (b,N)::r,bits,M,h=>by
    unfold Ad9 at h
    by_cases hb:(b==bits)=true
    · rw[if_pos hb] at h
      cases h
      have:b=bits:=by simpa using hb
      subst this
      exact yV ..
    · rw[if_neg hb] at h
      exact yT _ (Aj8 h)
theorem Aam:∀ {es:List Nat} {a b:Nat},(a,b)∈es.zip es->a=b/\a∈es
  | [],_,_,h=>by simp at h
  | e::r,a,b,h=>by
    rw[List.zip_cons_cons] at h
    rcases yM.1 h with h|h
    · cases h;exact⟨rfl,yV ..⟩
    · obtain⟨h1,h2⟩:=Aam h
      exact⟨h1,yT _ h2⟩
def Nu (es:List Nat) (listed:Array Bool):List Bool:=es.map λe=>listed.getD e false
def Y4 (ws es:List Nat) (i:Nat) (bits:List Bool):Bool:=(es.zip bits).all λx=>(!((ws.getD i 0).testBit x.1)||x.2)&&(!(x.1==i||(ws.getD x.1 0).testBit i) || !x.2)
def Ajs (ws es:List Nat) (bits:List Bool):Bool:=(es.zip bits).all λx=>!x.2||(es.zip bits).all λy=>!((ws.getD x.1 0).testBit y.1)||y.2
def Abo:Nat->List (List Bool)
  | 0=>[[]]
  | n+1=>(Abo n).map (false::·)++(Abo n).map (true::·)
theorem Acm:∀ {n:Nat} {bits:List Bool},bits.length=n->bits∈Abo n
  | 0,[],_=>zV.2 rfl
  | 0,_::_,h=>by simp at h
  | n+1,[],h=>by simp at h
  | n+1,b::bits,h=>by
    have ih:=Acm (n:=n) (bits:=bits) (by simpa using h)
    unfold Abo
    rw[yH]
    cases b with
    | false=>exact .inl (yN.2 ⟨bits,ih,rfl⟩)
    | true=>exact .inr (yN.2 ⟨bits,ih,rfl⟩)
def A0d (ws es:List Nat) (tbl:Akr):Bool:=(Abo es.length).all λbits=>!Ajs ws es bits||(Ad9 tbl bits).isSome
def Afs (p:List Bool->Bool) (Q:List Bool->List Blk->Prop) (tbl:Akr):Prop:=∀ e∈tbl,p e.1=true->Q e.1 e.2
theorem Hq {p:List Bool->Bool} {Q:List Bool->List Blk->Prop}:Afs p Q []:=λe h=>by cases h
theorem Db {p:List Bool->Bool} {Q:List Bool->List Blk->Prop} {b:List Bool} {M:List Blk} {r:Akr} (_:p b=true) (q:Q b M) (h:Afs p Q r):Afs p Q ((b,M)::r):=λe he hp=>by
  rcases yM.1 he with rfl|he
  · exact q
  · exact h e he hp
theorem Ck {p:List Bool->Bool} {Q:List Bool->List Blk->Prop} {b:List Bool} {M:List Blk} {r:Akr} (hf:p b=false) (h:Afs p Q r):Afs p Q ((b,M)::r):=λe he hp=>by
  rcases yM.1 he with rfl|he
  · have hp':p b=true:=hp
    rw[hf] at hp';cases hp'
  · exact h e he hp
section
variable {P:Program} {c:Ctx} {t:Nat->AV} {m:List Blk} {Q:Exit->AS->Prop}
def Aps (P:Program) (c:Ctx) (ops:Array Oper) (ws es:List Nat) (tbl:Akr) (i:Nat) (t:Nat->AV) (o:Oper) (x:AV):Prop :=
  (∃ md,Z5 P c md ops t o x/\Afs (Y4 ws es i) (λ_ M=>Aeq md M) tbl)\/Afs (Y4 ws es i) (λ_ M=>Z5 P c M ops t o x) tbl
theorem Aps.congr {ops:Array Oper} {ws es:List Nat} {tbl:Akr} {i:Nat} {t t':Nat->AV} {o:Oper} {x:AV} (h:Aps P c ops ws es tbl i t o x) (ht:∀ y∈o.looksAt ops,t y=t' y):Aps P c ops ws es tbl i t' o x:=by
  rcases h with⟨md,h1,h2⟩|h
  · exact .inl ⟨md,h1.congr ht,h2⟩
  · exact .inr λe he hp=>(h e he hp).congr ht
def DM (P:Program) (c:Ctx) (ops:Array Oper) (ws es:List Nat) (tbl:Akr) (k:(Nat->AV)->Prop):Nat->List Oper->(Nat->AV)->Prop
  | _,[],t=>k t
  | i,o::rest,t =>
    (es.contains i=false/\∃ x d,o.dst=some d/\d<c.nt/\Aps P c ops ws es tbl i t o x/\DM P c ops ws es tbl k (i+1) rest (upd t d x)) \/
    (∃ j x,es[j]? = some i/\Asx ops t o/\Afs (Y4 ws es i) (λb M=>∃ M',Ad9 tbl (b.set j true)=some M'/\Auk P c ops t M M' o x) tbl/\(∀ d,o.dst=some d->d<c.nt) /\
      DM P c ops ws es tbl k (i+1) rest (match o.dst with|some d=>upd t d x|none=>t))
theorem DM.get {ops:Array Oper} {ws es:List Nat} {tbl:Akr} {k:(Nat->AV)->Prop}:∀ {l:List Oper} {i:Nat} {t:Nat->AV},DM P c ops ws es tbl k i l t->(Om l).Nodup->(∀ (q:Nat) (o:Oper),l[q]? = some o->∀ y∈o.looksAt ops,y∉Om (l.drop q)) ->
    ∃ T,k T/\(∀ y,y∉Om l->T y=t y)/\∀ (q:Nat) (o:Oper),l[q]? = some o ->
      (es.contains (i+q)=false/\∃ d,o.dst=some d/\d<c.nt/\Aps P c ops ws es tbl (i+q) T o (T d)) \/
      (∃ j x,es[j]? = some (i+q)/\Asx ops T o/\Afs (Y4 ws es (i+q)) (λb M=>∃ M',Ad9 tbl (b.set j true)=some M'/\Auk P c ops T M M' o x) tbl/\∀ d,o.dst=some d->d<c.nt/\T d=x)
  | [],i,t,h,_,_=>⟨t,h,λ_ _=>rfl,λq o h=>by simp at h⟩
  | o::rest,i,t,h,hnd,hl=>by
    have hlook:∀ y∈o.looksAt ops,y∉Om (o::rest):=λy hy=>by simpa using hl 0 o rfl y hy
    have hlt:∀ (q:Nat) (o':Oper),rest[q]? = some o'->∀ y∈o'.looksAt ops,y∉Om (rest.drop q):=λq o' h' y hy=>by
      have:=hl (q+1) o' (by simpa using h') y hy
      simpa using this
    rcases h with⟨hne,x,d,hd,hdn,hg,hr⟩|⟨j,x,h1,h6,h7,h8,hr⟩
    · have hds:Om (o::rest)=d::Om rest:=by simp [Om,hd]
      rw[hds] at hnd hlook
      have hnd':=xW.1 hnd
      obtain⟨T,hk,hT,hG⟩:=DM.get hr hnd'.2 hlt
      have hTl:∀ y∈o.looksAt ops,t y=T y:=λy hy=>by
        have:=hlook y hy
        simp only[yM,not_or] at this
        rw[hT y this.2,Ik,if_neg this.1]
      have hTd:T d=x:=by rw[hT d hnd'.1,Ik,if_pos rfl]
      refine⟨T,hk,λy hy=>?_,λq o' h'=>?_⟩
      · rw[hds] at hy
        simp only[yM,not_or] at hy
        rw[hT y hy.2,Ik,if_neg hy.1]
      · cases q with
        | zero =>
          simp only[yP,zW] at h'
          subst h'
          exact .inl ⟨hne,d,hd,hdn,by rw[hTd];exact hg.congr hTl⟩
        | succ q =>
          have:=hG q o' (by simpa using h')
          rw[show i+1+q=i+(q+1) by omega] at this
          exact this
    · have fin:∀ {T:Nat->AV},(∀ y∈o.looksAt ops,t y=T y)->Afs (Y4 ws es i) (λb M=>∃ M',Ad9 tbl (b.set j true)=some M'/\Auk P c ops T M M' o x) tbl:=λhTl e he hp=>by
        obtain⟨M',h3,h4⟩:=h7 e he hp
        exact⟨M',h3,h4.congr hTl⟩
      cases hd:o.dst with
      | none =>
        have hds:Om (o::rest)=Om rest:=by simp [Om,hd]
        rw[hds] at hnd hlook
        rw[hd] at hr
        obtain⟨T,hk,hT,hG⟩:=DM.get hr hnd hlt
        have hTl:∀ y∈o.looksAt ops,t y=T y:=λy hy=>(hT y (hlook y hy)).symm
        refine⟨T,hk,λy hy=>hT y (by rw[hds] at hy;exact hy),λq o' h'=>?_⟩
        cases q with
        | zero =>
          simp only[yP,zW] at h'
          subst h'
          exact .inr ⟨j,x,h1,h6.congr hTl,fin hTl,λd h=>by rw[hd] at h;cases h⟩
        | succ q =>
          have:=hG q o' (by simpa using h')
          rw[show i+1+q=i+(q+1) by omega] at this
          exact this
      | some d =>
        have hds:Om (o::rest)=d::Om rest:=by simp [Om,hd]
        rw[hds] at hnd hlook
        have hnd':=xW.1 hnd
        rw[hd] at hr
        obtain⟨T,hk,hT0,hG⟩:=DM.get hr hnd'.2 hlt
        have hT:∀ y,y∉Om rest->T y=upd t d x y:=hT0
        have hTl:∀ y∈o.looksAt ops,t y=T y:=λy hy=>by
          have:=hlook y hy
          simp only[yM,not_or] at this
          rw[hT y this.2,Ik,if_neg this.1]
        have hTd:T d=x:=by rw[hT d hnd'.1,Ik,if_pos rfl]
        refine⟨T,hk,λy hy=>?_,λq o' h'=>?_⟩
        · rw[hds] at hy
          simp only[yM,not_or] at hy
          rw[hT y hy.2,Ik,if_neg hy.1]
        · cases q with
          | zero =>
            simp only[yP,zW] at h'
            subst h'
            refine .inr ⟨j,x,h1,h6.congr hTl,fin hTl,λd' h=>?_⟩
            rw[hd] at h
            cases h
            exact⟨h8 d hd,hTd⟩
          | succ q =>
            have:=hG q o' (by simpa using h')
            rw[show i+1+q=i+(q+1) by omega] at this
            exact this
theorem Atm {l:List Oper} (es ws:List Nat) (tbl:Akr) {last:List Blk} (hws:Oj l []=ws) (hok:Ab4 l.toArray=true) (hnd:es.Nodup) (hes:(es.all λe=>decide (e<l.length))=true) (hfull:A0d ws es tbl=true) (h0:Ad9 tbl (es.map λ_=>false)=some m) (hlast:Ad9 tbl (es.map λ_=>true)=some last)
    (h:DM P c l.toArray ws es tbl (λT=>Q .normal ⟨T,last⟩) 0 l t):AWD P c Q l ⟨t,m⟩:=by
  subst hws
  have ok:=Ads hok
  have hdn:(Om l).Nodup:=by
    have key:∀ (k:List Oper) (n:Nat),(∀ i o,k[i]? = some o->l[n+i]? = some o)->(Om k).Nodup:=by
      intro k
      induction k with
      | nil=>intro n _;exact kF
      | cons o r ih =>
        intro n hk
        have ih':=ih (n+1) (λi o' h'=>by have:=hk (i+1) o' (by simpa using h');rw[<- this];congr 1;omega)
        cases hd:o.dst with
        | none=>simpa [Om,hd] using ih'
        | some d =>
          have hds:Om (o::r)=d::Om r:=by simp [Om,hd]
          rw[hds]
          refine xW.2 ⟨λhmem=>?_,ih'⟩
          unfold Om at hmem
          rw[wQ] at hmem
          obtain⟨p,hp,hpd⟩:=hmem
          obtain⟨q,hq,hqp⟩:=yS hp
          have h1:=hk 0 o rfl
          have h2:=hk (q+1) p (by simp [hq,hqp])
          exact ok.ne n o (n+(q+1)) p (by simpa using h1) (by simpa using h2) (by omega) d hd hpd
    exact key l 0 (λi o h=>by simpa using h)
  obtain⟨T,hQ,hTt,hG⟩:=DM.get h hdn (Ay5 ok)
  let B:Array Bool->List Blk:=λlisted=>(Ad9 tbl (Nu es listed)).getD []
  let HI:Array Bool->(Nat->Value)->Prop:=λlisted _=>Ug l.toArray listed
  have hws:∀ {listed:Array Bool},Ug l.toArray listed->∀ i,listed.getD i false=true->∀ j,((Oj l []).getD i 0).testBit j=true->listed.getD j false=true:=λhc =>
    Y8 hc l [] (λi o h=>by simpa using h) (λi h=>by simp at h)
  have huf:∀ {listed:Array Bool} {i:Nat},listed.size=l.toArray.size->i<l.length->listed.getD i true=false->listed.getD i false=false:=by
    intro listed i hs hi h
    simp only[zF] at h ⊢
    rw[zS (by rw[hs];simpa using hi)] at h ⊢
    exact h
  have hzip:∀ {listed:Array Bool} {x:Nat×Bool},x∈es.zip (Nu es listed)->x.2=listed.getD x.1 false/\x.1∈es:=by
    intro listed x hx
    unfold Nu at hx
    rw[List.zip_map_right] at hx
    obtain⟨y,hy,rfl⟩:=yN.1 hx
    obtain⟨a,b⟩:=y
    have hab:=Aam hy
    obtain⟨rfl,hm⟩:=hab
    exact⟨rfl,hm⟩
  have hclosed:∀ {listed:Array Bool},Ug l.toArray listed->Ajs (Oj l []) es (Nu es listed)=true:=by
    intro listed hc
    unfold Ajs
    rw[zI]
    intro x hx
    obtain⟨h1,_⟩:=hzip hx
    cases hb:x.2 with
    | false=>rfl
    | true =>
      simp only[jH,Bool.false_or]
      rw[zI]
      intro y hy
      obtain⟨h2,_⟩:=hzip hy
      cases hw:((Oj l []).getD x.1 0).testBit y.1 with
      | false=>rfl
      | true =>
        rw[h1] at hb
        rw[h2,hws hc x.1 hb y.1 hw]
        rfl
  have hmem:∀ {listed:Array Bool},Ug l.toArray listed->(Nu es listed,B listed)∈tbl:=by
    intro listed hc
    have hf:=(zI.1 hfull) (Nu es listed) (Acm (by simp [Nu]))
    rw[hclosed hc] at hf
    simp only[jH,Bool.false_or,Option.isSome_iff_exists] at hf
    obtain⟨M,hM⟩:=hf
    have:B listed=M:=by show(Ad9 tbl (Nu es listed)).getD []=M;rw[hM];rfl
    rw[this]
    exact Aj8 hM
  have hcons:∀ {listed:Array Bool} {i:Nat} {o:Oper},Ug l.toArray listed->l[i]? = some o->Met listed o->listed.getD i false=false->Y4 (Oj l []) es i (Nu es listed)=true:=by
    intro listed i o hc ho hmt hun
    unfold Y4
    rw[zI]
    intro x hx
    obtain⟨h1,_⟩:=hzip hx
    rw[yD,w9,w9]
    constructor
    · cases hw:((Oj l []).getD i 0).testBit x.1 with
      | false=>exact .inl rfl
      | true =>
        right
        rw[h1]
        exact Abu (ops:=l.toArray) hc (i:=i) (o:=o) (by simpa using ho) hmt (j:=x.1) hw
    · cases hb:x.2 with
      | false=>exact .inr rfl
      | true =>
        left
        rw[h1] at hb
        simp only[wL,Bool.or_eq_false_iff]
        constructor
        · cases he:(x.1==i) with
          | false=>rfl
          | true =>
            have:x.1=i:=by simpa using he
            rw[this,hun] at hb;cases hb
        · cases hw:((Oj l []).getD x.1 0).testBit i with
          | false=>rfl
          | true =>
            have:=hws hc x.1 hb i hw
            rw[hun] at this;cases this
  have hbsame:∀ {listed:Array Bool} {i:Nat},es.contains i=false->Nu es (listed.setIfInBounds i true)=Nu es listed:=by
    intro listed i hi
    unfold Nu
    refine kJ λe he=>?_
    have : i ≠ e := fun e' => by subst e'; have : es.contains i = true := by simpa using he
                                 rw[hi] at this;cases this
    simp only[zF,yR this]
  have hlk:∀ {i:Nat} {o:Oper},l.toArray[i]? = some o->l[i]? = some o/\i<l.length:=λ{i o} h=>by
    have h':l[i]? = some o:=by simpa using h
    exact⟨h',(zC.1 h').1⟩
  refine Af7 (T:=T) (B:=B) (HI:=HI) ok (λi o ho=>?_) hTt (λa w S H r=>⟨H,?_,?_⟩) (λlisted hs hl=>?_)
  · obtain⟨ho',hil⟩:=hlk ho
    rcases hG i o ho' with⟨hne,d,hd,hdn,hg⟩|⟨j,x,h1,h5,h6,h7⟩
    · rw[yE] at hne hg
      refine .inl λlisted H hs hun hmt hc=>?_
      have hBs:B (listed.setIfInBounds i true)=B listed:=by
        show(Ad9 tbl (Nu es (listed.setIfInBounds i true))).getD []=_
        rw[hbsame hne]
      have hm:=hmem hc
      have hcs:=hcons hc ho' hmt (huf hs hil hun)
      rcases hg with⟨md,hg,hmd⟩|hg
      · exact⟨md,⟨d,hd,hdn,hg⟩,hmd _ hm hcs,hBs,hc.set ho hmt⟩
      · exact⟨B listed,⟨d,hd,hdn,hg _ hm hcs⟩,Aeq.refl _,hBs,hc.set ho hmt⟩
    · rw[yE] at h1 h6
      refine .inr ⟨h5,λlisted hs hun hmt a w S H r hc K Qn hK=>?_⟩
      have hm:=hmem hc
      have hcs:=hcons hc ho' hmt (huf hs hil hun)
      obtain⟨M',hM',h6⟩:=h6 _ hm hcs
      have hbits:Nu es (listed.setIfInBounds i true)=(Nu es listed).set j true:=by
        refine xY λq=>?_
        unfold Nu
        rw[zP,w7,z2,zP]
        have hjl:=(zC.1 h1).1
        by_cases e:j=q
        · subst e
          rw[if_pos rfl,if_pos hjl,h1]
          simp only[xC,zW,zF]
          rw[xE (by rw[hs];simpa using hil)]
          rfl
        · rw[if_neg e]
          cases hq:es[q]? with
          | none=>rfl
          | some e' =>
            have hne:i≠e':=λe''=>by
              subst e''
              have hql:=(zC.1 hq).1
              have h8:=(zC.1 hq).2
              have h9:=(zC.1 h1).2
              exact e ((List.getElem_inj hnd).1 (h9.trans h8.symm))
            simp only[xC,zW,zF]
            rw[yR hne]
      have hB2:B (listed.setIfInBounds i true)=M':=by
        show(Ad9 tbl (Nu es (listed.setIfInBounds i true))).getD []=M'
        rw[hbits,hM']
        rfl
      have hlook:=Aja (T:=T) ok hs ho hmt
      have hmix:mix T (o.looksAt l.toArray) (TL l.toArray T listed)=TL l.toArray T listed:=by
        funext y
        unfold mix
        cases hc':(o.looksAt l.toArray).contains y with
        | false=>rfl
        | true=>exact(hlook y (by simpa using hc')).symm
      have heff:=h6 (TL l.toArray T listed)
      rw[hmix] at heff
      have hw:=heff a w S H r
      unfold wpList at hw
      rw[if_pos (by rfl)] at hw
      rcases hw with hw|⟨_,a',w',st',S',H',_,he,_⟩
      · refine Ahn (P:=P) (o:=o) ?_ ?_ (show o.wp P a w _ _ from hw)
        · rintro a' w' ⟨st',S',H',r',_,rfl⟩
          refine hK a' w' S' H' ?_ (hc.set ho hmt)
          rw[hB2]
          cases hd:o.dst with
          | none =>
            rw[hd] at r'
            rw[<- Abt ho hd]
            exact r'
          | some d =>
            rw[hd] at r'
            rw[<- Aql (T:=T) ok hs ho hun hd,(h7 d hd).2]
            exact r'
        · rintro e a' w' hne ⟨st',S',H',r',he,_⟩
          exact absurd he hne
      · cases he
  · have:B (Array.replicate l.toArray.size false)=m:=by
      have e1:Nu es (Array.replicate l.toArray.size false)=es.map λ_=>false:=by
        unfold Nu
        refine kJ λe _=>?_
        simp only[zF,xZ]
        split <;> rfl
      show(Ad9 tbl (Nu es (Array.replicate l.toArray.size false))).getD []=m
      rw[e1,h0]
      rfl
    rw[this]
    exact r
  · intro i o _ hl
    simp only[zF,xZ] at hl
    split at hl <;> simp at hl
  · have hin:∀ e∈es,e<l.length:=λe he=>by simpa using zI.1 hes e he
    have e1:Nu es listed=es.map λ_=>true:=by
      unfold Nu
      refine kJ λe he=>?_
      have h1:=hl e (by simpa using hin e he)
      have h2:e<listed.size:=by rw[hs];simpa using hin e he
      simp only[zF,zS h2,yK] at h1 ⊢
      exact h1
    have:B listed=last:=by
      show(Ad9 tbl (Nu es listed)).getD []=last
      rw[e1,hlast]
      rfl
    rw[this]
    exact hQ
theorem An2 {id:Nat} {l:List Oper} (es ws:List Nat) (tbl:Akr) {last:List Blk} (hws:Oj l []=ws) (hm:P.follows .mixedOrders=true) (hok:Ab4 l.toArray=true) (hnd:es.Nodup) (hes:(es.all λe=>decide (e<l.length))=true) (hfull:A0d ws es tbl=true) (h0:Ad9 tbl (es.map λ_=>false)=some m) (hlast:Ad9 tbl (es.map λ_=>true)=some last)
    (h:DM P c l.toArray ws es tbl (λT=>Q .normal ⟨T,last⟩) 0 l t):AWC P c (.region id l.toArray true) Q ⟨t,m⟩:=(Atm es ws tbl hws hok hnd hes hfull h0 hlast h).awc hm
variable {ops:Array Oper} {ws es:List Nat} {tbl:Akr} {k:(Nat->AV)->Prop} {rest:List Oper} {op:Op} {ty:TypeId} {pos:String} {af:Array Edge} {d:Tmp} {x:AV} {i:Nat}
theorem Azr {md:List Blk} (h:Afs (Y4 ws es i) (λ_ M=>Ada md M) tbl):Afs (Y4 ws es i) (λ_ M=>Aeq md M) tbl:=λe he hp=>Aiz (h e he hp)
theorem Ayk (h:k t):DM P c ops ws es tbl k i [] t:=h
theorem mev {md:List Blk} (hs:Afs (Y4 ws es i) (λ_ M=>Ada md M) tbl) (hi:es.contains i=false) (hd:decide (d<c.nt)=true) (h:OpV P c ⟨Up t (Oper.looksAt ops ⟨some d,op,ty,pos,af,none⟩),md⟩ op ty x) (kk:DM P c ops ws es tbl k (i+1) rest (upd t d x)):DM P c ops ws es tbl k i (⟨some d,op,ty,pos,af,none⟩::rest) t :=
  .inl ⟨hi,x,d,rfl,of_decide_eq_true hd,.inl ⟨md,.inl ⟨.inl rfl,h.opD⟩,Azr hs⟩,kk⟩
theorem med {md:List Blk} (hs:Afs (Y4 ws es i) (λ_ M=>Ada md M) tbl) (hi:es.contains i=false) (hd:decide (d<c.nt)=true) (h:OpD P c ⟨Up t (Oper.looksAt ops ⟨some d,op,ty,pos,af,none⟩),md⟩ op ty x) (kk:DM P c ops ws es tbl k (i+1) rest (upd t d x)):DM P c ops ws es tbl k i (⟨some d,op,ty,pos,af,none⟩::rest) t :=
  .inl ⟨hi,x,d,rfl,of_decide_eq_true hd,.inl ⟨md,.inl ⟨.inl rfl,h⟩,Azr hs⟩,kk⟩
theorem Ax5 (hi:es.contains i=false) (hd:decide (d<c.nt)=true) (h:∀ md,OpV P c ⟨Up t (Oper.looksAt ops ⟨some d,op,ty,pos,af,none⟩),md⟩ op ty x) (kk:DM P c ops ws es tbl k (i+1) rest (upd t d x)):DM P c ops ws es tbl k i (⟨some d,op,ty,pos,af,none⟩::rest) t :=
  .inl ⟨hi,x,d,rfl,of_decide_eq_true hd,.inr λ_ _ _=>.inl ⟨.inl rfl,(h _).opD⟩,kk⟩
theorem mee (j:Nat) (he:es[j]? = some i) (hd:decide (d<c.nt)=true)
    (h:Afs (Y4 ws es i) (λb M=>∃ M',Ad9 tbl (b.set j true)=some M'/\∀ ζ,AWL P c ops (λe st=>e=.normal/\st=⟨upd (mix t (Oper.looksAt ops ⟨some d,op,ty,pos,af,none⟩) ζ) d x,M'⟩) [⟨some d,op,ty,pos,af,none⟩] ⟨mix t (Oper.looksAt ops ⟨some d,op,ty,pos,af,none⟩) ζ,M⟩) tbl)
    (kk:DM P c ops ws es tbl k (i+1) rest (upd t d x)):DM P c ops ws es tbl k i (⟨some d,op,ty,pos,af,none⟩::rest) t :=
  .inr ⟨j,x,he,.inl rfl,h,λd' h'=>by cases h';exact of_decide_eq_true hd,kk⟩
theorem A19 (j:Nat) (he:es[j]? = some i)
    (h:Afs (Y4 ws es i) (λb M=>∃ M',Ad9 tbl (b.set j true)=some M'/\∀ ζ,AWL P c ops (λe st=>e=.normal/\st=⟨mix t (Oper.looksAt ops ⟨none,op,ty,pos,af,none⟩) ζ,M'⟩) [⟨none,op,ty,pos,af,none⟩] ⟨mix t (Oper.looksAt ops ⟨none,op,ty,pos,af,none⟩) ζ,M⟩) tbl)
    (kk:DM P c ops ws es tbl k (i+1) rest t):DM P c ops ws es tbl k i (⟨none,op,ty,pos,af,none⟩::rest) t :=
  .inr ⟨j,.top,he,.inl rfl,h,(λd' h'=>by cases h'),kk⟩
end
open Go.RowKit
theorem Agn {P:Program} {c:Ctx} {st:AS} {op:Op} {ty:TypeId} {e sz n:Nat} {cs:List Lf} (h:Afz P c st op ty e sz n cs):Afz P c st op ty e sz n (cs.map Lf.canon):=by
 intro a w S H r
 obtain⟨v,w',vals,hrun,hext,hin,hown,hls⟩:=h a w S H r
 exact⟨v,w',vals,hrun,hext,hin,hown,Ahv hls⟩
theorem Aku {P:Program} {c:Ctx} {st:AS} {ty:TypeId} {t e sz bytes len:Nat} {zl out out':List Lf} {parts:Array (Nat×Operand)} {xs:List (Nat×SV)} (si:P.underlying t=some (.slice e)) (ei:EI P e sz bytes zl) (hp:Ac1 st parts.toList xs)
  (hb:Y3 (λi:Nat=>some (i*sz,sz)) (Ac5 zl (len*sz)) xs out) (hout:out.all Lf.pubd=true) (hlen:len*sz<=16777216) (he:out.map Lf.canon=out'):OpD P c st (.buildSlice t len parts) ty (.s (.one (.sl len out'))) :=
 he ▸ Ad1 ei.p (Agn (Tm si ei hp hb (zI.1 hout) hlen))
section
variable {P:Program} {c:Ctx} {ops:Array Oper} {ws es:List Nat} {tbl:Akr} {k:(Nat->AV)->Prop} {t:Nat->AV} {rest:List Oper} {op:Op} {ty:TypeId} {pos:String} {af:Array Edge} {d:Tmp} {x:AV} {i:Nat}
theorem A0p (hi:es.contains i=false) (hd:decide (d<c.nt)=true) (h:Afs (Y4 ws es i) (λ_ M=>OpV P c ⟨Up t (Oper.looksAt ops ⟨some d,op,ty,pos,af,none⟩),M⟩ op ty x) tbl) (kk:DM P c ops ws es tbl k (i+1) rest (upd t d x)):DM P c ops ws es tbl k i (⟨some d,op,ty,pos,af,none⟩::rest) t :=
 .inl ⟨hi,x,d,rfl,of_decide_eq_true hd,.inr λe he hp=>.inl ⟨.inl rfl,(h e he hp).opD⟩,kk⟩
end
theorem Atu {P:Program} {c:Ctx} {id:Nat} {x y:Code} {Q Q':Exit->AS->Prop} {st:AS} (G:Type) (sl:G->List (Nat×AV)) (mm:G->List Blk) (pre:G->Prop) (hin:∀ g,pre g->Aq0 (mm g).length (sl g)) (hmin:∀ g,pre g->∀ b∈mm g,b.inb (mm g).length) (hk:∀ g,pre g->c.m0.length<=(mm g).length)
  (hy:∀ g,pre g->AWC P c y Q ⟨Afq (λ_=>.top) (sl g),mm g⟩) (hx:AWC P c x (Ob id (Qm (Axc sl mm pre) Q')) st):AWC P c x (Ob id (Qm (AWC P c y Q) Q')) st:=by
 refine hx.mono λe st h=>?_
 cases e with
 | normal=>exact Afe h hin hmin hk hy
 | exit id' =>
  simp only[Ob] at h ⊢
  split
  ·rename_i he
   rw[if_pos he] at h
   exact Afe h hin hmin hk hy
  ·rename_i he
   rw[if_neg he] at h
   exact h
 | _=>exact h
open Go.RowKit Go.Proofs Go.Lib
theorem Ja {P:Program} (w:World) (dT sT ty elem:TypeId) (b o dLen dCap:Nat) (a:Addr) (sLen sCap sz q:Nat) (cs:List Value)
  (hu:P.underlying dT=some (.slice elem)) (hs:(P.info? elem).map (·.size)=some sz) (hq:Nat.min sLen dLen=q) (hn:cs.length=q*sz)
  (hsrc:∀ j v,cs[j]? = some v->w.cell? (a.add j)=some v) (hc:∀ j,j<cs.length->(w.cell? ⟨b,o+j,none⟩).isSome=true) (hf:∀ j,j<cs.length->w.frozen? ⟨b,o+j,none⟩=false) (h1:∀ v∈cs,v.oneCell'=true) :
  (Builtin.copy_ #[dT,sT] ty #[.slice (some ⟨b,o,none⟩) dLen dCap,.slice (some a) sLen sCap]).run P w=.ok (goInt q) (w.setCells b o cs):=by
 have ld:=run_loadCells_list (P:=P) w a cs hsrc
 have sd:=run_storeCells_cells (P:=P) b o cs 0 w (by simpa using hc) (by simpa using hf) h1
 rw[hn] at ld
 cases hi:P.info? elem with
 | none=>simp [hi] at hs
 | some i =>
  have e:i.size=sz:=by simpa [hi] using hs
  simp [Builtin.copy_,run_underlying hu,Builtin.lenOf,Builtin.firstCells,sizeOf,typeInfo,hi,e,hq,ld,sd]
def Aia {α:Type} (o:Nat) (vs L:List α):List α:=L.take o++vs++L.drop (o+vs.length)
theorem Za {α:Type} {o:Nat} {vs L:List α} (h:o+vs.length<=L.length):(Aia o vs L).length=L.length:=by
 simp only[Aia,zH,zK,yC];omega
theorem Atn {α:Type} (L:List α) (o:Nat) (v:α) (h:o<L.length):L.set o v=L.take o++v::L.drop (o+1):=by
 rw[kT,if_pos h]
theorem N7 (b:Nat) (t:TypeId):∀ (vs:List Value) (o:Nat) (w:World) (cur:Array Value),w.heap[b]? = some (.cells cur t (0,0))->o+vs.length<=cur.size ->
  (w.setCells b o vs).heap[b]? = some (.cells (Aia o vs cur.toList).toArray t (0,0))/\(w.setCells b o vs).heap.size=w.heap.size/\(∀ g,g≠b->(w.setCells b o vs).heap[g]? = w.heap[g]?) /\
   (w.setCells b o vs).os=w.os/\(w.setCells b o vs).tape=w.tape/\(w.setCells b o vs).output=w.output
 | [],o,w,cur,h,hl=>by
  refine⟨?_,rfl,λ_ _=>rfl,rfl,rfl,rfl⟩
  show w.heap[b]? = _
  rw[h]
  simp [Aia,xK]
 | v::vs,o,w,cur,h,hl=>by
  rw[yW] at hl
  have hb:=yB.1 h
  have h1:(w.setCell ⟨b,o,none⟩ v).heap[b]? = some (.cells (cur.setIfInBounds o v) t (0,0)):=by
   simp only[World.setCell,wO,if_true,h,xC]
   rfl
  obtain⟨h2,h3,h4,h5,h6,h7⟩:=N7 b t vs (o+1) (w.setCell ⟨b,o,none⟩ v) (cur.setIfInBounds o v) h1 (by rw[Array.size_setIfInBounds];omega)
  have e0:w.setCells b o (v::vs)=(w.setCell ⟨b,o,none⟩ v).setCells b (o+1) vs:=rfl
  rw[e0]
  refine⟨?_,by rw[h3];simp [World.setCell],λg hg=>by rw[h4 g hg];simp only[World.setCell,wO];rw[if_neg (λe=>hg e.symm)],h5,h6,h7⟩
  rw[h2]
  congr 3
  have ho:o<cur.toList.length:=by rw[z8];omega
  have es:(cur.setIfInBounds o v).toList=cur.toList.take o++v::cur.toList.drop (o+1):=by
   rw[Array.toList_setIfInBounds,Atn _ _ _ ho]
  unfold Aia
  rw[es,yW]
  have hto:(cur.toList.take o).length=o:=by rw[zK];omega
  have e1:(cur.toList.take o++v::cur.toList.drop (o+1)).take (o+1)=cur.toList.take o++[v]:=by
   rw[List.take_append,yX (by omega),hto,show o+1-o=1 by omega];rfl
  have e2:(cur.toList.take o++v::cur.toList.drop (o+1)).drop (o+1+vs.length)=cur.toList.drop (o+(vs.length+1)):=by
   rw[List.drop_append,wV (by omega),hto,show o+1+vs.length-o=vs.length+1 by omega,List.drop_succ_cons,kM,wX]
   congr 1;omega
  rw[e1,e2]
  simp
theorem Aso {α:Type} (L vs D:List α) (a s m:Nat) (hv:vs.length=s) (hD:D.length=m) (hL:a+s+m<=L.length) :
  (Aia a vs (Aia (a+s) D L)).take (a+s+m)=L.take a++vs++D:=by
 unfold Aia
 have h1:(L.take (a+s)++D++L.drop (a+s+D.length)).take a=L.take a:=by
  rw[xO,wC (by rw[zK];omega),List.take_take,w8 (by omega)]
 have h2:(L.take (a+s)++D++L.drop (a+s+D.length)).drop (a+vs.length)=D++L.drop (a+s+D.length):=by
  rw[xO,hv,List.drop_left' (by rw[zK];omega)]
 rw[h1,h2,<- xO,xX (by simp only[zH,zK];omega)]
theorem Akj {α:Type} (L vs:List α) (a s:Nat) (hv:vs.length=s) (hL:a+s<=L.length):(Aia a vs L).take (a+s)=L.take a++vs:=by
 unfold Aia
 rw[xX (by simp only[zH,zK];omega)]
structure Ab5 (E sz b n:Nat) (w w':World) (v:Value) (vals:List Value):Prop where
 os:w'.os=w.os
 tape:w'.tape=w.tape
 output:w'.output=w.output
 size:w.heap.size<=w'.heap.size
 blk:∀ g,g<w.heap.size->g≠b->w'.heap[g]? = w.heap[g]?
 row:∃ G cap cur,(G=b\/w.heap.size<=G)/\v=.slice (some ⟨G,0,none⟩) n cap/\w'.heap[G]? = some (.cells cur E (0,0))/\n<=cap/\cap<=maxLen/\cur.size=cap*sz/\cur.toList.take (n*sz)=vals
theorem Yb {E sz b n c:Nat} {w:World} {cur:Array Value} {vs:List Value} (hg:w.heap[b]? = some (.cells cur E (0,0))) (hc:n+1<=c) (hm:c<=maxLen) (hs:cur.size=c*sz) (hv:vs.length=sz) :
  Ab5 E sz b (n+1) w (w.setCells b (n*sz) vs) (.slice (some ⟨b,0,none⟩) (n+1) c) (cur.toList.take (n*sz)++vs):=by
 have hfit:n*sz+vs.length<=cur.size:=by
  rw[hs,hv]
  have:=xA sz hc
  rw[xP,wJ] at this
  exact this
 obtain⟨h1,h2,h3,h4,h5,h6⟩:=N7 b E vs (n*sz) w cur hg hfit
 refine⟨h4,h5,h6,by rw[h2];exact zN _,λg _ hne=>h3 g hne,b,c,_,.inl rfl,rfl,h1,hc,hm,?_,?_⟩
 ·rw[z7,Za (by rw[z8];exact hfit),z8,hs]
 ·rw[yU,xP,wJ]
  exact Akj _ _ _ _ hv (by rw[z8];omega)
theorem Vk {E sz b n c i:Nat} {w:World} {cur:Array Value} {vs:List Value} (hg:w.heap[b]? = some (.cells cur E (0,0))) (hi:i<n) (hc:n+1<=c) (hm:c<=maxLen) (hs:cur.size=c*sz) (hv:vs.length=sz) :
  Ab5 E sz b (n+1) w ((w.drew.setCells b ((i+1)*sz) ((cur.toList.take (n*sz)).drop (i*sz))).setCells b (i*sz) vs) (.slice (some ⟨b,0,none⟩) (n+1) c)
   ((cur.toList.take (n*sz)).take (i*sz)++vs++(cur.toList.take (n*sz)).drop (i*sz)):=by
 have hle:(n+1)*sz<=cur.size:=by rw[hs];exact xA sz hc
 have hin:i*sz<=n*sz:=xA sz (Nat.le_of_lt hi)
 have ei:(i+1)*sz=i*sz+sz:=by rw[xP,wJ]
 have en:(n+1)*sz=n*sz+sz:=by rw[xP,wJ]
 have hdl:((cur.toList.take (n*sz)).drop (i*sz)).length=n*sz-i*sz:=by rw[yC,zK,z8];omega
 have hl0:cur.toList.length=cur.size:=z8
 obtain⟨h1,h2,h3,h4,h5,h6⟩:=N7 b E ((cur.toList.take (n*sz)).drop (i*sz)) ((i+1)*sz) w.drew cur hg (by omega)
 have hp1:=Za (o:=(i+1)*sz) (vs:=(cur.toList.take (n*sz)).drop (i*sz)) (L:=cur.toList) (by omega)
 obtain⟨k1,k2,k3,k4,k5,k6⟩:=N7 b E vs (i*sz) _ _ h1 (by rw[z7,hp1];omega)
 rw[yU] at k1
 have hp2:=Za (o:=i*sz) (vs:=vs) (L:=Aia ((i+1)*sz) ((cur.toList.take (n*sz)).drop (i*sz)) cur.toList) (by rw[hp1];omega)
 refine⟨k4.trans h4,k5.trans h5,k6.trans h6,by rw[k2,h2];exact zN _,λg _ hne=>(k3 g hne).trans (h3 g hne),b,c,_,.inl rfl,rfl,k1,hc,hm,?_,?_⟩
 ·rw[z7,hp2,hp1,hl0,hs]
 ·rw[yU,List.take_take,w8 hin]
  have:=Aso cur.toList vs ((cur.toList.take (n*sz)).drop (i*sz)) (i*sz) sz (n*sz-i*sz) hv hdl (by omega)
  rw[<- ei,show(i+1)*sz+(n*sz-i*sz)=(n+1)*sz by omega] at this
  exact this
theorem Qu {E sz b n c:Nat} {w:World} {row:Array Value} {vals:List Value} (hc:n<=c) (hm:c<=maxLen) (hs:row.size=c*sz) (hv:row.toList.take (n*sz)=vals) :
  Ab5 E sz b n w (w.drew.alloc (.cells row E)) (.slice (some ⟨w.heap.size,0,none⟩) n c) vals:=by
 refine⟨rfl,rfl,rfl,by simp,λg hg _=>Below.heap_alloc w.drew _ g hg,w.heap.size,c,row,.inr (zN _),rfl,?_,hc,hm,hs,hv⟩
 show(w.heap.push (.cells row E))[w.heap.size]? = _
 simp
theorem Anb {α:Type} (L vs D:List α) (a s m:Nat) (hv:vs.length=s) (hD:D.length=m) (hL:a+s+m<=L.length) :
  (Aia (a+s) D (Aia a vs L)).take (a+s+m)=L.take a++vs++D:=by
 have h1:(Aia a vs L).take (a+s)=L.take a++vs:=Akj _ _ _ _ hv (by omega)
 show((Aia a vs L).take (a+s)++D++_).take (a+s+m)=_
 rw[h1,xX (by simp only[zH,zK];omega)]
theorem Wh {E sz n c i:Nat} {w:World} {row:Array Value} {xs vs D:List Value} (hi:i<n) (hc:n+1<=c) (hm:c<=maxLen) (hs:row.size=c*sz) (hv:vs.length=sz) (hD:D.length=(n-i)*sz) (ht:row.toList.take (i*sz)=xs) :
  Ab5 E sz w.heap.size (n+1) w ((((w.alloc (.cells row E)).drew.setCells w.heap.size (i*sz) vs).drew).setCells w.heap.size ((i+1)*sz) D) (.slice (some ⟨w.heap.size,0,none⟩) (n+1) c) (xs++vs++D):=by
 have hle:(n+1)*sz<=row.size:=by rw[hs];exact xA sz hc
 have ei:(i+1)*sz=i*sz+sz:=by rw[xP,wJ]
 have e3:(i+1)*sz+(n-i)*sz=(n+1)*sz:=by rw[<- xP];congr 1;omega
 have hl0:row.toList.length=row.size:=z8
 have hg:(w.alloc (.cells row E)).drew.heap[w.heap.size]? = some (.cells row E (0,0)):=by
  show(w.heap.push (.cells row E))[w.heap.size]? = _
  simp
 obtain⟨h1,h2,h3,h4,h5,h6⟩:=N7 w.heap.size E vs (i*sz) _ row hg (by omega)
 have hp1:=Za (o:=i*sz) (vs:=vs) (L:=row.toList) (by omega)
 obtain⟨k1,k2,k3,k4,k5,k6⟩:=N7 w.heap.size E D ((i+1)*sz) (((w.alloc (.cells row E)).drew.setCells w.heap.size (i*sz) vs).drew) _ h1 (by rw[z7,hp1];omega)
 rw[yU] at k1
 have hp2:=Za (o:=(i+1)*sz) (vs:=D) (L:=Aia (i*sz) vs row.toList) (by rw[hp1];omega)
 refine⟨k4.trans h4,k5.trans h5,k6.trans h6,?_,λg hg2 hne=>((k3 g hne).trans (h3 g hne)).trans (Below.heap_alloc w _ g hg2),w.heap.size,c,_,.inl rfl,rfl,k1,hc,hm,?_,?_⟩
 ·rw[k2]
  show w.heap.size<=((w.alloc (.cells row E)).drew.setCells w.heap.size (i*sz) vs).heap.size
  rw[h2]
  show w.heap.size<=(w.heap.push _).size
  rw[Array.size_push];omega
 ·rw[z7,hp2,hp1,hl0,hs]
 ·rw[yU,<- ht,<- e3,ei]
  exact Anb row.toList vs D (i*sz) sz ((n-i)*sz) hv hD (by omega)
theorem Zf {P:Program} {F E sz:Nat} {cs vs:List Lf} {n i:Nat} (hsz:0<sz) (hcl:cs.length=n*sz) (hvl:vs.length=sz)
  (hmain:∀ (w:World) (v1:Value) (vb vc:Nat) (cur2:Array Value) (xs ys:List Value),w.ownsRow 0 E sz v1 n xs->w.heap[vb]? = some (.cells cur2 E (0,0))->(∀ j y,ys[j]? = some y->w.cell? ⟨vb,j,none⟩=some y)->ys.length=sz->E4 v1≠some vb ->
   (∀ x∈xs,x.oneCell'=true)->(∀ y∈ys,y.oneCell'=true) ->
   Calls P F #[v1,.int .i64 i,.slice (some ⟨vb,0,none⟩) 1 vc] w λe w'=>∃ v b,e=.returned v/\Ab5 E sz b (n+1) w w' v (xs.take (i*sz)++ys++xs.drop (i*sz))/\(E4 v1=some b\/w.heap.size<=b)) :
  Dw P F [.arr E sz 0 cs,.arr E sz 0 vs] [.one (.ls 0 n),.one (.i .i64 (i:Int)),.one (.ls 1 1)] (λy m'=>y=.s (.one (.ls 0 (n+1)))/\m'=[.arr E sz 0 (cs.take (i*sz)++vs++cs.drop (i*sz)),.dead]):=by
 intro w S H args hS hm hv
 obtain⟨hl,hv⟩:=hv
 obtain⟨v1,v2,v3,rfl⟩:∃ a b c,args = #[a,b,c]:=by
  obtain⟨l⟩:=args
  have h3:l.length=3:=hl.symm
  match l,h3 with
  | [a,b,c],_=>exact⟨a,b,c,rfl⟩
 have g0:=hv 0 _ v1 rfl rfl
 have g1:=hv 1 _ v2 rfl rfl
 have g2:=hv 2 _ v3 rfl rfl
 obtain⟨_,_,h0⟩:=(show Ct w S _ H (.ls 0 n) v1 from g0)
 have hv1:v1=H 0:=(h0 E sz 0 cs rfl).2 hcl.symm
 obtain⟨_,_,h2⟩:=(show Ct w S _ H (.ls 1 1) v3 from g2)
 have hv3:v3=H 1:=(h2 E sz 0 vs rfl).2 (by rw[wJ];exact hvl.symm)
 have hv2:v2=.int .i64 i:=by
  cases (show Rep w S (.i .i64 i) v2 from g1)
  rfl
 subst hv1 hv3 hv2
 obtain⟨_,_,n0,xs,hown,hxs,_⟩:=hm.bl 0 _ rfl
 obtain⟨_,_,m0,ys,hown2,hys,_⟩:=hm.bl 1 _ rfl
 have hn0:n0=n:=Q8 hown hsz (by rw[<- hxs.1];exact hcl.symm)
 have hm0:m0=1:=Q8 hown2 hsz (by rw[<- hys.1,wJ];exact hvl.symm)
 subst hn0 hm0
 rcases hown2.2 with⟨_,h⟩|⟨vb,vc,cur2,e2,_,hg2,hc2,_,hs2,ht2⟩
 ·omega
 have hyl:ys.length=sz:=by rw[<- hys.1];exact hvl
 have hlsO:∀ {ls:List Lf} {us:List Value},LsR (Rep w S) ls us->∀ u∈us,u.oneCell'=true:=λ{ls us} h u hu=>by
  obtain⟨j,hj⟩:=wE.1 hu
  have hjl:j<ls.length:=by rw[h.1];exact(zC.1 hj).1
  exact(h.2 j _ u (zB hjl) hj).oneCell
 have hcell:∀ j y,ys[j]? = some y->w.cell? ⟨vb,j,none⟩=some y:=λj y hj=>by
  unfold World.cell?
  rw[hg2]
  have hjl:=(zC.1 hj).1
  rw[<- ht2,yL] at hj
  split at hj
  ·simpa using hj
  ·cases hj
 have hown0:E4 (H 0)≠some vb:=λh=>by
  have h1:Blk.own (.arr E sz 0 vs) (H 1)=some vb:=by rw[e2];rfl
  have:=hm.inj 0 1 _ _ vb rfl rfl h h1
  cases this
 have hpk:∀ p g,p<2->H p≠.pointer (some ⟨g,0,none⟩):=λp g hp e=>by
  match p,hp with
  | 0,_=>rcases hown.2 with⟨h,_⟩ | ⟨_,_,_,h,_⟩ <;> (rw[h] at e;cases e)
  | 1,_=>rw[e2] at e;cases e
 rw[e2] at hown2 ⊢
 refine(hmain w (H 0) vb vc cur2 xs ys hown hg2 hcell hyl hown0 (hlsO hxs) (hlsO hys)).mono ?_
 rintro e w' ⟨v,b,rfl,r,hb⟩
 obtain⟨G,cap,cur,hG,hve,hrow,hcn,hcm,hcs,hct⟩:=r.row
 have hSb:∀ g j,S g j->g<w.heap.size/\g≠b:=λg j hs=>by
  refine⟨hS.1 g j hs,λe=>?_⟩
  subst e
  rcases hb with h|h
  ·have:=hm.sb 0 _ g j rfl h hs
   exact zR _ this
  ·have:=hS.1 g j hs;omega
 have hkeep:∀ g j,S g j->S g j/\w'.cell? ⟨g,j,none⟩=w.cell? ⟨g,j,none⟩:=λg j hs=>⟨hs,World.cell?_of_block (w:=w) (r.blk g (hSb g j hs).1 (hSb g j hs).2)⟩
 have hGS:∀ j,¬ S G j:=λj hs=>by
  rcases hG with rfl|h
  ·exact(hSb _ j hs).2 rfl
  ·have:=hS.1 G j hs;omega
 have hbX:∀ g,g=b->g<w.heap.size->Agr [.arr E sz 0 cs,.arr E sz 0 vs] H g:=λg e hlt=>by
  subst e
  rcases hb with h|h
  ·exact⟨0,_,rfl,h⟩
  ·omega
 have hexists:∃ o,w'.heap[G]? = some o:=⟨_,hrow⟩
 have hnl:(cs.take (i*sz)++vs++cs.drop (i*sz)).length=(n0+1)*sz:=by
  simp only[zH,zK,yC,hvl,hcl,xP,wJ]
  omega
 refine⟨v,_,_,S,λp=>if p=0 then v else H p,rfl,⟨rfl,rfl⟩,⟨r.os,r.tape,r.output,r.size,λg hlt hx=>r.blk g hlt (λe=>hx (hbX g e hlt)),λ_ _ h=>h,λg j hs=>(hkeep g j hs).2,λ_ _ _ _ h=>h⟩,
  hS.turn (·=b) (λg j e hs=>absurd e (hSb g j hs).2) (λg hg hne=>r.blk g hg hne) r.size (λg j hs=>(hkeep g j hs).2),⟨?_,?_,?_,?_⟩,?_,⟨show 2<=2 by decide,λp g hp h=>absurd h (hpk p g hp),λp e' sz' k cs' hp h=>?_,λp hp hne=>?_⟩,?_⟩
 ·intro p bb hbb
  match p,hbb with
  | 1,hbb=>cases hbb;trivial
  | 0,hbb =>
   cases hbb
   refine⟨hsz,zX _,n0+1,xs.take (i*sz)++ys++xs.drop (i*sz),⟨?_,.inr ⟨G,cap,cur,hve,zX _,hrow,hcn,hcm,hcs,hct⟩⟩,?_,λ_ _ _ h=>absurd h (zR _)⟩
   ·have:xs.length=n0*sz:=by rw[<- hxs.1];exact hcl
    simp only[zH,zK,yC,hyl,this,xP,wJ]
    omega
   ·have key:∀ {l1 l2:List Lf} {u1 u2:List Value},LsR (Rep w' S) l1 u1->LsR (Rep w' S) l2 u2->LsR (Rep w' S) (l1++l2) (u1++u2):=λ{l1 l2 u1 u2} h1 h2=>by
     refine⟨by rw[zH,zH,h1.1,h2.1],λj l u hl hu=>?_⟩
     rw[List.getElem?_append] at hl hu
     rw[h1.1] at hl
     split at hl
     ·next hj=>rw[if_pos hj] at hu;exact h1.2 j l u hl hu
     ·next hj=>rw[if_neg hj] at hu;exact h2.2 _ l u hl hu
    have hx':LsR (Rep w' S) cs xs:=hxs.mono λ_ _=>Rep.mono hkeep
    have hy':LsR (Rep w' S) vs ys:=hys.mono λ_ _=>Rep.mono hkeep
    refine key (key ⟨by rw[zK,zK,hx'.1],λj l u hl hu=>?_⟩ hy') ⟨by rw[yC,yC,hx'.1],λj l u hl hu=>?_⟩
    ·rw[yL] at hl hu
     split at hl
     ·next hj=>rw[if_pos hj] at hu;exact hx'.2 j l u hl hu
     ·cases hl
    ·rw[yJ] at hl hu
     exact hx'.2 _ l u hl hu
  | p+2,hbb=>cases hbb
 ·intro p bb g hbb ho
  match p,hbb with
  | 1,hbb=>cases hbb;cases ho
  | 0,hbb =>
   cases hbb
   have:some G=some g:=by rw[<- ho];show _=E4 v;rw[hve];rfl
   cases this
   exact(yB.1 hrow).1
  | p+2,hbb=>cases hbb
 ·intro p q b1 b2 g h1 h2 o1 o2
  match p,q,h1,h2 with
  | 1,_,h1,_=>cases h1;cases o1
  | 0,1,_,h2=>cases h2;cases o2
  | 0,0,_,_=>rfl
  | 0,q+2,_,h2=>cases h2
  | p+2,_,h1,_=>cases h1
 ·intro p bb g j hbb ho hs
  match p,hbb with
  | 1,hbb=>cases hbb;cases ho
  | 0,hbb =>
   cases hbb
   have:some G=some g:=by rw[<- ho];show _=E4 v;rw[hve];rfl
   cases this
   exact absurd hs (hGS j)
  | p+2,hbb=>cases hbb
 ·intro p bb g hbb ho
  match p,hbb with
  | 1,hbb=>cases hbb;cases ho
  | 0,hbb =>
   cases hbb
   have:some G=some g:=by rw[<- ho];show _=E4 v;rw[hve];rfl
   cases this
   rcases hG with h|h
   ·by_cases hlt:G<w.heap.size
    ·exact .inr (hbX G h hlt)
    ·exact .inl (by omega)
   ·exact .inl h
  | p+2,hbb=>cases hbb
 ·match p,hp,h with
  | 0,_,h =>
   cases h
   exact⟨0,cs,rfl,.inr (by rw[hnl,hcl];exact Nat.mul_lt_mul_of_pos_right (zG _) hsz)⟩
  | 1,_,h=>cases h
 ·match p,hp,hne with
  | 0,_,_=>show v≠undef;rw[hve];exact λh=>by cases h
  | 1,_,hne=>exact hne
 ·show F9 w' S [.arr E sz 0 (cs.take (i*sz)++vs++cs.drop (i*sz)),.dead] (λp=>if p=0 then v else H p) (.ls 0 (n0+1)) v
  refine⟨show 0<2 by decide,⟨by rw[hve];rfl,by show v≠undef;rw[hve];exact λh=>by cases h⟩,λe' sz' k cs' h=>?_⟩
  cases h
  exact⟨kD hnl.symm,λ_=>rfl⟩
section
variable {P:Program} {c:Ctx} {Q:Exit->AS->Prop} {t:Nat->AV} {m:List Blk}
theorem Ayw {l:Nat} (h:Q .normal ⟨t,m⟩):AWC P c (.label l) Q ⟨t,m⟩:=λ_ _ S H r=>wp_label ⟨⟨t,m⟩,S,H,r,h⟩
theorem Azp {x:Code} (hg:∀ l st,¬ Q (.goto l) st) (h:AWC P c x Q ⟨t,m⟩):AWC P c (.scope x) Q ⟨t,m⟩:=λa w S H r =>
 wp_scope_straight (wp_mono (h a w S H r) λe a' w' hq=>by
  cases e with
  | goto l =>
   obtain⟨st,S',H',hr,hq⟩:=hq
   exact absurd hq (hg l _)
  | _=>exact hq)
end
def Aqz {α:Type} (by_:Nat) (xs:List α) (i:Int) (vs:List α):Option (List α):=match vs with
 | [x]=>if (0<=i/\i<=(xs.length:Int))/\(xs.length+1)*by_<=140737488355328 then some (xs.take i.toNat++x::xs.drop i.toNat) else none
 | _=>none
theorem Apb {P:Program} {F E sz by_:Nat} {α:Type} {f:α->List Lf} (hf:∀ x,(f x).length=sz) (hB:∀ {cs vs:List Lf} {n i:Nat},cs.length=n*sz->vs.length=sz->i<=n->(n+1)*by_<=140737488355328 ->
   Dw P F [.arr E sz 0 cs,.arr E sz 0 vs] [.one (.ls 0 n),.one (.i .i64 (i:Int)),.one (.ls 1 1)] (λy m'=>y=.s (.one (.ls 0 (n+1)))/\m'=[.arr E sz 0 (cs.take (i*sz)++vs++cs.drop (i*sz)),.dead]))
  {xs:List α} {i:Int} {vs r:List α} (h:Aqz by_ xs i vs=some r) :
  Dw P F [.arr E sz 0 (xs.flatMap f),.arr E sz 0 (vs.flatMap f)] [.one (.ls 0 xs.length),.one (.i .i64 i),.one (.ls 1 vs.length)] (λy m'=>y=.s (.one (.ls 0 r.length))/\m'=[.arr E sz 0 (r.flatMap f),.dead]):=by
 unfold Aqz at h
 match vs,h with
 | [x],h =>
  obtain⟨⟨⟨h0,h1⟩,h2⟩,h⟩:=Cs h
  obtain rfl:=zD h
  have hb:=hB (cs:=xs.flatMap f) (vs:=[x].flatMap f) (n:=xs.length) (i:=i.toNat) (Aw hf xs) (by rw[Aw hf,z6,wJ]) (by omega) h2
  rw[Int.toNat_of_nonneg h0] at hb
  refine hb.mono ?_
  rintro y m' ⟨rfl,rfl⟩
  have e1:(xs.take i.toNat++x::xs.drop i.toNat).length=xs.length+1:=by
   rw[zH,yW,zK,yC];omega
  rw[e1]
  refine⟨rfl,?_⟩
  rw[kK,Yn hf,xB,Y7 hf,<- xO]
  simp
theorem Rel.fillRow {c:Ctx} {t:Nat->AV} {m:List Blk} {a:Act} {w w':World} {S S':Cq} {H H':Nat->Value} (r:Rel c ⟨t,m⟩ a w S H) {p:Nat} (hm:m[p]? = some .hole) (hp0:c.m0.length<=p) {e sz:Nat} {cs:List Lf}
  (hx:Ext w S w' S') (hin:InH w' S') (mem:Mem w' S' [.arr e sz 0 cs] H') (hown:∀ g,E4 (H' 0)=some g->w.heap.size<=g) :
  Rel c ⟨t,m.set p (.arr e sz 0 cs)⟩ a w' S' (Ud H p (H' 0)):=by
 have hp:p<m.length:=(zC.1 hm).1
 have hH:H p=undef:=r.bl p _ hm
 obtain⟨hsz,hk,n,vals,h1,h2,h3⟩:=mem.bl 0 _ rfl
 refine r.changeM (p:=p) (b':=.arr e sz 0 cs) (v:=H' 0) (by simp) (zQ hp) (λq hq=>zZ (λe=>hq e.symm)) (hx.keeps r.sl) (λg _ h=>(Abd (hH.symm.trans h)).elim)
  (λe sz k cs _ h _=>by rcases h with h|h;exact absurd hH h;omega) (λg hg _=>hx.blk g hg) ⟨hsz,zX _,n,vals,h1,h2,λ_ _ _ h=>absurd h (zR _)⟩ (λg hg=>?_)
  (λq b g i _ hb ho hs=>hx.back g i (r.lo q b g hb ho).2 hs) (λg i hg _ hs=>hx.back g i (zU hg r.ex.size) hs) hin hx.size hx.os hx.tape hx.output
 have hge:=hown g hg
 refine⟨.inl (yO r.ex.size hge),mem.hp 0 _ g rfl hg,λq b _ hb ho=>?_,λi hs=>mem.sb 0 _ g i rfl hg hs⟩
 have:=(r.lo q b g hb ho).2
 omega
section
variable {P:Program} {c:Ctx} {t:Nat->AV} {M:List Blk} {ops:Array Oper} {Q:Exit->AS->Prop} {rest:List Oper} {ty:TypeId} {pos:String} {af:Array Edge} {d:Tmp}
theorem Zb {callee:Operand} {f:FuncId} {args:Array Operand} {ats:Array TypeId} {xs:List SV} {e sz n:Nat} {cs:List Lf} {α:Type} {g:α->List Lf} {ys:List α} (p:Nat) (hd:decide (d<c.nt)=true) (hf:FnI P f) (hcal:Cal ⟨t,M⟩ callee f [] []) (ho:Zv ⟨t,M⟩ args.toList xs)
  (hc:Dw P f [] xs (λy m'=>y=.s (.one (.ls 0 n))/\m'=[.arr e sz 0 cs])) (hpub:xs.all (λx=>x.inbB 0)=true) (hg:∀ x,(g x).length=sz) (hcs:cs=ys.flatMap g) (hn:n=ys.length) (hm:M[p]? = some .hole) (hp0:Nat.ble c.m0.length p=true)
  (k:AWL P c ops Q rest ⟨upd t d (.s (.one (.ls p n))),M.set p (.arr e sz 0 cs)⟩):AWL P c ops Q (⟨some d,.call { callee:=.value callee,args:=args,argTypes:=ats },ty,pos,af,none⟩::rest) ⟨t,M⟩:=by
 subst hcs hn
 intro a w S H r
 obtain⟨vs,hvs,hrun⟩:=Abm (pos:=pos) (af:=af) (ty:=ty) (ats:=ats) r hf hcal ho (some d)
 refine wpList_plain rfl λK hK=>?_
 unfold Oper.wp
 rw[hrun]
 have hvs':Zd (Ct w S [] H) xs vs.toList:=by
  have tie:Tie [] M H H (λj=>j):=⟨λp h=>absurd h (zR _),λ_ _=>rfl,λp b h=>by cases h⟩
  have e:xs.map (SV.ren (λj=>j))=xs:=by
   have hl:∀ l:Lf,l.ren0 (λj=>j)=l:=λl=>by cases l <;> rfl
   have hl2:∀ l:Lf,l.ren (λj=>j)=l:=λl=>by
    cases l with
    | fn f a b =>
     show Lf.fn f (a.map _) (b.map _)=_
     rw[show(Lf.ren0 λj=>j)=id from funext hl,kN,kN]
    | _=>rfl
   have hs:∀ x:SV,x.ren (λj=>j)=x:=λx=>by
    cases x with
    | one l=>show SV.one _=_;rw[hl2]
    | agg ls=>show SV.agg _=_;rw[show(Lf.ren λj=>j)=id from funext hl2,kN]
   rw[show(SV.ren λj=>j)=id from funext hs,kN]
  exact tie.svsDown hpub (by rw[e];simpa using hvs)
 refine(hc w S H vs r.sl ⟨λp b h=>by simp at h,λp b g h=>by simp at h,λp q b b' g h=>by simp at h,λp b g i h=>by simp at h⟩ hvs').mono ?_
 rintro e' w' ⟨v,y,m',S',H',rfl,⟨rfl,rfl⟩,ext,hin,mem',hown',_,hav⟩
 have hx:Ext w S w' S':=ext.toExt (λb ⟨q,bb,h,_⟩=>by simp at h)
 have r':=r.fillRow hm (wZ hp0) hx hin mem' (λg hg=>by
  rcases hown' 0 _ g rfl hg with h|⟨q,bb,h,_⟩
  ·exact h
  ·simp at h)
 have hp:p<M.length:=(zC.1 hm).1
 obtain⟨_,ho1,hv⟩:=(show F9 w' S' [.arr e sz 0 (ys.flatMap g)] H' (.ls 0 ys.length) v from hav)
 have hvH:=(hv e sz 0 _ rfl).2 (Aw hg ys).symm
 refine hK _ _ (k _ _ _ _ (r'.put (of_decide_eq_true hd) ?_))
 show F9 w' S' (M.set p (.arr e sz 0 (ys.flatMap g))) (Ud H p (H' 0)) (.ls p ys.length) v
 refine⟨by simpa using hp,⟨ho1.1,by rw[Cj];exact ho1.2⟩,λe2 sz2 k2 cs2 h2=>?_⟩
 rw[zQ hp] at h2
 cases h2
 exact⟨kD (Aw hg ys).symm,λ_=>by rw[Cj];exact hvH⟩
end
open Go.RowKit Go.Lib
open Go.RowKit Go.MapKept
open Go.ChangeMaps (setBlock)
def Ni (vof:List Value->Value) (ks:List Value):List (List Value)->Obj->Prop:=λvss o =>
 ∃ es clock,o=.map es clock/\Stamped es clock/\es.toList.map (·.key)=ks/\es.toList.map (·.val)=vss.map vof
def Afu (vof:List Value->Value) (es:Array MapEntry) (clock:Nat):List (List Value)->Obj->Prop:=λvss o=>o=.map es clock/\es.toList.map (·.val)=vss.map vof
def Am5 (g since:Nat) (seen:Array Nat) (c0:Nat):List (List Value)->Obj->Prop:=λ_ o=>o=.mapIter (some g) since seen c0
def Xj (vs:List Value):Value:=.agg vs.toArray
def Aiq (vs:List Value):Value:=vs.headD undef
theorem Rel.newObj {c:Ctx} {st:AS} {a:Act} {w:World} {S:Cq} {H:Nat->Value} (r:Rel c st a w S H) {o:Obj} {mk:List (List Value)->Obj->Prop} {vss:List (List Value)} {css:List (List Lf)} (ho:Alx o=true) (hmk:mk vss o)
  (hl:Aqp (Rep w S) css vss):Rel c ⟨st.t,st.m++[.obj w.heap.size mk css]⟩ a (w.alloc o) S (Ud H st.m.length (.pointer (some ⟨w.heap.size,0,none⟩))):=by
 have hx:Ext w S (w.alloc o) S:=Ext.alloc w S _
 have hk:=hx.keeps r.sl
 have hf:=r.fresh (zN w.heap.size)
 refine r.change (b':=.obj w.heap.size mk css) (by simp) (by simp) (λq hq=>?_) hk (λg h=>absurd h (wD _)) (λe sz k cs h=>absurd h (wD _))
  (λg hg _=>Below.heap_alloc w o g hg) ⟨rfl,vss,o,heap_alloc_new w o,ho,hmk,hl.mono (λl v=>Rep.mono hk)⟩ (λg hg=>?_) (λq b g i _ _ _ h=>h) (λg i _ _ h=>h) (r.sl.ext hx).two hx.size rfl rfl rfl
 ·rcases zO q st.m.length with h|h
  ·rw[zL h]
  ·rw[yG (by simp;omega),yG h]
 ·have:w.heap.size=g:=by simpa [Blk.own,E4] using hg
  subst this
  exact⟨.inl r.ex.size,by simp,λq b _ hb=>hf.1 q b hb,λi hi=>absurd hi (hf.2 i)⟩
theorem U5 (w:World) (g:Nat) (o:Obj):(setBlock w g o).heap.size=w.heap.size:=by simp [setBlock]
theorem Rel.setObj {c:Ctx} {st:AS} {a:Act} {w:World} {S:Cq} {H:Nat->Value} (r:Rel c st a w S H) {p g:Nat} {mk mk':List (List Value)->Obj->Prop} {css css':List (List Lf)} {o:Obj} {vss:List (List Value)}
  (hm:st.m[p]? = some (.obj g mk css)) (ho:Alx o=true) (hmk:mk' vss o) (hl:Aqp (Rep w S) css' vss):∃ H',Rel c ⟨st.t,st.m.set p (.obj g mk' css')⟩ a (setBlock w g o) S H'/\∀ b i,S b i->S b i/\(setBlock w g o).cell? ⟨b,i,none⟩=w.cell? ⟨b,i,none⟩:=by
 have hp:p<st.m.length:=(zC.1 hm).1
 obtain⟨h1,vs0,o0,h2,h3,h4,h5⟩:=r.bl p _ hm
 have hlo:=r.lo p _ g hm (by rw[h1];rfl)
 have hset:=heap_set (o':=o) h2
 have hcell:∀ b i,S b i->(setBlock w g o).cell? ⟨b,i,none⟩=w.cell? ⟨b,i,none⟩:=λb i hs=>by
  refine World.cell?_of_block (w:=w) (hset.2 b λe=>?_)
  subst e
  have:=r.sb p _ b i hm (by rw[h1];rfl) hs
  exact absurd this (zR _)
 have hk:∀ b i,S b i->S b i/\(setBlock w g o).cell? ⟨b,i,none⟩=w.cell? ⟨b,i,none⟩:=λb i hs=>⟨hs,hcell b i hs⟩
 refine⟨_,r.change (m':=st.m.set p (.obj g mk' css')) (b':=.obj g mk' css') (v:=H p) (by simp) (by rw[zQ hp]) (λq hq=>by rw[zZ (Ne.symm hq)]) hk (λ_ _ _=>rfl) (λe sz k cs _ h=>by cases h)
  (λg' _ hg'=>hset.2 g' λe=>?_) ⟨h1,vss,o,hset.1,ho,hmk,hl.mono (λl v=>Rep.mono hk)⟩ (λg' hg'=>?_) (λq b g i _ _ _ h=>h) (λg i _ _ h=>h) (r.sl.turn2 (kD (U5 w g o).symm) hcell) (kD (U5 w g o).symm) rfl rfl rfl,hk⟩
 ·subst e
  exact hg' _ hm (by rw[h1];rfl)
 ·have hg2:g=g':=by
   rw[h1] at hg'
   simpa [Blk.own,E4] using hg'
  subst hg2
  exact⟨hlo.1,by rw[U5];exact hlo.2,λq b hq hb ho'=>hq (r.inj q p b _ g hb hm ho' (by rw[h1];rfl)),λi hi=>absurd (r.sb p _ g i hm (by rw[h1];rfl) hi) (zR _)⟩
section
variable {P:Program} {c:Ctx} {ops:Array Oper} {Q:Exit->AS->Prop} {rest:List Oper} {ty:TypeId} {pos:String} {af:Array Edge} {d:Tmp} {t:Nat->AV} {m:List Blk}
theorem Ar9 {tm:TypeId} (vof:List Value->Value) (hd:decide (d<c.nt)=true)
  (k:∀ g,AWL P c ops Q rest ⟨upd t d (.s (.one (.raw (.map (some g))))),m++[.obj g (Ni vof []) []]⟩):AWL P c ops Q (⟨some d,.makeMap tm none,ty,pos,af,none⟩::rest) ⟨t,m⟩:=by
 intro a w S H r
 refine wpList_plain rfl λK hK=>?_
 unfold Oper.wp
 have hrun:(execOp a.eval ⟨some d,.makeMap tm none,ty,pos,af,none⟩).run P w=.ok (.value (.map (some w.heap.size))) (w.alloc (.map #[] 0)):=by
  simp [execOp,Instr.makeMap]
 rw[hrun]
 have r':=r.newObj (o:=.map #[] 0) (mk:=Ni vof []) (vss:=[]) (css:=[]) rfl ⟨#[],0,rfl,stamped_empty 0,rfl,rfl⟩ ⟨rfl,λj cs vs h=>by simp at h⟩
 exact hK _ _ (k w.heap.size _ _ _ _ (r'.put (d:=d) (x:=.s (.one (.raw (.map (some w.heap.size))))) (of_decide_eq_true hd) (I1 (.raw _ rfl))))
theorem Afd {st:AS} {a:Act} {w:World} {S:Cq} {H:Nat->Value} (r:Rel c st a w S H) {x:Operand} {g:Nat} (hx:C6 st x=.s (.one (.raw (.map (some g))))):a.eval x=.map (some g):=by
 have h:=B1 r x
 rw[hx] at h
 exact Lu h
theorem Alc {st:AS} {a:Act} {w:World} {S:Cq} {H:Nat->Value} (r:Rel c st a w S H) {x:Operand} {s:ByteArray} (hx:C6 st x=.s (.one (.s s))):a.eval x=.string s:=by
 have h:=B1 r x
 rw[hx] at h
 exact Amf h
theorem Akb {es:Array MapEntry} {ss:List ByteArray} (h:es.toList.map (·.key)=ss.map .string):∀ x∈es.toList,IsKey .string x.key:=λx hx=>by
 have:x.key∈ss.map Value.string:=by rw[<- h];exact yN.2 ⟨x,hx,rfl⟩
 obtain⟨s,_,hs⟩:=yN.1 this
 rw[<- hs];trivial
theorem T9 {α β:Type} (f:α->α) (g:α->β) (h:β->β) (hgh:∀ x,g (f x)=h (g x)):∀ (l:List α) (i:Nat),(l.modify i f).map g=(l.map g).modify i h
 | [],i=>by cases i <;> rfl
 | x::l,0=>by simp [List.modify,hgh]
 | x::l,i+1=>by
  have:=T9 f g h hgh l i
  simp [List.modify] at this ⊢
  exact this
theorem Ra {α:Type} (v:α):∀ (l:List α) (i:Nat),l.modify i (λ_=>v)=l.set i v
 | [],i=>by cases i <;> rfl
 | x::l,0=>rfl
 | x::l,i+1=>by
  have:=Ra v l i
  simp [List.modify] at this ⊢
  exact this
theorem Aoh {tm kt et:TypeId} {x y z:Operand} {g p:Nat} {ss:List ByteArray} {css:List (List Lf)} {s:ByteArray} {ls:List Lf} (hu:P.underlying tm=some (.map kt et)) (hkt:P.underlying kt=some .string)
  (hx:C6 ⟨t,m⟩ x=.s (.one (.raw (.map (some g))))) (hy:C6 ⟨t,m⟩ y=.s (.one (.s s))) (hz:C6 ⟨t,m⟩ z=.s (.agg ls)) (hpub:ls.all Lf.pubd=true) (hm:m[p]? = some (.obj g (Ni Xj (ss.map .string)) css))
  (k1:∀ j,ss[j]? = some s->AWL P c ops Q rest ⟨t,m.set p (.obj g (Ni Xj (ss.map .string)) (css.set j ls))⟩)
  (k2:s∉ss->AWL P c ops Q rest ⟨t,m.set p (.obj g (Ni Xj ((ss++[s]).map .string)) (css++[ls]))⟩) :
  AWL P c ops Q (⟨none,.mapUpdate tm x y z,ty,pos,af,none⟩::rest) ⟨t,m⟩:=by
 intro a w S H r
 obtain⟨h1,vss,o,h2,h3,⟨es,clock,rfl,hst,hks,hvs⟩,h5⟩:=r.bl p _ hm
 have ex:=Afd r hx
 have ey:=Alc r hy
 have hzr:=B1 r z
 rw[hz] at hzr
 obtain⟨vz,ez,hzl⟩:=hzr
 have hzl':LsR (Rep w S) ls vz.toList:=⟨hzl.1,λj l v e1 e2=>(hzl.2 j l v e1 e2).rep (zI.1 hpub l (zJ e1))⟩
 have hkey:=Akb hks
 have hlen:css.length=vss.length:=h5.1
 have hev:es.size=vss.length:=by
  have:=congrArg List.length hvs
  simpa using this
 have hes:es.size=ss.length:=by
  have:=congrArg List.length hks
  simpa using this
 refine wpList_plain rfl λK hK=>?_
 unfold Oper.wp
 rcases findNow_spec (d:=.string) (k:=.string s) trivial es.toList 0 hkey with⟨f1,f2⟩|⟨j,e,f1,f2,f3⟩
 ·have hns:s∉ss:=λhs=>by
   have:Value.string s∈es.toList.map (·.key):=by rw[hks];exact yN.2 ⟨s,hs,rfl⟩
   obtain⟨e,he,hek⟩:=yN.1 this
   exact f2 e he hek
  have hrun:(execOp a.eval ⟨none,.mapUpdate tm x y z,ty,pos,af,none⟩).run P w=.ok .skip (setBlock w g (.map (es.push { key:=.string s,val:=.agg vz,born:=clock }) (clock+1))):=by
   simp [execOp,ex,ey,ez,Instr.mapUpdate,run_underlying hu,MapKept.run_getObj_map h2,run_checkKey (k:=.string s) hkt trivial,run_findKey hkt f1,run_setObj_map _ h2,Result.andThen,setBlock]
  rw[hrun]
  have hl2:Aqp (Rep w S) (css++[ls]) (vss++[vz.toList]):=⟨by simp [hlen],λi cs vs e1 e2=>by
   rcases zO i css.length with hi|hi
   ·rw[zL hi] at e1
    rw[zL (by omega)] at e2
    exact h5.2 i cs vs e1 e2
   ·rw[yA hi] at e1
    rw[yA (by omega),<- hlen] at e2
    rcases kY (i-css.length) with h0|h0
    ·rw[h0] at e1 e2
     obtain rfl:=zD e1
     obtain rfl:=zD e2
     exact hzl'
    ·rw[yG (by rw[z6];omega)] at e1;cases e1⟩
  obtain⟨H',r',_⟩:=r.setObj (mk':=Ni Xj ((ss++[s]).map .string)) (css':=css++[ls]) (vss:=vss++[vz.toList]) (o:=.map (es.push { key:=.string s,val:=.agg vz,born:=clock }) (clock+1)) hm rfl
   ⟨_,_,rfl,stamped_push hst f2,by simp [hks],by simp [hvs,Xj]⟩ hl2
  exact hK _ _ (k2 hns _ _ _ _ r')
 ·rw[yE] at f1
  have hj:j<es.size:=by
   have:=(zC.1 f2).1
   simpa using this
  have hsj:ss[j]? = some s:=by
   have:(es.toList.map (·.key))[j]? = some (.string s):=by rw[zP,f2];simp [f3]
   rw[hks,zP] at this
   cases hsj:ss[j]? with
   | none=>rw[hsj] at this;cases this
   | some s'=>rw[hsj] at this;simpa using this
  have hej:es[j]? = some e:=by rw[<- xV];exact f2
  have hrun:(execOp a.eval ⟨none,.mapUpdate tm x y z,ty,pos,af,none⟩).run P w=.ok .skip (setBlock w g (.map (es.modify j λe=>{ e with key:=.string s,val:=.agg vz }) clock)):=by
   simp [execOp,ex,ey,ez,Instr.mapUpdate,run_underlying hu,MapKept.run_getObj_map h2,run_checkKey (k:=.string s) hkt trivial,run_findKey hkt f1,run_setObj_map _ h2,Result.andThen,setBlock,hej,f3,run_keyThatStays (d:=.string) (k:=.string s) trivial]
  rw[hrun]
  have hmk:(es.modify j λe=>{ e with key:=.string s,val:=.agg vz }).toList.map (·.key)=ss.map .string:=by
   rw[jJ,T9 (λe:MapEntry=>{ e with key:=.string s,val:=.agg vz }) (λe:MapEntry=>e.key) (λ_=>Value.string s) (λ_=>rfl),Ra,hks,<- kH]
   congr 1
   apply xY
   intro i
   rw[w7]
   by_cases hij:j=i
   ·subst hij;rw[if_pos rfl,if_pos (by omega),hsj]
   ·rw[if_neg hij]
  have hmv:(es.modify j λe=>{ e with key:=.string s,val:=.agg vz }).toList.map (·.val)=(vss.set j vz.toList).map Xj:=by
   rw[jJ,T9 (λe:MapEntry=>{ e with key:=.string s,val:=.agg vz }) (λe:MapEntry=>e.val) (λ_=>Value.agg vz) (λ_=>rfl),Ra,hvs,kH]
   simp [Xj]
  have hl2:Aqp (Rep w S) (css.set j ls) (vss.set j vz.toList):=⟨by simp [hlen],λi cs vs e1 e2=>by
   rw[w7] at e1 e2
   by_cases hij:j=i
   ·subst hij
    rw[if_pos rfl,if_pos (by omega)] at e1 e2
    obtain rfl:=zD e1
    obtain rfl:=zD e2
    exact hzl'
   ·rw[if_neg hij] at e1 e2
    exact h5.2 i cs vs e1 e2⟩
  obtain⟨H',r',_⟩:=r.setObj (mk':=Ni Xj (ss.map .string)) (css':=css.set j ls) (vss:=vss.set j vz.toList) (o:=.map (es.modify j λe=>{ e with key:=.string s,val:=.agg vz }) clock) hm rfl
   ⟨_,_,rfl,stamped_modify hst j _ (λ_ _=>rfl) (λe' _ he'=>by rw[hej] at he';cases he';exact f3.symm),hmk,hmv⟩ hl2
  exact hK _ _ (k1 j hsj _ _ _ _ r')
theorem Awm {tm kt et:TypeId} {x y:Operand} {g p:Nat} {ss:List ByteArray} {css:List (List Lf)} {s:ByteArray} (hu:P.underlying tm=some (.map kt et)) (hkt:P.underlying kt=some .string)
  (hx:C6 ⟨t,m⟩ x=.s (.one (.raw (.map (some g))))) (hy:C6 ⟨t,m⟩ y=.s (.one (.s s))) (hm:m[p]? = some (.obj g (Ni Xj (ss.map .string)) css))
  (k1:∀ j,ss[j]? = some s->AWL P c ops Q rest ⟨t,m.set p (.obj g (Ni Xj ((ss.eraseIdx j).map .string)) (css.eraseIdx j))⟩)
  (k2:s∉ss->AWL P c ops Q rest ⟨t,m.set p (.obj g (Ni Xj (ss.map .string)) css)⟩) {ats:Array TypeId} (hat:ats = #[tm,kt]) :
  AWL P c ops Q (⟨none,.call { callee:=.builtin .delete,args:=#[x,y],argTypes:=ats },ty,pos,af,none⟩::rest) ⟨t,m⟩:=by
 subst hat
 intro a w S H r
 obtain⟨h1,vss,o,h2,h3,⟨es,clock,rfl,hst,hks,hvs⟩,h5⟩:=r.bl p _ hm
 have ex:=Afd r hx
 have ey:=Alc r hy
 have hkey:=Akb hks
 have hlen:css.length=vss.length:=h5.1
 refine wpList_plain rfl λK hK=>?_
 unfold Oper.wp
 rcases findNow_spec (d:=.string) (k:=.string s) trivial es.toList 0 hkey with⟨f1,f2⟩|⟨j,e,f1,f2,f3⟩
 ·have hns:s∉ss:=λhs=>by
   have:Value.string s∈es.toList.map (·.key):=by rw[hks];exact yN.2 ⟨s,hs,rfl⟩
   obtain⟨e,he,hek⟩:=yN.1 this
   exact f2 e he hek
  have hrun:(execOp a.eval ⟨none,.call { callee:=.builtin .delete,args:=#[x,y],argTypes:=#[tm,kt] },ty,pos,af,none⟩).run P w=.ok (.value (.tuple #[])) (setBlock w g (.map es clock)):=by
   simp [execOp,resolve,invoke,builtin,ex,ey,Builtin.delete_,run_underlying hu,MapKept.run_getObj_map h2,run_checkKey (k:=.string s) hkt trivial,run_findKey hkt f1,run_setObj_map _ h2,Result.andThen,setBlock]
  rw[hrun]
  obtain⟨H',r',_⟩:=r.setObj (mk':=Ni Xj (ss.map .string)) (css':=css) (vss:=vss) (o:=.map es clock) hm rfl ⟨_,_,rfl,hst,hks,hvs⟩ h5
  exact hK _ _ (k2 hns _ _ _ _ r')
 ·rw[yE] at f1
  have hj:j<es.size:=by
   have:=(zC.1 f2).1
   simpa using this
  have hsj:ss[j]? = some s:=by
   have:(es.toList.map (·.key))[j]? = some (.string s):=by rw[zP,f2];simp [f3]
   rw[hks,zP] at this
   cases hsj:ss[j]? with
   | none=>rw[hsj] at this;cases this
   | some s'=>rw[hsj] at this;simpa using this
  have hrun:(execOp a.eval ⟨none,.call { callee:=.builtin .delete,args:=#[x,y],argTypes:=#[tm,kt] },ty,pos,af,none⟩).run P w=.ok (.value (.tuple #[])) (setBlock w g (.map (es.eraseIdxIfInBounds j) clock)):=by
   simp [execOp,resolve,invoke,builtin,ex,ey,Builtin.delete_,run_underlying hu,MapKept.run_getObj_map h2,run_checkKey (k:=.string s) hkt trivial,run_findKey hkt f1,run_setObj_map _ h2,Result.andThen,setBlock]
  rw[hrun]
  have herase:(es.eraseIdxIfInBounds j).toList=es.toList.eraseIdx j:=by
   unfold Array.eraseIdxIfInBounds
   rw[dif_pos hj,Array.toList_eraseIdx]
  obtain⟨H',r',_⟩:=r.setObj (mk':=Ni Xj ((ss.eraseIdx j).map .string)) (css':=css.eraseIdx j) (vss:=vss.eraseIdx j) (o:=.map (es.eraseIdxIfInBounds j) clock) hm rfl
   ⟨_,_,rfl,stamped_erase hst j,by rw[herase,Go.ChangeMaps.map_eraseIdx,hks,Go.ChangeMaps.map_eraseIdx],by rw[herase,Go.ChangeMaps.map_eraseIdx,hvs,Go.ChangeMaps.map_eraseIdx]⟩
   ⟨by rw[List.length_eraseIdx,List.length_eraseIdx,hlen],λi cs vs e1 e2=>by
    rw[List.getElem?_eraseIdx] at e1 e2
    by_cases hij:i<j
    ·rw[if_pos hij] at e1 e2;exact h5.2 i cs vs e1 e2
    ·rw[if_neg hij] at e1 e2;exact h5.2 (i+1) cs vs e1 e2⟩
  exact hK _ _ (k1 j hsj _ _ _ _ r')
theorem Aop {tm kt et:TypeId} {x:Operand} {g p:Nat} {ks:List Value} {css:List (List Lf)} {vof:List Value->Value} (hd:decide (d<c.nt)=true) (hu:P.underlying tm=some (.map kt et))
  (hx:C6 ⟨t,m⟩ x=.s (.one (.raw (.map (some g))))) (hm:m[p]? = some (.obj g (Ni vof ks) css))
  (k:∀ es clock q,Stamped es clock->es.toList.map (·.key)=ks->es.size=css.length ->
   AWL P c ops Q rest ⟨upd t d (.s (.one (.raw (.pointer (some ⟨q,0,none⟩))))),m.set p (.obj g (Afu vof es clock) css)++[.obj q (Am5 g clock #[] clock) []]⟩) :
  AWL P c ops Q (⟨some d,.range tm x,ty,pos,af,none⟩::rest) ⟨t,m⟩:=by
 intro a w S H r
 obtain⟨h1,vss,o,h2,h3,⟨es,clock,rfl,hst,hks,hvs⟩,h5⟩:=r.bl p _ hm
 have ex:=Afd r hx
 refine wpList_plain rfl λK hK=>?_
 unfold Oper.wp
 have hrun:(execOp a.eval ⟨some d,.range tm x,ty,pos,af,none⟩).run P w=.ok (.value (.pointer (some ⟨w.heap.size,0,none⟩))) (w.alloc (.mapIter (some g) clock #[] clock)):=by
  simp [execOp,ex,run_range_map w tm kt et g es clock hu h2]
 rw[hrun]
 have hb:setBlock w g (.map es clock)=w:=by
  unfold setBlock
  have hlt:=(yB.1 h2).1
  have:w.heap.setIfInBounds g (.map es clock)=w.heap:=by
   apply Array.ext_getElem?
   intro i
   rw[kL]
   by_cases e:g=i
   ·subst e;rw[if_pos rfl,if_pos hlt,h2]
   ·rw[if_neg e]
  rw[this]
 obtain⟨H1,r1,_⟩:=r.setObj (mk':=Afu vof es clock) (css':=css) (vss:=vss) (o:=.map es clock) hm rfl ⟨rfl,hvs⟩ h5
 rw[hb] at r1
 have r2:=r1.newObj (o:=.mapIter (some g) clock #[] clock) (mk:=Am5 g clock #[] clock) (vss:=[]) (css:=[]) rfl rfl ⟨rfl,λj cs vs h=>by simp at h⟩
 have hsz:es.size=css.length:=by
  have:=congrArg List.length hvs
  rw[h5.1];simpa using this
 exact hK _ _ (k es clock w.heap.size hst hks hsz _ _ _ _ (r2.put (d:=d) (x:=.s (.one (.raw (.pointer (some ⟨w.heap.size,0,none⟩))))) (of_decide_eq_true hd) (I1 (.raw _ rfl))))
theorem Atq {w:World} {S:Cq} {es:Array MapEntry} {css:List (List Lf)} {vss:List (List Value)} {ss:List ByteArray} (hks:es.toList.map (·.key)=ss.map .string) (hvs:es.toList.map (·.val)=vss.map Xj) (h5:Aqp (Rep w S) css vss) {j:Nat} {e:MapEntry} (hj:es[j]? = some e) :
  ∃ s cs vs,ss[j]? = some s/\css[j]? = some cs/\LsR (Rep w S) cs vs/\e.key=.string s/\e.val=.agg vs.toArray:=by
 have hj':es.toList[j]? = some e:=by rw[xV];exact hj
 have h1:(ss.map Value.string)[j]? = some e.key:=by rw[<- hks,zP,hj'];rfl
 have h2:(vss.map Xj)[j]? = some e.val:=by rw[<- hvs,zP,hj'];rfl
 rw[zP] at h1 h2
 cases hs:ss[j]? with
 | none=>rw[hs] at h1;cases h1
 | some s =>
 cases hv:vss[j]? with
 | none=>rw[hv] at h2;cases h2
 | some vs =>
 have hlt:j<css.length:=by rw[h5.1];exact(zC.1 hv).1
 rw[hs] at h1;rw[hv] at h2
 exact⟨s,_,vs,rfl,zB hlt,h5.2 j _ vs (zB hlt) hv,(zD h1).symm,(zD h2).symm⟩
theorem Ar0 {x:Operand} {g q p pi since c0:Nat} {es:Array MapEntry} {clock:Nat} {seen:Array Nat} {css:List (List Lf)} {ss:List ByteArray} (hd:decide (d<c.nt)=true)
  (hx:C6 ⟨t,m⟩ x=.s (.one (.raw (.pointer (some ⟨q,0,none⟩))))) (hm:m[p]? = some (.obj g (Afu Xj es clock) css)) (hi:m[pi]? = some (.obj q (Am5 g since seen c0) [])) (hold:∀ x∈es.toList,x.born<since) (hsc:since<=c0)
  (hks:es.toList.map (·.key)=ss.map .string)
  (k0:(leftOf es seen).size=0->AWL P c ops Q rest ⟨upd t d (.tup [.one (.b false)]),m⟩)
  (k1:∀ (j:Nat) e s cs,es[j]? = some e->e∈(leftOf es seen).toList->ss[j]? = some s->css[j]? = some cs->AWL P c ops Q rest ⟨upd t d (.tup [.one (.b true),.one (.s s),.agg cs]),m.set pi (.obj q (Am5 g since (seen.push e.born) clock) [])⟩) :
  AWL P c ops Q (⟨some d,.next x false,ty,pos,af,none⟩::rest) ⟨t,m⟩:=by
 intro a w S H r
 obtain⟨g1,vss,o,g2,g3,⟨rfl,hvs⟩,g5⟩:=r.bl p _ hm
 obtain⟨i1,vss2,o2,i2,i3,rfl,i5⟩:=r.bl pi _ hi
 have ex:a.eval x=.pointer (some ⟨q,0,none⟩):=by
  have h:=B1 r x
  rw[hx] at h
  exact Lu h
 have hrw:(execOp a.eval ⟨some d,.next x false,ty,pos,af,none⟩).run P w=((Instr.next (.pointer (some ⟨q,0,none⟩)) false ty).run P w).andThen λv w'=>.ok (.value v) w':=by
  simp [execOp,ex]
 refine wpList_plain rfl λK hK=>?_
 unfold Oper.wp
 rw[hrw]
 rcases run_next_at (P:=P) w ty q g since c0 seen es clock i2 g2 hold hsc with⟨h0,hr⟩|⟨e,he,w1,hw1,hr⟩
 ·rw[hr]
  exact hK _ _ (k0 h0 _ _ _ _ (r.put (d:=d) (x:=.tup [.one (.b false)]) (of_decide_eq_true hd) ⟨_,rfl,rfl,λj x u h1 h2=>by
   cases j with
   | zero=>obtain rfl:=zD h1;obtain rfl:=zD h2;exact Ct.of_rep (m:=m) (H:=H) (.b _)
   | succ j=>simp at h1⟩))
 ·rw[hr]
  have hmem:e∈es.toList:=by unfold leftOf at he;simp at he ⊢;exact he.1
  obtain⟨j,hj⟩:=wE.1 hmem
  have hj':es[j]? = some e:=by rw[<- xV];exact hj
  have r1:Rel c ⟨t,m⟩ a w1 S H:=by
   rcases hw1 with rfl|rfl
   ·exact r
   ·exact r.ext (Ext.drew w S) (r.sl.ext (Ext.drew w S))
  obtain⟨g1',vss',o',g2',g3',⟨ho',hvs'⟩,g5'⟩:=r1.bl p _ hm
  obtain⟨s,cs,vs,e1,e2,e3,e4,e5⟩:=Atq hks hvs' g5' hj'
  obtain⟨H',r2,hk2⟩:=r1.setObj (mk':=Am5 g since (seen.push e.born) clock) (css':=[]) (vss:=[]) (o:=.mapIter (some g) since (seen.push e.born) clock) hi rfl rfl ⟨rfl,λj cs vs h=>by simp at h⟩
  refine hK _ _ (k1 j e s cs hj' he e1 e2 _ _ _ _ (r2.put (d:=d) (x:=.tup [.one (.b true),.one (.s s),.agg cs]) (of_decide_eq_true hd) ⟨_,rfl,rfl,λi x u h1 h2=>?_⟩))
  match i with
  | 0=>obtain rfl:=zD h1;obtain rfl:=zD h2;exact Ct.of_rep (m:=m.set pi (.obj q (Am5 g since (seen.push e.born) clock) [])) (H:=H') (.b _)
  | 1=>obtain rfl:=zD h1;obtain rfl:=zD h2;rw[e4];exact Ct.of_rep (m:=m.set pi (.obj q (Am5 g since (seen.push e.born) clock) [])) (H:=H') (.s _)
  | 2=>obtain rfl:=zD h1;obtain rfl:=zD h2;rw[e5];exact⟨_,rfl,show LsR _ _ vs.toArray.toList from by rw[yU];exact e3.mono λl v h=>Ct.of_rep (Rep.mono hk2 h)⟩
  | i+3=>simp at h1
theorem Aoj {x:Operand} {g q p pi since:Nat} {es:Array MapEntry} {clock:Nat} {seen:Array Nat} {css:List (List Lf)} {ss:List ByteArray} {j:Nat} {e:MapEntry} {s:ByteArray} {cs:List Lf} (hd:decide (d<c.nt)=true)
  (hx:C6 ⟨t,m⟩ x=.s (.one (.raw (.pointer (some ⟨q,0,none⟩))))) (hm:m[p]? = some (.obj g (Afu Xj es clock) css)) (hi:m[pi]? = some (.obj q (Am5 g since (seen.push e.born) clock) [])) (hn:(es.toList.map (·.born)).Nodup)
  (hks:es.toList.map (·.key)=ss.map .string) (hj:es[j]? = some e) (hs:ss[j]? = some s) (hcs:css[j]? = some cs)
  (k:AWL P c ops Q rest ⟨upd t d (.tup [.one (.s s),.agg cs]),m⟩) :
  AWL P c ops Q (⟨some d,.entry x,ty,pos,af,none⟩::rest) ⟨t,m⟩:=by
 intro a w S H r
 obtain⟨g1,vss,o,g2,g3,⟨rfl,hvs⟩,g5⟩:=r.bl p _ hm
 obtain⟨i1,vss2,o2,i2,i3,rfl,i5⟩:=r.bl pi _ hi
 have ex:a.eval x=.pointer (some ⟨q,0,none⟩):=by
  have h:=B1 r x
  rw[hx] at h
  exact Lu h
 obtain⟨s',cs',vs,e1,e2,e3,e4,e5⟩:=Atq hks hvs g5 hj
 rw[hs] at e1;rw[hcs] at e2
 obtain rfl:=zD e1
 obtain rfl:=zD e2
 have hmem:e∈es.toList:=zJ (i:=j) (by rw[xV];exact hj)
 have hrw:(execOp a.eval ⟨some d,.entry x,ty,pos,af,none⟩).run P w=.ok (.value (.tuple #[e.key,e.val])) w:=by
  simp [execOp,ex,run_entry_at w q g since seen es clock e i2 g2 hmem hn]
 refine wpList_plain rfl λK hK=>?_
 unfold Oper.wp
 rw[hrw]
 refine hK _ _ (k _ _ _ _ (r.put (d:=d) (x:=.tup [.one (.s s),.agg cs]) (of_decide_eq_true hd) ⟨_,rfl,rfl,λi x u h1 h2=>?_⟩))
 match i with
 | 0=>obtain rfl:=zD h1;obtain rfl:=zD h2;rw[e4];exact Ct.of_rep (m:=m) (H:=H) (.s _)
 | 1=>obtain rfl:=zD h1;obtain rfl:=zD h2;rw[e5];exact⟨_,rfl,show LsR _ _ vs.toArray.toList from by rw[yU];exact e3.mono λl v h=>Ct.of_rep h⟩
 | i+2=>simp at h1
end
open Go.RowKit Go.Shelf Go.Sort
open Go.Proofs (sortWorldK)
theorem Ans {R:Lf->Value->Prop}:∀ {a b:List Lf} {vs:List Value},LsR R (a++b) vs->LsR R a (vs.take a.length)/\LsR R b (vs.drop a.length):=λ{a b vs} h=>by
 obtain⟨h1,h2⟩:=h
 rw[zH] at h1
 refine⟨⟨by rw[zK];omega,λj l v e1 e2=>?_⟩,⟨by rw[yC];omega,λj l v e1 e2=>?_⟩⟩
 ·have hj:=(zC.1 e1).1
  rw[yL,if_pos hj] at e2
  exact h2 j l v (by rw[zL hj];exact e1) e2
 ·rw[yJ] at e2
  exact h2 (a.length+j) l v (by rw[yA (by omega)];simpa using e1) e2
theorem Aq7 {R:Lf->Value->Prop} {a b:List Lf} {va vb:List Value} (ha:LsR R a va) (hb:LsR R b vb):LsR R (a++b) (va++vb):=by
 refine⟨by rw[zH,zH,ha.1,hb.1],λj l v e1 e2=>?_⟩
 rcases zO j a.length with hj|hj
 ·rw[zL hj] at e1
  rw[zL (by rw[<- ha.1];exact hj)] at e2
  exact ha.2 j l v e1 e2
 ·rw[yA hj] at e1
  rw[yA (by rw[<- ha.1];exact hj),<- ha.1] at e2
  exact hb.2 _ l v e1 e2
theorem Auc {α:Type} {f:α->List Lf} {R:Lf->Value->Prop}:∀ {xs:List α} {vals:List Value},LsR R (xs.flatMap f) vals->∃ d:List { p:α×List Value // LsR R (f p.1) p.2 },d.map (λp=>p.1.1)=xs/\d.flatMap (λp=>p.1.2)=vals
 | [],vals,h=>by
  have:vals=[]:=zY h.1.symm
  exact⟨[],rfl,this.symm⟩
 | x::xs,vals,h=>by
  rw[xB] at h
  obtain⟨h1,h2⟩:=Ans h
  obtain⟨d,e1,e2⟩:=Auc h2
  refine⟨⟨(x,vals.take (f x).length),h1⟩::d,by rw[wB,e1],?_⟩
  rw[xB,e2]
  exact xK ..
theorem An7 {α:Type} {f:α->List Lf} {R:Lf->Value->Prop}:∀ d:List { p:α×List Value // LsR R (f p.1) p.2 },LsR R ((d.map (λp=>p.1.1)).flatMap f) (d.flatMap (λp=>p.1.2))
 | []=>⟨rfl,λj l v h=>by simp at h⟩
 | p::d=>by
  rw[wB,xB,xB]
  exact Aq7 p.2 (An7 d)
theorem Aq6 {β γ:Type} {g:β->List γ} {k:Nat} (hk:∀ x,(g x).length=k) (xs:List β) {j i:Nat} (hi:i<k) (hj:j<xs.length):(xs.flatMap g)[j*k+i]? = (g xs[j])[i]? := by
 have e:(xs.flatMap g)[j*k+i]? = ((xs.flatMap g).drop (j*k))[i]? := by rw[yJ]
 have h2:(xs.flatMap g).drop (j*k)=(xs.drop j).flatMap g:=by
  clear e hj
  induction xs generalizing j with
  | nil=>simp
  | cons a l ih =>
   cases j with
   | zero=>simp
   | succ j =>
    rw[xB,List.drop_append,List.drop_succ_cons,<- ih,hk]
    rw[List.drop_eq_nil_of_le (by rw[hk,jA];omega),wX]
    congr 1
    rw[jA];omega
 rw[e,h2,wY hj,xB,zL (by rw[hk];exact hi)]
theorem Ae6 {β:Type} [Inhabited β] {enc:β->List Value} {k:Nat} (hk:∀ x,(enc x).length=k) (d:Array β):(flatK enc k d).toList=d.toList.flatMap enc:=by
 have hlen:(d.toList.flatMap enc).length=d.size*k:=by
  have:∀ l:List β,(l.flatMap enc).length=l.length*k:=λl=>by
   induction l with
   | nil=>simp
   | cons a l ih=>rw[xB,zH,ih,hk,yW,jA,j1]
  rw[this];simp
 apply List.ext_getElem
 ·rw[hlen];simp
 ·intro t h1 h2
  rw[hlen] at h2
  have k0:0<k:=by
   rcases kY k with h|h
   ·rw[h] at h2;simp at h2
   ·exact h
  have hj:t / k<d.size:=Nat.div_lt_of_lt_mul (by rw[Nat.mul_comm];exact h2)
  have hi:t % k<k:=Nat.mod_lt _ k0
  have ht:(flatK enc k d)[t]! = (flatK enc k d)[t]'(by simpa using h2):=getElem!_pos _ t _
  have e1:(flatK enc k d).toList[t]=(enc d[t / k])[t % k]'(by rw[hk];exact hi):=by
   rw[jE,<- ht,get_flatK enc k d t h2,getElem!_pos d _ hj,getElem!_pos _ _ (by rw[hk];exact hi)]
  have e2:=Aq6 hk d.toList (j:=t / k) hi (by simpa using hj)
  have e3:t / k*k+t % k=t:=by rw[Nat.mul_comm];exact Nat.div_add_mod t k
  have e4:d.toList[t / k]'(by simpa using hj)=d[t / k]:=jE ..
  rw[e3,zB (by rw[hlen];exact h2),e4,zB (by rw[hk];exact hi)] at e2
  rw[e1,zD e2]
section
variable {β:Type} [Inhabited β] {enc:β->List Value} {k:Nat} {w:World} {b n:Nat} {d:Array β} {os:Array Obj} {cur:Array Value} {e:TypeId}
theorem Av7 (hb:w.heap[b]? = some (.cells cur e (0,0))) (hd:d.size*k<=cur.size):(sortWorldK enc k w b 0 n d os).heap[b]? = some (.cells ((flatK enc k d).toList++cur.toList.drop (d.size*k)).toArray e (0,0)):=by
 have hlt:=(yB.1 hb).1
 have h1:(sortWorldK enc k w b 0 n d os).heap[b]? = (putRowK enc k (Sort.ahead w n) b 0 d).heap[b]? := by
  show((putRowK enc k (Sort.ahead w n) b 0 d).heap++os)[b]? = _
  rw[kS (by simp [putRowK,Sort.ahead];exact hlt)]
 rw[h1]
 show((Sort.ahead w n).heap.modify b _)[b]? = _
 rw[wO,if_pos rfl]
 show(w.heap[b]?).map _=_
 rw[hb]
 show some (Obj.cells (putCells id 0 (flatK enc k d) cur) e (0,0))=_
 congr 2
 apply Array.ext_getElem?
 intro i
 rw[putCells,Array.getElem?_mapIdx]
 simp only[size_flatK,zX,true_and,yE,Nat.sub_zero,id]
 have hto:((flatK enc k d).toList++cur.toList.drop (d.size*k)).toArray[i]? = ((flatK enc k d).toList++cur.toList.drop (d.size*k))[i]? := List.getElem?_toArray ..
 rw[hto]
 rcases zO i (d.size*k) with hi|hi
 ·rw[zL (by simpa using hi),xV,zS (show i<cur.size by omega),zS (show i<(flatK enc k d).size by simpa using hi),xC,if_pos hi,getElem!_pos]
 ·rw[yA (by simpa using hi),yJ,xV,z8,size_flatK,show d.size*k+(i-d.size*k)=i by omega]
  cases cur[i]? with
  | none=>rfl
  | some v=>rw[xC,if_neg (by omega)]
theorem Abi {i:Nat} (hi:i<w.heap.size) (hne:i≠b):(sortWorldK enc k w b 0 n d os).heap[i]? = w.heap[i]? := by
 have h1:(sortWorldK enc k w b 0 n d os).heap[i]? = (putRowK enc k (Sort.ahead w n) b 0 d).heap[i]? := by
  show((putRowK enc k (Sort.ahead w n) b 0 d).heap++os)[i]? = _
  rw[kS (by simp [putRowK,Sort.ahead];exact hi)]
 rw[h1]
 show((Sort.ahead w n).heap.modify b _)[i]? = _
 rw[wO,if_neg (λh=>hne h.symm)]
 rfl
theorem Ae2:w.heap.size<=(sortWorldK enc k w b 0 n d os).heap.size:=by
 show _<=((putRowK enc k (Sort.ahead w n) b 0 d).heap++os).size
 rw[yQ]
 simp [putRowK,Sort.ahead]
end
theorem Ays {P:Program} {ρ:Ren} (L:Go.Proofs.SlLaysF0.n6 P ρ) {α:Type} {f:α->List Lf} {e sz g:Nat} (cf:α->α->Int) (hf:∀ x,(f x).length=sz) (hsz:0<sz)
  (aE:∀ w,(isAgg (ρ.t 24)).run P w=.ok true w) (zE:∀ w,(Go.sizeOf (ρ.t 24)).run P w=.ok sz w) (hO:SWO (Go.Proofs.ltOf cf)) (eg:∀ args w,(callFunc g args).run P w=.ok (.enter g args) w)
  (hg:∀ (W:World) (S:Cq) (x y:α) (vx vy:List Value),(∀ b i,S b i->b<W.heap.size)->LsR (Rep W S) (f x) vx->LsR (Rep W S) (f y) vy->Calls P g #[.agg vx.toArray,.agg vy.toArray] W λe w'=>e=.returned (.int .i64 (cf x y))/\∃ q os',w'=grow (W.drewN q) os')
  {xs ys:List α} (hn:xs.length<=1000000000000000000) (hys:∀ zs:List α,zs.Perm xs->zs.Pairwise (λa b=>Go.Proofs.ltOf cf b a=false)->zs=ys) :
  Dw P (ρ.f 6) [.arr e sz 0 (xs.flatMap f)] [.one (.ls 0 xs.length),.one (.raw (.func (.func g) #[] #[]))] (λy m'=>y=.tup []/\m'=[.arr e sz 0 (ys.flatMap f)]):=by
 intro w S H vs hin mem hvs
 obtain⟨hvl,hvr⟩:=hvs
 obtain⟨v0,v1,rfl⟩:∃ v0 v1,vs = #[v0,v1]:=by
  obtain⟨l⟩:=vs
  match l,hvl with
  | [a,b],_=>exact⟨a,b,rfl⟩
 have hv1:v1=.func (.func g) #[] #[]:=Lu (hvr 1 _ v1 rfl rfl)
 obtain⟨_,_,hv0⟩:=(show F9 w S [.arr e sz 0 (xs.flatMap f)] H (.ls 0 xs.length) v0 from hvr 0 _ v0 rfl rfl)
 have hv0:=(hv0 e sz 0 _ rfl).2 (Aw hf xs).symm
 obtain⟨_,_,n',vals,hown,hls,_⟩:=mem.bl 0 _ rfl
 have hn':n'=xs.length:=Q8 hown hsz (by rw[<- hls.1,Aw hf])
 subst hn'
 have hin':=hin
 subst hv1
 have none0:xs.length=0->(∃ p cap,v0=.slice p 0 cap)->Calls P (ρ.f 6) #[v0,.func (.func g) #[] #[]] w λe' w'=>∃ v x m' S' H',e'=.returned v/\(x=.tup []/\m'=[.arr e sz 0 (ys.flatMap f)])/\Xi (Agr [.arr e sz 0 (xs.flatMap f)] H) w S w' S'/\InH w' S'/\Mem w' S' m' H' /\
   (∀ (p:Nat) (b:Blk) (g:Nat),m'[p]? = some b->b.own (H' p)=some g->w.heap.size<=g\/Agr [.arr e sz 0 (xs.flatMap f)] H g)/\A0t [.arr e sz 0 (xs.flatMap f)] H m' H'/\AVR (Ct w' S' m' H') x v:=λh0 ⟨p,cap,hp⟩=>by
  have hx:xs=[]:=zY h0
  have hy:ys=xs:=(hys xs (List.Perm.refl _) (by rw[hx];exact List.Pairwise.nil)).symm
  subst hp
  refine(Go.Proofs.AnyF.slices_SortFunc_none { L with } p cap _ w).mono ?_
  rintro e' w' ⟨rfl,rfl⟩
  rw[hy]
  exact⟨_,.tup [],_,S,H,rfl,⟨rfl,rfl⟩,Xi.refl _ _ _,hin,mem,λp b g hb ho=>.inr ⟨p,b,hb,ho⟩,⟨zN _,λ_ _ _ _=>rfl,λp e' sz' k cs _ hm=>⟨k,cs,hm,.inl ⟨rfl,rfl⟩⟩,λ_ _ h=>h⟩,Ky⟩
 rcases hown.2 with⟨hH,h0⟩|⟨blk,cap,cur,hH,_,hheap,hcap,hmax,hcs,hvals⟩
 ·exact none0 h0 ⟨none,0,hv0.trans hH⟩
 rcases kY xs.length with h0|hpos
 ·exact none0 h0 ⟨_,_,by rw[hv0,hH,h0]⟩
 obtain⟨d,hd1,hd2⟩:=Auc hls
 have hdl:d.length=xs.length:=by rw[<- hd1,z2]
 obtain⟨p0,hp0⟩:∃ p0,d[0]? = some p0:=⟨_,zB (by omega)⟩
 let β:={ p:α×List Value // LsR (Rep w S) (f p.1) p.2 }
 let _:Inhabited β:=⟨p0⟩
 let enc:β->List Value:=λp=>p.1.2
 have hk:∀ x:β,(enc x).length=sz:=λx=>by rw[<- x.2.1,hf]
 have h1:∀ x:β,∀ v∈enc x,v.oneCell'=true:=λx v hv=>by
  obtain⟨j,hj⟩:=wE.1 hv
  have hjl:j<(f x.1.1).length:=by rw[x.2.1];exact(zC.1 hj).1
  exact Rep.oneCell (x.2.2 j _ v (zB hjl) hj)
 have hblk:blk<w.heap.size:=(yB.1 hheap).1
 have hnoS:∀ i,¬ S blk i:=λi hi=>absurd (mem.sb 0 _ blk i rfl (by show E4 (H 0)=_;rw[hH];rfl) hi) (zR _)
 have hflat:(flatK enc sz d.toArray).toList=vals:=by rw[Ae6 hk];exact hd2
 have hcurlen:d.toArray.size*sz<=cur.size:=by
  rw[hcs];simp only[z7,hdl];exact xA _ hcap
 have hH':HoldsK enc sz w blk 0 d.toArray:=λj hj=>by
  rw[size_flatK,z7] at hj
  have hjv:j<vals.length:=by rw[<- hls.1,Aw hf,<- hdl];exact hj
  have hval:(flatK enc sz d.toArray)[j]! = vals[j]:=by
   rw[getElem!_pos _ _ (by rw[size_flatK,z7];exact hj),<- jE]
   simp only[hflat]
  have hcur:cur.toList[j]? = some vals[j]:=by
   have:(cur.toList.take (xs.length*sz))[j]? = some vals[j]:=by rw[hvals,zB hjv]
   rw[yL] at this
   split at this
   ·exact this
   ·cases this
  refine⟨?_,?_⟩
  ·rw[yE,cell_of_row w _ _ cur e (0,0) hheap,hval]
   simpa using hcur
  ·rw[yE]
   unfold World.frozen?
   rw[hheap]
   simp
 have hcmp:Go.Proofs.CmpLays P g #[] enc sz (λx y:β=>cf x.1.1 y.1.1) blk 0 d.toArray.size w:=λm os dk hdk x y=>by
  have hkeep:∀ b i,S b i->S b i/\(sortWorldK enc sz w blk 0 m dk os).cell? ⟨b,i,none⟩=w.cell? ⟨b,i,none⟩:=λb i hs =>
   ⟨hs,World.cell?_of_block (w:=w) (Abi (hin.1 b i hs) λe=>hnoS i (e ▸ hs))⟩
  have:=hg (sortWorldK enc sz w blk 0 m dk os) S x.1.1 y.1.1 x.1.2 y.1.2 (λb i hs=>zU (hin.1 b i hs) Ae2) (x.2.mono λl v=>Rep.mono hkeep) (y.2.mono λl v=>Rep.mono hkeep)
  simpa using this
 have hO':SWO (Go.Proofs.ltOf (λx y:β=>cf x.1.1 y.1.1)):=⟨λx=>hO.irrefl x.1.1,λx y z=>hO.trans x.1.1 y.1.1 z.1.1,λx y z=>hO.ntrans x.1.1 y.1.1 z.1.1⟩
 have hcon:=Go.Proofs.AnyQ.slices_SortFunc L sz aE zE enc hk h1 (λx y:β=>cf x.1.1 y.1.1) hO' g #[] blk 0 cap d.toArray w eg hcmp hH' hblk (by rw[z7,hdl];omega)
 rw[hv0,hH]
 rw[z7,hdl] at hcon
 refine hcon.mono ?_
 rintro e' w' ⟨rfl,d',n2,os,hperm,hsort,rfl⟩
 obtain⟨hps,_,hpp⟩:=hperm
 have hds:d'.size=xs.length:=by rw[hps,z7,hdl]
 have hpl:d'.toList.Perm d:=by
  have e1:d'.extract 0 xs.length=d':=by rw[<- hds];simp
  have e2:d.toArray.extract 0 xs.length=d.toArray:=by rw[<- hdl];simp
  rw[e1,e2] at hpp
  simpa using hpp
 have hz:d'.toList.map (λp=>p.1.1)=ys:=by
  refine hys _ ?_ ?_
  ·rw[<- hd1];exact hpl.map _
  ·rw[wF]
   refine yI.2 λi j hi hj hij=>?_
   rw[z8] at hi hj
   have:=hsort i j (zX _) hij (by omega)
   rw[getElem!_pos d' j (by omega),getElem!_pos d' i (by omega)] at this
   exact this
 have hyl:ys.length=xs.length:=by rw[<- hz,z2,z8,hds]
 have hsame:=Av7 (enc:=enc) (k:=sz) (n:=n2) (d:=d') (os:=os) hheap (by rw[hds];rw[z7,hdl] at hcurlen;exact hcurlen)
 have hkeep:∀ b i,S b i->S b i/\(sortWorldK enc sz w blk 0 n2 d' os).cell? ⟨b,i,none⟩=w.cell? ⟨b,i,none⟩:=λb i hs =>
  ⟨hs,World.cell?_of_block (w:=w) (Abi (hin.1 b i hs) λe=>hnoS i (e ▸ hs))⟩
 have hin2:InH (sortWorldK enc sz w blk 0 n2 d' os) S:=hin.turn (·=blk) (λg i e hs=>absurd (e ▸ hs) (hnoS i)) (λq hq hne=>Abi hq hne) Ae2 λb i hs=>(hkeep b i hs).2
 have hlenv:(d'.toList.flatMap enc).length=xs.length*sz:=by rw[<- Ae6 hk,z8,size_flatK,hds]
 have hownX:Agr [.arr e sz 0 (xs.flatMap f)] H blk:=⟨0,_,rfl,by show E4 (H 0)=_;rw[hH];rfl⟩
 refine⟨_,.tup [],[.arr e sz 0 (ys.flatMap f)],S,H,rfl,⟨rfl,rfl⟩,⟨rfl,rfl,rfl,Ae2,λb hb hx=>Abi hb λe=>hx (e ▸ hownX),λb i hs=>hs,λb i hs=>(hkeep b i hs).2,λb i _ _ hs=>hs⟩,hin2,⟨λp b hb=>?_,λp b g' hb ho=>?_,λp q b b' g' hb hb' _ _=>?_,λp b g' i hb ho hs=>?_⟩,λp b g' hb ho=>?_,⟨zN _,λ_ _ _ _=>rfl,λp e' sz' k' cs' hp hm=>?_,λ_ _ h=>h⟩,Ky⟩
 ·match p with
  | 0 =>
   obtain rfl:=zD hb
   refine⟨hsz,zX _,xs.length,d'.toList.flatMap enc,⟨hlenv,.inr ⟨blk,cap,_,hH,zX _,hsame,hcap,hmax,?_,?_⟩⟩,?_,λg' _ i hi=>absurd hi (zR _)⟩
   ·rw[z7,zH,z8,size_flatK,yC,z8,hds,hcs]
    have:=xA sz hcap
    omega
   ·rw[Ae6 hk,yU,wC (by rw[hlenv];exact zN _),<- hlenv,yF]
   ·rw[<- hz]
    exact(An7 d'.toList).mono λl v=>Rep.mono hkeep
  | p+1=>simp at hb
 ·match p with
  | 0 =>
   obtain rfl:=zD hb
   have hg':E4 (H 0)=some g':=ho
   rw[hH] at hg'
   obtain rfl:blk=g':=by simpa [E4] using hg'
   exact zU hblk Ae2
  | p+1=>simp at hb
 ·match p,q with
  | 0,0=>rfl
  | 0,q+1=>simp at hb'
  | p+1,_=>simp at hb
 ·match p with
  | 0 =>
   obtain rfl:=zD hb
   have hg':E4 (H 0)=some g':=ho
   rw[hH] at hg'
   obtain rfl:blk=g':=by simpa [E4] using hg'
   exact absurd hs (hnoS i)
  | p+1=>simp at hb
 ·match p with
  | 0 =>
   obtain rfl:=zD hb
   exact .inr ⟨0,_,rfl,ho⟩
  | p+1=>simp at hb
 ·match p with
  | 0 =>
   obtain⟨rfl,rfl,rfl,rfl⟩:e=e'/\sz=sz'/\0=k'/\ys.flatMap f=cs':=by simpa using hm
   exact⟨0,_,rfl,.inl ⟨by rw[Aw hf,Aw hf,hyl],rfl⟩⟩
  | p+1=>simp at hp
open Go.RowKit
theorem Agc {ls:List Lf} (h:Ah7 (.int .i64) ls):∃ n:Int,(-9223372036854775808<=n/\n<=9223372036854775807)/\ls=eI n:=by
 obtain⟨n,hw,rfl⟩:=h
 exact⟨n,Awv hw,rfl⟩
theorem Az2 {k:IntKind} {n:Int} (h:(Lit.int k n).wf=true):k.min<=n/\n<=k.max:=by
 simp only[Lit.wf,yD,decide_eq_true_eq] at h
 exact h
theorem Asa {ls:List Lf} (h:Ah7 (.int .u8) ls):∃ a:UInt8,True/\ls=eU8 a:=by
 obtain⟨n,hw,rfl⟩:=h
 obtain⟨h1,h2⟩:=Az2 hw
 simp [IntKind.min,IntKind.max,IntKind.bits,IntKind.signed] at h1 h2
 refine⟨UInt8.ofNat n.toNat,trivial,?_⟩
 show _=[Lf.i .u8 _]
 rw[show((UInt8.ofNat n.toNat).toNat:Int)=n by rw[UInt8.toNat_ofNat'];omega]
theorem Ajz {ls:List Lf} (h:Ah7 .bool ls):∃ b:Bool,True/\ls=eB b:=by
 obtain⟨b,rfl⟩:=h
 exact⟨b,trivial,rfl⟩
theorem Ao9 {α:Type} {e:Sh} {f:α->List Lf} {Q:α->Prop} (he:∀ {r},Ah7 e r->∃ x,Q x/\r=f x) {ls:List Lf} (h:Ah7 (.sl e) ls):∃ xs:List α,(xs.length<=maxLen/\∀ x∈xs,Q x)/\ls=eL f xs:=by
 obtain⟨rows,hl,hr,rfl⟩:=h
 have:∃ xs:List α,(∀ x∈xs,Q x)/\rows=xs.map f:=by
  clear hl
  induction rows with
  | nil=>exact⟨[],λ_ h=>by simp at h,rfl⟩
  | cons r rs ih =>
   obtain⟨x,hq,hx⟩:=he (hr r (yV ..))
   obtain⟨xs,hqs,hxs⟩:=ih (λr h=>hr r (yT _ h))
   exact⟨x::xs,λy hy=>by rcases yM.1 hy with rfl|hy;exact hq;exact hqs y hy,by rw[hx,hxs];rfl⟩
 obtain⟨xs,hq,rfl⟩:=this
 exact⟨xs,⟨by simpa using hl,hq⟩,by rw[eL,List.flatMap,z2]⟩
theorem Cd {n:Int} (h1:-9223372036854775808<=n) (h2:n<=9223372036854775807):wI n=n:=by
 unfold wI IntKind.wrap
 simp [IntKind.bits,IntKind.signed]
 omega
theorem Co {n:Nat} (h:n<=1000000000000000000):n<fuel:=by unfold fuel;omega
theorem Bo {α:Type} (xs:List α) (i:Nat):idx xs (i:Int)=xs[i]? := by
 unfold idx
 rw[if_pos (xL i),zT]
theorem Avj {α:Type} {xs:List α} {j:Int} (h0:0<=j) (h1:j<xs.length):∃ x,idx xs j=some x/\xs[j.toNat]? = some x:=by
 have h:j.toNat<xs.length:=by omega
 exact⟨xs[j.toNat],by unfold idx;rw[if_pos h0,zB h],zB h⟩
theorem Az5 {α:Type} {xs:List α} {j:Int} {x:α} (h0:0<=j) (h:xs[j.toNat]? = some x):idx xs j=some x:=by
 unfold idx
 rw[if_pos h0,h]
theorem Abl {α:Type} {xs:List α} {lo hi:Int} (h0:0<=lo) (h1:lo<=hi) (h2:hi<=xs.length):cut xs lo hi=some ((xs.drop lo.toNat).take (hi.toNat-lo.toNat)):=by
 unfold cut
 rw[if_pos ⟨h0,h1,h2⟩]
theorem Dm {σ β:Type} {f:σ->Option (LB σ β)} {P:σ->Prop} {μ:σ->Nat} {R:β->Prop}
  (h:∀ s,P s->(∃ s',f s=some (.cont s')/\P s'/\μ s'<μ s)\/∃ b,f s=some (.brk b)/\R b):∀ (n:Nat) (s:σ),P s->μ s<n->∃ b,Cz f n s=some b/\R b
 | 0,s,_,hm=>by omega
 | n+1,s,hp,hm=>by
  rcases h s hp with⟨s',hf,hp',hlt⟩|⟨b,hf,hr⟩
  ·obtain⟨b,hb,hr⟩:=Dm h n s' hp' (by omega)
   exact⟨b,by rw[Cz,hf];exact hb,hr⟩
  ·exact⟨b,by rw[Cz,hf],hr⟩
theorem D2 {σ β ρ:Type} {f:σ->Option (LR σ β ρ)} {P:σ->Prop} {μ:σ->Nat} {R:Sum ρ β->Prop}
  (h:∀ s,P s->(∃ s',f s=some (.cont s')/\P s'/\μ s'<μ s)\/(∃ b,f s=some (.brk b)/\R (.inr b))\/∃ r,f s=some (.ret r)/\R (.inl r)):∀ (n:Nat) (s:σ),P s->μ s<n->∃ b,Iz f n s=some b/\R b
 | 0,s,_,hm=>by omega
 | n+1,s,hp,hm=>by
  rcases h s hp with⟨s',hf,hp',hlt⟩|⟨b,hf,hr⟩|⟨b,hf,hr⟩
  ·obtain⟨b,hb,hr⟩:=D2 h n s' hp' (by omega)
   exact⟨b,by rw[Iz,hf];exact hb,hr⟩
  ·exact⟨.inr b,by rw[Iz,hf],hr⟩
  ·exact⟨.inl b,by rw[Iz,hf],hr⟩
theorem Z4 {α σ β τ:Type} {f:τ->Option (LB τ β)} (st:σ->Nat->τ) (xs:List α) (g:σ->α->σ) (out:σ->β) (hl:xs.length<1000000000000000000000000)
  (h1:∀ acc i x,xs[i]? = some x->f (st acc i)=some (.cont (st (g acc x) (i+1)))) (h2:∀ acc,f (st acc xs.length)=some (.brk (out acc))) (a0:σ):Cz f fuel (st a0 0)=some (out (xs.foldl g a0)):=by
 have key:∀ (k i:Nat) (acc:σ) (n:Nat),k+i=xs.length->k<n->Cz f n (st acc i)=some (out ((xs.drop i).foldl g acc)):=by
  intro k
  induction k with
  | zero =>
   intro i acc n hi hn
   obtain⟨m,rfl⟩:∃ m,n=m+1:=⟨n-1,by omega⟩
   have:i=xs.length:=by omega
   subst this
   rw[Cz,h2,List.drop_length]
   rfl
  | succ k ih =>
   intro i acc n hi hn
   obtain⟨m,rfl⟩:∃ m,n=m+1:=⟨n-1,by omega⟩
   have hlt:i<xs.length:=by omega
   rw[Cz,h1 acc i xs[i] (zB hlt),wY hlt,kX]
   exact ih (i+1) _ m (by omega) (by omega)
 have:=key xs.length 0 a0 fuel (by omega) hl
 rwa [List.drop_zero] at this
theorem Vt (x y:UInt8):x<y\/x=y\/y<x:=by
 rcases kI x.toNat y.toNat with h|h|h
 ·exact .inl (xH.2 h)
 ·exact .inr (.inl (UInt8.toNat_inj.1 h))
 ·exact .inr (.inr (xH.2 h))
theorem N6 {x y:UInt8} (h:x<y):¬ y<x:=λh'=>by
 have:=xH.1 h
 have:=xH.1 h'
 omega
theorem Aez {x y z:UInt8} (h:x<y) (h':y<z):x<z:=by
 have h1:=xH.1 h
 have h2:=xH.1 h'
 exact xH.2 (by omega)
theorem Rl:∀ a:List UInt8,Gm a a=0
 | []=>rfl
 | x::xs=>by unfold Gm;rw[if_neg (yZ x),if_neg (yZ x)];exact Rl xs
theorem Uo:∀ a b:List UInt8,Gm a b = -Gm b a
 | [],[]=>rfl
 | [],_::_=>rfl
 | _::_,[]=>rfl
 | x::xs,y::ys=>by
  unfold Gm
  rcases Vt x y with h|h|h
  ·rw[if_pos h,if_neg (N6 h),if_pos h]
  ·subst h
   rw[if_neg (yZ x),if_neg (yZ x),if_neg (yZ x),if_neg (yZ x)];exact Uo xs ys
  ·rw[if_neg (N6 h),if_pos h,if_pos h];rfl
theorem Ua:∀ {a b:List UInt8},Gm a b=0->a=b
 | [],[],_=>rfl
 | [],_::_,h=>by cases h
 | _::_,[],h=>by cases h
 | x::xs,y::ys,h=>by
  unfold Gm at h
  rcases Vt x y with h1|h1|h1
  ·rw[if_pos h1] at h;cases h
  ·subst h1
   rw[if_neg (yZ x),if_neg (yZ x)] at h
   rw[Ua h]
  ·rw[if_neg (N6 h1),if_pos h1] at h;cases h
theorem Of:∀ {a b c:List UInt8},Gm a b<=0->Gm b c<=0->Gm a c<=0/\(Gm a b<0\/Gm b c<0->Gm a c<0)
 | [],b,[],h1,h2=>⟨xU _,λh=>by
   cases b with
   | nil=>rcases h with h | h <;> simp [Gm] at h
   | cons y ys=>simp [Gm] at h2⟩
 | [],_,_::_,_,_=>⟨by simp [Gm],λ_=>by simp [Gm]⟩
 | _::_,[],_,h1,_=>by simp [Gm] at h1
 | _::_,_::_,[],_,h2=>by simp [Gm] at h2
 | x::xs,y::ys,z::zs,h1,h2=>by
  unfold Gm at h1 h2 ⊢
  rcases Vt x y with e1|e1|e1
  ·rcases Vt y z with e2|e2|e2
   ·rw[if_pos (Aez e1 e2)];exact⟨by decide,λ_=>by decide⟩
   ·subst e2;rw[if_pos e1];exact⟨by decide,λ_=>by decide⟩
   ·rw[if_neg (N6 e2),if_pos e2] at h2;exact absurd h2 (by decide)
  ·subst e1
   rw[if_neg (yZ x),if_neg (yZ x)] at h1 ⊢
   rcases Vt x z with e2|e2|e2
   ·rw[if_pos e2];exact⟨by decide,λ_=>by decide⟩
   ·subst e2
    simp only[yZ,if_false] at h2 ⊢
    exact Of h1 h2
   ·rw[if_neg (N6 e2),if_pos e2] at h2;exact absurd h2 (by decide)
  ·rw[if_neg (N6 e1),if_pos e1] at h1;exact absurd h1 (by decide)
theorem Acr {a b:List UInt8}:0<=Gm a b↔Gm b a<=0:=by rw[Uo a b];omega
open Go.Sort
def Aw5 {α:Type} (kf:α->List UInt8) (x:α):List α->List α
 | []=>[x]
 | y::l=>if Gm (kf x) (kf y)<0 then x::y::l else y::Aw5 kf x l
def Afj {α:Type} (kf:α->List UInt8):List α->List α
 | []=>[]
 | x::l=>Aw5 kf x (Afj kf l)
def Vq {α:Type} (kf:α->List UInt8) (l:List α):Prop:=l.Pairwise (λa b=>Gm (kf a) (kf b)<0)
def Qz {α:Type} (kf:α->List UInt8) (l:List α):Prop:=l.Pairwise (λa b=>kf a≠kf b)
section
variable {α:Type} {kf:α->List UInt8}
theorem Acx (x:α):∀ l:List α,(Aw5 kf x l).Perm (x::l)
 | []=>List.Perm.refl _
 | y::l=>by
  unfold Aw5
  split
  ·exact List.Perm.refl _
  ·exact((Acx x l).cons y).trans (List.Perm.swap x y l)
theorem Nr:∀ l:List α,(Afj kf l).Perm l
 | []=>List.Perm.refl _
 | x::l=>(Acx x (Afj kf l)).trans ((Nr l).cons x)
theorem Ag9 {x:α}:∀ {l:List α},Vq kf l->(∀ y∈l,kf x≠kf y)->Vq kf (Aw5 kf x l)
 | [],_,_=>wG _ _
 | y::l,h,hd=>by
  obtain⟨h1,h2⟩:=wH.1 h
  unfold Aw5
  split
  ·rename_i hlt
   refine wH.2 ⟨λz hz=>?_,h⟩
   rcases yM.1 hz with rfl|hz
   ·exact hlt
   ·exact(Of (by omega) (kP (h1 z hz))).2 (.inl hlt)
  ·rename_i hge
   refine wH.2 ⟨λz hz=>?_,Ag9 h2 λz hz=>hd z (yT _ hz)⟩
   rcases yM.1 ((Acx x l).mem_iff.1 hz) with rfl|hz
   ·have h3:=Acr.1 (show 0<=Gm (kf z) (kf y) by omega)
    rcases Int.lt_or_eq_of_le h3 with h|h
    ·exact h
    ·exact absurd (Ua h).symm (hd y (yV ..))
   ·exact h1 z hz
theorem Qz.perm {a b:List α} (h:a.Perm b):Qz kf a↔Qz kf b:=h.pairwise_iff λh=>Ne.symm h
theorem V3:∀ {l:List α},Qz kf l->Vq kf (Afj kf l)
 | [],_=>List.Pairwise.nil
 | x::l,h=>by
  obtain⟨h1,h2⟩:=wH.1 h
  exact Ag9 (V3 h2) λy hy=>h1 y ((Nr l).mem_iff.1 hy)
theorem Vq.dist {l:List α} (h:Vq kf l):Qz kf l:=h.imp λh e=>by rw[e,Rl] at h;exact absurd h (by decide)
theorem Ae4 {a b:List α} (ha:Vq kf a) (hb:Vq kf b) (h:a.Perm b):a=b :=
 List.Perm.eq_of_pairwise (le:=λa b=>Gm (kf a) (kf b)<0) (λa b _ _ h1 h2=>by rw[Uo] at h2;omega) ha hb h
theorem Asf {l:List α} {x:α}:x∈Afj kf l↔x∈l:=(Nr l).mem_iff
theorem Ami {a b:List α} (h:a.Perm b) (hd:Qz kf a):Afj kf a=Afj kf b:=Ae4 (V3 hd) (V3 ((Qz.perm h).1 hd)) (((Nr a).trans h).trans (Nr b).symm)
theorem A6f:SWO (Go.Proofs.ltOf λa b:α=>Gm (kf a) (kf b)):=by
 refine⟨λx=>?_,λx y z h1 h2=>?_,λx y z h1 h2=>?_⟩
 ·unfold Go.Proofs.ltOf;rw[decide_eq_false_iff_not];dsimp only;rw[Rl];decide
 ·unfold Go.Proofs.ltOf at *
  dsimp only at *
  rw[decide_eq_true_eq] at *
  exact(Of (kP h1) (kP h2)).2 (.inl h1)
 ·unfold Go.Proofs.ltOf at *
  dsimp only at *
  rw[decide_eq_false_iff_not] at *
  have h3:=Acr.1 (show 0<=Gm (kf x) (kf y) by omega)
  have h4:=Acr.1 (show 0<=Gm (kf y) (kf z) by omega)
  have:=Acr.2 (Of h4 h3).1
  omega
theorem Alv {xs:List α} (hd:Qz kf xs) (zs:List α) (hp:zs.Perm xs) (hs:zs.Pairwise (λa b=>Go.Proofs.ltOf (λa b:α=>Gm (kf a) (kf b)) b a=false)):zs=Afj kf xs:=by
 have hdz:Qz kf zs:=(Qz.perm hp).2 hd
 refine Ae4 ?_ (V3 hd) (hp.trans (Nr xs).symm)
 refine(List.Pairwise.and hs hdz).imp λ⟨h1,h2⟩=>?_
 unfold Go.Proofs.ltOf at h1
 rw[decide_eq_false_iff_not] at h1
 have h3:=Acr.1 (Int.not_lt.1 h1)
 rcases Int.lt_or_eq_of_le h3 with h|h
 ·exact h
 ·exact absurd (Ua h) h2
def Uq (kf:α->List UInt8) (t:List α) (x:α):List α:=x::t.filter (λy=>!(kf y==kf x))
def Ae5 (kf:α->List UInt8) (t:List α) (k:List UInt8):List α:=t.filter (λy=>!(kf y==k))
theorem Apr {t:List α} (hd:Qz kf t) {j:Nat} {k:List UInt8} (hj:(t.map kf)[j]? = some k):t.filter (λy=>!(kf y==k))=t.eraseIdx j:=by
 induction t generalizing j with
 | nil=>simp at hj
 | cons y l ih =>
  obtain⟨h1,h2⟩:=wH.1 hd
  cases j with
  | zero =>
   have hk:kf y=k:=by simpa using hj
   rw[kU,if_neg (by simp [hk]),List.eraseIdx_cons_zero,List.filter_eq_self]
   intro z hz
   have:=h1 z hz
   rw[hk] at this
   simp [Ne.symm this]
  | succ j =>
   rw[wB,kV] at hj
   have hm:k∈l.map kf:=zJ hj
   obtain⟨z,hz,hzk⟩:=yN.1 hm
   have hne:kf y≠k:=by rw[<- hzk];exact h1 z hz
   rw[kU,if_pos (by simp [hne]),ih h2 hj,List.eraseIdx_cons_succ]
theorem Acj {t:List α} {k:List UInt8} (hk:k∉t.map kf):t.filter (λy=>!(kf y==k))=t:=by
 rw[List.filter_eq_self]
 intro y hy
 have:kf y≠k:=λe=>hk (yN.2 ⟨y,hy,e⟩)
 simp [this]
theorem Asz {t:List α} {j:Nat} (x:α) (hj:j<t.length):(t.set j x).Perm (x::t.eraseIdx j):=by
 rw[kT,if_pos hj,List.eraseIdx_eq_take_drop_succ]
 exact List.perm_middle
theorem Aew {t t':List α} (hp:t'.Perm t) (hd:Qz kf t') {j:Nat} {x:α} (hj:(t'.map kf)[j]? = some (kf x)):(t'.set j x).Perm (Uq kf t x)/\(t'.set j x).map kf=t'.map kf/\Qz kf (t'.set j x):=by
 have hlt:j<t'.length:=by simpa using(zC.1 hj).1
 have e:(t'.set j x).map kf=t'.map kf:=by
  rw[kH]
  apply xY
  intro i
  rw[w7]
  by_cases h:j=i
  ·subst h;rw[if_pos rfl,if_pos (by simpa using hlt),hj]
  ·rw[if_neg h]
 refine⟨(Asz x hlt).trans ?_,e,?_⟩
 ·unfold Uq
  rw[<- Apr hd hj]
  exact(hp.filter _).cons x
 ·unfold Qz at *
  have:=(wF (f:=kf) (R:=(·≠·)) (l:=t')).2 hd
  rw[<- e] at this
  exact wF.1 this
theorem All {t t':List α} (hp:t'.Perm t) (hd:Qz kf t') {x:α} (hx:kf x∉t'.map kf):(t'++[x]).Perm (Uq kf t x)/\Qz kf (t'++[x]):=by
 have hx':kf x∉t.map kf:=λh=>hx ((hp.map kf).mem_iff.2 h)
 refine⟨?_,?_⟩
 ·unfold Uq
  rw[Acj hx']
  exact(List.perm_append_comm.trans (List.Perm.refl _)).trans (hp.cons x)
 ·refine wS.2 ⟨hd,wG _ _,λa ha b hb=>?_⟩
  rw[zV.1 hb]
  exact λe=>hx (yN.2 ⟨a,ha,e⟩)
theorem Awq {t t':List α} (hp:t'.Perm t) (hd:Qz kf t') {j:Nat} {k:List UInt8} (hj:(t'.map kf)[j]? = some k):(t'.eraseIdx j).Perm (Ae5 kf t k)/\Qz kf (t'.eraseIdx j):=by
 refine⟨?_,hd.sublist (List.eraseIdx_sublist ..)⟩
 unfold Ae5
 rw[<- Apr hd hj]
 exact hp.filter _
theorem Aqx {t t':List α} (hp:t'.Perm t) {k:List UInt8} (hk:k∉t'.map kf):t'.Perm (Ae5 kf t k):=by
 unfold Ae5
 rw[Acj λh=>hk ((hp.map kf).mem_iff.2 h)]
 exact hp
end
theorem Aq5 {α:Type} (l:List α):(List.range l.length).filterMap (l[·]?)=l:=by
 have key:∀ n,n<=l.length->(List.range n).filterMap (l[·]?)=l.take n:=λn=>by
  induction n with
  | zero=>intro _;simp
  | succ n ih =>
   intro h
   rw[List.range_succ,List.filterMap_append,ih (by omega),zM (by omega)]
   simp [zB (show n<l.length by omega)]
 rw[key _ (zN _),yF]
theorem Alz {α:Type} {l:List α} {ps:List Nat} (hn:ps.Nodup) (hl:∀ j∈ps,j<l.length) (ha:∀ j,j<l.length->j∈ps):(ps.filterMap (l[·]?)).Perm l:=by
 have hp:ps.Perm (List.range l.length):=(List.perm_ext_iff_of_nodup hn List.nodup_range).2 λj=>⟨λh=>wW.2 (hl j h),λh=>ha j (wW.1 h)⟩
 have:=hp.filterMap (l[·]?)
 rwa [Aq5] at this
theorem Avl {es:Array MapEntry} (hn:(es.toList.map (·.born)).Nodup) {i j:Nat} {e e':MapEntry} (hi:es[i]? = some e') (hj:es[j]? = some e):(e'.born=e.born\/i∈([]:List Nat))↔i=j:=by
 have hi':es.toList[i]? = some e':=by rw[xV];exact hi
 have hj':es.toList[j]? = some e:=by rw[xV];exact hj
 constructor
 ·rintro(h|h)
  ·have h1:=(zC.1 hi').1
   have h2:=(zC.1 hj').1
   rcases kI i j with hlt|heq|hgt
   ·exact absurd (by rw[wK,wK,(zC.1 hi').2,(zC.1 hj').2];exact h) ((yI.1 hn) i j (by simpa using h1) (by simpa using h2) hlt)
   ·exact heq
   ·exact absurd (by rw[wK,wK,(zC.1 hi').2,(zC.1 hj').2];exact h.symm) ((yI.1 hn) j i (by simpa using h2) (by simpa using h1) hgt)
  ·simp at h
 ·rintro rfl
  rw[hi'] at hj'
  cases hj'
  exact .inl rfl
open Go.RowKit Go.MapKept
open Go.ChangeMaps (setBlock)
theorem Anf (H:Nat->Value) (p:Nat):Ud H p (H p)=H:=by
 funext q
 by_cases h:q=p
 ·subst h;rw[Cj]
 ·rw[C8 _ _ h]
theorem Tz {α β:Type} (f:α->β):∀ {l:List α},(l.map f).Nodup->l.Nodup
 | [],_=>kF
 | x::l,h=>by
  rw[wB,xW] at h
  exact xW.2 ⟨λhx=>h.1 (yN.2 ⟨x,hx,rfl⟩),Tz f h.2⟩
theorem Rel.retab {c:Ctx} {t:Nat->AV} {m:List Blk} {a:Act} {w:World} {S:Cq} {H:Nat->Value} (r:Rel c ⟨t,m⟩ a w S H) {p g:Nat} {b b':Blk} {mk:List (List Value)->Obj->Prop} {cs:List (List Lf)}
  (hm:m[p]? = some b) (hbb:b=.obj g mk cs\/b=.tab mk cs) (hbb':b'=.obj g mk cs\/b'=.tab mk cs) (hH:H p=.pointer (some ⟨g,0,none⟩)):Rel c ⟨t,m.set p b'⟩ a w S H:=by
 have hp:p<m.length:=(zC.1 hm).1
 have hob:b.own (H p)=some g:=by rcases hbb with rfl|rfl <;> rw[hH] <;> rfl
 have hlo:=r.lo p _ g hm hob
 have hbl:=r.bl p _ hm
 have hcont:∃ vs o,w.heap[g]? = some o/\Alx o=true/\mk vs o/\Aqp (Rep w S) cs vs:=by
  rcases hbb with rfl|rfl
  ·obtain⟨_,h⟩:=hbl;exact h
  ·obtain⟨g',h1,h⟩:=hbl
   rw[hH] at h1;cases h1
   exact h
 have hst:b'.stab=0:=by rcases hbb' with rfl|rfl <;> rfl
 have hst0:b.stab=0:=by rcases hbb with rfl|rfl <;> rfl
 have:=r.change (m':=m.set p b') (b':=b') (v:=H p) (w':=w) (S':=S) (by simp) (by rw[zQ hp]) (λq hq=>by rw[zZ (Ne.symm hq)]) (λb i hs=>⟨hs,rfl⟩) (λ_ _ _=>rfl) (λe sz k cs _ h=>by rcases hbb' with rfl|rfl <;> cases h)
  (λg' _ hg'=>rfl) (by rcases hbb' with rfl|rfl;exact⟨hH,hcont⟩;exact⟨g,hH,hcont⟩) (λg' hg'=>?_) (λq b g i _ _ _ h=>h) (λg i _ _ h=>h) r.sl.two (zN _) rfl rfl rfl (λh=>by rcases h with h|h <;> rcases hbb' with rfl|rfl <;> cases h)
 ·rw[Anf] at this
  exact this
 ·have hg2:g=g':=by
   have:b'.own (H p)=some g:=by rcases hbb' with rfl|rfl <;> rw[hH] <;> rfl
   rw[this] at hg'
   exact zD hg'
  subst hg2
  exact⟨hlo.1,hlo.2,λq b2 hq hb ho'=>hq (r.inj q p b2 _ g hb hm ho' hob),λi hi=>absurd (r.sb p _ g i hm hob hi) (by rw[hst0];exact zR _)⟩
theorem Rel.toTab {c:Ctx} {t:Nat->AV} {m:List Blk} {a:Act} {w:World} {S:Cq} {H:Nat->Value} (r:Rel c ⟨t,m⟩ a w S H) {p g:Nat} {mk:List (List Value)->Obj->Prop} {cs:List (List Lf)} (hm:m[p]? = some (.obj g mk cs)):Rel c ⟨t,m.set p (.tab mk cs)⟩ a w S H :=
 r.retab hm (.inl rfl) (.inr rfl) (r.bl p _ hm).1
theorem Rel.ofTab {c:Ctx} {t:Nat->AV} {m:List Blk} {a:Act} {w:World} {S:Cq} {H:Nat->Value} (r:Rel c ⟨t,m⟩ a w S H) {p:Nat} {mk:List (List Value)->Obj->Prop} {cs:List (List Lf)} (hm:m[p]? = some (.tab mk cs)):∃ g,H p=.pointer (some ⟨g,0,none⟩)/\Rel c ⟨t,m.set p (.obj g mk cs)⟩ a w S H:=by
 obtain⟨g,h1,_⟩:=r.bl p _ hm
 exact⟨g,h1,r.retab hm (.inr rfl) (.inl rfl) h1⟩
def Ane:Lf->Value
 | .i k n=>.int k n
 | .b x=>.bool x
 | .s x=>.string x
 | _=>undef
def Vs (l:List Lf):Value:=.agg (l.map Ane).toArray
theorem Au0 {w:World} {S:Cq} {m:List Blk} {H:Nat->Value} {l:Lf} {v:Value} (h:Ct w S m H l v) (ht:l.tag<3):v=Ane l:=by
 cases l <;> simp [Lf.tag] at ht
 ·exact U3 h
 ·exact X6 h
 ·exact Amf h
theorem As5 {w:World} {S:Cq} {m:List Blk} {H:Nat->Value} {ls:List Lf} {vs:List Value} (h:LsR (Ct w S m H) ls vs) (ht:∀ l∈ls,l.tag<3):vs=ls.map Ane:=by
 apply xY
 intro j
 rw[zP]
 rcases zO j ls.length with hj|hj
 ·have hv:j<vs.length:=by rw[<- h.1];exact hj
  rw[zB hj,zB hv]
  exact congrArg some (Au0 (h.2 j _ _ (zB hj) (zB hv)) (ht _ (yY hj)))
 ·rw[yG hj,yG (by rw[<- h.1];exact hj)];rfl
theorem Ag1 {w:World} {S:Cq} {m:List Blk} {H:Nat->Value} {l:Lf} (ht:l.tag<3):Ct w S m H l (Ane l):=by
 cases l <;> simp [Lf.tag] at ht
 ·exact .i _ _
 ·exact .b _
 ·exact .s _
section
variable {P:Program} {kt:TypeId} {n:List Nat}
theorem Yu {w:World} {em:Bool} {d:Nat} {xs:Array Value}:∀ (fs:List Field) (i:Nat) (n:List Nat),Alu P i fs n=true->(∀ k∈n,k<3)->(∀ j,j<n.length->∃ v,xs[i+j]? = some v) ->
  (forIn fs PUnit.unit (fun f (_ : PUnit) => if f.name ≠ "_" then (do
       let v <- part f.type xs f.offset
       Instr.checkKey em (d+1) f.type v
       pure (ForInStep.yield PUnit.unit):Sem (ForInStep PUnit))
      else pure (ForInStep.yield PUnit.unit))).run P w=.ok PUnit.unit w
 | [],_,_,_,_,_=>by simp
 | f::fs,i,[],h,_,_=>by cases h
 | f::fs,i,k::ks,h,ht,hx=>by
  simp only[Alu,yD,bne_iff_ne,ne_eq,beq_iff_eq] at h
  obtain⟨⟨⟨h1,h2⟩,h3⟩,h4⟩:=h
  obtain⟨v,hv⟩:=hx 0 (by simp)
  have hk:=ht k (yV ..)
  have ht4:Aau (P.underlying f.type)<4:=by rw[h3];omega
  have hc:(Instr.checkKey em (d+1) f.type v).run P w=.ok () w:=by
   cases hu:P.underlying f.type with
   | none=>rw[hu] at ht4;simp [Aau] at ht4
   | some dd =>
    rw[hu] at h3 ht4
    cases dd <;> simp [Aau] at ht4 <;> simp [Instr.checkKey,run_underlying hu]
  have ih:=Yu (w:=w) (em:=em) (d:=d) fs (i+1) ks h4 (λx hx=>ht x (yT _ hx)) (λj hj=>by
   obtain⟨v,hv⟩:=hx (j+1) (by simpa using hj)
   exact⟨v,by rw[show i+1+j=i+(j+1) by omega];exact hv⟩)
  rw[kG] at hv
  rw[List.forIn_cons]
  simp only[Sem.run_bind,h2,h1,ne_eq,not_false_eq_true,if_true,Acy ht4 hv,Result.andThen_ok,hc,Sem.run_pure]
  exact ih
theorem Wp {w:World} {em:Bool} {ls:List Lf} (et:EqT P kt n) (hn:ls.map Lf.tag=n) (ht:∀ l∈ls,l.tag<3):(Instr.checkKey em 10000 kt (Vs ls)).run P w=.ok () w:=by
 show(Instr.checkKey em (9998+1+1) kt (.agg _)).run P w=_
 rw[Instr.checkKey]
 simp only[Sem.run_bind,run_underlying et.u,Result.andThen_ok]
 rw[<- Array.forIn_toList]
 have:=Yu (w:=w) (em:=em) (d:=9998) (xs:=(ls.map Ane).toArray) _ 0 n et.f (λk hk=>by
  rw[<- hn] at hk
  obtain⟨l,hl,rfl⟩:=yN.1 hk
  exact ht l hl) (λj hj=>by
  have hl:j<ls.length:=by rw[<- hn] at hj;simpa using hj
  exact⟨Ane ls[j],by simp [hl]⟩)
 rw[this]
 simp
structure Aie (κ:Type) [DecidableEq κ] (P:Program) (kt:TypeId) (e:κ->List Lf) (n:List Nat):Prop where
 et:EqT P kt n
 tag:∀ k,(e k).map Lf.tag=n
 low:∀ x∈n,x<3
 eq:∀ k k',Atw (e k) (e k')=some (decide (k=k'))
variable {κ:Type} [DecidableEq κ] {e:κ->List Lf}
theorem Aie.lt (h:Aie κ P kt e n) (k:κ):∀ l∈e k,l.tag<3:=λl hl=>h.low _ (by rw[<- h.tag k];exact yN.2 ⟨l,hl,rfl⟩)
theorem Aie.equal (h:Aie κ P kt e n) (w:World) (k k':κ):(Op.equal kt (Vs (e k)) (Vs (e k'))).run P w=.ok (decide (k=k')) w:=by
 show(Op.equalIn (9999+1) kt (.agg _) (.agg _)).run P w=_
 rw[run_equalIn_struct w 9999 kt _ _ h.et.u h.et.h]
 refine Vf (d:=9998) (S:=λ_ _=>False) (m:=[]) (H:=λ_=>undef) _ 0 (e k) (e k') _ (by rw[h.tag];exact h.et.f) ((h.tag k).trans (h.tag k').symm) (h.eq k k') (λj l hl=>?_) (λj l hl=>?_)
 ·exact⟨Ane l,by simp [hl],Ag1 (h.lt k l (zJ hl))⟩
 ·exact⟨Ane l,by simp [hl],Ag1 (h.lt k' l (zJ hl))⟩
theorem Aie.inj (h:Aie κ P kt e n) {k k':κ} (hk:Vs (e k)=Vs (e k')):k=k':=by
 have h1:=h.equal default k k'
 rw[hk,h.equal default k' k'] at h1
 have:decide (k'=k')=decide (k=k'):=by injection h1
 rw[decide_eq_true rfl] at this
 exact of_decide_eq_true this.symm
theorem Aie.asking (h:Aie κ P kt e n) (w:World) (k:κ):∀ (es:List MapEntry) (ks:List κ) (i:Nat),es.map (·.key)=ks.map (λk=>Vs (e k)) ->
  ((Instr.findAsking kt (Vs (e k)) es i).run P w=.ok none w/\k∉ks)\/∃ j x,(Instr.findAsking kt (Vs (e k)) es i).run P w=.ok (some (i+j,x.val)) w/\es[j]? = some x/\ks[j]? = some k
 | [],[],i,_=>.inl ⟨by simp [Instr.findAsking],by simp⟩
 | [],_::_,i,h=>by cases h
 | _::_,[],i,h=>by cases h
 | x::es,k'::ks,i,hk=>by
  simp only[wB,List.cons.injEq] at hk
  obtain⟨hk1,hk2⟩:=hk
  by_cases hkk:k=k'
  ·subst hkk
   refine .inr ⟨0,x,?_,rfl,rfl⟩
   simp [Instr.findAsking,hk1,h.equal]
  ·rcases h.asking w k es ks (i+1) hk2 with⟨h1,h2⟩|⟨j,y,h1,h2,h3⟩
   ·refine .inl ⟨by simp [Instr.findAsking,hk1,h.equal,hkk,h1],?_⟩
    rw[yM];rintro(h|h);exact hkk h;exact h2 h
   ·refine .inr ⟨j+1,y,?_,by simpa using h2,by simpa using h3⟩
    simp [Instr.findAsking,hk1,h.equal,hkk,h1,jF,j1 1 j]
theorem Aie.find (h:Aie κ P kt e n) (w:World) (k:κ) {es:List MapEntry} {ks:List κ} (hk:es.map (·.key)=ks.map (λk=>Vs (e k))) :
  ((Instr.findKey kt (Vs (e k)) es).run P w=.ok none w/\k∉ks)\/∃ j x,(Instr.findKey kt (Vs (e k)) es).run P w=.ok (some (j,x.val)) w/\es[j]? = some x/\ks[j]? = some k:=by
 have hf:(Instr.findKey kt (Vs (e k)) es).run P w=(Instr.findAsking kt (Vs (e k)) es).run P w:=by
  cases es with
  | nil=>simp [Instr.findKey,run_underlying h.et.u,Result.andThen,Instr.findNow,Instr.findAsking]
  | cons x es =>
   have:Instr.findNow (.struct (P.fieldsOf kt)) (Vs (e k)) (x::es) 0=none:=by simp [Instr.findNow,Instr.sameNow]
   simp [Instr.findKey,run_underlying h.et.u,Result.andThen,this]
 rw[hf]
 rcases h.asking w k es ks 0 hk with h|⟨j,x,h1,h2,h3⟩
 ·exact .inl h
 ·rw[yE] at h1
  exact .inr ⟨j,x,h1,h2,h3⟩
theorem Afh (l:Lf) (h:l.tag<3) (d:Nat):Instr.sameBits d (Ane l) (Ane l)=true:=by
 cases l <;> simp [Lf.tag] at h <;> cases d <;> simp [Ane,Instr.sameBits] <;> exact(bytes_beq _ _).2 rfl
theorem Aie.stays (h:Aie κ P kt e n) (w:World) (k:κ):(Instr.keyThatStays (Vs (e k)) (Vs (e k))).run P w=.ok (Vs (e k)) w:=by
 have hs:Instr.sameBits 10000 (Vs (e k)) (Vs (e k))=true:=by
  show Instr.sameBits (9999+1) (.agg _) (.agg _)=true
  simp only[Instr.sameBits,beq_self_eq_true,wM,zI]
  intro p hp
  obtain⟨i,hi,hpe⟩:=yS hp
  rw[List.getElem_zip] at hpe
  rw[<- hpe]
  simp only[wK]
  exact Afh _ (h.lt k _ (yY _)) 9999
 simp [Instr.keyThatStays,hs]
end
section
variable {κ:Type} [DecidableEq κ]
def Yc (M:List (κ×Int)) (k:κ) (i:Int):List (κ×Int):=if M.any (λx=>decide (x.1=k)) then M.map (λx=>if x.1=k then(x.1,i) else x) else M++[(k,i)]
def Agh (M:List (κ×Int)) (k:κ):Bool:=M.any (λx=>decide (x.1=k))
def Amp (M:List (κ×Int)) (k:κ):Int:=match M.find? (λx=>decide (x.1=k)) with|some x=>x.2|none=>0
def R0 (e:κ->List Lf) (M:List (κ×Int)):List Value:=(M.map (·.1)).map (λk=>Vs (e k))
def Ka (M:List (κ×Int)):List (List Lf):=M.map λx=>[.i .i64 x.2]
abbrev Xb (e:κ->List Lf) (M:List (κ×Int)):Blk:=.tab (Ni Aiq (R0 e M)) (Ka M)
theorem Uu {M:List (κ×Int)} {k:κ}:Agh M k=true↔k∈M.map (·.1):=by
 unfold Agh
 rw[w4,yN]
 constructor
 ·rintro⟨x,h1,h2⟩;exact⟨x,h1,of_decide_eq_true h2⟩
 ·rintro⟨x,h1,h2⟩;exact⟨x,h1,decide_eq_true h2⟩
theorem Agb {M:List (κ×Int)} {k:κ} {i:Int} (h:k∉M.map (·.1)):Yc M k i=M++[(k,i)]:=by
 unfold Yc
 rw[if_neg]
 intro hh
 exact h (Uu.1 hh)
theorem Aq4 {M:List (κ×Int)} {k:κ} {i:Int} {j:Nat} (hd:(M.map (·.1)).Nodup) (hj:(M.map (·.1))[j]? = some k):Yc M k i=M.set j (k,i):=by
 have hj':=zC.1 hj
 obtain⟨hlt,hk⟩:=hj'
 have hlt':j<M.length:=by simpa using hlt
 rw[wK] at hk
 unfold Yc
 rw[if_pos (show(M.any λx=>decide (x.1=k))=true from Uu.2 (zJ hj))]
 apply List.ext_getElem (by simp)
 intro q h1 h2
 rw[wK,List.getElem_set]
 by_cases hq:j=q
 ·subst hq;rw[if_pos rfl,if_pos hk,hk]
 ·rw[if_neg hq,if_neg]
  intro he
  have h3:q<M.length:=by simpa using h2
  have h4:q<(M.map (·.1)).length:=by simpa using h3
  rcases kI j q with h5|h5|h5
  ·exact(yI.1 hd) j q hlt h4 h5 (by rw[wK,wK,hk];exact he.symm)
  ·exact hq h5
  ·exact(yI.1 hd) q j h4 hlt h5 (by rw[wK,wK,hk];exact he)
theorem As7 {M:List (κ×Int)} {k:κ} {j:Nat} (hd:(M.map (·.1)).Nodup) (hj:(M.map (·.1))[j]? = some k):∃ x,M[j]? = some x/\Amp M k=x.2:=by
 induction M generalizing j with
 | nil=>simp at hj
 | cons y M ih =>
  rw[wB,xW] at hd
  cases j with
  | zero =>
   have:y.1=k:=by simpa using hj
   refine⟨y,rfl,?_⟩
   unfold Amp
   rw[jM,decide_eq_true this]
  | succ j =>
   have hj':(M.map (·.1))[j]? = some k:=by simpa using hj
   obtain⟨x,h1,h2⟩:=ih hd.2 hj'
   refine⟨x,by simpa using h1,?_⟩
   have hne:y.1≠k:=λhe=>hd.1 (by rw[he];exact zJ hj')
   unfold Amp at h2 ⊢
   rw[jM,decide_eq_false hne]
   exact h2
theorem Asj {M:List (κ×Int)} {k:κ} (h:k∉M.map (·.1)):Amp M k=0:=by
 unfold Amp
 rw[kQ.2 λx hx=>by
  intro hh
  exact h (yN.2 ⟨x,hx,of_decide_eq_true hh⟩)]
end
section
variable {P:Program} {c:Ctx} {ops:Array Oper} {Q:Exit->AS->Prop} {rest:List Oper} {ty:TypeId} {pos:String} {af:Array Edge} {d:Tmp} {t:Nat->AV} {m:List Blk}
variable {κ:Type} [DecidableEq κ] {e:κ->List Lf} {n:List Nat} {kt:TypeId}
omit [DecidableEq κ] in
theorem Asp {tm:TypeId} (e:κ->List Lf) (hd:decide (d<c.nt)=true)
  (k:AWL P c ops Q rest ⟨upd t d (.s (.one (.mp 0 m.length))),m++[Xb e []]⟩):AWL P c ops Q (⟨some d,.makeMap tm none,ty,pos,af,none⟩::rest) ⟨t,m⟩:=by
 intro a w S H r
 refine wpList_plain rfl λK hK=>?_
 unfold Oper.wp
 have hrun:(execOp a.eval ⟨some d,.makeMap tm none,ty,pos,af,none⟩).run P w=.ok (.value (.map (some w.heap.size))) (w.alloc (.map #[] 0)):=by
  simp [execOp,Instr.makeMap]
 rw[hrun]
 have r1:=r.newObj (o:=.map #[] 0) (mk:=Ni Aiq (R0 e [])) (vss:=[]) (css:=[]) rfl ⟨#[],0,rfl,stamped_empty 0,rfl,rfl⟩ ⟨rfl,λj cs vs h=>by simp at h⟩
 have r2:=r1.toTab (p:=m.length) (g:=w.heap.size) (mk:=Ni Aiq (R0 e [])) (cs:=[]) (by simp)
 have e2:(m++[Blk.obj w.heap.size (Ni Aiq (R0 e [])) []]).set m.length (.tab (Ni Aiq (R0 e [])) [])=m++[Xb e []]:=by simp [Ka]
 rw[e2] at r2
 exact hK _ _ (k _ _ _ _ (r2.put (d:=d) (x:=.s (.one (.mp 0 m.length))) (of_decide_eq_true hd) ⟨by simp,w.heap.size,Cj _ _ _,rfl⟩))
theorem Ael {st:AS} {a:Act} {w:World} {S:Cq} {H:Nat->Value} (r:Rel c st a w S H) {x:Operand} {k p g:Nat} (hx:C6 st x=.s (.one (.mp k p))) (hH:H p=.pointer (some ⟨g,0,none⟩)):a.eval x=Aaq k g:=by
 have h:=B1 r x
 rw[hx] at h
 obtain⟨_,g',h1,h2⟩:=h
 rw[hH] at h1;cases h1
 exact h2
theorem Alh (K:Aie κ P kt e n) {st:AS} {a:Act} {w:World} {S:Cq} {H:Nat->Value} (r:Rel c st a w S H) {y:Operand} {k:κ} (hy:C6 st y=.s (.agg (e k))):a.eval y=Vs (e k):=by
 have h:=B1 r y
 rw[hy] at h
 obtain⟨vs,h1,h2⟩:=h
 rw[h1]
 unfold Vs
 rw[<- As5 h2 (K.lt k)]
theorem Awj {tm et:TypeId} (K:Aie κ P kt e n) {x y z:Operand} {p:Nat} {M:List (κ×Int)} {k:κ} {i:Int} (hu:P.underlying tm=some (.map kt et))
  (hx:C6 ⟨t,m⟩ x=.s (.one (.mp 0 p))) (hy:C6 ⟨t,m⟩ y=.s (.agg (e k))) (hz:C6 ⟨t,m⟩ z=.s (.one (.i .i64 i))) (hm:m[p]? = some (Xb e M))
  (kk:AWL P c ops Q rest ⟨t,m.set p (Xb e (Yc M k i))⟩) :
  AWL P c ops Q (⟨none,.mapUpdate tm x y z,ty,pos,af,none⟩::rest) ⟨t,m⟩:=by
 intro a w S H r0
 have ey0:=Alh K r0 hy
 obtain⟨g,hH,r⟩:=r0.ofTab hm
 have hp:p<m.length:=(zC.1 hm).1
 have ex:=Ael r0 hx hH
 have ez:a.eval z=.int .i64 i:=by
  have h:=B1 r0 z
  rw[hz] at h
  exact U3 h
 have hmo:(m.set p (Blk.obj g (Ni Aiq (R0 e M)) (Ka M)))[p]? = some (.obj g (Ni Aiq (R0 e M)) (Ka M)):=zQ hp
 obtain⟨h1,vss,o,h2,h3,⟨es,clock,rfl,hst,hks,hvs⟩,h5⟩:=r.bl p _ hmo
 have hkeys:es.toList.map (·.key)=(M.map (·.1)).map (λk=>Vs (e k)):=hks
 have hlen:(Ka M).length=vss.length:=h5.1
 have hlM:M.length=vss.length:=by rw[<- hlen];simp [Ka]
 have hesM:es.size=M.length:=by
  have:=congrArg List.length hkeys
  simpa using this
 have hnd:(M.map (·.1)).Nodup:=by
  have h:=hst.2.2
  rw[hkeys] at h
  exact Tz _ h
 have fin:∀ {w':World} {H':Nat->Value} {o:Obj} {M':List (κ×Int)},Rel c ⟨t,(m.set p (Blk.obj g (Ni Aiq (R0 e M)) (Ka M))).set p (.obj g (Ni Aiq (R0 e M')) (Ka M'))⟩ a w' S H'->Rel c ⟨t,m.set p (Xb e M')⟩ a w' S H':=λ{w' H' o M'} r'=>by
  have r'':=r'.toTab (p:=p) (g:=g) (mk:=Ni Aiq (R0 e M')) (cs:=Ka M') (by rw[j2,zQ hp])
  rw[j2,j2] at r''
  exact r''
 refine wpList_plain rfl λKK hK=>?_
 unfold Oper.wp
 rcases K.find w k hkeys with⟨f1,f2⟩|⟨j,x',f1,f2,f3⟩
 ·have hrun:(execOp a.eval ⟨none,.mapUpdate tm x y z,ty,pos,af,none⟩).run P w=.ok .skip (setBlock w g (.map (es.push { key:=Vs (e k),val:=.int .i64 i,born:=clock }) (clock+1))):=by
   simp [execOp,ex,ey0,ez,Aaq,Instr.mapUpdate,run_underlying hu,MapKept.run_getObj_map h2,Wp K.et (K.tag k) (K.lt k),f1,run_setObj_map _ h2,Result.andThen,setBlock]
  rw[hrun]
  have hput:=Agb (i:=i) f2
  have hne:∀ x∈es.toList,x.key≠Vs (e k):=λx hx he=>by
   have:Vs (e k)∈(M.map (·.1)).map (λk=>Vs (e k)):=by rw[<- hkeys,<- he];exact yN.2 ⟨x,hx,rfl⟩
   obtain⟨k',hk',he'⟩:=yN.1 this
   rw[K.inj he'] at hk'
   exact f2 hk'
  obtain⟨H',r',_⟩:=r.setObj (mk':=Ni Aiq (R0 e (Yc M k i))) (css':=Ka (Yc M k i)) (vss:=vss++[[.int .i64 i]]) (o:=.map (es.push { key:=Vs (e k),val:=.int .i64 i,born:=clock }) (clock+1)) hmo rfl
   ⟨_,_,rfl,stamped_push hst hne,by rw[hput];simp [hkeys,R0],by simp [hvs,Aiq]⟩ (by
    rw[hput]
    refine⟨by simp [Ka,hlM],λq cs vs e1 e2=>?_⟩
    rcases zO q M.length with hq|hq
    ·refine h5.2 q cs vs ?_ (by rw[zL (by omega)] at e2;exact e2)
     have:(Ka (M++[(k,i)]))[q]? = (Ka M)[q]? := by unfold Ka;rw[wA,zL (by simpa using hq)]
     rw[<- this];exact e1
    ·rw[yA (by omega),<- hlM] at e2
     have:(Ka (M++[(k,i)]))[q]? = ([[Lf.i .i64 i]]:List (List Lf))[q-M.length]? := by unfold Ka;rw[wA,yA (by simpa using hq)];simp
     rw[this] at e1
     rcases kY (q-M.length) with h0|h0
     ·rw[h0] at e1 e2
      obtain rfl:=zD e1
      obtain rfl:=zD e2
      exact⟨rfl,λj l v a b=>by
       cases j with
       | zero=>obtain rfl:=zD a;obtain rfl:=zD b;exact .i _ _
       | succ j=>simp at a⟩
     ·rw[yG (by rw[z6];omega)] at e1;cases e1)
  exact hK _ _ (kk _ _ _ _ (fin (o:=.map #[] 0) r'))
 ·have hj:j<es.size:=by
   have:=(zC.1 f2).1
   simpa using this
  have hjM:j<M.length:=by omega
  have hkj:x'.key=Vs (e k):=by
   have h6:(es.toList.map (·.key))[j]? = some x'.key:=by rw[zP,f2];rfl
   rw[hkeys,zP,f3] at h6
   exact(zD h6).symm
  have hej:es[j]? = some x':=by rw[<- xV];exact f2
  have hrun:(execOp a.eval ⟨none,.mapUpdate tm x y z,ty,pos,af,none⟩).run P w=.ok .skip (setBlock w g (.map (es.modify j λE=>{ E with key:=Vs (e k),val:=.int .i64 i }) clock)):=by
   simp [execOp,ex,ey0,ez,Aaq,Instr.mapUpdate,run_underlying hu,MapKept.run_getObj_map h2,Wp K.et (K.tag k) (K.lt k),f1,run_setObj_map _ h2,Result.andThen,setBlock,hej,hkj,K.stays]
  rw[hrun]
  have hput:=Aq4 (i:=i) hnd f3
  have hmk:(es.modify j λE=>{ E with key:=Vs (e k),val:=.int .i64 i }).toList.map (·.key)=R0 e (M.set j (k,i)):=by
   rw[jJ,T9 (λE:MapEntry=>{ E with key:=Vs (e k),val:=.int .i64 i }) (λE:MapEntry=>E.key) (λ_=>Vs (e k)) (λ_=>rfl),Ra,hkeys]
   unfold R0
   rw[kH,kH]
  have hmv:(es.modify j λE=>{ E with key:=Vs (e k),val:=.int .i64 i }).toList.map (·.val)=(vss.set j [.int .i64 i]).map Aiq:=by
   rw[jJ,T9 (λE:MapEntry=>{ E with key:=Vs (e k),val:=.int .i64 i }) (λE:MapEntry=>E.val) (λ_=>Value.int .i64 i) (λ_=>rfl),Ra,hvs,kH]
   rfl
  obtain⟨H',r',_⟩:=r.setObj (mk':=Ni Aiq (R0 e (Yc M k i))) (css':=Ka (Yc M k i)) (vss:=vss.set j [.int .i64 i]) (o:=.map (es.modify j λE=>{ E with key:=Vs (e k),val:=.int .i64 i }) clock) hmo rfl
   ⟨_,_,rfl,stamped_modify hst j _ (λ_ _=>rfl) (λe' _ he'=>by rw[hej] at he';cases he';exact hkj.symm),by rw[hput];exact hmk,hmv⟩ (by
    rw[hput]
    refine⟨by simp [Ka,hlM],λq cs vs e1 e2=>?_⟩
    have e1':((Ka M).set j [.i .i64 i])[q]? = some cs:=by rw[<- e1];unfold Ka;rw[kH]
    rw[w7] at e1' e2
    by_cases hq:j=q
    ·subst hq
     rw[if_pos rfl,if_pos (by omega)] at e1' e2
     obtain rfl:=zD e1'
     obtain rfl:=zD e2
     exact⟨rfl,λj l v a b=>by
       cases j with
       | zero=>obtain rfl:=zD a;obtain rfl:=zD b;exact .i _ _
       | succ j=>simp at a⟩
    ·rw[if_neg hq] at e1' e2
     exact h5.2 q cs vs e1' e2)
  exact hK _ _ (kk _ _ _ _ (fin (o:=.map #[] 0) r'))
omit [DecidableEq κ] in
theorem Amr {tm et:TypeId} {x:Operand} {p:Nat} {M:List (κ×Int)} (hu:P.underlying tm=some (.map kt et)) (hx:C6 ⟨t,m⟩ x=.s (.one (.mp 0 p))) (hm:m[p]? = some (Xb e M)) :
  OpV P c ⟨t,m⟩ (.call { callee:=.builtin .len,args:=#[x],argTypes:=#[tm] }) ty (.s (.one (.i .i64 (M.length:Int)))):=by
 intro a w S H r
 obtain⟨g,hH,vss,o,h2,h3,⟨es,clock,rfl,hst,hks,hvs⟩,h5⟩:=r.bl p _ hm
 have ex:=Ael r hx hH
 have hesM:es.size=M.length:=by
  have:=congrArg List.length hks
  simpa [R0] using this
 refine⟨.int .i64 M.length,I1 (.i _ _),λ_ _ _ _=>?_⟩
 simp [execOp,resolve,invoke,builtin,Builtin.len_,run_underlying hu,ex,Aaq,MapKept.run_getObj_map h2,Result.andThen,goInt,hesM]
theorem Amo {tm et:TypeId} (K:Aie κ P kt e n) {x y:Operand} {p:Nat} {M:List (κ×Int)} {k:κ} (hu:P.underlying tm=some (.map kt et)) (zi:(P.info? et).bind (·.zero)=some (.int .i64 0)) (hx:C6 ⟨t,m⟩ x=.s (.one (.mp 0 p))) (hy:C6 ⟨t,m⟩ y=.s (.agg (e k))) (hm:m[p]? = some (Xb e M)) :
  OpV P c ⟨t,m⟩ (.lookup tm x y true) ty (.tup [.one (.i .i64 (Amp M k)),.one (.b (Agh M k))]):=by
 intro a w S H r
 have ey0:=Alh K r hy
 obtain⟨g,hH,vss,o,h2,h3,⟨es,clock,rfl,hst,hks,hvs⟩,h5⟩:=r.bl p _ hm
 have ex:=Ael r hx hH
 have hkeys:es.toList.map (·.key)=(M.map (·.1)).map (λk=>Vs (e k)):=hks
 have hnd:(M.map (·.1)).Nodup:=by
  have h:=hst.2.2
  rw[hkeys] at h
  exact Tz _ h
 have tup:∀ (n:Int) (b:Bool),AVR (Ct w S m H) (.tup [.one (.i .i64 n),.one (.b b)]) (.tuple #[.int .i64 n,.bool b]):=λn b=>⟨_,rfl,rfl,λi x u h1 h2=>by
  match i with
  | 0=>obtain rfl:=zD h1;obtain rfl:=zD h2;exact Ct.of_rep (m:=m) (H:=H) (.i _ _)
  | 1=>obtain rfl:=zD h1;obtain rfl:=zD h2;exact Ct.of_rep (m:=m) (H:=H) (.b _)
  | i+2=>simp at h1⟩
 rcases K.find w k hkeys with⟨f1,f2⟩|⟨j,x',f1,f2,f3⟩
 ·have e1:Agh M k=false:=by
   cases hh:Agh M k with
   | false=>rfl
   | true=>exact absurd (Uu.1 hh) f2
  rw[e1,Asj f2]
  have hz:(zeroValue et).run P w=.ok (.int .i64 0) w:=by
   cases hi:P.info? et with
   | none=>rw[hi] at zi;cases zi
   | some inf =>
    rw[hi] at zi
    have hz0:inf.zero=some (.int .i64 0):=zi
    simp [zeroValue,typeInfo,hi,hz0,Result.andThen]
  refine⟨_,tup 0 false,λ_ _ _ _=>?_⟩
  simp [execOp,ex,ey0,Aaq,Instr.lookup,run_underlying hu,MapKept.run_getObj_map h2,Wp K.et (K.tag k) (K.lt k),f1,Result.andThen,hz]
 ·obtain⟨y',h6,h7⟩:=As7 hnd f3
  have e1:Agh M k=true:=Uu.2 (zJ f3)
  rw[e1,h7]
  have hv:x'.val=.int .i64 y'.2:=by
   have h8:(es.toList.map (·.val))[j]? = some x'.val:=by rw[zP,f2];rfl
   rw[hvs,zP] at h8
   cases hvj:vss[j]? with
   | none=>rw[hvj] at h8;cases h8
   | some vs =>
    rw[hvj] at h8
    have h9:=h5.2 j [.i .i64 y'.2] vs (by unfold Ka;rw[zP,h6];rfl) hvj
    have h10:Aiq vs=x'.val:=zD h8
    rw[<- h10]
    match vs,h9 with
    | [v],h9=>exact U3 (Ct.of_rep (m:=m) (H:=H) (h9.2 0 _ v rfl rfl))
    | [],h9=>have:=h9.1;cases this
    | _::_::_,h9=>have:=h9.1;simp at this
  refine⟨_,tup y'.2 true,λ_ _ _ _=>?_⟩
  simp [execOp,ex,ey0,Aaq,Instr.lookup,run_underlying hu,MapKept.run_getObj_map h2,Wp K.et (K.tag k) (K.lt k),f1,Result.andThen,hv]
theorem Rel.fillTab {c:Ctx} {t:Nat->AV} {m:List Blk} {a:Act} {w w':World} {S S':Cq} {H H':Nat->Value} (r:Rel c ⟨t,m⟩ a w S H) {p:Nat} (hm:m[p]? = some .hole) {mk:List (List Value)->Obj->Prop} {cs:List (List Lf)}
  (hx:Ext w S w' S') (hin:InH w' S') (mem:Mem w' S' [.tab mk cs] H') (hown:∀ g,E4 (H' 0)=some g->w.heap.size<=g) :
  Rel c ⟨t,m.set p (.tab mk cs)⟩ a w' S' (Ud H p (H' 0)):=by
 have hp:p<m.length:=(zC.1 hm).1
 have hH:H p=undef:=r.bl p _ hm
 refine r.changeM (p:=p) (b':=.tab mk cs) (v:=H' 0) (by simp) (zQ hp) (λq hq=>zZ (λe=>hq e.symm)) (hx.keeps r.sl) (λg _ h=>(Abd (hH.symm.trans h)).elim)
  (λe sz k cs _ h he=>by cases he) (λg hg _=>hx.blk g hg) (mem.bl 0 _ rfl) (λg hg=>?_)
  (λq b g i _ hb ho hs=>hx.back g i (r.lo q b g hb ho).2 hs) (λg i hg _ hs=>hx.back g i (zU hg r.ex.size) hs) hin hx.size hx.os hx.tape hx.output
 have hge:=hown g hg
 refine⟨.inl (yO r.ex.size hge),mem.hp 0 _ g rfl hg,λq b _ hb ho=>?_,λi hs=>mem.sb 0 _ g i rfl hg hs⟩
 have:=(r.lo q b g hb ho).2
 omega
theorem Agm {M:List Blk} {callee:Operand} {f:FuncId} {args:Array Operand} {ats:Array TypeId} {xs:List SV} {mk:List (List Value)->Obj->Prop} {cs:List (List Lf)} {kd:Nat} (p:Nat) (hd:decide (d<c.nt)=true) (hf:FnI P f) (hcal:Cal ⟨t,M⟩ callee f [] []) (ho:Zv ⟨t,M⟩ args.toList xs)
  (hc:Dw P f [] xs (λy m'=>y=.s (.one (.mp kd 0))/\m'=[.tab mk cs])) (hpub:xs.all (λx=>x.inbB 0)=true) (hm:M[p]? = some .hole) (hp0:Nat.ble c.m0.length p=true)
  (k:AWL P c ops Q rest ⟨upd t d (.s (.one (.mp kd p))),M.set p (.tab mk cs)⟩):AWL P c ops Q (⟨some d,.call { callee:=.value callee,args:=args,argTypes:=ats },ty,pos,af,none⟩::rest) ⟨t,M⟩:=by
 intro a w S H r
 obtain⟨vs,hvs,hrun⟩:=Abm (pos:=pos) (af:=af) (ty:=ty) (ats:=ats) r hf hcal ho (some d)
 refine wpList_plain rfl λK hK=>?_
 unfold Oper.wp
 rw[hrun]
 have hvs':Zd (Ct w S [] H) xs vs.toList:=by
  have tie:Tie [] M H H (λj=>j):=⟨λp h=>absurd h (zR _),λ_ _=>rfl,λp b h=>by cases h⟩
  have e:xs.map (SV.ren (λj=>j))=xs:=by
   have hl:∀ l:Lf,l.ren0 (λj=>j)=l:=λl=>by cases l <;> rfl
   have hl2:∀ l:Lf,l.ren (λj=>j)=l:=λl=>by
    cases l with
    | fn f a b =>
     show Lf.fn f (a.map _) (b.map _)=_
     rw[show(Lf.ren0 λj=>j)=id from funext hl,kN,kN]
    | _=>rfl
   have hs:∀ x:SV,x.ren (λj=>j)=x:=λx=>by
    cases x with
    | one l=>show SV.one _=_;rw[hl2]
    | agg ls=>show SV.agg _=_;rw[show(Lf.ren λj=>j)=id from funext hl2,kN]
   rw[show(SV.ren λj=>j)=id from funext hs,kN]
  exact tie.svsDown hpub (by rw[e];simpa using hvs)
 refine(hc w S H vs r.sl ⟨λp b h=>by simp at h,λp b g h=>by simp at h,λp q b b' g h=>by simp at h,λp b g i h=>by simp at h⟩ hvs').mono ?_
 rintro e' w' ⟨v,y,m',S',H',rfl,⟨rfl,rfl⟩,ext,hin,mem',hown',_,hav⟩
 have hx:Ext w S w' S':=ext.toExt (λb ⟨q,bb,h,_⟩=>by simp at h)
 have r':=r.fillTab hm hx hin mem' (λg hg=>by
  rcases hown' 0 _ g rfl hg with h|⟨q,bb,h,_⟩
  ·exact h
  ·simp at h)
 have hp:p<M.length:=(zC.1 hm).1
 obtain⟨_,g,hg,hv⟩:=(show F9 w' S' [.tab mk cs] H' (.mp kd 0) v from hav)
 refine hK _ _ (k _ _ _ _ (r'.put (of_decide_eq_true hd) ?_))
 exact⟨by simpa using hp,g,by rw[Cj];exact hg,hv⟩
theorem A6e (a b:List UInt8):((⟨a.toArray⟩:ByteArray).toList==(⟨b.toArray⟩:ByteArray).toList)=decide (a=b):=by
 have h:∀ l:List UInt8,(⟨l.toArray⟩:ByteArray).toList=l:=λl=>by rw[ByteArray.toList_eq]
 rw[h,h]
 by_cases e:a=b
 ·subst e;simp
 ·simp [e]
theorem A6d {α:Type} [BEq α] [LawfulBEq α] [DecidableEq α] (a b:α):(a==b)=decide (a=b):=by
 by_cases h:a=b
 ·subst h;simp
 ·simp [h]
end
open Go.RowKit Go.Shelf Go.Sort
def X5:Int->Value:=Value.int .i64
theorem Aog (xs:List Int):xs.flatMap eI=xs.map λn=>.i .i64 n:=by
 induction xs with
 | nil=>rfl
 | cons x xs ih=>rw[xB,wB,ih];rfl
theorem Av8 {w:World} {S:Cq} {xs:List Int} {vals:List Value} (h:LsR (Rep w S) (xs.flatMap eI) vals):vals=xs.map X5:=by
 rw[Aog] at h
 apply xY
 intro j
 rw[zP]
 rcases zO j xs.length with hj|hj
 ·have hv:j<vals.length:=by rw[<- h.1];simpa using hj
  rw[zB hj,zB hv]
  exact congrArg some (U3 (Ct.of_rep (m:=[]) (H:=λ_=>undef) (h.2 j (.i .i64 xs[j]) vals[j] (by rw[zP,zB hj];rfl) (zB hv))))
 ·rw[yG hj,yG (by rw[<- h.1];simpa using hj)];rfl
theorem Ak7 {w:World} {S:Cq} (xs:List Int):LsR (Rep w S) (xs.flatMap eI) (xs.map X5):=by
 rw[Aog]
 refine⟨by simp,λj l v h1 h2=>?_⟩
 rw[zP] at h1 h2
 cases hx:xs[j]? with
 | none=>rw[hx] at h1;cases h1
 | some x=>rw[hx] at h1 h2;cases h1;cases h2;exact .i _ _
section
variable {w:World} {b n:Nat} {d:Array Int} {os:Array Obj} {cur:Array Value} {e:TypeId}
theorem Apa (hb:w.heap[b]? = some (.cells cur e (0,0))) (hd:d.size<=cur.size):(grow (putRow X5 (Sort.ahead w n) b 0 d) os).heap[b]? = some (.cells (d.toList.map X5++cur.toList.drop d.size).toArray e (0,0)):=by
 have hlt:=(yB.1 hb).1
 have h1:(grow (putRow X5 (Sort.ahead w n) b 0 d) os).heap[b]? = (putRow X5 (Sort.ahead w n) b 0 d).heap[b]? := by
  show((putRow X5 (Sort.ahead w n) b 0 d).heap++os)[b]? = _
  rw[kS (by simp [putRow,Sort.ahead,mapBlock];exact hlt)]
 rw[h1]
 show((Sort.ahead w n).heap.modify b _)[b]? = _
 rw[wO,if_pos rfl]
 show(w.heap[b]?).map _=_
 rw[hb]
 show some (Obj.cells (putCells X5 0 d cur) e (0,0))=_
 congr 2
 apply Array.ext_getElem?
 intro i
 rw[putCells,Array.getElem?_mapIdx]
 simp only[zX,true_and,yE,Nat.sub_zero]
 have hto:(d.toList.map X5++cur.toList.drop d.size).toArray[i]? = (d.toList.map X5++cur.toList.drop d.size)[i]? := List.getElem?_toArray ..
 rw[hto]
 rcases zO i d.size with hi|hi
 ·rw[zL (by simpa using hi),zS (show i<cur.size by omega),zP,xV,zS hi,xC,if_pos hi,getElem!_pos d i hi]
  rfl
 ·rw[yA (by simpa using hi),yJ,xV,z2,z8,show d.size+(i-d.size)=i by omega]
  cases cur[i]? with
  | none=>rfl
  | some v=>rw[xC,if_neg (by omega)]
theorem Ws {i:Nat} (hi:i<w.heap.size) (hne:i≠b):(grow (putRow X5 (Sort.ahead w n) b 0 d) os).heap[i]? = w.heap[i]? := by
 have h1:(grow (putRow X5 (Sort.ahead w n) b 0 d) os).heap[i]? = (putRow X5 (Sort.ahead w n) b 0 d).heap[i]? := by
  show((putRow X5 (Sort.ahead w n) b 0 d).heap++os)[i]? = _
  rw[kS (by simp [putRow,Sort.ahead,mapBlock];exact hi)]
 rw[h1]
 show((Sort.ahead w n).heap.modify b _)[i]? = _
 rw[wO,if_neg (λh=>hne h.symm)]
 rfl
theorem Zp:w.heap.size<=(grow (putRow X5 (Sort.ahead w n) b 0 d) os).heap.size:=by
 show _<=((putRow X5 (Sort.ahead w n) b 0 d).heap++os).size
 rw[yQ]
 simp [putRow,Sort.ahead,mapBlock]
end
structure A05 (P:Program) (e:TypeId) (w:World) (S:Cq) (H:Nat->Value) (xs:List Int) (blk cap:Nat) (cur:Array Value):Prop where
 h:H 0=.slice (some ⟨blk,0,none⟩) xs.length cap
 heap:w.heap[blk]? = some (.cells cur e (0,0))
 fits:xs.length<=cap
 most:cap<=maxLen
 cs:cur.size=cap*1
 vals:cur.toList.take xs.length=xs.map X5
 lt:blk<w.heap.size
 noS:∀ i,¬ S blk i
theorem A05.holds {P:Program} {e:TypeId} {w:World} {S:Cq} {H:Nat->Value} {xs:List Int} {blk cap:Nat} {cur:Array Value} (h:A05 P e w S H xs blk cap cur):Holds (Value.int .i64) w blk 0 xs.toArray:=λj hj=>by
 rw[z7] at hj
 have hcur:cur.toList[j]? = some (.int .i64 xs[j]):=by
  have:(cur.toList.take xs.length)[j]? = some (X5 xs[j]):=by rw[h.vals,zP,zB hj];rfl
  rw[yL,if_pos hj] at this
  exact this
 refine⟨?_,?_⟩
 ·rw[yE,cell_of_row w _ _ cur e (0,0) h.heap,getElem!_pos _ _ (by simpa using hj)]
  simpa using hcur
 ·rw[yE]
  unfold World.frozen?
  rw[h.heap]
  simp
theorem An0 {P:Program} {e:TypeId} {w:World} {S:Cq} {H:Nat->Value} {xs:List Int} (mem:Mem w S [.arr e 1 0 (xs.flatMap eI)] H):(H 0=.slice none 0 0/\xs=[])\/∃ blk cap cur,A05 P e w S H xs blk cap cur:=by
 have hf:∀ x:Int,(eI x).length=1:=λ_=>rfl
 obtain⟨_,_,n',vals,hown,hls,_⟩:=mem.bl 0 _ rfl
 have hn':n'=xs.length:=Q8 hown (by decide) (by rw[<- hls.1,Aw hf])
 subst hn'
 have hv:=Av8 hls
 rcases hown.2 with⟨hH,h0⟩|⟨blk,cap,cur,hH,_,hheap,hcap,hmax,hcs,hvals⟩
 ·exact .inl ⟨hH,zY h0⟩
 ·refine .inr ⟨blk,cap,cur,hH,hheap,hcap,hmax,hcs,?_,(yB.1 hheap).1,λi hi=>absurd (mem.sb 0 _ blk i rfl (by show E4 (H 0)=_;rw[hH];rfl) hi) (zR _)⟩
  rw[kC] at hvals
  rw[hvals,hv]
theorem Ave {P:Program} {ρ:Ren} (L:Go.Proofs.SlLaysM.n5 P ρ) {e:Nat} {xs:List Int} (hn:xs.length<=1000000000000000000) :
  Dw P (ρ.f 5) [.arr e 1 0 (xs.flatMap eI)] [.one (.ls 0 xs.length)] (λy m'=>y=.tup []/\m'=[.arr e 1 0 ((xs.mergeSort λx y=>decide (x<=y)).flatMap eI)]):=by
 have hf:∀ x:Int,(eI x).length=1:=λ_=>rfl
 intro w S H vs hin mem hvs
 obtain⟨hvl,hvr⟩:=hvs
 obtain⟨v0,rfl⟩:∃ v0,vs = #[v0]:=by
  obtain⟨l⟩:=vs
  match l,hvl with
  | [a],_=>exact⟨a,rfl⟩
 obtain⟨_,_,hv0⟩:=(show F9 w S [.arr e 1 0 (xs.flatMap eI)] H (.ls 0 xs.length) v0 from hvr 0 _ v0 rfl rfl)
 have hv0':=(hv0 e 1 0 _ rfl).2 (Aw hf xs).symm
 rcases An0 (P:=P) mem with⟨hH,rfl⟩|⟨blk,cap,cur,R⟩
 ·rw[hv0',hH]
  refine(Go.Proofs.AnyM.slices_Sort_int_none L none 0 w).mono ?_
  rintro e' w' ⟨rfl,rfl⟩
  have hy:([]:List Int).mergeSort (λx y=>decide (x<=y))=[]:=by simp
  rw[hy]
  exact⟨_,.tup [],_,S,H,rfl,⟨rfl,rfl⟩,Xi.refl _ _ _,hin,mem,λp b g hb ho=>.inr ⟨p,b,hb,ho⟩,⟨zN _,λ_ _ _ _=>rfl,λp e' sz' k cs _ hm=>⟨k,cs,hm,.inl ⟨rfl,rfl⟩⟩,λ_ _ h=>h⟩,Ky⟩
 have hH:=R.h
 have hcon:=Go.Proofs.AnyM.slices_Sort_int L blk 0 cap xs w R.holds R.lt (by omega)
 rw[hv0',hH]
 refine hcon.mono ?_
 rintro e' w' ⟨rfl,n2,os,rfl⟩
 generalize hys:xs.mergeSort (λx y=>decide (x<=y))=ys
 have hyl:ys.length=xs.length:=by rw[<- hys,jB]
 have hsame:(grow (putRow X5 (Sort.ahead w n2) blk 0 ys.toArray) os).heap[blk]? = _:=Apa (n:=n2) (os:=os) (d:=ys.toArray) R.heap (by rw[z7,hyl,R.cs];have:=R.fits;omega)
 have hkeep:∀ b i,S b i->S b i/\(grow (putRow X5 (Sort.ahead w n2) blk 0 ys.toArray) os).cell? ⟨b,i,none⟩=w.cell? ⟨b,i,none⟩:=λb i hs =>
  ⟨hs,World.cell?_of_block (w:=w) (Ws (hin.1 b i hs) λe=>R.noS i (e ▸ hs))⟩
 have hin2:InH (grow (putRow X5 (Sort.ahead w n2) blk 0 ys.toArray) os) S:=hin.turn (·=blk) (λg i e hs=>absurd (e ▸ hs) (R.noS i)) (λq hq hne=>Ws hq hne) Zp λb i hs=>(hkeep b i hs).2
 have hownX:Agr [.arr e 1 0 (xs.flatMap eI)] H blk:=⟨0,_,rfl,by show E4 (H 0)=_;rw[hH];rfl⟩
 refine⟨_,.tup [],[.arr e 1 0 (ys.flatMap eI)],S,H,rfl,⟨rfl,rfl⟩,⟨rfl,rfl,rfl,Zp,λb hb hx=>Ws hb λe=>hx (e ▸ hownX),λb i hs=>hs,λb i hs=>(hkeep b i hs).2,λb i _ _ hs=>hs⟩,hin2,⟨λp b hb=>?_,λp b g' hb ho=>?_,λp q b b' g' hb hb' _ _=>?_,λp b g' i hb ho hs=>?_⟩,λp b g' hb ho=>?_,⟨zN _,λ_ _ _ _=>rfl,λp e' sz' k' cs' hp hm=>?_,λ_ _ h=>h⟩,Ky⟩
 ·match p with
  | 0 =>
   obtain rfl:=zD hb
   refine⟨by decide,zX _,xs.length,ys.map X5,⟨by rw[z2,hyl];omega,.inr ⟨blk,cap,_,hH,zX _,hsame,R.fits,R.most,?_,?_⟩⟩,Ak7 ys,λg' _ i hi=>absurd hi (zR _)⟩
   ·rw[z7,zH,z2,yC,z8,z8,z7,hyl,R.cs]
    have:=R.fits
    omega
   ·rw[yU,kC,wC (by rw[z2];simp [hyl]),<- hyl]
    have:ys.toArray.toList.map X5=ys.map X5:=by simp
    rw[this,<- z2 (f:=X5),yF]
  | p+1=>simp at hb
 ·match p with
  | 0 =>
   obtain rfl:=zD hb
   have hg':E4 (H 0)=some g':=ho
   rw[hH] at hg'
   obtain rfl:blk=g':=by simpa [E4] using hg'
   exact zU R.lt Zp
  | p+1=>simp at hb
 ·match p,q with
  | 0,0=>rfl
  | 0,q+1=>simp at hb'
  | p+1,_=>simp at hb
 ·match p with
  | 0 =>
   obtain rfl:=zD hb
   have hg':E4 (H 0)=some g':=ho
   rw[hH] at hg'
   obtain rfl:blk=g':=by simpa [E4] using hg'
   exact absurd hs (R.noS i)
  | p+1=>simp at hb
 ·match p with
  | 0 =>
   obtain rfl:=zD hb
   exact .inr ⟨0,_,rfl,ho⟩
  | p+1=>simp at hb
 ·match p with
  | 0 =>
   obtain⟨rfl,rfl,rfl,rfl⟩:e=e'/\1=sz'/\0=k'/\ys.flatMap eI=cs':=by simpa using hm
   exact⟨0,_,rfl,.inl ⟨by rw[Aw hf,Aw hf,hyl],rfl⟩⟩
  | p+1=>simp at hp
def Al6 (xs:List Int):List Int:=Go.Lib.compactUpTo xs.toArray xs.toArray.size
theorem A4u {e:Nat} {w w':World} {S S':Cq} {H:Nat->Value} {xs zs:List Int} {v:Value} (hx:Xi (Agr [.arr e 1 0 (xs.flatMap eI)] H) w S w' S') (hin:InH w' S') (hown:w'.ownsRow 0 e 1 v zs.length (zs.map X5))
  (hv:∀ g,E4 v=some g->g<w'.heap.size/\(w.heap.size<=g\/Agr [.arr e 1 0 (xs.flatMap eI)] H g)/\∀ i,¬ S' g i) :
  ∃ v' x m' S'' H',Ending.returned v=.returned v'/\(x=.s (.one (.ls 1 zs.length))/\m'=[.dead,.arr e 1 0 (zs.flatMap eI)])/\Xi (Agr [.arr e 1 0 (xs.flatMap eI)] H) w S w' S''/\InH w' S''/\Mem w' S'' m' H' /\
   (∀ (p:Nat) (b:Blk) (g:Nat),m'[p]? = some b->b.own (H' p)=some g->w.heap.size<=g\/Agr [.arr e 1 0 (xs.flatMap eI)] H g)/\A0t [.arr e 1 0 (xs.flatMap eI)] H m' H'/\AVR (Ct w' S'' m' H') x v':=by
 have hf:∀ x:Int,(eI x).length=1:=λ_=>rfl
 have h01:Ud H 1 v 0=H 0:=C8 _ _ (by decide)
 obtain⟨ho1,ho2⟩:=U4 hown
 refine⟨v,_,_,S',Ud H 1 v,rfl,⟨rfl,rfl⟩,hx,hin,⟨λp b hb=>?_,λp b g' hb ho=>?_,λp q b b' g' hb hb' ho ho'=>?_,λp b g' i hb ho hs=>?_⟩,λp b g' hb ho=>?_,⟨by simp,λp g hp hh=>?_,λp e' sz' k' cs' hp hm=>?_,λp hp h=>?_⟩,?_⟩
 ·match p with
  | 0=>obtain rfl:=zD hb;trivial
  | 1 =>
   obtain rfl:=zD hb
   rw[Cj]
   exact⟨by decide,zX _,_,_,hown,Ak7 zs,λg' _ i hi=>absurd hi (zR _)⟩
  | p+2=>simp at hb
 ·match p with
  | 0=>obtain rfl:=zD hb;cases ho
  | 1=>obtain rfl:=zD hb;rw[Cj] at ho;exact(hv g' ho).1
  | p+2=>simp at hb
 ·match p,q with
  | 0,_=>obtain rfl:=zD hb;cases ho
  | _,0=>obtain rfl:=zD hb';cases ho'
  | 1,1=>rfl
  | p+2,_=>simp at hb
  | _,q+2=>simp at hb'
 ·match p with
  | 0=>obtain rfl:=zD hb;cases ho
  | 1=>obtain rfl:=zD hb;rw[Cj] at ho;exact absurd hs ((hv g' ho).2.2 i)
  | p+2=>simp at hb
 ·match p with
  | 0=>obtain rfl:=zD hb;cases ho
  | 1=>obtain rfl:=zD hb;rw[Cj] at ho;exact(hv g' ho).2.1
  | p+2=>simp at hb
 ·match p with
  | 0=>exact h01
  | p+1=>simp at hp
 ·match p with
  | 0=>cases hm
  | p+1=>simp at hp
 ·match p with
  | 0=>rw[h01];exact h
  | p+1=>simp at hp
 ·refine⟨by simp,⟨ho1,by rw[Cj];exact ho2⟩,λe' sz k cs hm=>?_⟩
  obtain⟨rfl,rfl,rfl,rfl⟩:e=e'/\1=sz/\0=k/\zs.flatMap eI=cs:=by simpa using hm
  exact⟨by rw[Aw hf];omega,λ_=>(Cj _ _ _).symm⟩
theorem Awo {P:Program} {ρ:Ren} (L:Go.Proofs.SlLaysE.n43 P ρ) {e:Nat} {xs:List Int} (hn:xs.length<=1000000000000000000) (heq:Go.Proofs.EqlAt P (ρ.t 23) (Value.int .i64) (λx y=>decide (x=y))) (hne:Go.Proofs.NeqAt P (ρ.t 23) (Value.int .i64) (λx y=>decide (x=y))) (v23:∀ w,(zeroValue (ρ.t 23)).run P w=.ok (.int .i64 0) w)
  (hnil:Bt P (ρ.f 43) [.one (.raw (.slice none 0 0))] (·=.s (.one (.raw (.slice none 0 0))))) :
  Dw P (ρ.f 43) [.arr e 1 0 (xs.flatMap eI)] [.one (.ls 0 xs.length)] (λy m'=>y=.s (.one (.ls 1 (Al6 xs).length))/\m'=[.dead,.arr e 1 0 ((Al6 xs).flatMap eI)]):=by
 have hf:∀ x:Int,(eI x).length=1:=λ_=>rfl
 intro w S H vs hin mem hvs
 obtain⟨hvl,hvr⟩:=hvs
 obtain⟨v0,rfl⟩:∃ v0,vs = #[v0]:=by
  obtain⟨l⟩:=vs
  match l,hvl with
  | [a],_=>exact⟨a,rfl⟩
 obtain⟨_,_,hv0⟩:=(show F9 w S [.arr e 1 0 (xs.flatMap eI)] H (.ls 0 xs.length) v0 from hvr 0 _ v0 rfl rfl)
 have hv0':=(hv0 e 1 0 _ rfl).2 (Aw hf xs).symm
 rcases An0 (P:=P) mem with⟨hH,rfl⟩|⟨blk,cap,cur,R⟩
 ·rw[hv0',hH]
  refine(hnil w S #[.slice none 0 0] hin ⟨rfl,λj x u h1 h2=>?_⟩).mono ?_
  ·cases j with
   | zero=>obtain rfl:=zD h1;obtain rfl:=zD h2;exact .raw _ rfl
   | succ j=>simp at h1
  rintro e' w' ⟨v,x,S',rfl,rfl,ext,hin',hav⟩
  have hvn:v=.slice none 0 0:=Lu (Ct.of_rep (m:=[]) (H:=H) hav)
  subst hvn
  have hx:Xi (Agr [.arr e 1 0 (([]:List Int).flatMap eI)] H) w S w' S':=⟨ext.os,ext.tape,ext.output,ext.size,λb hb _=>ext.blk b hb,ext.sub,λb i hs=>(ext.keeps hin b i hs).2,λb i hb _ hs=>ext.back b i hb hs⟩
  exact A4u (zs:=[]) hx hin' ⟨rfl,.inl ⟨rfl,rfl⟩⟩ (λg hg=>by cases hg)
 have hH:=R.h
 have hO:Go.Proofs.OneCell (Value.int .i64):=λ_=>rfl
 have hcon:=Go.Proofs.AnyE.slices_Compact L (Value.int .i64) hO heq hne 0 v23 blk 0 cap xs.toArray w R.holds (by rw[z7];omega) (by rw[z7];exact R.fits)
 rw[hv0',hH]
 rw[z7] at hcon
 refine hcon.mono ?_
 rintro e' w' ⟨rfl,n2,rfl⟩
 have hcz:Go.Lib.compactUpTo xs.toArray xs.length=Al6 xs:=by unfold Al6;rw[z7]
 rw[hcz]
 have hzl:(Al6 xs).length<=xs.length:=by
  unfold Al6 Go.Lib.compactUpTo
  rw[z2]
  refine yO (xQ _ _) ?_
  rw[List.length_range,z7]
  exact zN _
 generalize Al6 xs=zs at hzl
 generalize hds:(zs++List.replicate (xs.length-zs.length) (0:Int)).toArray=ds
 have hdsz:ds.size=xs.length:=by rw[<- hds,z7,zH,jZ];omega
 have hdt:ds.toList.take zs.length=zs:=by rw[<- hds,yU,xX];rfl
 have hw:putRow (Value.int .i64) (Sort.ahead w n2) blk 0 ds=grow (putRow X5 (Sort.ahead w n2) blk 0 ds) #[]:=(grow_empty _).symm
 rw[hw]
 have hsame:(grow (putRow X5 (Sort.ahead w n2) blk 0 ds) #[]).heap[blk]? = _:=Apa (n:=n2) (os:=#[]) (d:=ds) R.heap (by rw[hdsz,R.cs];have:=R.fits;omega)
 have hkeep:∀ b i,S b i->S b i/\(grow (putRow X5 (Sort.ahead w n2) blk 0 ds) #[]).cell? ⟨b,i,none⟩=w.cell? ⟨b,i,none⟩:=λb i hs =>
  ⟨hs,World.cell?_of_block (w:=w) (Ws (hin.1 b i hs) λe=>R.noS i (e ▸ hs))⟩
 have hin2:InH (grow (putRow X5 (Sort.ahead w n2) blk 0 ds) #[]) S:=hin.turn (·=blk) (λg i e hs=>absurd (e ▸ hs) (R.noS i)) (λq hq hne=>Ws hq hne) Zp λb i hs=>(hkeep b i hs).2
 have hownX:Agr [.arr e 1 0 (xs.flatMap eI)] H blk:=⟨0,_,rfl,by show E4 (H 0)=_;rw[hH];rfl⟩
 refine A4u ⟨rfl,rfl,rfl,Zp,λb hb hx=>Ws hb λe=>hx (e ▸ hownX),λb i hs=>hs,λb i hs=>(hkeep b i hs).2,λb i _ _ hs=>hs⟩ hin2 ⟨by rw[z2,kC],.inr ⟨blk,cap,_,rfl,zX _,hsame,by have:=R.fits;omega,R.most,?_,?_⟩⟩ (λg hg=>?_)
 ·rw[z7,zH,z2,yC,z8,z8,hdsz,R.cs]
  have:=R.fits
  omega
 ·rw[yU,kC,wC (by simpa [hdsz] using hzl),<- List.map_take]
  exact congrArg (List.map X5) hdt
 ·obtain rfl:blk=g:=by simpa [E4] using hg
  exact⟨zU R.lt Zp,.inr hownX,R.noS⟩
theorem nn {b:Bool} (h:b=false):¬ b=true:=λh'=>by rw[h] at h';cases h'
theorem Ahu {α:Type} {xs:List α} {p:α->Bool} (h:∀ x∈xs,p x=false):xs.find? p=none:=kQ.2 λx hx=>by rw[h x hx];decide
theorem Aol {α ρ:Type} (xs:List α) (p:α->Bool) (g:α->ρ) (f:Int->Option (LR Int Unit ρ)) (hl:xs.length<=1000000000000000000)
  (h:∀ (i:Nat) x,xs[i]? = some x->f (i:Int)=some (if p x then .ret (g x) else .cont ((i+1:Nat):Int))) (hend:f (xs.length:Int)=some (.brk ())) :
  Iz f fuel 0=some (match xs.find? p with|some x=>.inl (g x)|none=>.inr ()):=by
 obtain⟨v,hv,hr⟩:=D2 (f:=f) (P:=λs=>∃ i:Nat,i<=xs.length/\s=(i:Int)/\xs.find? p=(xs.drop i).find? p) (μ:=λs=>xs.length-s.toNat)
  (R:=λr=>r=(match xs.find? p with|some x=>Sum.inl (g x)|none=>Sum.inr ())) (by
   rintro _ ⟨i,hi,rfl,hp⟩
   rcases zO i xs.length with hlt|hge
   ·have hx:=zB hlt
    have hf:=h i _ hx
    have hd:xs.drop i=xs[i]::xs.drop (i+1):=wY hlt
    cases hpx:p xs[i] with
    | true =>
     rw[hpx,if_pos rfl] at hf
     refine .inr (.inr ⟨_,hf,?_⟩)
     rw[hp,hd,jM,hpx]
    | false =>
     rw[hpx,if_neg (by decide)] at hf
     refine .inl ⟨_,hf,⟨i+1,hlt,rfl,?_⟩,by simp only[zT];omega⟩
     rw[hp,hd,jM,hpx]
   ·have e:i=xs.length:=by omega
    subst e
    refine .inr (.inl ⟨(),hend,?_⟩)
    rw[hp,List.drop_length];rfl) fuel 0 ⟨0,zX _,rfl,rfl⟩ (Co (by show xs.length-0<=_;omega))
 rw[hv,hr]
theorem A3n {α ρ:Type} (xs:List α) (p:α->Bool) (no:ρ) (f:Int->Option (LR Int Unit ρ)) (hl:xs.length<=1000000000000000000)
  (h:∀ (i:Nat) x,xs[i]? = some x->f (i:Int)=some (if p x then .cont ((i+1:Nat):Int) else .ret no)) (hend:f (xs.length:Int)=some (.brk ())) :
  Iz f fuel 0=some (if xs.all p then .inr () else .inl no):=by
 rw[Aol xs (λx=>!p x) (λ_=>no) f hl (λi x hx=>by
  rw[h i x hx]
  cases p x <;> rfl) hend]
 cases ha:xs.all p with
 | true =>
  rw[Ahu λx hx=>by rw[zI.1 ha x hx];rfl];rfl
 | false =>
  obtain⟨x,hx,hp⟩:=List.all_eq_false.1 ha
  cases hf:xs.find? (λx=>!p x) with
  | none=>exact absurd (kQ.1 hf x hx) (by simpa using hp)
  | some y=>rfl
theorem Ama {α β:Type} (xs:List α) (g:α->List β) (f:Int×List β->Option (LB (Int×List β) (List β))) (k:Nat) (hg:∀ x,(g x).length<=k) (hl:xs.length<=1000000000000000000)
  (h:∀ (i:Nat) x acc,xs[i]? = some x->acc.length<=i*k->f ((i:Int),acc)=some (.cont (((i+1:Nat):Int),acc++g x))) (hend:∀ acc,f ((xs.length:Int),acc)=some (.brk acc)) :
  Cz f fuel (0,[])=some (xs.flatMap g):=by
 obtain⟨v,hv,hr⟩:=Dm (f:=f) (P:=λs=>∃ i:Nat,i<=xs.length/\s=((i:Int),(xs.take i).flatMap g)) (μ:=λs=>xs.length-s.1.toNat) (R:=λv=>v=xs.flatMap g) (by
  rintro _ ⟨i,hi,rfl⟩
  rcases zO i xs.length with hlt|hge
  ·left
   have hlen:((xs.take i).flatMap g).length<=i*k:=by
    have key:∀ l:List α,(l.flatMap g).length<=l.length*k:=λl=>by
     induction l with
     | nil=>simp
     | cons a l ih =>
      rw[xB,zH,yW,jA]
      have:=hg a
      omega
    have:=key (xs.take i)
    rwa [zK,w8 hi] at this
   refine⟨_,h i _ _ (zB hlt) hlen,⟨i+1,hlt,?_⟩,by simp only[zT];omega⟩
   rw[zM hlt,kK];simp
  ·right
   have e:i=xs.length:=by omega
   subst e
   exact⟨_,hend _,by rw[yF]⟩) fuel (0,[]) ⟨0,zX _,by simp⟩ (Co (by show xs.length-0<=_;omega))
 rw[hv,hr]
theorem Abj {α β:Type} (xs:List α) (p:α->Bool) (g:α->β):xs.flatMap (λx=>if p x then[g x] else[])=(xs.filter p).map g:=by
 induction xs with
 | nil=>rfl
 | cons x xs ih =>
  rw[xB,ih,kU]
  cases p x <;> rfl
theorem Atf {α β:Type} (xs:List α) (g:α->β):xs.flatMap (λx=>[g x])=xs.map g:=by
 induction xs with
 | nil=>rfl
 | cons x xs ih=>rw[xB,ih];rfl
def Aq9 (l:List Int):Prop:=l.Pairwise (· < ·)
theorem Apu {xs:List Int} (hs:xs.Pairwise (·<=·)):Aq9 (Al6 xs)/\∀ x,x∈Al6 xs↔x∈xs:=by
 have key:∀ m,m<=xs.length->Aq9 (Go.Lib.compactUpTo xs.toArray m)/\(∀ x,x∈Go.Lib.compactUpTo xs.toArray m↔x∈xs.take m):=λm=>by
  induction m with
  | zero=>intro _;exact⟨by simp [Go.Lib.compactUpTo,Aq9],λx=>by simp [Go.Lib.compactUpTo]⟩
  | succ m ih =>
   intro hm
   obtain⟨h1,h2⟩:=ih (by omega)
   have hlt:m<xs.length:=by omega
   have hU:Go.Lib.compactUpTo xs.toArray (m+1)=Go.Lib.compactUpTo xs.toArray m++(if Go.Lib.keeps xs.toArray m then[xs[m]] else[]):=by
    unfold Go.Lib.compactUpTo
    rw[List.range_succ,List.filter_append,wA]
    congr 1
    rw[kU]
    cases Go.Lib.keeps xs.toArray m with
    | true =>
     rw[if_pos rfl,if_pos rfl]
     simp [zB hlt]
    | false=>rfl
   rw[hU,zM hlt]
   have hle:∀ x∈xs.take m,x<=xs[m]:=λx hx=>by
    obtain⟨j,hj,rfl⟩:=yS hx
    rw[kZ]
    have hjm:j<m:=by rw[zK] at hj;omega
    exact(yI.1 hs) j m (by omega) hlt hjm
   by_cases h0:m=0
   ·subst h0
    have hk:Go.Lib.keeps xs.toArray 0=true:=by unfold Go.Lib.keeps;simp
    rw[hk,if_pos rfl]
    refine⟨?_,λx=>by simp [Go.Lib.compactUpTo]⟩
    simp [Go.Lib.compactUpTo,Aq9]
   have hm1:m-1<xs.length:=by omega
   have hkk:Go.Lib.keeps xs.toArray m=decide (xs[m]≠xs[m-1]):=by
    unfold Go.Lib.keeps
    rw[getElem!_pos xs.toArray m (by simpa using hlt),getElem!_pos xs.toArray (m-1) (by simpa using hm1)]
    simp [h0]
   rw[hkk]
   have hlast:xs[m-1]∈xs.take m:=List.mem_iff_getElem.2 ⟨m-1,by rw[zK];omega,by rw[kZ]⟩
   by_cases he:xs[m]=xs[m-1]
   ·rw[if_neg (by simp [he]),xG]
    refine⟨h1,λx=>?_⟩
    rw[h2,yH,zV]
    constructor
    ·exact .inl
    ·rintro(h|rfl)
     ·exact h
     ·rw[he];exact hlast
   ·rw[if_pos (by simp [he])]
    have hll:xs[m-1]<=xs[m]:=hle _ hlast
    have hlt2:∀ x∈xs.take m,x<xs[m]:=λx hx=>by
     obtain⟨j,hj,rfl⟩:=yS hx
     rw[kZ]
     have hjm:j<m:=by rw[zK] at hj;omega
     have:xs[j]<=xs[m-1]:=by
      rcases zO j (m-1) with h|h
      ·exact(yI.1 hs) j (m-1) (by omega) hm1 h
      ·have:j=m-1:=by omega
       subst this;exact xU _
     omega
    refine⟨wS.2 ⟨h1,wG _ _,λa ha b hb=>?_⟩,λx=>?_⟩
    ·rw[zV.1 hb];exact hlt2 a ((h2 a).1 ha)
    ·rw[yH,yH,h2]
 have:=key xs.length (zN _)
 unfold Al6
 rw[z7]
 rw[yF] at this
 exact this
def Aft (l:List Int):List Int:=Al6 (l.mergeSort λx y=>decide (x<=y))
theorem Avi (l:List Int):(l.mergeSort λx y=>decide (x<=y)).Pairwise (·<=·):=by
 have:=List.pairwise_mergeSort (le:=λx y:Int=>decide (x<=y)) (λa b c h1 h2=>by rw[decide_eq_true_eq] at *;omega) (λa b=>by simp;omega) l
 exact this.imp λh=>of_decide_eq_true h
theorem An4 {l:List Int} {x:Int}:x∈Aft l↔x∈l:=((Apu (Avi l)).2 x).trans (List.mem_mergeSort ..)
theorem Ao5 (l:List Int):(Aft l).length<=l.length:=by
 unfold Aft Al6 Go.Lib.compactUpTo
 rw[z2]
 refine yO (xQ _ _) ?_
 rw[List.length_range,z7,jB]
 exact zN _
open Go.RowKit Go.MapKept Go.Conc
open Go.ChangeMaps (setBlock)
open Go.RowKit
section
variable {P:Program} {c:Ctx} {st:AS} {ty:TypeId}
theorem Aks {xt:TypeId} {x:Operand} {n:Int} (hu:P.underlying xt=some (.int .i64)) (hx:C6 st x=.s (.one (.i .i64 n))):OpV P c st (.makeInterface xt x) ty (.s (.one (.raw (.iface xt (.int .i64 n))))):=by
 intro a w S H r
 have h1:=B1 r x
 rw[hx] at h1
 have e1:a.eval x=.int .i64 n:=U3 h1
 exact⟨.iface xt (.int .i64 n),I1 (.raw _ rfl),λ_ _ _ _=>by simp [execOp,e1,Instr.makeInterface,run_underlying hu]⟩
end
theorem ccI {P:Program} {c:Ctx} {x y:Code} {o:Operand} {t:Nat->AV} {m:List Blk} {Q:Exit->AS->Prop} {b:Bool} {α:Type} {u v:Option α} {r:α} (h:(if b then u else v)=some r) (ho:C6 ⟨t,m⟩ o=.s (.one (.b b)))
  (h1:u=some r->AWC P c x Q ⟨t,m⟩) (h0:v=some r->AWC P c y Q ⟨t,m⟩):AWC P c (.cond o x y) Q ⟨t,m⟩:=Ce ho (λhc=>h1 (Q5 hc h)) (λhc=>h0 (Qy hc h))
theorem Ais {P:Program} {f:FuncId} {x y:Value} {r:Lf} {v:Value} (hr:∀ w S,Rep w S r v) (h:∀ w,Calls P f #[x,y] w λe w'=>e=.returned v/\w'=w):Bt P f [.one (.raw x),.one (.raw y)] (·=.s (.one r)):=by
 intro w S vs hS hv
 have hvs:vs = #[x,y]:=by
  obtain⟨l⟩:=vs
  obtain⟨hl,hg⟩:=hv
  match l,hl with
  | [v1,v2],_ =>
   have g1:Rep w S (.raw x) v1:=hg 0 _ v1 rfl rfl
   have g2:Rep w S (.raw y) v2:=hg 1 _ v2 rfl rfl
   cases g1;cases g2;rfl
 subst hvs
 refine(h w).mono ?_
 rintro e w' ⟨rfl,rfl⟩
 exact⟨v,_,S,rfl,rfl,Ext.refl _ _,hS,hr _ _⟩
open Go.RowKit
def A0z (st:AS):Op->Option SV
 | .move x=>match C6 st x with
  | .s v=>some v
  | _=>none
 | .assign x=>match C6 st x with
  | .s v=>some v
  | _=>none
 | .pick b x y=>match C6 st b with
  | .s (.one (.b true))=>match C6 st x with
   | .s v=>some v
   | _=>none
  | .s (.one (.b false))=>match C6 st y with
   | .s v=>some v
   | _=>none
  | _=>none
 | _=>none
theorem Aqr {P:Program} {c:Ctx} {st:AS} {op:Op} {ty:TypeId} {v:SV} (h:A0z st op=some v):OpV P c st op ty (.s v):=by
 unfold A0z at h
 split at h
 ·split at h
  ·rename_i hx;cases h;exact Az hx
  ·cases h
 ·split at h
  ·rename_i hx;cases h;exact G0 hx
  ·cases h
 ·split at h
  ·rename_i hb
   split at h
   ·rename_i hx;cases h;exact Ch hb hx
   ·cases h
  ·rename_i hb
   split at h
   ·rename_i hx;cases h;exact Cl hb hx
   ·cases h
  ·cases h
 ·cases h
def Aob (nt:Nat) (m:List Blk) (ops:Array Oper):Nat->List Oper->(Nat->AV)->Option (List Oper×(Nat->AV))
 | 0,l,t=>some (l,t)
 | n+1,l,t=>match l with
  | []=>none
  | o::rest=>match o with
   | ⟨some d,op,_,_,_,g⟩=>match decide (d<nt) with
    | true=>match g with
     | none=>match A0z ⟨t,m⟩ op with
      | some v=>Aob nt m ops n rest (upd t d (.s v))
      | none=>none
     | some (j,want)=>match (ops[j]?).bind (·.dst) with
      | some dj=>match t dj with
       | .s (.one (.b b))=>match b==want with
        | false=>Aob nt m ops n rest (upd t d (.tup []))
        | true=>match decide (dj<nt) with
         | true=>match A0z ⟨t,m⟩ op with
          | some v=>Aob nt m ops n rest (upd t d (.s v))
          | none=>none
         | false=>none
       | _=>none
      | none=>none
    | false=>none
   | _=>none
theorem rm {P:Program} {c:Ctx} {m:List Blk} {ops:Array Oper} {Q:Exit->AS->Prop} (n:Nat) {l l':List Oper} {t t':Nat->AV} (h:Aob c.nt m ops n l t=some (l',t')) (k:AWL P c ops Q l' ⟨t',m⟩):AWL P c ops Q l ⟨t,m⟩:=by
 induction n generalizing l t with
 | zero=>cases h;exact k
 | succ n ih =>
  unfold Aob at h
  split at h
  ·cases h
  split at h
  ·rename_i rest d op ty pos af g
   split at h
   ·rename_i hd
    split at h
    ·split at h
     ·rename_i v hv
      exact sv hd (Aqr hv) (ih h)
     ·cases h
    ·rename_i j want
     split at h
     ·rename_i dj hj
      split at h
      ·rename_i b ht
       split at h
       ·rename_i hb
        exact A6x hd hj ht hb (ih h)
       ·rename_i hb
        split at h
        ·rename_i hn
         split at h
         ·rename_i v hv
          have hb:b=want:=by simpa using hb
          subst hb
          exact son hn hj ht (sv hd (Aqr hv) (ih h))
         ·cases h
        ·cases h
      ·cases h
     ·cases h
   ·cases h
  ·cases h
theorem dnT {P:Program} {fn:Func} {R:AV->Prop} {st:AS} {t:Tmp} {x:SV} (hr:fn.results.toList=[.tmp t]) (hx:st.t t=.s x) (hp:x.cells.all Lf.pubd=true) (hR:R (.s x)):At7 P fn R .ret st :=
 ⟨Or.inr rfl,[x],[x],st.m,by rw[hr];exact Ad (.tmp _ _ hx) Aj,Ao (by simpa using hp),hR⟩
theorem dnA {P:Program} {fn:Func} {R:AV->Prop} {st:AS} {t:Tmp} {ty:TypeId} {sz:Nat} {l:Lf} {cs:List Lf} (hr:fn.results.toList=[.cell t ty]) (ti:TI P ty true sz) (ht:st.t t=.s (.one l)) (hp:Adf st l cs) (hy:sz<=cs.length) (hb:(cs.take sz).all Lf.pubd=true) (hR:R (.s (.agg (cs.take sz)))):At7 P fn R .ret st :=
 ⟨Or.inr rfl,[.agg (cs.take sz)],[.agg (cs.take sz)],st.m,by rw[hr];exact Ad (.agg _ _ _ _ _ ti ht hp hy) Aj,Ao (by simpa [SV.cells] using hb),hR⟩
theorem evs {α:Prop} {md:List Blk} {all:List (List Blk)} (k:Acu md all->α) (h:Acu md all):α:=k h
section
variable {P:Program} {c:Ctx} {t:Nat->AV} {m:List Blk} {ops:Array Oper} {Q:Exit->AS->Prop} {rest:List Oper} {ty ty':TypeId} {pos pos':String} {af af':Array Edge} {d e:Tmp}
theorem csr {id:Nat} {l:List Oper} {y:Code} (h:AWL P c l.toArray (Qm (AWC P c y Q) Q) l ⟨t,m⟩):AWC P c (.seq (.region id l.toArray false) y) Q ⟨t,m⟩:=Bj (Au h)
theorem fl {s f off:Nat} {x y:Operand} {p o q:Nat} {T:TypeId} {cs:List Lf} {z:Lf} (fi:FI P s f off) (ti:TI P T false 1) (h1:decide (d<c.nt)=true) (hx:C6 ⟨t,m⟩ x=.s (.one (.lp p o))) (h2:decide (e<c.nt)=true) (hy:C6 ⟨upd t d (.s (.one (.lp p (o+off)))),m⟩ y=.s (.one (.lp p q))) (hm:m[p]? = some (.box cs)) (hz:(cs.drop q)[0]? = some z)
  (k:AWL P c ops Q rest ⟨upd (upd t d (.s (.one (.lp p (o+off))))) e (.s (.one z)),m⟩):AWL P c ops Q (⟨some d,.fieldAddr s x f,ty,pos,af,none⟩::⟨some e,.load T y,ty',pos',af',none⟩::rest) ⟨t,m⟩ :=
 sv h1 (Aa fi hx) (sv h2 (B0 ti hy (.lp _ _ _ hm) hz) k)
end
open Go.RowKit
theorem Rel.other {c:Ctx} {st:AS} {a:Act} {w w':World} {S S':Cq} {H:Nat->Value} (r:Rel c st a w S H) (G:Nat)
  (hG:∀ (p:Nat) (b:Blk),st.m[p]? = some b->b.own (H p)≠some G) (hG0:c.w0.heap.size<=G)
  (hk:∀ b i,S b i->S' b i/\w'.cell? ⟨b,i,none⟩=w.cell? ⟨b,i,none⟩)
  (hb:∀ g,g<w.heap.size->g≠G->w'.heap[g]? = w.heap[g]?) (hback:∀ b i,b<w.heap.size->S' b i->S b i) (hS:InH w' S')
  (hsz:w.heap.size<=w'.heap.size) (hos:w'.os=w.os) (htp:w'.tape=w.tape) (hou:w'.output=w.output):Rel c st a w' S' H:=by
 have hg:∀ l v,Ct w S st.m H l v->Ct w' S' st.m H l v:=λl v=>Ct.mono hk (zN _) (λ_ _=>rfl) (λp e sz k cs _ hm=>⟨k,cs,hm,rfl⟩)
 have hsame:∀ (p:Nat) (b:Blk) (g:Nat),st.m[p]? = some b->b.own (H p)=some g->w'.heap[g]? = w.heap[g]? := λp b g h1 h2 =>
  hb g (r.lo p b g h1 h2).2 λe=>hG p b h1 (e ▸ h2)
 refine⟨r.nt,r.df,λi=>AVR.mono hg (r.tm i),λp b hbb=>?_,λp b g hb' ho=>?_,r.inj,λp b g i hb' ho hs=>?_,hS,?_,r.kl,r.kh,r.kr,r.ku⟩
 ·have hr:=r.bl p b hbb
  have hbo:=hsame p b
  cases b with
  | dead=>trivial
  | hole=>exact hr
  | obj g mk cs =>
   obtain⟨h1,vs,o,h2,h3,h4,h5⟩:=hr
   exact⟨h1,vs,o,(hbo g hbb (by rw[h1];rfl)).trans h2,h3,h4,h5.mono (λl v=>Rep.mono hk)⟩
  | tab mk cs =>
   obtain⟨g,h1,vs,o,h2,h3,h4,h5⟩:=hr
   exact⟨g,h1,vs,o,(hbo g hbb (by rw[h1];rfl)).trans h2,h3,h4,h5.mono (λl v=>Rep.mono hk)⟩
  | box cs =>
   obtain⟨g,e,cur,h1,h2,h3⟩:=hr
   exact⟨g,e,cur,h1,(hbo g hbb (by rw[h1];rfl)).trans h2,h3.mono hg⟩
  | arr e sz k cs =>
   obtain⟨h0,hk1,n,vals,h1,h2,h3⟩:=hr
   exact⟨h0,hk1,n,vals,I6 h1 (λg hgo=>hbo g hbb hgo),h2.mono (λl v=>Rep.mono hk),λg hgo i hi=>(hk g i (h3 g hgo i hi)).1⟩
 ·have:=r.lo p b g hb' ho
  exact⟨this.1,zU this.2 hsz⟩
 ·exact r.sb p b g i hb' ho (hback g i (r.lo p b g hb' ho).2 hs)
 ·have x:=r.ex
  have hlt:∀ b,b<c.w0.heap.size->b<w.heap.size:=λb h=>zU h x.size
  exact⟨hos.trans x.os,htp.trans x.tape,hou.trans x.output,yO x.size hsz,
   λb hb1 hX=>(hb b (hlt b hb1) λe=>by omega).trans (x.blk b hb1 hX),λb i hs=>(hk b i (x.sub b i hs)).1,
   λb i hs=>(hk b i (x.sub b i hs)).2.trans (x.stab b i hs),λb i hb1 hX hs=>x.back b i hb1 hX (hback b i (hlt b hb1) hs)⟩
def Ako (c:Ctx):Prop:=(∀ g,¬ c.X g)/\∀ g i,c.S0 g i->c.w0.cell? ⟨g,i,none⟩≠none
theorem Rel.mark_new {c:Ctx} {st:AS} {a:Act} {w:World} {S:Cq} {H:Nat->Value} (r:Rel c st a w S H) (hJ:Ako c) {g i:Nat} (hs:S g i) (hc:w.cell? ⟨g,i,none⟩=none):c.w0.heap.size<=g:=by
 rcases zO g c.w0.heap.size with h|h
 ·have h0:=r.ex.back g i h (hJ.1 g) hs
  rw[r.ex.stab g i h0] at hc
  exact absurd hc (hJ.2 g i h0)
 ·exact h
theorem Rel.mark_own {c:Ctx} {st:AS} {a:Act} {w:World} {S:Cq} {H:Nat->Value} (r:Rel c st a w S H) {g i:Nat} (hs:S g i) (hc:w.cell? ⟨g,i,none⟩=none) (p:Nat) (b:Blk) (hb:st.m[p]? = some b):b.own (H p)≠some g :=
 λho=>Afn (r.bl p b hb) ho (r.sb p b g i hb ho hs) hc
theorem Rel.appendJ {P:Program} {c:Ctx} {st:AS} {a:Act} {w:World} {S:Cq} {H:Nat->Value} (r:Rel c st a w S H) (hJ:Ako c) {t t2 ty e:TypeId} {sz bytes:Nat} {zl:List Lf} {n m:Nat} {ys:List Lf} {v0 y:Value} {news:List Value}
  (ht:P.underlying t=some (.slice e)) (ei:EI P e sz bytes zl) (h2:NI P t2) (hv0:Rep w S (.jk e sz n) v0) (hs:Src P w y sz m news) (hy:ys.length=m*sz) (hls:LsR (Rep w S) ys news)
  (h63:n+m<=maxLen) (hb:(n+m)*bytes<=140737488355328) :
  ∃ v' w' S',(Builtin.append_ #[t,t2] ty #[v0,y]).run P w=.ok v' w'/\Rel c st a w' S' H/\Rep w' S' (.jk e sz (n+m)) v':=by
 obtain⟨i,z,hi,hz,hsize,hbytes,hzs,hzl,hzo⟩:=ei.h
 have hsz:=ei.p
 have hnl:news.length=m*sz:=by rw[<- hls.1,hy]
 have hone:∀ u∈news,u.oneCell'=true:=by
  intro u hu
  obtain⟨j,hj,hju⟩:=yS hu
  have hj':j<ys.length:=by rw[hls.1];exact hj
  exact Rep.oneCell (hls.2 j _ u (zB hj') (by rw[zB hj,hju]))
 subst hsize
 subst hbytes
 have h63':((n+m:Nat):Int)<=9223372036854775807:=by simp only[maxLen] at h63;omega
 have grow:∀ (cells:Array Value) (cap:Nat),n+m<=cap->cap<=maxLen->cells.size=cap*i.size ->
   ∃ S',Rel c st a (w.drew.alloc (.cells cells e)) S' H/\Rep (w.drew.alloc (.cells cells e)) S' (.jk e i.size (n+m)) (.slice (some ⟨w.heap.size,0,none⟩) (n+m) cap):=by
  intro cells cap h1 h2 h3
  have hfr:=r.fresh (g:=w.heap.size) (zN _)
  have hnew:(w.drew.alloc (.cells cells e)).heap[w.heap.size]? = some (.cells cells e):=heap_alloc_new w.drew _
  have hold:∀ g,g<w.heap.size->(w.drew.alloc (.cells cells e)).heap[g]? = w.heap[g]? := λg hg=>Below.heap_alloc w.drew _ g hg
  have hcn:∀ j,(w.drew.alloc (.cells cells e)).cell? ⟨w.heap.size,j,none⟩=cells[j]? := λj=>by
   unfold World.cell?
   rw[show(w.drew.alloc (.cells cells e)).heap[(⟨w.heap.size,j,none⟩:Addr).block]? = some (.cells cells e) from hnew]
   rfl
  have hmk:(w.drew.alloc (.cells cells e)).cell? ⟨w.heap.size,Xk cells.size e,none⟩=none:=by
   rw[hcn];exact xS (Aqv _ _)
  have hk:∀ b j,S b j->(S b j\/(b=w.heap.size/\j=Xk cells.size e))/\(w.drew.alloc (.cells cells e)).cell? ⟨b,j,none⟩=w.cell? ⟨b,j,none⟩ :=
   λb j h=>⟨.inl h,World.cell?_of_block (a:=⟨b,j,none⟩) (hold b (r.sl.1 b j h))⟩
  refine⟨λb j=>S b j\/(b=w.heap.size/\j=Xk cells.size e),?_,?_⟩
  ·refine r.other w.heap.size (λp b hb=>hfr.1 p b hb) r.ex.size hk (λg hg _=>hold g hg) (λb j hb' hs'=>?_) ⟨λb j hs'=>?_,r.sl.2.1.mono hk,?_⟩ (by simp) rfl rfl rfl
   ·rcases hs' with hs'|hs'
    ·exact hs'
    ·omega
   ·rcases hs' with hs'|hs'
    ·have:=r.sl.1 b j hs';simp;omega
    ·rw[hs'.1];simp
   ·intro g j hs' hc'
    rcases hs' with hs'|⟨rfl,rfl⟩
    ·rw[(hk g j hs').2] at hc'
     obtain⟨⟨cur,e',q1,q2⟩,q3⟩:=r.sl.2.2 g j hs' hc'
     have hlt:=r.sl.1 g j hs'
     refine⟨⟨cur,e',(hold g hlt).trans q1,q2⟩,λj' hj'=>?_⟩
     rcases hj' with hj'|hj'
     ·exact(hk g j' hj').2.trans (q3 j' hj')
     ·omega
    ·refine⟨⟨cells,e,hnew,rfl⟩,λj' hj'=>?_⟩
     rcases hj' with hj'|hj'
     ·exact absurd hj' (hfr.2 j')
     ·rw[hj'.2];exact hmk
  ·refine .jk e i.size (n+m) w.heap.size cap h1 h2 ?_
   rw[<- h3]
   exact⟨.inr ⟨rfl,rfl⟩,hmk⟩
 have mkcells:∀ (olds:List Value) (old:Nat),olds.length=n*i.size ->
   (olds.toArray++news.toArray++Builtin.zeroCells z.cells (grownCap w (n+m) old e-(n+m))).size=grownCap w (n+m) old e*i.size:=λolds old ho=>by
  have hge:=grownCap_ge w (n+m) old e
  simp only[yQ,z7,size_zeroCells,hzs,ho,hnl,<- xP]
  congr 1
  omega
 by_cases hm0:m=0
 ·subst hm0
  have h1:news=[]:=zY (by rw[hnl,wT])
  subst h1
  refine⟨v0,w,S,?_,r,hv0⟩
  cases hv0 with
  | jk0=>exact Tl (n:=0) ht hi rfl h2 hs (zN _)
  | jk _ _ _ g cap hn hm hsj=>exact Tl ht hi rfl h2 hs hn
 cases hv0 with
 | jk0 =>
  obtain⟨S',hr,hp⟩:=grow (([]:List Value).toArray++news.toArray++Builtin.zeroCells z.cells (grownCap w (0+m) 0 e-(0+m))) (grownCap w (0+m) 0 e) (grownCap_ge w _ 0 e) (grownCap_le_maxLen w _ 0 e h63) (mkcells [] 0 (by simp))
  exact⟨_,_,S',Tq (n:=0) (cap:=0) ht hi hz h2 hs (λw1 _=>by simp [Builtin.firstCells]) (by omega) h63' (growslice_fits (by omega) hb),hr,hp⟩
 | jk _ _ _ g cap hn hm hsj =>
  obtain⟨⟨cur,e',q1,q2⟩,q3⟩:=r.sl.2.2 g _ hsj.1 hsj.2
  obtain⟨q4,q5⟩:=Amz q2
  subst q5
  have hmn:=r.mark_new hJ hsj.1 hsj.2
  have hmo:=r.mark_own hsj.1 hsj.2
  by_cases hroom:n+m<=cap
  ·have hfit:n*i.size+news.length<=cur.size:=by rw[hnl,<- q4,<- xP];exact xA _ hroom
   have hrun:=Aak (ty:=ty) (n:=n) (cap:=cap) ht hi h2 hs q1 hone hroom hfit
   have hrow:=setRow_heap w g cur (cur.toList.take (n*i.size)++news++cur.toList.drop (n*i.size+news.length)).toArray e _ q1
   have hoth:∀ q,q≠g->(w.setRow g (cur.toList.take (n*i.size)++news++cur.toList.drop (n*i.size+news.length)).toArray).heap[q]? = w.heap[q]? := λq hq=>setRow_other w g q _ hq
   have hcs:(cur.toList.take (n*i.size)++news++cur.toList.drop (n*i.size+news.length)).toArray.size=cur.size:=by
    simp only[z7,zH,zK,yC,z8];omega
   have hk:∀ b j,S b j->S b j/\(w.setRow g (cur.toList.take (n*i.size)++news++cur.toList.drop (n*i.size+news.length)).toArray).cell? ⟨b,j,none⟩=w.cell? ⟨b,j,none⟩:=by
    intro b j hS
    refine⟨hS,?_⟩
    by_cases hbg':b=g
    ·subst hbg'
     have hnone:=q3 j hS
     rw[hnone,cell_of_row _ b j _ e (0,0) hrow]
     rw[cell_of_row w b j cur e (0,0) q1] at hnone
     rw[Array.getElem?_eq_none_iff] at hnone ⊢
     rw[hcs];exact hnone
    ·exact World.cell?_of_block (w:=w) (hoth b hbg')
   refine⟨_,_,S,hrun,?_,.jk e i.size (n+m) g cap hroom hm ⟨hsj.1,(hk g _ hsj.1).2.trans hsj.2⟩⟩
   refine r.other g hmo hmn hk (λq _ hne=>hoth q hne) (λ_ _ _ h=>h) ⟨λb j hs'=>by simp;exact r.sl.1 b j hs',r.sl.2.1.mono hk,?_⟩ (by simp) rfl rfl rfl
   intro g' j hs' hc'
   rw[(hk g' j hs').2] at hc'
   obtain⟨⟨cur',e'',p1,p2⟩,p3⟩:=r.sl.2.2 g' j hs' hc'
   refine⟨?_,λj' hj'=>(hk g' j' hj').2.trans (p3 j' hj')⟩
   by_cases hgg:g'=g
   ·subst hgg
    rw[q1] at p1
    cases p1
    exact⟨_,_,hrow,by rw[hcs];exact p2⟩
   ·exact⟨cur',e'',(hoth g' hgg).trans p1,p2⟩
  ·have ho:∀ w1:World,(∀ a,w1.cell? a=w.cell? a)->(Builtin.firstCells i.size n (.slice (some ⟨g,0,none⟩) n cap)).run P w1=.ok (cur.toList.take (n*i.size)).toArray w1:=λw1 hw1=>by
    have hle:n*i.size<=cur.size:=by rw[<- q4];exact xA _ hn
    refine run_firstCells_some w1 i.size n ⟨g,0,none⟩ n cap _ (by rw[zK,z8];omega) λj v hv'=>?_
    rw[hw1,Addr.add_lit,yE,cell_of_row w g j cur e (0,0) q1]
    rw[yL] at hv'
    split at hv'
    ·simpa using hv'
    ·cases hv'
   have hle:n*i.size<=cur.size:=by rw[<- q4];exact xA _ hn
   obtain⟨S',hr,hp⟩:=grow ((cur.toList.take (n*i.size)).toArray++news.toArray++Builtin.zeroCells z.cells (grownCap w (n+m) cap e-(n+m))) (grownCap w (n+m) cap e) (grownCap_ge w _ cap e) (grownCap_le_maxLen w _ cap e h63) (mkcells _ cap (by rw[zK,z8];omega))
   exact⟨_,_,S',Tq (ty:=ty) ht hi hz h2 hs ho (by omega) h63' (growslice_fits (by omega) hb),hr,hp⟩
def Akf (w:World) (S:Cq):Cq:=λb i=>S b i/\w.cell? ⟨b,i,none⟩≠none
def NJ (l:Lf):Prop:=∀ w S v,Rep w S l v->Rep w (Akf w S) l v
theorem A4h {k:IntKind} {n:Int}:NJ (.i k n):=λw S v h=>by cases h;exact .i _ _
theorem A52 {x:Bool}:NJ (.b x):=λw S v h=>by cases h;exact .b _
theorem A15 {n:Nat} {cs:List Lf} (h:∀ l∈cs,NJ l):NJ (.sl n cs):=λw S v hv=>by
 cases hv with
 | sl0 a cap=>exact .sl0 a cap
 | sl n cs bk off cap vals hc hm hs hr =>
  exact .sl n cs bk off cap vals hc hm (λj l hl=>⟨⟨(hs j l hl).1,by rw[(hs j l hl).2];exact λh=>by cases h⟩,(hs j l hl).2⟩) (λj l hl=>h l (zJ hl) w S _ (hr j l hl))
theorem Ann {α:Type} {f:α->List Lf} (h:∀ x,∀ l∈f x,NJ l) {n:Nat} {xs:List α}:NJ (.sl n (xs.flatMap f)):=A15 λl hl=>by
 obtain⟨x,_,h2⟩:=List.mem_flatMap.1 hl
 exact h x l h2
theorem A1s (x:UInt8):∀ l∈eU8 x,NJ l:=λl h=>by
 rw[show l=_ from zV.1 h];exact A4h
def NJs (x:SV):Prop:=∀ l∈x.cells,NJ l
theorem Aoy {P:Program} {f:FuncId} {fn:Func} {body:Code} {args:List SV} {R:AV->Prop} (hf:P.funcs[f]? = some fn) (hb:fn.body=some body) {nt:Nat} (hnt:fn.ntmps=nt) (hn:args.length<=nt)
  {w:World} {S:Cq} {vs:Array Value} (hS:InH w S) (hv:Zd (Rep w S) args vs.toList) (h:AWC P (Ctx.of w S nt) body (At7 P fn R) ⟨Aoo args,[]⟩) :
  Calls P f vs w λe w'=>∃ v x S',e=.returned v/\R x/\Ext w S w' S'/\InH w' S'/\AVR (Rep w' S') x v:=by
 subst hnt
 refine calls_of_wp hf hb ?_
 have hlen:vs.size=args.length:=by have:=hv.1;simp at this;omega
 have hget:∀ i,(vs++Array.replicate (fn.ntmps-vs.size) undef).getD i undef=vs.getD i undef:=by
  intro i
  simp only[zF,kR]
  split
  ·rfl
  ·rename_i hi
   rw[xZ]
   have:vs[i]? = none:=xS (by omega)
   rw[this]
   split <;> rfl
 have r0:Rel (Ctx.of w S fn.ntmps) ⟨Aoo args,[]⟩ { tmps:=vs++Array.replicate (fn.ntmps-vs.size) undef,defers:=[] } w S (λ_=>undef):=by
  refine⟨by simp;omega,rfl,λi=>?_,λp b h=>by simp at h,λp b g h=>by simp at h,λp q b b' g h=>by simp at h,λp b g i h=>by simp at h,hS,Xi.refl _ w S,zX _,λp g h=>absurd h (zR _),λp e sz k cs h=>absurd h (zR _),λp h=>absurd h (zR _)⟩
  rw[hget]
  show AVR _ (match args[i]? with|some x=>.s x|none=>.tup []) _
  cases ha:args[i]? with
  | none =>
   have:vs[i]? = none:=xS (by rw[hlen];exact xR.1 ha)
   simp only[zF,this,jD]
   exact Ky
  | some x =>
   have hi:i<args.length:=(zC.1 ha).1
   have hi':i<vs.size:=by omega
   have:vs[i]? = some vs[i]:=zS hi'
   simp only[zF,this,yK]
   exact SVR.mono (λ_ _=>Ct.of_rep) (hv.2 i x _ ha (by simp))
 refine wp_mono (h _ _ _ _ r0) ?_
 rintro e a w1 ⟨st,S1,H,r,he,xs,ys,m',hx,hp,hR⟩
 obtain⟨u,hu,hk⟩:=Xw r hx
 obtain⟨S2,k2,g2⟩:=hp.keeps r
 have hav:=hk S2 ys g2
 have hfin:∃ v x S',Ending.returned u=.returned v/\R x/\Ext w S w1 S'/\InH w1 S'/\AVR (Rep w1 S') x v:=⟨u,Afo ys,S2,rfl,hR,k2.rel.ex.toExt (λ_ h=>h),k2.rel.sl,hav⟩
 rcases he with rfl|rfl
 ·exact⟨r.df,u,hu,hfin⟩
 ·exact⟨r.df,u,hu,hfin⟩
theorem Amq {P:Program} {f:FuncId} {fn:Func} {body:Code} {args:List SV} {R:AV->Prop} (hf:P.funcs[f]? = some fn) (hb:fn.body=some body) {nt:Nat} (hnt:fn.ntmps=nt) (hn:args.length<=nt)
  (hJ:∀ x∈args,NJs x) (hGL:∀ x∈GL,NJ (.cp x.2)) (h:∀ w0 S0,Ako (Ctx.of w0 S0 nt)->AWC P (Ctx.of w0 S0 nt) body (At7 P fn R) ⟨Aoo args,[]⟩):Bt P f args R:=by
 intro w S vs hS hv
 have hS1:InH w (Akf w S):=⟨λb i hs=>hS.1 b i hs.1,λx hx=>hGL x hx w S _ (hS.2.1 x hx),λg i hs hc=>absurd hc hs.2⟩
 have hv1:Zd (Rep w (Akf w S)) args vs.toList:=⟨hv.1,λj x v hx hu=>by
  have hr:=hv.2 j x v hx hu
  have hn:=hJ x (zJ hx)
  cases x with
  | one l=>exact hn l (zV.2 rfl) w S v hr
  | agg ls =>
   obtain⟨cs,h1,h2,h3⟩:=hr
   exact⟨cs,h1,h2,λk l u hl hk=>hn l (zJ hl) w S u (h3 k l u hl hk)⟩⟩
 refine(Aoy hf hb hnt hn hS1 hv1 (h w (Akf w S) ⟨λ_ h=>h,λg i hs=>hs.2⟩)).mono ?_
 rintro e w' ⟨v,x,S',he,hR,hx,hin,hav⟩
 have hlt:∀ g i,S g i->g<w.heap.size:=hS.1
 have hcell:∀ g,g<w.heap.size->∀ i,w'.cell? ⟨g,i,none⟩=w.cell? ⟨g,i,none⟩:=λg hg i=>World.cell?_of_block (a:=⟨g,i,none⟩) (hx.blk g hg)
 refine⟨v,x,λb i=>S' b i\/S b i,he,hR,⟨hx.os,hx.tape,hx.output,hx.size,hx.blk,λb i hs=>.inr hs,λb i hb hs=>?_⟩,⟨λb i hs=>?_,hin.2.1.mono λb i hs=>⟨.inl hs,rfl⟩,λg i hs hc=>?_⟩,AVR.mono (λl v=>Rep.sub λb i hs=>.inl hs) hav⟩
 ·rcases hs with hs|hs
  ·exact(hx.back b i hb hs).1
  ·exact hs
 ·rcases hs with hs|hs
  ·exact hin.1 b i hs
  ·exact zU (hlt b i hs) hx.size
 ·by_cases hg:g<w.heap.size
  ·have hSg:S g i:=by
    rcases hs with hs|hs
    ·exact(hx.back g i hg hs).1
    ·exact hs
   have hc0:=hc
   rw[hcell g hg] at hc0
   obtain⟨⟨cur,e',q1,q2⟩,q3⟩:=hS.2.2 g i hSg hc0
   refine⟨⟨cur,e',(hx.blk g hg).trans q1,q2⟩,λj hj=>?_⟩
   rw[hcell g hg]
   rcases hj with hj|hj
   ·exact q3 j (hx.back g j hg hj).1
   ·exact q3 j hj
  ·rcases hs with hs|hs
   ·obtain⟨q1,q2⟩:=hin.2.2 g i hs hc
    refine⟨q1,λj hj=>?_⟩
    rcases hj with hj|hj
    ·exact q2 j hj
    ·exact absurd (hlt g j hj) hg
   ·exact absurd (hlt g i hs) hg
section
variable {P:Program} {c:Ctx} {m:List Blk} {t:Nat->AV} {ops:Array Oper} {Q:Exit->AS->Prop} {rest:List Oper} {ty:TypeId} {pos:String} {af:Array Edge} {d:Tmp}
theorem A08 {x y:Operand} {t' t2 e sz bytes n mm:Nat} {zl ys:List Lf} {yv yv':SV} {m':List Blk} (hJ:Ako c) (hd:decide (d<c.nt)=true) (si:P.underlying t'=some (.slice e)) (ei:EI P e sz bytes zl) (h2:NI P t2) (hx:C6 ⟨t,m⟩ x=.s (.one (.jk e sz n))) (hy:C6 ⟨t,m⟩ y=.s yv)
  (hp:Hl m yv yv' m') (hsrc:Aep P yv' sz mm ys) (h:n+mm<=maxLen/\(n+mm)*bytes<=140737488355328)
  (kk:AWL P c ops Q rest ⟨upd t d (.s (.one (.jk e sz (n+mm)))),m'⟩) :
  AWL P c ops Q (⟨some d,.call { callee:=.builtin .append,args:=#[x,y],argTypes:=#[t',t2] },ty,pos,af,none⟩::rest) ⟨t,m⟩:=by
 intro a w S H r
 have hy':=B1 r y
 rw[hy] at hy'
 obtain⟨S1,k1,g1⟩:=hp.keeps r
 have hyr:=g1 _ hy'
 obtain⟨news,hs,hyl,hls⟩:=hsrc.src hyr
 have hx':=B1 r x
 rw[hx] at hx'
 have hx2:Rep w S1 (.jk e sz n) (a.eval x):=Rep.sub k1.sub hx'
 obtain⟨v',w',S',hrun,hrel,hrep⟩:=k1.rel.appendJ (P:=P) (ty:=ty) hJ si ei h2 hx2 hs hyl hls h.1 h.2
 refine wpList_plain rfl λK hK=>?_
 unfold Oper.wp
 have hrun':(execOp a.eval ⟨some d,.call { callee:=.builtin .append,args:=#[x,y],argTypes:=#[t',t2] },ty,pos,af,none⟩).run P w=.ok (.value v') w':=by
  simp [execOp,resolve,invoke,builtin,hrun]
 rw[hrun']
 exact hK _ _ (kk _ _ _ _ (hrel.put (d:=d) (x:=.s (.one (.jk e sz (n+mm)))) (of_decide_eq_true hd) (show Rep w' S' (.jk e sz (n+mm)) v' from hrep)))
end
open Go.RowKit
theorem R.{u} {α:Sort u} {a:α}:a=a:=rfl
section
variable {P:Program} {c:Ctx} {t:Nat->AV} {m:List Blk} {ops:Array Oper} {Q:Exit->AS->Prop} {rest:List Oper} {ty:TypeId} {pos:String} {af:Array Edge} {d:Tmp}
theorem ld {T:TypeId} {sz:Nat} {x:Operand} {p off:Nat} {cs:List Lf} (ti:TI P T true sz) (h1:decide (d<c.nt)=true) (hx:C6 ⟨t,m⟩ x=.s (.one (.lp p off))) (hm:m[p]? = some (.box cs)) (hy:Nat.ble sz (cs.drop off).length=true)
  (k:AWL P c ops Q rest ⟨upd t d (.s (.agg ((cs.drop off).take sz))),m⟩):AWL P c ops Q (⟨some d,.load T x,ty,pos,af,none⟩::rest) ⟨t,m⟩ :=
 sv h1 (Vu ti hx (.lp _ _ _ hm) (wZ hy)) k
theorem sst {t':TypeId} {x y:Operand} {p off sz:Nat} {v:SV} {cs:List Lf} (hi:(P.info? t').map (·.size)=some sz) (hx:C6 ⟨t,m⟩ x=.s (.one (.lp p off))) (hy:C6 ⟨t,m⟩ y=.s v) (hm:m[p]? = some (.box cs))
  (hv:v.cells.length=sz) (hfit:Nat.ble (off+sz) cs.length=true)
  (k:AWL P c ops Q rest ⟨t,m.set p (.box (Ow cs off v.cells))⟩):AWL P c ops Q (⟨none,.store t' x y,ty,pos,af,none⟩::rest) ⟨t,m⟩ :=
 Ayc hi hx hy hm hv (wZ hfit) k
theorem ssI {l:List Oper} (dj:Tmp) {b:Bool} {α:Type} {u v:Option α} {r:α} (h:(if b then u else v)=some r) (ht:t dj=.s (.one (.b b))) (k1:u=some r->AWL P c ops Q l ⟨upd t dj (.s (.one (.b true))),m⟩) (k0:v=some r->AWL P c ops Q l ⟨upd t dj (.s (.one (.b false))),m⟩):AWL P c ops Q l ⟨t,m⟩ :=
 Aqc dj ht (λhc=>k1 (Q5 hc h)) (λhc=>k0 (Qy hc h))
theorem ra {st:AS} {t:Tmp} {ty:TypeId} {sz:Nat} {p off:Nat} {cs:List Lf} (ti:TI P ty true sz) (h:st.t t=.s (.one (.lp p off))) (hm:st.m[p]? = some (.box cs)) (hy:Nat.ble sz (cs.drop off).length=true):Ak5 P st (.cell t ty) (.agg ((cs.drop off).take sz)) :=
 .agg _ _ _ _ _ ti h (.lp _ _ _ hm) (wZ hy)
theorem rt {st:AS} {t:Tmp} {x:SV} (h:st.t t=.s x):Ak5 P st (.tmp t) x:=.tmp _ _ h
theorem dn {fn:Func} {R':AV->Prop} {st:AS} {xs ys:List SV} {m':List Blk} (hr:Ac8 P st fn.results.toList xs) (hp:Ho st.m xs ys m') (h:R' (Afo ys)):At7 P fn R' .ret st:=⟨Or.inr rfl,xs,ys,m',hr,hp,h⟩
theorem Ata {ws es:List Nat} {all:List (List Blk)} {k:(Nat->AV)->Prop} {i:Nat} {Ms:List (List Blk)} {l:List Oper} (dj:Tmp) {y:AV} (z:AV) (ht:t dj=y) (e:y=z) (kk:DE P c ops ws es all k i Ms l (upd t dj z)):DE P c ops ws es all k i Ms l t:=by
 subst e
 have:upd t dj y=t:=by
  funext j
  rw[Ik]
  split
  ·rename_i h;rw[h,ht]
  ·rfl
 rwa [this] at kk
end
open Go.RowKit
def cjB (n:Nat) (sl:List (Nat×AV)) (mm:List Blk):Bool:=(sl.all λp=>p.2.inbB mm.length)&&mm.all (Blk.inbB mm.length)&&Nat.ble n mm.length
theorem Ara {n:Nat} {sl:List (Nat×AV)} {mm:List Blk} (h:cjB n sl mm=true):Aq0 mm.length sl/\(∀ b∈mm,b.inb mm.length)/\n<=mm.length:=by
 unfold cjB at h
 simp only[yD] at h
 exact⟨Acn h.1.1,Uz h.1.2,wZ h.2⟩
section
variable {P:Program} {c:Ctx} {Q Q' Q'':Exit->AS->Prop} {st:AS}
theorem cj {x y:Code} (G:Type) (sl:G->List (Nat×AV)) (mm:G->List Blk) (pre:G->Prop) (hb:∀ g,cjB c.m0.length (sl g) (mm g)=true)
  (hy:∀ g,pre g->AWC P c y Q ⟨Afq (λ_=>.top) (sl g),mm g⟩) (hx:AWC P c x (Qm (Axc sl mm pre) Q') st):AWC P c x (Qm (AWC P c y Q) Q') st :=
 A1q G sl mm pre (λg _=>(Ara (hb g)).1) (λg _=>(Ara (hb g)).2.1) (λg _=>(Ara (hb g)).2.2) hy hx
theorem cj3 {x y z:Code} (G:Type) (sl:G->List (Nat×AV)) (mm:G->List Blk) (pre:G->Prop) (hb:∀ g,cjB c.m0.length (sl g) (mm g)=true)
  (hy:∀ g,pre g->AWC P c z Q ⟨Afq (λ_=>.top) (sl g),mm g⟩) (hx:AWC P c x (Qm (AWC P c y (Qm (Axc sl mm pre) Q'')) Q') st):AWC P c x (Qm (AWC P c y (Qm (AWC P c z Q) Q'')) Q') st :=
 Az9 G sl mm pre (λg _=>(Ara (hb g)).1) (λg _=>(Ara (hb g)).2.1) (λg _=>(Ara (hb g)).2.2) hy hx
theorem lpo {body:Code} {G:Type} (sl:G->List (Nat×AV)) (mm:G->List Blk) (pre:G->Prop) (μ:G->Nat) (g0:G) (p0:pre g0) (s0:Y5 st.t (sl g0)) (ex:List Blk) (m0:st.m=mm g0++ex) (hb:∀ g,cjB c.m0.length (sl g) (mm g)=true)
  (round:∀ g,pre g->AWC P c body (Qm (λst'=>∃ g' ex',pre g'/\Y5 st'.t (sl g')/\st'.m=mm g'++ex'/\μ g'<μ g) Q) ⟨Afq (λ_=>.top) (sl g),mm g⟩):AWC P c (.loop body) Q st :=
 Arw sl mm pre μ g0 p0 s0 ex m0 (λg _=>(Ara (hb g)).1) (λg _=>(Ara (hb g)).2.1) (λg _=>(Ara (hb g)).2.2) round
theorem lo {ty t:TypeId} {sz:Nat} {x:Operand} {p off:Nat} {cs:List Lf} (ti:TI P t true sz) (hx:C6 st x=.s (.one (.lp p off))) (hm:st.m[p]? = some (.box cs)) (hy:Nat.ble sz (cs.drop off).length=true):OpV P c st (.load t x) ty (.s (.agg ((cs.drop off).take sz))) :=
 Vu ti hx (.lp _ _ _ hm) (wZ hy)
theorem l1 {ty t:TypeId} {x:Operand} {p off:Nat} {cs:List Lf} {y:Lf} (ti:TI P t false 1) (hx:C6 st x=.s (.one (.lp p off))) (hm:st.m[p]? = some (.box cs)) (hy:(cs.drop off)[0]? = some y):OpV P c st (.load t x) ty (.s (.one y)) :=
 B0 ti hx (.lp _ _ _ hm) hy
end
end Go.Proofs.YtkblaobhhoebaaaGreat.Abs
