/-
  A walk over abstract states: its rules, part A.
-/
import Derived.WalkKit
import Derived.Laws.CopyOwn
import Derived.Orders
import Derived.ProofKit
set_option linter.unusedVariables false
set_option linter.unusedSimpArgs false
namespace Go.Proofs.YtkblaobhhoebaaaGreat.Abs
open Go.RowKit
abbrev zA:=@Option.bind_some
abbrev zB:=@List.getElem?_eq_some_iff
abbrev zC:=@List.getElem?_eq_getElem
abbrev zD:=@List.mem_of_getElem?
abbrev zF:=@Option.some.inj
abbrev zG:=@Bool.and_eq_true
abbrev zH:=@Array.getD_eq_getD_getElem?
abbrev zI:=@List.length_append
abbrev zJ:=@List.all_eq_true
abbrev zK:=@List.getElem?_map
abbrev zL:=@List.getElem?_append_left
abbrev zM:=@Nat.eq_of_beq_eq_true
abbrev zN:=@List.getElem?_set_self
abbrev zO:=@List.take_succ_eq_append_getElem
abbrev zP:=@List.length_map
abbrev zQ:=@Nat.lt_or_ge
abbrev zR:=@List.length_take
abbrev zS:=@List.getElem?_set_ne
abbrev zT:=@Nat.le_refl
abbrev zU:=@Nat.zero_le
abbrev zV:=@Bool.false_eq_true
abbrev zW:=@Nat.not_lt_zero
abbrev zX:=@List.getElem?_append_right
abbrev zY:=@Nat.lt_of_lt_of_le
abbrev zZ:=@List.getElem?_eq_none
abbrev z2:=@Option.some.injEq
abbrev z6:=@Int.toNat_natCast
abbrev z7:=@List.pairwise_iff_getElem
abbrev z8:=@List.mem_singleton
abbrev z9:=@Array.getElem?_eq_getElem
abbrev yA:=@List.mem_map
abbrev yB:=@List.mem_cons
abbrev yC:=@Array.getElem?_eq_some_iff
abbrev yD:=@List.length_singleton
abbrev yE:=@List.eq_nil_of_length_eq_zero
abbrev yF:=@List.length_drop
abbrev yG:=@List.mem_append
abbrev yH:=@List.mem_cons_of_mem
abbrev yI:=@List.size_toArray
abbrev yJ:=@List.take_of_length_le
abbrev yK:=@Bool.not_true
abbrev yL:=@Array.length_toList
abbrev yM:=@List.take_length
abbrev yN:=@Nat.le_of_ble_eq_true
abbrev yO:=@List.mem_filter
abbrev yP:=@List.getElem?_drop
abbrev yQ:=@List.mem_cons_self
abbrev yR:=@List.getElem?_take
abbrev yS:=@Option.getD_some
abbrev yT:=@Nat.zero_add
abbrev yU:=@Nat.le_trans
abbrev yV:=@List.getElem?_cons_zero
abbrev yW:=@List.getElem_mem
abbrev yX:=@List.pairwise_cons
abbrev yY:=@List.flatMap_cons
abbrev yZ:=@List.length_cons
abbrev y9:=@List.getElem_of_mem
abbrev xA:=@List.length_set
abbrev xB:=@List.drop_eq_getElem_cons
abbrev xC:=@List.append_nil
abbrev xD:=@UInt8.lt_irrefl
abbrev xE:=@List.append_assoc
abbrev xF:=@List.any_eq_true
abbrev xG:=@List.take_append_of_le_length
abbrev xH:=@List.mem_iff_getElem?
abbrev xI:=@UInt8.lt_iff_toNat_lt
abbrev xJ:=@List.map_append
abbrev xK:=@List.length_filter_le
abbrev xL:=@Array.getElem?_setIfInBounds_ne
abbrev xM:=@Option.map_some
abbrev xN:=@List.map_cons
abbrev xO:=@Nat.le_succ
abbrev xP:=@List.take_append_drop
abbrev xQ:=@Bool.not_eq_true'
abbrev xR:=@Nat.lt_succ_self
abbrev xS:=@Int.le_refl
abbrev xU:=@List.map_congr_left
abbrev xV:=@Nat.mul_le_mul_right
abbrev xW:=@Int.natCast_add
abbrev xX:=@List.flatten_append
abbrev xY:=@List.toList_toArray
abbrev xZ:=@Int.natCast_nonneg
abbrev x9:=@List.map_set
abbrev wA:=@List.ext_getElem?
abbrev wB:=@Array.getElem?_setIfInBounds_self_of_lt
abbrev wC:=@Array.getElem?_toList
abbrev wD:=@List.getElem?_eq_none_iff
abbrev wE:=@List.nodup_cons
abbrev wF:=@Nat.lt_irrefl
abbrev wG:=@Bool.true_and
abbrev wH:=@List.pairwise_map
abbrev wJ:=@Nat.add_mul
abbrev wK:=@Option.map_eq_some_iff
abbrev wL:=@List.all_cons
abbrev wM:=@List.mem_append_left
abbrev wN:=@List.drop_of_length_le
abbrev wO:=@List.nil_append
abbrev wP:=@Array.getElem?_replicate
abbrev wQ:=@Array.size_append
abbrev wR:=@List.map_id
abbrev wS:=@List.pairwise_singleton
abbrev wT:=@Bool.not_false
abbrev wU:=@List.pairwise_append
abbrev wV:=@Array.getElem?_eq_none
abbrev wW:=@Nat.one_mul
abbrev wX:=@List.getElem_map
abbrev wY:=@Int.lt_irrefl
abbrev wZ:=@Nat.zero_mul
abbrev w4:=@List.mem_append_right
abbrev w6:=@List.mem_range
abbrev w7:=@Array.getElem?_modify
abbrev w8:=@List.foldl_cons
abbrev w9:=@Array.all_eq_true'
abbrev kC:=@List.mem_filterMap
abbrev kD:=@List.getElem?_cons_succ
abbrev kE:=@List.findIdx_getElem
abbrev kF:=@Nat.le_of_eq
abbrev kG:=@List.getElem?_set
abbrev kH:=@Nat.lt_trichotomy
abbrev kJ:=@Int.le_of_lt
abbrev kK:=@List.filter_cons
abbrev kL:=@List.drop_drop
abbrev kM:=@List.nodup_nil
abbrev kN:=@Nat.min_eq_left
abbrev kO:=@Bool.or_eq_true
abbrev kP:=@List.set_eq_take_append_cons_drop
abbrev kQ:=@List.find?_eq_none
abbrev kR:=@Nat.add_zero
abbrev kS:=@Nat.succ_mul
abbrev kT:=@List.take_left'
abbrev kU:=@List.any_eq_false
abbrev kV:=@Array.toList_append
abbrev kW:=@List.flatMap_append
abbrev kX:=@Array.getElem?_setIfInBounds
abbrev kY:=@List.drop_length
abbrev kZ:=@Nat.sub_self
abbrev k7:=@Array.getElem?_append_left
abbrev k8:=@List.perm_ext_iff_of_nodup
abbrev k9:=@List.mem_of_find?_eq_some
abbrev jA:=@List.drop_append
abbrev jB:=@List.filter_sublist
abbrev jC:=@Nat.le_mul_of_pos_right
abbrev jD:=@Nat.add_assoc
abbrev jE:=@List.find?_cons
abbrev jF:=@Nat.eq_zero_or_pos
abbrev jG:=@List.length_nil
abbrev jH:=@Nat.mul_one
abbrev jI:=@List.getElem_take
abbrev jJ:=@Bool.eq_false_iff
abbrev jK:=@Array.getElem?_append
abbrev jL:=@List.length_mergeSort
abbrev jM:=@Array.getElem_toList
abbrev jN:=@Nat.eq_of_mul_eq_mul_right
abbrev jO:=@List.map_take
abbrev jP:=@Bool.and_true
abbrev jQ:=@List.getElem?_range
abbrev jR:=@Array.toList_modify
abbrev jS:=@List.filter_eq_self
abbrev jT:=@Array.mapM_eq_mapM_toList
abbrev jU:=@List.length_zip
abbrev jV:=@List.mem_or_eq_of_mem_set
abbrev jW:=@Bool.eq_iff_iff
abbrev jX:=@Nat.add_sub_cancel
abbrev jY:=@List.set_set
abbrev jZ:=@List.filter_append
abbrev j0:=@Nat.lt_succ_iff_lt_or_eq
abbrev j1:=@List.any_nil
abbrev j2:=@List.take_zero
abbrev j3:=@Bool.and_false
abbrev j4:=@List.nodup_append
abbrev j5:=@List.filter_eq_nil_iff
abbrev j6:=@List.not_of_lt_findIdx
abbrev j7:=@List.findIdx_le_length
abbrev j8:=@List.findIdx_eq_length
abbrev j9:=@List.map_drop
abbrev zAa:=@List.any_cons
abbrev zAb:=@Option.getD_none
abbrev zAc:=@List.countP_le_length
abbrev zAd:=@Nat.ble_eq_true_of_le
abbrev zAe:=@Nat.add_comm
abbrev zAf:=@List.mem_of_mem_drop
abbrev zAg:=@List.contains_eq_mem
abbrev zAh:=@Nat.lt_trans
abbrev zAi:=@List.find?_some
abbrev zAj:=@Bool.false_and
abbrev Dx:=Nat->Nat->Prop
inductive Lf where
  | i (k:IntKind) (n:Int)
  | b (x:Bool)
  | s (x:ByteArray)
  | raw (v:Value)
  | sl (n:Nat) (cs:List Lf)
  | cp (cs:List Lf)
  | lp (p off:Nat)
  | ls (p n:Nat)
  | ap (p n off:Nat)
  | mp (k p:Nat)
  | fn (f:FuncId) (a b:List Lf)
  | nix
  | jk (e sz n:Nat)
abbrev SL {α:Type} (x:List α) (f:α->List Lf):Lf:=.sl x.length (x.flatMap f)
inductive SV where
  | one (l:Lf)
  | agg (ls:List Lf)
inductive AV where
  | s (x:SV)
  | tup (xs:List SV)
  | top
abbrev L7 (l:Lf):AV:=.s (.one l)
inductive Blk where
  | box (cs:List Lf)
  | arr (e sz k:Nat) (cs:List Lf)
  | dead
  | hole
  | obj (g:Nat) (mk:List (List Value)->Obj->Prop) (cs:List (List Lf))
  | tab (mk:List (List Value)->Obj->Prop) (cs:List (List Lf))
  | arn (e sz g n cap:Nat) (cs:List Lf)
def Adk:Nat->Nat->Value
  | 0,g=>.map (some g)
  | _,g=>.chan (some g)
theorem Arm (k g:Nat):(Adk k g).oneCell'=true:=by cases k <;> rfl
def Aqr:Obj->Bool
  | .map .. | .chan .. | .mapIter .. =>true
  | _=>false
def Ag3:Obj->Bool
  | .cells .. | .map .. | .chan .. | .mapIter .. =>true
  | _=>false
theorem Amg {o:Obj} (h:Aqr o=true):Ag3 o=true:=by cases o <;> first|rfl|cases h
structure AS where
  t:Nat->AV
  m:List Blk
section
variable {st:AS} {x:AV} {a:Act} {l:Lf} {R:Lf->Value->Prop} {m:List Blk} {ls:List Lf} {cs xs:List Value} {d:Nat} {t:Nat->AV} {X:Nat->Prop} {H:Nat->Value} {S S':Dx} {v:Value} {w w':World}
def upd (t:Nat->AV) (d:Nat) (x:AV):Nat->AV:=λj=>cond (Nat.beq j d) x (t j)
theorem Et (t:Nat->AV) (d:Nat) (x:AV) (j:Nat):upd t d x j=if j=d then x else t j:=by
  unfold upd
  by_cases h:j=d
  · subst h;simp
  · have:Nat.beq j d=false:=by
      cases hb:Nat.beq j d with
      | false=>rfl
      | true=>exact absurd (zM hb) h
    rw[this,if_neg h];rfl
def AS.upd (st:AS) (d:Nat) (x:AV):AS:=⟨Go.Proofs.YtkblaobhhoebaaaGreat.Abs.upd st.t d x,st.m⟩
def Asl (n e:Nat):Nat:=(n+e)*(n+e)+n
inductive Rep (w:World) (S:Dx):Lf->Value->Prop
  | i (k:IntKind) (n:Int):Rep w S (.i k n) (.int k n)
  | b (x:Bool):Rep w S (.b x) (.bool x)
  | s (x:ByteArray):Rep w S (.s x) (.string x)
  | raw (v:Value) (h:v.oneCell'=true):Rep w S (.raw v) v
  | sl0 (a:Option Addr) (cap:Nat):Rep w S (.sl 0 []) (.slice a 0 cap)
  | sl (n:Nat) (cs:List Lf) (bk off cap:Nat) (vals:Nat->Value) (hc:n<=cap) (hm:cap<=maxLen)
      (hs:∀ (j:Nat) (l:Lf),cs[j]? = some l->S bk (off+j)/\w.cell? ⟨bk,off+j,none⟩=some (vals j))
      (hr:∀ (j:Nat) (l:Lf),cs[j]? = some l->Rep w S l (vals j)):Rep w S (.sl n cs) (.slice (some ⟨bk,off,none⟩) n cap)
  | cp (cs:List Lf) (bk off:Nat) (vals:Nat->Value)
      (hs:∀ (j:Nat) (l:Lf),cs[j]? = some l->S bk (off+j)/\w.cell? ⟨bk,off+j,none⟩=some (vals j))
      (hr:∀ (j:Nat) (l:Lf),cs[j]? = some l->Rep w S l (vals j)):Rep w S (.cp cs) (.pointer (some ⟨bk,off,none⟩))
  | fn (f:FuncId) (a b:List Lf) (va vb:Array Value) (ha:a.length=va.size) (hb:b.length=vb.size)
      (ra:∀ (j:Nat) (l:Lf) (v:Value),a[j]? = some l->va[j]? = some v->Rep w S l v)
      (rb:∀ (j:Nat) (l:Lf) (v:Value),b[j]? = some l->vb[j]? = some v->Rep w S l v):Rep w S (.fn f a b) (.func (.func f) va vb)
  | nix (a:Option Addr):Rep w S .nix (.slice a 0 0)
  | jk0 (e sz:Nat):Rep w S (.jk e sz 0) (.slice none 0 0)
  | jk (e sz n g cap:Nat) (hn:n<=cap) (hm:cap<=maxLen) (hs:S g (Asl (cap*sz) e)/\w.cell? ⟨g,Asl (cap*sz) e,none⟩=none):Rep w S (.jk e sz n) (.slice (some ⟨g,0,none⟩) n cap)
theorem Rep.mono (h:∀ b i,S b i->S' b i/\w'.cell? ⟨b,i,none⟩=w.cell? ⟨b,i,none⟩) (r:Rep w S l v):Rep w' S' l v:=by
  induction r with
  | i k n=>exact .i k n
  | b x=>exact .b x
  | s x=>exact .s x
  | raw v h=>exact .raw v h
  | sl0 a cap=>exact .sl0 a cap
  | sl n cs bk off cap vals hc hm hs _ ih =>
    exact .sl n cs bk off cap vals hc hm (λj l hl=>⟨(h _ _ (hs j l hl).1).1,(h _ _ (hs j l hl).1).2.trans (hs j l hl).2⟩) ih
  | cp cs bk off vals hs _ ih =>
    exact .cp cs bk off vals (λj l hl=>⟨(h _ _ (hs j l hl).1).1,(h _ _ (hs j l hl).1).2.trans (hs j l hl).2⟩) ih
  | fn f a b va vb ha hb _ _ iha ihb=>exact .fn f a b va vb ha hb iha ihb
  | nix a=>exact .nix a
  | jk0 e sz=>exact .jk0 e sz
  | jk e sz n g cap hn hm hs=>exact .jk e sz n g cap hn hm ⟨(h _ _ hs.1).1,(h _ _ hs.1).2.trans hs.2⟩
theorem Rep.oneCell (r:Rep w S l v):v.oneCell'=true:=by
  cases r <;> first|rfl|assumption
structure Ext (w:World) (S:Dx) (w':World) (S':Dx):Prop where
  os:w'.os=w.os
  tape:w'.tape=w.tape
  output:w'.output=w.output
  size:w.heap.size<=w'.heap.size
  blk:∀ b,b<w.heap.size->w'.heap[b]? = w.heap[b]?
  sub:∀ b i,S b i->S' b i
  back:∀ b i,b<w.heap.size->S' b i->S b i
theorem Ext.refl (w:World) (S:Dx):Ext w S w S:=⟨rfl,rfl,rfl,zT _,λ_ _=>rfl,λ_ _ h=>h,λ_ _ _ h=>h⟩
theorem Ext.trans {w'':World} {S'':Dx} (h:Ext w S w' S') (k:Ext w' S' w'' S''):Ext w S w'' S'' :=
  ⟨k.os.trans h.os,k.tape.trans h.tape,k.output.trans h.output,yU h.size k.size,
   λb hb=>(k.blk b (zY hb h.size)).trans (h.blk b hb),λb i hs=>k.sub b i (h.sub b i hs),
   λb i hb hs=>h.back b i hb (k.back b i (zY hb h.size) hs)⟩
theorem Ext.drew (w:World) (S:Dx):Ext w S w.drew S:=⟨rfl,rfl,rfl,zT _,λ_ _=>rfl,λ_ _ h=>h,λ_ _ _ h=>h⟩
theorem Ext.alloc (w:World) (S:Dx) (o:Obj):Ext w S (w.alloc o) S :=
  ⟨rfl,rfl,rfl,by simp,λb hb=>Below.heap_alloc w o b hb,λ_ _ h=>h,λ_ _ _ h=>h⟩
theorem Ext.cell (h:Ext w S w' S') {a:Addr} (ha:a.block<w.heap.size):w'.cell? a=w.cell? a :=
  World.cell?_of_block (w:=w) (h.blk _ ha)
theorem Ext.below (h:Ext w S w' S'):Below w.heap.size w w':=⟨h.os,h.tape,h.output,h.size,h.blk⟩
def GL:List (Nat×List Lf):=[]
def GLR (w:World) (S:Dx):Prop:=∀ x∈GL,Rep w S (.cp x.2) (.pointer (some ⟨x.1,0,none⟩))
theorem GLR.mono (h:∀ b i,S b i->S' b i/\w'.cell? ⟨b,i,none⟩=w.cell? ⟨b,i,none⟩) (r:GLR w S):GLR w' S':=λx hx=>Rep.mono h (r x hx)
def Ag7 (w:World) (S:Dx):Prop:=∀ g i,S g i->w.cell? ⟨g,i,none⟩=none ->
  (∃ cur e,w.heap[g]? = some (.cells cur e (0,0))/\i=Asl cur.size e)/\∀ j,S g j->w.cell? ⟨g,j,none⟩=none
def InH (w:World) (S:Dx):Prop:=(∀ b i,S b i->b<w.heap.size)/\GLR w S/\Ag7 w S
theorem Ag7.ext (h:Ext w S w' S) (hl:∀ b i,S b i->b<w.heap.size) (k:Ag7 w S):Ag7 w' S:=by
  intro g i hs hc
  have hb:=h.blk g (hl g i hs)
  have hcc:∀ j,w'.cell? ⟨g,j,none⟩=w.cell? ⟨g,j,none⟩:=λj=>World.cell?_of_block (a:=⟨g,j,none⟩) hb
  rw[hcc] at hc
  obtain⟨⟨cur,e,h1,h2⟩,h3⟩:=k g i hs hc
  exact⟨⟨cur,e,hb.trans h1,h2⟩,λj hj=>(hcc j).trans (h3 j hj)⟩
theorem Ext.keeps (h:Ext w S w' S') (hS:InH w S):∀ b i,S b i->S' b i/\w'.cell? ⟨b,i,none⟩=w.cell? ⟨b,i,none⟩ :=
  λb i hs=>⟨h.sub b i hs,h.cell (hS.1 b i hs)⟩
theorem InH.ext (h:Ext w S w' S) (hS:InH w S):InH w' S:=⟨λb i hs=>zY (hS.1 b i hs) h.size,hS.2.1.mono (h.keeps hS),hS.2.2.ext h hS.1⟩
theorem InH.two (h:InH w S):(∀ b i,S b i->b<w.heap.size)/\GLR w S:=⟨h.1,h.2.1⟩
theorem InH.turn2 (h:w.heap.size<=w'.heap.size) (hk:∀ b i,S b i->w'.cell? ⟨b,i,none⟩=w.cell? ⟨b,i,none⟩) (hS:InH w S):(∀ b i,S b i->b<w'.heap.size)/\GLR w' S:=⟨λb i hs=>zY (hS.1 b i hs) h,hS.2.1.mono λb i hs=>⟨hs,hk b i hs⟩⟩
theorem Ag7.add (k:Ag7 w S) (h:∀ b i,S' b i->S b i\/(w.cell? ⟨b,i,none⟩≠none/\∀ j,¬ S b j)):Ag7 w S':=by
  intro g i hs hc
  rcases h g i hs with h1|h1
  · obtain⟨h2,h3⟩:=k g i h1 hc
    exact⟨h2,λj hj=>by
      rcases h g j hj with h4|h4
      · exact h3 j h4
      · exact absurd h1 (h4.2 i)⟩
  · exact absurd hc h1.1
theorem Ag7.turn (G:Nat->Prop) (hG:∀ g i,G g->S g i->w.cell? ⟨g,i,none⟩≠none) (hb:∀ g,g<w.heap.size->¬ G g->w'.heap[g]? = w.heap[g]?) (hk:∀ b i,S b i->w'.cell? ⟨b,i,none⟩=w.cell? ⟨b,i,none⟩) (hl:∀ b i,S b i->b<w.heap.size) (k:Ag7 w S):Ag7 w' S:=by
  intro g i hs hc
  rw[hk g i hs] at hc
  obtain⟨⟨cur,e,h1,h2⟩,h3⟩:=k g i hs hc
  refine⟨⟨cur,e,(hb g (hl g i hs) λhg=>hG g i hg hs hc).trans h1,h2⟩,λj hj=>(hk g j hj).trans (h3 j hj)⟩
theorem InH.turn (G:Nat->Prop) (hG:∀ g i,G g->S g i->w.cell? ⟨g,i,none⟩≠none) (hb:∀ g,g<w.heap.size->¬ G g->w'.heap[g]? = w.heap[g]?) (h:w.heap.size<=w'.heap.size) (hk:∀ b i,S b i->w'.cell? ⟨b,i,none⟩=w.cell? ⟨b,i,none⟩) (hS:InH w S):InH w' S:=⟨λb i hs=>zY (hS.1 b i hs) h,hS.2.1.mono λb i hs=>⟨hs,hk b i hs⟩,hS.2.2.turn G hG hb hk hS.1⟩
structure Aam (X:Nat->Prop) (w:World) (S:Dx) (w':World) (S':Dx):Prop where
  os:w'.os=w.os
  tape:w'.tape=w.tape
  output:w'.output=w.output
  size:w.heap.size<=w'.heap.size
  blk:∀ b,b<w.heap.size->¬ X b->w'.heap[b]? = w.heap[b]?
  sub:∀ b i,S b i->S' b i
  stab:∀ b i,S b i->w'.cell? ⟨b,i,none⟩=w.cell? ⟨b,i,none⟩
  back:∀ b i,b<w.heap.size->¬ X b->S' b i->S b i
theorem Aam.refl (X:Nat->Prop) (w:World) (S:Dx):Aam X w S w S:=⟨rfl,rfl,rfl,zT _,λ_ _ _=>rfl,λ_ _ h=>h,λ_ _ _=>rfl,λ_ _ _ _ h=>h⟩
theorem Aam.ext {w'':World} {S'':Dx} (h:Aam X w S w' S') (hS:InH w' S') (k:Ext w' S' w'' S''):Aam X w S w'' S'' :=
  ⟨k.os.trans h.os,k.tape.trans h.tape,k.output.trans h.output,yU h.size k.size,
   λb hb hx=>(k.blk b (zY hb h.size)).trans (h.blk b hb hx),λb i hs=>k.sub b i (h.sub b i hs),
   λb i hs=>(k.cell (a:=⟨b,i,none⟩) (hS.1 b i (h.sub b i hs))).trans (h.stab b i hs),
   λb i hb hx hs=>h.back b i hb hx (k.back b i (zY hb h.size) hs)⟩
theorem Aam.toExt (hX:∀ b,¬ X b) (h:Aam X w S w' S'):Ext w S w' S' :=
  ⟨h.os,h.tape,h.output,h.size,λb hb=>h.blk b hb (hX b),h.sub,λb i hb=>h.back b i hb (hX b)⟩
def LsR (R:Lf->Value->Prop) (ls:List Lf) (cs:List Value):Prop:=ls.length=cs.length/\∀ (j:Nat) (l:Lf) (v:Value),ls[j]? = some l->cs[j]? = some v->R l v
theorem LsR.mono {R':Lf->Value->Prop} (h:∀ l v,R l v->R' l v) (r:LsR R ls cs):LsR R' ls cs :=
  ⟨r.1,λj l v h1 h2=>h _ _ (r.2 j l v h1 h2)⟩
theorem LsR.get (r:LsR R ls cs) {j:Nat} (h:ls[j]? = some l):∃ v,cs[j]? = some v/\R l v:=by
  have hj:j<ls.length:=(zB.1 h).1
  have hj':j<cs.length:=by rw[<- r.1];exact hj
  exact⟨cs[j],zC hj',r.2 j l _ h (zC hj')⟩
def LsP (R:Lf->Value->Prop) (ls:List Lf) (cs:List Value):Prop:=ls.length<=cs.length/\∀ (j:Nat) (l:Lf) (v:Value),ls[j]? = some l->cs[j]? = some v->R l v
theorem LsP.mono {R':Lf->Value->Prop} (h:∀ l v,R l v->R' l v) (r:LsP R ls cs):LsP R' ls cs :=
  ⟨r.1,λj l v h1 h2=>h _ _ (r.2 j l v h1 h2)⟩
def Auy (R:Lf->Value->Prop) (css:List (List Lf)) (vss:List (List Value)):Prop:=css.length=vss.length/\∀ (j:Nat) (cs:List Lf) (vs:List Value),css[j]? = some cs->vss[j]? = some vs->LsR R cs vs
theorem Auy.mono {R':Lf->Value->Prop} (h:∀ l v,R l v->R' l v) {css:List (List Lf)} {vss:List (List Value)} (r:Auy R css vss):Auy R' css vss :=
  ⟨r.1,λj cs vs h1 h2=>(r.2 j cs vs h1 h2).mono h⟩
theorem Qy {base e size n:Nat} (h:w.ownsRow base e size v n xs):v.oneCell'=true/\v≠undef:=by
  rcases h.2 with⟨rfl,_⟩|⟨g,cap,cur,rfl,_⟩ <;> exact⟨rfl,λh=>by cases h⟩
def Dy (w:World) (S:Dx) (m:List Blk) (H:Nat->Value):Lf->Value->Prop
  | .lp p off,v=>p<m.length/\∃ g,H p=.pointer (some ⟨g,0,none⟩)/\v=.pointer (some ⟨g,off,none⟩)
  | .ls p n,v=>p<m.length/\(v.oneCell'=true/\H p≠undef)/\∀ e sz k cs,m[p]? = some (.arr e sz k cs)->n*sz<=cs.length/\(n*sz=cs.length->v=H p)
  | .ap p n off,v=>p<m.length/\(v.oneCell'=true/\H p≠undef)/\∀ e sz k cs,m[p]? = some (.arr e sz k cs)->n*sz<=cs.length/\(n*sz=cs.length->∃ g c,H p=.slice (some ⟨g,0,none⟩) n c/\v=.pointer (some ⟨g,off,none⟩))
  | .mp k p,v=>p<m.length/\∃ g,H p=.pointer (some ⟨g,0,none⟩)/\v=Adk k g
  | l,v=>Rep w S l v
def Bf (w:World) (S:Dx) (m:List Blk) (H:Nat->Value):Lf->Value->Prop
  | .fn f a b,v=>∃ va vb,v=.func (.func f) va vb/\LsR (Dy w S m H) a va.toList/\LsR (Dy w S m H) b vb.toList
  | l,v=>Dy w S m H l v
def Lf.pubd0:Lf->Bool
  | .lp .. | .ls .. | .ap .. | .mp .. | .fn .. =>false
  | _=>true
def Lf.pubd:Lf->Bool
  | .lp .. | .ls .. | .ap .. | .mp .. =>false
  | .fn _ la lb=>la.all Lf.pubd0&&lb.all Lf.pubd0
  | _=>true
theorem Dy.of_rep (h:Rep w S l v):Dy w S m H l v:=by
  cases h with
  | i k n=>exact .i k n
  | b x=>exact .b x
  | s x=>exact .s x
  | raw v h=>exact .raw v h
  | sl0 a cap=>exact .sl0 a cap
  | sl n cs bk off cap vals hc hm hs hr=>exact .sl n cs bk off cap vals hc hm hs hr
  | cp cs bk off vals hs hr=>exact .cp cs bk off vals hs hr
  | nix a=>exact .nix a
  | jk0 e sz=>exact .jk0 e sz
  | jk e sz n g cap hn hm hs=>exact .jk e sz n g cap hn hm hs
  | fn f a b va vb ha hb ra rb=>exact .fn f a b va vb ha hb ra rb
theorem Bf.of_rep (h:Rep w S l v):Bf w S m H l v:=by
  cases h with
  | i k n=>exact .i k n
  | b x=>exact .b x
  | s x=>exact .s x
  | raw v h=>exact .raw v h
  | sl0 a cap=>exact .sl0 a cap
  | sl n cs bk off cap vals hc hm hs hr=>exact .sl n cs bk off cap vals hc hm hs hr
  | cp cs bk off vals hs hr=>exact .cp cs bk off vals hs hr
  | nix a=>exact .nix a
  | jk0 e sz=>exact .jk0 e sz
  | jk e sz n g cap hn hm hs=>exact .jk e sz n g cap hn hm hs
  | fn f a b va vb ha hb ra rb=>exact⟨va,vb,rfl,⟨by simpa using ha,λj l v h1 h2=>Dy.of_rep (ra j l v h1 (by simpa using h2))⟩,⟨by simpa using hb,λj l v h1 h2=>Dy.of_rep (rb j l v h1 (by simpa using h2))⟩⟩
theorem Dy.rep (h:Dy w S m H l v) (hp:l.pubd0=true):Rep w S l v:=by
  cases l <;> first|(simp [Lf.pubd0] at hp;done)|exact h
theorem Bf.rep (h:Bf w S m H l v) (hp:l.pubd=true):Rep w S l v:=by
  cases l with
  | fn f a b =>
    obtain⟨va,vb,rfl,h1,h2⟩:=h
    simp only[Lf.pubd,zG,zJ] at hp
    refine .fn f a b va vb (by simpa using h1.1) (by simpa using h2.1) (λj l v hl hv=>?_) (λj l v hl hv=>?_)
    · exact Dy.rep (h1.2 j l v hl (by simpa using hv)) (hp.1 l (zD hl))
    · exact Dy.rep (h2.2 j l v hl (by simpa using hv)) (hp.2 l (zD hl))
  | lp _ _=>simp [Lf.pubd] at hp
  | ls _ _=>simp [Lf.pubd] at hp
  | ap _ _ _=>simp [Lf.pubd] at hp
  | mp _ _=>simp [Lf.pubd] at hp
  | i k n=>exact h
  | b x=>exact h
  | s x=>exact h
  | raw v=>exact h
  | sl n cs=>exact h
  | cp cs=>exact h
  | nix=>exact h
  | jk e sz n=>exact h
theorem Bf.oneCell (h:Bf w S m H l v):v.oneCell'=true:=by
  cases l with
  | lp p off=>obtain⟨_,g,_,rfl⟩:=h;rfl
  | ls p n=>exact h.2.1.1
  | ap p n off=>exact h.2.1.1
  | mp k p=>obtain⟨_,g,_,rfl⟩:=h;exact Arm k g
  | i k n=>exact Rep.oneCell h
  | b x=>exact Rep.oneCell h
  | s x=>exact Rep.oneCell h
  | raw v=>exact Rep.oneCell h
  | sl n cs=>exact Rep.oneCell h
  | cp cs=>exact Rep.oneCell h
  | nix=>exact Rep.oneCell h
  | jk e sz n=>exact Rep.oneCell h
  | fn f a b=>obtain⟨va,vb,rfl,_⟩:=h;rfl
theorem Dy.mono3 {m':List Blk} {H':Nat->Value} (h:∀ b i,S b i->S' b i/\w'.cell? ⟨b,i,none⟩=w.cell? ⟨b,i,none⟩)
    (hl:m.length<=m'.length) (hH:∀ p g,p<m.length->H p=.pointer (some ⟨g,0,none⟩)->H' p=H p)
    (hu:∀ p,p<m.length->H p≠undef->H' p≠undef)
    (hm:∀ p e sz k cs,p<m.length->H p≠undef->m'[p]? = some (.arr e sz k cs)->∃ k' cs',m[p]? = some (.arr e sz k' cs')/\((cs'.length=cs.length/\H' p=H p)\/cs'.length<cs.length)) (r:Dy w S m H l v):Dy w' S' m' H' l v:=by
  cases l with
  | lp p off =>
    obtain⟨hp,g,hg,hv⟩:=r
    exact⟨zY hp hl,g,(hH p g hp hg).trans hg,hv⟩
  | mp k p =>
    obtain⟨hp,g,hg,hv⟩:=r
    exact⟨zY hp hl,g,(hH p g hp hg).trans hg,hv⟩
  | ls p n =>
    obtain⟨hp,ho,hr⟩:=r
    refine⟨zY hp hl,⟨ho.1,hu p hp ho.2⟩,λe sz k cs hm'=>?_⟩
    obtain⟨k',cs',h1,h2⟩:=hm p e sz k cs hp ho.2 hm'
    have h3:=hr e sz k' cs' h1
    rcases h2 with⟨h2,h4⟩|h2
    · rw[h2] at h3
      exact⟨h3.1,λe=>(h3.2 e).trans h4.symm⟩
    · exact⟨by omega,λe=>by omega⟩
  | ap p n off =>
    obtain⟨hp,ho,hr⟩:=r
    refine⟨zY hp hl,⟨ho.1,hu p hp ho.2⟩,λe sz k cs hm'=>?_⟩
    obtain⟨k',cs',h1,h2⟩:=hm p e sz k cs hp ho.2 hm'
    have h3:=hr e sz k' cs' h1
    rcases h2 with⟨h2,h4⟩|h2
    · rw[h2] at h3
      refine⟨h3.1,λe=>?_⟩
      obtain⟨g,c,h5,h6⟩:=h3.2 e
      exact⟨g,c,h4.trans h5,h6⟩
    · exact⟨by omega,λe=>by omega⟩
  | i k n=>exact Rep.mono h r
  | b x=>exact Rep.mono h r
  | s x=>exact Rep.mono h r
  | raw v=>exact Rep.mono h r
  | sl n cs=>exact Rep.mono h r
  | cp cs=>exact Rep.mono h r
  | nix=>exact Rep.mono h r
  | jk e sz n=>exact Rep.mono h r
  | fn f a b=>exact Rep.mono h r
theorem Bf.mono3 {m':List Blk} {H':Nat->Value} (h:∀ b i,S b i->S' b i/\w'.cell? ⟨b,i,none⟩=w.cell? ⟨b,i,none⟩)
    (hl:m.length<=m'.length) (hH:∀ p g,p<m.length->H p=.pointer (some ⟨g,0,none⟩)->H' p=H p)
    (hu:∀ p,p<m.length->H p≠undef->H' p≠undef)
    (hm:∀ p e sz k cs,p<m.length->H p≠undef->m'[p]? = some (.arr e sz k cs)->∃ k' cs',m[p]? = some (.arr e sz k' cs')/\((cs'.length=cs.length/\H' p=H p)\/cs'.length<cs.length)) (r:Bf w S m H l v):Bf w' S' m' H' l v:=by
  cases l with
  | fn f a b =>
    obtain⟨va,vb,hv,h1,h2⟩:=r
    exact⟨va,vb,hv,h1.mono λl v=>Dy.mono3 h hl hH hu hm,h2.mono λl v=>Dy.mono3 h hl hH hu hm⟩
  | lp p off=>exact Dy.mono3 (l:=.lp p off) h hl hH hu hm r
  | mp k p=>exact Dy.mono3 (l:=.mp k p) h hl hH hu hm r
  | ls p n=>exact Dy.mono3 (l:=.ls p n) h hl hH hu hm r
  | ap p n off=>exact Dy.mono3 (l:=.ap p n off) h hl hH hu hm r
  | i k n=>exact Rep.mono h r
  | b x=>exact Rep.mono h r
  | s x=>exact Rep.mono h r
  | raw v=>exact Rep.mono h r
  | sl n cs=>exact Rep.mono h r
  | cp cs=>exact Rep.mono h r
  | nix=>exact Rep.mono h r
  | jk e sz n=>exact Rep.mono h r
theorem Bf.mono2 {m':List Blk} {H':Nat->Value} (h:∀ b i,S b i->S' b i/\w'.cell? ⟨b,i,none⟩=w.cell? ⟨b,i,none⟩)
    (hl:m.length<=m'.length) (hH:∀ p g,p<m.length->H p=.pointer (some ⟨g,0,none⟩)->H' p=H p)
    (hu:∀ p,p<m.length->H p≠undef->H' p≠undef)
    (hm:∀ p e sz k cs,p<m.length->m'[p]? = some (.arr e sz k cs)->∃ k' cs',m[p]? = some (.arr e sz k' cs')/\((cs'.length=cs.length/\H' p=H p)\/cs'.length<cs.length)) (r:Bf w S m H l v):Bf w' S' m' H' l v :=
  Bf.mono3 h hl hH hu (λp e sz k cs hp _ hm'=>hm p e sz k cs hp hm') r
theorem Bf.mono {m':List Blk} {H':Nat->Value} (h:∀ b i,S b i->S' b i/\w'.cell? ⟨b,i,none⟩=w.cell? ⟨b,i,none⟩)
    (hl:m.length<=m'.length) (hH:∀ p,p<m.length->H' p=H p)
    (hm:∀ p e sz k cs,p<m.length->m'[p]? = some (.arr e sz k cs)->∃ k' cs',m[p]? = some (.arr e sz k' cs')/\cs'.length=cs.length) (r:Bf w S m H l v):Bf w' S' m' H' l v :=
  Bf.mono2 h hl (λp _ hp _=>hH p hp) (λp hp hne=>by rw[hH p hp];exact hne) (λp e sz k cs hp hm'=>by
    obtain⟨k',cs',h1,h2⟩:=hm p e sz k cs hp hm'
    exact⟨k',cs',h1,.inl ⟨h2,hH p hp⟩⟩) r
def SVR (R:Lf->Value->Prop):SV->Value->Prop
  | .one l,v=>R l v
  | .agg ls,v=>∃ cs:Array Value,v=.agg cs/\LsR R ls cs.toList
def AVR (R:Lf->Value->Prop):AV->Value->Prop
  | .s x,v=>SVR R x v
  | .tup xs,v=>∃ vs:Array Value,v=.tuple vs/\xs.length=vs.size/\∀ (j:Nat) (x:SV) (u:Value),xs[j]? = some x->vs[j]? = some u->SVR R x u
  | .top,_=>True
theorem SVR.mono {R':Lf->Value->Prop} (h:∀ l v,R l v->R' l v) {x:SV} (r:SVR R x v):SVR R' x v:=by
  cases x with
  | one l=>exact h _ _ r
  | agg ls=>obtain⟨cs,rfl,hl⟩:=r;exact⟨cs,rfl,hl.mono h⟩
theorem AVR.mono {R':Lf->Value->Prop} (h:∀ l v,R l v->R' l v) (r:AVR R x v):AVR R' x v:=by
  cases x with
  | s x=>exact SVR.mono h r
  | tup xs=>obtain⟨vs,rfl,h1,h2⟩:=r;exact⟨vs,rfl,h1,λj x u hx hu=>SVR.mono h (h2 j x u hx hu)⟩
  | top=>trivial
theorem Hn:AVR R (.tup []) undef:=⟨#[],rfl,rfl,λj x u h=>by simp at h⟩
def Cz:Value->Option Nat
  | .pointer (some a)=>some a.block
  | .slice (some a) _ _=>some a.block
  | _=>none
def Blk.own (b:Blk) (h:Value):Option Nat:=match b with | .dead=>none | .hole=>none|_=>Cz h
def Blk.stab:Blk->Nat
  | .arr _ _ k _=>k
  | _=>0
def Au9 (base:Nat) (w:World) (S:Dx) (m:List Blk) (H:Nat->Value):Blk->Value->Prop
  | .box cs,h=>∃ g e cur,h=.pointer (some ⟨g,0,none⟩)/\w.heap[g]? = some (.cells cur e (0,0))/\LsR (Bf w S m H) cs cur.toList
  | .arr e sz k cs,h=>0<sz/\k<=cs.length/\∃ n vals,w.ownsRow base e sz h n vals/\LsR (Rep w S) cs vals/\∀ g,Cz h=some g->∀ i,i<k->S g i
  | .dead,_=>True
  | .arn e sz g n cap cs,h=>h=.slice (some ⟨g,0,none⟩) n cap/\∃ cur,w.heap[g]? = some (.cells cur e (0,0))/\(n<=cap/\cap<=maxLen/\cur.size=cap*sz/\cs.length=n*sz/\0<sz)/\LsP (Bf w S m H) cs cur.toList
  | .hole,h=>h=undef
  | .tab mk cs,h=>∃ g,h=.pointer (some ⟨g,0,none⟩)/\∃ vs o,w.heap[g]? = some o/\Aqr o=true/\mk vs o/\Auy (Rep w S) cs vs
  | .obj g mk cs,h=>h=.pointer (some ⟨g,0,none⟩)/\∃ vs o,w.heap[g]? = some o/\Aqr o=true/\mk vs o/\Auy (Rep w S) cs vs
structure Ctx where
  w0:World
  S0:Dx
  nt:Nat
  X:Nat->Prop
  m0:List Blk
  H0:Nat->Value
abbrev Ctx.of (w:World) (S:Dx) (nt:Nat):Ctx:=⟨w,S,nt,λ_=>False,[],λ_=>undef⟩
structure Rel (c:Ctx) (st:AS) (a:Act) (w:World) (S:Dx) (H:Nat->Value):Prop where
  nt:a.tmps.size=c.nt
  df:a.defers=[]
  tm:∀ i,AVR (Bf w S st.m H) (st.t i) (a.tmps.getD i undef)
  bl:∀ (p:Nat) (b:Blk),st.m[p]? = some b->Au9 0 w S st.m H b (H p)
  lo:∀ (p:Nat) (b:Blk) (g:Nat),st.m[p]? = some b->b.own (H p)=some g->(c.w0.heap.size<=g\/c.X g)/\g<w.heap.size
  inj:∀ (p q:Nat) (b b':Blk) (g:Nat),st.m[p]? = some b->st.m[q]? = some b'->b.own (H p)=some g->b'.own (H q)=some g->p=q
  sb:∀ (p:Nat) (b:Blk) (g i:Nat),st.m[p]? = some b->b.own (H p)=some g->S g i->i<b.stab
  sl:InH w S
  ex:Aam c.X c.w0 c.S0 w S
  kl:c.m0.length<=st.m.length
  kh:∀ p g,p<c.m0.length->c.H0 p=.pointer (some ⟨g,0,none⟩)->H p=c.H0 p
  kr:∀ p e sz k cs,p<c.m0.length->st.m[p]? = some (.arr e sz k cs)->∃ k' cs',c.m0[p]? = some (.arr e sz k' cs')/\((cs'.length=cs.length/\H p=c.H0 p)\/cs'.length<cs.length)
  ku:∀ p,p<c.m0.length->c.H0 p≠undef->H p≠undef
theorem Iq {base e size n:Nat} (h:w.ownsRow base e size v n xs) (hb:∀ g,Cz v=some g->w'.heap[g]? = w.heap[g]?):w'.ownsRow base e size v n xs:=by
  refine⟨h.1,?_⟩
  rcases h.2 with hn|⟨g,cap,cur,rfl,hbg,hg,rest⟩
  · exact .inl hn
  · exact .inr ⟨g,cap,cur,rfl,hbg,(hb g rfl).trans hg,rest⟩
theorem Rel.ext {c:Ctx} (r:Rel c st a w S H) (h:Ext w S w' S') (hS:InH w' S'):Rel c st a w' S' H:=by
  have hk:=h.keeps r.sl
  have hg:∀ l v,Bf w S st.m H l v->Bf w' S' st.m H l v:=λl v=>Bf.mono hk (zT _) (λ_ _=>rfl) (λp e sz k cs _ hm=>⟨k,cs,hm,rfl⟩)
  refine⟨r.nt,r.df,λi=>AVR.mono hg (r.tm i),λp b hb=>?_,λp b g hb ho=>?_,r.inj,λp b g i hb ho hs=>?_,hS,r.ex.ext r.sl h,r.kl,r.kh,r.kr,r.ku⟩
  · have hr:=r.bl p b hb
    have hlo:=r.lo p b
    cases b with
    | dead=>trivial
    | hole=>exact hr
    | obj g mk cs =>
      obtain⟨h1,vs,o,h2,h3,h4,h5⟩:=hr
      exact⟨h1,vs,o,(h.blk g (hlo g hb (by rw[h1];rfl)).2).trans h2,h3,h4,h5.mono (λl v=>Rep.mono hk)⟩
    | tab mk cs =>
      obtain⟨g,h1,vs,o,h2,h3,h4,h5⟩:=hr
      exact⟨g,h1,vs,o,(h.blk g (hlo g hb (by rw[h1];rfl)).2).trans h2,h3,h4,h5.mono (λl v=>Rep.mono hk)⟩
    | arn e sz g n cap cs =>
      obtain⟨h1,cur,h2,h3,h4⟩:=hr
      exact⟨h1,cur,(h.blk g (hlo g hb (by rw[h1];rfl)).2).trans h2,h3,h4.mono hg⟩
    | box cs =>
      obtain⟨g,e,cur,h1,h2,h3⟩:=hr
      have:=(hlo g hb (by rw[h1];rfl)).2
      exact⟨g,e,cur,h1,(h.blk g this).trans h2,h3.mono hg⟩
    | arr e sz k cs =>
      obtain⟨h0,hk1,n,vals,h1,h2,h3⟩:=hr
      exact⟨h0,hk1,n,vals,Iq h1 (λg hgo=>h.blk g (hlo g hb hgo).2),h2.mono (λl v=>Rep.mono hk),λg hgo i hi=>h.sub g i (h3 g hgo i hi)⟩
  · have:=r.lo p b g hb ho
    exact⟨this.1,zY this.2 h.size⟩
  · exact r.sb p b g i hb ho (h.back g i (r.lo p b g hb ho).2 hs)
theorem Aws {i:Nat} (hd:d<a.tmps.size):(a.put (some d) v).tmps.getD i undef=if i=d then v else a.tmps.getD i undef:=by
  simp only[Act.put,zH,kX]
  by_cases h:i=d
  · subst h;simp [hd]
  · have:¬ d=i:=λe=>h e.symm
    simp [h,this]
theorem Rel.put {c:Ctx} (r:Rel c st a w S H) (hd:d<c.nt) (hx:AVR (Bf w S st.m H) x v) :
    Rel c (st.upd d x) (a.put (some d) v) w S H:=by
  have hd':d<a.tmps.size:=by rw[r.nt];exact hd
  refine⟨by simp [Act.put,r.nt],r.df,λi=>?_,r.bl,r.lo,r.inj,r.sb,r.sl,r.ex,r.kl,r.kh,r.kr,r.ku⟩
  rw[Aws hd']
  show AVR _ (Go.Proofs.YtkblaobhhoebaaaGreat.Abs.upd st.t d x i) _
  rw[Et]
  by_cases h:i=d
  · simp only[h,if_true];exact hx
  · simp only[h,if_false];exact r.tm i
theorem Rel.weak {c:Ctx} (r:Rel c st a w S H) (ht:∀ i,t i=st.t i\/t i=.top):Rel c ⟨t,st.m⟩ a w S H :=
  ⟨r.nt,r.df,λi=>by rcases ht i with h|h <;> simp only[h];exact r.tm i;trivial,r.bl,r.lo,r.inj,r.sb,r.sl,r.ex,r.kl,r.kh,r.kr,r.ku⟩
end
open Go.RowKit
section
variable {b p want:Bool} {m:List Blk} {l:List Oper} {j:Nat} {t t':Nat->AV} {H:Nat->Value} {o:Oper} {x:Operand} {dst:Option Tmp} {S:Dx} {dj:Tmp} {xt:TypeId} {v:Value} {w:World}
def clf:Value->Lf
 | .int k n=>.i k n
 | .bool x=>.b x
 | .string x=>.s x
 | v=>.raw v
def cav:Value->AV
 | .tuple vs=>if vs.size=0 then .tup [] else .top
 | .agg cs=>if cs.all (·.oneCell') then .s (.agg (cs.toList.map clf)) else .top
 | v=>.s (.one (clf v))
def Bg (st:AS):Operand->AV
 | .tmp i=>st.t i
 | .const v=>cav v
 | .global g=>.s (.one (.raw (.pointer (some ⟨g,0,none⟩))))
 | .func f=>.s (.one (.raw (.func (.func f) #[] #[])))
theorem Aju (h:v.oneCell'=true):Rep w S (clf v) v:=by
 cases v <;> first|exact .i _ _|exact .b _|exact .s _|exact .raw _ h
theorem D4 {l:Lf} (h:Rep w S l v):AVR (Bf w S m H) (.s (.one l)) v:=Bf.of_rep (m:=m) (H:=H) h
theorem A3p (v:Value):AVR (Bf w S m H) (cav v) v:=by
 cases v with
 | tuple vs =>
  show AVR _ (if vs.size=0 then .tup [] else .top) _
  by_cases h:vs.size=0
  ·simp only[h,if_true]
   have:vs = #[]:=Array.eq_empty_of_size_eq_zero h
   subst this
   exact Hn
  ·simp only[h,if_false];trivial
 | agg cs =>
  show AVR _ (if cs.all (·.oneCell') then .s (.agg (cs.toList.map clf)) else .top) _
  by_cases h:cs.all (·.oneCell')=true
  ·rw[if_pos h]
   refine⟨cs,rfl,by simp,λj l u h1 h2=>?_⟩
   rw[zK,h2] at h1
   simp only[xM,z2] at h1
   subst h1
   refine Bf.of_rep (Aju ?_)
   have hu:u∈cs:=Array.mem_toList_iff.1 (zD h2)
   rw[w9] at h
   exact h u hu
  ·rw[if_neg h];trivial
 | bool _ | int _ _ | float _ _ | complex _ _ _ | string _ | pointer _ | slice _ _ _ | map _ | chan _ | func _ _ _ | nilFunc | iface _ _ | nilIface=>exact D4 (Aju rfl)
theorem Ax {c:Ctx} {st:AS} {a:Act} (r:Rel c st a w S H) (x:Operand):AVR (Bf w S st.m H) (Bg st x) (a.eval x):=by
 cases x with
 | tmp i=>exact r.tm i
 | const v=>exact A3p v
 | global g=>exact D4 (.raw _ rfl)
 | func f=>exact D4 (.raw _ rfl)
def AS.put (st:AS) (dst:Option Tmp) (x:AV):AS:=match dst with|some d=>st.upd d x|none=>st
def QR (c:Ctx) (Q:Exit->AS->Prop):Exit->Act->World->Prop:=λe a w=>∃ st S H,Rel c st a w S H/\Q e st
def AWL (P:Program) (c:Ctx) (ops:Array Oper) (Q:Exit->AS->Prop) (l:List Oper) (st:AS):Prop :=
 ∀ a w S H,Rel c st a w S H->wpList P ops (QR c Q) l a w
def AWC (P:Program) (c:Ctx) (x:Code) (Q:Exit->AS->Prop) (st:AS):Prop :=
 ∀ a w S H,Rel c st a w S H->x.wp P (QR c Q) a w
def OpV (P:Program) (c:Ctx) (st:AS) (op:Op) (ty:TypeId) (x:AV):Prop :=
 ∀ a w S H,Rel c st a w S H->∃ v,AVR (Bf w S st.m H) x v/\∀ d pos af g,(execOp a.eval ⟨d,op,ty,pos,af,g⟩).run P w=.ok (.value v) w
section
variable {P:Program} {c:Ctx} {st:AS} {ops:Array Oper} {Q:Exit->AS->Prop} {rest:List Oper} {op:Op} {ty:TypeId} {pos:String} {af:Array Edge} {x:AV} {d:Tmp}
theorem Ail (h:Q .normal st):AWL P c ops Q [] st:=λ_ _ S H r=>⟨st,S,H,r,h⟩
theorem Aq6 (h:OpV P c st op ty x) (hd:d<c.nt) (k:AWL P c ops Q rest (st.upd d x)):AWL P c ops Q (⟨some d,op,ty,pos,af,none⟩::rest) st:=by
 intro a w S H r
 obtain⟨v,hv,hrun⟩:=h a w S H r
 refine wpList_plain rfl λK hK=>?_
 unfold Oper.wp
 rw[hrun]
 exact hK _ _ (k _ _ _ _ (r.put hd hv))
theorem Avn (hj:(ops[j]?).bind (·.dst)=some dj) (ht:st.t dj=.s (.one (.b want)))
  (k:AWL P c ops Q ({ o with guard:=none }::rest) st) (hg:o.guard=some (j,want)) (hn:dj<c.nt):AWL P c ops Q (o::rest) st:=by
 intro a w S H r
 have hk:=k a w S H r
 have hr:=r.tm dj
 rw[ht] at hr
 have hv:a.tmps.getD dj undef=.bool want:=by
  have hr':Rep w S (.b want) (a.tmps.getD dj undef):=hr
  generalize a.tmps.getD dj undef=u at hr'
  cases hr'
  rfl
 have hs:a.tmps[dj]? = some (.bool want):=by
  have hd':dj<a.tmps.size:=by rw[r.nt];exact hn
  simp only[zH,z9 hd',yS] at hv
  rw[z9 hd',hv]
 have hw:Region.wanted o (yielded ops a.tmps)=true:=by
  simp only[Region.wanted,hg,yielded,hj,zA,hs,beq_self_eq_true]
 unfold wpList at hk ⊢
 rw[if_pos hw]
 rw[if_pos (by rfl)] at hk
 exact hk
theorem Ahk (hg:o.guard=some (j,want)) (hw:∀ a w S H,Rel c st a w S H->yielded ops a.tmps j≠some want)
  (hd:∀ d,o.dst=some d->d<c.nt) (k:AWL P c ops Q rest (st.put o.dst (.tup []))):AWL P c ops Q (o::rest) st:=by
 intro a w S H r
 have hww:Region.wanted o (yielded ops a.tmps)=false:=by
  simp only[Region.wanted,hg]
  have:=hw a w S H r
  simpa using this
 unfold wpList
 rw[if_neg (by rw[hww];simp)]
 cases hdst:o.dst with
 | none =>
  rw[hdst] at k
  exact k a w S H r
 | some d =>
  rw[hdst] at k
  exact k _ _ _ _ (r.put (hd d hdst) Hn)
theorem Aii (hj:(ops[j]?).bind (·.dst)=some dj) (ht:st.t dj=.s (.one (.b b))) (hb:(b==want)=false)
  (hd:∀ d,dst=some d->d<c.nt)
  (k:AWL P c ops Q rest (st.put dst (.tup []))):AWL P c ops Q (⟨dst,op,ty,pos,af,some (j,want)⟩::rest) st:=by
 refine Ahk rfl (λa w S H r=>?_) hd k
 have hr:=r.tm dj
 rw[ht] at hr
 have hv:a.tmps.getD dj undef=.bool b:=by
  have hr':Rep w S (.b b) (a.tmps.getD dj undef):=hr
  generalize a.tmps.getD dj undef=u at hr'
  cases hr'
  rfl
 simp only[yielded,hj,zA]
 simp only[zH] at hv
 cases hs:a.tmps[dj]? with
 | none=>simp
 | some u =>
  rw[hs] at hv
  simp only[yS] at hv
  subst hv
  simp only[ne_eq,z2]
  intro e
  subst e
  simp at hb
theorem Ajx (hj:(ops[j]?).bind (·.dst)=some dj) (ht:st.t dj=.tup [])
  (hd:∀ d,dst=some d->d<c.nt)
  (k:AWL P c ops Q rest (st.put dst (.tup []))):AWL P c ops Q (⟨dst,op,ty,pos,af,some (j,want)⟩::rest) st:=by
 refine Ahk rfl (λa w S H r=>?_) hd k
 have hr:=r.tm dj
 rw[ht] at hr
 obtain⟨vs,hv,hl,_⟩:=hr
 simp only[yielded,hj,zA]
 simp only[zH] at hv
 cases hs:a.tmps[dj]? with
 | none=>simp
 | some u =>
  rw[hs] at hv
  simp only[yS] at hv
  subst hv
  simp
theorem Arn (h:t'=st.t) (k:AWL P c ops Q l ⟨t',st.m⟩):AWL P c ops Q l st:=by
 subst h;exact k
theorem Sj {d:Nat} {x:AV} (h:t d=x):upd t d x=t:=by
 funext j
 rw[Et]
 split
 ·rename_i e;rw[e,h]
 ·rfl
theorem Al8 (ht:st.t dj=.s (.one (.b b))) (k1:b=true->AWL P c ops Q l (st.upd dj (.s (.one (.b true))))) (k0:b=false->AWL P c ops Q l (st.upd dj (.s (.one (.b false))))):AWL P c ops Q l st:=by
 cases b
 ·have:=k0 rfl
  unfold AS.upd at this
  rw[Sj ht] at this
  exact this
 ·have:=k1 rfl
  unfold AS.upd at this
  rw[Sj ht] at this
  exact this
end
theorem T4 {k:IntKind} {n:Int} (h:Rep w S (.i k n) v):v=.int k n:=by cases h;rfl
theorem Aai {x:Bool} (h:Rep w S (.b x) v):v=.bool x:=by cases h;rfl
theorem Aqt {x:ByteArray} (h:Rep w S (.s x) v):v=.string x:=by cases h;rfl
theorem Ix {u:Value} (h:Rep w S (.raw u) v):v=u:=by cases h;rfl
theorem A0j {n:Nat} {cs:List Lf} (h:Rep w S (.sl n cs) v):∃ a cap,v=.slice a n cap:=by cases h <;> exact⟨_,_,rfl⟩
def Lf.val? : Lf->Option Value
 | .i k n=>some (.int k n)
 | .b x=>some (.bool x)
 | .s x=>some (.string x)
 | .raw v=>some v
 | _=>none
theorem Avc {l:Lf} {u:Value} (h:Bf w S m H l v) (hl:l.val? = some u):v=u:=by
 cases l <;> simp only[Lf.val?,z2,reduceCtorEq] at hl
 ·subst hl;exact T4 h
 ·subst hl;exact Aai h
 ·subst hl;exact Aqt h
 ·subst hl;exact Ix h
section ops
variable {P:Program} {c:Ctx} {st:AS} {ty:TypeId}
theorem Aqg:OpV P c st (.move x) ty (Bg st x):=λa _ _ _ r=>⟨a.eval x,Ax r x,λ_ _ _ _=>rfl⟩
theorem Arv:OpV P c st (.assign x) ty (Bg st x):=λa _ _ _ r=>⟨a.eval x,Ax r x,λ_ _ _ _=>rfl⟩
theorem Apw {b y:Operand} {t:Bool} (hb:Bg st b=.s (.one (.b t))):OpV P c st (.pick b x y) ty (if t then Bg st x else Bg st y):=by
 intro a w S H r
 have h:=Ax r b
 rw[hb] at h
 have hv:a.eval b=.bool t:=Aai (h:Rep w S (.b t) (a.eval b))
 refine⟨if t then a.eval x else a.eval y,?_,λ_ _ _ _=>?_⟩
 ·cases t
  ·exact Ax r y
  ·exact Ax r x
 ·simp [execOp,hv,asBool]
theorem Hq {op:BinOp} {yt:TypeId} {y:Operand} {l l' lz:Lf} {u u' z:Value} (hx:Bg st x=.s (.one l)) (hy:Bg st y=.s (.one l')) (vx:l.val? = some u) (vy:l'.val? = some u')
  (hr:∀ w,(do eqGuard op xt x y u u';binOp op xt u u':Sem Value).run P w=.ok z w) (vz:lz.val? = some z) (hz:z.oneCell'=true):OpV P c st (.binOp op xt x y yt) ty (.s (.one lz)):=by
 intro a w S H r
 have h1:=Ax r x
 rw[hx] at h1
 have h2:=Ax r y
 rw[hy] at h2
 have e1:a.eval x=u:=Avc h1 vx
 have e2:a.eval y=u':=Avc h2 vy
 refine⟨z,?_,λ_ _ _ _=>?_⟩
 ·show Bf w S st.m H lz z
  cases lz <;> simp only[Lf.val?,z2,reduceCtorEq] at vz <;> subst vz
  ·exact Rep.i _ _
  ·exact Rep.b _
  ·exact Rep.s _
  ·exact Rep.raw _ hz
 ·have:=hr w
  simp only[execOp,e1,e2]
  simp only[Sem.run_bind] at this ⊢
  rw[this]
  rfl
theorem At8 (n m:Int):(n==m)=decide (n=m):=by
 by_cases h:n=m <;> simp [h]
section int
variable {xt yt:TypeId} {x y:Operand} {k k':IntKind} {n m:Int}
theorem Asd (hx:Bg st x=.s (.one (.i k n))) (hy:Bg st y=.s (.one (.i k m))):OpV P c st (.binOp .lss xt x y yt) ty (.s (.one (.b (decide (n<m))))) :=
 Hq hx hy rfl rfl (λw=>by simp [eqGuard_lss,binOp_lss]) rfl rfl
theorem Aiu (hx:Bg st x=.s (.one (.i k n))) (hy:Bg st y=.s (.one (.i k m))):OpV P c st (.binOp .leq xt x y yt) ty (.s (.one (.b (decide (n<=m))))) :=
 Hq hx hy rfl rfl (λw=>by simp [eqGuard_leq,binOp_leq]) rfl rfl
theorem Att (hx:Bg st x=.s (.one (.i k n))) (hy:Bg st y=.s (.one (.i k m))):OpV P c st (.binOp .gtr xt x y yt) ty (.s (.one (.b (decide (m<n))))) :=
 Hq hx hy rfl rfl (λw=>by simp [eqGuard_gtr,binOp_gtr]) rfl rfl
theorem Atf (hx:Bg st x=.s (.one (.i k n))) (hy:Bg st y=.s (.one (.i k m))):OpV P c st (.binOp .geq xt x y yt) ty (.s (.one (.b (decide (m<=n))))) :=
 Hq hx hy rfl rfl (λw=>by simp [eqGuard_geq,binOp_geq]) rfl rfl
theorem Aem (hx:Bg st x=.s (.one (.i k n))) (hy:Bg st y=.s (.one (.i k m))):OpV P c st (.binOp .eql xt x y yt) ty (.s (.one (.b (decide (n=m))))) :=
 Hq hx hy rfl rfl (λw=>by simp [eqGuard_at_int,binOp_eql,At8]) rfl rfl
theorem Aid (hx:Bg st x=.s (.one (.i k n))) (hy:Bg st y=.s (.one (.i k m))):OpV P c st (.binOp .neq xt x y yt) ty (.s (.one (.b (!decide (n=m))))) :=
 Hq hx hy rfl rfl (λw=>by simp [eqGuard_at_int,binOp_neq,bne,At8]) rfl rfl
theorem Asw (hx:Bg st x=.s (.one (.i k n))) (hy:Bg st y=.s (.one (.i k m))):OpV P c st (.binOp .add xt x y yt) ty (.s (.one (.i k (k.wrap (n+m))))) :=
 Hq hx hy rfl rfl (λw=>by simp [eqGuard_add,binOp_add,Op.intArith]) rfl rfl
theorem Av4 (hx:Bg st x=.s (.one (.i k n))) (hy:Bg st y=.s (.one (.i k m))):OpV P c st (.binOp .sub xt x y yt) ty (.s (.one (.i k (k.wrap (n-m))))) :=
 Hq hx hy rfl rfl (λw=>by simp [eqGuard_sub,binOp_sub,Op.intArith]) rfl rfl
theorem A1b (hx:Bg st x=.s (.one (.i k n))) (hy:Bg st y=.s (.one (.i k m))):OpV P c st (.binOp .mul xt x y yt) ty (.s (.one (.i k (k.wrap (n*m))))) :=
 Hq hx hy rfl rfl (λw=>by simp [eqGuard_mul,binOp_mul,Op.intArith]) rfl rfl
end int
theorem Aw6 {yt:TypeId} {y:Operand} {q:Bool} (hu:P.underlying xt=some .bool) (hx:Bg st x=.s (.one (.b p))) (hy:Bg st y=.s (.one (.b q))):OpV P c st (.binOp .eql xt x y yt) ty (.s (.one (.b (p==q)))) :=
 Hq hx hy rfl rfl (λw=>by simp [eqGuard_at_bool,run_eql_bool w xt p q hu]) rfl rfl
theorem Axi {yt:TypeId} {y:Operand} {q:Bool} (hu:P.underlying xt=some .bool) (hx:Bg st x=.s (.one (.b p))) (hy:Bg st y=.s (.one (.b q))):OpV P c st (.binOp .neq xt x y yt) ty (.s (.one (.b (!(p==q))))) :=
 Hq hx hy rfl rfl (λw=>by simp [eqGuard_at_bool,run_neq_bool w xt p q hu]) rfl rfl
theorem Zx (hx:Bg st x=.s (.one (.b p))):OpV P c st (.unOp .not xt x) ty (.s (.one (.b (!p)))):=by
 intro a w S H r
 have h1:=Ax r x
 rw[hx] at h1
 have e1:a.eval x=.bool p:=Aai h1
 exact⟨.bool (!p),D4 (.b _),λ_ _ _ _=>by simp [execOp,e1,Op.unary]⟩
end ops
end
open Go.RowKit
section
variable {ts:Array TypeId} {j:Int} {k:IntKind} {l:Lf} {cs:List Lf} {e n off sz:Nat} {H:Nat->Value} {x:Operand} {P:Program} {S:Dx} {t:TypeId} {v:Value} {w:World}
structure TI (P:Program) (t:TypeId) (ag:Bool) (sz:Nat):Prop where
 u:∃ d,P.underlying t=some d/\(match d with | .struct _ | .array _ _=>true|_=>false)=ag
 i:(P.info? t).map (·.size)=some sz
structure FI (P:Program) (s:TypeId) (f off:Nat):Prop where
 h:∃ fs fld k,P.underlying s=some (.struct fs)/\fs[f]? = some fld/\fld.offset=off/\(P.info? fld.type).map (·.size)=some k/\k≠0
structure SI (P:Program) (t e sz:Nat):Prop where
 u:P.underlying t=some (.slice e)
 i:(P.info? e).map (·.size)=some sz
 p:0<sz
structure AI (P:Program) (t n e sz:Nat):Prop where
 u:P.underlying t=some (.array n e)
 i:(P.info? e).map (·.size)=some sz
 p:0<sz
 n:1<n
theorem Cc (h:(P.info? e).map (·.size)=some sz) (w:World):(sizeOf e).run P w=.ok sz w:=by
 cases hq:P.info? e with
 | none=>simp [hq] at h
 | some i =>
  simp only[hq,xM,z2] at h
  simp [sizeOf,typeInfo,hq,h]
theorem TI.run_isAgg {ag:Bool} (h:TI P t ag sz) (w:World):(isAgg t).run P w=.ok ag w:=by
 obtain⟨d,hu,hd⟩:=h.u
 unfold isAgg
 rw[Sem.run_bind,run_underlying hu w]
 subst hd
 cases d <;> simp
theorem TI.run_load1 (h:TI P t false 1) {a:Addr} (hc:w.cell? a=some v):(loadVar t a).run P w=.ok v w:=by
 simp [loadVar,h.run_isAgg,hc]
theorem TI.run_loadN (h:TI P t true sz) {g:Nat} {vs:List Value} (hl:vs.length=sz)
  (hc:∀ (j:Nat) (v:Value),vs[j]? = some v->w.cell? ⟨g,off+j,none⟩=some v):(loadVar t ⟨g,off,none⟩).run P w=.ok (.agg vs.toArray) w:=by
 have:=run_loadCells_list (P:=P) w ⟨g,off,none⟩ vs (λj v hv=>by rw[Addr.add_lit];exact hc j v hv)
 rw[hl] at this
 simp [loadVar,h.run_isAgg,Cc h.i,this]
inductive Ady (st:AS):Lf->List Lf->Prop
 | lp (p off:Nat) (cs:List Lf) (h:st.m[p]? = some (.box cs)):Ady st (.lp p off) (cs.drop off)
 | cp (cs:List Lf):Ady st (.cp cs) cs
 | ap (p n off e sz k:Nat) (cs:List Lf) (h:st.m[p]? = some (.arr e sz k cs)) (hn:n*sz=cs.length):Ady st (.ap p n off) (cs.drop off)
theorem Un {c:Ctx} {st:AS} {a:Act} (r:Rel c st a w S H) (hp:Ady st l cs) (hv:Bf w S st.m H l v) :
  ∃ g off,v=.pointer (some ⟨g,off,none⟩)/\∀ (j:Nat) (x:Lf),cs[j]? = some x->∃ u,w.cell? ⟨g,off+j,none⟩=some u/\Bf w S st.m H x u:=by
 cases hp with
 | lp p off cs h =>
  obtain⟨_,g,hg,rfl⟩:=hv
  refine⟨g,off,rfl,λj x hx=>?_⟩
  obtain⟨g',e,cur,h1,h2,h3⟩:=r.bl p _ h
  rw[hg] at h1
  cases h1
  rw[yP] at hx
  obtain⟨u,hu,hr⟩:=h3.get hx
  exact⟨u,by rw[cell_of_row w _ _ cur e (0,0) h2];simpa using hu,hr⟩
 | cp =>
  cases hv with
  | cp cs bk off vals hs hr=>exact⟨bk,off,rfl,λj x hx=>⟨vals j,(hs j x hx).2,Bf.of_rep (hr j x hx)⟩⟩
 | ap p n off e sz k cs h hn =>
  obtain⟨_,_,hr⟩:=hv
  obtain⟨g,cp,h1,rfl⟩:=(hr e sz k cs h).2 hn
  refine⟨g,off,rfl,λj x hx=>?_⟩
  obtain⟨h0,hk,n',vals,hown,hls,_⟩:=r.bl p _ h
  rw[h1] at hown
  rw[yP] at hx
  obtain⟨u,hu,hru⟩:=hls.get hx
  have hc:=hown.cells (g:=g) rfl (off+j) u hu
  rw[Addr.add_lit,yT] at hc
  exact⟨u,hc,Bf.of_rep hru⟩
section
variable {P:Program} {c:Ctx} {st:AS} {ty:TypeId}
theorem T0 {y:Lf} (ti:TI P t false 1) (hx:Bg st x=.s (.one l)) (hp:Ady st l cs) (hy:cs[0]? = some y) :
  OpV P c st (.load t x) ty (.s (.one y)):=by
 intro a w S H r
 have h1:=Ax r x
 rw[hx] at h1
 obtain⟨g,off,hv,hc⟩:=Un r hp h1
 obtain⟨u,hu,hr⟩:=hc 0 y hy
 rw[kR] at hu
 refine⟨u,hr,λ_ _ _ _=>?_⟩
 simp [execOp,hv,Instr.loadAt,Instr.sureAddr,ti.run_load1 hu]
theorem Rb (ti:TI P t true sz) (hx:Bg st x=.s (.one l)) (hp:Ady st l cs) (hy:sz<=cs.length) :
  OpV P c st (.load t x) ty (.s (.agg (cs.take sz))):=by
 intro a w S H r
 have h1:=Ax r x
 rw[hx] at h1
 obtain⟨g,off,hv,hc⟩:=Un r hp h1
 have hall:∃ vs:List Value,vs.length=sz/\∀ (j:Nat) (u:Value),vs[j]? = some u->w.cell? ⟨g,off+j,none⟩=some u/\∃ y,cs[j]? = some y/\Bf w S st.m H y u:=by
  refine⟨(List.range sz).map λj=>(w.cell? ⟨g,off+j,none⟩).getD undef,by simp,λj u hu=>?_⟩
  rw[zK] at hu
  have hj:j<sz:=by
   rcases zQ j sz with h|h
   ·exact h
   ·rw[zZ (by simpa using h)] at hu;cases hu
  rw[jQ hj] at hu
  simp only[xM,z2] at hu
  obtain⟨u',hu',hr'⟩:=hc j _ (zC (zY hj hy))
  rw[hu'] at hu
  simp only[yS] at hu
  subst hu
  exact⟨hu',_,zC (zY hj hy),hr'⟩
 obtain⟨vs,hl,hvs⟩:=hall
 refine⟨.agg vs.toArray,⟨vs.toArray,rfl,by simp [hl,kN hy],λj y u h1 h2=>?_⟩,λ_ _ _ _=>?_⟩
 ·obtain⟨_,y',h3,h4⟩:=hvs j u (by simpa using h2)
  have:(cs.take sz)[j]? = some y:=h1
  rw[yR] at this
  split at this
  ·rw[h3] at this;cases this;exact h4
  ·cases this
 ·have:=ti.run_loadN hl (λj v hj=>(hvs j v hj).1)
  simp [execOp,hv,Instr.loadAt,Instr.sureAddr,this]
def Lf.adv:Lf->Nat->Lf
 | .lp p off,n=>.lp p (off+n)
 | .cp cs,n=>.cp (cs.drop n)
 | .ap p m off,n=>.ap p m (off+n)
 | l,_=>l
def Lf.isPtr:Lf->Bool
 | .lp .. | .cp _ | .ap .. =>true
 | _=>false
theorem Aup {m:List Blk} (hl:l.isPtr=true) (h:Bf w S m H l v) (hcur:∀ p n off,l=.ap p n off->∃ e sz k cs,m[p]? = some (.arr e sz k cs)/\n*sz=cs.length) :
  ∃ g off,v=.pointer (some ⟨g,off,none⟩)/\∀ n,Bf w S m H (l.adv n) (.pointer (some ⟨g,off+n,none⟩)):=by
 cases l with
 | lp p off =>
  obtain⟨hp,g,hg,rfl⟩:=h
  exact⟨g,off,rfl,λn=>⟨hp,g,hg,rfl⟩⟩
 | cp cs =>
  cases h with
  | cp cs bk off vals hs hr =>
   refine⟨bk,off,rfl,λn=>?_⟩
   refine Rep.cp (cs.drop n) bk (off+n) (λj=>vals (n+j)) (λj x hx=>?_) (λj x hx=>?_)
   ·rw[yP] at hx
    rw[jD]
    exact hs _ _ hx
   ·rw[yP] at hx
    exact hr _ _ hx
 | ap p n off =>
  obtain⟨hp,hoo,hr⟩:=h
  obtain⟨e,sz,k,cs,hm,hn⟩:=hcur p n off rfl
  obtain⟨g,c',h1,rfl⟩:=(hr e sz k cs hm).2 hn
  refine⟨g,off,rfl,λq=>⟨hp,⟨rfl,hoo.2⟩,λe' sz' k' cs' hm'=>?_⟩⟩
  rw[hm] at hm'
  cases hm'
  exact⟨kF hn,λ_=>⟨g,c',h1,rfl⟩⟩
 | _=>cases hl
theorem Pr {s f:Nat} (fi:FI P s f off) (hx:Bg st x=.s (.one l)) (hl:l.isPtr=true)
  (hcur:∀ p n o,l=.ap p n o->∃ e sz k cs,st.m[p]? = some (.arr e sz k cs)/\n*sz=cs.length):OpV P c st (.fieldAddr s x f) ty (.s (.one (l.adv off))):=by
 intro a w S H r
 have h1:=Ax r x
 rw[hx] at h1
 obtain⟨g,o,hv,hr⟩:=Aup hl h1 hcur
 obtain⟨fs,fld,k,hu,hf,ho,hi,hk⟩:=fi.h
 refine⟨_,hr off,λ_ _ _ _=>?_⟩
 subst ho
 have hadd:(⟨g,o,none⟩:Addr).add fld.offset=⟨g,o+fld.offset,none⟩:=Addr.add_lit _ _ _
 simp [execOp,hv,Instr.fieldAt,Instr.sureAddr,run_underlying hu,hf,fieldPlace,Cc hi,hk,hadd]
theorem Aw {s f:Nat} {p o:Nat} (fi:FI P s f off) (hx:Bg st x=.s (.one (.lp p o))):OpV P c st (.fieldAddr s x f) ty (.s (.one (.lp p (o+off)))) :=
 Pr fi hx rfl (λ_ _ _ h=>by cases h)
theorem Pn {s f:Nat} (fi:FI P s f off) (hx:Bg st x=.s (.one (.cp cs))):OpV P c st (.fieldAddr s x f) ty (.s (.one (.cp (cs.drop off)))) :=
 Pr fi hx rfl (λ_ _ _ h=>by cases h)
theorem Lv {s f:Nat} {p o k:Nat} (fi:FI P s f off) (hx:Bg st x=.s (.one (.ap p n o))) (hm:st.m[p]? = some (.arr e sz k cs)) (hn:n*sz=cs.length) :
  OpV P c st (.fieldAddr s x f) ty (.s (.one (.ap p n (o+off)))) :=
 Pr fi hx rfl (λ_ _ _ h=>by cases h;exact⟨e,sz,k,cs,hm,hn⟩)
theorem Tk {t:Nat} (si:SI P t e sz) (w:World) (g off n cap:Nat) (k:IntKind) (j:Int) (h0:0<=j) (h1:j<n) :
  (Instr.indexAt t (.slice (some ⟨g,off,none⟩) n cap) (.int k j)).run P w=.ok (.pointer (some ⟨g,off+j.toNat*sz,none⟩)) w:=by
 have hadd:(⟨g,off,none⟩:Addr).add (j.toNat*sz)=⟨g,off+j.toNat*sz,none⟩:=Addr.add_lit _ _ _
 simp [Instr.indexAt,asIntOf,run_underlying si.u,h0,h1,Cc si.i,hadd]
theorem Ad6 {t:Nat} {y:Operand} (si:SI P t e sz) (hx:Bg st x=.s (.one (.sl n cs))) (hy:Bg st y=.s (.one (.i k j))) (h0:0<=j) (h1:j<n) :
  OpV P c st (.indexAddr t x y) ty (.s (.one (.cp (cs.drop (j.toNat*sz))))):=by
 intro a w S H r
 have hx':=Ax r x
 rw[hx] at hx'
 have hy':=Ax r y
 rw[hy] at hy'
 have ey:a.eval y=.int k j:=T4 hy'
 have hx'':Rep w S (.sl n cs) (a.eval x):=hx'
 generalize hu:a.eval x=u at hx''
 cases hx'' with
 | sl0 a' cap=>simp at h1;omega
 | sl n cs bk off cap vals hc hm hs hr =>
  refine⟨.pointer (some ⟨bk,off+j.toNat*sz,none⟩),D4 ?_,λ_ _ _ _=>?_⟩
  ·refine Rep.cp _ bk _ (λi=>vals (j.toNat*sz+i)) (λi l hl=>?_) (λi l hl=>?_)
   ·rw[yP] at hl
    rw[jD]
    exact hs _ _ hl
   ·rw[yP] at hl
    exact hr _ _ hl
  ·simp [execOp,hu,ey,Tk si w bk off n cap k j h0 h1]
theorem Adr {t:Nat} {y:Operand} {p e' kk:Nat} (si:SI P t e sz) (hx:Bg st x=.s (.one (.ls p n))) (hy:Bg st y=.s (.one (.i k j)))
  (hm:st.m[p]? = some (.arr e' sz kk cs)) (hn:n*sz=cs.length) (h0:0<=j) (h1:j<n) :
  OpV P c st (.indexAddr t x y) ty (.s (.one (.ap p n (j.toNat*sz)))):=by
 intro a w S H r
 have hx':=Ax r x
 rw[hx] at hx'
 have hy':=Ax r y
 rw[hy] at hy'
 have ey:a.eval y=.int k j:=T4 hy'
 obtain⟨hp,_,hr⟩:=hx'
 have hH:=(hr _ _ _ _ hm).2 hn
 obtain⟨hsz,_,n',vals,hown,hls,_⟩:=r.bl p _ hm
 have hn':n'=n:=by
  have h3:=hown.1
  rw[<- hls.1,<- hn] at h3
  exact(jN hsz h3).symm
 subst hn'
 have hsh:∃ g cap,H p=.slice (some ⟨g,0,none⟩) n' cap:=by
  rcases hown.2 with⟨hv,h0'⟩|⟨g,cap,cur,hv,_⟩
  ·subst h0';simp at h1;omega
  ·exact⟨g,cap,hv⟩
 obtain⟨g,cap,hg⟩:=hsh
 refine⟨.pointer (some ⟨g,j.toNat*sz,none⟩),⟨hp,⟨rfl,by rw[hg];exact λh=>by cases h⟩,λe2 sz2 k2 cs2 hm2=>?_⟩,λ_ _ _ _=>?_⟩
 ·rw[hm] at hm2
  cases hm2
  exact⟨kF hn,λ_=>⟨g,cap,hg,rfl⟩⟩
 ·have:=Tk si w g 0 n' cap k j h0 h1
  simp only[yT] at this
  simp [execOp,hH,hg,ey,this]
theorem Jw {xs:List SV} {ix:Nat} {y:SV} (hx:Bg st x=.tup xs) (hy:xs[ix]? = some y):OpV P c st (.extract x ix) ty (.s y):=by
 intro a w S H r
 have hx':=Ax r x
 rw[hx] at hx'
 obtain⟨vs,hv,hl,hr⟩:=hx'
 have hj:ix<vs.size:=by rw[<- hl];exact(zB.1 hy).1
 have hg:vs[ix]? = some vs[ix]:=z9 hj
 refine⟨vs[ix],hr ix y _ hy hg,λ_ _ _ _=>?_⟩
 simp [execOp,hv,Instr.extract,hg]
theorem Add (hx:Bg st x=.s (.one l)) (hl:l.isPtr=true)
  (hcur:∀ p n o,l=.ap p n o->∃ e sz k cs,st.m[p]? = some (.arr e sz k cs)/\n*sz=cs.length):OpV P c st (.nilCheck x) ty (.s (.one l)):=by
 intro a w S H r
 have h1:=Ax r x
 rw[hx] at h1
 obtain⟨g,o,hv,_⟩:=Aup hl h1 hcur
 exact⟨_,h1,λ_ _ _ _=>by simp [execOp,hv]⟩
theorem Qv (si:SI P t e sz) (hx:Bg st x=.s (.one (.sl n cs))) :
  OpV P c st (.call { callee:=.builtin .len,args:=#[x],argTypes:=#[t] }) ty (.s (.one (.i .i64 n))):=by
 intro a w S H r
 have hx':=Ax r x
 rw[hx] at hx'
 obtain⟨ad,cap,hv⟩:=A0j (hx':Rep w S (.sl n cs) (a.eval x))
 refine⟨.int .i64 n,D4 (.i _ _),λ_ _ _ _=>?_⟩
 simp [execOp,resolve,invoke,builtin,Builtin.len_,run_underlying si.u,hv,goInt]
theorem Z7 (si:SI P t e sz) (hx:Bg st x=.s (.one (.raw (.slice none 0 0)))) :
  OpV P c st (.call { callee:=.builtin .len,args:=#[x],argTypes:=#[t] }) ty (.s (.one (.i .i64 0))):=by
 intro a w S H r
 have hx':=Ax r x
 rw[hx] at hx'
 have hv:a.eval x=.slice none 0 0:=Ix hx'
 refine⟨.int .i64 0,D4 (.i _ _),λ_ _ _ _=>?_⟩
 simp [execOp,resolve,invoke,builtin,Builtin.len_,run_underlying si.u,hv,goInt]
theorem L9 {p e' kk:Nat} (si:SI P t e sz) (hx:Bg st x=.s (.one (.ls p n))) (hm:st.m[p]? = some (.arr e' sz kk cs)) (hn:n*sz=cs.length) :
  OpV P c st (.call { callee:=.builtin .len,args:=#[x],argTypes:=#[t] }) ty (.s (.one (.i .i64 n))):=by
 intro a w S H r
 have hx':=Ax r x
 rw[hx] at hx'
 obtain⟨hp,_,hr⟩:=hx'
 have hH:=(hr _ _ _ _ hm).2 hn
 obtain⟨hsz,_,n',vals,hown,hls,_⟩:=r.bl p _ hm
 have hn':n'=n:=by
  have h3:=hown.1
  rw[<- hls.1,<- hn] at h3
  exact(jN hsz h3).symm
 subst hn'
 have hsh:∃ g cap,H p=.slice g n' cap:=by
  rcases hown.2 with⟨hv,h0'⟩|⟨g,cap,cur,hv,_⟩
  ·exact⟨none,0,by rw[hv,h0']⟩
  ·exact⟨_,cap,hv⟩
 obtain⟨g,cap,hg⟩:=hsh
 refine⟨.int .i64 n',D4 (.i _ _),λ_ _ _ _=>?_⟩
 simp [execOp,resolve,invoke,builtin,Builtin.len_,run_underlying si.u,hH,hg,goInt]
theorem As0 {y:Operand} {k':IntKind} {n m:Int} (hx:Bg st x=.s (.one (.i k n))) (hy:Bg st y=.s (.one (.i k' m))) :
  OpV P c st (.call { callee:=.builtin .min,args:=#[x,y],argTypes:=ts }) ty (.s (.one (.i k (if m<n then m else n)))):=by
 intro a w S H r
 have hx':=Ax r x
 rw[hx] at hx'
 have hy':=Ax r y
 rw[hy] at hy'
 have ex:a.eval x=.int k n:=T4 hx'
 have ey:a.eval y=.int k' m:=T4 hy'
 refine⟨.int k _,D4 (.i _ _),λ_ _ _ _=>?_⟩
 simp [execOp,resolve,invoke,builtin,ex,ey,run_min_int2]
theorem A2n {y:Operand} {k':IntKind} {n m:Int} (hx:Bg st x=.s (.one (.i k n))) (hy:Bg st y=.s (.one (.i k' m))) :
  OpV P c st (.call { callee:=.builtin .max,args:=#[x,y],argTypes:=ts }) ty (.s (.one (.i k (if m > n then m else n)))):=by
 intro a w S H r
 have hx':=Ax r x
 rw[hx] at hx'
 have hy':=Ax r y
 rw[hy] at hy'
 have ex:a.eval x=.int k n:=T4 hx'
 have ey:a.eval y=.int k' m:=T4 hy'
 refine⟨.int k _,D4 (.i _ _),λ_ _ _ _=>?_⟩
 simp [execOp,resolve,invoke,builtin,ex,ey,run_max_int2]
end
end
open Go.RowKit
section
variable {st:AS} {a:Act} {c:Ctx} {R:Lf->Value->Prop} {ls:List Lf} {H:Nat->Value} {y:Operand} {x:SV} {S:Dx} {e t:TypeId} {w:World}
theorem Rel.newBox (r:Rel c st a w S H) {cells:Array Value} (hls:LsR (Bf w S st.m H) ls cells.toList) :
  Rel c ⟨st.t,st.m++[.box ls]⟩ a (w.alloc (.cells cells e)) S (λp=>if p=st.m.length then .pointer (some ⟨w.heap.size,0,none⟩) else H p):=by
 have hx:Ext w S (w.alloc (.cells cells e)) S:=Ext.alloc w S _
 have hS:InH (w.alloc (.cells cells e)) S:=r.sl.ext hx
 have r':=r.ext hx hS
 have hmm:∀ (p:Nat) (b:Blk),(st.m++[Blk.box ls])[p]? = some b->(p<st.m.length/\st.m[p]? = some b)\/(p=st.m.length/\b=.box ls):=by
  intro p b h
  rcases zQ p st.m.length with hp|hp
  ·rw[zL hp] at h;exact .inl ⟨hp,h⟩
  ·rw[zX hp] at h
   rcases Nat.eq_or_lt_of_le hp with he|he
   ·rw[<- he] at h;simp at h;exact .inr ⟨he.symm,h.symm⟩
   ·rw[zZ (by simp;omega)] at h;cases h
 have hg:∀ l v,Bf (w.alloc (.cells cells e)) S st.m H l v->Bf (w.alloc (.cells cells e)) S (st.m++[.box ls]) (λp=>if p=st.m.length then .pointer (some ⟨w.heap.size,0,none⟩) else H p) l v:=by
  intro l v
  refine Bf.mono (λb i h=>⟨h,rfl⟩) (by simp) (λp hp=>if_neg (Nat.ne_of_lt hp)) (λp e sz k cs hp hm=>⟨k,cs,?_,rfl⟩)
  rw[zL hp] at hm
  exact hm
 have hH:∀ p,p<st.m.length->(λp=>if p=st.m.length then Value.pointer (some ⟨w.heap.size,0,none⟩) else H p) p=H p:=λp hp=>if_neg (Nat.ne_of_lt hp)
 have hHn:(λp=>if p=st.m.length then Value.pointer (some ⟨w.heap.size,0,none⟩) else H p) st.m.length=.pointer (some ⟨w.heap.size,0,none⟩):=if_pos rfl
 generalize hHH:(λp=>if p=st.m.length then Value.pointer (some ⟨w.heap.size,0,none⟩) else H p)=H' at *
 refine⟨r'.nt,r'.df,λi=>AVR.mono hg (r'.tm i),λp b hb=>?_,λp b g hb ho=>?_,λp q b b' g hb hb' ho ho'=>?_,λp b g i hb ho hs=>?_,hS,r'.ex,yU r'.kl (by simp),λp g hp hh=>?_,λp e' sz k cs hp hm=>?_,λp hp hne=>by rw[hH p (zY hp r'.kl)];exact r'.ku p hp hne⟩
 ·rcases hmm p b hb with⟨hp,hb'⟩|⟨rfl,rfl⟩
  ·have hr:=r'.bl p b hb'
   rw[hH p hp]
   cases b with
   | dead=>trivial
   | hole=>exact hr
   | obj g mk cs=>exact hr
   | tab mk cs=>exact hr
   | arn e sz g n cap cs =>
    obtain⟨h1,cur,h2,h3,h4⟩:=hr
    exact⟨h1,cur,h2,h3,h4.mono hg⟩
   | box cs =>
    obtain⟨g,e,cur,h1,h2,h3⟩:=hr
    exact⟨g,e,cur,h1,h2,h3.mono hg⟩
   | arr e sz k cs=>exact hr
  ·rw[hHn]
   exact⟨w.heap.size,e,cells,rfl,heap_alloc_new w _,(hls.mono (λl v h=>Bf.mono (hx.keeps r.sl) (zT _) (λ_ _=>rfl) (λp e sz k cs _ hm=>⟨k,cs,hm,rfl⟩) h)).mono hg⟩
 ·rcases hmm p b hb with⟨hp,hb'⟩|⟨rfl,rfl⟩
  ·rw[hH p hp] at ho
   exact r'.lo p b g hb' ho
  ·rw[hHn] at ho
   simp only[Blk.own,Cz,z2] at ho
   subst ho
   exact⟨.inl r.ex.size,by simp⟩
 ·have old:∀ p b,p<st.m.length->st.m[p]? = some b->b.own (H p)=some g->g<w.heap.size:=λp b _ hb ho=>(r.lo p b g hb ho).2
  rcases hmm p b hb with⟨hp,hb1⟩|⟨rfl,rfl⟩ <;> rcases hmm q b' hb' with⟨hq,hb2⟩|⟨rfl,rfl⟩
  ·rw[hH p hp] at ho;rw[hH q hq] at ho'
   exact r.inj p q b b' g hb1 hb2 ho ho'
  ·rw[hH p hp] at ho;rw[hHn] at ho'
   simp only[Blk.own,Cz,z2] at ho'
   have:=old p b hp hb1 ho
   omega
  ·rw[hH q hq] at ho';rw[hHn] at ho
   simp only[Blk.own,Cz,z2] at ho
   have:=old q b' hq hb2 ho'
   omega
  ·rfl
 ·rcases hmm p b hb with⟨hp,hb'⟩|⟨rfl,rfl⟩
  ·rw[hH p hp] at ho
   exact r.sb p b g i hb' ho hs
  ·rw[hHn] at ho
   simp only[Blk.own,Cz,z2] at ho
   subst ho
   exact absurd (r.sl.1 _ i hs) (wF _)
 ·exact(hH p (zY hp r'.kl)).trans (r'.kh p g hp hh)
 ·have hp':=zY hp r'.kl
  rw[hH p hp']
  refine r'.kr p e' sz k cs hp ?_
  rw[zL hp'] at hm
  exact hm
structure ZI (P:Program) (t:TypeId) (zl:List Lf):Prop where
 h:∃ i z,P.info? t=some i/\i.zero=some z/\z.cells.toList.map clf=zl/\z.cells.all (·.oneCell')=true
theorem Ajg {m:List Blk} {cs:Array Value} (h:cs.all (·.oneCell')=true):LsR (Bf w S m H) (cs.toList.map clf) cs.toList:=by
 refine⟨by simp,λj l u h1 h2=>?_⟩
 rw[zK,h2] at h1
 simp only[xM,z2] at h1
 subst h1
 refine Bf.of_rep (Aju ?_)
 have hu:u∈cs:=Array.mem_toList_iff.1 (zD h2)
 rw[w9] at h
 exact h u hu
section
variable {P:Program} {c:Ctx} {st:AS} {ops:Array Oper} {Q:Exit->AS->Prop} {rest:List Oper} {ty:TypeId} {pos:String} {af:Array Edge} {d:Tmp}
theorem Ahv {op:Op} (hd:d<c.nt)
  (h:∀ a w S H,Rel c st a w S H->∃ cells e,LsR (Bf w S st.m H) ls cells.toList/\(execOp a.eval ⟨some d,op,ty,pos,af,none⟩).run P w=.ok (.value (.pointer (some ⟨w.heap.size,0,none⟩))) (w.alloc (.cells cells e)))
  (k:AWL P c ops Q rest ⟨Go.Proofs.YtkblaobhhoebaaaGreat.Abs.upd st.t d (.s (.one (.lp st.m.length 0))),st.m++[.box ls]⟩):AWL P c ops Q (⟨some d,op,ty,pos,af,none⟩::rest) st:=by
 intro a w S H r
 obtain⟨cells,e,hls,hrun⟩:=h a w S H r
 refine wpList_plain rfl λK hK=>?_
 unfold Oper.wp
 rw[hrun]
 refine hK _ _ (k _ _ _ _ ((r.newBox (e:=e) hls).put (d:=d) (x:=.s (.one (.lp st.m.length 0))) hd ?_))
 exact⟨by simp,w.heap.size,by simp,rfl⟩
theorem Al4 {zl:List Lf} (zi:ZI P t zl) (hd:d<c.nt)
  (k:AWL P c ops Q rest ⟨Go.Proofs.YtkblaobhhoebaaaGreat.Abs.upd st.t d (.s (.one (.lp st.m.length 0))),st.m++[.box zl]⟩):AWL P c ops Q (⟨some d,.alloc t,ty,pos,af,none⟩::rest) st:=by
 refine Ahv hd (λa w S H r=>?_) k
 obtain⟨i,z,hi,hz,hl,ho⟩:=zi.h
 subst hl
 exact⟨z.cells,t,Ajg ho,by simp [execOp,Instr.alloc,zeroValue,typeInfo,hi,hz,newVar,newRow]⟩
def SV.cells:SV->List Lf
 | .one l=>[l]
 | .agg ls=>ls
theorem T3 {v:Value} (h:SVR R x v) (ho:∀ l v,R l v->v.oneCell'=true):LsR R x.cells v.cells.toList:=by
 cases x with
 | one l =>
  have h':R l v:=h
  have hv:v.cells = #[v]:=by
   have:=ho l v h'
   cases v <;> first|rfl|cases this
  rw[hv]
  refine⟨rfl,λj l' u h1 h2=>?_⟩
  cases j with
  | zero =>
   simp only[SV.cells,yV,z2] at h1 h2
   subst h1;subst h2
   exact h'
  | succ j=>simp [SV.cells] at h1
 | agg ls =>
  obtain⟨cs,rfl,hl⟩:=h
  exact hl
theorem Avg (hx:Bg st y=.s x) (hd:d<c.nt)
  (k:AWL P c ops Q rest ⟨Go.Proofs.YtkblaobhhoebaaaGreat.Abs.upd st.t d (.s (.one (.lp st.m.length 0))),st.m++[.box x.cells]⟩):AWL P c ops Q (⟨some d,.box t y,ty,pos,af,none⟩::rest) st:=by
 refine Ahv hd (λa w S H r=>?_) k
 have h:=Ax r y
 rw[hx] at h
 exact⟨(a.eval y).cells,t,T3 h (λl v=>Bf.oneCell),by simp [execOp,Instr.box,newVar,newRow]⟩
def Eu (cs:List Lf) (off:Nat) (ls:List Lf):List Lf:=cs.take off++ls++cs.drop (off+ls.length)
theorem getElem?_putAt {α:Type} (cs ls:List α) (off j:Nat) (h:off+ls.length<=cs.length) :
  (cs.take off++ls++cs.drop (off+ls.length))[j]? = if j<off then cs[j]? else if j<off+ls.length then ls[j-off]? else cs[j]? := by
 have h1:(cs.take off).length=off:=by simp;omega
 by_cases a:j<off
 ·rw[if_pos a,xE,zL (by omega),yR,if_pos a]
 ·rw[if_neg a]
  by_cases b:j<off+ls.length
  ·rw[if_pos b,zL (by simp;omega),zX (by omega),h1]
  ·rw[if_neg b,zX (by simp;omega),yP]
   congr 1
   simp
   omega
theorem Rel.setBox (r:Rel c st a w S H) {p off g:Nat} {cs:List Lf} {cur:Array Value} {us:List Value}
  (hm:st.m[p]? = some (.box cs)) (hH:H p=.pointer (some ⟨g,0,none⟩)) (hg:w.heap[g]? = some (.cells cur e (0,0))) (hls:LsR (Bf w S st.m H) ls us) (hfit:off+ls.length<=cs.length) :
  Rel c ⟨st.t,st.m.set p (.box (Eu cs off ls))⟩ a (w.setRow g (cur.toList.take off++us++cur.toList.drop (off+us.length)).toArray) S H:=by
 have hown:(Blk.box cs).own (H p)=some g:=by rw[hH];rfl
 have hlo:=r.lo p _ g hm hown
 have hp:p<st.m.length:=(zB.1 hm).1
 have hst:∀ i,¬ S g i:=λi hs=>by have:=r.sb p _ g i hm hown hs;simp [Blk.stab] at this
 have hkeep:∀ b i,S b i->S b i/\(w.setRow g (cur.toList.take off++us++cur.toList.drop (off+us.length)).toArray).cell? ⟨b,i,none⟩=w.cell? ⟨b,i,none⟩:=by
  intro b i hs
  refine⟨hs,cell_setRow_other w g _ ⟨b,i,none⟩ (λe=>hst i ?_)⟩
  have e':b=g:=by first|exact e|exact e.symm
  subst e'
  exact hs
 have hgr:∀ l v,Bf w S st.m H l v->Bf (w.setRow g (cur.toList.take off++us++cur.toList.drop (off+us.length)).toArray) S (st.m.set p (.box (Eu cs off ls))) H l v:=by
  intro l v
  refine Bf.mono hkeep (by simp) (λ_ _=>rfl) (λq e sz k cs' hq hm'=>⟨k,cs',?_,rfl⟩)
  by_cases hqp:p=q
  ·subst hqp;rw[zN hp] at hm';cases hm'
  ·rw[zS hqp] at hm';exact hm'
 have hoth:∀ k,k≠g->(w.setRow g (cur.toList.take off++us++cur.toList.drop (off+us.length)).toArray).heap[k]? = w.heap[k]? := λk hk=>setRow_other w g k _ hk
 have hsame:(w.setRow g (cur.toList.take off++us++cur.toList.drop (off+us.length)).toArray).heap[g]? = some (.cells (cur.toList.take off++us++cur.toList.drop (off+us.length)).toArray e (0,0)):=setRow_heap w g cur _ e _ hg
 have hcur:LsR (Bf w S st.m H) cs cur.toList:=by
  obtain⟨g',e',cur',h1,h2,h3⟩:=r.bl p _ hm
  rw[hH] at h1
  cases h1
  rw[hg] at h2
  cases h2
  exact h3
 have hmm:∀ (q:Nat) (b:Blk),(st.m.set p (.box (Eu cs off ls)))[q]? = some b->(q=p/\b=.box (Eu cs off ls))\/(q≠p/\st.m[q]? = some b):=by
  intro q b h
  by_cases hqp:p=q
  ·subst hqp;rw[zN hp] at h;cases h;exact .inl ⟨rfl,rfl⟩
  ·rw[zS hqp] at h;exact .inr ⟨λe=>hqp e.symm,h⟩
 have hothb:∀ (q:Nat) (b:Blk) (g':Nat),q≠p->st.m[q]? = some b->b.own (H q)=some g'->g'≠g:=λq b g' hq hb ho e=>by
  subst e
  exact hq (r.inj q p b _ g' hb hm ho hown)
 generalize hw':w.setRow g (cur.toList.take off++us++cur.toList.drop (off+us.length)).toArray=w' at *
 have hsz:w'.heap.size=w.heap.size:=by rw[<- hw'];simp
 refine⟨r.nt,r.df,λi=>AVR.mono hgr (r.tm i),λq b hb=>?_,λq b g' hb ho=>?_,λq q' b b' g' hb hb' ho ho'=>?_,λq b g' i hb ho hs=>?_,r.sl.turn (·=g) (λg' i e' hs=>absurd hs (by subst e';exact hst i)) (λq _ hne=>hoth q hne) (kF hsz.symm) (λb i hs=>(hkeep b i hs).2),?_,(by simpa using r.kl),r.kh,λq e' sz k cs' hq hm'=>?_,r.ku⟩
 ·rcases hmm q b hb with⟨rfl,rfl⟩|⟨hq,hb'⟩
  ·refine⟨g,e,_,hH,hsame,?_⟩
   have hll:us.length=ls.length:=hls.1.symm
   refine⟨by simp only[Eu,zI,zR,yF];rw[hll,hcur.1],λj l u h1 h2=>?_⟩
   unfold Eu at h1
   rw[getElem?_putAt cs ls off j hfit] at h1
   simp only at h2
   rw[getElem?_putAt cur.toList us off j (by rw[hll,<- hcur.1];exact hfit)] at h2
   rw[hll] at h2
   refine hgr _ _ ?_
   by_cases a:j<off
   ·rw[if_pos a] at h1 h2;exact hcur.2 j l u h1 h2
   ·rw[if_neg a] at h1 h2
    by_cases b:j<off+ls.length
    ·rw[if_pos b] at h1 h2;exact hls.2 _ l u h1 h2
    ·rw[if_neg b] at h1 h2;exact hcur.2 j l u h1 h2
  ·have hr:=r.bl q b hb'
   have ho:=hothb q b
   cases b with
   | dead=>trivial
   | hole=>exact hr
   | obj g' mk cs' =>
    obtain⟨h1,vs,o,h2,h3,h4,h5⟩:=hr
    exact⟨h1,vs,o,(hoth g' (ho g' hq hb' (by rw[h1];rfl))).trans h2,h3,h4,h5.mono (λl v=>Rep.mono hkeep)⟩
   | tab mk cs' =>
    obtain⟨g',h1,vs,o,h2,h3,h4,h5⟩:=hr
    exact⟨g',h1,vs,o,(hoth g' (ho g' hq hb' (by rw[h1];rfl))).trans h2,h3,h4,h5.mono (λl v=>Rep.mono hkeep)⟩
   | arn e' sz g' n cap cs' =>
    obtain⟨h1,cur',h2,h3,h4⟩:=hr
    exact⟨h1,cur',(hoth g' (ho g' hq hb' (by rw[h1];rfl))).trans h2,h3,h4.mono hgr⟩
   | box cs' =>
    obtain⟨g',e',cur',h1,h2,h3⟩:=hr
    exact⟨g',e',cur',h1,(hoth g' (ho g' hq hb' (by rw[h1];rfl))).trans h2,h3.mono hgr⟩
   | arr e' sz k cs' =>
    obtain⟨h0,hk1,n,vals,h1,h2,h3⟩:=hr
    exact⟨h0,hk1,n,vals,Iq h1 (λg' hgo=>hoth g' (ho g' hq hb' hgo)),h2.mono (λl v=>Rep.mono hkeep),h3⟩
 ·rw[hsz]
  rcases hmm q b hb with⟨rfl,rfl⟩|⟨hq,hb'⟩
  ·exact r.lo q _ g' hm ho
  ·exact r.lo q b g' hb' ho
 ·rcases hmm q b hb with⟨rfl,rfl⟩|⟨hq,hb1⟩ <;> rcases hmm q' b' hb' with⟨rfl,rfl⟩|⟨hq',hb2⟩
  ·rfl
  ·exact r.inj _ _ _ _ g' hm hb2 ho ho'
  ·exact r.inj _ _ _ _ g' hb1 hm ho ho'
  ·exact r.inj _ _ _ _ g' hb1 hb2 ho ho'
 ·rcases hmm q b hb with⟨rfl,rfl⟩|⟨hq,hb'⟩
  ·exact absurd (r.sb q _ g' i hm ho hs) (by simp [Blk.stab])
  ·exact r.sb q b g' i hb' ho hs
 ·have hx:=r.ex
  refine⟨?_,?_,?_,by rw[hsz];exact hx.size,λb hb hX=>?_,hx.sub,λb i hs=>(hkeep b i (hx.sub b i hs)).2.trans (hx.stab b i hs),hx.back⟩
  ·rw[<- hx.os,<- hw'];rfl
  ·rw[<- hx.tape,<- hw'];rfl
  ·rw[<- hx.output,<- hw'];rfl
  ·rw[hoth b (λe=>by subst e;exact hlo.1.elim (λh=>by omega) (λh=>hX h))]
   exact hx.blk b hb hX
 ·rcases hmm q _ hm' with⟨_,h⟩|⟨_,h⟩
  ·cases h
  ·exact r.kr q e' sz k cs' hq h
theorem Aa3 {x:Operand} {p off sz:Nat} {v:SV} {cs:List Lf} (hi:(P.info? t).map (·.size)=some sz) (hx:Bg st x=.s (.one (.lp p off))) (hy:Bg st y=.s v) (hm:st.m[p]? = some (.box cs))
  (hv:v.cells.length=sz) (hfit:off+sz<=cs.length)
  (k:AWL P c ops Q rest ⟨st.t,st.m.set p (.box (Eu cs off v.cells))⟩):AWL P c ops Q (⟨none,.store t x y,ty,pos,af,none⟩::rest) st:=by
 intro a w S H r
 have hx':=Ax r x
 rw[hx] at hx'
 obtain⟨_,g,hH,ex⟩:=hx'
 have hy':=Ax r y
 rw[hy] at hy'
 have hls:=T3 hy' (λl v=>Bf.oneCell)
 obtain⟨g',e,cur,h1,hg,hcur⟩:=r.bl p _ hm
 rw[hH] at h1
 cases h1
 have hlen:(a.eval y).cells.toList.length=sz:=by rw[<- hls.1,hv]
 have hone:∀ u∈(a.eval y).cells.toList,u.oneCell'=true:=by
  intro u hu
  obtain⟨j,hj,hju⟩:=y9 hu
  have hj':j<v.cells.length:=by rw[hls.1];exact hj
  exact Bf.oneCell (hls.2 j _ u (zC hj') (by rw[zC hj,hju]))
 have hst:=run_storeCells_at P g off e (a.eval y).cells.toList 0 cur w hg (by rw[hlen,kR,<- yL,<- hcur.1];exact hfit) hone
 simp only[kR] at hst
 refine wpList_plain rfl λK hK=>?_
 unfold Oper.wp
 have hrun:(execOp a.eval ⟨none,.store t x y,ty,pos,af,none⟩).run P w=.ok .skip (w.setRow g (cur.toList.take off++(a.eval y).cells.toList++cur.toList.drop (off+(a.eval y).cells.toList.length)).toArray):=by
  have hszz:(a.eval y).cells.size=sz:=by simpa using hlen
  simp only[execOp,ex,Instr.storeAt,Instr.sureAddr,storeVar,Sem.run_bind,Sem.run_pure,Result.andThen_ok,Cc hi,hszz,ne_eq,not_true_eq_false,if_false,hst]
 rw[hrun]
 exact hK a _ (k a _ S H (r.setBox (off:=off) hm hH hg hls (by rw[hv];exact hfit)))
end
end
open Go.RowKit
section
variable {st:AS} {a:Act} {b':Blk} {c:Ctx} {m':List Blk} {cs:List Lf} {base g p sz:Nat} {H:Nat->Value} {S:Dx} {v:Value} {w:World}
instance:Inhabited Lf:=⟨.b false⟩
def Te (H:Nat->Value) (p:Nat) (v:Value):Nat->Value:=λq=>if q=p then v else H q
theorem Ba (H:Nat->Value) (p:Nat) (v:Value):Te H p v p=v:=if_pos rfl
theorem Bv (H:Nat->Value) {q:Nat} (v:Value) (h:q≠p):Te H p v q=H q:=if_neg h
theorem Apn {m:List Blk} {b:Blk} {h:Value} (hb:Au9 base w S m H b h) {i:Nat} (ho:b.own h=some g) (hi:i<b.stab):w.cell? ⟨g,i,none⟩≠none:=by
 cases b with
 | arr e sz k cs =>
  obtain⟨_,hk,n,vals,h1,h2,_⟩:=hb
  have hj:i<vals.length:=by rw[<- h2.1];exact zY hi hk
  rcases h1.2 with⟨hv,_⟩|⟨g',cap,cur,hv,_,hg,_,_,hcs,ht⟩
  ·rw[hv] at ho;cases ho
  ·rw[hv] at ho
   cases ho
   rw[cell_of_row w g' i cur e (0,0) hg]
   rw[<- ht,zR] at hj
   intro hc
   rw[Array.getElem?_eq_none_iff] at hc
   rw[yL] at hj
   omega
 | box cs=>exact absurd hi (zW _)
 | dead=>exact absurd hi (zW _)
 | hole=>exact absurd hi (zW _)
 | obj g mk cs=>exact absurd hi (zW _)
 | tab mk cs=>exact absurd hi (zW _)
 | arn e sz g n cap cs=>exact absurd hi (zW _)
theorem Rel.changeM {w':World} {S':Dx} (r:Rel c st a w S H)
  (hlen:st.m.length<=m'.length) (hpm:m'[p]? = some b') (hoth:∀ q,q≠p->m'[q]? = st.m[q]?)
  (hkeep:∀ b i,S b i->S' b i/\w'.cell? ⟨b,i,none⟩=w.cell? ⟨b,i,none⟩)
  (hbox:∀ g,p<st.m.length->H p=.pointer (some ⟨g,0,none⟩)->v=H p)
  (harr:∀ e sz k cs,p<st.m.length->(H p≠undef\/p<c.m0.length)->b'=.arr e sz k cs->∃ k' cs',st.m[p]? = some (.arr e sz k' cs')/\((cs'.length=cs.length/\v=H p)\/cs'.length<cs.length))
  (hblk:∀ g,g<w.heap.size->(∀ b,st.m[p]? = some b->b.own (H p)≠some g)->w'.heap[g]? = w.heap[g]?)
  (hb':Au9 0 w' S' m' (Te H p v) b' v)
  (hown:∀ g,b'.own v=some g->(c.w0.heap.size<=g\/c.X g)/\g<w'.heap.size/\(∀ q b,q≠p->st.m[q]? = some b->b.own (H q)≠some g)/\∀ i,S' g i->i<b'.stab)
  (hS':∀ q b g i,q≠p->st.m[q]? = some b->b.own (H q)=some g->S' g i->S g i)
  (hS0:∀ g i,g<c.w0.heap.size->¬ c.X g->S' g i->S g i)
  (hin:InH w' S') (hsz:w.heap.size<=w'.heap.size) (hos:w'.os=w.os) (htp:w'.tape=w.tape) (hou:w'.output=w.output)
  (hvd:(b'=.dead\/b'=.hole)->p<st.m.length->H p≠undef->v≠undef:=by intro h;rcases h with h|h <;> cases h) :
  Rel c ⟨st.t,m'⟩ a w' S' (Te H p v):=by
 have hvu:p<st.m.length->H p≠undef->v≠undef:=λhp hne=>by
  cases b' with
  | dead=>exact hvd (.inl rfl) hp hne
  | hole=>exact hvd (.inr rfl) hp hne
  | obj g mk cs=>rw[hb'.1];exact λh=>by cases h
  | tab mk cs=>obtain⟨g,h1,_⟩:=hb';rw[h1];exact λh=>by cases h
  | arn e sz g n cap cs=>rw[hb'.1];exact λh=>by cases h
  | box cs=>obtain⟨g,e,cur,h1,_⟩:=hb';rw[h1];exact λh=>by cases h
  | arr e sz k cs=>obtain⟨_,_,n,vals,h1,_⟩:=hb';rcases h1.2 with⟨h2,_⟩ | ⟨g,cap,cur,h2,_⟩ <;> (rw[h2];exact λh=>by cases h)
 have hgr:∀ l u,Bf w S st.m H l u->Bf w' S' m' (Te H p v) l u:=by
  intro l u
  refine Bf.mono3 hkeep hlen (λq g hq hh=>?_) (λq hq hne=>?_) (λq e sz k cs hq hne hm=>?_)
  ·by_cases e:q=p
   ·subst e;rw[Ba];exact hbox g hq hh
   ·exact Bv H v e
  ·by_cases e:q=p
   ·subst e;rw[Ba];exact hvu hq hne
   ·rw[Bv H v e];exact hne
  ·by_cases e':q=p
   ·subst e'
    rw[hpm] at hm
    rw[Ba]
    exact harr e sz k cs hq (.inl hne) (zF hm)
   ·rw[hoth q e'] at hm
    rw[Bv H v e']
    exact⟨k,cs,hm,.inl ⟨rfl,rfl⟩⟩
 have hown':∀ (q:Nat) (b:Blk),q≠p->st.m[q]? = some b->∀ g,b.own (H q)=some g->w'.heap[g]? = w.heap[g]? := λq b hq hb g ho =>
  hblk g (r.lo q b g hb ho).2 (λb1 hb1 ho1=>hq (r.inj q p b b1 g hb hb1 ho ho1))
 refine⟨r.nt,r.df,λi=>AVR.mono hgr (r.tm i),λq b hb=>?_,λq b g hb ho=>?_,λq q' b b1 g hb hb1 ho ho1=>?_,λq b g i hb ho hs=>?_,hin,?_,yU r.kl hlen,λq g hq hh=>?_,λq e sz k cs hq hm=>?_,λq hq hne=>?_⟩
 rotate_right
 ·by_cases e:q=p
  ·subst e;rw[Ba];exact hvu (zY hq r.kl) (r.ku q hq hne)
  ·rw[Bv H v e];exact r.ku q hq hne
 ·by_cases e:q=p
  ·subst e
   rw[hpm] at hb
   cases hb
   rw[Ba]
   exact hb'
  ·rw[hoth q e] at hb
   rw[Bv H v e]
   have hr:=r.bl q b hb
   have ho:=hown' q b e hb
   cases b with
   | dead=>trivial
   | hole=>exact hr
   | obj g mk cs =>
    obtain⟨h1,vs,o,h2,h3,h4,h5⟩:=hr
    exact⟨h1,vs,o,(ho g (by rw[h1];rfl)).trans h2,h3,h4,h5.mono (λl u=>Rep.mono hkeep)⟩
   | tab mk cs =>
    obtain⟨g,h1,vs,o,h2,h3,h4,h5⟩:=hr
    exact⟨g,h1,vs,o,(ho g (by rw[h1];rfl)).trans h2,h3,h4,h5.mono (λl u=>Rep.mono hkeep)⟩
   | arn ee sz g n cap cs =>
    obtain⟨h1,cur,h2,h3,h4⟩:=hr
    exact⟨h1,cur,(ho g (by rw[h1];rfl)).trans h2,h3,h4.mono hgr⟩
   | box cs =>
    obtain⟨g,ee,cur,h1,h2,h3⟩:=hr
    exact⟨g,ee,cur,h1,(ho g (by rw[h1];rfl)).trans h2,h3.mono hgr⟩
   | arr ee sz k cs =>
    obtain⟨h0,hk1,n,vals,h1,h2,h3⟩:=hr
    exact⟨h0,hk1,n,vals,Iq h1 (λg hgo=>ho g hgo),h2.mono (λl u=>Rep.mono hkeep),λg hgo i hi=>(hkeep g i (h3 g hgo i hi)).1⟩
 ·by_cases e:q=p
  ·subst e
   rw[hpm] at hb;cases hb
   rw[Ba] at ho
   exact⟨(hown g ho).1,(hown g ho).2.1⟩
  ·rw[hoth q e] at hb
   rw[Bv H v e] at ho
   have:=r.lo q b g hb ho
   exact⟨this.1,zY this.2 hsz⟩
 ·by_cases e:q=p <;> by_cases e1:q'=p
  ·rw[e,e1]
  ·subst e
   rw[hpm] at hb;cases hb
   rw[Ba] at ho
   rw[hoth q' e1] at hb1
   rw[Bv H v e1] at ho1
   exact absurd ho1 ((hown g ho).2.2.1 q' b1 e1 hb1)
  ·subst e1
   rw[hpm] at hb1;cases hb1
   rw[Ba] at ho1
   rw[hoth q e] at hb
   rw[Bv H v e] at ho
   exact absurd ho ((hown g ho1).2.2.1 q b e hb)
  ·rw[hoth q e] at hb
   rw[Bv H v e] at ho
   rw[hoth q' e1] at hb1
   rw[Bv H v e1] at ho1
   exact r.inj q q' b b1 g hb hb1 ho ho1
 ·by_cases e:q=p
  ·subst e
   rw[hpm] at hb;cases hb
   rw[Ba] at ho
   exact(hown g ho).2.2.2 i hs
  ·rw[hoth q e] at hb
   rw[Bv H v e] at ho
   exact r.sb q b g i hb ho (hS' q b g i e hb ho hs)
 ·have hx:=r.ex
  refine⟨hos.trans hx.os,htp.trans hx.tape,hou.trans hx.output,yU hx.size hsz,λb hb hX=>?_,λb i hs=>(hkeep b i (hx.sub b i hs)).1,λb i hs=>(hkeep b i (hx.sub b i hs)).2.trans (hx.stab b i hs),λb i hb hX hs=>hx.back b i hb hX (hS0 b i hb hX hs)⟩
  refine Eq.trans (hblk b (zY hb hx.size) (λb1 hb1 ho=>?_)) (hx.blk b hb hX)
  rcases(r.lo p b1 b hb1 ho).1 with h|h
  ·omega
  ·exact hX h
 ·by_cases e:q=p
  ·subst e
   have hq':=r.kh q g hq hh
   rw[Ba,hbox g (zY hq r.kl) (hq'.trans hh),hq']
  ·rw[Bv H v e]
   exact r.kh q g hq hh
 ·by_cases e':q=p
  ·subst e'
   rw[hpm] at hm
   obtain⟨k1,cs1,h1,h2⟩:=harr e sz k cs (zY hq r.kl) (.inr hq) (zF hm)
   obtain⟨k2,cs2,h3,h4⟩:=r.kr q e sz k1 cs1 hq h1
   refine⟨k2,cs2,h3,?_⟩
   rw[Ba]
   rcases h2 with⟨h2,hv⟩|h2 <;> rcases h4 with⟨h4,hv4⟩|h4
   ·exact .inl ⟨h4.trans h2,hv.trans hv4⟩
   ·exact .inr (by omega)
   ·exact .inr (by omega)
   ·exact .inr (by omega)
  ·rw[hoth q e'] at hm
   rw[Bv H v e']
   exact r.kr q e sz k cs hq hm
theorem Rel.changeH {w':World} {S':Dx} (r:Rel c st a w S H)
  (hlen:st.m.length<=m'.length) (hpm:m'[p]? = some b') (hoth:∀ q,q≠p->m'[q]? = st.m[q]?)
  (hkeep:∀ b i,S b i->S' b i/\w'.cell? ⟨b,i,none⟩=w.cell? ⟨b,i,none⟩)
  (hbox:∀ g,p<st.m.length->H p=.pointer (some ⟨g,0,none⟩)->v=H p)
  (harr:∀ e sz k cs,p<st.m.length->(H p≠undef\/p<c.m0.length)->b'=.arr e sz k cs->∃ k' cs',st.m[p]? = some (.arr e sz k' cs')/\((cs'.length=cs.length/\v=H p)\/cs'.length<cs.length))
  (hblk:∀ g,g<w.heap.size->(∀ b,st.m[p]? = some b->b.own (H p)≠some g)->w'.heap[g]? = w.heap[g]?)
  (hb':Au9 0 w' S' m' (Te H p v) b' v)
  (hown:∀ g,b'.own v=some g->(c.w0.heap.size<=g\/c.X g)/\g<w'.heap.size/\(∀ q b,q≠p->st.m[q]? = some b->b.own (H q)≠some g)/\∀ i,S' g i->i<b'.stab)
  (hS':∀ q b g i,q≠p->st.m[q]? = some b->b.own (H q)=some g->S' g i->S g i)
  (hS0:∀ g i,g<c.w0.heap.size->¬ c.X g->S' g i->S g i)
  (hin0:(∀ b i,S' b i->b<w'.heap.size)/\GLR w' S') (hsz:w.heap.size<=w'.heap.size) (hos:w'.os=w.os) (htp:w'.tape=w.tape) (hou:w'.output=w.output)
  (hvd:(b'=.dead\/b'=.hole)->p<st.m.length->H p≠undef->v≠undef:=by intro h;rcases h with h|h <;> cases h)
  (hbk:∀ g i,S' g i->S g i\/b'.own v=some g:=by first|exact λ_ _ h=>Or.inl h|(intro g i h;rcases h with h|h;exact Or.inl h;exact Or.inr (by first|exact h.1|(rw[h.1];rfl)))) :
  Rel c ⟨st.t,m'⟩ a w' S' (Te H p v):=by
 have hin:InH w' S':=⟨hin0.1,hin0.2,λg i hs hc=>by
  have hnew:b'.own v=some g->False:=λho=>Apn hb' ho ((hown g ho).2.2.2 i hs) hc
  rcases hbk g i hs with h|h
  ·rw[(hkeep g i h).2] at hc
   obtain⟨⟨cur,e,h1,h2⟩,h3⟩:=r.sl.2.2 g i h hc
   refine⟨⟨cur,e,(hblk g (r.sl.1 g i h) λb hb ho=>Apn (r.bl p b hb) ho (r.sb p b g i hb ho h) hc).trans h1,h2⟩,λj hj=>?_⟩
   rcases hbk g j hj with h4|h4
   ·exact(hkeep g j h4).2.trans (h3 j h4)
   ·exact absurd h4 (λh=>hnew h)
  ·exact absurd h (λh=>hnew h)⟩
 exact r.changeM hlen hpm hoth hkeep hbox harr hblk hb' hown hS' hS0 hin hsz hos htp hou hvd
theorem Rel.change {w':World} {S':Dx} (r:Rel c st a w S H)
  (hlen:st.m.length<=m'.length) (hpm:m'[p]? = some b') (hoth:∀ q,q≠p->m'[q]? = st.m[q]?)
  (hkeep:∀ b i,S b i->S' b i/\w'.cell? ⟨b,i,none⟩=w.cell? ⟨b,i,none⟩)
  (hbox:∀ g,p<st.m.length->H p=.pointer (some ⟨g,0,none⟩)->v=H p)
  (harr:∀ e sz k cs,p<st.m.length->b'=.arr e sz k cs->∃ k' cs',st.m[p]? = some (.arr e sz k' cs')/\((cs'.length=cs.length/\v=H p)\/cs'.length<cs.length))
  (hblk:∀ g,g<w.heap.size->(∀ b,st.m[p]? = some b->b.own (H p)≠some g)->w'.heap[g]? = w.heap[g]?)
  (hb':Au9 0 w' S' m' (Te H p v) b' v)
  (hown:∀ g,b'.own v=some g->(c.w0.heap.size<=g\/c.X g)/\g<w'.heap.size/\(∀ q b,q≠p->st.m[q]? = some b->b.own (H q)≠some g)/\∀ i,S' g i->i<b'.stab)
  (hS':∀ q b g i,q≠p->st.m[q]? = some b->b.own (H q)=some g->S' g i->S g i)
  (hS0:∀ g i,g<c.w0.heap.size->¬ c.X g->S' g i->S g i)
  (hin0:(∀ b i,S' b i->b<w'.heap.size)/\GLR w' S') (hsz:w.heap.size<=w'.heap.size) (hos:w'.os=w.os) (htp:w'.tape=w.tape) (hou:w'.output=w.output)
  (hvd:(b'=.dead\/b'=.hole)->p<st.m.length->H p≠undef->v≠undef:=by intro h;rcases h with h|h <;> cases h)
  (hbk:∀ g i,S' g i->S g i\/b'.own v=some g:=by first|exact λ_ _ h=>Or.inl h|(intro g i h;rcases h with h|h;exact Or.inl h;exact Or.inr (by first|exact h.1|(rw[h.1];rfl)))) :
  Rel c ⟨st.t,m'⟩ a w' S' (Te H p v) :=
 r.changeH hlen hpm hoth hkeep hbox (λe sz k cs h _ hb=>harr e sz k cs h hb) hblk hb' hown hS' hS0 hin0 hsz hos htp hou hvd hbk
theorem Adi {base' e n:Nat} {xs:List Value} (hb:base'<=base) (h:w.ownsRow base e sz v n xs):w.ownsRow base' e sz v n xs:=by
 refine⟨h.1,?_⟩
 rcases h.2 with hn|⟨g,cap,cur,hv,h1,rest⟩
 ·exact .inl hn
 ·exact .inr ⟨g,cap,cur,hv,yU hb h1,rest⟩
theorem Rel.newArr (r:Rel c st a w S H) {e:TypeId} {n:Nat} {vals:List Value} (hsz:0<sz)
 (hown:w.ownsRow base e sz v n vals) (hbase:c.w0.heap.size<=base) (hls:LsR (Rep w S) cs vals) (hnew:∀ g,Cz v=some g->(∀ (q:Nat) (b:Blk),st.m[q]? = some b->b.own (H q)≠some g)/\∀ i,¬ S g i) :
  Rel c ⟨st.t,st.m++[.arr e sz 0 cs]⟩ a w S (Te H st.m.length v):=by
 refine r.change (b':=.arr e sz 0 cs) (by simp) (by simp) (λq hq=>?_) (λb i h=>⟨h,rfl⟩) (λg h=>absurd h (wF _)) (λe sz k cs h=>absurd h (wF _))
  (λg _ _=>rfl) ⟨hsz,zU _,n,vals,Adi (zU _) hown,hls,λg _ i hi=>absurd hi (zW _)⟩ (λg hg=>?_) (λq b g i _ _ _ h=>h) (λg i _ _ h=>h) r.sl.two (zT _) rfl rfl rfl
 ·rcases zQ q st.m.length with h|h
  ·rw[zL h]
  ·rw[zZ (by simp;omega),zZ h]
 ·have hg':Cz v=some g:=hg
  have hlt:base<=g/\g<w.heap.size:=by
   rcases hown.2 with⟨hv,_⟩|⟨g',cap,cur,hv,hb,hgg,_⟩
   ·rw[hv] at hg';cases hg'
   ·rw[hv] at hg'
    cases hg'
    exact⟨hb,(yC.1 hgg).1⟩
  exact⟨.inl (yU hbase hlt.1),hlt.2,λq b _ hb=>(hnew g hg').1 q b hb,λi hi=>absurd hi ((hnew g hg').2 i)⟩
theorem Rel.fresh (r:Rel c st a w S H) (h:w.heap.size<=g):(∀ (q:Nat) (b:Blk),st.m[q]? = some b->b.own (H q)≠some g)/\∀ i,¬ S g i :=
 ⟨λq b hb ho=>by have:=(r.lo q b g hb ho).2;omega,λi hs=>by have:=r.sl.1 g i hs;omega⟩
section
variable {c:Ctx} {st:AS}
theorem Al1 {e:Nat} (i:Nat) (hsz:0<sz) (hi:st.t i=.s (.one (.raw (.slice none 0 0)))) (r:Rel c st a w S H) :
  Rel c ⟨Go.Proofs.YtkblaobhhoebaaaGreat.Abs.upd st.t i (.s (.one (.ls st.m.length 0))),st.m++[.arr e sz 0 []]⟩ a w S (Te H st.m.length (.slice none 0 0)):=by
 have h:=r.tm i
 rw[hi] at h
 have hv:a.tmps.getD i undef=.slice none 0 0:=Ix h
 have r':=r.newArr (e:=e) (sz:=sz) (cs:=[]) (v:=.slice none 0 0) (vals:=[]) (n:=0) hsz (World.ownsRow_nil w _ e sz) (zT _) ⟨rfl,λj l v h=>by simp at h⟩ (λg hg=>by cases hg)
 refine⟨r'.nt,r'.df,λj=>?_,r'.bl,r'.lo,r'.inj,r'.sb,r'.sl,r'.ex,r'.kl,r'.kh,r'.kr,r'.ku⟩
 show AVR _ (Go.Proofs.YtkblaobhhoebaaaGreat.Abs.upd st.t i _ j) _
 rw[Et]
 by_cases e':j=i
 ·subst e'
  rw[if_pos rfl,hv]
  refine⟨by simp,⟨rfl,by rw[Ba];exact λh=>by cases h⟩,λe2 sz2 k2 cs2 hm=>?_⟩
  simp at hm
  obtain⟨rfl,rfl,rfl,rfl⟩:=hm
  exact⟨by simp,λ_=>by rw[Ba]⟩
 ·rw[if_neg e']
  exact r'.tm j
theorem Ai6 {e:Nat} (i:Nat) (hsz:0<sz) (hm:st.m[p]? = some (.box cs)) (hi:cs[i]? = some (.raw (.slice none 0 0))) (r:Rel c st a w S H) :
  Rel c ⟨st.t,st.m.set p (.box (cs.set i (.ls st.m.length 0)))++[.arr e sz 0 []]⟩ a w S (Te H st.m.length (.slice none 0 0)):=by
 have r':=r.newArr (e:=e) (sz:=sz) (cs:=[]) (v:=.slice none 0 0) (vals:=[]) (n:=0) hsz (World.ownsRow_nil w _ e sz) (zT _) ⟨rfl,λj l v h=>by simp at h⟩ (λg hg=>by cases hg)
 have hp:p<st.m.length:=(zB.1 hm).1
 have hm':(st.m++[Blk.arr e sz 0 []])[p]? = some (.box cs):=by rw[zL hp];exact hm
 have hset:st.m.set p (.box (cs.set i (.ls st.m.length 0)))++[.arr e sz 0 []]=(st.m++[Blk.arr e sz 0 []]).set p (.box (cs.set i (.ls st.m.length 0))):=by
  rw[List.set_append_left _ _ hp]
 rw[hset]
 have hp':p<(st.m++[Blk.arr e sz 0 []]).length:=by simp;omega
 obtain⟨g,ee,cur,h1,h2,h3⟩:=r'.bl p _ hm'
 have hHp:Te H st.m.length (.slice none 0 0) p=.pointer (some ⟨g,0,none⟩):=h1
 have hgr:∀ l v,Bf w S (st.m++[Blk.arr e sz 0 []]) (Te H st.m.length (.slice none 0 0)) l v->Bf w S ((st.m++[Blk.arr e sz 0 []]).set p (.box (cs.set i (.ls st.m.length 0)))) (Te H st.m.length (.slice none 0 0)) l v:=by
  intro l v
  refine Bf.mono (λb i h=>⟨h,rfl⟩) (by simp) (λ_ _=>rfl) (λq e' sz' k' cs' hq hmm=>⟨k',cs',?_,rfl⟩)
  by_cases hqp:p=q
  ·subst hqp;rw[zN hp'] at hmm;cases hmm
  ·rw[zS hqp] at hmm;exact hmm
 have hmm:∀ (q:Nat) (b:Blk),((st.m++[Blk.arr e sz 0 []]).set p (.box (cs.set i (.ls st.m.length 0))))[q]? = some b->(q=p/\b=.box (cs.set i (.ls st.m.length 0)))\/(q≠p/\(st.m++[Blk.arr e sz 0 []])[q]? = some b):=by
  intro q b h
  by_cases hqp:p=q
  ·subst hqp;rw[zN hp'] at h;cases h;exact .inl ⟨rfl,rfl⟩
  ·rw[zS hqp] at h;exact .inr ⟨λe=>hqp e.symm,h⟩
 refine⟨r'.nt,r'.df,λj=>AVR.mono hgr (r'.tm j),λq b hb=>?_,λq b g' hb ho=>?_,λq q' b b1 g' hb hb1 ho ho1=>?_,λq b g' i' hb ho hs=>?_,r'.sl,r'.ex,(by simpa using r'.kl),r'.kh,λq e' sz k cs' hq hm2=>?_,r'.ku⟩
 ·rcases hmm q b hb with⟨rfl,rfl⟩|⟨hq,hb'⟩
  ·refine⟨g,ee,cur,hHp,h2,by rw[xA];exact h3.1,λj l v hj1 hj2=>?_⟩
   rw[kG] at hj1
   by_cases hji:i=j
   ·subst hji
    have hil:i<cs.length:=(zB.1 hi).1
    simp only[if_true,hil] at hj1
    cases hj1
    have hv:=h3.2 i _ v hi hj2
    have hv':v=.slice none 0 0:=Ix hv
    subst hv'
    refine⟨by simp,⟨rfl,by rw[Ba];exact λh=>by cases h⟩,λe2 sz2 k2 cs2 hm2=>?_⟩
    have hne:q≠st.m.length:=by omega
    rw[zS hne,zX (zT _)] at hm2
    simp at hm2
    obtain⟨rfl,rfl,rfl,rfl⟩:=hm2
    exact⟨by simp,λ_=>by rw[Ba]⟩
   ·rw[if_neg hji] at hj1
    exact hgr _ _ (h3.2 j l v hj1 hj2)
  ·have hr:=r'.bl q b hb'
   cases b with
   | dead=>trivial
   | hole=>exact hr
   | obj g mk cs=>exact hr
   | tab mk cs=>exact hr
   | arn e' sz' g' n' cap' cs' =>
    obtain⟨h1',cur',h2',h3',h4'⟩:=hr
    exact⟨h1',cur',h2',h3',h4'.mono hgr⟩
   | box cs' =>
    obtain⟨g',e',cur',h1',h2',h3'⟩:=hr
    exact⟨g',e',cur',h1',h2',h3'.mono hgr⟩
   | arr e' sz' k' cs'=>exact hr
 ·rcases hmm q b hb with⟨rfl,rfl⟩|⟨hq,hb'⟩
  ·exact r'.lo q _ g' hm' ho
  ·exact r'.lo q b g' hb' ho
 ·rcases hmm q b hb with⟨rfl,rfl⟩|⟨hq,hb2⟩ <;> rcases hmm q' b1 hb1 with⟨rfl,rfl⟩|⟨hq',hb3⟩
  ·rfl
  ·exact r'.inj _ _ _ _ g' hm' hb3 ho ho1
  ·exact r'.inj _ _ _ _ g' hb2 hm' ho ho1
  ·exact r'.inj _ _ _ _ g' hb2 hb3 ho ho1
 ·rcases hmm q b hb with⟨rfl,rfl⟩|⟨hq,hb'⟩
  ·exact absurd (r'.sb q _ g' i' hm' ho hs) (by simp [Blk.stab])
  ·exact r'.sb q b g' i' hb' ho hs
 ·rcases hmm q _ hm2 with⟨_,h⟩|⟨_,h⟩
  ·cases h
  ·exact r'.kr q e' sz k cs' hq h
end
end
open Go.RowKit
section
variable {st:AS} {n:AS->Prop} {R:AV->Prop} {a:Act} {N:Act->World->Prop} {x:Code} {c:Ctx} {f:FuncId} {m m':List Blk} {l:List Oper} {id k:Nat} {t:Nat->AV} {H:Nat->Value} {o:Operand} {P:Program} {S:Dx} {v:Value} {w:World}
theorem O2 {base e sz n:Nat} {vals:List Value} (h:w.ownsRow base e sz v n vals) (hsz:0<sz) (hk:k*sz=vals.length):n=k:=by
 have h3:=h.1
 rw[<- hk] at h3
 exact(jN hsz h3).symm
theorem Rel.pub (r:Rel c st a w S H) {p e sz:Nat} {cs:List Lf} (hm:st.m[p]? = some (.arr e sz k cs)) :
  ∃ S',Rel c ⟨st.t,st.m.set p (.arr e sz cs.length cs)⟩ a w S' H/\(∀ b i,S b i->S' b i)/\∀ n,n*sz=cs.length->Rep w S' (.sl n cs) (H p):=by
 have hp:p<st.m.length:=(zB.1 hm).1
 obtain⟨hsz,hk,n0,vals,hown,hls,hst⟩:=r.bl p _ hm
 let S':Dx:=λb i=>S b i\/(Cz (H p)=some b/\i<cs.length)
 have hsub:∀ b i,S b i->S' b i:=λb i h=>.inl h
 have hset:Te H p (H p)=H:=by
  funext q
  by_cases e':q=p
  ·subst e';exact Ba H q _
  ·exact Bv H _ e'
 have hlo:∀ g,Cz (H p)=some g->(c.w0.heap.size<=g\/c.X g)/\g<w.heap.size:=λg hg=>r.lo p _ g hm hg
 have hr:Rel c ⟨st.t,st.m.set p (.arr e sz cs.length cs)⟩ a w S' (Te H p (H p)):=by
  refine r.change (b':=.arr e sz cs.length cs) (by simp) (by rw[zN hp]) (λq hq=>zS (λe=>hq e.symm)) (λb i h=>⟨hsub b i h,rfl⟩)
   (λg _ _=>rfl) (λe' sz' k' cs' _ h=>by cases h;exact⟨k,cs,hm,.inl ⟨rfl,rfl⟩⟩) (λg _ _=>rfl) ?_ (λg hg=>?_) (λq b g i hq hb ho hs=>?_) (λg i hg hX hs=>?_) ⟨λb i hs=>?_,r.sl.2.1.mono λb i h=>⟨hsub b i h,rfl⟩⟩ (zT _) rfl rfl rfl
  ·exact⟨hsz,zT _,n0,vals,hown,hls.mono (λl v=>Rep.mono (λb i h=>⟨hsub b i h,rfl⟩)),λg hg i hi=>.inr ⟨hg,hi⟩⟩
  ·have hg':Cz (H p)=some g:=hg
   refine⟨(hlo g hg').1,(hlo g hg').2,λq b hq hb ho=>hq (r.inj q p b _ g hb hm ho hg'),λi hi=>?_⟩
   rcases hi with hi|hi
   ·exact zY (r.sb p _ g i hm hg' hi) hk
   ·exact hi.2
  ·rcases hs with hs|hs
   ·exact hs
   ·exact absurd (r.inj q p b _ g hb hm ho hs.1) hq
  ·rcases hs with hs|hs
   ·exact hs
   ·rcases(hlo g hs.1).1 with h|h
    ·omega
    ·exact absurd h hX
  ·rcases hs with hs|hs
   ·exact r.sl.1 b i hs
   ·exact(hlo b hs.1).2
 rw[hset] at hr
 refine⟨S',hr,hsub,λn hn=>?_⟩
 have hnn:n0=n:=O2 hown hsz (by rw[<- hls.1];exact hn)
 subst hnn
 rcases hown.2 with⟨hv,h0⟩|⟨g,cap,cur,hv,hbg,hg,hnc,hcm,hcs,htake⟩
 ·rw[hv,h0]
  have:cs=[]:=yE (by rw[<- hn,h0,wZ])
  subst this
  exact .sl0 _ _
 ·rw[hv]
  refine Rep.sl n0 cs g 0 cap (λj=>vals.getD j undef) hnc hcm (λj l hl=>?_) (λj l hl=>?_)
  ·have hj:j<cs.length:=(zB.1 hl).1
   obtain⟨u,hu,_⟩:=hls.get hl
   refine⟨.inr ⟨by rw[hv];simp [Cz],by omega⟩,?_⟩
   have:=hown.cells (g:=g) (by rw[hv];rfl) j u hu
   rw[Addr.add_lit] at this
   rw[this]
   simp [List.getD,hu]
  ·obtain⟨u,hu,hr⟩:=hls.get hl
   have:vals.getD j undef=u:=by simp [List.getD,hu]
   rw[this]
   exact Rep.mono (λb i h=>⟨hsub b i h,rfl⟩) hr
inductive Ab1 (m:List Blk):Lf->Lf->List Blk->Prop
 | id (l:Lf) (h:l.pubd=true):Ab1 m l l m
 | nil:Ab1 m (.raw (.slice none 0 0)) (.sl 0 []) m
 | nilj (e sz:Nat):Ab1 m (.raw (.slice none 0 0)) (.jk e sz 0) m
 | ls (p n e sz k:Nat) (cs:List Lf) (hm:m[p]? = some (.arr e sz k cs)) (hn:n*sz=cs.length):Ab1 m (.ls p n) (.sl n cs) (m.set p (.arr e sz cs.length cs))
inductive Aby:List Blk->List Lf->List Lf->List Blk->Prop
 | nil (m:List Blk):Aby m [] [] m
 | cons (m m1 m2:List Blk) (l l':Lf) (ls ls':List Lf) (h:Ab1 m l l' m1) (t:Aby m1 ls ls' m2):Aby m (l::ls) (l'::ls') m2
 | all (m:List Blk) (ls:List Lf) (h:∀ l∈ls,l.pubd=true):Aby m ls ls m
inductive Aif:List Blk->SV->SV->List Blk->Prop
 | one (m m':List Blk) (l l':Lf) (h:Ab1 m l l' m'):Aif m (.one l) (.one l') m'
 | agg (m m':List Blk) (ls ls':List Lf) (h:Aby m ls ls' m'):Aif m (.agg ls) (.agg ls') m'
inductive Ag1:List Blk->List SV->List SV->List Blk->Prop
 | nil (m:List Blk):Ag1 m [] [] m
 | cons (m m1 m2:List Blk) (x y:SV) (xs ys:List SV) (h:Aif m x y m1) (t:Ag1 m1 xs ys m2):Ag1 m (x::xs) (y::ys) m2
structure Ale (c:Ctx) (t:Nat->AV) (a:Act) (w:World) (H:Nat->Value) (m:List Blk) (S:Dx) (m':List Blk) (S':Dx):Prop where
 rel:Rel c ⟨t,m'⟩ a w S' H
 sub:∀ b i,S b i->S' b i
 gr:∀ l v,Bf w S m H l v->Bf w S' m' H l v
theorem Ale.trans {m1 m2:List Blk} {S1 S2:Dx} (h:Ale c t a w H m S m1 S1) (k:Ale c t a w H m1 S1 m2 S2):Ale c t a w H m S m2 S2 :=
 ⟨k.rel,λb i hs=>k.sub b i (h.sub b i hs),λl v hg=>k.gr l v (h.gr l v hg)⟩
theorem Rep.sub {S':Dx} (h:∀ b i,S b i->S' b i) {l:Lf} (r:Rep w S l v):Rep w S' l v:=Rep.mono (λb i hs=>⟨h b i hs,rfl⟩) r
theorem Ab1.keeps {l l':Lf} (hp:Ab1 m l l' m') (r:Rel c ⟨t,m⟩ a w S H) :
  ∃ S',Ale c t a w H m S m' S'/\∀ v,Bf w S m H l v->Rep w S' l' v:=by
 cases hp with
 | id l h=>exact⟨S,⟨r,λ_ _ h=>h,λ_ _ h=>h⟩,λv hv=>Bf.rep hv h⟩
 | nil=>exact⟨S,⟨r,λ_ _ h=>h,λ_ _ h=>h⟩,λv hv=>by
   have:v=.slice none 0 0:=Ix hv
   subst this
   exact .sl0 _ _⟩
 | nilj e sz=>exact⟨S,⟨r,λ_ _ h=>h,λ_ _ h=>h⟩,λv hv=>by
   have:v=.slice none 0 0:=Ix hv
   subst this
   exact .jk0 _ _⟩
 | ls p n e sz k cs hm hn =>
  obtain⟨S',h1,h2,h3⟩:=r.pub hm
  have hp:p<m.length:=(zB.1 hm).1
  refine⟨S',⟨h1,h2,λl v=>Bf.mono (λb i h=>⟨h2 b i h,rfl⟩) (by simp) (λ_ _=>rfl) (λq e' sz' k' cs' hq hmm=>?_)⟩,λv hv=>?_⟩
  ·by_cases e1:p=q
   ·subst e1
    have hmm':(m.set p (.arr e sz cs.length cs))[p]? = some (.arr e' sz' k' cs'):=hmm
    rw[zN hp] at hmm'
    cases hmm'
    exact⟨k,cs,hm,rfl⟩
   ·have hmm':(m.set p (.arr e sz cs.length cs))[q]? = some (.arr e' sz' k' cs'):=hmm
    rw[zS e1] at hmm'
    exact⟨k',cs',hmm',rfl⟩
  ·obtain⟨_,_,hr⟩:=hv
   rw[(hr e sz k cs hm).2 hn]
   exact h3 n hn
theorem Aby.keeps {ls ls':List Lf} (hp:Aby m ls ls' m'):∀ {S:Dx},Rel c ⟨t,m⟩ a w S H ->
  ∃ S',Ale c t a w H m S m' S'/\∀ vs,LsR (Bf w S m H) ls vs->LsR (Rep w S') ls' vs:=by
 induction hp with
 | nil m=>exact λr=>⟨_,⟨r,λ_ _ h=>h,λ_ _ h=>h⟩,λvs h=>⟨h.1,λj l v h1=>by simp at h1⟩⟩
 | all m ls h =>
  exact λr=>⟨_,⟨r,λ_ _ h=>h,λ_ _ h=>h⟩,λvs hv=>⟨hv.1,λj l v h1 h2=>Bf.rep (hv.2 j l v h1 h2) (h l (zD h1))⟩⟩
 | cons m m1 m2 l l' ls ls' h _ ih =>
  intro S r
  obtain⟨S1,k1,g1⟩:=h.keeps r
  obtain⟨S2,k2,g2⟩:=ih k1.rel
  refine⟨S2,k1.trans k2,λvs hv=>?_⟩
  cases vs with
  | nil=>have:=hv.1;simp at this
  | cons v vs =>
   have h0:Bf w S m H l v:=hv.2 0 l v rfl rfl
   have ht:LsR (Bf w S1 m1 H) ls vs:=⟨by have:=hv.1;simpa using this,λj l v h1 h2=>k1.gr _ _ (hv.2 (j+1) l v (by simpa using h1) (by simpa using h2))⟩
   have h1':=Rep.sub k2.sub (g1 v h0)
   have ht':=g2 vs ht
   refine⟨by simp [ht'.1],λj x u hx hu=>?_⟩
   cases j with
   | zero=>simp only[yV,z2] at hx hu;subst hx;subst hu;exact h1'
   | succ j=>exact ht'.2 j x u (by simpa using hx) (by simpa using hu)
theorem Aif.keeps {x y:SV} (hp:Aif m x y m') (r:Rel c ⟨t,m⟩ a w S H) :
  ∃ S',Ale c t a w H m S m' S'/\∀ v,SVR (Bf w S m H) x v->SVR (Rep w S') y v:=by
 cases hp with
 | one _ l l' h =>
  obtain⟨S',k,g⟩:=h.keeps r
  exact⟨S',k,λv hv=>g v hv⟩
 | agg _ ls ls' h =>
  obtain⟨S',k,g⟩:=h.keeps r
  refine⟨S',k,λv hv=>?_⟩
  obtain⟨cs,rfl,hl⟩:=hv
  exact⟨cs,rfl,g _ hl⟩
def Abx (R:Lf->Value->Prop) (xs:List SV) (vs:List Value):Prop:=xs.length=vs.length/\∀ (j:Nat) (x:SV) (v:Value),xs[j]? = some x->vs[j]? = some v->SVR R x v
theorem Ag1.keeps {xs ys:List SV} (hp:Ag1 m xs ys m'):∀ {S:Dx},Rel c ⟨t,m⟩ a w S H ->
  ∃ S',Ale c t a w H m S m' S'/\∀ vs,Abx (Bf w S m H) xs vs->Abx (Rep w S') ys vs:=by
 induction hp with
 | nil m=>exact λr=>⟨_,⟨r,λ_ _ h=>h,λ_ _ h=>h⟩,λvs h=>⟨h.1,λj l v h1=>by simp at h1⟩⟩
 | cons m m1 m2 x y xs ys h _ ih =>
  intro S r
  obtain⟨S1,k1,g1⟩:=h.keeps r
  obtain⟨S2,k2,g2⟩:=ih k1.rel
  refine⟨S2,k1.trans k2,λvs hv=>?_⟩
  cases vs with
  | nil=>have:=hv.1;simp at this
  | cons v vs =>
   have h0:SVR (Bf w S m H) x v:=hv.2 0 x v rfl rfl
   have ht:Abx (Bf w S1 m1 H) xs vs:=⟨by have:=hv.1;simpa using this,λj l v h1 h2=>SVR.mono k1.gr (hv.2 (j+1) l v (by simpa using h1) (by simpa using h2))⟩
   have h1':=SVR.mono (λl v=>Rep.sub k2.sub) (g1 v h0)
   have ht':=g2 vs ht
   refine⟨by simp [ht'.1],λj x u hx hu=>?_⟩
   cases j with
   | zero=>simp only[yV,z2] at hx hu;subst hx;subst hu;exact h1'
   | succ j=>exact ht'.2 j x u (by simpa using hx) (by simpa using hu)
def Bc (P:Program) (f:FuncId) (args:List SV) (R:AV->Prop):Prop :=
 ∀ (w:World) (S:Dx) (vs:Array Value),InH w S->Abx (Rep w S) args vs.toList ->
  Calls P f vs w λe w'=>∃ v x S',e=.returned v/\R x/\Ext w S w' S'/\InH w' S'/\AVR (Rep w' S') x v
theorem Bc.mono {args:List SV} {R':AV->Prop} (h:Bc P f args R) (hr:∀ x,R x->R' x):Bc P f args R' :=
 λw S vs hS hv=>(h w S vs hS hv).mono λ_ _ ⟨v,x,S',h1,h2,h3⟩=>⟨v,x,S',h1,hr x h2,h3⟩
structure FnI (P:Program) (f:FuncId):Prop where
 h : ∃ fn, P.funcs[f]? = some fn ∧ (fn.name == "runtime.NumGoroutine") = false ∧ fn.body.isNone = false
theorem FnI.run (h:FnI P f) (args:Array Value) (w:World):(callFunc f args).run P w=.ok (.enter f args) w:=by
 obtain⟨fn,h1,h2,h3⟩:=h.h
 simp only[callFunc,Sem.run_bind,run_program,Result.andThen_ok,h1,h2,h3,zV,if_false]
 rfl
def Xy (st:AS):List Operand->List SV->Prop
 | [],xs=>xs=[]
 | o::os,xs=>∃ x r,Bg st o=.s x/\Xy st os r/\xs=x::r
theorem A7:Xy st [] []:=rfl
theorem Ar {os:List Operand} {x:SV} {r:List SV} (h:Bg st o=.s x) (t:Xy st os r):Xy st (o::os) (x::r):=⟨x,r,h,t,rfl⟩
theorem V0 (r:Rel c st a w S H):∀ {os:List Operand} {xs:List SV},Xy st os xs->Abx (Bf w S st.m H) xs (os.map a.eval)
 | [],xs,h=>by cases h;exact⟨rfl,λj x v h=>by simp at h⟩
 | o::os,xs,h=>by
  obtain⟨x,rr,h1,h2,rfl⟩:=h
  have ih:=V0 r h2
  have h0:=Ax r o
  rw[h1] at h0
  refine⟨by simp [ih.1],λj y v hy hv=>?_⟩
  cases j with
  | zero=>simp only[yV,xN,z2] at hy hv;subst hy;subst hv;exact h0
  | succ j=>exact ih.2 j y v (by simpa using hy) (by simpa using hv)
theorem Acu {x:AV} (h:AVR (Rep w S) x v):AVR (Bf w S m H) x v:=AVR.mono (λ_ _=>Bf.of_rep) h
section
variable {P:Program} {c:Ctx} {st:AS} {ops:Array Oper} {Q:Exit->AS->Prop} {rest:List Oper} {ty:TypeId} {pos:String} {af:Array Edge} {d:Tmp}
theorem Apr {args:Array Operand} {ats:Array TypeId} {xs ys:List SV} (hf:FnI P f) (ho:Xy st args.toList xs) (hp:Ag1 st.m xs ys m') (hc:Bc P f ys R) (hd:d<c.nt)
  (k:∀ x,R x->AWL P c ops Q rest ⟨Go.Proofs.YtkblaobhhoebaaaGreat.Abs.upd st.t d x,m'⟩):AWL P c ops Q (⟨some d,.call { callee:=.value (.func f),args:=args,argTypes:=ats },ty,pos,af,none⟩::rest) st:=by
 intro a w S H r
 obtain⟨S1,k1,g1⟩:=hp.keeps r
 have hv:=g1 _ (V0 r ho)
 refine wpList_plain rfl λK hK=>?_
 unfold Oper.wp
 have hrun:(execOp a.eval ⟨some d,.call { callee:=.value (.func f),args:=args,argTypes:=ats },ty,pos,af,none⟩).run P w=.ok (.enter f (args.map a.eval)) w:=by
  simp [execOp,resolve,Act.eval,Deferred.ofValue,invoke,hf.run]
 rw[hrun]
 refine(hc w S1 (args.map a.eval) k1.rel.sl (by simpa using hv)).mono ?_
 rintro e w' ⟨v,x,S',rfl,hx,hext,hin,hav⟩
 exact hK _ _ (k x hx _ _ _ _ ((k1.rel.ext hext hin).put hd (Acu hav)))
def Gx (n:AS->Prop) (Q:Exit->AS->Prop):Exit->AS->Prop
 | .normal,st=>n st
 | e,st=>Q e st
theorem QR.then (hn:∀ st a w S H,Rel c st a w S H->n st->N a w):∀ e a w,QR c (Gx n Q) e a w->Exit.then N (QR c Q) e a w:=by
 rintro e a w ⟨st,S,H,r,hq⟩
 cases e with
 | normal=>exact hn st a w S H r hq
 | _=>exact⟨st,S,H,r,hq⟩
theorem Ava {y:Code} (h:AWC P c x (Gx (AWC P c y Q) Q) st):AWC P c (.seq x y) Q st:=λa w S H r =>
 wp_seq (wp_mono (h a w S H r) (QR.then λ_ a w S H r hk=>hk a w S H r))
theorem Aqj (h:Q .normal st):AWC P c .skip Q st:=λ_ _ S H r=>wp_skip ⟨st,S,H,r,h⟩
theorem Aos (h:Q (.exit id) st):AWC P c (.exit id) Q st:=λ_ _ S H r=>wp_exit ⟨st,S,H,r,h⟩
theorem Avf (h:Q .ret st):AWC P c .ret Q st:=λ_ _ S H r=>wp_ret ⟨st,S,H,r,h⟩
def Gy (id:Nat) (Q:Exit->AS->Prop):Exit->AS->Prop
 | .exit id',st=>if id'=id then Q .normal st else Q (.exit id') st
 | e,st=>Q e st
theorem Amk (h:AWC P c x (Gy id Q) st):AWC P c (.block id x) Q st:=λa w S H r=>by
 refine wp_block (wp_mono (h a w S H r) ?_)
 rintro e a w ⟨st,S,H,r,hq⟩
 cases e with
 | exit id' =>
  simp only[Gy] at hq
  simp only[Exit.inBlock]
  split
  ·rename_i h;rw[if_pos h] at hq;exact⟨st,S,H,r,hq⟩
  ·rename_i h;rw[if_neg h] at hq;exact⟨st,S,H,r,hq⟩
 | _=>exact⟨st,S,H,r,hq⟩
theorem Ape {y:Code} {b:Bool} (ho:Bg st o=.s (.one (.b b))) (h1:b=true->AWC P c x Q st) (h0:b=false->AWC P c y Q st):AWC P c (.cond o x y) Q st:=λa w S H r=>by
 have h:=Ax r o
 rw[ho] at h
 have hv:a.eval o=.bool b:=Aai (h:Rep w S (.b b) (a.eval o))
 exact wp_cond_split hv (λhb=>h1 hb a w S H r) (λhb=>h0 hb a w S H r)
theorem Ahi (h:AWL P c l.toArray Q l st):AWC P c (.region id l.toArray false) Q st:=λa w S H r=>wp_region_lit (h a w S H r)
theorem Av7 (st':AS) (h:∀ a w S H,Rel c st a w S H->∃ S' H',Rel c st' a w S' H') (k:AWC P c x Q st'):AWC P c x Q st:=λa w S H r=>by
 obtain⟨S',H',r'⟩:=h a w S H r
 exact k a w S' H' r'
theorem A70 (st':AS) (h:∀ a w S H,Rel c st a w S H->∃ S' H',Rel c st' a w S' H') (k:AWL P c ops Q l st'):AWL P c ops Q l st:=λa w S H r=>by
 obtain⟨S',H',r'⟩:=h a w S H r
 exact k a w S' H' r'
end
end
open Go.RowKit
section
variable {st:AS} {R:AV->Prop} {a:Act} {body:Code} {c:Ctx} {fn:Func} {l:Lf} {t t':Nat->AV} {H:Nat->Value} {P:Program} {x:SV} {S:Dx} {v:Value} {w:World}
inductive Awh (P:Program) (st:AS):ResultVar->SV->Prop
 | tmp (t:Tmp) (x:SV) (h:st.t t=.s x):Awh P st (.tmp t) x
 | one (t:Tmp) (ty:TypeId) (l y:Lf) (cs:List Lf) (ti:TI P ty false 1) (h:st.t t=.s (.one l)) (hp:Ady st l cs) (hy:cs[0]? = some y):Awh P st (.cell t ty) (.one y)
 | agg (t:Tmp) (ty:TypeId) (sz:Nat) (l:Lf) (cs:List Lf) (ti:TI P ty true sz) (h:st.t t=.s (.one l)) (hp:Ady st l cs) (hy:sz<=cs.length):Awh P st (.cell t ty) (.agg (cs.take sz))
def Aay (P:Program) (st:AS):List ResultVar->List SV->Prop
 | [],xs=>xs=[]
 | v::vs,xs=>∃ x r,Awh P st v x/\Aay P st vs r/\xs=x::r
theorem Bj:Aay P st [] []:=rfl
theorem A3 {v:ResultVar} {vs:List ResultVar} {r:List SV} (h:Awh P st v x) (t:Aay P st vs r):Aay P st (v::vs) (x::r):=⟨x,r,h,t,rfl⟩
def Akv (tmps:Array Value):ResultVar->Sem Value
 | .tmp t=>pure (tmps.getD t undef)
 | .cell b t=>do loadVar t (<- asAddr (tmps.getD b undef))
theorem Ac0 (fn:Func) (tmps:Array Value):results fn tmps=(fn.results.mapM (Akv tmps)) >>= λvs=>pure (if h:vs.size=1 then vs[0] else .tuple vs):=by
 unfold results
 have:(λx=>match x with | .tmp t=>(pure (tmps.getD t undef):Sem Value) | .cell b t=>do loadVar t (<- asAddr (tmps.getD b undef)))=Akv tmps:=by
  funext x
  cases x <;> rfl
 rw[<- this]
 rfl
def Y1:List SV->AV
 | [x]=>.s x
 | xs=>.tup xs
theorem Axx (r:Rel c st a w S H) {v:ResultVar} (h:Awh P st v x) :
  ∃ u,(Akv a.tmps v).run P w=.ok u w/\SVR (Bf w S st.m H) x u:=by
 cases h with
 | tmp t x h =>
  have:=r.tm t
  rw[h] at this
  exact⟨_,rfl,this⟩
 | one t ty l y cs ti h hp hy =>
  have h1:=r.tm t
  rw[h] at h1
  obtain⟨g,off,hv,hc⟩:=Un r hp h1
  obtain⟨u,hu,hr⟩:=hc 0 y hy
  rw[kR] at hu
  refine⟨u,?_,hr⟩
  show Sem.run P (do let x <- asAddr (a.tmps.getD t undef);loadVar ty x) w=.ok u w
  rw[hv]
  simp [asAddr,ti.run_load1 hu]
 | agg t ty sz l cs ti h hp hy =>
  have h1:=r.tm t
  rw[h] at h1
  have:=Rb (P:=P) (c:=c) (ty:=0) (x:=.tmp t) ti h hp hy a w S H r
  obtain⟨u,hu,hrun⟩:=this
  refine⟨u,?_,hu⟩
  obtain⟨g,off,hv,hc⟩:=Un r hp h1
  have h2 := hrun none "" #[] none
  have hv':a.eval (.tmp t)=.pointer (some ⟨g,off,none⟩):=hv
  show Sem.run P (do let x <- asAddr (a.tmps.getD t undef);loadVar ty x) w=.ok u w
  rw[hv]
  simp only[execOp,hv',Instr.loadAt,Instr.sureAddr] at h2
  simp only[asAddr]
  cases hl:(loadVar ty ⟨g,off,none⟩).run P w with
  | ok z w2=>simp [hl] at h2;obtain⟨rfl,rfl⟩:=h2;simp [hl]
  | halt z w2=>simp [hl] at h2
theorem Qe {α β:Type} (f:α->Sem β) (w:World):∀ (l:List α) (vs:List β),l.length=vs.length->(∀ (j:Nat) (x:α) (v:β),l[j]? = some x->vs[j]? = some v->(f x).run P w=.ok v w)->(l.mapM f).run P w=.ok vs w
 | [],vs,hl,_=>by
  have:vs=[]:=yE hl.symm
  subst this
  simp
 | x::l,[],hl,_=>by simp at hl
 | x::l,v::vs,hl,h=>by
  have h0:=h 0 x v rfl rfl
  have ih:=Qe f w l vs (by simpa using hl) (λj x v h1 h2=>h (j+1) x v (by simpa using h1) (by simpa using h2))
  simp [List.mapM_cons,h0,ih]
theorem Afw (r:Rel c st a w S H):∀ {vs:List ResultVar} {xs:List SV},Aay P st vs xs ->
  ∃ us:List Value,vs.length=us.length/\Abx (Bf w S st.m H) xs us/\∀ (j:Nat) (v:ResultVar) (u:Value),vs[j]? = some v->us[j]? = some u ->
   (Akv a.tmps v).run P w=.ok u w
 | [],xs,h=>by cases h;exact⟨[],rfl,⟨rfl,λj x v h=>by simp at h⟩,λj x v h=>by simp at h⟩
 | v::vs,xs,h=>by
  obtain⟨x,rr,h1,h2,rfl⟩:=h
  obtain⟨u,hu,hx⟩:=Axx r h1
  obtain⟨us,hl,hs,hr⟩:=Afw r h2
  refine⟨u::us,by simp [hl],⟨by simp [hs.1],λj y z hy hz=>?_⟩,λj y z hy hz=>?_⟩
  ·cases j with
   | zero=>simp only[yV,z2] at hy hz;subst hy;subst hz;exact hx
   | succ j=>exact hs.2 j y z (by simpa using hy) (by simpa using hz)
  ·cases j with
   | zero=>simp only[yV,z2] at hy hz;subst hy;subst hz;exact hu
   | succ j=>exact hr j y z (by simpa using hy) (by simpa using hz)
theorem Afv (r:Rel c st a w S H) {xs:List SV} (h:Aay P st fn.results.toList xs) :
  ∃ u,(results fn a.tmps).run P w=.ok u w/\∀ (S':Dx) (ys:List SV),(∀ vs,Abx (Bf w S st.m H) xs vs->Abx (Rep w S') ys vs)->AVR (Rep w S') (Y1 ys) u:=by
 obtain⟨us,hl,hs,hr⟩:=Afw r h
 have hm:(fn.results.mapM (Akv a.tmps)).run P w=.ok us.toArray w:=by
  have:=Qe (P:=P) (Akv a.tmps) w fn.results.toList us hl hr
  rw[jT]
  simp only[Sem.run_map,this,Result.andThen_ok]
 have hres:(results fn a.tmps).run P w=.ok (if h:us.toArray.size=1 then us.toArray[0] else .tuple us.toArray) w:=by
  rw[Ac0,Sem.run_bind,hm]
  rfl
 refine⟨_,hres,λS' ys hy=>?_⟩
 have h1:=hy us hs
 clear hres hm hl hs hr hy
 match us,ys,h1 with
 | [u],[y],h1=>exact h1.2 0 y u rfl rfl
 | [u],[],h1=>have:=h1.1;simp at this
 | [u],_::_::_,h1=>have:=h1.1;simp at this
 | [],[],h1=>exact⟨#[],rfl,rfl,λj x u hx=>by simp at hx⟩
 | [],_::_,h1=>have:=h1.1;simp at this
 | _::_::_,[],h1=>have:=h1.1;simp at this
 | _::_::_,[y],h1=>have:=h1.1;simp at this
 | u1::u2::us,y1::y2::ys,h1=>exact⟨(u1::u2::us).toArray,by simp,by simpa using h1.1,λj x u hx hu=>h1.2 j x u hx (by simpa using hu)⟩
def A0r (P:Program) (fn:Func) (R:AV->Prop) (e:Exit) (st:AS):Prop :=
 (e=.normal\/e=.ret)/\∃ xs ys m',Aay P st fn.results.toList xs/\Ag1 st.m xs ys m'/\R (Y1 ys)
def Aqv (args:List SV) (i:Nat):AV:=match args[i]? with
 | some x=>.s x
 | none=>.tup []
theorem Cg {f:FuncId} {args:List SV} (hf:P.funcs[f]? = some fn) (hb:fn.body=some body) {nt:Nat} (hnt:fn.ntmps=nt) (hn:args.length<=nt)
  (h:∀ w0 S0,AWC P (Ctx.of w0 S0 nt) body (A0r P fn R) ⟨Aqv args,[]⟩):Bc P f args R:=by
 subst hnt
 intro w S vs hS hv
 refine calls_of_wp hf hb ?_
 have hlen:vs.size=args.length:=by have:=hv.1;simp at this;omega
 have hget:∀ i,(vs++Array.replicate (fn.ntmps-vs.size) undef).getD i undef=vs.getD i undef:=by
  intro i
  simp only[zH,jK]
  split
  ·rfl
  ·rename_i hi
   rw[wP]
   have:vs[i]? = none:=wV (by omega)
   rw[this]
   split <;> rfl
 have r0:Rel (Ctx.of w S fn.ntmps) ⟨Aqv args,[]⟩ { tmps:=vs++Array.replicate (fn.ntmps-vs.size) undef,defers:=[] } w S (λ_=>undef):=by
  refine⟨by simp;omega,rfl,λi=>?_,λp b h=>by simp at h,λp b g h=>by simp at h,λp q b b' g h=>by simp at h,λp b g i h=>by simp at h,hS,Aam.refl _ w S,zU _,λp g h=>absurd h (zW _),λp e sz k cs h=>absurd h (zW _),λp h=>absurd h (zW _)⟩
  rw[hget]
  show AVR _ (match args[i]? with|some x=>.s x|none=>.tup []) _
  cases ha:args[i]? with
  | none =>
   have:vs[i]? = none:=wV (by rw[hlen];exact wD.1 ha)
   simp only[zH,this,zAb]
   exact Hn
  | some x =>
   have hi:i<args.length:=(zB.1 ha).1
   have hi':i<vs.size:=by omega
   have:vs[i]? = some vs[i]:=z9 hi'
   simp only[zH,this,yS]
   exact SVR.mono (λ_ _=>Bf.of_rep) (hv.2 i x _ ha (by simp))
 refine wp_mono (h w S _ _ _ _ r0) ?_
 rintro e a w1 ⟨st,S1,H,r,he,xs,ys,m',hx,hp,hR⟩
 obtain⟨u,hu,hk⟩:=Afv r hx
 obtain⟨S2,k2,g2⟩:=hp.keeps r
 have hav:=hk S2 ys g2
 have hfin:∃ v x S',Ending.returned u=.returned v/\R x/\Ext w S w1 S'/\InH w1 S'/\AVR (Rep w1 S') x v:=⟨u,Y1 ys,S2,rfl,hR,k2.rel.ex.toExt (λ_ h=>h),k2.rel.sl,hav⟩
 rcases he with rfl|rfl
 ·exact⟨r.df,u,hu,hfin⟩
 ·exact⟨r.df,u,hu,hfin⟩
def Lf.inb (n:Nat):Lf->Bool
 | .lp p _=>decide (p<n)
 | .ls p _=>decide (p<n)
 | .ap p _ _=>decide (p<n)
 | .mp _ p=>decide (p<n)
 | .fn _ la lb=>la.all (λl=>match l with | .lp p _=>decide (p<n) | .ls p _=>decide (p<n) | .ap p _ _=>decide (p<n) | .mp _ p=>decide (p<n) | _=>true)&&lb.all (λl=>match l with | .lp p _=>decide (p<n) | .ls p _=>decide (p<n) | .ap p _ _=>decide (p<n) | .mp _ p=>decide (p<n) | _=>true)
 | _=>true
def SV.inb (n:Nat):SV->Prop
 | .one l=>l.inb n=true
 | .agg ls=>∀ l∈ls,l.inb n=true
def AV.inb (n:Nat):AV->Prop
 | .s x=>x.inb n
 | .tup xs=>∀ x∈xs,x.inb n
 | .top=>True
def Blk.inb (n:Nat):Blk->Prop
 | .box cs=>∀ l∈cs,l.inb n=true
 | .arn .. =>False
 | _=>True
theorem Dy.trim {m ex:List Blk} (hl:(match l with | .lp p _=>decide (p<m.length) | .ls p _=>decide (p<m.length) | .ap p _ _=>decide (p<m.length) | .mp _ p=>decide (p<m.length)|_=>true)=true) (h:Dy w S (m++ex) H l v):Dy w S m H l v:=by
 cases l with
 | lp p off=>exact⟨by simpa using hl,h.2⟩
 | mp k p=>exact⟨by simpa using hl,h.2⟩
 | ls p n =>
  have hp:p<m.length:=by simpa using hl
  exact⟨hp,h.2.1,λe sz k cs hm=>h.2.2 e sz k cs (by rw[zL hp];exact hm)⟩
 | ap p n off =>
  have hp:p<m.length:=by simpa using hl
  exact⟨hp,h.2.1,λe sz k cs hm=>h.2.2 e sz k cs (by rw[zL hp];exact hm)⟩
 | _=>exact h
theorem Bf.trim {m ex:List Blk} (hl:l.inb m.length=true) (h:Bf w S (m++ex) H l v):Bf w S m H l v:=by
 cases l with
 | fn f a b =>
  obtain⟨va,vb,hv,h1,h2⟩:=h
  simp only[Lf.inb,zG,zJ] at hl
  exact⟨va,vb,hv,⟨h1.1,λj l v hj hu=>Dy.trim (hl.1 l (zD hj)) (h1.2 j l v hj hu)⟩,⟨h2.1,λj l v hj hu=>Dy.trim (hl.2 l (zD hj)) (h2.2 j l v hj hu)⟩⟩
 | lp p off=>exact Dy.trim (w:=w) (S:=S) (l:=.lp p off) hl h
 | mp k p=>exact Dy.trim (w:=w) (S:=S) (l:=.mp k p) hl h
 | ls p n=>exact Dy.trim (w:=w) (S:=S) (l:=.ls p n) hl h
 | ap p n off=>exact Dy.trim (w:=w) (S:=S) (l:=.ap p n off) hl h
 | i k n=>exact h
 | b x=>exact h
 | s x=>exact h
 | raw v=>exact h
 | sl n cs=>exact h
 | cp cs=>exact h
 | nix=>exact h
 | jk e sz n=>exact h
theorem SVR.trim {m ex:List Blk} (hx:x.inb m.length) (h:SVR (Bf w S (m++ex) H) x v):SVR (Bf w S m H) x v:=by
 cases x with
 | one l=>exact Bf.trim hx h
 | agg ls =>
  obtain⟨cs,rfl,h1,h2⟩:=h
  exact⟨cs,rfl,h1,λj l u hl hu=>Bf.trim (hx l (zD hl)) (h2 j l u hl hu)⟩
theorem AVR.trim {m ex:List Blk} {x:AV} (hx:x.inb m.length) (h:AVR (Bf w S (m++ex) H) x v):AVR (Bf w S m H) x v:=by
 cases x with
 | s x=>exact SVR.trim hx h
 | tup xs =>
  obtain⟨vs,rfl,h1,h2⟩:=h
  exact⟨vs,rfl,h1,λj x u hj hu=>SVR.trim (hx x (zD hj)) (h2 j x u hj hu)⟩
 | top=>trivial
theorem Rel.trim {m ex:List Blk} (r:Rel c ⟨t,m++ex⟩ a w S H) (ht:∀ i,t' i=.top\/(t' i=t i/\(t i).inb m.length)) (hm:∀ b∈m,b.inb m.length) (hk:c.m0.length<=m.length):Rel c ⟨t',m⟩ a w S H:=by
 have hget:∀ {p:Nat} {b:Blk},m[p]? = some b->(m++ex)[p]? = some b:=λ{p b} h=>by rw[zL (zB.1 h).1];exact h
 refine⟨r.nt,r.df,λi=>?_,λp b hb=>?_,λp b g hb ho=>r.lo p b g (hget hb) ho,λp q b b' g hb hb'=>r.inj p q b b' g (hget hb) (hget hb'),λp b g i hb=>r.sb p b g i (hget hb),r.sl,r.ex,hk,r.kh,λp e sz k cs hp hm'=>r.kr p e sz k cs hp (hget hm'),r.ku⟩
 ·rcases ht i with h|⟨h1,h2⟩
  ·show AVR _ (t' i) _
   rw[h];trivial
  ·show AVR _ (t' i) _
   rw[h1]
   exact AVR.trim h2 (r.tm i)
 ·have hr:=r.bl p b (hget hb)
  cases b with
  | dead=>trivial
  | hole=>exact hr
  | obj g mk cs=>exact hr
  | tab mk cs=>exact hr
  | arn e sz g n cap cs=>exact(hm _ (zD hb)).elim
  | arr e sz k cs=>exact hr
  | box cs =>
   obtain⟨g,e,cur,h1,h2,h3⟩:=hr
   have hin:=hm _ (zD hb)
   exact⟨g,e,cur,h1,h2,h3.1,λj l v hl hv=>Bf.trim (hin l (zD hl)) (h3.2 j l v hl hv)⟩
def Aj5 (t:Nat->AV):List (Nat×AV)->Nat->AV
 | []=>t
 | (i,x)::r=>upd (Aj5 t r) i x
def Vd (t:Nat->AV):List (Nat×AV)->Prop
 | []=>True
 | (i,x)::r=>t i=x/\Vd t r
def Awn (n:Nat):List (Nat×AV)->Prop
 | []=>True
 | (_,x)::r=>x.inb n/\Awn n r
theorem Qw:∀ {l:List (Nat×AV)} {n:Nat},Vd t l->Awn n l->∀ i,Aj5 (λ_=>.top) l i=.top\/(Aj5 (λ_=>.top) l i=t i/\(t i).inb n)
 | [],_,_,_,i=>.inl rfl
 | (j,x)::r,n,h,hn,i=>by
  show upd (Aj5 (λ_=>.top) r) j x i=.top\/(upd (Aj5 (λ_=>.top) r) j x i=t i/\_)
  rw[Et]
  by_cases e:i=j
  ·subst e
   simp only[if_true]
   exact .inr ⟨h.1.symm,by rw[h.1];exact hn.1⟩
  ·simp only[if_neg e]
   exact Qw h.2 hn.2 i
section
variable {P:Program} {c:Ctx} {st:AS} {Q:Exit->AS->Prop}
theorem Awt {G:Type} (sl:G->List (Nat×AV)) (mm:G->List Blk) (pre:G->Prop) (μ:G->Nat) (g0:G) (p0:pre g0) (s0:Vd st.t (sl g0)) (ex:List Blk) (m0:st.m=mm g0++ex)
  (hin:∀ g,pre g->Awn (mm g).length (sl g)) (hmin:∀ g,pre g->∀ b∈mm g,b.inb (mm g).length) (hk:∀ g,pre g->c.m0.length<=(mm g).length)
  (round:∀ g,pre g->AWC P c body (Gx (λst'=>∃ g' ex',pre g'/\Vd st'.t (sl g')/\st'.m=mm g'++ex'/\μ g'<μ g) Q) ⟨Aj5 (λ_=>.top) (sl g),mm g⟩):AWC P c (.loop body) Q st:=by
 intro a w S H r
 have key:∀ n,∀ g a w S H,pre g->μ g=n->Rel c ⟨Aj5 (λ_=>.top) (sl g),mm g⟩ a w S H->∀ (b:Frame) (k:List Item) (cs:List Frame),
   ∃ e a' w',QR c Q e a' w'/\Arrives P (lone (b.at a (.code body::.inLoop body::k)) cs w) b k cs e a' w':=by
  intro n
  induction n using Nat.strongRecOn with
  | _ n ih =>
   intro g a w S H hp hn r b k cs
   obtain⟨e,a₁,w₁,hq,harr⟩:=round g hp a w S H r b (.inLoop body::k) cs
   obtain⟨st',S',H',r',hq⟩:=hq
   cases e with
   | normal =>
    obtain⟨g',ex',hp',hs',hm',hlt⟩:=hq
    have r'':Rel c ⟨st'.t,mm g'++ex'⟩ a₁ w₁ S' H':=by rw[<- hm'];exact r'
    have rt:=r''.trim (Qw hs' (hin g' hp')) (hmin g' hp') (hk g' hp')
    obtain⟨e₂,a₂,w₂,hq₂,harr₂⟩:=ih (μ g') (hn ▸ hlt) g' a₁ w₁ S' H' hp' rfl rt b k cs
    exact⟨e₂,a₂,w₂,hq₂,.of_steps (Steps.trans harr (.one step_inLoop)) harr₂⟩
   | exit id=>exact⟨_,a₁,w₁,⟨st',S',H',r',hq⟩,.pass (x:=.inLoop body) rfl (λ_ _=>.inl (by simp)) harr⟩
   | goto l=>exact⟨_,a₁,w₁,⟨st',S',H',r',hq⟩,.pass (x:=.inLoop body) rfl (λ_ _=>.inl (by simp)) harr⟩
   | ret=>exact⟨_,a₁,w₁,⟨st',S',H',r',hq⟩,.pass (x:=.inLoop body) rfl (λ_ _=>.inl (by simp)) harr⟩
   | panic ch=>exact⟨_,a₁,w₁,⟨st',S',H',r',hq⟩,.pass (x:=.inLoop body) rfl (λ_ _=>.inl (by simp)) harr⟩
   | outgrown=>exact⟨_,a₁,w₁,⟨st',S',H',r',hq⟩,.pass (x:=.inLoop body) rfl (λ_ _=>.inl (by simp)) harr⟩
 have r0:Rel c ⟨st.t,mm g0++ex⟩ a w S H:=by rw[<- m0];exact r
 have rt:=r0.trim (Qw s0 (hin g0 p0)) (hmin g0 p0) (hk g0 p0)
 intro b k cs
 obtain⟨e,a',w',hq,harr⟩:=key _ g0 a w S H p0 rfl rt b k cs
 exact⟨e,a',w',hq,.of_steps (.one step_loop) harr⟩
end
end
open Go.RowKit
section
variable {R:Lf->Value->Prop} {ys zl:List Lf} {H:Nat->Value} {base:Option Addr} {P:Program} {S:Dx} {w:World}
structure EI (P:Program) (e sz bytes:Nat) (zl:List Lf):Prop where
 h:∃ i z,P.info? e=some i/\i.zero=some z/\i.size=sz/\i.bytes=bytes/\z.cells.size=sz/\z.cells.toList.map clf=zl/\z.cells.all (·.oneCell')=true
 p:0<sz
structure NI (P:Program) (t:TypeId):Prop where
 h:(∃ e,P.underlying t=some (.slice e))\/P.underlying t=some .string
structure Src (P:Program) (w:World) (y:Value) (size m:Nat) (news:List Value):Prop where
 len:∀ w1,(Builtin.lenOf y).run P w1=.ok m w1
 cells:∀ w1:World,(∀ a,w1.cell? a=w.cell? a)->(Builtin.firstCells size m y).run P w1=.ok news.toArray w1
section run
variable {P:Program} {w:World} {t t2 ty e:TypeId} {i:TypeInfo} {z y:Value} {n cap m:Nat} {news:List Value}
theorem Xq {size:Nat} (ht:P.underlying t=some (.slice e)) (hi:P.info? e=some i) (hz:i.size=size) (h2:NI P t2) (hs:Src P w y size 0 []) (hc:n<=cap) :
  (Builtin.append_ #[t,t2] ty #[.slice base n cap,y]).run P w=.ok (.slice base n cap) w:=by
 subst hz
 have h1:=hs.len w
 have h3:=hs.cells w (λ_=>rfl)
 rcases h2.h with⟨e2,hu2⟩|hu2
 ·cases base with
  | none=>simp [Builtin.append_,run_underlying ht,run_underlying hu2,sizeOf,typeInfo,hi,h1,h3,hc]
  | some a=>simp [Builtin.append_,run_underlying ht,run_underlying hu2,sizeOf,typeInfo,hi,h1,h3,hc,storeCells]
 ·cases base with
  | none=>simp [Builtin.append_,run_underlying ht,run_underlying hu2,sizeOf,typeInfo,hi,h1,h3,hc]
  | some a=>simp [Builtin.append_,run_underlying ht,run_underlying hu2,sizeOf,typeInfo,hi,h1,h3,hc,storeCells]
theorem Amb {g:Nat} {cur:Array Value} (ht:P.underlying t=some (.slice e)) (hi:P.info? e=some i) (h2:NI P t2) (hs:Src P w y i.size m news) (hg:w.heap[g]? = some (.cells cur e (0,0)))
  (h1:∀ u∈news,u.oneCell'=true) (hroom:n+m<=cap) (hfit:n*i.size+news.length<=cur.size) :
  (Builtin.append_ #[t,t2] ty #[.slice (some ⟨g,0,none⟩) n cap,y]).run P w =
   .ok (.slice (some ⟨g,0,none⟩) (n+m) cap) (w.setRow g (cur.toList.take (n*i.size)++news++cur.toList.drop (n*i.size+news.length)).toArray):=by
 have hl:=hs.len w
 have hf:=hs.cells w (λ_=>rfl)
 have hst:=run_storeCells_at P g (n*i.size) e news 0 cur w hg (by simpa using hfit) h1
 simp only[kR] at hst
 rcases h2.h with⟨e2,hu2⟩|hu2
 ·simp [Builtin.append_,run_underlying ht,run_underlying hu2,sizeOf,typeInfo,hi,hl,hroom,hf,Addr.add_lit,hst]
 ·simp [Builtin.append_,run_underlying ht,run_underlying hu2,sizeOf,typeInfo,hi,hl,hroom,hf,Addr.add_lit,hst]
theorem Xk {olds:List Value} (ht:P.underlying t=some (.slice e)) (hi:P.info? e=some i) (hz:i.zero=some z) (h2:NI P t2) (hs:Src P w y i.size m news)
  (ho:∀ w1:World,(∀ a,w1.cell? a=w.cell? a)->(Builtin.firstCells i.size n (.slice base n cap)).run P w1=.ok olds.toArray w1)
  (hg:cap<n+m) (h63:((n+m:Nat):Int)<=9223372036854775807) (hfit:Builtin.nextslicecap (n+m) cap*i.bytes<=281474976710656) :
  (Builtin.append_ #[t,t2] ty #[.slice base n cap,y]).run P w =
   .ok (.slice (some ⟨w.heap.size,0,none⟩) (n+m) (grownCap w (n+m) cap e)) (w.drew.alloc (.cells (olds.toArray++news.toArray++Builtin.zeroCells z.cells (grownCap w (n+m) cap e-(n+m))) e)):=by
 have hl:=hs.len w
 have hn:¬ (n+m<=cap):=by omega
 have h63':¬ (9223372036854775807<((n:Int)+(m:Int))):=by omega
 have h48':¬ (281474976710656<Builtin.nextslicecap (n+m) cap*i.bytes):=by omega
 have hf:=hs.cells w.drew (λ_=>rfl)
 have hfo:=ho w.drew (λ_=>rfl)
 rcases h2.h with⟨e2,hu2⟩|hu2
 ·simp [Builtin.append_,run_underlying ht,run_underlying hu2,sizeOf,typeInfo,zeroValue,hi,hz,hl,hn,h63',h48',Question.forced,hf,hfo,newRow,grownCap]
  congr 2
  apply Array.ext'
  simp [xE]
 ·simp [Builtin.append_,run_underlying ht,run_underlying hu2,sizeOf,typeInfo,zeroValue,hi,hz,hl,hn,h63',h48',Question.forced,hf,hfo,newRow,grownCap]
  congr 2
  apply Array.ext'
  simp [xE]
end run
theorem LsR.append {a b:List Lf} {x y:List Value} (h:LsR R a x) (k:LsR R b y):LsR R (a++b) (x++y):=by
 refine⟨by simp [h.1,k.1],λj l v h1 h2=>?_⟩
 by_cases hj:j<a.length
 ·rw[zL hj] at h1
  rw[zL (by rw[<- h.1];exact hj)] at h2
  exact h.2 j l v h1 h2
 ·rw[zX (by omega)] at h1
  rw[zX (by rw[<- h.1];omega),<- h.1] at h2
  exact k.2 _ l v h1 h2
theorem Rel.append {c:Ctx} {st:AS} {a:Act} (r:Rel c st a w S H) {t t2 ty e:TypeId} {sz bytes:Nat} {p n m k:Nat} {cs:List Lf} {y:Value} {news:List Value}
  (ht:P.underlying t=some (.slice e)) (ei:EI P e sz bytes zl) (h2:NI P t2) (hm:st.m[p]? = some (.arr e sz k cs)) (hn:n*sz=cs.length) (hs:Src P w y sz m news) (hy:ys.length=m*sz) (hls:LsR (Rep w S) ys news)
  (h63:n+m<=maxLen) (hb:(n+m)*bytes<=140737488355328) :
  ∃ v' w' S' H',(Builtin.append_ #[t,t2] ty #[H p,y]).run P w=.ok v' w'/\Rel c ⟨st.t,st.m.set p (.arr e sz k (cs++ys))⟩ a w' S' H'/\H' p=v':=by
 obtain⟨i,z,hi,hz,hsize,hbytes,hzs,hzl,hzo⟩:=ei.h
 have hp:p<st.m.length:=(zB.1 hm).1
 obtain⟨hsz,hk,n0,vals,hown,hcs,hstb⟩:=r.bl p _ hm
 have hnn:n0=n:=O2 hown hsz (by rw[<- hcs.1];exact hn)
 subst hnn
 have hnl:news.length=m*sz:=by rw[<- hls.1,hy]
 have hone:∀ u∈news,u.oneCell'=true:=by
  intro u hu
  obtain⟨j,hj,hju⟩:=y9 hu
  have hj':j<ys.length:=by rw[hls.1];exact hj
  exact Rep.oneCell (hls.2 j _ u (zC hj') (by rw[zC hj,hju]))
 subst hsize
 subst hbytes
 have hset:∀ v,(v=H p)->Te H p v=H:=λv hv=>by
  funext q
  by_cases e':q=p
  ·rw[e',Ba];exact hv
  ·exact Bv H _ e'
 by_cases hm0:m=0
 ·subst hm0
  have h1:news=[]:=yE (by rw[hnl,wZ])
  have h1':ys=[]:=yE (by rw[hy,wZ])
  subst h1;subst h1'
  have hsame:st.m.set p (.arr e i.size k (cs++[]))=st.m:=by
   rw[xC]
   apply wA
   intro q
   by_cases e':p=q
   ·subst e';rw[zN hp,hm]
   ·rw[zS e']
  refine⟨H p,w,S,H,?_,by rw[hsame];exact r,rfl⟩
  rcases hown.2 with⟨hv,h0⟩|⟨g,cap,cur,hv,_,_,hnc,_,_,_⟩
  ·rw[hv];exact Xq (n:=0) ht hi rfl h2 hs (zT _)
  ·rw[hv];exact Xq ht hi rfl h2 hs hnc
 have hmpos:0<m:=Nat.pos_of_ne_zero hm0
 have hyspos:0<ys.length:=by rw[hy];exact Nat.mul_pos hmpos hsz
 have grow:∀ (olds:List Value) (old:Nat),olds=vals->old<n0+m->Cz (H p)≠some w.heap.size ->
   ∃ S' H',Rel c ⟨st.t,st.m.set p (.arr e i.size k (cs++ys))⟩ a (w.drew.alloc (.cells (olds.toArray++news.toArray++Builtin.zeroCells z.cells (grownCap w (n0+m) old e-(n0+m))) e)) S' H' /\
    H' p=.slice (some ⟨w.heap.size,0,none⟩) (n0+m) (grownCap w (n0+m) old e):=by
  intro olds old ho hold _
  subst ho
  have hge:=grownCap_ge w (n0+m) old e
  have hcm:grownCap w (n0+m) old e<=maxLen:=grownCap_le_maxLen w (n0+m) old e h63
  generalize hcap:grownCap w (n0+m) old e=cap' at *
  have hlen:(olds++news).length=(n0+m)*i.size:=by rw[zI,hown.1,hnl,wJ]
  have hfr:=r.fresh (g:=w.heap.size) (zT _)
  let S':Dx:=λb j=>S b j\/(b=w.heap.size/\j<k)
  have hkeep:∀ b j,S b j->S' b j/\(w.drew.alloc (.cells (olds.toArray++news.toArray++Builtin.zeroCells z.cells (cap'-(n0+m))) e)).cell? ⟨b,j,none⟩=w.cell? ⟨b,j,none⟩ :=
   λb j h=>⟨.inl h,World.cell?_alloc_lt w.drew _ ⟨b,j,none⟩ (r.sl.1 b j h)⟩
  have hown':(w.drew.alloc (.cells (olds.toArray++news.toArray++Builtin.zeroCells z.cells (cap'-(n0+m))) e)).ownsRow 0 e i.size (.slice (some ⟨w.heap.size,0,none⟩) (n0+m) cap') (n0+m) (olds++news):=by
   refine⟨hlen,.inr ⟨w.heap.size,cap',_,rfl,zU _,heap_alloc_new w.drew _,hge,hcm,?_,?_⟩⟩
   ·simp only[wQ,yI,size_zeroCells,hzs,hown.1,hnl,<- wJ]
    congr 1
    omega
   ·simp only[kV,xE]
    rw[<- xE,<- hlen]
    exact List.take_left
  refine⟨S',Te H p (.slice (some ⟨w.heap.size,0,none⟩) (n0+m) cap'),?_,Ba H p _⟩
  refine r.change (b':=.arr e i.size k (cs++ys)) (by simp) (by rw[zN hp]) (λq hq=>zS (λe=>hq e.symm)) hkeep (λg _ hg=>?_)
   (λe' sz' k' cs' _ h=>by cases h;exact⟨k,cs,hm,.inr (by simp;omega)⟩) (λg hg _=>Below.heap_alloc w.drew _ g hg) ?_ (λg hg=>?_) (λq b g j hq hb ho hs=>?_) (λg j hg _ hs=>?_) ⟨λb j hs=>?_,r.sl.2.1.mono hkeep⟩ (by simp) rfl rfl rfl
  ·rcases hown.2 with⟨hv,_⟩|⟨g',cap,cur,hv,_⟩
   ·rw[hv] at hg;cases hg
   ·rw[hv] at hg;cases hg
  ·refine⟨hsz,by simp;omega,n0+m,olds++news,hown',(LsR.append hcs hls).mono (λl v=>Rep.mono hkeep),λg hg j hj=>?_⟩
   simp only[Cz,z2] at hg
   exact .inr ⟨hg.symm,hj⟩
  ·simp only[Blk.own,Cz,z2] at hg
   subst hg
   refine⟨.inl r.ex.size,by simp,λq b _ hb=>hfr.1 q b hb,λj hj=>?_⟩
   rcases hj with hj|hj
   ·exact absurd hj (hfr.2 j)
   ·exact hj.2
  ·rcases hs with hs|hs
   ·exact hs
   ·have:=(r.lo q b g hb ho).2;omega
  ·rcases hs with hs|hs
   ·exact hs
   ·have:=r.ex.size;omega
  ·rcases hs with hs|hs
   ·have:=r.sl.1 b j hs;simp;omega
   ·rw[hs.1];simp
 have h63':((n0+m:Nat):Int)<=9223372036854775807:=by simp only[maxLen] at h63;omega
 rcases hown.2 with⟨hv,h0⟩|⟨g,cap,cur,hv,hbg,hg,hnc,hcm,hcsz,htake⟩
 ·subst h0
  have hvals:vals=[]:=yE (by simpa using hown.1)
  obtain⟨S',H',hr,hH⟩:=grow [] 0 hvals.symm (by omega) (by rw[hv];simp [Cz])
  refine⟨_,_,S',H',?_,hr,hH⟩
  rw[hv]
  exact Xk (n:=0) (cap:=0) ht hi hz h2 hs (λw1 _=>by simp [Builtin.firstCells]) (by omega) h63' (growslice_fits (by omega) hb)
 ·by_cases hroom:n0+m<=cap
  ·have hfit:n0*i.size+news.length<=cur.size:=by rw[hnl,hcsz,<- wJ];exact xV _ hroom
   have hrun:=Amb (ty:=ty) (n:=n0) (cap:=cap) ht hi h2 hs hg hone hroom hfit
   have hrow:=setRow_heap w g cur (cur.toList.take (n0*i.size)++news++cur.toList.drop (n0*i.size+news.length)).toArray e _ hg
   have hoth:∀ q,q≠g->(w.setRow g (cur.toList.take (n0*i.size)++news++cur.toList.drop (n0*i.size+news.length)).toArray).heap[q]? = w.heap[q]? := λq hq=>setRow_other w g q _ hq
   have hownp:(Blk.arr e i.size k cs).own (H p)=some g:=by rw[hv];rfl
   have hcl:cs.length=n0*i.size:=hn.symm
   have hkeep:∀ b j,S b j->S b j/\(w.setRow g (cur.toList.take (n0*i.size)++news++cur.toList.drop (n0*i.size+news.length)).toArray).cell? ⟨b,j,none⟩=w.cell? ⟨b,j,none⟩:=by
    intro b j hS
    refine⟨hS,?_⟩
    by_cases hbg':b=g
    ·subst hbg'
     have hj:j<cs.length:=zY (r.sb p _ b j hm hownp hS) hk
     rw[cell_of_row _ b j _ e (0,0) hrow,cell_of_row w b j cur e (0,0) hg]
     have:=getElem?_putAt cur.toList news (n0*i.size) j hfit
     rw[if_pos (by omega)] at this
     simpa using this
    ·exact World.cell?_of_block (w:=w) (hoth b hbg')
   refine⟨_,_,S,Te H p (.slice (some ⟨g,0,none⟩) (n0+m) cap),by rw[hv];exact hrun,?_,Ba H p _⟩
   have hlen:(vals++news).length=(n0+m)*i.size:=by rw[zI,hown.1,hnl,wJ]
   have hown':(w.setRow g (cur.toList.take (n0*i.size)++news++cur.toList.drop (n0*i.size+news.length)).toArray).ownsRow 0 e i.size (.slice (some ⟨g,0,none⟩) (n0+m) cap) (n0+m) (vals++news):=by
    refine⟨hlen,.inr ⟨g,cap,_,rfl,hbg,hrow,hroom,hcm,?_,?_⟩⟩
    ·simp only[yI,zI,zR,yF,yL];omega
    ·rw[htake,<- hlen];exact List.take_left
   refine r.change (b':=.arr e i.size k (cs++ys)) (by simp) (by rw[zN hp]) (λq hq=>zS (λe=>hq e.symm)) hkeep (λg' _ hg'=>by rw[hv] at hg';cases hg')
    (λe' sz' k' cs' _ h=>by cases h;exact⟨k,cs,hm,.inr (by simp;omega)⟩) (λg' _ hne=>hoth g' (λe'=>hne _ hm (by rw[e'];exact hownp))) ?_ (λg' hg'=>?_) (λq b g' j _ _ _ hs=>hs) (λg' j _ _ hs=>hs) ⟨λb j hs=>by simp;exact r.sl.1 b j hs,r.sl.2.1.mono hkeep⟩ (by simp) rfl rfl rfl
   ·refine⟨hsz,by simp;omega,n0+m,vals++news,hown',(LsR.append hcs hls).mono (λl v=>Rep.mono hkeep),λg' hg' j hj=>?_⟩
    simp only[Cz,z2] at hg'
    subst hg'
    exact hstb _ hownp j hj
   ·simp only[Blk.own,Cz,z2] at hg'
    subst hg'
    refine⟨(r.lo p _ g hm hownp).1,by simp;exact(r.lo p _ g hm hownp).2,λq b hq hb ho=>hq (r.inj q p b _ g hb hm ho hownp),λj hj=>(r.sb p _ g j hm hownp hj:j<k)⟩
  ·have hne:Cz (H p)≠some w.heap.size:=by
    rw[hv]
    simp only[Cz,ne_eq,z2]
    have:=(yC.1 hg).1
    omega
   obtain⟨S',H',hr,hH⟩:=grow vals cap rfl (by omega) hne
   refine⟨_,_,S',H',?_,hr,hH⟩
   rw[hv]
   refine Xk ht hi hz h2 hs (λw1 hw1=>?_) (by omega) h63' (growslice_fits (by omega) hb)
   exact run_firstCells_some w1 i.size n0 ⟨g,0,none⟩ n0 cap vals hown.1 (λj v hv'=>by rw[hw1];exact hown.cells (g:=g) (by rw[hv];rfl) j v hv')
inductive Aji (P:Program):SV->Nat->Nat->List Lf->Prop
 | sl (sz n:Nat) (cs:List Lf) (h:cs.length=n*sz):Aji P (.one (.sl n cs)) sz n cs
 | nil (sz:Nat):Aji P (.one (.raw (.slice none 0 0))) sz 0 []
 | str (x:ByteArray):Aji P (.one (.s x)) 1 x.size (x.data.toList.map λb=>.i .u8 b.toNat)
theorem Aji.src {x:SV} {sz m:Nat} (h:Aji P x sz m ys) {v:Value} (hv:SVR (Rep w S) x v):∃ news,Src P w v sz m news/\ys.length=m*sz/\LsR (Rep w S) ys news:=by
 match x,sz,m,ys,h with
 | _,_,_,_,.sl sz n cs h =>
  have hv':Rep w S (.sl n cs) v:=hv
  cases hv' with
  | sl0 a cap =>
   refine⟨[],⟨λw1=>by simp [Builtin.lenOf],λw1 _=>?_⟩,h,rfl,λj l v h=>by simp at h⟩
   cases a <;> simp [Builtin.firstCells,loadCells,loadCellsFrom]
  | sl n cs bk off cap vals hc hm hs hr =>
   refine⟨(List.range cs.length).map vals,⟨λw1=>by simp [Builtin.lenOf],λw1 hw1=>?_⟩,h,by simp,λj l u h1 h2=>?_⟩
   ·refine run_firstCells_some w1 sz n ⟨bk,off,none⟩ n cap _ (by simpa using h) (λj v hj=>?_)
    rw[zK] at hj
    have hjl:j<cs.length:=by
     rcases zQ j cs.length with h|h
     ·exact h
     ·rw[zZ (by simpa using h)] at hj;cases hj
    rw[jQ hjl] at hj
    cases hj
    rw[Addr.add_lit,hw1]
    exact(hs j _ (zC hjl)).2
   ·have hjl:j<cs.length:=(zB.1 h1).1
    rw[zK,jQ hjl] at h2
    cases h2
    exact hr j l h1
 | _,_,_,_,.nil sz =>
  have hv':v=.slice none 0 0:=Ix hv
  subst hv'
  exact⟨[],⟨λw1=>by simp [Builtin.lenOf],λw1 _=>by simp [Builtin.firstCells]⟩,by simp,rfl,λj l v h=>by simp at h⟩
 | _,_,_,_,.str x =>
  have hv':v=.string x:=Aqt hv
  subst hv'
  refine⟨x.data.toList.map λb=>.int .u8 b.toNat,⟨λw1=>by simp [Builtin.lenOf],λw1 _=>?_⟩,by simp,by simp,λj l u h1 h2=>?_⟩
  ·have hx2:(x.extract 0 x.size)=x:=by simp
   simp only[Builtin.firstCells,Sem.run_pure,hx2]
   congr 1
   apply Array.ext'
   simp
  ·rw[zK] at h1 h2
   cases hb:x.data.toList[j]? with
   | none=>rw[hb] at h1;cases h1
   | some b =>
    rw[hb] at h1 h2
    cases h1;cases h2
    exact .i _ _
section
variable {P:Program} {c:Ctx} {st:AS} {ops:Array Oper} {Q:Exit->AS->Prop} {rest:List Oper} {ty:TypeId} {pos:String} {af:Array Edge} {d:Tmp}
theorem Arh {x y:Operand} {t t2 e sz bytes p n m k:Nat} {cs:List Lf} {yv yv':SV} {m':List Blk} (si:P.underlying t=some (.slice e)) (ei:EI P e sz bytes zl) (h2:NI P t2) (hx:Bg st x=.s (.one (.ls p n))) (hy:Bg st y=.s yv)
  (hp:Aif st.m yv yv' m') (hm:m'[p]? = some (.arr e sz k cs)) (hn:n*sz=cs.length) (hsrc:Aji P yv' sz m ys) (h63:n+m<=maxLen) (hb:(n+m)*bytes<=140737488355328) (hd:d<c.nt)
  (kk:AWL P c ops Q rest ⟨Go.Proofs.YtkblaobhhoebaaaGreat.Abs.upd st.t d (.s (.one (.ls p (n+m)))),m'.set p (.arr e sz k (cs++ys))⟩) :
  AWL P c ops Q (⟨some d,.call { callee:=.builtin .append,args:=#[x,y],argTypes:=#[t,t2] },ty,pos,af,none⟩::rest) st:=by
 intro a w S H r
 have hy':=Ax r y
 rw[hy] at hy'
 obtain⟨S1,k1,g1⟩:=hp.keeps r
 have hyr:=g1 _ hy'
 obtain⟨news,hs,hyl,hls⟩:=hsrc.src hyr
 have hx':=Ax r x
 rw[hx] at hx'
 have hx2:Bf w S1 m' H (.ls p n) (a.eval x):=k1.gr _ _ hx'
 obtain⟨hpl,_,hr⟩:=hx2
 have hH:=(hr _ _ _ _ hm).2 hn
 obtain⟨v',w',S',H',hrun,hrel,hHp⟩:=k1.rel.append (P:=P) (ty:=ty) si ei h2 hm hn hs hyl hls h63 hb
 refine wpList_plain rfl λK hK=>?_
 unfold Oper.wp
 have hrun':(execOp a.eval ⟨some d,.call { callee:=.builtin .append,args:=#[x,y],argTypes:=#[t,t2] },ty,pos,af,none⟩).run P w=.ok (.value v') w':=by
  simp [execOp,resolve,invoke,builtin,hH,hrun]
 rw[hrun']
 refine hK _ _ (kk _ _ _ _ (hrel.put (d:=d) (x:=.s (.one (.ls p (n+m)))) hd ?_))
 refine⟨by simpa using hpl,?_,λe2 sz2 k2 cs2 hm2=>?_⟩
 ·rw[<- hHp]
  obtain⟨_,_,n',vals,hown,_⟩:=hrel.bl p _ (by show(m'.set p _)[p]? = some (.arr e sz k (cs++ys));rw[zN hpl])
  exact Qy hown
 ·have:(m'.set p (.arr e sz k (cs++ys)))[p]? = some (.arr e2 sz2 k2 cs2):=hm2
  rw[zN hpl] at this
  cases this
  exact⟨by rw[zI,hyl,wJ,hn];exact zT _,λ_=>hHp.symm⟩
end
end
open Go.RowKit
section
variable {R:Lf->Value->Prop} {xs:List (Nat×SV)} {cs:List Lf} {place:Nat->Option (Nat×Nat)} {H:Nat->Value} {x:SV} {S:Dx} {w:World}
def Agy (zl:List Lf) (n:Nat):List Lf:=(List.range n).map λj=>zl.getD (j % zl.length) default
theorem J2 (zl:List Lf) (n:Nat):(Agy zl n).length=n:=by simp [Agy]
theorem Ao9 {z:Value} (hz:0<z.cells.size) (hzo:z.cells.all (·.oneCell')=true) (a b:Nat) (h:a<=b):LsR (Rep w S) (Agy (z.cells.toList.map clf) a) ((madeCells z.cells b).toList.take a):=by
 refine⟨by simp [Agy,size_madeCells];omega,λj l v h1 h2=>?_⟩
 have hj:j<a:=by
  have:=(zB.1 h1).1
  rwa [J2] at this
 have hm:j % z.cells.size<z.cells.size:=Nat.mod_lt _ hz
 have e1:l=clf z.cells[j % z.cells.size]:=by
  simp [Agy,hj,List.getD,hm] at h1
  exact h1.symm
 have e2:v=z.cells[j % z.cells.size]:=by
  rw[yR,if_pos hj] at h2
  have hjb:j<b:=zY hj h
  simp [madeCells,hjb] at h2
  rw[<- h2]
  rw[getElem!_pos z.cells _ hm]
 subst e1;subst e2
 refine Aju ?_
 rw[w9] at hzo
 exact hzo _ (Array.getElem_mem hm)
section
variable {P:Program} {c:Ctx} {st:AS} {ops:Array Oper} {Q:Exit->AS->Prop} {rest:List Oper} {ty:TypeId} {pos:String} {af:Array Edge} {d:Tmp}
theorem A36 {l:List Oper} (i:Nat) {y:SV} {m':List Blk} (hx:st.t i=.s x) (hp:Aif st.m x y m') (k:AWL P c ops Q l ⟨Go.Proofs.YtkblaobhhoebaaaGreat.Abs.upd st.t i (.s y),m'⟩):AWL P c ops Q l st:=by
 intro a w S H r
 obtain⟨S',k1,g1⟩:=hp.keeps r
 have h:=r.tm i
 rw[hx] at h
 have hy:=g1 _ h
 have r':=k1.rel
 refine k a w S' H ⟨r'.nt,r'.df,λj=>?_,r'.bl,r'.lo,r'.inj,r'.sb,r'.sl,r'.ex,r'.kl,r'.kh,r'.kr,r'.ku⟩
 show AVR _ (Go.Proofs.YtkblaobhhoebaaaGreat.Abs.upd st.t i _ j) _
 rw[Et]
 by_cases e:j=i
 ·subst e;rw[if_pos rfl];exact SVR.mono (λ_ _=>Bf.of_rep) hy
 ·rw[if_neg e];exact r'.tm j
def Ahc (P:Program) (c:Ctx) (st:AS) (op:Op) (ty:TypeId) (e sz n:Nat) (cs:List Lf):Prop :=
 ∀ a w S H,Rel c st a w S H->∃ v w' vals,(∀ d pos af g,(execOp a.eval ⟨d,op,ty,pos,af,g⟩).run P w=.ok (.value v) w')/\Ext w S w' S/\InH w' S/\w'.ownsRow w.heap.size e sz v n vals/\LsR (Rep w' S) cs vals
theorem Yf {op:Op} {e sz:Nat} {n:Nat} (hsz:0<sz) (hd:d<c.nt)
  (h:Ahc P c st op ty e sz n cs)
  (k:AWL P c ops Q rest ⟨Go.Proofs.YtkblaobhhoebaaaGreat.Abs.upd st.t d (.s (.one (.ls st.m.length n))),st.m++[.arr e sz 0 cs]⟩):AWL P c ops Q (⟨some d,op,ty,pos,af,none⟩::rest) st:=by
 intro a w S H r
 obtain⟨v,w',vals,hrun,hext,hin,hown,hls⟩:=h a w S H r
 refine wpList_plain rfl λK hK=>?_
 unfold Oper.wp
 rw[hrun]
 have r':=r.ext hext hin
 have hown':w'.ownsRow c.w0.heap.size e sz v n vals:=by
  refine⟨hown.1,?_⟩
  rcases hown.2 with h|⟨g,cap,cur,hv,hb,rest⟩
  ·exact .inl h
  ·exact .inr ⟨g,cap,cur,hv,yU r.ex.size hb,rest⟩
 have hv1:=Qy hown
 have hr2:=r'.newArr hsz hown' (zT _) hls (λg hg=>by
  have hge:w.heap.size<=g:=by
   rcases hown.2 with⟨hv,_⟩|⟨g',cap,cur,hv,hb,_⟩
   ·rw[hv] at hg;cases hg
   ·rw[hv] at hg;cases hg;exact hb
  exact⟨λq b hb ho=>by have:=(r.lo q b g hb ho).2;omega,λi hs=>by have:=r.sl.1 g i hs;omega⟩)
 refine hK _ _ (k _ _ _ _ (hr2.put (d:=d) (x:=.s (.one (.ls st.m.length n))) hd ?_))
 refine⟨by simp,⟨hv1.1,by rw[Ba];exact hv1.2⟩,λe2 sz2 k2 cs2 hm2=>?_⟩
 simp at hm2
 obtain⟨rfl,rfl,rfl,rfl⟩:=hm2
 have hn:n*sz=cs.length:=by rw[<- hown.1,hls.1]
 exact⟨kF hn,λ_=>by rw[Ba]⟩
theorem Alj (cur:Array Value) (off:Nat):∀ (vs:List Value) (j:Nat) (cs:Array Value),off+j+vs.length<=cs.size ->
  ((vs.zipIdx j).foldl (λ(cs:Array Value) (x:Value×Nat)=>cs.setIfInBounds (off+x.2) x.1) cs).toList=cs.toList.take (off+j)++vs++cs.toList.drop (off+j+vs.length)
 | [],j,cs,_=>by simp
 | v::vs,j,cs,h=>by
  simp only[yZ] at h
  rw[List.zipIdx_cons,w8,Alj cur off vs (j+1) _ (by simp;omega)]
  have hlt:off+j<cs.toList.length:=by simp;omega
  apply wA
  intro i
  have hlen:off+(j+1)+vs.length<=(cs.setIfInBounds (off+j) v).toList.length:=by simp;omega
  have hlen2:off+j+(v::vs).length<=cs.toList.length:=by simp;omega
  rw[getElem?_putAt _ vs (off+(j+1)) i hlen,getElem?_putAt _ (v::vs) (off+j) i hlen2]
  simp only[Array.toList_setIfInBounds,yZ]
  by_cases h1:i<off+j
  ·rw[if_pos (by omega),if_pos h1,zS (by omega)]
  ·by_cases h2:i=off+j
   ·subst h2
    rw[if_pos (by omega),if_neg (by omega),if_pos (by omega),zN hlt]
    simp
   ·by_cases h3:i<off+j+(vs.length+1)
    ·rw[if_neg (by omega),if_pos (by omega),if_neg h1,if_pos h3]
     rw[show i-(off+j)=(i-(off+(j+1)))+1 by omega,kD]
    ·rw[if_neg (by omega),if_neg (by omega),if_neg h1,if_neg h3,zS (by omega)]
theorem Ary (off:Nat) (vs cs:Array Value) (h:off+vs.size<=cs.size) :
  (vs.zipIdx.foldl (λ(cs:Array Value) (x:Value×Nat)=>cs.setIfInBounds (off+x.2) x.1) cs).toList=cs.toList.take off++vs.toList++cs.toList.drop (off+vs.toList.length):=by
 have:=Alj cs off vs.toList 0 cs (by simpa using h)
 simp only[kR] at this
 rw[<- this,<- Array.foldl_toList,Array.toList_zipIdx]
inductive Yk (place:Nat->Option (Nat×Nat)):List Lf->List (Nat×SV)->List Lf->Prop
 | nil (cs:List Lf):Yk place cs [] cs
 | cons (cs out:List Lf) (i off s:Nat) (x:SV) (rest:List (Nat×SV)) (hp:place i=some (off,s)) (hl:x.cells.length=s) (hb:off+s<=cs.length) (t:Yk place (Eu cs off x.cells) rest out):Yk place cs ((i,x)::rest) out
def Aci (st:AS):List (Nat×Operand)->List (Nat×SV)->Prop
 | [],xs=>xs=[]
 | (i,o)::os,xs=>∃ x r,Bg st o=.s x/\Aci st os r/\xs=(i,x)::r
theorem Li:Aci st [] []:=rfl
theorem Ed {i:Nat} {o:Operand} {os:List (Nat×Operand)} {r:List (Nat×SV)} (h:Bg st o=.s x) (t:Aci st os r):Aci st ((i,o)::os) ((i,x)::r):=⟨x,r,h,t,rfl⟩
theorem Alw (hone:∀ l v,R l v->v.oneCell'=true) {out:List Lf} (hb:Yk place cs xs out) :
  ∀ (cells:Array Value) (ps:List (Nat×Value)),LsR R cs cells.toList->xs.length=ps.length->(∀ (j:Nat) (x:Nat×SV) (p:Nat×Value),xs[j]? = some x->ps[j]? = some p->x.1=p.1/\SVR R x.2 p.2) ->
   ∃ cells',Instr.fill place cells ps=some cells'/\LsR R out cells'.toList:=by
 induction hb with
 | nil cs =>
  intro cells ps h hl _
  have:ps=[]:=yE hl.symm
  subst this
  exact⟨cells,rfl,h⟩
 | cons cs out i off s x rest hp hl hbd _ ih =>
  intro cells ps h hlen hps
  cases ps with
  | nil=>simp at hlen
  | cons p ps =>
   obtain⟨e1,e2⟩:=hps 0 _ p rfl rfl
   have hx:=T3 e2 hone
   have hsz:p.2.cells.size=s:=by rw[<- hl,hx.1];simp
   have hcs:cells.size=cs.length:=by rw[h.1];simp
   have hput:=Ary off p.2.cells cells (by rw[hsz,hcs];exact hbd)
   have hnew:LsR R (Eu cs off x.cells) (p.2.cells.zipIdx.foldl (λ(cs:Array Value) (x:Value×Nat)=>cs.setIfInBounds (off+x.2) x.1) cells).toList:=by
    rw[hput]
    refine⟨?_,λj l v h1 h2=>?_⟩
    ·simp only[Eu,zI,zR,yF]
     rw[<- hx.1,<- h.1]
    ·unfold Eu at h1
     rw[getElem?_putAt cs x.cells off j (by rw[hl];exact hbd)] at h1
     rw[getElem?_putAt cells.toList p.2.cells.toList off j (by rw[<- hx.1,hl,<- h.1];exact hbd)] at h2
     rw[<- hx.1] at h2
     by_cases a1:j<off
     ·rw[if_pos a1] at h1 h2;exact h.2 j l v h1 h2
     ·rw[if_neg a1] at h1 h2
      by_cases a2:j<off+x.cells.length
      ·rw[if_pos a2] at h1 h2;exact hx.2 _ l v h1 h2
      ·rw[if_neg a2] at h1 h2;exact h.2 j l v h1 h2
   obtain⟨cells',hf,hr⟩:=ih _ ps hnew (by simpa using hlen) (λj y q h1 h2=>hps (j+1) y q (by simpa using h1) (by simpa using h2))
   refine⟨cells',?_,hr⟩
   obtain⟨pi,pv⟩:=p
   simp only at e1
   subst e1
   unfold Instr.fill
   simp only[hp]
   rw[if_neg (by simp only at hsz;rw[hsz,hcs];simp;omega)]
   exact hf
theorem Ae6 {a:Act} (r:Rel c st a w S H):∀ {os:List (Nat×Operand)} {xs:List (Nat×SV)},Aci st os xs ->
  xs.length=(os.map λx=>(x.1,a.eval x.2)).length/\∀ (j:Nat) (x:Nat×SV) (p:Nat×Value),xs[j]? = some x->(os.map λx=>(x.1,a.eval x.2))[j]? = some p->x.1=p.1/\SVR (Bf w S st.m H) x.2 p.2
 | [],xs,h=>by cases h;exact⟨rfl,λj x p h=>by simp at h⟩
 | (i,o)::os,xs,h=>by
  obtain⟨x,rr,h1,h2,rfl⟩:=h
  have ih:=Ae6 r h2
  have h0:=Ax r o
  rw[h1] at h0
  refine⟨by simp [ih.1],λj y p hy hp=>?_⟩
  cases j with
  | zero=>simp only[yV,xN,z2] at hy hp;subst hy;subst hp;exact⟨rfl,h0⟩
  | succ j=>exact ih.2 j y p (by simpa using hy) (by simpa using hp)
structure PI (P:Program) (t:TypeId) (pl:List (Nat×Nat)):Prop where
 h:∃ fs,P.underlying t=some (.struct fs)/\fs.size=pl.length/\∀ (j:Nat) (f:Field) (q:Nat×Nat),fs[j]? = some f->pl[j]? = some q->f.offset=q.1/\(P.info? f.type).map (·.size)=some q.2
theorem Amf {P:Program} {α β:Type} (f:α->Sem β) (w:World) (l:Array α) (vs:List β) (hl:l.size=vs.length) (h:∀ (j:Nat) (x:α) (v:β),l[j]? = some x->vs[j]? = some v->(f x).run P w=.ok v w):(l.mapM f).run P w=.ok vs.toArray w:=by
 have:=Qe (P:=P) f w l.toList vs (by simpa using hl) (λj x v h1 h2=>h j x v (by simpa using h1) h2)
 rw[jT]
 simp only[Sem.run_map,this,Result.andThen_ok]
theorem Vy {t:TypeId} {zl out:List Lf} {pl:List (Nat×Nat)} {parts:Array (Nat×Operand)} (zi:ZI P t zl) (pi:PI P t pl) (hp:Aci st parts.toList xs) (hb:Yk (λi:Nat=>pl[i]?) zl xs out) :
  OpV P c st (.build t parts) ty (.s (.agg out)):=by
 intro a w S H r
 obtain⟨i,z,hi,hz,hl,ho⟩:=zi.h
 obtain⟨fs,hu,hfl,hfs⟩:=pi.h
 have hpr:=Ae6 r hp
 have hz0:LsR (Bf w S st.m H) zl z.cells.toList:=by rw[<- hl];exact Ajg ho
 obtain⟨cells',hf,hr⟩:=Alw (λl v=>Bf.oneCell) hb z.cells _ hz0 hpr.1 hpr.2
 refine⟨.agg cells',⟨cells',rfl,hr⟩,λ_ _ _ _=>?_⟩
 have hmap:(fs.mapM (λf=>do pure (f.offset,<- sizeOf f.type):Field->Sem (Nat×Nat))).run P w=.ok pl.toArray w :=
  Amf _ w fs pl hfl (λj f q h1 h2=>by
   obtain⟨e1,e2⟩:=hfs j f q h1 h2
   simp [Cc e2,e1])
 have hfill:Instr.fill (λj:Nat=>pl.toArray[j]?) z.cells ((parts.map λx=>(x.1,a.eval x.2)).toList)=some cells':=by
  rw[Array.toList_map]
  have:(λj:Nat=>pl.toArray[j]?)=λj:Nat=>pl[j]? := by funext j;simp
  rw[this]
  exact hf
 simp only[execOp,Instr.build,Sem.run_bind,zeroValue,typeInfo,run_program,Result.andThen_ok,hi,hz,Sem.run_pure,run_underlying hu,hmap]
 rw[show(λx:Nat×Operand=>(x.1,a.eval x.2))=(λx=>match x with|(i,x)=>(i,a.eval x)) from rfl] at hfill
 simp only[hfill,Sem.run_pure,Result.andThen_ok]
end
end
open Go.RowKit
section
variable {P:Program} {c:Ctx} {st:AS} {ops:Array Oper} {Q:Exit->AS->Prop} {rest:List Oper} {ty:TypeId} {pos:String} {af:Array Edge} {d:Tmp}
theorem Alr {place:Nat->Option (Nat×Nat)} {cs out:List Lf} {xs:List (Nat×SV)} (hb:Yk place cs xs out):out.length=cs.length:=by
 induction hb with
 | nil cs=>rfl
 | cons cs out i off s x rest hp hl hbd _ ih =>
  rw[ih]
  simp only[Eu,zI,zR,yF]
  omega
theorem Pb {t e sz bytes len:Nat} {zl out:List Lf} {parts:Array (Nat×Operand)} {xs:List (Nat×SV)} (si:P.underlying t=some (.slice e)) (ei:EI P e sz bytes zl) (hp:Aci st parts.toList xs)
  (hb:Yk (λi:Nat=>some (i*sz,sz)) (Agy zl (len*sz)) xs out) (hout:∀ l∈out,l.pubd=true) (hlen:len*sz<=16777216):Ahc P c st (.buildSlice t len parts) ty e sz len out:=by
 intro a w S H r
 obtain⟨i,z,hi,hz,hsize,hbytes,hzs,hzl,hzo⟩:=ei.h
 have hpr:=Ae6 r hp
 have hz0:LsR (Bf w S st.m H) (Agy zl (len*sz)) (madeCells z.cells (len*sz)).toList:=by
  have:=Ao9 (w:=w) (S:=S) (z:=z) (by rw[hzs];exact ei.p) hzo (len*sz) (len*sz) (zT _)
  rw[hzl,yJ (by rw[yL,size_madeCells];exact zT _)] at this
  exact this.mono (λ_ _=>Bf.of_rep)
 obtain⟨cells',hf,hr⟩:=Alw (λl v=>Bf.oneCell) hb _ _ hz0 hpr.1 hpr.2
 have hfill:Instr.fill (λi=>some (i*sz,sz)) (madeCells z.cells (len*sz)) ((parts.map λx=>(x.1,a.eval x.2)).toList)=some cells':=by
  rw[Array.toList_map];exact hf
 have hsz':cells'.size=len*sz:=by
  have h1:=hr.1
  have h2:out.length=(Agy zl (len*sz)).length:=Alr hb
  rw[J2] at h2
  rw[h2] at h1
  simpa using h1.symm
 refine⟨.slice (some ⟨w.heap.size,0,none⟩) len len,w.alloc (.cells cells' e),cells'.toList,λ_ _ _ _=>?_,Ext.alloc w S _,r.sl.ext (Ext.alloc w S _),?_,?_⟩
 ·have hsi:(P.info? e).map (·.size)=some sz:=by rw[hi];simp [hsize]
  have hnle:¬ (16777216<len*sz):=by omega
  have hfill':Instr.fill (λi=>some (i*sz,sz)) (madeCells z.cells (len*sz)) (Array.map (λx=>match x with|(i,x)=>(i,a.eval x)) parts).toList=some cells':=hfill
  by_cases h0:len*sz=0
  ·have hm0:madeCells z.cells (len*sz)=madeCells #[] (len*sz):=by rw[h0];simp [madeCells,Array.range_zero']
   rw[hm0] at hfill'
   unfold madeCells at hfill'
   simp only[execOp,Instr.buildSlice,Sem.run_bind,run_underlying si,Result.andThen_ok,Cc hsi]
   simp only[gt_iff_lt,show(2:Nat) ^ 24=16777216 from rfl,show ¬ (16777216<0) from by decide,if_false,h0,if_true,Sem.run_pure]
   rw[h0] at hfill'
   simp only[Sem.run_bind,Sem.run_pure,Result.andThen_ok,hfill',newRow,run_newObj]
   rfl
  ·unfold madeCells at hfill'
   simp only[execOp,Instr.buildSlice,Sem.run_bind,run_underlying si,Result.andThen_ok,Cc hsi]
   simp only[gt_iff_lt,show(2:Nat) ^ 24=16777216 from rfl,hnle,if_false,h0,zeroValue,typeInfo,Sem.run_bind,run_program,hi,hz,Sem.run_pure,Result.andThen_ok]
   simp only[hfill',Sem.run_bind,Sem.run_pure,Result.andThen_ok,newRow,run_newObj]
   rfl
 ·exact⟨by rw[yL,hsz'],.inr ⟨w.heap.size,len,cells',rfl,zT _,heap_alloc_new w _,zT _,by
   have:len<=len*sz:=jC len ei.p
   simp only[maxLen];omega,hsz',yJ (by rw[yL,hsz'];exact zT _)⟩⟩
 ·refine⟨hr.1,λj l v h1 h2=>?_⟩
  exact Rep.mono ((Ext.alloc w S _).keeps r.sl) (Bf.rep (hr.2 j l v h1 h2) (hout l (zD h1)))
theorem Zf {t e sz bytes len:Nat} {zl out:List Lf} {parts:Array (Nat×Operand)} {xs:List (Nat×SV)} (si:P.underlying t=some (.slice e)) (ei:EI P e sz bytes zl) (hp:Aci st parts.toList xs)
  (_hpub:∀ x∈xs,∀ l∈x.2.cells,l.pubd=true) (hb:Yk (λi:Nat=>some (i*sz,sz)) (Agy zl (len*sz)) xs out) (hout:∀ l∈out,l.pubd=true) (hlen:len*sz<=16777216) (hd:d<c.nt)
  (k:AWL P c ops Q rest ⟨Go.Proofs.YtkblaobhhoebaaaGreat.Abs.upd st.t d (.s (.one (.ls st.m.length len))),st.m++[.arr e sz 0 out]⟩):AWL P c ops Q (⟨some d,.buildSlice t len parts,ty,pos,af,none⟩::rest) st :=
 Yf ei.p hd (Pb si ei hp hb hout hlen) k
theorem Al2 {t:TypeId} {x y:Operand} {p n off sz e sze k:Nat} {v:SV} {cs:List Lf} (hi:(P.info? t).map (·.size)=some sz) (hx:Bg st x=.s (.one (.ap p n off))) (hy:Bg st y=.s v) (hm:st.m[p]? = some (.arr e sze k cs)) (hn:n*sze=cs.length)
  (hv:v.cells.length=sz) (hpub:∀ l∈v.cells,l.pubd=true) (hk:k<=off) (hfit:off+sz<=cs.length)
  (kk:AWL P c ops Q rest ⟨st.t,st.m.set p (.arr e sze k (Eu cs off v.cells))⟩):AWL P c ops Q (⟨none,.store t x y,ty,pos,af,none⟩::rest) st:=by
 intro a w S H r
 have hx':=Ax r x
 rw[hx] at hx'
 obtain⟨hp,_,hr⟩:=hx'
 obtain⟨g,cp,hH,ex⟩:=(hr _ _ _ _ hm).2 hn
 have hy':=Ax r y
 rw[hy] at hy'
 have hls:=T3 hy' (λl v=>Bf.oneCell)
 obtain⟨hsz,hkc,n0,vals,hown,hcs,hstb⟩:=r.bl p _ hm
 have hnn:n0=n:=O2 hown hsz (by rw[<- hcs.1];exact hn)
 subst hnn
 rcases hown.2 with⟨hv0,_⟩|⟨g',cap,cur,hv0,hbg,hg,hnc,hcm,hcsz,htake⟩
 ·rw[hv0] at hH;cases hH
 rw[hv0] at hH
 cases hH
 have hlen:(a.eval y).cells.toList.length=sz:=by rw[<- hls.1,hv]
 have hone:∀ u∈(a.eval y).cells.toList,u.oneCell'=true:=by
  intro u hu
  obtain⟨j,hj,hju⟩:=y9 hu
  have hj':j<v.cells.length:=by rw[hls.1];exact hj
  exact Bf.oneCell (hls.2 j _ u (zC hj') (by rw[zC hj,hju]))
 have hcap:n0*sze<=cur.size:=by rw[hcsz];exact xV _ hnc
 have hfitc:off+(a.eval y).cells.toList.length<=cur.toList.length:=by rw[hlen];simp;omega
 have hst:=run_storeCells_at P g off e (a.eval y).cells.toList 0 cur w hg (by rw[hlen];omega) hone
 simp only[kR] at hst
 refine wpList_plain rfl λK hK=>?_
 unfold Oper.wp
 have hrun:(execOp a.eval ⟨none,.store t x y,ty,pos,af,none⟩).run P w=.ok .skip (w.setRow g (cur.toList.take off++(a.eval y).cells.toList++cur.toList.drop (off+(a.eval y).cells.toList.length)).toArray):=by
  have hszz:(a.eval y).cells.size=sz:=by simpa using hlen
  simp only[execOp,ex,Instr.storeAt,Instr.sureAddr,storeVar,Sem.run_bind,Sem.run_pure,Result.andThen_ok,Cc hi,hszz,ne_eq,not_true_eq_false,if_false,hst]
 rw[hrun]
 have hownp:(Blk.arr e sze k cs).own (H p)=some g:=by rw[hv0];rfl
 have hrow:=setRow_heap w g cur (cur.toList.take off++(a.eval y).cells.toList++cur.toList.drop (off+(a.eval y).cells.toList.length)).toArray e _ hg
 have hoth:∀ q,q≠g->(w.setRow g (cur.toList.take off++(a.eval y).cells.toList++cur.toList.drop (off+(a.eval y).cells.toList.length)).toArray).heap[q]? = w.heap[q]? := λq hq=>setRow_other w g q _ hq
 have hkeep:∀ b j,S b j->S b j/\(w.setRow g (cur.toList.take off++(a.eval y).cells.toList++cur.toList.drop (off+(a.eval y).cells.toList.length)).toArray).cell? ⟨b,j,none⟩=w.cell? ⟨b,j,none⟩:=by
  intro b j hS
  refine⟨hS,?_⟩
  by_cases hbg':b=g
  ·subst hbg'
   have hj:j<k:=r.sb p _ b j hm hownp hS
   rw[cell_of_row _ b j _ e (0,0) hrow,cell_of_row w b j cur e (0,0) hg]
   have:=getElem?_putAt cur.toList (a.eval y).cells.toList off j hfitc
   rw[if_pos (by omega)] at this
   simpa using this
  ·exact World.cell?_of_block (w:=w) (hoth b hbg')
 have hset:Te H p (H p)=H:=by
  funext q
  by_cases e':q=p
  ·subst e';exact Ba H q _
  ·exact Bv H _ e'
 have hcl:cs.length=n0*sze:=hn.symm
 have hcur:cur.toList.take (n0*sze)=vals:=htake
 have hfin:Rel c ⟨st.t,st.m.set p (.arr e sze k (Eu cs off v.cells))⟩ a (w.setRow g (cur.toList.take off++(a.eval y).cells.toList++cur.toList.drop (off+(a.eval y).cells.toList.length)).toArray) S (Te H p (H p)):=by
  have hpl:(Eu cs off v.cells).length=cs.length:=by simp only[Eu,zI,zR,yF];omega
  refine r.change (b':=.arr e sze k (Eu cs off v.cells)) (by simp) (by rw[zN hp]) (λq hq=>zS (λe=>hq e.symm)) hkeep (λg' _ _=>rfl)
   (λe' sz' k' cs' _ h=>by cases h;exact⟨k,cs,hm,.inl ⟨hpl.symm,rfl⟩⟩) (λg' _ hne=>hoth g' (λe'=>hne _ hm (by rw[e'];exact hownp))) ?_ (λg' hg'=>?_) (λq b g' j _ _ _ hs=>hs) (λg' j _ _ hs=>hs) ⟨λb j hs=>by simp;exact r.sl.1 b j hs,r.sl.2.1.mono hkeep⟩ (by simp) rfl rfl rfl
  ·have hnl:off+(a.eval y).cells.toList.length<=(cur.toList.take (n0*sze)).length:=by rw[hlen,zR,kN (by simpa using hcap)];omega
   refine⟨hsz,by rw[hpl];exact hkc,n0,(cur.toList.take (n0*sze)).take off++(a.eval y).cells.toList++(cur.toList.take (n0*sze)).drop (off+(a.eval y).cells.toList.length),?_,?_,λg' hg' j hj=>hstb g' hg' j hj⟩
   ·refine⟨?_,.inr ⟨g,cp,_,hv0,hbg,hrow,hnc,hcm,?_,?_⟩⟩
    ·simp only[zI,zR,yF,yL] at hnl ⊢;omega
    ·simp only[yI,zI,zR,yF,yL] at hfitc ⊢;omega
    ·apply wA
     intro j
     rw[yR]
     rw[getElem?_putAt _ _ off j hnl]
     by_cases hj:j<n0*sze
     ·rw[if_pos hj]
      have:=getElem?_putAt cur.toList (a.eval y).cells.toList off j hfitc
      simp only at this ⊢
      rw[this]
      by_cases b1:j<off
      ·rw[if_pos b1,if_pos b1,yR,if_pos hj]
      ·rw[if_neg b1,if_neg b1]
       by_cases b2:j<off+(a.eval y).cells.toList.length
       ·rw[if_pos b2,if_pos b2]
       ·rw[if_neg b2,if_neg b2,yR,if_pos hj]
     ·rw[if_neg hj,if_neg (by omega)]
      by_cases b2:j<off+(a.eval y).cells.toList.length
      ·rw[hlen] at b2;omega
      ·rw[if_neg b2,yR,if_neg hj]
   ·rw[hcur]
    have hvl:off+(a.eval y).cells.toList.length<=vals.length:=by rw[hlen,<- hcs.1];exact hfit
    refine⟨?_,λj l u h1 h2=>?_⟩
    ·rw[hpl];simp only[zI,zR,yF];have:=hcs.1;rw[hlen] at hvl ⊢;omega
    ·unfold Eu at h1
     rw[getElem?_putAt cs v.cells off j (by rw[hv];exact hfit)] at h1
     rw[getElem?_putAt vals _ off j hvl] at h2
     rw[<- hls.1] at h2
     refine Rep.mono hkeep ?_
     by_cases a1:j<off
     ·rw[if_pos a1] at h1 h2;exact hcs.2 j l u h1 h2
     ·rw[if_neg a1] at h1 h2
      by_cases a2:j<off+v.cells.length
      ·rw[if_pos a2] at h1 h2;exact Bf.rep (hls.2 _ l u h1 h2) (hpub l (zD h1))
      ·rw[if_neg a2] at h1 h2;exact hcs.2 j l u h1 h2
  ·have hg2:Cz (H p)=some g':=hg'
   rw[hv0] at hg2
   simp only[Cz,z2] at hg2
   subst hg2
   exact⟨(r.lo p _ g hm hownp).1,by simp;exact(r.lo p _ g hm hownp).2,λq b hq hb ho=>hq (r.inj q p b _ g hb hm ho hownp),λj hj=>(r.sb p _ g j hm hownp hj:j<k)⟩
 rw[hset] at hfin
 exact hK a _ (kk a _ S H hfin)
theorem A1i {w:World} {S:Dx} {n:Nat} {cs:List Lf} {v:Value} (h:Rep w S (.sl n cs) v) {sz lo hi:Nat} (hl:lo<=hi) (hh:hi<=n) (hn:cs.length=n*sz) :
  ∃ a cap,v=.slice a n cap/\n<=cap/\Rep w S (.sl (hi-lo) ((cs.drop (lo*sz)).take ((hi-lo)*sz))) (.slice (if cap=lo then a else a.map (·.add (lo*sz))) (hi-lo) (cap-lo)):=by
 cases h with
 | sl0 a cap =>
  have h1:hi=0:=by omega
  have h2:lo=0:=by omega
  subst h1;subst h2
  refine⟨a,cap,rfl,zU _,?_⟩
  simp only[kZ,wZ,j2]
  exact .sl0 _ _
 | sl n cs bk off cap vals hc hm hs hr =>
  refine⟨some ⟨bk,off,none⟩,cap,rfl,hc,?_⟩
  by_cases he:cap=lo
  ·have:hi=lo:=by omega
   subst this
   simp only[kZ,wZ,j2]
   exact .sl0 _ _
  ·rw[if_neg he]
   have hadd:(⟨bk,off,none⟩:Addr).add (lo*sz)=⟨bk,off+lo*sz,none⟩:=Addr.add_lit _ _ _
   simp only[xM,hadd]
   refine Rep.sl _ _ bk (off+lo*sz) (cap-lo) (λj=>vals (lo*sz+j)) (by omega) (by simp only[maxLen] at hm ⊢;omega) (λj l hl'=>?_) (λj l hl'=>?_)
   ·rw[yR] at hl'
    split at hl'
    ·rw[yP] at hl'
     rw[jD]
     exact hs _ _ hl'
    ·cases hl'
   ·rw[yR] at hl'
    split at hl'
    ·rw[yP] at hl'
     exact hr _ _ hl'
    ·cases hl'
def Anr (st:AS):Option Operand->Nat->Nat->Prop
 | none,dflt,b=>b=dflt
 | some o,_,b=>∃ k i,Bg st o=.s (.one (.i k i))/\0<=i/\i.toNat=b
theorem Ah7 {n:Nat}:Anr st none n n:=rfl
theorem Ahq {o:Operand} {k:IntKind} {i:Int} {n:Nat} (h:Bg st o=.s (.one (.i k i))) (h0:0<=i):Anr st (some o) n i.toNat:=⟨k,i,h,h0,rfl⟩
theorem T7 {a:Act} {w:World} {S:Dx} {H:Nat->Value} (r:Rel c st a w S H) {o:Operand} {k:IntKind} {i:Int} (h:Bg st o=.s (.one (.i k i))) (h0:0<=i) (y:Nat) (hy:i.toNat<=y) (code:BoundsCode) :
  (Instr.sliceBound (a.eval o) y code).run P w=.ok i.toNat w:=by
 have h':=Ax r o
 rw[h] at h'
 have e:a.eval o=.int k i:=T4 h'
 rw[e]
 exact run_sliceBound w k i y code h0 (by omega)
theorem Avr {t e sz n lo hi:Nat} {x:Operand} {cs:List Lf} {l h:Option Operand} (si:SI P t e sz) (hx:Bg st x=.s (.one (.sl n cs))) (hcs:cs.length=n*sz) (hl:Anr st l 0 lo) (hh:Anr st h n hi) (h1:lo<=hi) (h2:hi<=n) :
  OpV P c st (.slice t x l h none) ty (.s (.one (.sl (hi-lo) ((cs.drop (lo*sz)).take ((hi-lo)*sz))))):=by
 intro a w S H r
 have hx':=Ax r x
 rw[hx] at hx'
 obtain⟨ad,cap,hv,hnc,hrep⟩:=A1i (hx':Rep w S (.sl n cs) (a.eval x)) h1 h2 hcs
 refine⟨_,D4 hrep,λ_ _ _ _=>?_⟩
 have hrun:(Instr.sliceAt t (.slice ad n cap) (l.map a.eval) (h.map a.eval) none).run P w=.ok (.slice (if cap=lo then ad else ad.map (·.add (lo*sz))) (hi-lo) (cap-lo)) w:=by
  cases h with
  | none =>
   have hhn:hi=n:=hh
   subst hhn
   cases l with
   | none =>
    have:lo=0:=hl
    subst this
    simp [Instr.sliceAt,Instr.slice,run_underlying si.u,Instr.sliceBounds,Cc si.i]
   | some o =>
    obtain⟨k,i,ho,h0,rfl⟩:=hl
    have:=T7 (P:=P) r ho h0 hi h1 .sliceB
    simp [Instr.sliceAt,Instr.slice,run_underlying si.u,Instr.sliceBounds,Cc si.i,this]
  | some o2 =>
   obtain⟨k2,i2,ho2,h02,rfl⟩:=hh
   have hb2:=T7 (P:=P) r ho2 h02 cap (by omega) .sliceAcap
   cases l with
   | none =>
    have:lo=0:=hl
    subst this
    simp [Instr.sliceAt,Instr.slice,run_underlying si.u,Instr.sliceBounds,Cc si.i,hb2]
   | some o =>
    obtain⟨k,i,ho,h0,rfl⟩:=hl
    have hb1:=T7 (P:=P) r ho h0 i2.toNat h1 .sliceB
    simp [Instr.sliceAt,Instr.slice,run_underlying si.u,Instr.sliceBounds,Cc si.i,hb2,hb1]
 simp only[execOp,hv,Sem.run_bind,Option.map_none]
 rw[hrun]
 rfl
theorem Akb {s t:TypeId} {ds:TypeDesc} {x:Operand} {k k':IntKind} {n:Int} (hs:P.underlying s=some ds) (ht:P.underlying t=some (.int k)) (hx:Bg st x=.s (.one (.i k' n))):OpV P c st (.convert s t x) ty (.s (.one (.i k (k.wrap n)))):=by
 intro a w S H r
 have hx':=Ax r x
 rw[hx] at hx'
 have ex:a.eval x=.int k' n:=T4 hx'
 refine⟨.int k (k.wrap n),D4 (.i _ _),λ_ _ _ _=>?_⟩
 cases ds <;> simp [execOp,ex,convert,run_underlying hs,run_underlying ht,Conv.intToInt]
def bl (l:List UInt8):List Lf:=l.map λb=>.i .u8 b.toNat
theorem Zh {w:World} (f:Value->ByteArray->Sem (ForInStep ByteArray)) (hf:∀ (b:UInt8) (s:ByteArray),(f (.int .u8 b.toNat) s).run P w=.ok (.yield (s.push b)) w):∀ (l:List UInt8) (s:ByteArray),
  (forIn (l.map λb=>Value.int IntKind.u8 (b.toNat:Int)) s f:Sem ByteArray).run P w=.ok ⟨s.data++l.toArray⟩ w
 | [],s=>by simp
 | b::l,s=>by
  simp only[xN,List.forIn_cons,Sem.run_bind,hf,Result.andThen_ok]
  rw[Zh f hf l]
  simp [ByteArray.push]
theorem Anh {s t e:TypeId} {x:Operand} {l:List UInt8} (hs:P.underlying s=some (.slice e)) (he:P.underlying e=some (.int .u8)) (ht:P.underlying t=some .string) (hx:Bg st x=.s (.one (.sl l.length (bl l)))) :
  OpV P c st (.convert s t x) ty (.s (.one (.s ⟨l.toArray⟩))):=by
 intro a w S H r
 have hx':=Ax r x
 rw[hx] at hx'
 have hx2:Rep w S (.sl l.length (bl l)) (a.eval x):=hx'
 refine⟨.string ⟨l.toArray⟩,D4 (.s _),λ_ _ _ _=>?_⟩
 have key:(Conv.bytesToString (a.eval x)).run P w=.ok (.string ⟨l.toArray⟩) w:=by
  generalize a.eval x=v at hx2
  generalize hn:l.length=n at hx2
  generalize hb:bl l=cs at hx2
  cases hx2 with
  | sl0 ad cap =>
   have:l=[]:=yE hn
   subst this
   cases ad with
   | none=>rfl
   | some ad=>simp [Conv.bytesToString,loadCells,loadCellsFrom];rfl
  | sl n cs bk off cap vals hc hm hs' hr =>
   subst hn;subst hb
   have hvals:∀ j,∀ b,l[j]? = some b->vals j=.int .u8 b.toNat/\w.cell? ⟨bk,off+j,none⟩=some (.int .u8 b.toNat):=by
    intro j b hj
    have hbl:(bl l)[j]? = some (.i .u8 b.toNat):=by simp [bl,hj]
    have h1:=T4 (hr j _ hbl)
    exact⟨h1,by rw[<- h1];exact(hs' j _ hbl).2⟩
   have hload:=run_loadCells_list (P:=P) w ⟨bk,off,none⟩ (l.map λb=>Value.int .u8 b.toNat) (λj v hj=>by
    rw[zK] at hj
    cases hb:l[j]? with
    | none=>rw[hb] at hj;cases hj
    | some b =>
     rw[hb] at hj;cases hj
     rw[Addr.add_lit]
     exact(hvals j b hb).2)
   rw[zP] at hload
   simp only[Conv.bytesToString,Sem.run_bind,hload,Result.andThen_ok,List.forIn_toArray]
   rw[Zh (P:=P) (w:=w) _ (λb s=>by simp) l ByteArray.empty]
   simp
 simp only[execOp,convert,Sem.run_bind,run_underlying hs,run_underlying ht,Result.andThen_ok]
 obtain⟨ad,cap,hv⟩:=A0j hx2
 rw[hv] at key
 simp [hv,run_underlying he,key]
end
open Go.RowKit
section
variable {P:Program} {c:Ctx} {t:Nat->AV} {m:List Blk} {ops:Array Oper} {Q:Exit->AS->Prop} {rest:List Oper} {op:Op} {ty:TypeId} {pos:String} {af:Array Edge} {d:Tmp} {x:AV}
theorem sv (hd:decide (d<c.nt)=true) (h:OpV P c ⟨t,m⟩ op ty x) (k:AWL P c ops Q rest ⟨upd t d x,m⟩):AWL P c ops Q (⟨some d,op,ty,pos,af,none⟩::rest) ⟨t,m⟩ :=
 Aq6 h (of_decide_eq_true hd) k
theorem son {dst:Option Tmp} {j:Nat} {want:Bool} {dj:Tmp} (hn:decide (dj<c.nt)=true) (hj:(ops[j]?).bind (·.dst)=some dj) (ht:t dj=.s (.one (.b want)))
  (k:AWL P c ops Q (⟨dst,op,ty,pos,af,none⟩::rest) ⟨t,m⟩):AWL P c ops Q (⟨dst,op,ty,pos,af,some (j,want)⟩::rest) ⟨t,m⟩ :=
 Avn hj ht k rfl (of_decide_eq_true hn)
theorem Bb9 {j:Nat} {want b:Bool} {dj:Tmp} (hd:decide (d<c.nt)=true) (hj:(ops[j]?).bind (·.dst)=some dj) (ht:t dj=.s (.one (.b b))) (hb:(b==want)=false)
  (k:AWL P c ops Q rest ⟨upd t d (.tup []),m⟩):AWL P c ops Q (⟨some d,op,ty,pos,af,some (j,want)⟩::rest) ⟨t,m⟩ :=
 Aii hj ht hb (λd' h=>by cases h;exact of_decide_eq_true hd) k
theorem Bbc {j:Nat} {want b:Bool} {dj:Tmp} (hj:(ops[j]?).bind (·.dst)=some dj) (ht:t dj=.s (.one (.b b))) (hb:(b==want)=false)
  (k:AWL P c ops Q rest ⟨t,m⟩):AWL P c ops Q (⟨none,op,ty,pos,af,some (j,want)⟩::rest) ⟨t,m⟩ :=
 Aii hj ht hb (λd' h=>by cases h) k
theorem A9e {j:Nat} {want:Bool} {dj:Tmp} (hd:decide (d<c.nt)=true) (hj:(ops[j]?).bind (·.dst)=some dj) (ht:t dj=.tup [])
  (k:AWL P c ops Q rest ⟨upd t d (.tup []),m⟩):AWL P c ops Q (⟨some d,op,ty,pos,af,some (j,want)⟩::rest) ⟨t,m⟩ :=
 Ajx hj ht (λd' h=>by cases h;exact of_decide_eq_true hd) k
theorem A7b {j:Nat} {want:Bool} {dj:Tmp} (hj:(ops[j]?).bind (·.dst)=some dj) (ht:t dj=.tup [])
  (k:AWL P c ops Q rest ⟨t,m⟩):AWL P c ops Q (⟨none,op,ty,pos,af,some (j,want)⟩::rest) ⟨t,m⟩ :=
 Ajx hj ht (λd' h=>by cases h) k
theorem Atg {l:List Oper} (dj:Tmp) {b:Bool} (ht:t dj=.s (.one (.b b))) (k1:b=true->AWL P c ops Q l ⟨upd t dj (.s (.one (.b true))),m⟩) (k0:b=false->AWL P c ops Q l ⟨upd t dj (.s (.one (.b false))),m⟩):AWL P c ops Q l ⟨t,m⟩ :=
 Al8 ht k1 k0
theorem Ns {l:List Oper} (dj:Tmp) {y:AV} (z:AV) (ht:t dj=y) (e:y=z) (k:AWL P c ops Q l ⟨upd t dj z,m⟩):AWL P c ops Q l ⟨t,m⟩:=by
 subst e
 exact Arn (Sj ht) k
theorem Ac4 {x:Code} (dj:Tmp) {y:AV} (z:AV) (ht:t dj=y) (e:y=z) (k:AWC P c x Q ⟨upd t dj z,m⟩):AWC P c x Q ⟨t,m⟩:=by
 subst e
 have:upd t dj y=t:=Sj ht
 rw[this] at k
 exact k
theorem Agg {n:AS->Prop} (h:n ⟨t,m⟩):AWL P c ops (Gx n Q) [] ⟨t,m⟩:=Ail h
theorem Ur (h:Q .normal ⟨t,m⟩):AWL P c ops Q [] ⟨t,m⟩:=Ail h
theorem A4v {t':TypeId} {zl:List Lf} (hd:decide (d<c.nt)=true) (zi:ZI P t' zl)
  (k:AWL P c ops Q rest ⟨upd t d (.s (.one (.lp m.length 0))),m++[.box zl]⟩):AWL P c ops Q (⟨some d,.alloc t',ty,pos,af,none⟩::rest) ⟨t,m⟩ :=
 Al4 zi (of_decide_eq_true hd) k
theorem Be5 {t':TypeId} {y:Operand} {x:SV} (hd:decide (d<c.nt)=true) (hx:Bg ⟨t,m⟩ y=.s x)
  (k:AWL P c ops Q rest ⟨upd t d (.s (.one (.lp m.length 0))),m++[.box x.cells]⟩):AWL P c ops Q (⟨some d,.box t' y,ty,pos,af,none⟩::rest) ⟨t,m⟩ :=
 Avg hx (of_decide_eq_true hd) k
theorem A5a {t':TypeId} {x y:Operand} {p off sz:Nat} {v:SV} {cs:List Lf} (hi:(P.info? t').map (·.size)=some sz) (hx:Bg ⟨t,m⟩ x=.s (.one (.lp p off))) (hy:Bg ⟨t,m⟩ y=.s v) (hm:m[p]? = some (.box cs))
  (hv:v.cells.length=sz) (hfit:off+sz<=cs.length)
  (k:AWL P c ops Q rest ⟨t,m.set p (.box (Eu cs off v.cells))⟩):AWL P c ops Q (⟨none,.store t' x y,ty,pos,af,none⟩::rest) ⟨t,m⟩ :=
 Aa3 hi hx hy hm hv hfit k
theorem Amm {t':TypeId} {x y:Operand} {p n off sz e sze k:Nat} {v:SV} {cs:List Lf} (hi:(P.info? t').map (·.size)=some sz) (hx:Bg ⟨t,m⟩ x=.s (.one (.ap p n off))) (hy:Bg ⟨t,m⟩ y=.s v) (hm:m[p]? = some (.arr e sze k cs)) (hn:n*sze=cs.length)
  (hv:v.cells.length=sz) (hpub:∀ l∈v.cells,l.pubd=true) (hk:k<=off) (hfit:off+sz<=cs.length)
  (kk:AWL P c ops Q rest ⟨t,m.set p (.arr e sze k (Eu cs off v.cells))⟩):AWL P c ops Q (⟨none,.store t' x y,ty,pos,af,none⟩::rest) ⟨t,m⟩ :=
 Al2 hi hx hy hm hn hv hpub hk hfit kk
theorem Az8 {f:FuncId} {args:Array Operand} {ats:Array TypeId} {xs ys:List SV} {m':List Blk} {r:AV} (hd:decide (d<c.nt)=true) (hf:FnI P f) (ho:Xy ⟨t,m⟩ args.toList xs) (hp:Ag1 m xs ys m') (hc:Bc P f ys (·=r))
  (k:AWL P c ops Q rest ⟨upd t d r,m'⟩):AWL P c ops Q (⟨some d,.call { callee:=.value (.func f),args:=args,argTypes:=ats },ty,pos,af,none⟩::rest) ⟨t,m⟩ :=
 Apr hf ho hp hc (of_decide_eq_true hd) (λ_ h=>h ▸ k)
theorem Atj {t' e sz bytes:Nat} {zl:List Lf} (hd:decide (d<c.nt)=true) (si:P.underlying t'=some (.slice e)) (ei:EI P e sz bytes zl)
  (k:AWL P c ops Q rest ⟨upd t d (.s (.one (.ls m.length 0))),m++[.arr e sz 0 []]⟩):AWL P c ops Q (⟨some d,.buildSlice t' 0 #[],ty,pos,af,none⟩::rest) ⟨t,m⟩ :=
 Zf si ei Li (λx h=>by cases h) (by rw[wZ];exact .nil _) (λl h=>by cases h) (by omega) (of_decide_eq_true hd) k
theorem S7 {t' e sz bytes:Nat} {zl:List Lf} {o:Operand} {x:SV} (hd:decide (d<c.nt)=true) (si:P.underlying t'=some (.slice e)) (ei:EI P e sz bytes zl) (ho:Bg ⟨t,m⟩ o=.s x) (hx:x.cells.length=sz) (hp:∀ l∈x.cells,l.pubd=true) (hsz:sz<=16777216)
  (k:AWL P c ops Q rest ⟨upd t d (.s (.one (.ls m.length 1))),m++[.arr e sz 0 x.cells]⟩):AWL P c ops Q (⟨some d,.buildSlice t' 1 #[(0,o)],ty,pos,af,none⟩::rest) ⟨t,m⟩:=by
 have hput:Eu (Agy zl (1*sz)) (0*sz) x.cells=x.cells:=by
  unfold Eu
  rw[wZ,yT,j2,wO,wN (by rw[J2,hx,wW];exact zT _),xC]
 refine Zf (xs:=[(0,x)]) si ei (Ed ho Li) (λy h=>?_) ?_ (λl h=>hp l h) (by omega) (of_decide_eq_true hd) k
 ·simp at h;subst h;exact hp
 ·refine Yk.cons _ _ 0 (0*sz) sz x [] rfl hx (by rw[J2];omega) ?_
  rw[hput]
  exact .nil _
theorem A22 {x y:Operand} {t' t2 e sz bytes p n mm k:Nat} {zl cs ys:List Lf} {yv yv':SV} {m':List Blk} (hd:decide (d<c.nt)=true) (si:P.underlying t'=some (.slice e)) (ei:EI P e sz bytes zl) (h2:NI P t2) (hx:Bg ⟨t,m⟩ x=.s (.one (.ls p n))) (hy:Bg ⟨t,m⟩ y=.s yv)
  (hp:Aif m yv yv' m') (hm:m'[p]? = some (.arr e sz k cs)) (hn:n*sz=cs.length) (hsrc:Aji P yv' sz mm ys) (h63:n+mm<=maxLen) (hb:(n+mm)*bytes<=140737488355328)
  (kk:AWL P c ops Q rest ⟨upd t d (.s (.one (.ls p (n+mm)))),m'.set p (.arr e sz k (cs++ys))⟩) :
  AWL P c ops Q (⟨some d,.call { callee:=.builtin .append,args:=#[x,y],argTypes:=#[t',t2] },ty,pos,af,none⟩::rest) ⟨t,m⟩ :=
 Arh si ei h2 hx hy hp hm hn hsrc h63 hb (of_decide_eq_true hd) kk
theorem A4l {l:List Oper} (i:Nat) {x y:SV} {m':List Blk} (hx:t i=.s x) (hp:Aif m x y m') (k:AWL P c ops Q l ⟨upd t i (.s y),m'⟩):AWL P c ops Q l ⟨t,m⟩:=A36 i hx hp k
theorem A47 {l:List Oper} (e sz:Nat) (i:Nat) (hsz:0<sz) (hi:t i=.s (.one (.raw (.slice none 0 0)))) (k:AWL P c ops Q l ⟨upd t i (.s (.one (.ls m.length 0))),m++[.arr e sz 0 []]⟩):AWL P c ops Q l ⟨t,m⟩ :=
 A70 _ (λ_ _ S H r=>⟨S,Te H m.length (.slice none 0 0),Al1 (st:=⟨t,m⟩) i hsz hi r⟩) k
theorem X5 {x:Code} (e sz:Nat) (i:Nat) (hsz:0<sz) (hi:t i=.s (.one (.raw (.slice none 0 0)))) (k:AWC P c x Q ⟨upd t i (.s (.one (.ls m.length 0))),m++[.arr e sz 0 []]⟩):AWC P c x Q ⟨t,m⟩ :=
 Av7 _ (λ_ _ S H r=>⟨S,Te H m.length (.slice none 0 0),Al1 (st:=⟨t,m⟩) i hsz hi r⟩) k
theorem Amx {x:Code} (e sz p:Nat) {cs:List Lf} (i:Nat) (hsz:0<sz) (hm:m[p]? = some (.box cs)) (hi:cs[i]? = some (.raw (.slice none 0 0))) (k:AWC P c x Q ⟨t,m.set p (.box (cs.set i (.ls m.length 0)))++[.arr e sz 0 []]⟩):AWC P c x Q ⟨t,m⟩ :=
 Av7 _ (λ_ _ S H r=>⟨S,Te H m.length (.slice none 0 0),Ai6 (st:=⟨t,m⟩) i hsz hm hi r⟩) k
theorem Fs {x y:Code} (h:AWC P c x (Gx (AWC P c y Q) Q) ⟨t,m⟩):AWC P c (.seq x y) Q ⟨t,m⟩:=Ava h
theorem Fc {id:Nat} {l:List Oper} (h:AWL P c l.toArray Q l ⟨t,m⟩):AWC P c (.region id l.toArray false) Q ⟨t,m⟩:=Ahi h
theorem S8 {o:Operand} {x y:Code} {b:Bool} (ho:Bg ⟨t,m⟩ o=.s (.one (.b b))) (h1:b=true->AWC P c x Q ⟨t,m⟩) (h0:b=false->AWC P c y Q ⟨t,m⟩):AWC P c (.cond o x y) Q ⟨t,m⟩:=Ape ho h1 h0
theorem Jf {id:Nat} {x:Code} (h:AWC P c x (Gy id Q) ⟨t,m⟩):AWC P c (.block id x) Q ⟨t,m⟩:=Amk h
theorem A4p (h:Q .normal ⟨t,m⟩):AWC P c .skip Q ⟨t,m⟩:=Aqj h
theorem An2 {id:Nat} (h:Q (.exit id) ⟨t,m⟩):AWC P c (.exit id) Q ⟨t,m⟩:=Aos h
theorem Pj (h:Q .ret ⟨t,m⟩):AWC P c .ret Q ⟨t,m⟩:=Avf h
theorem A1 {n:AS->Prop} {st:AS} (h:n st):Gx n Q .normal st:=h
theorem O5 {n:AS->Prop} {st:AS} {id:Nat} (h:Q (.exit id) st):Gx n Q (.exit id) st:=h
theorem Up {n:AS->Prop} {st:AS} (h:Q .ret st):Gx n Q .ret st:=h
theorem Bz {id:Nat} {st:AS} (h:Q .normal st):Gy id Q .normal st:=h
theorem Q6 {id:Nat} {st:AS} (h:Q .ret st):Gy id Q .ret st:=h
theorem Q4 {id:Nat} {st:AS} (h:Q .normal st):Gy id Q (.exit id) st:=by
 show(if id=id then Q .normal st else Q (.exit id) st)
 rw[if_pos rfl];exact h
end
open Go.RowKit
section
variable {k:(Nat->AV)->Prop} {st:AS} {x:AV} {ops:Array Oper} {b want:Bool} {c:Ctx} {m:List Blk} {j:Nat} {H:Nat->Value} {o:Oper} {P:Program} {dj:Tmp} {ty:TypeId}
def OpD (P:Program) (c:Ctx) (st:AS) (op:Op) (ty:TypeId) (x:AV):Prop :=
 ∀ a w S H,Rel c st a w S H->∀ (dst:Option Tmp) (pos:String) (af:Array Edge) (g:Option (Nat×Bool)) (K:Act->World->Prop) (Q:Exit->Act->World->Prop),
  (∀ v w' S',Ext w S w' S'->InH w' S'->AVR (Bf w' S' st.m H) x v->K (a.put dst v) w')->Oper.wp P ⟨dst,op,ty,pos,af,g⟩ a w K Q
theorem OpV.opD {op:Op} (h:OpV P c st op ty x):OpD P c st op ty x:=by
 intro a w S H r dst pos af g K Q hK
 obtain⟨v,hv,hrun⟩:=h a w S H r
 unfold Oper.wp
 rw[hrun]
 exact hK v w S (Ext.refl w S) r.sl hv
theorem Aik {w:World} {S:Dx} {x:SV} {v:Value} (h:SVR (Bf w S m H) x v) (hp:x.cells.all Lf.pubd=true):SVR (Rep w S) x v:=by
 cases x with
 | one l=>exact Bf.rep h (by simpa [SV.cells] using hp)
 | agg ls =>
  obtain⟨cs,rfl,h1,h2⟩:=h
  exact⟨cs,rfl,h1,λj l u hl hu=>Bf.rep (h2 j l u hl hu) (zJ.1 hp l (zD hl))⟩
theorem Lr {f:FuncId} {args:Array Operand} {ats:Array TypeId} {xs:List SV} {r:AV} (hf:FnI P f) (ho:Xy st args.toList xs) (hp:xs.all (λx=>x.cells.all Lf.pubd)=true) (hc:Bc P f xs (·=r)) :
  OpD P c st (.call { callee:=.value (.func f),args:=args,argTypes:=ats }) ty r:=by
 intro a w S H rr dst pos af g K Q hK
 have hv:=V0 rr ho
 unfold Oper.wp
 have hrun:(execOp a.eval ⟨dst,.call { callee:=.value (.func f),args:=args,argTypes:=ats },ty,pos,af,g⟩).run P w=.ok (.enter f (args.map a.eval)) w:=by
  simp [execOp,resolve,Act.eval,Deferred.ofValue,invoke,hf.run]
 rw[hrun]
 refine(hc w S (args.map a.eval) rr.sl ⟨by simpa using hv.1,λj x v h1 h2=>?_⟩).mono ?_
 ·exact Aik (hv.2 j x v h1 (by simpa using h2)) (zJ.1 hp x (zD h1))
 ·rintro e w' ⟨v,x,S',rfl,rfl,hext,hin,hav⟩
  exact hK v w' S' hext hin (Acu hav)
def Ob (t:Nat->AV) (L:List Nat):Nat->AV:=λj=>cond (L.contains j) (t j) .top
def Awf (ops:Array Oper) (t:Nat->AV) (o:Oper):Prop:=o.guard=none\/∃ j want dj,o.guard=some (j,want)/\(ops[j]?).bind (·.dst)=some dj/\t dj=.s (.one (.b want))
def GNo (ops:Array Oper) (t:Nat->AV) (o:Oper):Prop:=∃ j want dj,o.guard=some (j,want)/\(ops[j]?).bind (·.dst)=some dj/\(t dj=.tup []\/∃ b,t dj=.s (.one (.b b))/\(b==want)=false)
def Aah (P:Program) (c:Ctx) (m:List Blk) (ops:Array Oper) (t:Nat->AV) (o:Oper) (x:AV):Prop :=
 (Awf ops t o/\OpD P c ⟨Ob t (o.looksAt ops),m⟩ o.op o.type x)\/(GNo ops t o/\x=.tup [])
def DR (P:Program) (c:Ctx) (m:List Blk) (ops:Array Oper) (k:(Nat->AV)->Prop):List Oper->(Nat->AV)->Prop
 | [],t=>k t
 | o::rest,t=>∃ x d,o.dst=some d/\d<c.nt/\Aah P c m ops t o x/\DR P c m ops k rest (upd t d x)
def K6 (l:List Oper):List Tmp:=l.filterMap (·.dst)
theorem Anw {t t':Nat->AV} {L:List Nat} (h:∀ x∈L,t x=t' x):Ob t L=Ob t' L:=by
 funext j
 unfold Ob
 cases hc:L.contains j with
 | false=>rfl
 | true=>simp only[cond_true];exact h j (by simpa using hc)
theorem D7 (hg:o.guard=some (j,want)) (hd:(ops[j]?).bind (·.dst)=some dj):dj∈o.looksAt ops:=by
 unfold Oper.looksAt
 rw[hg]
 refine w4 _ ?_
 simp [hd]
theorem Aah.congr {t t':Nat->AV} (h:Aah P c m ops t o x) (ht:∀ y∈o.looksAt ops,t y=t' y):Aah P c m ops t' o x:=by
 rcases h with⟨hg,ho⟩|⟨hg,hx⟩
 ·refine .inl ⟨?_,by rw[<- Anw ht];exact ho⟩
  rcases hg with hg|⟨j,want,dj,h1,h2,h3⟩
  ·exact .inl hg
  ·exact .inr ⟨j,want,dj,h1,h2,by rw[<- ht dj (D7 h1 h2)];exact h3⟩
 ·obtain⟨j,want,dj,h1,h2,h3⟩:=hg
  exact .inr ⟨⟨j,want,dj,h1,h2,by rw[<- ht dj (D7 h1 h2)];exact h3⟩,hx⟩
theorem DR.get:∀ {l:List Oper} {t:Nat->AV},DR P c m ops k l t->(K6 l).Nodup->(∀ (i:Nat) (o:Oper),l[i]? = some o->∀ y∈o.looksAt ops,y∉K6 (l.drop i)) ->
  ∃ T,k T/\(∀ y,y∉K6 l->T y=t y)/\∀ (i:Nat) (o:Oper),l[i]? = some o->∃ d,o.dst=some d/\d<c.nt/\Aah P c m ops T o (T d)
 | [],t,h,_,_=>⟨t,h,λ_ _=>rfl,λi o h=>by simp at h⟩
 | o::rest,t,h,hnd,hl=>by
  obtain⟨x,d,hd,hlt,hg,hr⟩:=h
  have hds:K6 (o::rest)=d::K6 rest:=by simp [K6,hd]
  rw[hds] at hnd
  have hnd':=wE.1 hnd
  obtain⟨T,hk,hT,hG⟩:=DR.get hr hnd'.2 (λi o' h' y hy=>by
   have:=hl (i+1) o' (by simpa using h') y hy
   simpa using this)
  refine⟨T,hk,λy hy=>?_,λi o' h'=>?_⟩
  ·rw[hds] at hy
   simp only[yB,not_or] at hy
   rw[hT y hy.2,Et,if_neg hy.1]
  ·cases i with
   | zero =>
    simp only[yV,z2] at h'
    subst h'
    have hTd:T d=x:=by rw[hT d hnd'.1,Et,if_pos rfl]
    refine⟨d,hd,hlt,?_⟩
    rw[hTd]
    refine hg.congr (λy hy=>?_)
    have:=hl 0 o rfl y hy
    rw[List.drop_zero,hds] at this
    simp only[yB,not_or] at this
    rw[hT y this.2,Et,if_neg this.1]
   | succ i=>exact hG i o' (by simpa using h')
structure Bcw (ops:Array Oper):Prop where
 dst:∀ (i:Nat) (o:Oper),ops[i]? = some o->∃ d,o.dst=some d
 lt:∀ (i:Nat) (o:Oper),ops[i]? = some o->∀ e∈o.after,e.on<i
 ne:∀ (i:Nat) (o:Oper) (j:Nat) (p:Oper),ops[i]? = some o->ops[j]? = some p->i≠j->o.dst≠p.dst
 ed:∀ (i:Nat) (o:Oper) (j:Nat) (p:Oper) (d:Tmp),ops[i]? = some o->ops[j]? = some p->p.dst=some d->d∈o.looksAt ops->∃ e∈o.after,e.on=j/\Region.binds .any e=true
theorem Apv {α:Type} (p q:α->Bool) (l:List α) (h:∀ x∈l,q x=true->p x=true) {x:α} (hx:x∈l) (hp:p x=true) (hq:q x=false):l.countP q<l.countP p:=by
 induction l with
 | nil=>cases hx
 | cons y l ih =>
  simp only[List.countP_cons]
  rcases yB.1 hx with rfl|hx'
  ·have hle:l.countP q<=l.countP p:=List.countP_mono_left (λz hz=>h z (yH _ hz))
   simp only[hp,hq,if_true]
   simp
   omega
  ·have:=ih (λz hz=>h z (yH _ hz)) hx'
   have hy:=h y (yQ ..)
   by_cases a:q y=true
   ·simp only[a,hy a,if_true];omega
   ·by_cases b:p y=true
    ·simp only[a,b,if_true];simp;omega
    ·simp only[a,b];simp;omega
section
variable {P:Program} {c:Ctx} {t:Nat->AV} {m:List Blk} {Q:Exit->AS->Prop}
open Classical in
noncomputable def TL (ops:Array Oper) (T:Nat->AV) (listed:Array Bool):Nat->AV:=λx=>if ∃ (i:Nat) (o:Oper),ops[i]? = some o/\o.dst=some x/\listed.getD i true=false then .top else T x
variable {ops:Array Oper} {k:(Nat->AV)->Prop} {rest:List Oper} {op:Op} {ty:TypeId} {pos:String} {af:Array Edge} {d:Tmp} {x:AV}
theorem Awg (h:k t):DR P c m ops k [] t:=h
theorem dv (hd:decide (d<c.nt)=true) (h:OpV P c ⟨Ob t (Oper.looksAt ops ⟨some d,op,ty,pos,af,none⟩),m⟩ op ty x) (kk:DR P c m ops k rest (upd t d x)):DR P c m ops k (⟨some d,op,ty,pos,af,none⟩::rest) t :=
 ⟨x,d,rfl,of_decide_eq_true hd,.inl ⟨.inl rfl,h.opD⟩,kk⟩
theorem dvg (hd:decide (d<c.nt)=true) (hj:(ops[j]?).bind (·.dst)=some dj) (ht:t dj=.s (.one (.b want))) (h:OpV P c ⟨Ob t (Oper.looksAt ops ⟨some d,op,ty,pos,af,some (j,want)⟩),m⟩ op ty x) (kk:DR P c m ops k rest (upd t d x)):DR P c m ops k (⟨some d,op,ty,pos,af,some (j,want)⟩::rest) t :=
 ⟨x,d,rfl,of_decide_eq_true hd,.inl ⟨.inr ⟨j,want,dj,rfl,hj,ht⟩,h.opD⟩,kk⟩
theorem dd (hd:decide (d<c.nt)=true) (h:OpD P c ⟨Ob t (Oper.looksAt ops ⟨some d,op,ty,pos,af,none⟩),m⟩ op ty x) (kk:DR P c m ops k rest (upd t d x)):DR P c m ops k (⟨some d,op,ty,pos,af,none⟩::rest) t :=
 ⟨x,d,rfl,of_decide_eq_true hd,.inl ⟨.inl rfl,h⟩,kk⟩
theorem ddg (hd:decide (d<c.nt)=true) (hj:(ops[j]?).bind (·.dst)=some dj) (ht:t dj=.s (.one (.b want))) (h:OpD P c ⟨Ob t (Oper.looksAt ops ⟨some d,op,ty,pos,af,some (j,want)⟩),m⟩ op ty x) (kk:DR P c m ops k rest (upd t d x)):DR P c m ops k (⟨some d,op,ty,pos,af,some (j,want)⟩::rest) t :=
 ⟨x,d,rfl,of_decide_eq_true hd,.inl ⟨.inr ⟨j,want,dj,rfl,hj,ht⟩,h⟩,kk⟩
theorem Vw (hd:decide (d<c.nt)=true) (hj:(ops[j]?).bind (·.dst)=some dj) (ht:t dj=.s (.one (.b b))) (hb:(b==want)=false) (kk:DR P c m ops k rest (upd t d (.tup []))):DR P c m ops k (⟨some d,op,ty,pos,af,some (j,want)⟩::rest) t :=
 ⟨.tup [],d,rfl,of_decide_eq_true hd,.inr ⟨⟨j,want,dj,rfl,hj,.inr ⟨b,ht,hb⟩⟩,rfl⟩,kk⟩
theorem Ba4 (hd:decide (d<c.nt)=true) (hj:(ops[j]?).bind (·.dst)=some dj) (ht:t dj=.tup []) (kk:DR P c m ops k rest (upd t d (.tup []))):DR P c m ops k (⟨some d,op,ty,pos,af,some (j,want)⟩::rest) t :=
 ⟨.tup [],d,rfl,of_decide_eq_true hd,.inr ⟨⟨j,want,dj,rfl,hj,.inl ht⟩,rfl⟩,kk⟩
theorem Ali {l:List Oper} (dj:Tmp) (ht:t dj=.s (.one (.b b))) (k1:b=true->DR P c m ops k l (upd t dj (.s (.one (.b true))))) (k0:b=false->DR P c m ops k l (upd t dj (.s (.one (.b false))))):DR P c m ops k l t:=by
 cases b
 ·have:=k0 rfl;rwa [Sj ht] at this
 ·have:=k1 rfl;rwa [Sj ht] at this
end
end
open Go.RowKit
theorem wrap_i64 {x:Int} (h1:-9223372036854775808<=x) (h2:x<=9223372036854775807):IntKind.i64.wrap x=x:=by
 show(if (true&&decide (x % 18446744073709551616≥9223372036854775808))=true then x % 18446744073709551616-18446744073709551616 else x % 18446744073709551616)=x
 simp only[wG,ge_iff_le,decide_eq_true_eq]
 by_cases h:0<=x
 ·rw[if_neg (by omega)];omega
 ·rw[if_pos (by omega)];omega
section
variable {P:Program} {c:Ctx} {st:AS} {k k2:IntKind} {n m:Int} {x y:Operand} {xt yt ty:TypeId}
theorem A1z (hx:Bg st x=.s (.one (.i k n))) (hy:Bg st y=.s (.one (.i k2 m))) (h0:0<=m):OpV P c st (.binOp .shl xt x y yt) ty (.s (.one (.i k (k.wrap (n*2 ^ (min m.toNat k.bits)))))) :=
 Hq (u:=.int k n) (u':=.int k2 m) (z:=.int k (k.wrap (n*2 ^ (min m.toNat k.bits)))) hx hy rfl rfl (λw=>by
  simp [eqGuard,binOp,Op.shift,show ¬ m<0 by omega]) rfl rfl
theorem A25 (hx:Bg st x=.s (.one (.i k n))) (hy:Bg st y=.s (.one (.i k2 m))) (h0:0<=m):OpV P c st (.binOp .shr xt x y yt) ty (.s (.one (.i k (n.fdiv (2 ^ (min m.toNat k.bits)))))) :=
 Hq (u:=.int k n) (u':=.int k2 m) (z:=.int k (n.fdiv (2 ^ (min m.toNat k.bits)))) hx hy rfl rfl (λw=>by
  simp [eqGuard,binOp,Op.shift,show ¬ m<0 by omega]) rfl rfl
theorem A03 (hx:Bg st x=.s (.one (.i k n))) (hy:Bg st y=.s (.one (.i k m))):OpV P c st (.binOp .and xt x y yt) ty (.s (.one (.i k (k.wrap ((BitVec.ofInt k.bits n &&& BitVec.ofInt k.bits m).toNat:Int))))) :=
 Hq (u:=.int k n) (u':=.int k m) (z:=.int k (k.wrap ((BitVec.ofInt k.bits n &&& BitVec.ofInt k.bits m).toNat:Int))) hx hy rfl rfl (λw=>by
  simp [eqGuard,binOp,Op.intBits]) rfl rfl
theorem A6y (hx:Bg st x=.s (.one (.i k n))) (hy:Bg st y=.s (.one (.i k m))):OpV P c st (.binOp .or xt x y yt) ty (.s (.one (.i k (k.wrap ((BitVec.ofInt k.bits n ||| BitVec.ofInt k.bits m).toNat:Int))))) :=
 Hq (u:=.int k n) (u':=.int k m) (z:=.int k (k.wrap ((BitVec.ofInt k.bits n ||| BitVec.ofInt k.bits m).toNat:Int))) hx hy rfl rfl (λw=>by
  simp [eqGuard,binOp,Op.intBits]) rfl rfl
theorem A2c (hx:Bg st x=.s (.one (.i k n))) (hy:Bg st y=.s (.one (.i k m))):OpV P c st (.binOp .xor xt x y yt) ty (.s (.one (.i k (k.wrap ((BitVec.ofInt k.bits n ^^^ BitVec.ofInt k.bits m).toNat:Int))))) :=
 Hq (u:=.int k n) (u':=.int k m) (z:=.int k (k.wrap ((BitVec.ofInt k.bits n ^^^ BitVec.ofInt k.bits m).toNat:Int))) hx hy rfl rfl (λw=>by
  simp [eqGuard,binOp,Op.intBits]) rfl rfl
theorem A3u (hx:Bg st x=.s (.one (.i k n))) (hy:Bg st y=.s (.one (.i k m))) (h0:m≠0):OpV P c st (.binOp .rem xt x y yt) ty (.s (.one (.i k (n.tmod m)))) :=
 Hq (u:=.int k n) (u':=.int k m) (z:=.int k (n.tmod m)) hx hy rfl rfl (λw=>by
  simp [eqGuard,binOp,Op.intDiv,h0]) rfl rfl
section un
variable {a b:BitVec k.bits}
end un
theorem Axh {xt yt:TypeId} {p q:ByteArray} (hx:Bg st x=.s (.one (.s p))) (hy:Bg st y=.s (.one (.s q))):OpV P c st (.binOp .eql xt x y yt) ty (.s (.one (.b (p.toList==q.toList)))) :=
 Hq (u:=.string p) (u':=.string q) (z:=.bool (p.toList==q.toList)) hx hy rfl rfl (λw=>by
  simp [eqGuard,binOp,Op.stringOp]) rfl rfl
theorem Awm {xt yt:TypeId} {p q:ByteArray} (hx:Bg st x=.s (.one (.s p))) (hy:Bg st y=.s (.one (.s q))):OpV P c st (.binOp .neq xt x y yt) ty (.s (.one (.b (!(p.toList==q.toList))))) :=
 Hq (u:=.string p) (u':=.string q) (z:=.bool (!(p.toList==q.toList))) hx hy rfl rfl (λw=>by
  simp [eqGuard,binOp,Op.stringOp]) rfl rfl
end
open Go.RowKit
section
variable {a:Addr} {Q:List Lf->Prop} {v:Value}
inductive Sh where
 | int (k:IntKind)
 | bool
 | str
 | sl (e:Sh)
 | st (r:Sh)
 | unit
 | pair (a r:Sh)
def Sh.cells:Sh->Nat
 | .st r=>r.cells
 | .unit=>0
 | .pair a r=>a.cells+r.cells
 | _=>1
def Am1:Sh->List Lf->Prop
 | .int k,ls=>∃ n,(Lit.int k n).wf=true/\ls=[.i k n]
 | .bool,ls=>∃ b,ls=[.b b]
 | .str,ls=>∃ s:ByteArray,s.size<=maxLen/\ls=[.s s]
 | .sl e,ls=>∃ rows:List (List Lf),rows.length<=maxLen/\(∀ r∈rows,Am1 e r)/\ls=[.sl rows.length rows.flatten]
 | .st r,ls=>Am1 r ls
 | .unit,ls=>ls=[]
 | .pair a r,ls=>∃ x y,Am1 a x/\Am1 r y/\ls=x++y
def okT (P:Program):Sh->TypeId ⊕ (List Field×Nat)->Bool
 | .int k,.inl t=>match P.underlying t with | some (.int k')=>k'==k | _=>false
 | .bool,.inl t=>match P.underlying t with | some .bool=>true | _=>false
 | .str,.inl t=>match P.underlying t with | some .string=>true | _=>false
 | .sl e,.inl t=>match P.underlying t with | some (.slice t')=>okT P e (.inl t')&&(P.cellsOf t'==e.cells&&decide (0<e.cells)) | _=>false
 | .st r,.inl t=>match P.underlying t with | some (.struct fs)=>okT P r (.inr (fs.toList,0))&&P.cellsOf t==r.cells | _=>false
 | .unit,.inr ([],_)=>true
 | .pair a r,.inr (f::fs,off)=>f.offset==off&&(P.cellsOf f.type==a.cells&&(okT P a (.inl f.type)&&okT P r (.inr (fs,off+a.cells))))
 | _,_=>false
theorem Ara {α:Type} {f:Nat->Option α}:∀ {n:Nat} {ys:List α},(List.range n).mapM f=some ys->ys.length=n/\∀ i,i<n->f i=ys[i]? := by
 intro n
 induction n with
 | zero=>intro ys h;simp at h;subst h;exact⟨rfl,λi hi=>absurd hi (zW i)⟩
 | succ n ih =>
  intro ys h
  rw[List.range_succ,List.mapM_append] at h
  simp only[List.mapM_cons,List.mapM_nil,Option.pure_def,Option.bind_eq_bind] at h
  cases h1:(List.range n).mapM f with
  | none=>rw[h1] at h;simp at h
  | some xs =>
   rw[h1] at h
   cases h2:f n with
   | none=>rw[h2] at h;simp at h
   | some y =>
    rw[h2] at h
    simp at h
    subst h
    obtain⟨hl,hi⟩:=ih h1
    refine⟨by simp [hl],λi hlt=>?_⟩
    by_cases hin:i<n
    ·rw[hi i hin,zL (by omega)]
    ·have:i=n:=by omega
     subst this
     rw[h2,zX (by omega),hl];simp
theorem Atd {w:World} (h:w.cell? a=some v):a.block<w.heap.size/\a.spot=none:=by
 unfold World.cell? at h
 split at h
 ·rename_i c e f hb
  refine⟨(yC.1 hb).1,?_⟩
  cases hs:a.spot with
  | none=>rfl
  | some x=>rw[hs] at h;simp at h
 ·cases h
def Apu (w:World):Dx:=λb i=>∃ v,w.cell? ⟨b,i,none⟩=some v
theorem A2l (w:World) (h:GLR w (Apu w)):InH w (Apu w):=⟨λ_ _ ⟨_,h⟩=>(Atd h).1,h,λg i ⟨v,h⟩ hc=>by rw[h] at hc;cases hc⟩
section
variable {H:Type} {enc:TypeId×Value->H} {P:Program} {w:World} {spare:Nat->Bool} {held:Bool} {base:Nat}
theorem Amn {n:Nat} {ys:List Value} (h:w.cells? base a n=some ys):ys.length=n/\∀ i,i<n->w.cell? (a.add i)=ys[i]? := by
 unfold World.cells? at h
 split at h
 ·exact Ara h
 ·cases h
theorem Ahd {bk off sz:Nat}:∀ (n:Nat),(∀ i,i<n->∃ r:List Lf,Q r/\r.length=sz/\∀ j l,r[j]? = some l->∃ v,w.cell? ⟨bk,off+(i*sz+j),none⟩=some v/\Rep w (Apu w) l v) ->
  ∃ rows:List (List Lf),rows.length=n/\(∀ r∈rows,Q r)/\rows.flatten.length=n*sz/\∀ j l,rows.flatten[j]? = some l->∃ v,w.cell? ⟨bk,off+j,none⟩=some v/\Rep w (Apu w) l v
 | 0,_=>⟨[],rfl,λr h=>by simp at h,by simp,λj l h=>by simp at h⟩
 | n+1,h=>by
  obtain⟨rows,h1,h2,h3,h4⟩:=Ahd n (λi hi=>h i (Nat.lt_succ_of_lt hi))
  obtain⟨r,q1,q2,q3⟩:=h n (xR n)
  refine⟨rows++[r],by simp [h1],λx hx=>?_,?_,λj l hj=>?_⟩
  ·rcases yG.1 hx with hx|hx
   ·exact h2 x hx
   ·simp at hx;subst hx;exact q1
  ·rw[xX,zI,h3];simp [q2,kS]
  ·rw[xX] at hj
   by_cases hlt:j<n*sz
   ·rw[zL (by omega)] at hj
    exact h4 j l hj
   ·rw[zX (by omega),h3] at hj
    simp at hj
    obtain⟨v,e1,e2⟩:=q3 (j-n*sz) l hj
    exact⟨v,by rw[<- e1];congr 2;omega,e2⟩
theorem A59 (sh:Sh) :
  (∀ (t:TypeId) (fuel:Nat) (cs:List Value) (x:DataW H×List MemPlace),okT P sh (.inl t)=true->DataW.trod enc P w base spare held fuel t cs=some x ->
   ∃ ls,Am1 sh ls/\ls.length=sh.cells/\LsR (Rep w (Apu w)) ls cs) /\
  (∀ (fs:List Field) (off fuel:Nat) (cs:List Value),okT P sh (.inr (fs,off))=true->off+sh.cells=cs.length ->
   (∀ f∈fs,∃ x,DataW.trod enc P w base spare held fuel f.type ((cs.drop f.offset).take (P.cellsOf f.type))=some x) ->
   ∃ ls,Am1 sh ls/\ls.length=sh.cells/\LsR (Rep w (Apu w)) ls (cs.drop off)):=by
 have lsone:∀ {l:Lf} {v:Value},Rep w (Apu w) l v->LsR (Rep w (Apu w)) [l] [v]:=λ{l v} h=>⟨rfl,λj a b h1 h2=>by
  cases j with
  | zero=>simp at h1 h2;subst h1;subst h2;exact h
  | succ j=>simp at h1⟩
 induction sh with
 | int k =>
  refine⟨λt fuel cs x ht h=>?_,λfs off fuel cs ht=>by simp [okT] at ht⟩
  simp only[okT] at ht
  split at ht
  ·rename_i k' hu
   have hk:k'=k:=by simpa using ht
   subst hk
   obtain⟨n,hcs,hx,hw⟩:=DataW.trod_int hu h
   subst hcs
   exact⟨_,⟨n,hw,rfl⟩,rfl,lsone (.i _ _)⟩
  ·cases ht
 | bool =>
  refine⟨λt fuel cs x ht h=>?_,λfs off fuel cs ht=>by simp [okT] at ht⟩
  simp only[okT] at ht
  split at ht
  ·rename_i hu
   obtain⟨b,hcs,_⟩:=DataW.trod_bool hu h
   subst hcs
   exact⟨_,⟨b,rfl⟩,rfl,lsone (.b _)⟩
  ·cases ht
 | str =>
  refine⟨λt fuel cs x ht h=>?_,λfs off fuel cs ht=>by simp [okT] at ht⟩
  simp only[okT] at ht
  split at ht
  ·rename_i hu
   obtain⟨b,hcs,_,hs⟩:=DataW.trod_string hu h
   subst hcs
   exact⟨_,⟨b,hs,rfl⟩,rfl,lsone (.s _)⟩
  ·cases ht
 | sl e ih =>
  refine⟨λt fuel cs x ht h=>?_,λfs off fuel cs ht=>by simp [okT] at ht⟩
  simp only[okT] at ht
  split at ht
  ·rename_i t' hu
   simp only[zG,beq_iff_eq,decide_eq_true_eq] at ht
   obtain⟨hok,hcell,hpos⟩:=ht
   rcases DataW.trod_slice hu h with⟨hcs,_⟩|⟨a,len,cap,elems,rest,fuel,rfl,hcs,_,_,hlc,hcm,hl,hi,_⟩
   ·subst hcs
    exact⟨[.sl 0 []],⟨[],by simp,λr hr=>by simp at hr,rfl⟩,rfl,lsone (.sl0 _ _)⟩
   ·subst hcs
    by_cases h0:len=0
    ·subst h0
     exact⟨[.sl 0 []],⟨[],by simp,λr hr=>by simp at hr,rfl⟩,rfl,lsone (.sl0 _ _)⟩
    ·have helem:∀ i,i<len->∃ ys,w.cells? base (a.add (i*P.cellsOf t')) (P.cellsOf t')=some ys/\∃ x,DataW.trod enc P w base spare held fuel t' ys=some x:=by
      intro i hlt
      have hx:=hi i hlt
      have:elems[i]? = some (elems[i]'(by omega)):=zC _
      rw[this] at hx
      cases hc:w.cells? base (a.add (i*P.cellsOf t')) (P.cellsOf t') with
      | none=>rw[hc] at hx;simp at hx
      | some ys=>rw[hc] at hx;exact⟨ys,rfl,_,hx⟩
     have hspot:a.spot=none:=by
      obtain⟨ys,hc,_⟩:=helem 0 (by omega)
      obtain⟨hyl,hyc⟩:=Amn hc
      have hy:=hyc 0 (by omega)
      rw[zC (by omega)] at hy
      have:=(Atd hy).2
      simpa [Addr.add] using this
     have hadd:∀ n m,(a.add n).add m=⟨a.block,a.off+(n+m),none⟩:=by
      intro n m
      obtain⟨ab,ao,asp⟩:=a
      simp only at hspot
      subst hspot
      unfold Addr.add
      by_cases hn:n=0 <;> by_cases hm:m=0 <;> simp [hn,hm] <;> omega
     obtain⟨rows,r1,r2,r3,r4⟩:=Ahd (w:=w) (bk:=a.block) (off:=a.off) (sz:=e.cells) (Q:=Am1 e) len (λi hlt=>by
      obtain⟨ys,hc,x,hx⟩:=helem i hlt
      obtain⟨ls,f1,f2,f3⟩:=ih.1 t' fuel ys x hok hx
      obtain⟨hyl,hyc⟩:=Amn hc
      refine⟨ls,f1,f2,λj l hj=>?_⟩
      obtain⟨v,hv,hr⟩:=f3.get hj
      have hjl:j<ys.length:=(zB.1 hv).1
      have:=hyc j (by omega)
      rw[hadd,hv,hcell] at this
      exact⟨v,this,hr⟩)
     refine⟨[.sl rows.length rows.flatten],⟨rows,by omega,r2,rfl⟩,rfl,lsone ?_⟩
     have ea:a=⟨a.block,a.off,none⟩:=by
      obtain⟨ab,ao,asp⟩:=a
      simp only at hspot
      subst hspot
      rfl
     rw[ea,r1]
     refine Rep.sl len rows.flatten a.block a.off cap (λj=>(w.cell? ⟨a.block,a.off+j,none⟩).getD undef) hlc hcm (λj l hj=>?_) (λj l hj=>?_)
     ·obtain⟨v,hv,_⟩:=r4 j l hj
      exact⟨⟨_,hv⟩,by rw[hv];rfl⟩
     ·obtain⟨v,hv,hr⟩:=r4 j l hj
      show Rep w (Apu w) l ((w.cell? ⟨a.block,a.off+j,none⟩).getD undef)
      rw[hv];exact hr
  ·cases ht
 | st r ih =>
  refine⟨λt fuel cs x ht h=>?_,λfs off fuel cs ht=>by simp [okT] at ht⟩
  simp only[okT] at ht
  split at ht
  ·rename_i fs hu
   simp only[zG,beq_iff_eq] at ht
   obtain⟨xs,n,rfl,_,hlen,hxl,hi⟩:=DataW.trod_struct hu h
   obtain⟨ls,f1,f2,f3⟩:=ih.2 fs.toList 0 n cs ht.1 (by omega) (λf hf=>by
    obtain⟨i,hlt,rfl⟩:=List.mem_iff_getElem.1 hf
    have:=hi i fs[i] (by simp)
    simp only[jM] at this ⊢
    rw[this]
    exact⟨xs[i]'(by simp at hlt;omega),zC _⟩)
   exact⟨ls,f1,f2,by simpa using f3⟩
  ·cases ht
 | unit =>
  refine⟨λt fuel cs x ht=>by simp [okT] at ht,λfs off fuel cs ht hl h=>?_⟩
  refine⟨[],rfl,rfl,?_⟩
  rw[wN (by simp only[Sh.cells] at hl;omega)]
  exact⟨rfl,λj l v h1=>by simp at h1⟩
 | pair a r iha ihr =>
  refine⟨λt fuel cs x ht=>by simp [okT] at ht,λfs off fuel cs ht hl h=>?_⟩
  cases fs with
  | nil=>simp [okT] at ht
  | cons f fs =>
   simp only[okT,zG,beq_iff_eq] at ht
   obtain⟨h1,h2,h3,h4⟩:=ht
   simp only[Sh.cells] at hl
   obtain⟨x,hx⟩:=h f (yQ ..)
   obtain⟨l1,a1,a2,a3⟩:=iha.1 f.type fuel _ x h3 hx
   obtain⟨l2,b1,b2,b3⟩:=ihr.2 fs (off+a.cells) fuel cs h4 (by omega) (λg hg=>h g (yH _ hg))
   rw[h1,h2] at a3
   refine⟨l1++l2,⟨l1,l2,a1,b1,rfl⟩,by simp [Sh.cells,a2,b2],?_⟩
   refine⟨by rw[zI,a2,b2,yF];omega,λj l v hj hv=>?_⟩
   by_cases hlt:j<l1.length
   ·rw[zL hlt] at hj
    refine a3.2 j l v hj ?_
    rw[yR,if_pos (by omega)]
    exact hv
   ·rw[zX (by omega)] at hj
    refine b3.2 (j-l1.length) l v hj ?_
    rw[<- hv,yP,yP,a2]
    congr 1
    omega
def A9b:Sh->List Lf->SV
 | .st _,ls=>.agg ls
 | _,[l]=>.one l
 | _,ls=>.agg ls
theorem Aq0 {sh:Sh} {t:TypeId} {d:DataW H} {ps:List MemPlace} {r:Reach} {b0:Nat} (ht:okT P sh (.inl t)=true) (hval:Value.okWide P w r b0 t v) (h:DataW.Trod enc P w base spare held t v d ps) :
  ∃ ls,Am1 sh ls/\SVR (Rep w (Apu w)) (A9b sh ls) v:=by
 obtain⟨fuel,h⟩:=h
 obtain⟨ls,f1,f2,f3⟩:=(A59 sh).1 t fuel _ _ ht h
 refine⟨ls,f1,?_⟩
 have one:∀ {l:Lf},ls=[l]->(∀ cs,v≠.agg cs)->SVR (Rep w (Apu w)) (.one l) v:=by
  intro l hl hne
  subst hl
  have hc:v.cells = #[v]:=by
   cases v <;> first|rfl|exact absurd rfl (hne _)
  rw[hc] at f3
  exact f3.2 0 l v rfl rfl
 cases sh with
 | int k =>
  simp only[okT] at ht
  split at ht
  ·rename_i k' hu
   obtain⟨n,rfl⟩:=WideShapes.okWide_int hu hval
   obtain⟨m,_,rfl⟩:=f1
   exact one rfl (λ_ h=>by cases h)
  ·cases ht
 | bool =>
  simp only[okT] at ht
  split at ht
  ·rename_i hu
   obtain⟨n,rfl⟩:=WideShapes.okWide_bool hu hval
   obtain⟨m,rfl⟩:=f1
   exact one rfl (λ_ h=>by cases h)
  ·cases ht
 | str =>
  simp only[okT] at ht
  split at ht
  ·rename_i hu
   obtain⟨n,rfl⟩:=WideShapes.okWide_string hu hval
   obtain⟨m,_,rfl⟩:=f1
   exact one rfl (λ_ h=>by cases h)
  ·cases ht
 | sl e =>
  simp only[okT] at ht
  split at ht
  ·rename_i t' hu
   obtain⟨a,n,c,rfl⟩:=WideShapes.okWide_slice hu hval
   obtain⟨rows,_,_,rfl⟩:=f1
   exact one rfl (λ_ h=>by cases h)
  ·cases ht
 | st r =>
  simp only[okT] at ht
  split at ht
  ·rename_i fs hu
   obtain⟨cs,rfl,_⟩:=WideShapes.okWide_struct hu hval
   exact⟨cs,rfl,f3⟩
  ·cases ht
 | unit=>simp [okT] at ht
 | pair a r=>simp [okT] at ht
end
end
open Go.RowKit
def Aie:List Sh->List SV->Prop
 | [],[]=>True
 | sh::shs,x::xs=>(∃ ls,Am1 sh ls/\x=A9b sh ls)/\Aie shs xs
 | _,_=>False
def On (P:Program):List Sh->List TypeId->Bool
 | [],[]=>true
 | sh::shs,t::ts=>okT P sh (.inl t)&&(P.readableRec t&&(decide (t<P.types.size)&&On P shs ts))
 | _,_=>false
section
variable {H:Type} {enc:TypeId×Value->H} {P:Program} {W W':World}
theorem Aou:∀ {shs:List Sh} {ts:List TypeId} {vs:List Value} {ds:List (DataW H)} {ps:List MemPlace} {base:Nat},On P shs ts=true->DataW.TrodAll enc P W 0 (λ_=>true) true ts vs ds ps ->
  (∀ (j:Nat) t v,ts[j]? = some t->vs[j]? = some v->Value.okWide P W .any base t v)->∃ xs,Aie shs xs/\Abx (Rep W (Apu W)) xs vs
 | [],[],[],[],_,_,_,_,_=>⟨[],trivial,rfl,λj x v h=>by simp at h⟩
 | [],_::_,_,_,_,_,h,_,_=>by simp [On] at h
 | _::_,[],_,_,_,_,h,_,_=>by simp [On] at h
 | sh::shs,t::ts,v::vs,d::ds,ps,base,h,hd,hv=>by
  simp only[On,zG] at h
  obtain⟨p,q,h1,h2,_⟩:=hd
  obtain⟨ls,f1,f2⟩:=Aq0 h.1 (hv 0 t v rfl rfl) h1
  obtain⟨xs,g1,g2⟩:=Aou h.2.2.2 h2 (λj t' v' e1 e2=>hv (j+1) t' v' e1 e2)
  refine⟨A9b sh ls::xs,⟨⟨ls,f1,rfl⟩,g1⟩,by simp [g2.1],λj x u e1 e2=>?_⟩
  cases j with
  | zero=>simp at e1 e2;subst e1;subst e2;exact f2
  | succ j=>exact g2.2 j x u e1 e2
theorem Akm (hl:laidOutB P=true) (hb:Below W.heap.size W W'):∀ {shs:List Sh} {ts:List TypeId} {vs:List Value} {ds:List (DataW H)} {ps:List MemPlace},On P shs ts=true->DataW.TrodAll enc P W 0 (λ_=>true) true ts vs ds ps->(∀ x∈ps,x.block<W.heap.size) ->
  DataW.TrodAll enc P W' 0 (λb=>decide (b<W.heap.size)) true ts vs ds ps
 | [],[],[],[],_,_,h,_=>h
 | [],_::_,_,_,_,h,_,_=>by simp [On] at h
 | _::_,[],_,_,_,h,_,_=>by simp [On] at h
 | sh::shs,t::ts,v::vs,d::ds,ps,h,hd,hlt=>by
  simp only[On,zG,decide_eq_true_eq] at h
  obtain⟨p,q,h1,h2,rfl⟩:=hd
  exact⟨p,q,Below.trod hl h.2.1 h.2.2.1 h1 hb (λx hx=>hlt x (wM _ hx)),Akm hl hb h.2.2.2 h2 (λx hx=>hlt x (w4 _ hx)),rfl⟩
theorem law_contract {f:FuncId} {fn:Func} {s:ChangeSpec} {apart fresh handsOn:Bool} {tb:TypeId} (hl:laidOutB P=true) (shs:List Sh) (hp:On P shs fn.params.toList=true) (hres:fn.resultTypes = #[tb]) (htb:P.underlying tb=some .bool)
  (hvars:s.vars=[]) (hs:∀ ds:List (DataW H),ds.length=fn.params.toList.length->s.fn H ds={ results:=[.lit (.bool true)],args:=ds })
  (hf:∀ xs,Aie shs xs->Bc P f xs (·=.s (.one (.b true)))) (hG:GLR W (Apu W))
  (base:Nat) (args:Array Value) (ds gs:List (DataW H)) (before:List MemPlace)
  (hval:∀ (j:Nat) t v,fn.params[j]? = some t->args[j]? = some v->Value.okWide P W .any base t v) (hW:DataW.Whole enc P fn.params.toList s.vars apart W args.toList ds gs before) :
  Calls P f args W λe W'=>∃ v,e=.returned v/\s.post enc P fn apart fresh handsOn false W args v W':=by
 have hlt:=hW.lt
 have hW':=hW
 obtain⟨p,q,hA,hV,hpq,_,_⟩:=hW'
 obtain⟨xs,h1,h2⟩:=Aou hp hA (λj t v e1 e2=>hval j t v (by simpa using e1) (by simpa using e2))
 refine(hf xs h1 W (Apu W) args (A2l W hG) h2).mono ?_
 rintro e W' ⟨v,x,S',rfl,rfl,hext,_,hv⟩
 have hv:v=.bool true:=Aai hv
 subst hv
 have hlen:ds.length=fn.params.toList.length:=by
  have:∀ {ts:List TypeId} {vs:List Value} {ds:List (DataW H)} {ps:List MemPlace},DataW.TrodAll enc P W 0 (λ_=>true) true ts vs ds ps->ds.length=ts.length:=by
   intro ts
   induction ts with
   | nil=>intro vs ds ps h;cases vs <;> cases ds <;> simp_all [DataW.TrodAll]
   | cons t ts ih =>
    intro vs ds ps h
    cases vs <;> cases ds <;> simp only[DataW.TrodAll] at h
    obtain⟨p,q,_,h2,_⟩:=h
    simp [ih h2]
  exact this hA
 rw[hvars] at hV
 have hgs:gs=[]/\q=[]:=by
  cases gs with
  | nil=>exact⟨rfl,hV⟩
  | cons g gs=>exact hV.elim
 obtain⟨rfl,rfl⟩:=hgs
 refine⟨_,rfl,ds,[],before,[],p,[],hW,?_,?_,?_,hext.below.frame _,λh=>by cases h⟩
 ·rw[xC,hs ds hlen,hres]
  exact⟨[],[],⟨1,by simp [DataW.trod,Value.cells,htb]⟩,rfl,rfl⟩
 ·rw[xC,hs ds hlen]
  exact Akm hl hext.below hp hA (λx hx=>hlt x (by rw[hpq];exact wM _ hx))
 ·rw[xC,hs ds hlen,hvars]
  rfl
end
open Go.RowKit
section
variable {listed:Array Bool} {HI:Array Bool->(Nat->Value)->Prop} {B:Array Bool->List Blk} {ops:Array Oper} {l:Lf} {i:Nat} {T t:Nat->AV} {H:Nat->Value} {o:Oper} {S:Dx} {v:Value} {w:World}
structure Ba1 (ops:Array Oper) (i0:Nat):Prop where
 dst:∀ (i:Nat) (o:Oper),ops[i]? = some o->i≠i0->∃ d,o.dst=some d
 lt:∀ (i:Nat) (o:Oper),ops[i]? = some o->∀ e∈o.after,Region.binds .any e=true->e.on<i
 ne:∀ (i:Nat) (o:Oper) (j:Nat) (p:Oper),ops[i]? = some o->ops[j]? = some p->i≠j->o.dst≠p.dst
 ed:∀ (i:Nat) (o:Oper) (j:Nat) (p:Oper) (d:Tmp),ops[i]? = some o->ops[j]? = some p->p.dst=some d->d∈o.looksAt ops->∃ e∈o.after,e.on=j/\Region.binds .any e=true
structure Zw (ops:Array Oper):Prop where
 lt:∀ (i:Nat) (o:Oper),ops[i]? = some o->∀ e∈o.after,Region.binds .any e=true->e.on<i
 ne:∀ (i:Nat) (o:Oper) (j:Nat) (p:Oper),ops[i]? = some o->ops[j]? = some p->i≠j->∀ d,o.dst=some d->p.dst≠some d
 ed:∀ (i:Nat) (o:Oper) (j:Nat) (p:Oper) (d:Tmp),ops[i]? = some o->ops[j]? = some p->p.dst=some d->d∈o.looksAt ops->∃ e∈o.after,e.on=j/\Region.binds .any e=true
structure Al6 (md M:List Blk):Prop where
 len:md.length=M.length
 at_:∀ (p:Nat) (b:Blk),md[p]? = some b->b=.dead\/M[p]? = some b
 arr:∀ (p:Nat) (e sz k:Nat) (cs:List Lf),M[p]? = some (.arr e sz k cs)->md[p]? = some (.arr e sz k cs)
theorem Al6.up {md M:List Blk} (h:Al6 md M) (g:Bf w S md H l v):Bf w S M H l v :=
 Bf.mono (λ_ _ hs=>⟨hs,rfl⟩) (kF h.len) (λ_ _=>rfl) (λp e sz k cs _ hm=>⟨k,cs,h.arr p e sz k cs hm,rfl⟩) g
theorem Al6.down {md M:List Blk} (h:Al6 md M) (g:Bf w S M H l v):Bf w S md H l v:=by
 refine Bf.mono (λ_ _ hs=>⟨hs,rfl⟩) (kF h.len.symm) (λ_ _=>rfl) (λp e sz k cs _ hm=>⟨k,cs,?_,rfl⟩) g
 rcases h.at_ p _ hm with h|h
 ·cases h
 ·exact h
theorem Rel.down {c:Ctx} {md M:List Blk} {a:Act} (h:Al6 md M) (r:Rel c ⟨t,M⟩ a w S H):Rel c ⟨t,md⟩ a w S H:=by
 refine⟨r.nt,r.df,λi=>AVR.mono (λl v=>h.down) (r.tm i),λp b hb=>?_,λp b g hb ho=>?_,λp q b b' g hb hb' ho ho'=>?_,λp b g i hb ho hs=>?_,r.sl,r.ex,(by have:=r.kl;have:=h.len;simp only at *;omega),r.kh,λp e sz k cs hp hm=>?_,r.ku⟩
 ·rcases h.at_ p b hb with rfl|hb'
  ·trivial
  ·have:=r.bl p b hb'
   cases b with
   | dead=>trivial
   | hole=>exact this
   | obj g mk cs=>exact this
   | tab mk cs=>exact this
   | arn e sz g n cap cs =>
    obtain⟨h1,cur,h2,h3,h4⟩:=this
    exact⟨h1,cur,h2,h3,h4.mono (λl v=>h.down)⟩
   | box cs =>
    obtain⟨g,e,cur,h1,h2,h3⟩:=this
    exact⟨g,e,cur,h1,h2,h3.mono (λl v=>h.down)⟩
   | arr e sz k cs=>exact this
 ·rcases h.at_ p b hb with rfl|hb'
  ·cases ho
  ·exact r.lo p b g hb' ho
 ·rcases h.at_ p b hb with rfl|hb1
  ·cases ho
  ·rcases h.at_ q b' hb' with rfl|hb2
   ·cases ho'
   ·exact r.inj p q b b' g hb1 hb2 ho ho'
 ·rcases h.at_ p b hb with rfl|hb'
  ·cases ho
  ·exact r.sb p b g i hb' ho hs
 ·rcases h.at_ p _ hm with h|h
  ·cases h
  ·exact r.kr p e sz k cs hp h
section
variable {P:Program} {c:Ctx} {t:Nat->AV} {m:List Blk} {Q:Exit->AS->Prop}
theorem Asy (hok:Zw ops) {d:Tmp} (hsz:listed.size=ops.size) (hget:ops[i]? = some o) (hun':listed.getD i true=false) (hd:o.dst=some d) :
  upd (TL ops T listed) d (T d)=TL ops T (listed.setIfInBounds i true):=by
 have hio:i<ops.size:=(yC.1 hget).1
 funext x
 rw[Et]
 by_cases hx:x=d
 ·subst hx
  rw[if_pos rfl]
  unfold TL
  rw[if_neg]
  rintro⟨j,p,hj,hpd,hl⟩
  by_cases hij:i=j
  ·subst hij
   simp only[zH,wB (by omega:i<listed.size),yS] at hl
   cases hl
  ·exact hok.ne i o j p hget hj hij _ hd hpd
 ·rw[if_neg hx]
  unfold TL
  by_cases hex:∃ (j:Nat) (p:Oper),ops[j]? = some p/\p.dst=some x/\listed.getD j true=false
  ·rw[if_pos hex]
   obtain⟨j,p,hj,hpd,hl⟩:=hex
   rw[if_pos]
   refine⟨j,p,hj,hpd,?_⟩
   have hij:i≠j:=by
    intro e;subst e
    rw[hget] at hj
    cases hj
    rw[hd] at hpd
    cases hpd
    exact hx rfl
   simp only[zH,xL hij]
   simpa [zH] using hl
  ·rw[if_neg hex,if_neg]
   rintro⟨j,p,hj,hpd,hl⟩
   refine hex ⟨j,p,hj,hpd,?_⟩
   by_cases hij:i=j
   ·subst hij;exact hun'
   ·simp only[zH,xL hij] at hl
    simpa [zH] using hl
theorem Agb (hget:ops[i]? = some o) (hd:o.dst=none) :
  TL ops T listed=TL ops T (listed.setIfInBounds i true):=by
 funext x
 unfold TL
 have:(∃ (j:Nat) (p:Oper),ops[j]? = some p/\p.dst=some x/\listed.getD j true=false)↔(∃ (j:Nat) (p:Oper),ops[j]? = some p/\p.dst=some x/\(listed.setIfInBounds i true).getD j true=false):=by
  constructor
  ·rintro⟨j,p,hj,hp,hl⟩
   have hij:i≠j:=by intro e;subst e;rw[hget] at hj;cases hj;rw[hd] at hp;cases hp
   exact⟨j,p,hj,hp,by simp only[zH,xL hij];simpa [zH] using hl⟩
  ·rintro⟨j,p,hj,hp,hl⟩
   have hij:i≠j:=by intro e;subst e;rw[hget] at hj;cases hj;rw[hd] at hp;cases hp
   exact⟨j,p,hj,hp,by simp only[zH,xL hij] at hl;simpa [zH] using hl⟩
 by_cases h:∃ (j:Nat) (p:Oper),ops[j]? = some p/\p.dst=some x/\listed.getD j true=false
 ·rw[if_pos h,if_pos (this.1 h)]
 ·rw[if_neg h,if_neg (λh'=>h (this.2 h'))]
def Met (listed:Array Bool) (o:Oper):Prop:=∀ e∈o.after,Region.binds .any e=true->listed.getD e.on false=true
theorem Am8 (hok:Zw ops) (hsz:listed.size=ops.size) (hget:ops[i]? = some o) (hmet:Met listed o):∀ y∈o.looksAt ops,TL ops T listed y=T y:=by
 intro y hy
 unfold TL
 rw[if_neg]
 rintro⟨j,p,hj,hpd,hl⟩
 obtain⟨e,he,heo,hbind⟩:=hok.ed i o j p y hget hj hpd hy
 have h1:=hmet e he hbind
 rw[heo] at h1
 have hjl:j<ops.size:=(yC.1 hj).1
 simp only[zH] at h1 hl
 rw[z9 (by omega)] at h1 hl
 simp only[yS] at h1 hl
 rw[h1] at hl
 cases hl
def A7i (P:Program) (c:Ctx) (ops:Array Oper) (T:Nat->AV) (B:Array Bool->List Blk) (HI:Array Bool->(Nat->Value)->Prop) (i:Nat) (o:Oper):Prop :=
 Awf ops T o/\∀ listed:Array Bool,listed.size=ops.size->listed.getD i true=false->Met listed o->∀ a w S H,Rel c ⟨TL ops T listed,B listed⟩ a w S H->HI listed H->∀ (K:Act->World->Prop) (Q:Exit->Act->World->Prop),
  (∀ a' w' S' H',Rel c ⟨TL ops T (listed.setIfInBounds i true),B (listed.setIfInBounds i true)⟩ a' w' S' H'->HI (listed.setIfInBounds i true) H'->K a' w')->Oper.wp P o a w K Q
def Azr (P:Program) (c:Ctx) (ops:Array Oper) (T:Nat->AV) (B:Array Bool->List Blk) (HI:Array Bool->(Nat->Value)->Prop) (i:Nat) (o:Oper):Prop :=
 ∀ (listed:Array Bool) (H:Nat->Value),listed.size=ops.size->listed.getD i true=false->Met listed o->HI listed H ->
  ∃ md,(∃ d,o.dst=some d/\d<c.nt/\Aah P c md ops T o (T d))/\Al6 md (B listed)/\B (listed.setIfInBounds i true)=B listed/\HI (listed.setIfInBounds i true) H
theorem Axk (hok:Zw ops) (hT:∀ (i:Nat) (o:Oper),ops[i]? = some o->Azr P c ops T B HI i o\/A7i P c ops T B HI i o)
  (hQ:∀ listed:Array Bool,listed.size=ops.size->(∀ i,i<ops.size->listed.getD i true=true)->Q .normal ⟨T,B listed⟩) :
  ∀ (fuel:Nat) (listed:Array Bool) (a:Act) (w:World) (S:Dx) (H:Nat->Value),listed.size=ops.size->(List.range ops.size).countP (λi=>!listed.getD i true)<=fuel ->
   Rel c ⟨TL ops T listed,B listed⟩ a w S H->HI listed H->wpAny P .any ops (QR c Q) fuel listed a w:=by
 have done:∀ (listed:Array Bool) (a:Act) (w:World) (S:Dx) (H:Nat->Value),listed.size=ops.size->Region.ready .any ops listed=[]->Rel c ⟨TL ops T listed,B listed⟩ a w S H->QR c Q .normal a w:=by
  intro listed a w S H hsz hr r
  have hall:∀ n i,i<n->i<ops.size->listed.getD i true=true:=by
   intro n
   induction n with
   | zero=>intro i h;omega
   | succ n ih =>
    intro i hi hio
    by_cases hb:listed.getD i true=true
    ·exact hb
    ·exfalso
     have hmem:i∈Region.ready .any ops listed:=by
      unfold Region.ready
      refine yO.2 ⟨w6.2 hio,?_⟩
      have hlt:=hok.lt i ops[i] (z9 hio)
      have hb':listed.getD i true=false:=by simpa using hb
      simp only[hb',wT,wG,z9 hio,xM,yS]
      rw[w9]
      intro e he
      cases hbind:Region.binds .any e with
      | false=>rfl
      | true =>
      have hel:=hlt e he hbind
      have h1:=ih e.on (by omega) (by omega)
      have h2:listed.getD e.on false=true:=by
       simp only[zH] at h1 ⊢
       rw[z9 (by omega)] at h1 ⊢
       exact h1
      simp [h2]
     rw[hr] at hmem
     cases hmem
  have hTL:TL ops T listed=T:=by
   funext x
   unfold TL
   rw[if_neg]
   rintro⟨i,o,hi,_,hl⟩
   have:=hall (i+1) i (by omega) (yC.1 hi).1
   rw[this] at hl
   cases hl
  rw[hTL] at r
  exact⟨_,S,H,r,hQ listed hsz (λi hi=>hall (i+1) i (by omega) hi)⟩
 intro fuel
 induction fuel with
 | zero =>
  intro listed a w S H hsz hc r hi0
  have hr:Region.ready .any ops listed=[]:=by
   unfold Region.ready
   rw[j5]
   intro i hi hb
   simp only[zG] at hb
   have:0<(List.range ops.size).countP (λi=>!listed.getD i true):=List.countP_pos_iff.2 ⟨i,hi,hb.1⟩
   omega
  exact⟨hr,done listed a w S H hsz hr r⟩
 | succ fuel ih =>
  intro listed a w S H hsz hc r hi0
  refine⟨λhr=>done listed a w S H hsz hr r,λi hi=>?_⟩
  unfold Region.ready at hi
  rw[yO] at hi
  obtain⟨hi1,hi2⟩:=hi
  have hio:i<ops.size:=w6.1 hi1
  have hget:ops[i]? = some ops[i]:=z9 hio
  simp only[zG,hget,xM,yS] at hi2
  obtain⟨hun,haf⟩:=hi2
  have hun':listed.getD i true=false:=by simpa using hun
  generalize ho:ops[i]=o at *
  have hmet:Met listed o:=by
   intro e he hb
   rw[w9] at haf
   have h1:=haf e he
   rw[hb] at h1
   simpa using h1
  have hlook:=Am8 (T:=T) hok hsz hget hmet
  have hcnt:(List.range ops.size).countP (λj=>!(listed.setIfInBounds i true).getD j true)<=fuel:=by
   have:=Apv (λj=>!listed.getD j true) (λj=>!(listed.setIfInBounds i true).getD j true) (List.range ops.size) (λj _ hj=>by
    by_cases hij:i=j
    ·subst hij
     simp only[zH,wB (by omega:i<listed.size),yS] at hj
     cases hj
    ·simp only[zH,xL hij] at hj
     simpa [zH] using hj) hi1 hun (by simp only[zH,wB (by omega:i<listed.size),yS];rfl)
   omega
  rcases hT i o hget with hp|⟨hgn,heff⟩
  ·obtain⟨md,⟨d,hd,hdn,hgood⟩,hlift,hB,hHI⟩:=hp listed H hsz hun' hmet hi0
   have hTL':=Asy (T:=T) hok hsz hget hun' hd
   have next:∀ v w' S',Ext w S w' S'->InH w' S'->AVR (Bf w' S' md H) (T d) v->wpAny P .any ops (QR c Q) fuel (listed.setIfInBounds i true) (a.put o.dst v) w':=by
    intro v w' S' hext hin hv
    rw[hd]
    refine ih _ _ w' S' H (by simpa using hsz) hcnt ?_ hHI
    rw[<- hTL',hB]
    exact(r.ext hext hin).put hdn (AVR.mono (λl u=>hlift.up) hv)
   have hw:wpOp P ops (QR c Q) i (wpAny P .any ops (QR c Q) fuel (listed.setIfInBounds i true)) a w:=by
    unfold wpOp
    rw[hget]
    simp only
    have hrr:Rel c ⟨Ob T (o.looksAt ops),md⟩ a w S H:=by
     refine(r.down hlift).weak (λy=>?_)
     unfold Ob
     cases hc':(o.looksAt ops).contains y with
     | false=>exact .inr rfl
     | true=>exact .inl (hlook y (by simpa using hc')).symm
    rcases hgood with⟨hg,hop⟩|⟨hg,hx⟩
    ·have hwant:Region.wanted o (yielded ops a.tmps)=true:=by
      rcases hg with hg|⟨j,want,dj,h1,h2,h3⟩
      ·simp [Region.wanted,hg]
      ·have h4:=r.tm dj
       have h5:TL ops T listed dj=.s (.one (.b want)):=by rw[hlook dj (D7 h1 h2)];exact h3
       rw[show(⟨TL ops T listed,B listed⟩:AS).t dj=.s (.one (.b want)) from h5] at h4
       have hv:a.tmps.getD dj undef=.bool want:=Aai (h4:Rep w S (.b want) (a.tmps.getD dj undef))
       have hs:a.tmps[dj]? = some (.bool want):=by
        simp only[zH] at hv
        cases hq:a.tmps[dj]? with
        | none=>rw[hq] at hv;cases hv
        | some u=>rw[hq] at hv;simp only[yS] at hv;rw[hv]
       simp only[Region.wanted,h1,yielded,h2,zA,hs,beq_self_eq_true]
     rw[if_pos hwant]
     obtain⟨odst,oop,oty,opos,oaf,og⟩:=o
     exact .inl (hop a w S H hrr odst opos oaf og _ _ (λv w' S' h1 h2 h3=>next v w' S' h1 h2 h3))
    ·have hwant:Region.wanted o (yielded ops a.tmps)=false:=by
      obtain⟨j,want,dj,h1,h2,h3⟩:=hg
      have h4:=r.tm dj
      rw[show(⟨TL ops T listed,B listed⟩:AS).t dj=T dj from hlook dj (D7 h1 h2)] at h4
      simp only[Region.wanted,h1,yielded,h2,zA]
      rcases h3 with h3|⟨b,h3,hb⟩
      ·rw[h3] at h4
       obtain⟨vs,hv,_⟩:=h4
       simp only[zH] at hv
       cases hq:a.tmps[dj]? with
       | none=>rfl
       | some u=>rw[hq] at hv;simp only[yS] at hv;subst hv;rfl
      ·rw[h3] at h4
       have hv:a.tmps.getD dj undef=.bool b:=Aai (h4:Rep w S (.b b) (a.tmps.getD dj undef))
       simp only[zH] at hv
       cases hq:a.tmps[dj]? with
       | none=>rfl
       | some u =>
        rw[hq] at hv;simp only[yS] at hv;subst hv
        cases b <;> cases want <;> first|rfl|cases hb
     rw[if_neg (by rw[hwant];simp)]
     have:=next undef w S (Ext.refl w S) r.sl (by rw[hx];exact Hn)
     exact this
   exact hw
  ·unfold wpOp
   rw[hget]
   simp only
   have hwant:Region.wanted o (yielded ops a.tmps)=true:=by
    rcases hgn with hg|⟨j,want,dj,h1,h2,h3⟩
    ·simp [Region.wanted,hg]
    ·have h4:=r.tm dj
     have h5:TL ops T listed dj=.s (.one (.b want)):=by rw[hlook dj (D7 h1 h2)];exact h3
     rw[show(⟨TL ops T listed,B listed⟩:AS).t dj=.s (.one (.b want)) from h5] at h4
     have hv:a.tmps.getD dj undef=.bool want:=Aai (h4:Rep w S (.b want) (a.tmps.getD dj undef))
     have hs:a.tmps[dj]? = some (.bool want):=by
      simp only[zH] at hv
      cases hq:a.tmps[dj]? with
      | none=>rw[hq] at hv;cases hv
      | some u=>rw[hq] at hv;simp only[yS] at hv;rw[hv]
     simp only[Region.wanted,h1,yielded,h2,zA,hs,beq_self_eq_true]
   rw[if_pos hwant]
   exact .inl (heff listed hsz hun' hmet a w S H r hi0 _ _ (λa' w' S' H' r' h'=>ih _ a' w' S' H' (by simpa using hsz) hcnt r' h'))
end
end
end Go.Proofs.YtkblaobhhoebaaaGreat.Abs
