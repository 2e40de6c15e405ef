/-
  A walk over abstract states: its rules, part A.
-/
import Derived.WalkKit
import Derived.Laws.CopyOwn
import Derived.Orders
import Derived.ProofKit
set_option linter.unusedVariables false
set_option linter.unusedSimpArgs false
namespace Go.Proofs.YtkblaobhhoebaaaGreat.Abs
open Go.RowKit
abbrev zA:=@Option.bind_some
abbrev zB:=@List.getElem?_eq_some_iff
abbrev zC:=@List.getElem?_eq_getElem
abbrev zD:=@Option.some.inj
abbrev zF:=@Array.getD_eq_getD_getElem?
abbrev zG:=@List.mem_of_getElem?
abbrev zH:=@List.length_append
abbrev zI:=@List.getElem?_set_self
abbrev zJ:=@Option.some.injEq
abbrev zK:=@List.getElem?_append_left
abbrev zL:=@List.all_eq_true
abbrev zM:=@List.getElem?_set_ne
abbrev zN:=@List.length_take
abbrev zO:=@Nat.le_refl
abbrev zP:=@List.mem_singleton
abbrev zQ:=@List.getElem?_map
abbrev zR:=@Array.getElem?_eq_getElem
abbrev zS:=@Bool.and_eq_true
abbrev zT:=@Int.toNat_natCast
abbrev zU:=@Nat.lt_or_ge
abbrev zV:=@List.take_succ_eq_append_getElem
abbrev zW:=@Nat.not_lt_zero
abbrev zX:=@Array.length_toList
abbrev zY:=@List.length_map
abbrev zZ:=@Nat.zero_le
abbrev z2:=@List.getElem?_append_right
abbrev z6:=@Nat.lt_of_lt_of_le
abbrev z7:=@List.eq_nil_of_length_eq_zero
abbrev z8:=@List.mem_map
abbrev yA:=@Array.getElem?_eq_some_iff
abbrev yB:=@List.length_drop
abbrev yC:=@List.mem_append
abbrev yD:=@List.length_singleton
abbrev yE:=@List.size_toArray
abbrev yF:=@List.getElem?_take
abbrev yG:=@List.mem_filter
abbrev yH:=@List.getElem?_drop
abbrev yI:=@Option.getD_some
abbrev yJ:=@List.take_length
abbrev yK:=@Nat.zero_add
abbrev yL:=@List.getElem?_eq_none
abbrev yM:=@List.mem_cons
abbrev yN:=@List.pairwise_iff_getElem
abbrev yO:=@List.take_of_length_le
abbrev yP:=@Nat.le_trans
abbrev yQ:=@List.mem_cons_of_mem
abbrev yR:=@List.mem_cons_self
abbrev yS:=@List.length_set
abbrev yT:=@List.getElem?_cons_zero
abbrev yU:=@List.getElem_of_mem
abbrev yV:=@Array.getElem?_setIfInBounds_ne
abbrev yW:=@List.flatMap_cons
abbrev yX:=@List.any_eq_true
abbrev yY:=@Array.size_append
abbrev yZ:=@Nat.mul_le_mul_right
abbrev xA:=@List.toList_toArray
abbrev xB:=@UInt8.lt_irrefl
abbrev xC:=@List.map_append
abbrev xD:=@List.length_cons
abbrev xE:=@Option.map_some
abbrev xF:=@Array.getElem?_setIfInBounds_self_of_lt
abbrev xG:=@List.append_nil
abbrev xH:=@Nat.eq_of_beq_eq_true
abbrev xI:=@List.take_append_drop
abbrev xJ:=@List.mem_iff_getElem?
abbrev xK:=@UInt8.lt_iff_toNat_lt
abbrev xL:=@Nat.le_succ
abbrev xM:=@List.append_assoc
abbrev xN:=@List.mem_append_left
abbrev xO:=@List.map_cons
abbrev xP:=@List.pairwise_cons
abbrev xQ:=@Int.le_refl
abbrev xR:=@Array.toList_append
abbrev xS:=@Bool.not_eq_true'
abbrev xU:=@List.nodup_cons
abbrev xV:=@Int.natCast_nonneg
abbrev xW:=@Int.natCast_add
abbrev xX:=@List.flatten_append
abbrev xY:=@List.take_append_of_le_length
abbrev xZ:=@List.getElem_mem
abbrev wA:=@List.mem_append_right
abbrev wB:=@Array.getElem?_toList
abbrev wC:=@List.length_filter_le
abbrev wD:=@List.drop_eq_getElem_cons
abbrev wE:=@List.ext_getElem?
abbrev wF:=@List.pairwise_map
abbrev wG:=@List.mem_filterMap
abbrev wH:=@Nat.le_of_ble_eq_true
abbrev wJ:=@List.getElem?_eq_none_iff
abbrev wK:=@List.take_left'
abbrev wL:=@List.mem_range
abbrev wM:=@Nat.lt_succ_self
abbrev wN:=@List.pairwise_append
abbrev wO:=@Array.all_eq_true'
abbrev wP:=@Bool.false_eq_true
abbrev wQ:=@Bool.or_eq_true
abbrev wR:=@Nat.add_mul
abbrev wS:=@Nat.lt_irrefl
abbrev wT:=@List.pairwise_singleton
abbrev wU:=@Nat.le_succ_of_le
abbrev wV:=@Nat.min_eq_left
abbrev wX:=@Array.getElem?_replicate
abbrev wY:=@Bool.true_and
abbrev wZ:=@List.nil_append
abbrev w4:=@List.find?_eq_none
abbrev w6:=@Array.getElem?_eq_none
abbrev w7:=@List.drop_of_length_le
abbrev w8:=@List.getElem_map
abbrev w9:=@List.flatMap_append
abbrev kC:=@Nat.le_of_eq
abbrev kD:=@Array.getElem?_modify
abbrev kE:=@List.mem_of_mem_drop
abbrev kF:=@Nat.add_zero
abbrev kG:=@Nat.zero_mul
abbrev kH:=@Int.lt_irrefl
abbrev kI:=@Nat.one_mul
abbrev kJ:=@List.nodup_nil
abbrev kK:=@List.mem_of_find?_eq_some
abbrev kL:=@List.getElem?_set
abbrev kM:=@List.any_eq_false
abbrev kN:=@Nat.lt_trichotomy
abbrev kO:=@List.foldl_cons
abbrev kP:=@List.set_eq_take_append_cons_drop
abbrev kQ:=@List.map_set
abbrev kR:=@Nat.min_def
abbrev kS:=@Nat.eq_zero_or_pos
abbrev kT:=@List.mem_or_eq_of_mem_set
abbrev kU:=@List.find?_cons
abbrev kV:=@List.length_nil
abbrev kW:=@List.map_congr_left
abbrev kX:=@Array.getElem?_setIfInBounds
abbrev kY:=@List.drop_drop
abbrev kZ:=@List.map_id
abbrev k9:=@Nat.mul_one
abbrev jA:=@Int.le_of_lt
abbrev jB:=@List.all_cons
abbrev jC:=@Array.getElem?_append_left
abbrev jD:=@List.getElem?_of_mem
abbrev jE:=@List.take_zero
abbrev jF:=@Bool.and_false
abbrev jG:=@Nat.sub_self
abbrev jH:=@Nat.succ_mul
abbrev jI:=@List.filter_cons
abbrev jJ:=@List.set_set
abbrev jK:=@List.filter_sublist
abbrev jL:=@List.getElem?_cons_succ
abbrev jM:=@Nat.le_mul_of_pos_right
abbrev jN:=@Nat.add_assoc
abbrev jO:=@List.find?_some
abbrev jP:=@List.filter_eq_nil_iff
abbrev jQ:=@List.getElem_take
abbrev jR:=@List.nodup_append
abbrev jS:=@Array.getElem?_append
abbrev jT:=@List.countP_le_length
abbrev jU:=@List.length_mergeSort
abbrev jV:=@Array.getElem_toList
abbrev jW:=@List.drop_length
abbrev jX:=@List.mem_flatMap
abbrev jY:=@Nat.eq_of_mul_eq_mul_right
abbrev jZ:=@List.getElem?_range
abbrev j0:=@Array.toList_modify
abbrev j1:=@Array.mapM_eq_mapM_toList
abbrev j2:=@Option.isSome_iff_exists
abbrev j3:=@Nat.add_comm
abbrev j4:=@Nat.add_sub_cancel
abbrev j5:=@Nat.mul_comm
abbrev j6:=@Nat.lt_succ_iff_lt_or_eq
abbrev j7:=@Nat.lt_or_gt_of_ne
abbrev j8:=@List.length_eq_zero_iff
abbrev j9:=@Array.getElem_mem
abbrev zAa:=@List.getElem_drop
abbrev zAb:=@Bool.not_true
abbrev zAc:=@Option.getD_none
abbrev zAd:=@List.length_replicate
abbrev zAe:=@Nat.mod_lt
abbrev zAf:=@Nat.div_lt_of_lt_mul
abbrev zAg:=@Int.le_trans
abbrev zAh:=@Bool.or_true
abbrev zAi:=@List.any_nil
abbrev zAj:=@List.length_zip
abbrev zAk:=@List.countP_pos_iff
abbrev Bz:=Nat->Nat->Prop
inductive Lf where
  | i (k:IntKind) (n:Int)
  | b (x:Bool)
  | s (x:ByteArray)
  | raw (v:Value)
  | sl (n:Nat) (cs:List Lf)
  | cp (cs:List Lf)
  | lp (p off:Nat)
  | ls (p n:Nat)
  | ap (p n off:Nat)
  | mp (k p:Nat)
  | fn (f:FuncId) (a b:List Lf)
  | nix
  | jk (e sz n:Nat)
abbrev SL {α:Type} (x:List α) (f:α->List Lf):Lf:=.sl x.length (x.flatMap f)
inductive SV where
  | one (l:Lf)
  | agg (ls:List Lf)
inductive AV where
  | s (x:SV)
  | tup (xs:List SV)
  | top
abbrev L7 (l:Lf):AV:=.s (.one l)
inductive Blk where
  | box (cs:List Lf)
  | arr (e sz k:Nat) (cs:List Lf)
  | dead
  | hole
  | obj (g:Nat) (mk:List (List Value)->Obj->Prop) (cs:List (List Lf))
  | tab (mk:List (List Value)->Obj->Prop) (cs:List (List Lf))
  | arn (e sz g n cap:Nat) (cs:List Lf)
def Yo:Nat->Nat->Value
  | 0,g=>.map (some g)
  | _,g=>.chan (some g)
theorem Aj7 (k g:Nat):(Yo k g).oneCell'=true:=by cases k <;> rfl
def Ai9:Obj->Bool
  | .map .. | .chan .. | .mapIter .. =>true
  | _=>false
def Aa5:Obj->Bool
  | .cells .. | .map .. | .chan .. | .mapIter .. =>true
  | _=>false
theorem Ac9 {o:Obj} (h:Ai9 o=true):Aa5 o=true:=by cases o <;> first|rfl|cases h
structure AS where
  t:Nat->AV
  m:List Blk
def upd (t:Nat->AV) (d:Nat) (x:AV):Nat->AV:=λj=>cond (Nat.beq j d) x (t j)
theorem Ej (t:Nat->AV) (d:Nat) (x:AV) (j:Nat):upd t d x j=if j=d then x else t j:=by
  unfold upd
  by_cases h:j=d
  · subst h;simp
  · have:Nat.beq j d=false:=by
      cases hb:Nat.beq j d with
      | false=>rfl
      | true=>exact absurd (xH hb) h
    rw[this,if_neg h];rfl
def AS.upd (st:AS) (d:Nat) (x:AV):AS:=⟨Go.Proofs.YtkblaobhhoebaaaGreat.Abs.upd st.t d x,st.m⟩
def Ali (n e:Nat):Nat:=(n+e)*(n+e)+n
inductive Rep (w:World) (S:Bz):Lf->Value->Prop
  | i (k:IntKind) (n:Int):Rep w S (.i k n) (.int k n)
  | b (x:Bool):Rep w S (.b x) (.bool x)
  | s (x:ByteArray):Rep w S (.s x) (.string x)
  | raw (v:Value) (h:v.oneCell'=true):Rep w S (.raw v) v
  | sl0 (a:Option Addr) (cap:Nat):Rep w S (.sl 0 []) (.slice a 0 cap)
  | sl (n:Nat) (cs:List Lf) (bk off cap:Nat) (vals:Nat->Value) (hc:n<=cap) (hm:cap<=maxLen)
      (hs:∀ (j:Nat) (l:Lf),cs[j]? = some l->S bk (off+j)/\w.cell? ⟨bk,off+j,none⟩=some (vals j))
      (hr:∀ (j:Nat) (l:Lf),cs[j]? = some l->Rep w S l (vals j)):Rep w S (.sl n cs) (.slice (some ⟨bk,off,none⟩) n cap)
  | cp (cs:List Lf) (bk off:Nat) (vals:Nat->Value)
      (hs:∀ (j:Nat) (l:Lf),cs[j]? = some l->S bk (off+j)/\w.cell? ⟨bk,off+j,none⟩=some (vals j))
      (hr:∀ (j:Nat) (l:Lf),cs[j]? = some l->Rep w S l (vals j)):Rep w S (.cp cs) (.pointer (some ⟨bk,off,none⟩))
  | fn (f:FuncId) (a b:List Lf) (va vb:Array Value) (ha:a.length=va.size) (hb:b.length=vb.size)
      (ra:∀ (j:Nat) (l:Lf) (v:Value),a[j]? = some l->va[j]? = some v->Rep w S l v)
      (rb:∀ (j:Nat) (l:Lf) (v:Value),b[j]? = some l->vb[j]? = some v->Rep w S l v):Rep w S (.fn f a b) (.func (.func f) va vb)
  | nix (a:Option Addr):Rep w S .nix (.slice a 0 0)
  | jk0 (e sz:Nat):Rep w S (.jk e sz 0) (.slice none 0 0)
  | jk (e sz n g cap:Nat) (hn:n<=cap) (hm:cap<=maxLen) (hs:S g (Ali (cap*sz) e)/\w.cell? ⟨g,Ali (cap*sz) e,none⟩=none):Rep w S (.jk e sz n) (.slice (some ⟨g,0,none⟩) n cap)
theorem Rep.mono {w w':World} {S S':Bz} (h:∀ b i,S b i->S' b i/\w'.cell? ⟨b,i,none⟩=w.cell? ⟨b,i,none⟩) {l:Lf} {v:Value} (r:Rep w S l v):Rep w' S' l v:=by
  induction r with
  | i k n=>exact .i k n
  | b x=>exact .b x
  | s x=>exact .s x
  | raw v h=>exact .raw v h
  | sl0 a cap=>exact .sl0 a cap
  | sl n cs bk off cap vals hc hm hs _ ih =>
    exact .sl n cs bk off cap vals hc hm (λj l hl=>⟨(h _ _ (hs j l hl).1).1,(h _ _ (hs j l hl).1).2.trans (hs j l hl).2⟩) ih
  | cp cs bk off vals hs _ ih =>
    exact .cp cs bk off vals (λj l hl=>⟨(h _ _ (hs j l hl).1).1,(h _ _ (hs j l hl).1).2.trans (hs j l hl).2⟩) ih
  | fn f a b va vb ha hb _ _ iha ihb=>exact .fn f a b va vb ha hb iha ihb
  | nix a=>exact .nix a
  | jk0 e sz=>exact .jk0 e sz
  | jk e sz n g cap hn hm hs=>exact .jk e sz n g cap hn hm ⟨(h _ _ hs.1).1,(h _ _ hs.1).2.trans hs.2⟩
theorem Rep.oneCell {w:World} {S:Bz} {l:Lf} {v:Value} (r:Rep w S l v):v.oneCell'=true:=by
  cases r <;> first|rfl|assumption
structure Ext (w:World) (S:Bz) (w':World) (S':Bz):Prop where
  os:w'.os=w.os
  tape:w'.tape=w.tape
  output:w'.output=w.output
  size:w.heap.size<=w'.heap.size
  blk:∀ b,b<w.heap.size->w'.heap[b]? = w.heap[b]?
  sub:∀ b i,S b i->S' b i
  back:∀ b i,b<w.heap.size->S' b i->S b i
theorem Ext.refl (w:World) (S:Bz):Ext w S w S:=⟨rfl,rfl,rfl,zO _,λ_ _=>rfl,λ_ _ h=>h,λ_ _ _ h=>h⟩
theorem Ext.trans {w w' w'':World} {S S' S'':Bz} (h:Ext w S w' S') (k:Ext w' S' w'' S''):Ext w S w'' S'' :=
  ⟨k.os.trans h.os,k.tape.trans h.tape,k.output.trans h.output,yP h.size k.size,
   λb hb=>(k.blk b (z6 hb h.size)).trans (h.blk b hb),λb i hs=>k.sub b i (h.sub b i hs),
   λb i hb hs=>h.back b i hb (k.back b i (z6 hb h.size) hs)⟩
theorem Ext.drew (w:World) (S:Bz):Ext w S w.drew S:=⟨rfl,rfl,rfl,zO _,λ_ _=>rfl,λ_ _ h=>h,λ_ _ _ h=>h⟩
theorem Ext.alloc (w:World) (S:Bz) (o:Obj):Ext w S (w.alloc o) S :=
  ⟨rfl,rfl,rfl,by simp,λb hb=>Below.heap_alloc w o b hb,λ_ _ h=>h,λ_ _ _ h=>h⟩
theorem Ext.cell {w w':World} {S S':Bz} (h:Ext w S w' S') {a:Addr} (ha:a.block<w.heap.size):w'.cell? a=w.cell? a :=
  World.cell?_of_block (w:=w) (h.blk _ ha)
theorem Ext.below {w w':World} {S S':Bz} (h:Ext w S w' S'):Below w.heap.size w w':=⟨h.os,h.tape,h.output,h.size,h.blk⟩
def GL:List (Nat×List Lf):=[]
def GLR (w:World) (S:Bz):Prop:=∀ x∈GL,Rep w S (.cp x.2) (.pointer (some ⟨x.1,0,none⟩))
theorem GLR.mono {w w':World} {S S':Bz} (h:∀ b i,S b i->S' b i/\w'.cell? ⟨b,i,none⟩=w.cell? ⟨b,i,none⟩) (r:GLR w S):GLR w' S':=λx hx=>Rep.mono h (r x hx)
def Aa0 (w:World) (S:Bz):Prop:=∀ g i,S g i->w.cell? ⟨g,i,none⟩=none ->
  (∃ cur e,w.heap[g]? = some (.cells cur e (0,0))/\i=Ali cur.size e)/\∀ j,S g j->w.cell? ⟨g,j,none⟩=none
def InH (w:World) (S:Bz):Prop:=(∀ b i,S b i->b<w.heap.size)/\GLR w S/\Aa0 w S
theorem Aa0.ext {w w':World} {S:Bz} (h:Ext w S w' S) (hl:∀ b i,S b i->b<w.heap.size) (k:Aa0 w S):Aa0 w' S:=by
  intro g i hs hc
  have hb:=h.blk g (hl g i hs)
  have hcc:∀ j,w'.cell? ⟨g,j,none⟩=w.cell? ⟨g,j,none⟩:=λj=>World.cell?_of_block (a:=⟨g,j,none⟩) hb
  rw[hcc] at hc
  obtain⟨⟨cur,e,h1,h2⟩,h3⟩:=k g i hs hc
  exact⟨⟨cur,e,hb.trans h1,h2⟩,λj hj=>(hcc j).trans (h3 j hj)⟩
theorem Ext.keeps {w w':World} {S S':Bz} (h:Ext w S w' S') (hS:InH w S):∀ b i,S b i->S' b i/\w'.cell? ⟨b,i,none⟩=w.cell? ⟨b,i,none⟩ :=
  λb i hs=>⟨h.sub b i hs,h.cell (hS.1 b i hs)⟩
theorem InH.ext {w w':World} {S:Bz} (h:Ext w S w' S) (hS:InH w S):InH w' S:=⟨λb i hs=>z6 (hS.1 b i hs) h.size,hS.2.1.mono (h.keeps hS),hS.2.2.ext h hS.1⟩
theorem InH.two {w:World} {S:Bz} (h:InH w S):(∀ b i,S b i->b<w.heap.size)/\GLR w S:=⟨h.1,h.2.1⟩
theorem InH.turn2 {w w':World} {S:Bz} (h:w.heap.size<=w'.heap.size) (hk:∀ b i,S b i->w'.cell? ⟨b,i,none⟩=w.cell? ⟨b,i,none⟩) (hS:InH w S):(∀ b i,S b i->b<w'.heap.size)/\GLR w' S:=⟨λb i hs=>z6 (hS.1 b i hs) h,hS.2.1.mono λb i hs=>⟨hs,hk b i hs⟩⟩
theorem Aa0.add {w:World} {S S':Bz} (k:Aa0 w S) (h:∀ b i,S' b i->S b i\/(w.cell? ⟨b,i,none⟩≠none/\∀ j,¬ S b j)):Aa0 w S':=by
  intro g i hs hc
  rcases h g i hs with h1|h1
  · obtain⟨h2,h3⟩:=k g i h1 hc
    exact⟨h2,λj hj=>by
      rcases h g j hj with h4|h4
      · exact h3 j h4
      · exact absurd h1 (h4.2 i)⟩
  · exact absurd hc h1.1
theorem Aa0.turn {w w':World} {S:Bz} (G:Nat->Prop) (hG:∀ g i,G g->S g i->w.cell? ⟨g,i,none⟩≠none) (hb:∀ g,g<w.heap.size->¬ G g->w'.heap[g]? = w.heap[g]?) (hk:∀ b i,S b i->w'.cell? ⟨b,i,none⟩=w.cell? ⟨b,i,none⟩) (hl:∀ b i,S b i->b<w.heap.size) (k:Aa0 w S):Aa0 w' S:=by
  intro g i hs hc
  rw[hk g i hs] at hc
  obtain⟨⟨cur,e,h1,h2⟩,h3⟩:=k g i hs hc
  refine⟨⟨cur,e,(hb g (hl g i hs) λhg=>hG g i hg hs hc).trans h1,h2⟩,λj hj=>(hk g j hj).trans (h3 j hj)⟩
theorem InH.turn {w w':World} {S:Bz} (G:Nat->Prop) (hG:∀ g i,G g->S g i->w.cell? ⟨g,i,none⟩≠none) (hb:∀ g,g<w.heap.size->¬ G g->w'.heap[g]? = w.heap[g]?) (h:w.heap.size<=w'.heap.size) (hk:∀ b i,S b i->w'.cell? ⟨b,i,none⟩=w.cell? ⟨b,i,none⟩) (hS:InH w S):InH w' S:=⟨λb i hs=>z6 (hS.1 b i hs) h,hS.2.1.mono λb i hs=>⟨hs,hk b i hs⟩,hS.2.2.turn G hG hb hk hS.1⟩
structure Vt (X:Nat->Prop) (w:World) (S:Bz) (w':World) (S':Bz):Prop where
  os:w'.os=w.os
  tape:w'.tape=w.tape
  output:w'.output=w.output
  size:w.heap.size<=w'.heap.size
  blk:∀ b,b<w.heap.size->¬ X b->w'.heap[b]? = w.heap[b]?
  sub:∀ b i,S b i->S' b i
  stab:∀ b i,S b i->w'.cell? ⟨b,i,none⟩=w.cell? ⟨b,i,none⟩
  back:∀ b i,b<w.heap.size->¬ X b->S' b i->S b i
theorem Vt.refl (X:Nat->Prop) (w:World) (S:Bz):Vt X w S w S:=⟨rfl,rfl,rfl,zO _,λ_ _ _=>rfl,λ_ _ h=>h,λ_ _ _=>rfl,λ_ _ _ _ h=>h⟩
theorem Vt.ext {X:Nat->Prop} {w w' w'':World} {S S' S'':Bz} (h:Vt X w S w' S') (hS:InH w' S') (k:Ext w' S' w'' S''):Vt X w S w'' S'' :=
  ⟨k.os.trans h.os,k.tape.trans h.tape,k.output.trans h.output,yP h.size k.size,
   λb hb hx=>(k.blk b (z6 hb h.size)).trans (h.blk b hb hx),λb i hs=>k.sub b i (h.sub b i hs),
   λb i hs=>(k.cell (a:=⟨b,i,none⟩) (hS.1 b i (h.sub b i hs))).trans (h.stab b i hs),
   λb i hb hx hs=>h.back b i hb hx (k.back b i (z6 hb h.size) hs)⟩
theorem Vt.toExt {X:Nat->Prop} {w w':World} {S S':Bz} (hX:∀ b,¬ X b) (h:Vt X w S w' S'):Ext w S w' S' :=
  ⟨h.os,h.tape,h.output,h.size,λb hb=>h.blk b hb (hX b),h.sub,λb i hb=>h.back b i hb (hX b)⟩
def LsR (R:Lf->Value->Prop) (ls:List Lf) (cs:List Value):Prop:=ls.length=cs.length/\∀ (j:Nat) (l:Lf) (v:Value),ls[j]? = some l->cs[j]? = some v->R l v
theorem LsR.mono {R R':Lf->Value->Prop} (h:∀ l v,R l v->R' l v) {ls:List Lf} {cs:List Value} (r:LsR R ls cs):LsR R' ls cs :=
  ⟨r.1,λj l v h1 h2=>h _ _ (r.2 j l v h1 h2)⟩
theorem LsR.get {R:Lf->Value->Prop} {ls:List Lf} {cs:List Value} (r:LsR R ls cs) {j:Nat} {l:Lf} (h:ls[j]? = some l):∃ v,cs[j]? = some v/\R l v:=by
  have hj:j<ls.length:=(zB.1 h).1
  have hj':j<cs.length:=by rw[<- r.1];exact hj
  exact⟨cs[j],zC hj',r.2 j l _ h (zC hj')⟩
def LsP (R:Lf->Value->Prop) (ls:List Lf) (cs:List Value):Prop:=ls.length<=cs.length/\∀ (j:Nat) (l:Lf) (v:Value),ls[j]? = some l->cs[j]? = some v->R l v
theorem LsP.mono {R R':Lf->Value->Prop} (h:∀ l v,R l v->R' l v) {ls:List Lf} {cs:List Value} (r:LsP R ls cs):LsP R' ls cs :=
  ⟨r.1,λj l v h1 h2=>h _ _ (r.2 j l v h1 h2)⟩
theorem LsP.get {R:Lf->Value->Prop} {ls:List Lf} {cs:List Value} (r:LsP R ls cs) {j:Nat} {l:Lf} (h:ls[j]? = some l):∃ v,cs[j]? = some v/\R l v:=by
  have hj:j<ls.length:=(zB.1 h).1
  have hj':j<cs.length:=z6 hj r.1
  exact⟨cs[j],zC hj',r.2 j l _ h (zC hj')⟩
def Anl (R:Lf->Value->Prop) (css:List (List Lf)) (vss:List (List Value)):Prop:=css.length=vss.length/\∀ (j:Nat) (cs:List Lf) (vs:List Value),css[j]? = some cs->vss[j]? = some vs->LsR R cs vs
theorem Anl.mono {R R':Lf->Value->Prop} (h:∀ l v,R l v->R' l v) {css:List (List Lf)} {vss:List (List Value)} (r:Anl R css vss):Anl R' css vss :=
  ⟨r.1,λj cs vs h1 h2=>(r.2 j cs vs h1 h2).mono h⟩
theorem Sy {w:World} {base e size n:Nat} {v:Value} {xs:List Value} (h:w.ownsRow base e size v n xs):v.oneCell'=true/\v≠undef:=by
  rcases h.2 with⟨rfl,_⟩|⟨g,cap,cur,rfl,_⟩ <;> exact⟨rfl,λh=>by cases h⟩
def Df (w:World) (S:Bz) (m:List Blk) (H:Nat->Value):Lf->Value->Prop
  | .lp p off,v=>p<m.length/\∃ g,H p=.pointer (some ⟨g,0,none⟩)/\v=.pointer (some ⟨g,off,none⟩)
  | .ls p n,v=>p<m.length/\(v.oneCell'=true/\H p≠undef)/\∀ e sz k cs,m[p]? = some (.arr e sz k cs)->n*sz<=cs.length/\(n*sz=cs.length->v=H p)
  | .ap p n off,v=>p<m.length/\(v.oneCell'=true/\H p≠undef)/\∀ e sz k cs,m[p]? = some (.arr e sz k cs)->n*sz<=cs.length/\(n*sz=cs.length->∃ g c,H p=.slice (some ⟨g,0,none⟩) n c/\v=.pointer (some ⟨g,off,none⟩))
  | .mp k p,v=>p<m.length/\∃ g,H p=.pointer (some ⟨g,0,none⟩)/\v=Yo k g
  | l,v=>Rep w S l v
def Bt (w:World) (S:Bz) (m:List Blk) (H:Nat->Value):Lf->Value->Prop
  | .fn f a b,v=>∃ va vb,v=.func (.func f) va vb/\LsR (Df w S m H) a va.toList/\LsR (Df w S m H) b vb.toList
  | l,v=>Df w S m H l v
def Lf.pubd0:Lf->Bool
  | .lp .. | .ls .. | .ap .. | .mp .. | .fn .. =>false
  | _=>true
def Lf.pubd:Lf->Bool
  | .lp .. | .ls .. | .ap .. | .mp .. =>false
  | .fn _ la lb=>la.all Lf.pubd0&&lb.all Lf.pubd0
  | _=>true
theorem Df.of_rep {w:World} {S:Bz} {m:List Blk} {H:Nat->Value} {l:Lf} {v:Value} (h:Rep w S l v):Df w S m H l v:=by
  cases h with
  | i k n=>exact .i k n
  | b x=>exact .b x
  | s x=>exact .s x
  | raw v h=>exact .raw v h
  | sl0 a cap=>exact .sl0 a cap
  | sl n cs bk off cap vals hc hm hs hr=>exact .sl n cs bk off cap vals hc hm hs hr
  | cp cs bk off vals hs hr=>exact .cp cs bk off vals hs hr
  | nix a=>exact .nix a
  | jk0 e sz=>exact .jk0 e sz
  | jk e sz n g cap hn hm hs=>exact .jk e sz n g cap hn hm hs
  | fn f a b va vb ha hb ra rb=>exact .fn f a b va vb ha hb ra rb
theorem Bt.of_rep {w:World} {S:Bz} {m:List Blk} {H:Nat->Value} {l:Lf} {v:Value} (h:Rep w S l v):Bt w S m H l v:=by
  cases h with
  | i k n=>exact .i k n
  | b x=>exact .b x
  | s x=>exact .s x
  | raw v h=>exact .raw v h
  | sl0 a cap=>exact .sl0 a cap
  | sl n cs bk off cap vals hc hm hs hr=>exact .sl n cs bk off cap vals hc hm hs hr
  | cp cs bk off vals hs hr=>exact .cp cs bk off vals hs hr
  | nix a=>exact .nix a
  | jk0 e sz=>exact .jk0 e sz
  | jk e sz n g cap hn hm hs=>exact .jk e sz n g cap hn hm hs
  | fn f a b va vb ha hb ra rb=>exact⟨va,vb,rfl,⟨by simpa using ha,λj l v h1 h2=>Df.of_rep (ra j l v h1 (by simpa using h2))⟩,⟨by simpa using hb,λj l v h1 h2=>Df.of_rep (rb j l v h1 (by simpa using h2))⟩⟩
theorem Df.rep {w:World} {S:Bz} {m:List Blk} {H:Nat->Value} {l:Lf} {v:Value} (h:Df w S m H l v) (hp:l.pubd0=true):Rep w S l v:=by
  cases l <;> first|(simp [Lf.pubd0] at hp;done)|exact h
theorem Bt.rep {w:World} {S:Bz} {m:List Blk} {H:Nat->Value} {l:Lf} {v:Value} (h:Bt w S m H l v) (hp:l.pubd=true):Rep w S l v:=by
  cases l with
  | fn f a b =>
    obtain⟨va,vb,rfl,h1,h2⟩:=h
    simp only[Lf.pubd,zS,zL] at hp
    refine .fn f a b va vb (by simpa using h1.1) (by simpa using h2.1) (λj l v hl hv=>?_) (λj l v hl hv=>?_)
    · exact Df.rep (h1.2 j l v hl (by simpa using hv)) (hp.1 l (zG hl))
    · exact Df.rep (h2.2 j l v hl (by simpa using hv)) (hp.2 l (zG hl))
  | lp _ _=>simp [Lf.pubd] at hp
  | ls _ _=>simp [Lf.pubd] at hp
  | ap _ _ _=>simp [Lf.pubd] at hp
  | mp _ _=>simp [Lf.pubd] at hp
  | i k n=>exact h
  | b x=>exact h
  | s x=>exact h
  | raw v=>exact h
  | sl n cs=>exact h
  | cp cs=>exact h
  | nix=>exact h
  | jk e sz n=>exact h
theorem Bt.oneCell {w:World} {S:Bz} {m:List Blk} {H:Nat->Value} {l:Lf} {v:Value} (h:Bt w S m H l v):v.oneCell'=true:=by
  cases l with
  | lp p off=>obtain⟨_,g,_,rfl⟩:=h;rfl
  | ls p n=>exact h.2.1.1
  | ap p n off=>exact h.2.1.1
  | mp k p=>obtain⟨_,g,_,rfl⟩:=h;exact Aj7 k g
  | i k n=>exact Rep.oneCell h
  | b x=>exact Rep.oneCell h
  | s x=>exact Rep.oneCell h
  | raw v=>exact Rep.oneCell h
  | sl n cs=>exact Rep.oneCell h
  | cp cs=>exact Rep.oneCell h
  | nix=>exact Rep.oneCell h
  | jk e sz n=>exact Rep.oneCell h
  | fn f a b=>obtain⟨va,vb,rfl,_⟩:=h;rfl
theorem Df.mono3 {w w':World} {S S':Bz} {m m':List Blk} {H H':Nat->Value} (h:∀ b i,S b i->S' b i/\w'.cell? ⟨b,i,none⟩=w.cell? ⟨b,i,none⟩)
    (hl:m.length<=m'.length) (hH:∀ p g,p<m.length->H p=.pointer (some ⟨g,0,none⟩)->H' p=H p)
    (hu:∀ p,p<m.length->H p≠undef->H' p≠undef)
    (hm:∀ p e sz k cs,p<m.length->H p≠undef->m'[p]? = some (.arr e sz k cs)->∃ k' cs',m[p]? = some (.arr e sz k' cs')/\((cs'.length=cs.length/\H' p=H p)\/cs'.length<cs.length)) {l:Lf} {v:Value} (r:Df w S m H l v):Df w' S' m' H' l v:=by
  cases l with
  | lp p off =>
    obtain⟨hp,g,hg,hv⟩:=r
    exact⟨z6 hp hl,g,(hH p g hp hg).trans hg,hv⟩
  | mp k p =>
    obtain⟨hp,g,hg,hv⟩:=r
    exact⟨z6 hp hl,g,(hH p g hp hg).trans hg,hv⟩
  | ls p n =>
    obtain⟨hp,ho,hr⟩:=r
    refine⟨z6 hp hl,⟨ho.1,hu p hp ho.2⟩,λe sz k cs hm'=>?_⟩
    obtain⟨k',cs',h1,h2⟩:=hm p e sz k cs hp ho.2 hm'
    have h3:=hr e sz k' cs' h1
    rcases h2 with⟨h2,h4⟩|h2
    · rw[h2] at h3
      exact⟨h3.1,λe=>(h3.2 e).trans h4.symm⟩
    · exact⟨by omega,λe=>by omega⟩
  | ap p n off =>
    obtain⟨hp,ho,hr⟩:=r
    refine⟨z6 hp hl,⟨ho.1,hu p hp ho.2⟩,λe sz k cs hm'=>?_⟩
    obtain⟨k',cs',h1,h2⟩:=hm p e sz k cs hp ho.2 hm'
    have h3:=hr e sz k' cs' h1
    rcases h2 with⟨h2,h4⟩|h2
    · rw[h2] at h3
      refine⟨h3.1,λe=>?_⟩
      obtain⟨g,c,h5,h6⟩:=h3.2 e
      exact⟨g,c,h4.trans h5,h6⟩
    · exact⟨by omega,λe=>by omega⟩
  | i k n=>exact Rep.mono h r
  | b x=>exact Rep.mono h r
  | s x=>exact Rep.mono h r
  | raw v=>exact Rep.mono h r
  | sl n cs=>exact Rep.mono h r
  | cp cs=>exact Rep.mono h r
  | nix=>exact Rep.mono h r
  | jk e sz n=>exact Rep.mono h r
  | fn f a b=>exact Rep.mono h r
theorem Bt.mono3 {w w':World} {S S':Bz} {m m':List Blk} {H H':Nat->Value} (h:∀ b i,S b i->S' b i/\w'.cell? ⟨b,i,none⟩=w.cell? ⟨b,i,none⟩)
    (hl:m.length<=m'.length) (hH:∀ p g,p<m.length->H p=.pointer (some ⟨g,0,none⟩)->H' p=H p)
    (hu:∀ p,p<m.length->H p≠undef->H' p≠undef)
    (hm:∀ p e sz k cs,p<m.length->H p≠undef->m'[p]? = some (.arr e sz k cs)->∃ k' cs',m[p]? = some (.arr e sz k' cs')/\((cs'.length=cs.length/\H' p=H p)\/cs'.length<cs.length)) {l:Lf} {v:Value} (r:Bt w S m H l v):Bt w' S' m' H' l v:=by
  cases l with
  | fn f a b =>
    obtain⟨va,vb,hv,h1,h2⟩:=r
    exact⟨va,vb,hv,h1.mono λl v=>Df.mono3 h hl hH hu hm,h2.mono λl v=>Df.mono3 h hl hH hu hm⟩
  | lp p off=>exact Df.mono3 (l:=.lp p off) h hl hH hu hm r
  | mp k p=>exact Df.mono3 (l:=.mp k p) h hl hH hu hm r
  | ls p n=>exact Df.mono3 (l:=.ls p n) h hl hH hu hm r
  | ap p n off=>exact Df.mono3 (l:=.ap p n off) h hl hH hu hm r
  | i k n=>exact Rep.mono h r
  | b x=>exact Rep.mono h r
  | s x=>exact Rep.mono h r
  | raw v=>exact Rep.mono h r
  | sl n cs=>exact Rep.mono h r
  | cp cs=>exact Rep.mono h r
  | nix=>exact Rep.mono h r
  | jk e sz n=>exact Rep.mono h r
theorem Bt.mono2 {w w':World} {S S':Bz} {m m':List Blk} {H H':Nat->Value} (h:∀ b i,S b i->S' b i/\w'.cell? ⟨b,i,none⟩=w.cell? ⟨b,i,none⟩)
    (hl:m.length<=m'.length) (hH:∀ p g,p<m.length->H p=.pointer (some ⟨g,0,none⟩)->H' p=H p)
    (hu:∀ p,p<m.length->H p≠undef->H' p≠undef)
    (hm:∀ p e sz k cs,p<m.length->m'[p]? = some (.arr e sz k cs)->∃ k' cs',m[p]? = some (.arr e sz k' cs')/\((cs'.length=cs.length/\H' p=H p)\/cs'.length<cs.length)) {l:Lf} {v:Value} (r:Bt w S m H l v):Bt w' S' m' H' l v :=
  Bt.mono3 h hl hH hu (λp e sz k cs hp _ hm'=>hm p e sz k cs hp hm') r
theorem Bt.mono {w w':World} {S S':Bz} {m m':List Blk} {H H':Nat->Value} (h:∀ b i,S b i->S' b i/\w'.cell? ⟨b,i,none⟩=w.cell? ⟨b,i,none⟩)
    (hl:m.length<=m'.length) (hH:∀ p,p<m.length->H' p=H p)
    (hm:∀ p e sz k cs,p<m.length->m'[p]? = some (.arr e sz k cs)->∃ k' cs',m[p]? = some (.arr e sz k' cs')/\cs'.length=cs.length) {l:Lf} {v:Value} (r:Bt w S m H l v):Bt w' S' m' H' l v :=
  Bt.mono2 h hl (λp _ hp _=>hH p hp) (λp hp hne=>by rw[hH p hp];exact hne) (λp e sz k cs hp hm'=>by
    obtain⟨k',cs',h1,h2⟩:=hm p e sz k cs hp hm'
    exact⟨k',cs',h1,.inl ⟨h2,hH p hp⟩⟩) r
def SVR (R:Lf->Value->Prop):SV->Value->Prop
  | .one l,v=>R l v
  | .agg ls,v=>∃ cs:Array Value,v=.agg cs/\LsR R ls cs.toList
def AVR (R:Lf->Value->Prop):AV->Value->Prop
  | .s x,v=>SVR R x v
  | .tup xs,v=>∃ vs:Array Value,v=.tuple vs/\xs.length=vs.size/\∀ (j:Nat) (x:SV) (u:Value),xs[j]? = some x->vs[j]? = some u->SVR R x u
  | .top,_=>True
theorem SVR.mono {R R':Lf->Value->Prop} (h:∀ l v,R l v->R' l v) {x:SV} {v:Value} (r:SVR R x v):SVR R' x v:=by
  cases x with
  | one l=>exact h _ _ r
  | agg ls=>obtain⟨cs,rfl,hl⟩:=r;exact⟨cs,rfl,hl.mono h⟩
theorem AVR.mono {R R':Lf->Value->Prop} (h:∀ l v,R l v->R' l v) {x:AV} {v:Value} (r:AVR R x v):AVR R' x v:=by
  cases x with
  | s x=>exact SVR.mono h r
  | tup xs=>obtain⟨vs,rfl,h1,h2⟩:=r;exact⟨vs,rfl,h1,λj x u hx hu=>SVR.mono h (h2 j x u hx hu)⟩
  | top=>trivial
theorem H8 {R:Lf->Value->Prop}:AVR R (.tup []) undef:=⟨#[],rfl,rfl,λj x u h=>by simp at h⟩
def Cz:Value->Option Nat
  | .pointer (some a)=>some a.block
  | .slice (some a) _ _=>some a.block
  | _=>none
def Blk.own (b:Blk) (h:Value):Option Nat:=match b with | .dead=>none | .hole=>none|_=>Cz h
def Blk.stab:Blk->Nat
  | .arr _ _ k _=>k
  | _=>0
def Aj9 (base:Nat) (w:World) (S:Bz) (m:List Blk) (H:Nat->Value):Blk->Value->Prop
  | .box cs,h=>∃ g e cur,h=.pointer (some ⟨g,0,none⟩)/\w.heap[g]? = some (.cells cur e (0,0))/\LsR (Bt w S m H) cs cur.toList
  | .arr e sz k cs,h=>0<sz/\k<=cs.length/\∃ n vals,w.ownsRow base e sz h n vals/\LsR (Rep w S) cs vals/\∀ g,Cz h=some g->∀ i,i<k->S g i
  | .dead,_=>True
  | .arn e sz g n cap cs,h=>h=.slice (some ⟨g,0,none⟩) n cap/\∃ cur,w.heap[g]? = some (.cells cur e (0,0))/\(n<=cap/\cap<=maxLen/\cur.size=cap*sz/\cs.length=n*sz/\0<sz)/\LsP (Bt w S m H) cs cur.toList
  | .hole,h=>h=undef
  | .tab mk cs,h=>∃ g,h=.pointer (some ⟨g,0,none⟩)/\∃ vs o,w.heap[g]? = some o/\Ai9 o=true/\mk vs o/\Anl (Rep w S) cs vs
  | .obj g mk cs,h=>h=.pointer (some ⟨g,0,none⟩)/\∃ vs o,w.heap[g]? = some o/\Ai9 o=true/\mk vs o/\Anl (Rep w S) cs vs
structure Ctx where
  w0:World
  S0:Bz
  nt:Nat
  X:Nat->Prop
  m0:List Blk
  H0:Nat->Value
abbrev Ctx.of (w:World) (S:Bz) (nt:Nat):Ctx:=⟨w,S,nt,λ_=>False,[],λ_=>undef⟩
structure Rel (c:Ctx) (st:AS) (a:Act) (w:World) (S:Bz) (H:Nat->Value):Prop where
  nt:a.tmps.size=c.nt
  df:a.defers=[]
  tm:∀ i,AVR (Bt w S st.m H) (st.t i) (a.tmps.getD i undef)
  bl:∀ (p:Nat) (b:Blk),st.m[p]? = some b->Aj9 0 w S st.m H b (H p)
  lo:∀ (p:Nat) (b:Blk) (g:Nat),st.m[p]? = some b->b.own (H p)=some g->(c.w0.heap.size<=g\/c.X g)/\g<w.heap.size
  inj:∀ (p q:Nat) (b b':Blk) (g:Nat),st.m[p]? = some b->st.m[q]? = some b'->b.own (H p)=some g->b'.own (H q)=some g->p=q
  sb:∀ (p:Nat) (b:Blk) (g i:Nat),st.m[p]? = some b->b.own (H p)=some g->S g i->i<b.stab
  sl:InH w S
  ex:Vt c.X c.w0 c.S0 w S
  kl:c.m0.length<=st.m.length
  kh:∀ p g,p<c.m0.length->c.H0 p=.pointer (some ⟨g,0,none⟩)->H p=c.H0 p
  kr:∀ p e sz k cs,p<c.m0.length->st.m[p]? = some (.arr e sz k cs)->∃ k' cs',c.m0[p]? = some (.arr e sz k' cs')/\((cs'.length=cs.length/\H p=c.H0 p)\/cs'.length<cs.length)
  ku:∀ p,p<c.m0.length->c.H0 p≠undef->H p≠undef
theorem Iu {w w':World} {base e size n:Nat} {v:Value} {xs:List Value} (h:w.ownsRow base e size v n xs) (hb:∀ g,Cz v=some g->w'.heap[g]? = w.heap[g]?):w'.ownsRow base e size v n xs:=by
  refine⟨h.1,?_⟩
  rcases h.2 with hn|⟨g,cap,cur,rfl,hbg,hg,rest⟩
  · exact .inl hn
  · exact .inr ⟨g,cap,cur,rfl,hbg,(hb g rfl).trans hg,rest⟩
theorem Rel.ext {c:Ctx} {st:AS} {a:Act} {w w':World} {S S':Bz} {H:Nat->Value} (r:Rel c st a w S H) (h:Ext w S w' S') (hS:InH w' S'):Rel c st a w' S' H:=by
  have hk:=h.keeps r.sl
  have hg:∀ l v,Bt w S st.m H l v->Bt w' S' st.m H l v:=λl v=>Bt.mono hk (zO _) (λ_ _=>rfl) (λp e sz k cs _ hm=>⟨k,cs,hm,rfl⟩)
  refine⟨r.nt,r.df,λi=>AVR.mono hg (r.tm i),λp b hb=>?_,λp b g hb ho=>?_,r.inj,λp b g i hb ho hs=>?_,hS,r.ex.ext r.sl h,r.kl,r.kh,r.kr,r.ku⟩
  · have hr:=r.bl p b hb
    have hlo:=r.lo p b
    cases b with
    | dead=>trivial
    | hole=>exact hr
    | obj g mk cs =>
      obtain⟨h1,vs,o,h2,h3,h4,h5⟩:=hr
      exact⟨h1,vs,o,(h.blk g (hlo g hb (by rw[h1];rfl)).2).trans h2,h3,h4,h5.mono (λl v=>Rep.mono hk)⟩
    | tab mk cs =>
      obtain⟨g,h1,vs,o,h2,h3,h4,h5⟩:=hr
      exact⟨g,h1,vs,o,(h.blk g (hlo g hb (by rw[h1];rfl)).2).trans h2,h3,h4,h5.mono (λl v=>Rep.mono hk)⟩
    | arn e sz g n cap cs =>
      obtain⟨h1,cur,h2,h3,h4⟩:=hr
      exact⟨h1,cur,(h.blk g (hlo g hb (by rw[h1];rfl)).2).trans h2,h3,h4.mono hg⟩
    | box cs =>
      obtain⟨g,e,cur,h1,h2,h3⟩:=hr
      have:=(hlo g hb (by rw[h1];rfl)).2
      exact⟨g,e,cur,h1,(h.blk g this).trans h2,h3.mono hg⟩
    | arr e sz k cs =>
      obtain⟨h0,hk1,n,vals,h1,h2,h3⟩:=hr
      exact⟨h0,hk1,n,vals,Iu h1 (λg hgo=>h.blk g (hlo g hb hgo).2),h2.mono (λl v=>Rep.mono hk),λg hgo i hi=>h.sub g i (h3 g hgo i hi)⟩
  · have:=r.lo p b g hb ho
    exact⟨this.1,z6 this.2 h.size⟩
  · exact r.sb p b g i hb ho (h.back g i (r.lo p b g hb ho).2 hs)
theorem Aps {a:Act} {d:Nat} {v:Value} {i:Nat} (hd:d<a.tmps.size):(a.put (some d) v).tmps.getD i undef=if i=d then v else a.tmps.getD i undef:=by
  simp only[Act.put,zF,kX]
  by_cases h:i=d
  · subst h;simp [hd]
  · have:¬ d=i:=λe=>h e.symm
    simp [h,this]
theorem Rel.put {c:Ctx} {st:AS} {a:Act} {w:World} {S:Bz} {H:Nat->Value} (r:Rel c st a w S H) {d:Nat} (hd:d<c.nt) {x:AV} {v:Value} (hx:AVR (Bt w S st.m H) x v) :
    Rel c (st.upd d x) (a.put (some d) v) w S H:=by
  have hd':d<a.tmps.size:=by rw[r.nt];exact hd
  refine⟨by simp [Act.put,r.nt],r.df,λi=>?_,r.bl,r.lo,r.inj,r.sb,r.sl,r.ex,r.kl,r.kh,r.kr,r.ku⟩
  rw[Aps hd']
  show AVR _ (Go.Proofs.YtkblaobhhoebaaaGreat.Abs.upd st.t d x i) _
  rw[Ej]
  by_cases h:i=d
  · simp only[h,if_true];exact hx
  · simp only[h,if_false];exact r.tm i
theorem Rel.weak {c:Ctx} {st:AS} {a:Act} {w:World} {S:Bz} {H:Nat->Value} (r:Rel c st a w S H) {t:Nat->AV} (ht:∀ i,t i=st.t i\/t i=.top):Rel c ⟨t,st.m⟩ a w S H :=
  ⟨r.nt,r.df,λi=>by rcases ht i with h|h <;> simp only[h];exact r.tm i;trivial,r.bl,r.lo,r.inj,r.sb,r.sl,r.ex,r.kl,r.kh,r.kr,r.ku⟩
def clf:Value->Lf
 | .int k n=>.i k n
 | .bool x=>.b x
 | .string x=>.s x
 | v=>.raw v
def cav:Value->AV
 | .tuple vs=>if vs.size=0 then .tup [] else .top
 | .agg cs=>if cs.all (·.oneCell') then .s (.agg (cs.toList.map clf)) else .top
 | v=>.s (.one (clf v))
def B2 (st:AS):Operand->AV
 | .tmp i=>st.t i
 | .const v=>cav v
 | .global g=>.s (.one (.raw (.pointer (some ⟨g,0,none⟩))))
 | .func f=>.s (.one (.raw (.func (.func f) #[] #[])))
theorem Acy {w:World} {S:Bz} {v:Value} (h:v.oneCell'=true):Rep w S (clf v) v:=by
 cases v <;> first|exact .i _ _|exact .b _|exact .s _|exact .raw _ h
theorem Fl {w:World} {S:Bz} {m:List Blk} {H:Nat->Value} {l:Lf} {v:Value} (h:Rep w S l v):AVR (Bt w S m H) (.s (.one l)) v:=Bt.of_rep (m:=m) (H:=H) h
theorem Asd {w:World} {S:Bz} {m:List Blk} {H:Nat->Value} (v:Value):AVR (Bt w S m H) (cav v) v:=by
 cases v with
 | tuple vs =>
  show AVR _ (if vs.size=0 then .tup [] else .top) _
  by_cases h:vs.size=0
  ·simp only[h,if_true]
   have:vs = #[]:=Array.eq_empty_of_size_eq_zero h
   subst this
   exact H8
  ·simp only[h,if_false];trivial
 | agg cs =>
  show AVR _ (if cs.all (·.oneCell') then .s (.agg (cs.toList.map clf)) else .top) _
  by_cases h:cs.all (·.oneCell')=true
  ·rw[if_pos h]
   refine⟨cs,rfl,by simp,λj l u h1 h2=>?_⟩
   rw[zQ,h2] at h1
   simp only[xE,zJ] at h1
   subst h1
   refine Bt.of_rep (Acy ?_)
   have hu:u∈cs:=Array.mem_toList_iff.1 (zG h2)
   rw[wO] at h
   exact h u hu
  ·rw[if_neg h];trivial
 | bool _ | int _ _ | float _ _ | complex _ _ _ | string _ | pointer _ | slice _ _ _ | map _ | chan _ | func _ _ _ | nilFunc | iface _ _ | nilIface=>exact Fl (Acy rfl)
theorem Ba {c:Ctx} {st:AS} {a:Act} {w:World} {S:Bz} {H:Nat->Value} (r:Rel c st a w S H) (x:Operand):AVR (Bt w S st.m H) (B2 st x) (a.eval x):=by
 cases x with
 | tmp i=>exact r.tm i
 | const v=>exact Asd v
 | global g=>exact Fl (.raw _ rfl)
 | func f=>exact Fl (.raw _ rfl)
def AS.put (st:AS) (dst:Option Tmp) (x:AV):AS:=match dst with|some d=>st.upd d x|none=>st
def QR (c:Ctx) (Q:Exit->AS->Prop):Exit->Act->World->Prop:=λe a w=>∃ st S H,Rel c st a w S H/\Q e st
def AWL (P:Program) (c:Ctx) (ops:Array Oper) (Q:Exit->AS->Prop) (l:List Oper) (st:AS):Prop :=
 ∀ a w S H,Rel c st a w S H->wpList P ops (QR c Q) l a w
def AWC (P:Program) (c:Ctx) (x:Code) (Q:Exit->AS->Prop) (st:AS):Prop :=
 ∀ a w S H,Rel c st a w S H->x.wp P (QR c Q) a w
def OpV (P:Program) (c:Ctx) (st:AS) (op:Op) (ty:TypeId) (x:AV):Prop :=
 ∀ a w S H,Rel c st a w S H->∃ v,AVR (Bt w S st.m H) x v/\∀ d pos af g,(execOp a.eval ⟨d,op,ty,pos,af,g⟩).run P w=.ok (.value v) w
section
variable {P:Program} {c:Ctx} {st:AS} {ops:Array Oper} {Q:Exit->AS->Prop} {rest:List Oper} {op:Op} {ty:TypeId} {pos:String} {af:Array Edge} {x:AV} {d:Tmp}
theorem Ach (h:Q .normal st):AWL P c ops Q [] st:=λ_ _ S H r=>⟨st,S,H,r,h⟩
theorem Axw (h:OpV P c st op ty x) (hd:d<c.nt) (k:AWL P c ops Q rest (st.upd d x)):AWL P c ops Q (⟨some d,op,ty,pos,af,none⟩::rest) st:=by
 intro a w S H r
 obtain⟨v,hv,hrun⟩:=h a w S H r
 refine wpList_plain rfl λK hK=>?_
 unfold Oper.wp
 rw[hrun]
 exact hK _ _ (k _ _ _ _ (r.put hd hv))
theorem Axc {o:Oper} {j:Nat} {want:Bool} {dj:Tmp} (hj:(ops[j]?).bind (·.dst)=some dj) (ht:st.t dj=.s (.one (.b want)))
  (k:AWL P c ops Q ({ o with guard:=none }::rest) st) (hg:o.guard=some (j,want)) (hn:dj<c.nt):AWL P c ops Q (o::rest) st:=by
 intro a w S H r
 have hk:=k a w S H r
 have hr:=r.tm dj
 rw[ht] at hr
 have hv:a.tmps.getD dj undef=.bool want:=by
  have hr':Rep w S (.b want) (a.tmps.getD dj undef):=hr
  generalize a.tmps.getD dj undef=u at hr'
  cases hr'
  rfl
 have hs:a.tmps[dj]? = some (.bool want):=by
  have hd':dj<a.tmps.size:=by rw[r.nt];exact hn
  simp only[zF,zR hd',yI] at hv
  rw[zR hd',hv]
 have hw:Region.wanted o (yielded ops a.tmps)=true:=by
  simp only[Region.wanted,hg,yielded,hj,zA,hs,beq_self_eq_true]
 unfold wpList at hk ⊢
 rw[if_pos hw]
 rw[if_pos (by rfl)] at hk
 exact hk
theorem Abv {o:Oper} {j:Nat} {want:Bool} (hg:o.guard=some (j,want)) (hw:∀ a w S H,Rel c st a w S H->yielded ops a.tmps j≠some want)
  (hd:∀ d,o.dst=some d->d<c.nt) (k:AWL P c ops Q rest (st.put o.dst (.tup []))):AWL P c ops Q (o::rest) st:=by
 intro a w S H r
 have hww:Region.wanted o (yielded ops a.tmps)=false:=by
  simp only[Region.wanted,hg]
  have:=hw a w S H r
  simpa using this
 unfold wpList
 rw[if_neg (by rw[hww];simp)]
 cases hdst:o.dst with
 | none =>
  rw[hdst] at k
  exact k a w S H r
 | some d =>
  rw[hdst] at k
  exact k _ _ _ _ (r.put (hd d hdst) H8)
theorem An5 {dst:Option Tmp} {j:Nat} {want b:Bool} {dj:Tmp} (hj:(ops[j]?).bind (·.dst)=some dj) (ht:st.t dj=.s (.one (.b b))) (hb:(b==want)=false)
  (hd:∀ d,dst=some d->d<c.nt)
  (k:AWL P c ops Q rest (st.put dst (.tup []))):AWL P c ops Q (⟨dst,op,ty,pos,af,some (j,want)⟩::rest) st:=by
 refine Abv rfl (λa w S H r=>?_) hd k
 have hr:=r.tm dj
 rw[ht] at hr
 have hv:a.tmps.getD dj undef=.bool b:=by
  have hr':Rep w S (.b b) (a.tmps.getD dj undef):=hr
  generalize a.tmps.getD dj undef=u at hr'
  cases hr'
  rfl
 simp only[yielded,hj,zA]
 simp only[zF] at hv
 cases hs:a.tmps[dj]? with
 | none=>simp
 | some u =>
  rw[hs] at hv
  simp only[yI] at hv
  subst hv
  simp only[ne_eq,zJ]
  intro e
  subst e
  simp at hb
theorem Ah3 {dst:Option Tmp} {j:Nat} {want:Bool} {dj:Tmp} (hj:(ops[j]?).bind (·.dst)=some dj) (ht:st.t dj=.tup [])
  (hd:∀ d,dst=some d->d<c.nt)
  (k:AWL P c ops Q rest (st.put dst (.tup []))):AWL P c ops Q (⟨dst,op,ty,pos,af,some (j,want)⟩::rest) st:=by
 refine Abv rfl (λa w S H r=>?_) hd k
 have hr:=r.tm dj
 rw[ht] at hr
 obtain⟨vs,hv,hl,_⟩:=hr
 simp only[yielded,hj,zA]
 simp only[zF] at hv
 cases hs:a.tmps[dj]? with
 | none=>simp
 | some u =>
  rw[hs] at hv
  simp only[yI] at hv
  subst hv
  simp
theorem Ajl {l:List Oper} {t':Nat->AV} (h:t'=st.t) (k:AWL P c ops Q l ⟨t',st.m⟩):AWL P c ops Q l st:=by
 subst h;exact k
theorem Rf {t:Nat->AV} {d:Nat} {x:AV} (h:t d=x):upd t d x=t:=by
 funext j
 rw[Ej]
 split
 ·rename_i e;rw[e,h]
 ·rfl
theorem Ale {l:List Oper} {dj:Tmp} {b:Bool} (ht:st.t dj=.s (.one (.b b))) (k1:b=true->AWL P c ops Q l (st.upd dj (.s (.one (.b true))))) (k0:b=false->AWL P c ops Q l (st.upd dj (.s (.one (.b false))))):AWL P c ops Q l st:=by
 cases b
 ·have:=k0 rfl
  unfold AS.upd at this
  rw[Rf ht] at this
  exact this
 ·have:=k1 rfl
  unfold AS.upd at this
  rw[Rf ht] at this
  exact this
end
theorem Sk {w:World} {S:Bz} {k:IntKind} {n:Int} {v:Value} (h:Rep w S (.i k n) v):v=.int k n:=by cases h;rfl
theorem Tn {w:World} {S:Bz} {x:Bool} {v:Value} (h:Rep w S (.b x) v):v=.bool x:=by cases h;rfl
theorem Ajx {w:World} {S:Bz} {x:ByteArray} {v:Value} (h:Rep w S (.s x) v):v=.string x:=by cases h;rfl
theorem Eu {w:World} {S:Bz} {u v:Value} (h:Rep w S (.raw u) v):v=u:=by cases h;rfl
theorem Arh {w:World} {S:Bz} {n:Nat} {cs:List Lf} {v:Value} (h:Rep w S (.sl n cs) v):∃ a cap,v=.slice a n cap:=by cases h <;> exact⟨_,_,rfl⟩
def Lf.val? : Lf->Option Value
 | .i k n=>some (.int k n)
 | .b x=>some (.bool x)
 | .s x=>some (.string x)
 | .raw v=>some v
 | _=>none
theorem Amu {w:World} {S:Bz} {m:List Blk} {H:Nat->Value} {l:Lf} {u v:Value} (h:Bt w S m H l v) (hl:l.val? = some u):v=u:=by
 cases l <;> simp only[Lf.val?,zJ,reduceCtorEq] at hl
 ·subst hl;exact Sk h
 ·subst hl;exact Tn h
 ·subst hl;exact Ajx h
 ·subst hl;exact Eu h
section ops
variable {P:Program} {c:Ctx} {st:AS} {ty:TypeId}
theorem Ag3 {x:Operand}:OpV P c st (.move x) ty (B2 st x):=λa _ _ _ r=>⟨a.eval x,Ba r x,λ_ _ _ _=>rfl⟩
theorem Ai2 {x:Operand}:OpV P c st (.assign x) ty (B2 st x):=λa _ _ _ r=>⟨a.eval x,Ba r x,λ_ _ _ _=>rfl⟩
theorem Ah6 {b x y:Operand} {t:Bool} (hb:B2 st b=.s (.one (.b t))):OpV P c st (.pick b x y) ty (if t then B2 st x else B2 st y):=by
 intro a w S H r
 have h:=Ba r b
 rw[hb] at h
 have hv:a.eval b=.bool t:=Tn (h:Rep w S (.b t) (a.eval b))
 refine⟨if t then a.eval x else a.eval y,?_,λ_ _ _ _=>?_⟩
 ·cases t
  ·exact Ba r y
  ·exact Ba r x
 ·simp [execOp,hv,asBool]
theorem M2 {op:BinOp} {xt yt:TypeId} {x y:Operand} {l l' lz:Lf} {u u' z:Value} (hx:B2 st x=.s (.one l)) (hy:B2 st y=.s (.one l')) (vx:l.val? = some u) (vy:l'.val? = some u')
  (hr:∀ w,(do eqGuard op xt x y u u';binOp op xt u u':Sem Value).run P w=.ok z w) (vz:lz.val? = some z) (hz:z.oneCell'=true):OpV P c st (.binOp op xt x y yt) ty (.s (.one lz)):=by
 intro a w S H r
 have h1:=Ba r x
 rw[hx] at h1
 have h2:=Ba r y
 rw[hy] at h2
 have e1:a.eval x=u:=Amu h1 vx
 have e2:a.eval y=u':=Amu h2 vy
 refine⟨z,?_,λ_ _ _ _=>?_⟩
 ·show Bt w S st.m H lz z
  cases lz <;> simp only[Lf.val?,zJ,reduceCtorEq] at vz <;> subst vz
  ·exact Rep.i _ _
  ·exact Rep.b _
  ·exact Rep.s _
  ·exact Rep.raw _ hz
 ·have:=hr w
  simp only[execOp,e1,e2]
  simp only[Sem.run_bind] at this ⊢
  rw[this]
  rfl
theorem An3 (n m:Int):(n==m)=decide (n=m):=by
 by_cases h:n=m <;> simp [h]
section int
variable {xt yt:TypeId} {x y:Operand} {k k':IntKind} {n m:Int}
theorem Afo (hx:B2 st x=.s (.one (.i k n))) (hy:B2 st y=.s (.one (.i k m))):OpV P c st (.binOp .lss xt x y yt) ty (.s (.one (.b (decide (n<m))))) :=
 M2 hx hy rfl rfl (λw=>by simp [eqGuard_lss,binOp_lss]) rfl rfl
theorem Xr (hx:B2 st x=.s (.one (.i k n))) (hy:B2 st y=.s (.one (.i k m))):OpV P c st (.binOp .leq xt x y yt) ty (.s (.one (.b (decide (n<=m))))) :=
 M2 hx hy rfl rfl (λw=>by simp [eqGuard_leq,binOp_leq]) rfl rfl
theorem Ago (hx:B2 st x=.s (.one (.i k n))) (hy:B2 st y=.s (.one (.i k m))):OpV P c st (.binOp .gtr xt x y yt) ty (.s (.one (.b (decide (m<n))))) :=
 M2 hx hy rfl rfl (λw=>by simp [eqGuard_gtr,binOp_gtr]) rfl rfl
theorem Afk (hx:B2 st x=.s (.one (.i k n))) (hy:B2 st y=.s (.one (.i k m))):OpV P c st (.binOp .geq xt x y yt) ty (.s (.one (.b (decide (m<=n))))) :=
 M2 hx hy rfl rfl (λw=>by simp [eqGuard_geq,binOp_geq]) rfl rfl
theorem Nb (hx:B2 st x=.s (.one (.i k n))) (hy:B2 st y=.s (.one (.i k m))):OpV P c st (.binOp .eql xt x y yt) ty (.s (.one (.b (decide (n=m))))) :=
 M2 hx hy rfl rfl (λw=>by simp [eqGuard_at_int,binOp_eql,An3]) rfl rfl
theorem Ac3 (hx:B2 st x=.s (.one (.i k n))) (hy:B2 st y=.s (.one (.i k m))):OpV P c st (.binOp .neq xt x y yt) ty (.s (.one (.b (!decide (n=m))))) :=
 M2 hx hy rfl rfl (λw=>by simp [eqGuard_at_int,binOp_neq,bne,An3]) rfl rfl
theorem Agr (hx:B2 st x=.s (.one (.i k n))) (hy:B2 st y=.s (.one (.i k m))):OpV P c st (.binOp .add xt x y yt) ty (.s (.one (.i k (k.wrap (n+m))))) :=
 M2 hx hy rfl rfl (λw=>by simp [eqGuard_add,binOp_add,Op.intArith]) rfl rfl
theorem Anu (hx:B2 st x=.s (.one (.i k n))) (hy:B2 st y=.s (.one (.i k m))):OpV P c st (.binOp .sub xt x y yt) ty (.s (.one (.i k (k.wrap (n-m))))) :=
 M2 hx hy rfl rfl (λw=>by simp [eqGuard_sub,binOp_sub,Op.intArith]) rfl rfl
end int
theorem Ahg {xt yt:TypeId} {x y:Operand} {p q:Bool} (hu:P.underlying xt=some .bool) (hx:B2 st x=.s (.one (.b p))) (hy:B2 st y=.s (.one (.b q))):OpV P c st (.binOp .eql xt x y yt) ty (.s (.one (.b (p==q)))) :=
 M2 hx hy rfl rfl (λw=>by simp [eqGuard_at_bool,run_eql_bool w xt p q hu]) rfl rfl
theorem Aqe {xt yt:TypeId} {x y:Operand} {p q:Bool} (hu:P.underlying xt=some .bool) (hx:B2 st x=.s (.one (.b p))) (hy:B2 st y=.s (.one (.b q))):OpV P c st (.binOp .neq xt x y yt) ty (.s (.one (.b (!(p==q))))) :=
 M2 hx hy rfl rfl (λw=>by simp [eqGuard_at_bool,run_neq_bool w xt p q hu]) rfl rfl
theorem S7 {xt:TypeId} {x:Operand} {p:Bool} (hx:B2 st x=.s (.one (.b p))):OpV P c st (.unOp .not xt x) ty (.s (.one (.b (!p)))):=by
 intro a w S H r
 have h1:=Ba r x
 rw[hx] at h1
 have e1:a.eval x=.bool p:=Tn h1
 exact⟨.bool (!p),Fl (.b _),λ_ _ _ _=>by simp [execOp,e1,Op.unary]⟩
end ops
open Go.RowKit
structure TI (P:Program) (t:TypeId) (ag:Bool) (sz:Nat):Prop where
 u:∃ d,P.underlying t=some d/\(match d with | .struct _ | .array _ _=>true|_=>false)=ag
 i:(P.info? t).map (·.size)=some sz
structure FI (P:Program) (s:TypeId) (f off:Nat):Prop where
 h:∃ fs fld k,P.underlying s=some (.struct fs)/\fs[f]? = some fld/\fld.offset=off/\(P.info? fld.type).map (·.size)=some k/\k≠0
structure SI (P:Program) (t e sz:Nat):Prop where
 u:P.underlying t=some (.slice e)
 i:(P.info? e).map (·.size)=some sz
 p:0<sz
structure AI (P:Program) (t n e sz:Nat):Prop where
 u:P.underlying t=some (.array n e)
 i:(P.info? e).map (·.size)=some sz
 p:0<sz
 n:1<n
theorem Ci {P:Program} {e sz:Nat} (h:(P.info? e).map (·.size)=some sz) (w:World):(sizeOf e).run P w=.ok sz w:=by
 cases hq:P.info? e with
 | none=>simp [hq] at h
 | some i =>
  simp only[hq,xE,zJ] at h
  simp [sizeOf,typeInfo,hq,h]
theorem TI.run_isAgg {P:Program} {t:TypeId} {ag:Bool} {sz:Nat} (h:TI P t ag sz) (w:World):(isAgg t).run P w=.ok ag w:=by
 obtain⟨d,hu,hd⟩:=h.u
 unfold isAgg
 rw[Sem.run_bind,run_underlying hu w]
 subst hd
 cases d <;> simp
theorem TI.run_load1 {P:Program} {t:TypeId} (h:TI P t false 1) {w:World} {a:Addr} {v:Value} (hc:w.cell? a=some v):(loadVar t a).run P w=.ok v w:=by
 simp [loadVar,h.run_isAgg,hc]
theorem TI.run_loadN {P:Program} {t:TypeId} {sz:Nat} (h:TI P t true sz) {w:World} {g off:Nat} {vs:List Value} (hl:vs.length=sz)
  (hc:∀ (j:Nat) (v:Value),vs[j]? = some v->w.cell? ⟨g,off+j,none⟩=some v):(loadVar t ⟨g,off,none⟩).run P w=.ok (.agg vs.toArray) w:=by
 have:=run_loadCells_list (P:=P) w ⟨g,off,none⟩ vs (λj v hv=>by rw[Addr.add_lit];exact hc j v hv)
 rw[hl] at this
 simp [loadVar,h.run_isAgg,Ci h.i,this]
inductive Aba (st:AS):Lf->List Lf->Prop
 | lp (p off:Nat) (cs:List Lf) (h:st.m[p]? = some (.box cs)):Aba st (.lp p off) (cs.drop off)
 | cp (cs:List Lf):Aba st (.cp cs) cs
 | ap (p n off e sz k:Nat) (cs:List Lf) (h:st.m[p]? = some (.arr e sz k cs)) (hn:n*sz=cs.length):Aba st (.ap p n off) (cs.drop off)
theorem Tb {c:Ctx} {st:AS} {a:Act} {w:World} {S:Bz} {H:Nat->Value} (r:Rel c st a w S H) {l:Lf} {cs:List Lf} (hp:Aba st l cs) {v:Value} (hv:Bt w S st.m H l v) :
  ∃ g off,v=.pointer (some ⟨g,off,none⟩)/\∀ (j:Nat) (x:Lf),cs[j]? = some x->∃ u,w.cell? ⟨g,off+j,none⟩=some u/\Bt w S st.m H x u:=by
 cases hp with
 | lp p off cs h =>
  obtain⟨_,g,hg,rfl⟩:=hv
  refine⟨g,off,rfl,λj x hx=>?_⟩
  obtain⟨g',e,cur,h1,h2,h3⟩:=r.bl p _ h
  rw[hg] at h1
  cases h1
  rw[yH] at hx
  obtain⟨u,hu,hr⟩:=h3.get hx
  exact⟨u,by rw[cell_of_row w _ _ cur e (0,0) h2];simpa using hu,hr⟩
 | cp =>
  cases hv with
  | cp cs bk off vals hs hr=>exact⟨bk,off,rfl,λj x hx=>⟨vals j,(hs j x hx).2,Bt.of_rep (hr j x hx)⟩⟩
 | ap p n off e sz k cs h hn =>
  obtain⟨_,_,hr⟩:=hv
  obtain⟨g,cp,h1,rfl⟩:=(hr e sz k cs h).2 hn
  refine⟨g,off,rfl,λj x hx=>?_⟩
  obtain⟨h0,hk,n',vals,hown,hls,_⟩:=r.bl p _ h
  rw[h1] at hown
  rw[yH] at hx
  obtain⟨u,hu,hru⟩:=hls.get hx
  have hc:=hown.cells (g:=g) rfl (off+j) u hu
  rw[Addr.add_lit,yK] at hc
  exact⟨u,hc,Bt.of_rep hru⟩
section
variable {P:Program} {c:Ctx} {st:AS} {ty:TypeId}
theorem C5 {t:TypeId} {x:Operand} {l y:Lf} {cs:List Lf} (ti:TI P t false 1) (hx:B2 st x=.s (.one l)) (hp:Aba st l cs) (hy:cs[0]? = some y) :
  OpV P c st (.load t x) ty (.s (.one y)):=by
 intro a w S H r
 have h1:=Ba r x
 rw[hx] at h1
 obtain⟨g,off,hv,hc⟩:=Tb r hp h1
 obtain⟨u,hu,hr⟩:=hc 0 y hy
 rw[kF] at hu
 refine⟨u,hr,λ_ _ _ _=>?_⟩
 simp [execOp,hv,Instr.loadAt,Instr.sureAddr,ti.run_load1 hu]
theorem Uh {t:TypeId} {sz:Nat} {x:Operand} {l:Lf} {cs:List Lf} (ti:TI P t true sz) (hx:B2 st x=.s (.one l)) (hp:Aba st l cs) (hy:sz<=cs.length) :
  OpV P c st (.load t x) ty (.s (.agg (cs.take sz))):=by
 intro a w S H r
 have h1:=Ba r x
 rw[hx] at h1
 obtain⟨g,off,hv,hc⟩:=Tb r hp h1
 have hall:∃ vs:List Value,vs.length=sz/\∀ (j:Nat) (u:Value),vs[j]? = some u->w.cell? ⟨g,off+j,none⟩=some u/\∃ y,cs[j]? = some y/\Bt w S st.m H y u:=by
  refine⟨(List.range sz).map λj=>(w.cell? ⟨g,off+j,none⟩).getD undef,by simp,λj u hu=>?_⟩
  rw[zQ] at hu
  have hj:j<sz:=by
   rcases zU j sz with h|h
   ·exact h
   ·rw[yL (by simpa using h)] at hu;cases hu
  rw[jZ hj] at hu
  simp only[xE,zJ] at hu
  obtain⟨u',hu',hr'⟩:=hc j _ (zC (z6 hj hy))
  rw[hu'] at hu
  simp only[yI] at hu
  subst hu
  exact⟨hu',_,zC (z6 hj hy),hr'⟩
 obtain⟨vs,hl,hvs⟩:=hall
 refine⟨.agg vs.toArray,⟨vs.toArray,rfl,by simp [hl,wV hy],λj y u h1 h2=>?_⟩,λ_ _ _ _=>?_⟩
 ·obtain⟨_,y',h3,h4⟩:=hvs j u (by simpa using h2)
  have:(cs.take sz)[j]? = some y:=h1
  rw[yF] at this
  split at this
  ·rw[h3] at this;cases this;exact h4
  ·cases this
 ·have:=ti.run_loadN hl (λj v hj=>(hvs j v hj).1)
  simp [execOp,hv,Instr.loadAt,Instr.sureAddr,this]
def Lf.adv:Lf->Nat->Lf
 | .lp p off,n=>.lp p (off+n)
 | .cp cs,n=>.cp (cs.drop n)
 | .ap p m off,n=>.ap p m (off+n)
 | l,_=>l
def Lf.isPtr:Lf->Bool
 | .lp .. | .cp _ | .ap .. =>true
 | _=>false
theorem At6 {w:World} {S:Bz} {m:List Blk} {H:Nat->Value} {l:Lf} {v:Value} (hl:l.isPtr=true) (h:Bt w S m H l v) (hcur:∀ p n off,l=.ap p n off->∃ e sz k cs,m[p]? = some (.arr e sz k cs)/\n*sz=cs.length) :
  ∃ g off,v=.pointer (some ⟨g,off,none⟩)/\∀ n,Bt w S m H (l.adv n) (.pointer (some ⟨g,off+n,none⟩)):=by
 cases l with
 | lp p off =>
  obtain⟨hp,g,hg,rfl⟩:=h
  exact⟨g,off,rfl,λn=>⟨hp,g,hg,rfl⟩⟩
 | cp cs =>
  cases h with
  | cp cs bk off vals hs hr =>
   refine⟨bk,off,rfl,λn=>?_⟩
   refine Rep.cp (cs.drop n) bk (off+n) (λj=>vals (n+j)) (λj x hx=>?_) (λj x hx=>?_)
   ·rw[yH] at hx
    rw[jN]
    exact hs _ _ hx
   ·rw[yH] at hx
    exact hr _ _ hx
 | ap p n off =>
  obtain⟨hp,hoo,hr⟩:=h
  obtain⟨e,sz,k,cs,hm,hn⟩:=hcur p n off rfl
  obtain⟨g,c',h1,rfl⟩:=(hr e sz k cs hm).2 hn
  refine⟨g,off,rfl,λq=>⟨hp,⟨rfl,hoo.2⟩,λe' sz' k' cs' hm'=>?_⟩⟩
  rw[hm] at hm'
  cases hm'
  exact⟨kC hn,λ_=>⟨g,c',h1,rfl⟩⟩
 | _=>cases hl
theorem O9 {s f off:Nat} {x:Operand} {l:Lf} (fi:FI P s f off) (hx:B2 st x=.s (.one l)) (hl:l.isPtr=true)
  (hcur:∀ p n o,l=.ap p n o->∃ e sz k cs,st.m[p]? = some (.arr e sz k cs)/\n*sz=cs.length):OpV P c st (.fieldAddr s x f) ty (.s (.one (l.adv off))):=by
 intro a w S H r
 have h1:=Ba r x
 rw[hx] at h1
 obtain⟨g,o,hv,hr⟩:=At6 hl h1 hcur
 obtain⟨fs,fld,k,hu,hf,ho,hi,hk⟩:=fi.h
 refine⟨_,hr off,λ_ _ _ _=>?_⟩
 subst ho
 have hadd:(⟨g,o,none⟩:Addr).add fld.offset=⟨g,o+fld.offset,none⟩:=Addr.add_lit _ _ _
 simp [execOp,hv,Instr.fieldAt,Instr.sureAddr,run_underlying hu,hf,fieldPlace,Ci hi,hk,hadd]
theorem Ah {s f off:Nat} {x:Operand} {p o:Nat} (fi:FI P s f off) (hx:B2 st x=.s (.one (.lp p o))):OpV P c st (.fieldAddr s x f) ty (.s (.one (.lp p (o+off)))) :=
 O9 fi hx rfl (λ_ _ _ h=>by cases h)
theorem A9 {s f off:Nat} {x:Operand} {cs:List Lf} (fi:FI P s f off) (hx:B2 st x=.s (.one (.cp cs))):OpV P c st (.fieldAddr s x f) ty (.s (.one (.cp (cs.drop off)))) :=
 O9 fi hx rfl (λ_ _ _ h=>by cases h)
theorem Mc {s f off:Nat} {x:Operand} {p n o e sz k:Nat} {cs:List Lf} (fi:FI P s f off) (hx:B2 st x=.s (.one (.ap p n o))) (hm:st.m[p]? = some (.arr e sz k cs)) (hn:n*sz=cs.length) :
  OpV P c st (.fieldAddr s x f) ty (.s (.one (.ap p n (o+off)))) :=
 O9 fi hx rfl (λ_ _ _ h=>by cases h;exact⟨e,sz,k,cs,hm,hn⟩)
theorem N4 {t e sz:Nat} (si:SI P t e sz) (w:World) (g off n cap:Nat) (k:IntKind) (j:Int) (h0:0<=j) (h1:j<n) :
  (Instr.indexAt t (.slice (some ⟨g,off,none⟩) n cap) (.int k j)).run P w=.ok (.pointer (some ⟨g,off+j.toNat*sz,none⟩)) w:=by
 have hadd:(⟨g,off,none⟩:Addr).add (j.toNat*sz)=⟨g,off+j.toNat*sz,none⟩:=Addr.add_lit _ _ _
 simp [Instr.indexAt,asIntOf,run_underlying si.u,h0,h1,Ci si.i,hadd]
theorem Ys {t e sz:Nat} {x y:Operand} {n:Nat} {cs:List Lf} {k:IntKind} {j:Int} (si:SI P t e sz) (hx:B2 st x=.s (.one (.sl n cs))) (hy:B2 st y=.s (.one (.i k j))) (h0:0<=j) (h1:j<n) :
  OpV P c st (.indexAddr t x y) ty (.s (.one (.cp (cs.drop (j.toNat*sz))))):=by
 intro a w S H r
 have hx':=Ba r x
 rw[hx] at hx'
 have hy':=Ba r y
 rw[hy] at hy'
 have ey:a.eval y=.int k j:=Sk hy'
 have hx'':Rep w S (.sl n cs) (a.eval x):=hx'
 generalize hu:a.eval x=u at hx''
 cases hx'' with
 | sl0 a' cap=>simp at h1;omega
 | sl n cs bk off cap vals hc hm hs hr =>
  refine⟨.pointer (some ⟨bk,off+j.toNat*sz,none⟩),Fl ?_,λ_ _ _ _=>?_⟩
  ·refine Rep.cp _ bk _ (λi=>vals (j.toNat*sz+i)) (λi l hl=>?_) (λi l hl=>?_)
   ·rw[yH] at hl
    rw[jN]
    exact hs _ _ hl
   ·rw[yH] at hl
    exact hr _ _ hl
  ·simp [execOp,hu,ey,N4 si w bk off n cap k j h0 h1]
theorem Y7 {t e sz:Nat} {x y:Operand} {p n e' kk:Nat} {cs:List Lf} {k:IntKind} {j:Int} (si:SI P t e sz) (hx:B2 st x=.s (.one (.ls p n))) (hy:B2 st y=.s (.one (.i k j)))
  (hm:st.m[p]? = some (.arr e' sz kk cs)) (hn:n*sz=cs.length) (h0:0<=j) (h1:j<n) :
  OpV P c st (.indexAddr t x y) ty (.s (.one (.ap p n (j.toNat*sz)))):=by
 intro a w S H r
 have hx':=Ba r x
 rw[hx] at hx'
 have hy':=Ba r y
 rw[hy] at hy'
 have ey:a.eval y=.int k j:=Sk hy'
 obtain⟨hp,_,hr⟩:=hx'
 have hH:=(hr _ _ _ _ hm).2 hn
 obtain⟨hsz,_,n',vals,hown,hls,_⟩:=r.bl p _ hm
 have hn':n'=n:=by
  have h3:=hown.1
  rw[<- hls.1,<- hn] at h3
  exact(jY hsz h3).symm
 subst hn'
 have hsh:∃ g cap,H p=.slice (some ⟨g,0,none⟩) n' cap:=by
  rcases hown.2 with⟨hv,h0'⟩|⟨g,cap,cur,hv,_⟩
  ·subst h0';simp at h1;omega
  ·exact⟨g,cap,hv⟩
 obtain⟨g,cap,hg⟩:=hsh
 refine⟨.pointer (some ⟨g,j.toNat*sz,none⟩),⟨hp,⟨rfl,by rw[hg];exact λh=>by cases h⟩,λe2 sz2 k2 cs2 hm2=>?_⟩,λ_ _ _ _=>?_⟩
 ·rw[hm] at hm2
  cases hm2
  exact⟨kC hn,λ_=>⟨g,cap,hg,rfl⟩⟩
 ·have:=N4 si w g 0 n' cap k j h0 h1
  simp only[yK] at this
  simp [execOp,hH,hg,ey,this]
theorem Ei {x:Operand} {xs:List SV} {ix:Nat} {y:SV} (hx:B2 st x=.tup xs) (hy:xs[ix]? = some y):OpV P c st (.extract x ix) ty (.s y):=by
 intro a w S H r
 have hx':=Ba r x
 rw[hx] at hx'
 obtain⟨vs,hv,hl,hr⟩:=hx'
 have hj:ix<vs.size:=by rw[<- hl];exact(zB.1 hy).1
 have hg:vs[ix]? = some vs[ix]:=zR hj
 refine⟨vs[ix],hr ix y _ hy hg,λ_ _ _ _=>?_⟩
 simp [execOp,hv,Instr.extract,hg]
theorem Mn {t:TypeId} {x:Operand} {n:Nat} {cs:List Lf} {e sz:Nat} (si:SI P t e sz) (hx:B2 st x=.s (.one (.sl n cs))) :
  OpV P c st (.call { callee:=.builtin .len,args:=#[x],argTypes:=#[t] }) ty (.s (.one (.i .i64 n))):=by
 intro a w S H r
 have hx':=Ba r x
 rw[hx] at hx'
 obtain⟨ad,cap,hv⟩:=Arh (hx':Rep w S (.sl n cs) (a.eval x))
 refine⟨.int .i64 n,Fl (.i _ _),λ_ _ _ _=>?_⟩
 simp [execOp,resolve,invoke,builtin,Builtin.len_,run_underlying si.u,hv,goInt]
theorem Ef {t:TypeId} {x:Operand} {e sz:Nat} (si:SI P t e sz) (hx:B2 st x=.s (.one (.raw (.slice none 0 0)))) :
  OpV P c st (.call { callee:=.builtin .len,args:=#[x],argTypes:=#[t] }) ty (.s (.one (.i .i64 0))):=by
 intro a w S H r
 have hx':=Ba r x
 rw[hx] at hx'
 have hv:a.eval x=.slice none 0 0:=Eu hx'
 refine⟨.int .i64 0,Fl (.i _ _),λ_ _ _ _=>?_⟩
 simp [execOp,resolve,invoke,builtin,Builtin.len_,run_underlying si.u,hv,goInt]
theorem Fw {t:TypeId} {x:Operand} {p n e sz e' kk:Nat} {cs:List Lf} (si:SI P t e sz) (hx:B2 st x=.s (.one (.ls p n))) (hm:st.m[p]? = some (.arr e' sz kk cs)) (hn:n*sz=cs.length) :
  OpV P c st (.call { callee:=.builtin .len,args:=#[x],argTypes:=#[t] }) ty (.s (.one (.i .i64 n))):=by
 intro a w S H r
 have hx':=Ba r x
 rw[hx] at hx'
 obtain⟨hp,_,hr⟩:=hx'
 have hH:=(hr _ _ _ _ hm).2 hn
 obtain⟨hsz,_,n',vals,hown,hls,_⟩:=r.bl p _ hm
 have hn':n'=n:=by
  have h3:=hown.1
  rw[<- hls.1,<- hn] at h3
  exact(jY hsz h3).symm
 subst hn'
 have hsh:∃ g cap,H p=.slice g n' cap:=by
  rcases hown.2 with⟨hv,h0'⟩|⟨g,cap,cur,hv,_⟩
  ·exact⟨none,0,by rw[hv,h0']⟩
  ·exact⟨_,cap,hv⟩
 obtain⟨g,cap,hg⟩:=hsh
 refine⟨.int .i64 n',Fl (.i _ _),λ_ _ _ _=>?_⟩
 simp [execOp,resolve,invoke,builtin,Builtin.len_,run_underlying si.u,hH,hg,goInt]
theorem Afz {ts:Array TypeId} {x y:Operand} {k k':IntKind} {n m:Int} (hx:B2 st x=.s (.one (.i k n))) (hy:B2 st y=.s (.one (.i k' m))) :
  OpV P c st (.call { callee:=.builtin .min,args:=#[x,y],argTypes:=ts }) ty (.s (.one (.i k (if m<n then m else n)))):=by
 intro a w S H r
 have hx':=Ba r x
 rw[hx] at hx'
 have hy':=Ba r y
 rw[hy] at hy'
 have ex:a.eval x=.int k n:=Sk hx'
 have ey:a.eval y=.int k' m:=Sk hy'
 refine⟨.int k _,Fl (.i _ _),λ_ _ _ _=>?_⟩
 simp [execOp,resolve,invoke,builtin,ex,ey,run_min_int2]
theorem Atq {ts:Array TypeId} {x y:Operand} {k k':IntKind} {n m:Int} (hx:B2 st x=.s (.one (.i k n))) (hy:B2 st y=.s (.one (.i k' m))) :
  OpV P c st (.call { callee:=.builtin .max,args:=#[x,y],argTypes:=ts }) ty (.s (.one (.i k (if m > n then m else n)))):=by
 intro a w S H r
 have hx':=Ba r x
 rw[hx] at hx'
 have hy':=Ba r y
 rw[hy] at hy'
 have ex:a.eval x=.int k n:=Sk hx'
 have ey:a.eval y=.int k' m:=Sk hy'
 refine⟨.int k _,Fl (.i _ _),λ_ _ _ _=>?_⟩
 simp [execOp,resolve,invoke,builtin,ex,ey,run_max_int2]
end
open Go.RowKit
theorem Rel.newBox {c:Ctx} {st:AS} {a:Act} {w:World} {S:Bz} {H:Nat->Value} (r:Rel c st a w S H) {e:TypeId} {cells:Array Value} {ls:List Lf} (hls:LsR (Bt w S st.m H) ls cells.toList) :
  Rel c ⟨st.t,st.m++[.box ls]⟩ a (w.alloc (.cells cells e)) S (λp=>if p=st.m.length then .pointer (some ⟨w.heap.size,0,none⟩) else H p):=by
 have hx:Ext w S (w.alloc (.cells cells e)) S:=Ext.alloc w S _
 have hS:InH (w.alloc (.cells cells e)) S:=r.sl.ext hx
 have r':=r.ext hx hS
 have hmm:∀ (p:Nat) (b:Blk),(st.m++[Blk.box ls])[p]? = some b->(p<st.m.length/\st.m[p]? = some b)\/(p=st.m.length/\b=.box ls):=by
  intro p b h
  rcases zU p st.m.length with hp|hp
  ·rw[zK hp] at h;exact .inl ⟨hp,h⟩
  ·rw[z2 hp] at h
   rcases Nat.eq_or_lt_of_le hp with he|he
   ·rw[<- he] at h;simp at h;exact .inr ⟨he.symm,h.symm⟩
   ·rw[yL (by simp;omega)] at h;cases h
 have hg:∀ l v,Bt (w.alloc (.cells cells e)) S st.m H l v->Bt (w.alloc (.cells cells e)) S (st.m++[.box ls]) (λp=>if p=st.m.length then .pointer (some ⟨w.heap.size,0,none⟩) else H p) l v:=by
  intro l v
  refine Bt.mono (λb i h=>⟨h,rfl⟩) (by simp) (λp hp=>if_neg (Nat.ne_of_lt hp)) (λp e sz k cs hp hm=>⟨k,cs,?_,rfl⟩)
  rw[zK hp] at hm
  exact hm
 have hH:∀ p,p<st.m.length->(λp=>if p=st.m.length then Value.pointer (some ⟨w.heap.size,0,none⟩) else H p) p=H p:=λp hp=>if_neg (Nat.ne_of_lt hp)
 have hHn:(λp=>if p=st.m.length then Value.pointer (some ⟨w.heap.size,0,none⟩) else H p) st.m.length=.pointer (some ⟨w.heap.size,0,none⟩):=if_pos rfl
 generalize hHH:(λp=>if p=st.m.length then Value.pointer (some ⟨w.heap.size,0,none⟩) else H p)=H' at *
 refine⟨r'.nt,r'.df,λi=>AVR.mono hg (r'.tm i),λp b hb=>?_,λp b g hb ho=>?_,λp q b b' g hb hb' ho ho'=>?_,λp b g i hb ho hs=>?_,hS,r'.ex,yP r'.kl (by simp),λp g hp hh=>?_,λp e' sz k cs hp hm=>?_,λp hp hne=>by rw[hH p (z6 hp r'.kl)];exact r'.ku p hp hne⟩
 ·rcases hmm p b hb with⟨hp,hb'⟩|⟨rfl,rfl⟩
  ·have hr:=r'.bl p b hb'
   rw[hH p hp]
   cases b with
   | dead=>trivial
   | hole=>exact hr
   | obj g mk cs=>exact hr
   | tab mk cs=>exact hr
   | arn e sz g n cap cs =>
    obtain⟨h1,cur,h2,h3,h4⟩:=hr
    exact⟨h1,cur,h2,h3,h4.mono hg⟩
   | box cs =>
    obtain⟨g,e,cur,h1,h2,h3⟩:=hr
    exact⟨g,e,cur,h1,h2,h3.mono hg⟩
   | arr e sz k cs=>exact hr
  ·rw[hHn]
   exact⟨w.heap.size,e,cells,rfl,heap_alloc_new w _,(hls.mono (λl v h=>Bt.mono (hx.keeps r.sl) (zO _) (λ_ _=>rfl) (λp e sz k cs _ hm=>⟨k,cs,hm,rfl⟩) h)).mono hg⟩
 ·rcases hmm p b hb with⟨hp,hb'⟩|⟨rfl,rfl⟩
  ·rw[hH p hp] at ho
   exact r'.lo p b g hb' ho
  ·rw[hHn] at ho
   simp only[Blk.own,Cz,zJ] at ho
   subst ho
   exact⟨.inl r.ex.size,by simp⟩
 ·have old:∀ p b,p<st.m.length->st.m[p]? = some b->b.own (H p)=some g->g<w.heap.size:=λp b _ hb ho=>(r.lo p b g hb ho).2
  rcases hmm p b hb with⟨hp,hb1⟩|⟨rfl,rfl⟩ <;> rcases hmm q b' hb' with⟨hq,hb2⟩|⟨rfl,rfl⟩
  ·rw[hH p hp] at ho;rw[hH q hq] at ho'
   exact r.inj p q b b' g hb1 hb2 ho ho'
  ·rw[hH p hp] at ho;rw[hHn] at ho'
   simp only[Blk.own,Cz,zJ] at ho'
   have:=old p b hp hb1 ho
   omega
  ·rw[hH q hq] at ho';rw[hHn] at ho
   simp only[Blk.own,Cz,zJ] at ho
   have:=old q b' hq hb2 ho'
   omega
  ·rfl
 ·rcases hmm p b hb with⟨hp,hb'⟩|⟨rfl,rfl⟩
  ·rw[hH p hp] at ho
   exact r.sb p b g i hb' ho hs
  ·rw[hHn] at ho
   simp only[Blk.own,Cz,zJ] at ho
   subst ho
   exact absurd (r.sl.1 _ i hs) (wS _)
 ·exact(hH p (z6 hp r'.kl)).trans (r'.kh p g hp hh)
 ·have hp':=z6 hp r'.kl
  rw[hH p hp']
  refine r'.kr p e' sz k cs hp ?_
  rw[zK hp'] at hm
  exact hm
structure ZI (P:Program) (t:TypeId) (zl:List Lf):Prop where
 h:∃ i z,P.info? t=some i/\i.zero=some z/\z.cells.toList.map clf=zl/\z.cells.all (·.oneCell')=true
theorem Acv {w:World} {S:Bz} {m:List Blk} {H:Nat->Value} {cs:Array Value} (h:cs.all (·.oneCell')=true):LsR (Bt w S m H) (cs.toList.map clf) cs.toList:=by
 refine⟨by simp,λj l u h1 h2=>?_⟩
 rw[zQ,h2] at h1
 simp only[xE,zJ] at h1
 subst h1
 refine Bt.of_rep (Acy ?_)
 have hu:u∈cs:=Array.mem_toList_iff.1 (zG h2)
 rw[wO] at h
 exact h u hu
section
variable {P:Program} {c:Ctx} {st:AS} {ops:Array Oper} {Q:Exit->AS->Prop} {rest:List Oper} {ty:TypeId} {pos:String} {af:Array Edge} {d:Tmp}
theorem Abu {op:Op} {ls:List Lf} (hd:d<c.nt)
  (h:∀ a w S H,Rel c st a w S H->∃ cells e,LsR (Bt w S st.m H) ls cells.toList/\(execOp a.eval ⟨some d,op,ty,pos,af,none⟩).run P w=.ok (.value (.pointer (some ⟨w.heap.size,0,none⟩))) (w.alloc (.cells cells e)))
  (k:AWL P c ops Q rest ⟨Go.Proofs.YtkblaobhhoebaaaGreat.Abs.upd st.t d (.s (.one (.lp st.m.length 0))),st.m++[.box ls]⟩):AWL P c ops Q (⟨some d,op,ty,pos,af,none⟩::rest) st:=by
 intro a w S H r
 obtain⟨cells,e,hls,hrun⟩:=h a w S H r
 refine wpList_plain rfl λK hK=>?_
 unfold Oper.wp
 rw[hrun]
 refine hK _ _ (k _ _ _ _ ((r.newBox (e:=e) hls).put (d:=d) (x:=.s (.one (.lp st.m.length 0))) hd ?_))
 exact⟨by simp,w.heap.size,by simp,rfl⟩
theorem Alg {t:TypeId} {zl:List Lf} (zi:ZI P t zl) (hd:d<c.nt)
  (k:AWL P c ops Q rest ⟨Go.Proofs.YtkblaobhhoebaaaGreat.Abs.upd st.t d (.s (.one (.lp st.m.length 0))),st.m++[.box zl]⟩):AWL P c ops Q (⟨some d,.alloc t,ty,pos,af,none⟩::rest) st:=by
 refine Abu hd (λa w S H r=>?_) k
 obtain⟨i,z,hi,hz,hl,ho⟩:=zi.h
 subst hl
 exact⟨z.cells,t,Acv ho,by simp [execOp,Instr.alloc,zeroValue,typeInfo,hi,hz,newVar,newRow]⟩
def SV.cells:SV->List Lf
 | .one l=>[l]
 | .agg ls=>ls
theorem R2 {R:Lf->Value->Prop} {x:SV} {v:Value} (h:SVR R x v) (ho:∀ l v,R l v->v.oneCell'=true):LsR R x.cells v.cells.toList:=by
 cases x with
 | one l =>
  have h':R l v:=h
  have hv:v.cells = #[v]:=by
   have:=ho l v h'
   cases v <;> first|rfl|cases this
  rw[hv]
  refine⟨rfl,λj l' u h1 h2=>?_⟩
  cases j with
  | zero =>
   simp only[SV.cells,yT,zJ] at h1 h2
   subst h1;subst h2
   exact h'
  | succ j=>simp [SV.cells] at h1
 | agg ls =>
  obtain⟨cs,rfl,hl⟩:=h
  exact hl
theorem Atk {t:TypeId} {y:Operand} {x:SV} (hx:B2 st y=.s x) (hd:d<c.nt)
  (k:AWL P c ops Q rest ⟨Go.Proofs.YtkblaobhhoebaaaGreat.Abs.upd st.t d (.s (.one (.lp st.m.length 0))),st.m++[.box x.cells]⟩):AWL P c ops Q (⟨some d,.box t y,ty,pos,af,none⟩::rest) st:=by
 refine Abu hd (λa w S H r=>?_) k
 have h:=Ba r y
 rw[hx] at h
 exact⟨(a.eval y).cells,t,R2 h (λl v=>Bt.oneCell),by simp [execOp,Instr.box,newVar,newRow]⟩
def Ky (cs:List Lf) (off:Nat) (ls:List Lf):List Lf:=cs.take off++ls++cs.drop (off+ls.length)
theorem getElem?_putAt {α:Type} (cs ls:List α) (off j:Nat) (h:off+ls.length<=cs.length) :
  (cs.take off++ls++cs.drop (off+ls.length))[j]? = if j<off then cs[j]? else if j<off+ls.length then ls[j-off]? else cs[j]? := by
 have h1:(cs.take off).length=off:=by simp;omega
 by_cases a:j<off
 ·rw[if_pos a,xM,zK (by omega),yF,if_pos a]
 ·rw[if_neg a]
  by_cases b:j<off+ls.length
  ·rw[if_pos b,zK (by simp;omega),z2 (by omega),h1]
  ·rw[if_neg b,z2 (by simp;omega),yH]
   congr 1
   simp
   omega
theorem Rel.setBox {c:Ctx} {st:AS} {a:Act} {w:World} {S:Bz} {H:Nat->Value} (r:Rel c st a w S H) {p off g:Nat} {cs ls:List Lf} {e:TypeId} {cur:Array Value} {us:List Value}
  (hm:st.m[p]? = some (.box cs)) (hH:H p=.pointer (some ⟨g,0,none⟩)) (hg:w.heap[g]? = some (.cells cur e (0,0))) (hls:LsR (Bt w S st.m H) ls us) (hfit:off+ls.length<=cs.length) :
  Rel c ⟨st.t,st.m.set p (.box (Ky cs off ls))⟩ a (w.setRow g (cur.toList.take off++us++cur.toList.drop (off+us.length)).toArray) S H:=by
 have hown:(Blk.box cs).own (H p)=some g:=by rw[hH];rfl
 have hlo:=r.lo p _ g hm hown
 have hp:p<st.m.length:=(zB.1 hm).1
 have hst:∀ i,¬ S g i:=λi hs=>by have:=r.sb p _ g i hm hown hs;simp [Blk.stab] at this
 have hkeep:∀ b i,S b i->S b i/\(w.setRow g (cur.toList.take off++us++cur.toList.drop (off+us.length)).toArray).cell? ⟨b,i,none⟩=w.cell? ⟨b,i,none⟩:=by
  intro b i hs
  refine⟨hs,cell_setRow_other w g _ ⟨b,i,none⟩ (λe=>hst i ?_)⟩
  have e':b=g:=by first|exact e|exact e.symm
  subst e'
  exact hs
 have hgr:∀ l v,Bt w S st.m H l v->Bt (w.setRow g (cur.toList.take off++us++cur.toList.drop (off+us.length)).toArray) S (st.m.set p (.box (Ky cs off ls))) H l v:=by
  intro l v
  refine Bt.mono hkeep (by simp) (λ_ _=>rfl) (λq e sz k cs' hq hm'=>⟨k,cs',?_,rfl⟩)
  by_cases hqp:p=q
  ·subst hqp;rw[zI hp] at hm';cases hm'
  ·rw[zM hqp] at hm';exact hm'
 have hoth:∀ k,k≠g->(w.setRow g (cur.toList.take off++us++cur.toList.drop (off+us.length)).toArray).heap[k]? = w.heap[k]? := λk hk=>setRow_other w g k _ hk
 have hsame:(w.setRow g (cur.toList.take off++us++cur.toList.drop (off+us.length)).toArray).heap[g]? = some (.cells (cur.toList.take off++us++cur.toList.drop (off+us.length)).toArray e (0,0)):=setRow_heap w g cur _ e _ hg
 have hcur:LsR (Bt w S st.m H) cs cur.toList:=by
  obtain⟨g',e',cur',h1,h2,h3⟩:=r.bl p _ hm
  rw[hH] at h1
  cases h1
  rw[hg] at h2
  cases h2
  exact h3
 have hmm:∀ (q:Nat) (b:Blk),(st.m.set p (.box (Ky cs off ls)))[q]? = some b->(q=p/\b=.box (Ky cs off ls))\/(q≠p/\st.m[q]? = some b):=by
  intro q b h
  by_cases hqp:p=q
  ·subst hqp;rw[zI hp] at h;cases h;exact .inl ⟨rfl,rfl⟩
  ·rw[zM hqp] at h;exact .inr ⟨λe=>hqp e.symm,h⟩
 have hothb:∀ (q:Nat) (b:Blk) (g':Nat),q≠p->st.m[q]? = some b->b.own (H q)=some g'->g'≠g:=λq b g' hq hb ho e=>by
  subst e
  exact hq (r.inj q p b _ g' hb hm ho hown)
 generalize hw':w.setRow g (cur.toList.take off++us++cur.toList.drop (off+us.length)).toArray=w' at *
 have hsz:w'.heap.size=w.heap.size:=by rw[<- hw'];simp
 refine⟨r.nt,r.df,λi=>AVR.mono hgr (r.tm i),λq b hb=>?_,λq b g' hb ho=>?_,λq q' b b' g' hb hb' ho ho'=>?_,λq b g' i hb ho hs=>?_,r.sl.turn (·=g) (λg' i e' hs=>absurd hs (by subst e';exact hst i)) (λq _ hne=>hoth q hne) (kC hsz.symm) (λb i hs=>(hkeep b i hs).2),?_,(by simpa using r.kl),r.kh,λq e' sz k cs' hq hm'=>?_,r.ku⟩
 ·rcases hmm q b hb with⟨rfl,rfl⟩|⟨hq,hb'⟩
  ·refine⟨g,e,_,hH,hsame,?_⟩
   have hll:us.length=ls.length:=hls.1.symm
   refine⟨by simp only[Ky,zH,zN,yB];rw[hll,hcur.1],λj l u h1 h2=>?_⟩
   unfold Ky at h1
   rw[getElem?_putAt cs ls off j hfit] at h1
   simp only at h2
   rw[getElem?_putAt cur.toList us off j (by rw[hll,<- hcur.1];exact hfit)] at h2
   rw[hll] at h2
   refine hgr _ _ ?_
   by_cases a:j<off
   ·rw[if_pos a] at h1 h2;exact hcur.2 j l u h1 h2
   ·rw[if_neg a] at h1 h2
    by_cases b:j<off+ls.length
    ·rw[if_pos b] at h1 h2;exact hls.2 _ l u h1 h2
    ·rw[if_neg b] at h1 h2;exact hcur.2 j l u h1 h2
  ·have hr:=r.bl q b hb'
   have ho:=hothb q b
   cases b with
   | dead=>trivial
   | hole=>exact hr
   | obj g' mk cs' =>
    obtain⟨h1,vs,o,h2,h3,h4,h5⟩:=hr
    exact⟨h1,vs,o,(hoth g' (ho g' hq hb' (by rw[h1];rfl))).trans h2,h3,h4,h5.mono (λl v=>Rep.mono hkeep)⟩
   | tab mk cs' =>
    obtain⟨g',h1,vs,o,h2,h3,h4,h5⟩:=hr
    exact⟨g',h1,vs,o,(hoth g' (ho g' hq hb' (by rw[h1];rfl))).trans h2,h3,h4,h5.mono (λl v=>Rep.mono hkeep)⟩
   | arn e' sz g' n cap cs' =>
    obtain⟨h1,cur',h2,h3,h4⟩:=hr
    exact⟨h1,cur',(hoth g' (ho g' hq hb' (by rw[h1];rfl))).trans h2,h3,h4.mono hgr⟩
   | box cs' =>
    obtain⟨g',e',cur',h1,h2,h3⟩:=hr
    exact⟨g',e',cur',h1,(hoth g' (ho g' hq hb' (by rw[h1];rfl))).trans h2,h3.mono hgr⟩
   | arr e' sz k cs' =>
    obtain⟨h0,hk1,n,vals,h1,h2,h3⟩:=hr
    exact⟨h0,hk1,n,vals,Iu h1 (λg' hgo=>hoth g' (ho g' hq hb' hgo)),h2.mono (λl v=>Rep.mono hkeep),h3⟩
 ·rw[hsz]
  rcases hmm q b hb with⟨rfl,rfl⟩|⟨hq,hb'⟩
  ·exact r.lo q _ g' hm ho
  ·exact r.lo q b g' hb' ho
 ·rcases hmm q b hb with⟨rfl,rfl⟩|⟨hq,hb1⟩ <;> rcases hmm q' b' hb' with⟨rfl,rfl⟩|⟨hq',hb2⟩
  ·rfl
  ·exact r.inj _ _ _ _ g' hm hb2 ho ho'
  ·exact r.inj _ _ _ _ g' hb1 hm ho ho'
  ·exact r.inj _ _ _ _ g' hb1 hb2 ho ho'
 ·rcases hmm q b hb with⟨rfl,rfl⟩|⟨hq,hb'⟩
  ·exact absurd (r.sb q _ g' i hm ho hs) (by simp [Blk.stab])
  ·exact r.sb q b g' i hb' ho hs
 ·have hx:=r.ex
  refine⟨?_,?_,?_,by rw[hsz];exact hx.size,λb hb hX=>?_,hx.sub,λb i hs=>(hkeep b i (hx.sub b i hs)).2.trans (hx.stab b i hs),hx.back⟩
  ·rw[<- hx.os,<- hw'];rfl
  ·rw[<- hx.tape,<- hw'];rfl
  ·rw[<- hx.output,<- hw'];rfl
  ·rw[hoth b (λe=>by subst e;exact hlo.1.elim (λh=>by omega) (λh=>hX h))]
   exact hx.blk b hb hX
 ·rcases hmm q _ hm' with⟨_,h⟩|⟨_,h⟩
  ·cases h
  ·exact r.kr q e' sz k cs' hq h
theorem Am8 {t:TypeId} {x y:Operand} {p off sz:Nat} {v:SV} {cs:List Lf} (hi:(P.info? t).map (·.size)=some sz) (hx:B2 st x=.s (.one (.lp p off))) (hy:B2 st y=.s v) (hm:st.m[p]? = some (.box cs))
  (hv:v.cells.length=sz) (hfit:off+sz<=cs.length)
  (k:AWL P c ops Q rest ⟨st.t,st.m.set p (.box (Ky cs off v.cells))⟩):AWL P c ops Q (⟨none,.store t x y,ty,pos,af,none⟩::rest) st:=by
 intro a w S H r
 have hx':=Ba r x
 rw[hx] at hx'
 obtain⟨_,g,hH,ex⟩:=hx'
 have hy':=Ba r y
 rw[hy] at hy'
 have hls:=R2 hy' (λl v=>Bt.oneCell)
 obtain⟨g',e,cur,h1,hg,hcur⟩:=r.bl p _ hm
 rw[hH] at h1
 cases h1
 have hlen:(a.eval y).cells.toList.length=sz:=by rw[<- hls.1,hv]
 have hone:∀ u∈(a.eval y).cells.toList,u.oneCell'=true:=by
  intro u hu
  obtain⟨j,hj,hju⟩:=yU hu
  have hj':j<v.cells.length:=by rw[hls.1];exact hj
  exact Bt.oneCell (hls.2 j _ u (zC hj') (by rw[zC hj,hju]))
 have hst:=run_storeCells_at P g off e (a.eval y).cells.toList 0 cur w hg (by rw[hlen,kF,<- zX,<- hcur.1];exact hfit) hone
 simp only[kF] at hst
 refine wpList_plain rfl λK hK=>?_
 unfold Oper.wp
 have hrun:(execOp a.eval ⟨none,.store t x y,ty,pos,af,none⟩).run P w=.ok .skip (w.setRow g (cur.toList.take off++(a.eval y).cells.toList++cur.toList.drop (off+(a.eval y).cells.toList.length)).toArray):=by
  have hszz:(a.eval y).cells.size=sz:=by simpa using hlen
  simp only[execOp,ex,Instr.storeAt,Instr.sureAddr,storeVar,Sem.run_bind,Sem.run_pure,Result.andThen_ok,Ci hi,hszz,ne_eq,not_true_eq_false,if_false,hst]
 rw[hrun]
 exact hK a _ (k a _ S H (r.setBox (off:=off) hm hH hg hls (by rw[hv];exact hfit)))
end
open Go.RowKit
instance:Inhabited Lf:=⟨.b false⟩
def Mr (H:Nat->Value) (p:Nat) (v:Value):Nat->Value:=λq=>if q=p then v else H q
theorem Bm (H:Nat->Value) (p:Nat) (v:Value):Mr H p v p=v:=if_pos rfl
theorem Bw (H:Nat->Value) {p q:Nat} (v:Value) (h:q≠p):Mr H p v q=H q:=if_neg h
theorem Ahc {base:Nat} {w:World} {S:Bz} {m:List Blk} {H:Nat->Value} {b:Blk} {h:Value} (hb:Aj9 base w S m H b h) {g i:Nat} (ho:b.own h=some g) (hi:i<b.stab):w.cell? ⟨g,i,none⟩≠none:=by
 cases b with
 | arr e sz k cs =>
  obtain⟨_,hk,n,vals,h1,h2,_⟩:=hb
  have hj:i<vals.length:=by rw[<- h2.1];exact z6 hi hk
  rcases h1.2 with⟨hv,_⟩|⟨g',cap,cur,hv,_,hg,_,_,hcs,ht⟩
  ·rw[hv] at ho;cases ho
  ·rw[hv] at ho
   cases ho
   rw[cell_of_row w g' i cur e (0,0) hg]
   rw[<- ht,zN] at hj
   intro hc
   rw[Array.getElem?_eq_none_iff] at hc
   rw[zX] at hj
   omega
 | box cs=>exact absurd hi (zW _)
 | dead=>exact absurd hi (zW _)
 | hole=>exact absurd hi (zW _)
 | obj g mk cs=>exact absurd hi (zW _)
 | tab mk cs=>exact absurd hi (zW _)
 | arn e sz g n cap cs=>exact absurd hi (zW _)
theorem Rel.changeM {c:Ctx} {st:AS} {a:Act} {w w':World} {S S':Bz} {H:Nat->Value} (r:Rel c st a w S H) {m':List Blk} {p:Nat} {b':Blk} {v:Value}
  (hlen:st.m.length<=m'.length) (hpm:m'[p]? = some b') (hoth:∀ q,q≠p->m'[q]? = st.m[q]?)
  (hkeep:∀ b i,S b i->S' b i/\w'.cell? ⟨b,i,none⟩=w.cell? ⟨b,i,none⟩)
  (hbox:∀ g,p<st.m.length->H p=.pointer (some ⟨g,0,none⟩)->v=H p)
  (harr:∀ e sz k cs,p<st.m.length->(H p≠undef\/p<c.m0.length)->b'=.arr e sz k cs->∃ k' cs',st.m[p]? = some (.arr e sz k' cs')/\((cs'.length=cs.length/\v=H p)\/cs'.length<cs.length))
  (hblk:∀ g,g<w.heap.size->(∀ b,st.m[p]? = some b->b.own (H p)≠some g)->w'.heap[g]? = w.heap[g]?)
  (hb':Aj9 0 w' S' m' (Mr H p v) b' v)
  (hown:∀ g,b'.own v=some g->(c.w0.heap.size<=g\/c.X g)/\g<w'.heap.size/\(∀ q b,q≠p->st.m[q]? = some b->b.own (H q)≠some g)/\∀ i,S' g i->i<b'.stab)
  (hS':∀ q b g i,q≠p->st.m[q]? = some b->b.own (H q)=some g->S' g i->S g i)
  (hS0:∀ g i,g<c.w0.heap.size->¬ c.X g->S' g i->S g i)
  (hin:InH w' S') (hsz:w.heap.size<=w'.heap.size) (hos:w'.os=w.os) (htp:w'.tape=w.tape) (hou:w'.output=w.output)
  (hvd:(b'=.dead\/b'=.hole)->p<st.m.length->H p≠undef->v≠undef:=by intro h;rcases h with h|h <;> cases h) :
  Rel c ⟨st.t,m'⟩ a w' S' (Mr H p v):=by
 have hvu:p<st.m.length->H p≠undef->v≠undef:=λhp hne=>by
  cases b' with
  | dead=>exact hvd (.inl rfl) hp hne
  | hole=>exact hvd (.inr rfl) hp hne
  | obj g mk cs=>rw[hb'.1];exact λh=>by cases h
  | tab mk cs=>obtain⟨g,h1,_⟩:=hb';rw[h1];exact λh=>by cases h
  | arn e sz g n cap cs=>rw[hb'.1];exact λh=>by cases h
  | box cs=>obtain⟨g,e,cur,h1,_⟩:=hb';rw[h1];exact λh=>by cases h
  | arr e sz k cs=>obtain⟨_,_,n,vals,h1,_⟩:=hb';rcases h1.2 with⟨h2,_⟩ | ⟨g,cap,cur,h2,_⟩ <;> (rw[h2];exact λh=>by cases h)
 have hgr:∀ l u,Bt w S st.m H l u->Bt w' S' m' (Mr H p v) l u:=by
  intro l u
  refine Bt.mono3 hkeep hlen (λq g hq hh=>?_) (λq hq hne=>?_) (λq e sz k cs hq hne hm=>?_)
  ·by_cases e:q=p
   ·subst e;rw[Bm];exact hbox g hq hh
   ·exact Bw H v e
  ·by_cases e:q=p
   ·subst e;rw[Bm];exact hvu hq hne
   ·rw[Bw H v e];exact hne
  ·by_cases e':q=p
   ·subst e'
    rw[hpm] at hm
    rw[Bm]
    exact harr e sz k cs hq (.inl hne) (zD hm)
   ·rw[hoth q e'] at hm
    rw[Bw H v e']
    exact⟨k,cs,hm,.inl ⟨rfl,rfl⟩⟩
 have hown':∀ (q:Nat) (b:Blk),q≠p->st.m[q]? = some b->∀ g,b.own (H q)=some g->w'.heap[g]? = w.heap[g]? := λq b hq hb g ho =>
  hblk g (r.lo q b g hb ho).2 (λb1 hb1 ho1=>hq (r.inj q p b b1 g hb hb1 ho ho1))
 refine⟨r.nt,r.df,λi=>AVR.mono hgr (r.tm i),λq b hb=>?_,λq b g hb ho=>?_,λq q' b b1 g hb hb1 ho ho1=>?_,λq b g i hb ho hs=>?_,hin,?_,yP r.kl hlen,λq g hq hh=>?_,λq e sz k cs hq hm=>?_,λq hq hne=>?_⟩
 rotate_right
 ·by_cases e:q=p
  ·subst e;rw[Bm];exact hvu (z6 hq r.kl) (r.ku q hq hne)
  ·rw[Bw H v e];exact r.ku q hq hne
 ·by_cases e:q=p
  ·subst e
   rw[hpm] at hb
   cases hb
   rw[Bm]
   exact hb'
  ·rw[hoth q e] at hb
   rw[Bw H v e]
   have hr:=r.bl q b hb
   have ho:=hown' q b e hb
   cases b with
   | dead=>trivial
   | hole=>exact hr
   | obj g mk cs =>
    obtain⟨h1,vs,o,h2,h3,h4,h5⟩:=hr
    exact⟨h1,vs,o,(ho g (by rw[h1];rfl)).trans h2,h3,h4,h5.mono (λl u=>Rep.mono hkeep)⟩
   | tab mk cs =>
    obtain⟨g,h1,vs,o,h2,h3,h4,h5⟩:=hr
    exact⟨g,h1,vs,o,(ho g (by rw[h1];rfl)).trans h2,h3,h4,h5.mono (λl u=>Rep.mono hkeep)⟩
   | arn ee sz g n cap cs =>
    obtain⟨h1,cur,h2,h3,h4⟩:=hr
    exact⟨h1,cur,(ho g (by rw[h1];rfl)).trans h2,h3,h4.mono hgr⟩
   | box cs =>
    obtain⟨g,ee,cur,h1,h2,h3⟩:=hr
    exact⟨g,ee,cur,h1,(ho g (by rw[h1];rfl)).trans h2,h3.mono hgr⟩
   | arr ee sz k cs =>
    obtain⟨h0,hk1,n,vals,h1,h2,h3⟩:=hr
    exact⟨h0,hk1,n,vals,Iu h1 (λg hgo=>ho g hgo),h2.mono (λl u=>Rep.mono hkeep),λg hgo i hi=>(hkeep g i (h3 g hgo i hi)).1⟩
 ·by_cases e:q=p
  ·subst e
   rw[hpm] at hb;cases hb
   rw[Bm] at ho
   exact⟨(hown g ho).1,(hown g ho).2.1⟩
  ·rw[hoth q e] at hb
   rw[Bw H v e] at ho
   have:=r.lo q b g hb ho
   exact⟨this.1,z6 this.2 hsz⟩
 ·by_cases e:q=p <;> by_cases e1:q'=p
  ·rw[e,e1]
  ·subst e
   rw[hpm] at hb;cases hb
   rw[Bm] at ho
   rw[hoth q' e1] at hb1
   rw[Bw H v e1] at ho1
   exact absurd ho1 ((hown g ho).2.2.1 q' b1 e1 hb1)
  ·subst e1
   rw[hpm] at hb1;cases hb1
   rw[Bm] at ho1
   rw[hoth q e] at hb
   rw[Bw H v e] at ho
   exact absurd ho ((hown g ho1).2.2.1 q b e hb)
  ·rw[hoth q e] at hb
   rw[Bw H v e] at ho
   rw[hoth q' e1] at hb1
   rw[Bw H v e1] at ho1
   exact r.inj q q' b b1 g hb hb1 ho ho1
 ·by_cases e:q=p
  ·subst e
   rw[hpm] at hb;cases hb
   rw[Bm] at ho
   exact(hown g ho).2.2.2 i hs
  ·rw[hoth q e] at hb
   rw[Bw H v e] at ho
   exact r.sb q b g i hb ho (hS' q b g i e hb ho hs)
 ·have hx:=r.ex
  refine⟨hos.trans hx.os,htp.trans hx.tape,hou.trans hx.output,yP hx.size hsz,λb hb hX=>?_,λb i hs=>(hkeep b i (hx.sub b i hs)).1,λb i hs=>(hkeep b i (hx.sub b i hs)).2.trans (hx.stab b i hs),λb i hb hX hs=>hx.back b i hb hX (hS0 b i hb hX hs)⟩
  refine Eq.trans (hblk b (z6 hb hx.size) (λb1 hb1 ho=>?_)) (hx.blk b hb hX)
  rcases(r.lo p b1 b hb1 ho).1 with h|h
  ·omega
  ·exact hX h
 ·by_cases e:q=p
  ·subst e
   have hq':=r.kh q g hq hh
   rw[Bm,hbox g (z6 hq r.kl) (hq'.trans hh),hq']
  ·rw[Bw H v e]
   exact r.kh q g hq hh
 ·by_cases e':q=p
  ·subst e'
   rw[hpm] at hm
   obtain⟨k1,cs1,h1,h2⟩:=harr e sz k cs (z6 hq r.kl) (.inr hq) (zD hm)
   obtain⟨k2,cs2,h3,h4⟩:=r.kr q e sz k1 cs1 hq h1
   refine⟨k2,cs2,h3,?_⟩
   rw[Bm]
   rcases h2 with⟨h2,hv⟩|h2 <;> rcases h4 with⟨h4,hv4⟩|h4
   ·exact .inl ⟨h4.trans h2,hv.trans hv4⟩
   ·exact .inr (by omega)
   ·exact .inr (by omega)
   ·exact .inr (by omega)
  ·rw[hoth q e'] at hm
   rw[Bw H v e']
   exact r.kr q e sz k cs hq hm
theorem Rel.changeH {c:Ctx} {st:AS} {a:Act} {w w':World} {S S':Bz} {H:Nat->Value} (r:Rel c st a w S H) {m':List Blk} {p:Nat} {b':Blk} {v:Value}
  (hlen:st.m.length<=m'.length) (hpm:m'[p]? = some b') (hoth:∀ q,q≠p->m'[q]? = st.m[q]?)
  (hkeep:∀ b i,S b i->S' b i/\w'.cell? ⟨b,i,none⟩=w.cell? ⟨b,i,none⟩)
  (hbox:∀ g,p<st.m.length->H p=.pointer (some ⟨g,0,none⟩)->v=H p)
  (harr:∀ e sz k cs,p<st.m.length->(H p≠undef\/p<c.m0.length)->b'=.arr e sz k cs->∃ k' cs',st.m[p]? = some (.arr e sz k' cs')/\((cs'.length=cs.length/\v=H p)\/cs'.length<cs.length))
  (hblk:∀ g,g<w.heap.size->(∀ b,st.m[p]? = some b->b.own (H p)≠some g)->w'.heap[g]? = w.heap[g]?)
  (hb':Aj9 0 w' S' m' (Mr H p v) b' v)
  (hown:∀ g,b'.own v=some g->(c.w0.heap.size<=g\/c.X g)/\g<w'.heap.size/\(∀ q b,q≠p->st.m[q]? = some b->b.own (H q)≠some g)/\∀ i,S' g i->i<b'.stab)
  (hS':∀ q b g i,q≠p->st.m[q]? = some b->b.own (H q)=some g->S' g i->S g i)
  (hS0:∀ g i,g<c.w0.heap.size->¬ c.X g->S' g i->S g i)
  (hin0:(∀ b i,S' b i->b<w'.heap.size)/\GLR w' S') (hsz:w.heap.size<=w'.heap.size) (hos:w'.os=w.os) (htp:w'.tape=w.tape) (hou:w'.output=w.output)
  (hvd:(b'=.dead\/b'=.hole)->p<st.m.length->H p≠undef->v≠undef:=by intro h;rcases h with h|h <;> cases h)
  (hbk:∀ g i,S' g i->S g i\/b'.own v=some g:=by first|exact λ_ _ h=>Or.inl h|(intro g i h;rcases h with h|h;exact Or.inl h;exact Or.inr (by first|exact h.1|(rw[h.1];rfl)))) :
  Rel c ⟨st.t,m'⟩ a w' S' (Mr H p v):=by
 have hin:InH w' S':=⟨hin0.1,hin0.2,λg i hs hc=>by
  have hnew:b'.own v=some g->False:=λho=>Ahc hb' ho ((hown g ho).2.2.2 i hs) hc
  rcases hbk g i hs with h|h
  ·rw[(hkeep g i h).2] at hc
   obtain⟨⟨cur,e,h1,h2⟩,h3⟩:=r.sl.2.2 g i h hc
   refine⟨⟨cur,e,(hblk g (r.sl.1 g i h) λb hb ho=>Ahc (r.bl p b hb) ho (r.sb p b g i hb ho h) hc).trans h1,h2⟩,λj hj=>?_⟩
   rcases hbk g j hj with h4|h4
   ·exact(hkeep g j h4).2.trans (h3 j h4)
   ·exact absurd h4 (λh=>hnew h)
  ·exact absurd h (λh=>hnew h)⟩
 exact r.changeM hlen hpm hoth hkeep hbox harr hblk hb' hown hS' hS0 hin hsz hos htp hou hvd
theorem Rel.change {c:Ctx} {st:AS} {a:Act} {w w':World} {S S':Bz} {H:Nat->Value} (r:Rel c st a w S H) {m':List Blk} {p:Nat} {b':Blk} {v:Value}
  (hlen:st.m.length<=m'.length) (hpm:m'[p]? = some b') (hoth:∀ q,q≠p->m'[q]? = st.m[q]?)
  (hkeep:∀ b i,S b i->S' b i/\w'.cell? ⟨b,i,none⟩=w.cell? ⟨b,i,none⟩)
  (hbox:∀ g,p<st.m.length->H p=.pointer (some ⟨g,0,none⟩)->v=H p)
  (harr:∀ e sz k cs,p<st.m.length->b'=.arr e sz k cs->∃ k' cs',st.m[p]? = some (.arr e sz k' cs')/\((cs'.length=cs.length/\v=H p)\/cs'.length<cs.length))
  (hblk:∀ g,g<w.heap.size->(∀ b,st.m[p]? = some b->b.own (H p)≠some g)->w'.heap[g]? = w.heap[g]?)
  (hb':Aj9 0 w' S' m' (Mr H p v) b' v)
  (hown:∀ g,b'.own v=some g->(c.w0.heap.size<=g\/c.X g)/\g<w'.heap.size/\(∀ q b,q≠p->st.m[q]? = some b->b.own (H q)≠some g)/\∀ i,S' g i->i<b'.stab)
  (hS':∀ q b g i,q≠p->st.m[q]? = some b->b.own (H q)=some g->S' g i->S g i)
  (hS0:∀ g i,g<c.w0.heap.size->¬ c.X g->S' g i->S g i)
  (hin0:(∀ b i,S' b i->b<w'.heap.size)/\GLR w' S') (hsz:w.heap.size<=w'.heap.size) (hos:w'.os=w.os) (htp:w'.tape=w.tape) (hou:w'.output=w.output)
  (hvd:(b'=.dead\/b'=.hole)->p<st.m.length->H p≠undef->v≠undef:=by intro h;rcases h with h|h <;> cases h)
  (hbk:∀ g i,S' g i->S g i\/b'.own v=some g:=by first|exact λ_ _ h=>Or.inl h|(intro g i h;rcases h with h|h;exact Or.inl h;exact Or.inr (by first|exact h.1|(rw[h.1];rfl)))) :
  Rel c ⟨st.t,m'⟩ a w' S' (Mr H p v) :=
 r.changeH hlen hpm hoth hkeep hbox (λe sz k cs h _ hb=>harr e sz k cs h hb) hblk hb' hown hS' hS0 hin0 hsz hos htp hou hvd hbk
theorem Aeh {w:World} {base base' e sz n:Nat} {v:Value} {xs:List Value} (hb:base'<=base) (h:w.ownsRow base e sz v n xs):w.ownsRow base' e sz v n xs:=by
 refine⟨h.1,?_⟩
 rcases h.2 with hn|⟨g,cap,cur,hv,h1,rest⟩
 ·exact .inl hn
 ·exact .inr ⟨g,cap,cur,hv,yP hb h1,rest⟩
theorem Rel.newArr {c:Ctx} {st:AS} {a:Act} {w:World} {S:Bz} {H:Nat->Value} (r:Rel c st a w S H) {e:TypeId} {sz n:Nat} {cs:List Lf} {v:Value} {vals:List Value} (hsz:0<sz)
  {base:Nat} (hown:w.ownsRow base e sz v n vals) (hbase:c.w0.heap.size<=base) (hls:LsR (Rep w S) cs vals) (hnew:∀ g,Cz v=some g->(∀ (q:Nat) (b:Blk),st.m[q]? = some b->b.own (H q)≠some g)/\∀ i,¬ S g i) :
  Rel c ⟨st.t,st.m++[.arr e sz 0 cs]⟩ a w S (Mr H st.m.length v):=by
 refine r.change (b':=.arr e sz 0 cs) (by simp) (by simp) (λq hq=>?_) (λb i h=>⟨h,rfl⟩) (λg h=>absurd h (wS _)) (λe sz k cs h=>absurd h (wS _))
  (λg _ _=>rfl) ⟨hsz,zZ _,n,vals,Aeh (zZ _) hown,hls,λg _ i hi=>absurd hi (zW _)⟩ (λg hg=>?_) (λq b g i _ _ _ h=>h) (λg i _ _ h=>h) r.sl.two (zO _) rfl rfl rfl
 ·rcases zU q st.m.length with h|h
  ·rw[zK h]
  ·rw[yL (by simp;omega),yL h]
 ·have hg':Cz v=some g:=hg
  have hlt:base<=g/\g<w.heap.size:=by
   rcases hown.2 with⟨hv,_⟩|⟨g',cap,cur,hv,hb,hgg,_⟩
   ·rw[hv] at hg';cases hg'
   ·rw[hv] at hg'
    cases hg'
    exact⟨hb,(yA.1 hgg).1⟩
  exact⟨.inl (yP hbase hlt.1),hlt.2,λq b _ hb=>(hnew g hg').1 q b hb,λi hi=>absurd hi ((hnew g hg').2 i)⟩
theorem Rel.fresh {c:Ctx} {st:AS} {a:Act} {w:World} {S:Bz} {H:Nat->Value} (r:Rel c st a w S H) {g:Nat} (h:w.heap.size<=g):(∀ (q:Nat) (b:Blk),st.m[q]? = some b->b.own (H q)≠some g)/\∀ i,¬ S g i :=
 ⟨λq b hb ho=>by have:=(r.lo q b g hb ho).2;omega,λi hs=>by have:=r.sl.1 g i hs;omega⟩
section
variable {c:Ctx} {st:AS}
theorem Aen {e sz:Nat} (i:Nat) (hsz:0<sz) (hi:st.t i=.s (.one (.raw (.slice none 0 0)))) {a:Act} {w:World} {S:Bz} {H:Nat->Value} (r:Rel c st a w S H) :
  Rel c ⟨Go.Proofs.YtkblaobhhoebaaaGreat.Abs.upd st.t i (.s (.one (.ls st.m.length 0))),st.m++[.arr e sz 0 []]⟩ a w S (Mr H st.m.length (.slice none 0 0)):=by
 have h:=r.tm i
 rw[hi] at h
 have hv:a.tmps.getD i undef=.slice none 0 0:=Eu h
 have r':=r.newArr (e:=e) (sz:=sz) (cs:=[]) (v:=.slice none 0 0) (vals:=[]) (n:=0) hsz (World.ownsRow_nil w _ e sz) (zO _) ⟨rfl,λj l v h=>by simp at h⟩ (λg hg=>by cases hg)
 refine⟨r'.nt,r'.df,λj=>?_,r'.bl,r'.lo,r'.inj,r'.sb,r'.sl,r'.ex,r'.kl,r'.kh,r'.kr,r'.ku⟩
 show AVR _ (Go.Proofs.YtkblaobhhoebaaaGreat.Abs.upd st.t i _ j) _
 rw[Ej]
 by_cases e':j=i
 ·subst e'
  rw[if_pos rfl,hv]
  refine⟨by simp,⟨rfl,by rw[Bm];exact λh=>by cases h⟩,λe2 sz2 k2 cs2 hm=>?_⟩
  simp at hm
  obtain⟨rfl,rfl,rfl,rfl⟩:=hm
  exact⟨by simp,λ_=>by rw[Bm]⟩
 ·rw[if_neg e']
  exact r'.tm j
theorem Acw {e sz p:Nat} {cs:List Lf} (i:Nat) (hsz:0<sz) (hm:st.m[p]? = some (.box cs)) (hi:cs[i]? = some (.raw (.slice none 0 0))) {a:Act} {w:World} {S:Bz} {H:Nat->Value} (r:Rel c st a w S H) :
  Rel c ⟨st.t,st.m.set p (.box (cs.set i (.ls st.m.length 0)))++[.arr e sz 0 []]⟩ a w S (Mr H st.m.length (.slice none 0 0)):=by
 have r':=r.newArr (e:=e) (sz:=sz) (cs:=[]) (v:=.slice none 0 0) (vals:=[]) (n:=0) hsz (World.ownsRow_nil w _ e sz) (zO _) ⟨rfl,λj l v h=>by simp at h⟩ (λg hg=>by cases hg)
 have hp:p<st.m.length:=(zB.1 hm).1
 have hm':(st.m++[Blk.arr e sz 0 []])[p]? = some (.box cs):=by rw[zK hp];exact hm
 have hset:st.m.set p (.box (cs.set i (.ls st.m.length 0)))++[.arr e sz 0 []]=(st.m++[Blk.arr e sz 0 []]).set p (.box (cs.set i (.ls st.m.length 0))):=by
  rw[List.set_append_left _ _ hp]
 rw[hset]
 have hp':p<(st.m++[Blk.arr e sz 0 []]).length:=by simp;omega
 obtain⟨g,ee,cur,h1,h2,h3⟩:=r'.bl p _ hm'
 have hHp:Mr H st.m.length (.slice none 0 0) p=.pointer (some ⟨g,0,none⟩):=h1
 have hgr:∀ l v,Bt w S (st.m++[Blk.arr e sz 0 []]) (Mr H st.m.length (.slice none 0 0)) l v->Bt w S ((st.m++[Blk.arr e sz 0 []]).set p (.box (cs.set i (.ls st.m.length 0)))) (Mr H st.m.length (.slice none 0 0)) l v:=by
  intro l v
  refine Bt.mono (λb i h=>⟨h,rfl⟩) (by simp) (λ_ _=>rfl) (λq e' sz' k' cs' hq hmm=>⟨k',cs',?_,rfl⟩)
  by_cases hqp:p=q
  ·subst hqp;rw[zI hp'] at hmm;cases hmm
  ·rw[zM hqp] at hmm;exact hmm
 have hmm:∀ (q:Nat) (b:Blk),((st.m++[Blk.arr e sz 0 []]).set p (.box (cs.set i (.ls st.m.length 0))))[q]? = some b->(q=p/\b=.box (cs.set i (.ls st.m.length 0)))\/(q≠p/\(st.m++[Blk.arr e sz 0 []])[q]? = some b):=by
  intro q b h
  by_cases hqp:p=q
  ·subst hqp;rw[zI hp'] at h;cases h;exact .inl ⟨rfl,rfl⟩
  ·rw[zM hqp] at h;exact .inr ⟨λe=>hqp e.symm,h⟩
 refine⟨r'.nt,r'.df,λj=>AVR.mono hgr (r'.tm j),λq b hb=>?_,λq b g' hb ho=>?_,λq q' b b1 g' hb hb1 ho ho1=>?_,λq b g' i' hb ho hs=>?_,r'.sl,r'.ex,(by simpa using r'.kl),r'.kh,λq e' sz k cs' hq hm2=>?_,r'.ku⟩
 ·rcases hmm q b hb with⟨rfl,rfl⟩|⟨hq,hb'⟩
  ·refine⟨g,ee,cur,hHp,h2,by rw[yS];exact h3.1,λj l v hj1 hj2=>?_⟩
   rw[kL] at hj1
   by_cases hji:i=j
   ·subst hji
    have hil:i<cs.length:=(zB.1 hi).1
    simp only[if_true,hil] at hj1
    cases hj1
    have hv:=h3.2 i _ v hi hj2
    have hv':v=.slice none 0 0:=Eu hv
    subst hv'
    refine⟨by simp,⟨rfl,by rw[Bm];exact λh=>by cases h⟩,λe2 sz2 k2 cs2 hm2=>?_⟩
    have hne:q≠st.m.length:=by omega
    rw[zM hne,z2 (zO _)] at hm2
    simp at hm2
    obtain⟨rfl,rfl,rfl,rfl⟩:=hm2
    exact⟨by simp,λ_=>by rw[Bm]⟩
   ·rw[if_neg hji] at hj1
    exact hgr _ _ (h3.2 j l v hj1 hj2)
  ·have hr:=r'.bl q b hb'
   cases b with
   | dead=>trivial
   | hole=>exact hr
   | obj g mk cs=>exact hr
   | tab mk cs=>exact hr
   | arn e' sz' g' n' cap' cs' =>
    obtain⟨h1',cur',h2',h3',h4'⟩:=hr
    exact⟨h1',cur',h2',h3',h4'.mono hgr⟩
   | box cs' =>
    obtain⟨g',e',cur',h1',h2',h3'⟩:=hr
    exact⟨g',e',cur',h1',h2',h3'.mono hgr⟩
   | arr e' sz' k' cs'=>exact hr
 ·rcases hmm q b hb with⟨rfl,rfl⟩|⟨hq,hb'⟩
  ·exact r'.lo q _ g' hm' ho
  ·exact r'.lo q b g' hb' ho
 ·rcases hmm q b hb with⟨rfl,rfl⟩|⟨hq,hb2⟩ <;> rcases hmm q' b1 hb1 with⟨rfl,rfl⟩|⟨hq',hb3⟩
  ·rfl
  ·exact r'.inj _ _ _ _ g' hm' hb3 ho ho1
  ·exact r'.inj _ _ _ _ g' hb2 hm' ho ho1
  ·exact r'.inj _ _ _ _ g' hb2 hb3 ho ho1
 ·rcases hmm q b hb with⟨rfl,rfl⟩|⟨hq,hb'⟩
  ·exact absurd (r'.sb q _ g' i' hm' ho hs) (by simp [Blk.stab])
  ·exact r'.sb q b g' i' hb' ho hs
 ·rcases hmm q _ hm2 with⟨_,h⟩|⟨_,h⟩
  ·cases h
  ·exact r'.kr q e' sz k cs' hq h
end
open Go.RowKit
theorem L0 {w:World} {base e sz n:Nat} {v:Value} {vals:List Value} (h:w.ownsRow base e sz v n vals) {k:Nat} (hsz:0<sz) (hk:k*sz=vals.length):n=k:=by
 have h3:=h.1
 rw[<- hk] at h3
 exact(jY hsz h3).symm
theorem Rel.pub {c:Ctx} {st:AS} {a:Act} {w:World} {S:Bz} {H:Nat->Value} (r:Rel c st a w S H) {p e sz k:Nat} {cs:List Lf} (hm:st.m[p]? = some (.arr e sz k cs)) :
  ∃ S',Rel c ⟨st.t,st.m.set p (.arr e sz cs.length cs)⟩ a w S' H/\(∀ b i,S b i->S' b i)/\∀ n,n*sz=cs.length->Rep w S' (.sl n cs) (H p):=by
 have hp:p<st.m.length:=(zB.1 hm).1
 obtain⟨hsz,hk,n0,vals,hown,hls,hst⟩:=r.bl p _ hm
 let S':Bz:=λb i=>S b i\/(Cz (H p)=some b/\i<cs.length)
 have hsub:∀ b i,S b i->S' b i:=λb i h=>.inl h
 have hset:Mr H p (H p)=H:=by
  funext q
  by_cases e':q=p
  ·subst e';exact Bm H q _
  ·exact Bw H _ e'
 have hlo:∀ g,Cz (H p)=some g->(c.w0.heap.size<=g\/c.X g)/\g<w.heap.size:=λg hg=>r.lo p _ g hm hg
 have hr:Rel c ⟨st.t,st.m.set p (.arr e sz cs.length cs)⟩ a w S' (Mr H p (H p)):=by
  refine r.change (b':=.arr e sz cs.length cs) (by simp) (by rw[zI hp]) (λq hq=>zM (λe=>hq e.symm)) (λb i h=>⟨hsub b i h,rfl⟩)
   (λg _ _=>rfl) (λe' sz' k' cs' _ h=>by cases h;exact⟨k,cs,hm,.inl ⟨rfl,rfl⟩⟩) (λg _ _=>rfl) ?_ (λg hg=>?_) (λq b g i hq hb ho hs=>?_) (λg i hg hX hs=>?_) ⟨λb i hs=>?_,r.sl.2.1.mono λb i h=>⟨hsub b i h,rfl⟩⟩ (zO _) rfl rfl rfl
  ·exact⟨hsz,zO _,n0,vals,hown,hls.mono (λl v=>Rep.mono (λb i h=>⟨hsub b i h,rfl⟩)),λg hg i hi=>.inr ⟨hg,hi⟩⟩
  ·have hg':Cz (H p)=some g:=hg
   refine⟨(hlo g hg').1,(hlo g hg').2,λq b hq hb ho=>hq (r.inj q p b _ g hb hm ho hg'),λi hi=>?_⟩
   rcases hi with hi|hi
   ·exact z6 (r.sb p _ g i hm hg' hi) hk
   ·exact hi.2
  ·rcases hs with hs|hs
   ·exact hs
   ·exact absurd (r.inj q p b _ g hb hm ho hs.1) hq
  ·rcases hs with hs|hs
   ·exact hs
   ·rcases(hlo g hs.1).1 with h|h
    ·omega
    ·exact absurd h hX
  ·rcases hs with hs|hs
   ·exact r.sl.1 b i hs
   ·exact(hlo b hs.1).2
 rw[hset] at hr
 refine⟨S',hr,hsub,λn hn=>?_⟩
 have hnn:n0=n:=L0 hown hsz (by rw[<- hls.1];exact hn)
 subst hnn
 rcases hown.2 with⟨hv,h0⟩|⟨g,cap,cur,hv,hbg,hg,hnc,hcm,hcs,htake⟩
 ·rw[hv,h0]
  have:cs=[]:=z7 (by rw[<- hn,h0,kG])
  subst this
  exact .sl0 _ _
 ·rw[hv]
  refine Rep.sl n0 cs g 0 cap (λj=>vals.getD j undef) hnc hcm (λj l hl=>?_) (λj l hl=>?_)
  ·have hj:j<cs.length:=(zB.1 hl).1
   obtain⟨u,hu,_⟩:=hls.get hl
   refine⟨.inr ⟨by rw[hv];simp [Cz],by omega⟩,?_⟩
   have:=hown.cells (g:=g) (by rw[hv];rfl) j u hu
   rw[Addr.add_lit] at this
   rw[this]
   simp [List.getD,hu]
  ·obtain⟨u,hu,hr⟩:=hls.get hl
   have:vals.getD j undef=u:=by simp [List.getD,hu]
   rw[this]
   exact Rep.mono (λb i h=>⟨hsub b i h,rfl⟩) hr
inductive Oe (m:List Blk):Lf->Lf->List Blk->Prop
 | id (l:Lf) (h:l.pubd=true):Oe m l l m
 | nil:Oe m (.raw (.slice none 0 0)) (.sl 0 []) m
 | nilj (e sz:Nat):Oe m (.raw (.slice none 0 0)) (.jk e sz 0) m
 | ls (p n e sz k:Nat) (cs:List Lf) (hm:m[p]? = some (.arr e sz k cs)) (hn:n*sz=cs.length):Oe m (.ls p n) (.sl n cs) (m.set p (.arr e sz cs.length cs))
inductive Qe:List Blk->List Lf->List Lf->List Blk->Prop
 | nil (m:List Blk):Qe m [] [] m
 | cons (m m1 m2:List Blk) (l l':Lf) (ls ls':List Lf) (h:Oe m l l' m1) (t:Qe m1 ls ls' m2):Qe m (l::ls) (l'::ls') m2
 | all (m:List Blk) (ls:List Lf) (h:∀ l∈ls,l.pubd=true):Qe m ls ls m
inductive Xk:List Blk->SV->SV->List Blk->Prop
 | one (m m':List Blk) (l l':Lf) (h:Oe m l l' m'):Xk m (.one l) (.one l') m'
 | agg (m m':List Blk) (ls ls':List Lf) (h:Qe m ls ls' m'):Xk m (.agg ls) (.agg ls') m'
inductive W6:List Blk->List SV->List SV->List Blk->Prop
 | nil (m:List Blk):W6 m [] [] m
 | cons (m m1 m2:List Blk) (x y:SV) (xs ys:List SV) (h:Xk m x y m1) (t:W6 m1 xs ys m2):W6 m (x::xs) (y::ys) m2
structure Aef (c:Ctx) (t:Nat->AV) (a:Act) (w:World) (H:Nat->Value) (m:List Blk) (S:Bz) (m':List Blk) (S':Bz):Prop where
 rel:Rel c ⟨t,m'⟩ a w S' H
 sub:∀ b i,S b i->S' b i
 gr:∀ l v,Bt w S m H l v->Bt w S' m' H l v
theorem Aef.trans {c:Ctx} {t:Nat->AV} {a:Act} {w:World} {H:Nat->Value} {m m1 m2:List Blk} {S S1 S2:Bz} (h:Aef c t a w H m S m1 S1) (k:Aef c t a w H m1 S1 m2 S2):Aef c t a w H m S m2 S2 :=
 ⟨k.rel,λb i hs=>k.sub b i (h.sub b i hs),λl v hg=>k.gr l v (h.gr l v hg)⟩
theorem Rep.sub {w:World} {S S':Bz} (h:∀ b i,S b i->S' b i) {l:Lf} {v:Value} (r:Rep w S l v):Rep w S' l v:=Rep.mono (λb i hs=>⟨h b i hs,rfl⟩) r
theorem Oe.keeps {c:Ctx} {t:Nat->AV} {a:Act} {w:World} {H:Nat->Value} {m m':List Blk} {S:Bz} {l l':Lf} (hp:Oe m l l' m') (r:Rel c ⟨t,m⟩ a w S H) :
  ∃ S',Aef c t a w H m S m' S'/\∀ v,Bt w S m H l v->Rep w S' l' v:=by
 cases hp with
 | id l h=>exact⟨S,⟨r,λ_ _ h=>h,λ_ _ h=>h⟩,λv hv=>Bt.rep hv h⟩
 | nil=>exact⟨S,⟨r,λ_ _ h=>h,λ_ _ h=>h⟩,λv hv=>by
   have:v=.slice none 0 0:=Eu hv
   subst this
   exact .sl0 _ _⟩
 | nilj e sz=>exact⟨S,⟨r,λ_ _ h=>h,λ_ _ h=>h⟩,λv hv=>by
   have:v=.slice none 0 0:=Eu hv
   subst this
   exact .jk0 _ _⟩
 | ls p n e sz k cs hm hn =>
  obtain⟨S',h1,h2,h3⟩:=r.pub hm
  have hp:p<m.length:=(zB.1 hm).1
  refine⟨S',⟨h1,h2,λl v=>Bt.mono (λb i h=>⟨h2 b i h,rfl⟩) (by simp) (λ_ _=>rfl) (λq e' sz' k' cs' hq hmm=>?_)⟩,λv hv=>?_⟩
  ·by_cases e1:p=q
   ·subst e1
    have hmm':(m.set p (.arr e sz cs.length cs))[p]? = some (.arr e' sz' k' cs'):=hmm
    rw[zI hp] at hmm'
    cases hmm'
    exact⟨k,cs,hm,rfl⟩
   ·have hmm':(m.set p (.arr e sz cs.length cs))[q]? = some (.arr e' sz' k' cs'):=hmm
    rw[zM e1] at hmm'
    exact⟨k',cs',hmm',rfl⟩
  ·obtain⟨_,_,hr⟩:=hv
   rw[(hr e sz k cs hm).2 hn]
   exact h3 n hn
theorem Qe.keeps {c:Ctx} {t:Nat->AV} {a:Act} {w:World} {H:Nat->Value} {m m':List Blk} {ls ls':List Lf} (hp:Qe m ls ls' m'):∀ {S:Bz},Rel c ⟨t,m⟩ a w S H ->
  ∃ S',Aef c t a w H m S m' S'/\∀ vs,LsR (Bt w S m H) ls vs->LsR (Rep w S') ls' vs:=by
 induction hp with
 | nil m=>exact λr=>⟨_,⟨r,λ_ _ h=>h,λ_ _ h=>h⟩,λvs h=>⟨h.1,λj l v h1=>by simp at h1⟩⟩
 | all m ls h =>
  exact λr=>⟨_,⟨r,λ_ _ h=>h,λ_ _ h=>h⟩,λvs hv=>⟨hv.1,λj l v h1 h2=>Bt.rep (hv.2 j l v h1 h2) (h l (zG h1))⟩⟩
 | cons m m1 m2 l l' ls ls' h _ ih =>
  intro S r
  obtain⟨S1,k1,g1⟩:=h.keeps r
  obtain⟨S2,k2,g2⟩:=ih k1.rel
  refine⟨S2,k1.trans k2,λvs hv=>?_⟩
  cases vs with
  | nil=>have:=hv.1;simp at this
  | cons v vs =>
   have h0:Bt w S m H l v:=hv.2 0 l v rfl rfl
   have ht:LsR (Bt w S1 m1 H) ls vs:=⟨by have:=hv.1;simpa using this,λj l v h1 h2=>k1.gr _ _ (hv.2 (j+1) l v (by simpa using h1) (by simpa using h2))⟩
   have h1':=Rep.sub k2.sub (g1 v h0)
   have ht':=g2 vs ht
   refine⟨by simp [ht'.1],λj x u hx hu=>?_⟩
   cases j with
   | zero=>simp only[yT,zJ] at hx hu;subst hx;subst hu;exact h1'
   | succ j=>exact ht'.2 j x u (by simpa using hx) (by simpa using hu)
theorem Xk.keeps {c:Ctx} {t:Nat->AV} {a:Act} {w:World} {H:Nat->Value} {m m':List Blk} {S:Bz} {x y:SV} (hp:Xk m x y m') (r:Rel c ⟨t,m⟩ a w S H) :
  ∃ S',Aef c t a w H m S m' S'/\∀ v,SVR (Bt w S m H) x v->SVR (Rep w S') y v:=by
 cases hp with
 | one _ l l' h =>
  obtain⟨S',k,g⟩:=h.keeps r
  exact⟨S',k,λv hv=>g v hv⟩
 | agg _ ls ls' h =>
  obtain⟨S',k,g⟩:=h.keeps r
  refine⟨S',k,λv hv=>?_⟩
  obtain⟨cs,rfl,hl⟩:=hv
  exact⟨cs,rfl,g _ hl⟩
def Yv (R:Lf->Value->Prop) (xs:List SV) (vs:List Value):Prop:=xs.length=vs.length/\∀ (j:Nat) (x:SV) (v:Value),xs[j]? = some x->vs[j]? = some v->SVR R x v
theorem W6.keeps {c:Ctx} {t:Nat->AV} {a:Act} {w:World} {H:Nat->Value} {m m':List Blk} {xs ys:List SV} (hp:W6 m xs ys m'):∀ {S:Bz},Rel c ⟨t,m⟩ a w S H ->
  ∃ S',Aef c t a w H m S m' S'/\∀ vs,Yv (Bt w S m H) xs vs->Yv (Rep w S') ys vs:=by
 induction hp with
 | nil m=>exact λr=>⟨_,⟨r,λ_ _ h=>h,λ_ _ h=>h⟩,λvs h=>⟨h.1,λj l v h1=>by simp at h1⟩⟩
 | cons m m1 m2 x y xs ys h _ ih =>
  intro S r
  obtain⟨S1,k1,g1⟩:=h.keeps r
  obtain⟨S2,k2,g2⟩:=ih k1.rel
  refine⟨S2,k1.trans k2,λvs hv=>?_⟩
  cases vs with
  | nil=>have:=hv.1;simp at this
  | cons v vs =>
   have h0:SVR (Bt w S m H) x v:=hv.2 0 x v rfl rfl
   have ht:Yv (Bt w S1 m1 H) xs vs:=⟨by have:=hv.1;simpa using this,λj l v h1 h2=>SVR.mono k1.gr (hv.2 (j+1) l v (by simpa using h1) (by simpa using h2))⟩
   have h1':=SVR.mono (λl v=>Rep.sub k2.sub) (g1 v h0)
   have ht':=g2 vs ht
   refine⟨by simp [ht'.1],λj x u hx hu=>?_⟩
   cases j with
   | zero=>simp only[yT,zJ] at hx hu;subst hx;subst hu;exact h1'
   | succ j=>exact ht'.2 j x u (by simpa using hx) (by simpa using hu)
def A6 (P:Program) (f:FuncId) (args:List SV) (R:AV->Prop):Prop :=
 ∀ (w:World) (S:Bz) (vs:Array Value),InH w S->Yv (Rep w S) args vs.toList ->
  Calls P f vs w λe w'=>∃ v x S',e=.returned v/\R x/\Ext w S w' S'/\InH w' S'/\AVR (Rep w' S') x v
theorem A6.mono {P:Program} {f:FuncId} {args:List SV} {R R':AV->Prop} (h:A6 P f args R) (hr:∀ x,R x->R' x):A6 P f args R' :=
 λw S vs hS hv=>(h w S vs hS hv).mono λ_ _ ⟨v,x,S',h1,h2,h3⟩=>⟨v,x,S',h1,hr x h2,h3⟩
structure FnI (P:Program) (f:FuncId):Prop where
 h : ∃ fn, P.funcs[f]? = some fn ∧ (fn.name == "runtime.NumGoroutine") = false ∧ fn.body.isNone = false
theorem FnI.run {P:Program} {f:FuncId} (h:FnI P f) (args:Array Value) (w:World):(callFunc f args).run P w=.ok (.enter f args) w:=by
 obtain⟨fn,h1,h2,h3⟩:=h.h
 simp only[callFunc,Sem.run_bind,run_program,Result.andThen_ok,h1,h2,h3,wP,if_false]
 rfl
def Xi (st:AS):List Operand->List SV->Prop
 | [],xs=>xs=[]
 | o::os,xs=>∃ x r,B2 st o=.s x/\Xi st os r/\xs=x::r
theorem A2 {st:AS}:Xi st [] []:=rfl
theorem Af {st:AS} {o:Operand} {os:List Operand} {x:SV} {r:List SV} (h:B2 st o=.s x) (t:Xi st os r):Xi st (o::os) (x::r):=⟨x,r,h,t,rfl⟩
theorem T0 {c:Ctx} {st:AS} {a:Act} {w:World} {S:Bz} {H:Nat->Value} (r:Rel c st a w S H):∀ {os:List Operand} {xs:List SV},Xi st os xs->Yv (Bt w S st.m H) xs (os.map a.eval)
 | [],xs,h=>by cases h;exact⟨rfl,λj x v h=>by simp at h⟩
 | o::os,xs,h=>by
  obtain⟨x,rr,h1,h2,rfl⟩:=h
  have ih:=T0 r h2
  have h0:=Ba r o
  rw[h1] at h0
  refine⟨by simp [ih.1],λj y v hy hv=>?_⟩
  cases j with
  | zero=>simp only[yT,xO,zJ] at hy hv;subst hy;subst hv;exact h0
  | succ j=>exact ih.2 j y v (by simpa using hy) (by simpa using hv)
theorem Xt {w:World} {S:Bz} {m:List Blk} {H:Nat->Value} {x:AV} {v:Value} (h:AVR (Rep w S) x v):AVR (Bt w S m H) x v:=AVR.mono (λ_ _=>Bt.of_rep) h
section
variable {P:Program} {c:Ctx} {st:AS} {ops:Array Oper} {Q:Exit->AS->Prop} {rest:List Oper} {ty:TypeId} {pos:String} {af:Array Edge} {d:Tmp}
theorem Aqj {f:FuncId} {args:Array Operand} {ats:Array TypeId} {xs ys:List SV} {m':List Blk} {R:AV->Prop} (hf:FnI P f) (ho:Xi st args.toList xs) (hp:W6 st.m xs ys m') (hc:A6 P f ys R) (hd:d<c.nt)
  (k:∀ x,R x->AWL P c ops Q rest ⟨Go.Proofs.YtkblaobhhoebaaaGreat.Abs.upd st.t d x,m'⟩):AWL P c ops Q (⟨some d,.call { callee:=.value (.func f),args:=args,argTypes:=ats },ty,pos,af,none⟩::rest) st:=by
 intro a w S H r
 obtain⟨S1,k1,g1⟩:=hp.keeps r
 have hv:=g1 _ (T0 r ho)
 refine wpList_plain rfl λK hK=>?_
 unfold Oper.wp
 have hrun:(execOp a.eval ⟨some d,.call { callee:=.value (.func f),args:=args,argTypes:=ats },ty,pos,af,none⟩).run P w=.ok (.enter f (args.map a.eval)) w:=by
  simp [execOp,resolve,Act.eval,Deferred.ofValue,invoke,hf.run]
 rw[hrun]
 refine(hc w S1 (args.map a.eval) k1.rel.sl (by simpa using hv)).mono ?_
 rintro e w' ⟨v,x,S',rfl,hx,hext,hin,hav⟩
 exact hK _ _ (k x hx _ _ _ _ ((k1.rel.ext hext hin).put hd (Xt hav)))
def Gh (n:AS->Prop) (Q:Exit->AS->Prop):Exit->AS->Prop
 | .normal,st=>n st
 | e,st=>Q e st
theorem QR.then {n:AS->Prop} {N:Act->World->Prop} (hn:∀ st a w S H,Rel c st a w S H->n st->N a w):∀ e a w,QR c (Gh n Q) e a w->Exit.then N (QR c Q) e a w:=by
 rintro e a w ⟨st,S,H,r,hq⟩
 cases e with
 | normal=>exact hn st a w S H r hq
 | _=>exact⟨st,S,H,r,hq⟩
theorem Ato {x y:Code} (h:AWC P c x (Gh (AWC P c y Q) Q) st):AWC P c (.seq x y) Q st:=λa w S H r =>
 wp_seq (wp_mono (h a w S H r) (QR.then λ_ a w S H r hk=>hk a w S H r))
theorem Aqb (h:Q .normal st):AWC P c .skip Q st:=λ_ _ S H r=>wp_skip ⟨st,S,H,r,h⟩
theorem Ap8 {id:Nat} (h:Q (.exit id) st):AWC P c (.exit id) Q st:=λ_ _ S H r=>wp_exit ⟨st,S,H,r,h⟩
theorem Atf (h:Q .ret st):AWC P c .ret Q st:=λ_ _ S H r=>wp_ret ⟨st,S,H,r,h⟩
def Em (id:Nat) (Q:Exit->AS->Prop):Exit->AS->Prop
 | .exit id',st=>if id'=id then Q .normal st else Q (.exit id') st
 | e,st=>Q e st
theorem Akp {id:Nat} {x:Code} (h:AWC P c x (Em id Q) st):AWC P c (.block id x) Q st:=λa w S H r=>by
 refine wp_block (wp_mono (h a w S H r) ?_)
 rintro e a w ⟨st,S,H,r,hq⟩
 cases e with
 | exit id' =>
  simp only[Em] at hq
  simp only[Exit.inBlock]
  split
  ·rename_i h;rw[if_pos h] at hq;exact⟨st,S,H,r,hq⟩
  ·rename_i h;rw[if_neg h] at hq;exact⟨st,S,H,r,hq⟩
 | _=>exact⟨st,S,H,r,hq⟩
theorem Apy {o:Operand} {x y:Code} {b:Bool} (ho:B2 st o=.s (.one (.b b))) (h1:b=true->AWC P c x Q st) (h0:b=false->AWC P c y Q st):AWC P c (.cond o x y) Q st:=λa w S H r=>by
 have h:=Ba r o
 rw[ho] at h
 have hv:a.eval o=.bool b:=Tn (h:Rep w S (.b b) (a.eval o))
 exact wp_cond_split hv (λhb=>h1 hb a w S H r) (λhb=>h0 hb a w S H r)
theorem Abi {id:Nat} {l:List Oper} (h:AWL P c l.toArray Q l st):AWC P c (.region id l.toArray false) Q st:=λa w S H r=>wp_region_lit (h a w S H r)
theorem Ahb {x:Code} (st':AS) (h:∀ a w S H,Rel c st a w S H->∃ S' H',Rel c st' a w S' H') (k:AWC P c x Q st'):AWC P c x Q st:=λa w S H r=>by
 obtain⟨S',H',r'⟩:=h a w S H r
 exact k a w S' H' r'
theorem Avw {l:List Oper} (st':AS) (h:∀ a w S H,Rel c st a w S H->∃ S' H',Rel c st' a w S' H') (k:AWL P c ops Q l st'):AWL P c ops Q l st:=λa w S H r=>by
 obtain⟨S',H',r'⟩:=h a w S H r
 exact k a w S' H' r'
end
open Go.RowKit
inductive Aqv (P:Program) (st:AS):ResultVar->SV->Prop
 | tmp (t:Tmp) (x:SV) (h:st.t t=.s x):Aqv P st (.tmp t) x
 | one (t:Tmp) (ty:TypeId) (l y:Lf) (cs:List Lf) (ti:TI P ty false 1) (h:st.t t=.s (.one l)) (hp:Aba st l cs) (hy:cs[0]? = some y):Aqv P st (.cell t ty) (.one y)
 | agg (t:Tmp) (ty:TypeId) (sz:Nat) (l:Lf) (cs:List Lf) (ti:TI P ty true sz) (h:st.t t=.s (.one l)) (hp:Aba st l cs) (hy:sz<=cs.length):Aqv P st (.cell t ty) (.agg (cs.take sz))
def Aah (P:Program) (st:AS):List ResultVar->List SV->Prop
 | [],xs=>xs=[]
 | v::vs,xs=>∃ x r,Aqv P st v x/\Aah P st vs r/\xs=x::r
theorem A4 {P:Program} {st:AS}:Aah P st [] []:=rfl
theorem Au {P:Program} {st:AS} {v:ResultVar} {vs:List ResultVar} {x:SV} {r:List SV} (h:Aqv P st v x) (t:Aah P st vs r):Aah P st (v::vs) (x::r):=⟨x,r,h,t,rfl⟩
def Aer (tmps:Array Value):ResultVar->Sem Value
 | .tmp t=>pure (tmps.getD t undef)
 | .cell b t=>do loadVar t (<- asAddr (tmps.getD b undef))
theorem Xo (fn:Func) (tmps:Array Value):results fn tmps=(fn.results.mapM (Aer tmps)) >>= λvs=>pure (if h:vs.size=1 then vs[0] else .tuple vs):=by
 unfold results
 have:(λx=>match x with | .tmp t=>(pure (tmps.getD t undef):Sem Value) | .cell b t=>do loadVar t (<- asAddr (tmps.getD b undef)))=Aer tmps:=by
  funext x
  cases x <;> rfl
 rw[<- this]
 rfl
def Acn:List SV->AV
 | [x]=>.s x
 | xs=>.tup xs
theorem Aos {P:Program} {c:Ctx} {st:AS} {a:Act} {w:World} {S:Bz} {H:Nat->Value} (r:Rel c st a w S H) {v:ResultVar} {x:SV} (h:Aqv P st v x) :
  ∃ u,(Aer a.tmps v).run P w=.ok u w/\SVR (Bt w S st.m H) x u:=by
 cases h with
 | tmp t x h =>
  have:=r.tm t
  rw[h] at this
  exact⟨_,rfl,this⟩
 | one t ty l y cs ti h hp hy =>
  have h1:=r.tm t
  rw[h] at h1
  obtain⟨g,off,hv,hc⟩:=Tb r hp h1
  obtain⟨u,hu,hr⟩:=hc 0 y hy
  rw[kF] at hu
  refine⟨u,?_,hr⟩
  show Sem.run P (do let x <- asAddr (a.tmps.getD t undef);loadVar ty x) w=.ok u w
  rw[hv]
  simp [asAddr,ti.run_load1 hu]
 | agg t ty sz l cs ti h hp hy =>
  have h1:=r.tm t
  rw[h] at h1
  have:=Uh (P:=P) (c:=c) (ty:=0) (x:=.tmp t) ti h hp hy a w S H r
  obtain⟨u,hu,hrun⟩:=this
  refine⟨u,?_,hu⟩
  obtain⟨g,off,hv,hc⟩:=Tb r hp h1
  have h2 := hrun none "" #[] none
  have hv':a.eval (.tmp t)=.pointer (some ⟨g,off,none⟩):=hv
  show Sem.run P (do let x <- asAddr (a.tmps.getD t undef);loadVar ty x) w=.ok u w
  rw[hv]
  simp only[execOp,hv',Instr.loadAt,Instr.sureAddr] at h2
  simp only[asAddr]
  cases hl:(loadVar ty ⟨g,off,none⟩).run P w with
  | ok z w2=>simp [hl] at h2;obtain⟨rfl,rfl⟩:=h2;simp [hl]
  | halt z w2=>simp [hl] at h2
theorem P5 {P:Program} {α β:Type} (f:α->Sem β) (w:World):∀ (l:List α) (vs:List β),l.length=vs.length->(∀ (j:Nat) (x:α) (v:β),l[j]? = some x->vs[j]? = some v->(f x).run P w=.ok v w)->(l.mapM f).run P w=.ok vs w
 | [],vs,hl,_=>by
  have:vs=[]:=z7 hl.symm
  subst this
  simp
 | x::l,[],hl,_=>by simp at hl
 | x::l,v::vs,hl,h=>by
  have h0:=h 0 x v rfl rfl
  have ih:=P5 f w l vs (by simpa using hl) (λj x v h1 h2=>h (j+1) x v (by simpa using h1) (by simpa using h2))
  simp [List.mapM_cons,h0,ih]
theorem Zz {P:Program} {c:Ctx} {st:AS} {a:Act} {w:World} {S:Bz} {H:Nat->Value} (r:Rel c st a w S H):∀ {vs:List ResultVar} {xs:List SV},Aah P st vs xs ->
  ∃ us:List Value,vs.length=us.length/\Yv (Bt w S st.m H) xs us/\∀ (j:Nat) (v:ResultVar) (u:Value),vs[j]? = some v->us[j]? = some u ->
   (Aer a.tmps v).run P w=.ok u w
 | [],xs,h=>by cases h;exact⟨[],rfl,⟨rfl,λj x v h=>by simp at h⟩,λj x v h=>by simp at h⟩
 | v::vs,xs,h=>by
  obtain⟨x,rr,h1,h2,rfl⟩:=h
  obtain⟨u,hu,hx⟩:=Aos r h1
  obtain⟨us,hl,hs,hr⟩:=Zz r h2
  refine⟨u::us,by simp [hl],⟨by simp [hs.1],λj y z hy hz=>?_⟩,λj y z hy hz=>?_⟩
  ·cases j with
   | zero=>simp only[yT,zJ] at hy hz;subst hy;subst hz;exact hx
   | succ j=>exact hs.2 j y z (by simpa using hy) (by simpa using hz)
  ·cases j with
   | zero=>simp only[yT,zJ] at hy hz;subst hy;subst hz;exact hu
   | succ j=>exact hr j y z (by simpa using hy) (by simpa using hz)
theorem Zm {P:Program} {c:Ctx} {st:AS} {a:Act} {w:World} {S:Bz} {H:Nat->Value} (r:Rel c st a w S H) {fn:Func} {xs:List SV} (h:Aah P st fn.results.toList xs) :
  ∃ u,(results fn a.tmps).run P w=.ok u w/\∀ (S':Bz) (ys:List SV),(∀ vs,Yv (Bt w S st.m H) xs vs->Yv (Rep w S') ys vs)->AVR (Rep w S') (Acn ys) u:=by
 obtain⟨us,hl,hs,hr⟩:=Zz r h
 have hm:(fn.results.mapM (Aer a.tmps)).run P w=.ok us.toArray w:=by
  have:=P5 (P:=P) (Aer a.tmps) w fn.results.toList us hl hr
  rw[j1]
  simp only[Sem.run_map,this,Result.andThen_ok]
 have hres:(results fn a.tmps).run P w=.ok (if h:us.toArray.size=1 then us.toArray[0] else .tuple us.toArray) w:=by
  rw[Xo,Sem.run_bind,hm]
  rfl
 refine⟨_,hres,λS' ys hy=>?_⟩
 have h1:=hy us hs
 clear hres hm hl hs hr hy
 match us,ys,h1 with
 | [u],[y],h1=>exact h1.2 0 y u rfl rfl
 | [u],[],h1=>have:=h1.1;simp at this
 | [u],_::_::_,h1=>have:=h1.1;simp at this
 | [],[],h1=>exact⟨#[],rfl,rfl,λj x u hx=>by simp at hx⟩
 | [],_::_,h1=>have:=h1.1;simp at this
 | _::_::_,[],h1=>have:=h1.1;simp at this
 | _::_::_,[y],h1=>have:=h1.1;simp at this
 | u1::u2::us,y1::y2::ys,h1=>exact⟨(u1::u2::us).toArray,by simp,by simpa using h1.1,λj x u hx hu=>h1.2 j x u hx (by simpa using hu)⟩
def Asw (P:Program) (fn:Func) (R:AV->Prop) (e:Exit) (st:AS):Prop :=
 (e=.normal\/e=.ret)/\∃ xs ys m',Aah P st fn.results.toList xs/\W6 st.m xs ys m'/\R (Acn ys)
def Ar0 (args:List SV) (i:Nat):AV:=match args[i]? with
 | some x=>.s x
 | none=>.tup []
theorem An {P:Program} {f:FuncId} {fn:Func} {body:Code} {args:List SV} {R:AV->Prop} (hf:P.funcs[f]? = some fn) (hb:fn.body=some body) {nt:Nat} (hnt:fn.ntmps=nt) (hn:args.length<=nt)
  (h:∀ w0 S0,AWC P (Ctx.of w0 S0 nt) body (Asw P fn R) ⟨Ar0 args,[]⟩):A6 P f args R:=by
 subst hnt
 intro w S vs hS hv
 refine calls_of_wp hf hb ?_
 have hlen:vs.size=args.length:=by have:=hv.1;simp at this;omega
 have hget:∀ i,(vs++Array.replicate (fn.ntmps-vs.size) undef).getD i undef=vs.getD i undef:=by
  intro i
  simp only[zF,jS]
  split
  ·rfl
  ·rename_i hi
   rw[wX]
   have:vs[i]? = none:=w6 (by omega)
   rw[this]
   split <;> rfl
 have r0:Rel (Ctx.of w S fn.ntmps) ⟨Ar0 args,[]⟩ { tmps:=vs++Array.replicate (fn.ntmps-vs.size) undef,defers:=[] } w S (λ_=>undef):=by
  refine⟨by simp;omega,rfl,λi=>?_,λp b h=>by simp at h,λp b g h=>by simp at h,λp q b b' g h=>by simp at h,λp b g i h=>by simp at h,hS,Vt.refl _ w S,zZ _,λp g h=>absurd h (zW _),λp e sz k cs h=>absurd h (zW _),λp h=>absurd h (zW _)⟩
  rw[hget]
  show AVR _ (match args[i]? with|some x=>.s x|none=>.tup []) _
  cases ha:args[i]? with
  | none =>
   have:vs[i]? = none:=w6 (by rw[hlen];exact wJ.1 ha)
   simp only[zF,this,zAc]
   exact H8
  | some x =>
   have hi:i<args.length:=(zB.1 ha).1
   have hi':i<vs.size:=by omega
   have:vs[i]? = some vs[i]:=zR hi'
   simp only[zF,this,yI]
   exact SVR.mono (λ_ _=>Bt.of_rep) (hv.2 i x _ ha (by simp))
 refine wp_mono (h w S _ _ _ _ r0) ?_
 rintro e a w1 ⟨st,S1,H,r,he,xs,ys,m',hx,hp,hR⟩
 obtain⟨u,hu,hk⟩:=Zm r hx
 obtain⟨S2,k2,g2⟩:=hp.keeps r
 have hav:=hk S2 ys g2
 have hfin:∃ v x S',Ending.returned u=.returned v/\R x/\Ext w S w1 S'/\InH w1 S'/\AVR (Rep w1 S') x v:=⟨u,Acn ys,S2,rfl,hR,k2.rel.ex.toExt (λ_ h=>h),k2.rel.sl,hav⟩
 rcases he with rfl|rfl
 ·exact⟨r.df,u,hu,hfin⟩
 ·exact⟨r.df,u,hu,hfin⟩
def Lf.inb (n:Nat):Lf->Bool
 | .lp p _=>decide (p<n)
 | .ls p _=>decide (p<n)
 | .ap p _ _=>decide (p<n)
 | .mp _ p=>decide (p<n)
 | .fn _ la lb=>la.all (λl=>match l with | .lp p _=>decide (p<n) | .ls p _=>decide (p<n) | .ap p _ _=>decide (p<n) | .mp _ p=>decide (p<n) | _=>true)&&lb.all (λl=>match l with | .lp p _=>decide (p<n) | .ls p _=>decide (p<n) | .ap p _ _=>decide (p<n) | .mp _ p=>decide (p<n) | _=>true)
 | _=>true
def SV.inb (n:Nat):SV->Prop
 | .one l=>l.inb n=true
 | .agg ls=>∀ l∈ls,l.inb n=true
def AV.inb (n:Nat):AV->Prop
 | .s x=>x.inb n
 | .tup xs=>∀ x∈xs,x.inb n
 | .top=>True
def Blk.inb (n:Nat):Blk->Prop
 | .box cs=>∀ l∈cs,l.inb n=true
 | .arn .. =>False
 | _=>True
theorem Df.trim {w:World} {S:Bz} {m ex:List Blk} {H:Nat->Value} {l:Lf} {v:Value} (hl:(match l with | .lp p _=>decide (p<m.length) | .ls p _=>decide (p<m.length) | .ap p _ _=>decide (p<m.length) | .mp _ p=>decide (p<m.length)|_=>true)=true) (h:Df w S (m++ex) H l v):Df w S m H l v:=by
 cases l with
 | lp p off=>exact⟨by simpa using hl,h.2⟩
 | mp k p=>exact⟨by simpa using hl,h.2⟩
 | ls p n =>
  have hp:p<m.length:=by simpa using hl
  exact⟨hp,h.2.1,λe sz k cs hm=>h.2.2 e sz k cs (by rw[zK hp];exact hm)⟩
 | ap p n off =>
  have hp:p<m.length:=by simpa using hl
  exact⟨hp,h.2.1,λe sz k cs hm=>h.2.2 e sz k cs (by rw[zK hp];exact hm)⟩
 | _=>exact h
theorem Bt.trim {w:World} {S:Bz} {m ex:List Blk} {H:Nat->Value} {l:Lf} {v:Value} (hl:l.inb m.length=true) (h:Bt w S (m++ex) H l v):Bt w S m H l v:=by
 cases l with
 | fn f a b =>
  obtain⟨va,vb,hv,h1,h2⟩:=h
  simp only[Lf.inb,zS,zL] at hl
  exact⟨va,vb,hv,⟨h1.1,λj l v hj hu=>Df.trim (hl.1 l (zG hj)) (h1.2 j l v hj hu)⟩,⟨h2.1,λj l v hj hu=>Df.trim (hl.2 l (zG hj)) (h2.2 j l v hj hu)⟩⟩
 | lp p off=>exact Df.trim (w:=w) (S:=S) (l:=.lp p off) hl h
 | mp k p=>exact Df.trim (w:=w) (S:=S) (l:=.mp k p) hl h
 | ls p n=>exact Df.trim (w:=w) (S:=S) (l:=.ls p n) hl h
 | ap p n off=>exact Df.trim (w:=w) (S:=S) (l:=.ap p n off) hl h
 | i k n=>exact h
 | b x=>exact h
 | s x=>exact h
 | raw v=>exact h
 | sl n cs=>exact h
 | cp cs=>exact h
 | nix=>exact h
 | jk e sz n=>exact h
theorem SVR.trim {w:World} {S:Bz} {m ex:List Blk} {H:Nat->Value} {x:SV} {v:Value} (hx:x.inb m.length) (h:SVR (Bt w S (m++ex) H) x v):SVR (Bt w S m H) x v:=by
 cases x with
 | one l=>exact Bt.trim hx h
 | agg ls =>
  obtain⟨cs,rfl,h1,h2⟩:=h
  exact⟨cs,rfl,h1,λj l u hl hu=>Bt.trim (hx l (zG hl)) (h2 j l u hl hu)⟩
theorem AVR.trim {w:World} {S:Bz} {m ex:List Blk} {H:Nat->Value} {x:AV} {v:Value} (hx:x.inb m.length) (h:AVR (Bt w S (m++ex) H) x v):AVR (Bt w S m H) x v:=by
 cases x with
 | s x=>exact SVR.trim hx h
 | tup xs =>
  obtain⟨vs,rfl,h1,h2⟩:=h
  exact⟨vs,rfl,h1,λj x u hj hu=>SVR.trim (hx x (zG hj)) (h2 j x u hj hu)⟩
 | top=>trivial
theorem Rel.trim {c:Ctx} {t:Nat->AV} {m ex:List Blk} {a:Act} {w:World} {S:Bz} {H:Nat->Value} (r:Rel c ⟨t,m++ex⟩ a w S H) {t':Nat->AV} (ht:∀ i,t' i=.top\/(t' i=t i/\(t i).inb m.length)) (hm:∀ b∈m,b.inb m.length) (hk:c.m0.length<=m.length):Rel c ⟨t',m⟩ a w S H:=by
 have hget:∀ {p:Nat} {b:Blk},m[p]? = some b->(m++ex)[p]? = some b:=λ{p b} h=>by rw[zK (zB.1 h).1];exact h
 refine⟨r.nt,r.df,λi=>?_,λp b hb=>?_,λp b g hb ho=>r.lo p b g (hget hb) ho,λp q b b' g hb hb'=>r.inj p q b b' g (hget hb) (hget hb'),λp b g i hb=>r.sb p b g i (hget hb),r.sl,r.ex,hk,r.kh,λp e sz k cs hp hm'=>r.kr p e sz k cs hp (hget hm'),r.ku⟩
 ·rcases ht i with h|⟨h1,h2⟩
  ·show AVR _ (t' i) _
   rw[h];trivial
  ·show AVR _ (t' i) _
   rw[h1]
   exact AVR.trim h2 (r.tm i)
 ·have hr:=r.bl p b (hget hb)
  cases b with
  | dead=>trivial
  | hole=>exact hr
  | obj g mk cs=>exact hr
  | tab mk cs=>exact hr
  | arn e sz g n cap cs=>exact(hm _ (zG hb)).elim
  | arr e sz k cs=>exact hr
  | box cs =>
   obtain⟨g,e,cur,h1,h2,h3⟩:=hr
   have hin:=hm _ (zG hb)
   exact⟨g,e,cur,h1,h2,h3.1,λj l v hl hv=>Bt.trim (hin l (zG hl)) (h3.2 j l v hl hv)⟩
def Zf (t:Nat->AV):List (Nat×AV)->Nat->AV
 | []=>t
 | (i,x)::r=>upd (Zf t r) i x
def Nm (t:Nat->AV):List (Nat×AV)->Prop
 | []=>True
 | (i,x)::r=>t i=x/\Nm t r
def Ai7 (n:Nat):List (Nat×AV)->Prop
 | []=>True
 | (_,x)::r=>x.inb n/\Ai7 n r
theorem Nx {t:Nat->AV}:∀ {l:List (Nat×AV)} {n:Nat},Nm t l->Ai7 n l->∀ i,Zf (λ_=>.top) l i=.top\/(Zf (λ_=>.top) l i=t i/\(t i).inb n)
 | [],_,_,_,i=>.inl rfl
 | (j,x)::r,n,h,hn,i=>by
  show upd (Zf (λ_=>.top) r) j x i=.top\/(upd (Zf (λ_=>.top) r) j x i=t i/\_)
  rw[Ej]
  by_cases e:i=j
  ·subst e
   simp only[if_true]
   exact .inr ⟨h.1.symm,by rw[h.1];exact hn.1⟩
  ·simp only[if_neg e]
   exact Nx h.2 hn.2 i
section
variable {P:Program} {c:Ctx} {st:AS} {Q:Exit->AS->Prop}
theorem Aoq {body:Code} {G:Type} (sl:G->List (Nat×AV)) (mm:G->List Blk) (pre:G->Prop) (μ:G->Nat) (g0:G) (p0:pre g0) (s0:Nm st.t (sl g0)) (ex:List Blk) (m0:st.m=mm g0++ex)
  (hin:∀ g,pre g->Ai7 (mm g).length (sl g)) (hmin:∀ g,pre g->∀ b∈mm g,b.inb (mm g).length) (hk:∀ g,pre g->c.m0.length<=(mm g).length)
  (round:∀ g,pre g->AWC P c body (Gh (λst'=>∃ g' ex',pre g'/\Nm st'.t (sl g')/\st'.m=mm g'++ex'/\μ g'<μ g) Q) ⟨Zf (λ_=>.top) (sl g),mm g⟩):AWC P c (.loop body) Q st:=by
 intro a w S H r
 have key:∀ n,∀ g a w S H,pre g->μ g=n->Rel c ⟨Zf (λ_=>.top) (sl g),mm g⟩ a w S H->∀ (b:Frame) (k:List Item) (cs:List Frame),
   ∃ e a' w',QR c Q e a' w'/\Arrives P (lone (b.at a (.code body::.inLoop body::k)) cs w) b k cs e a' w':=by
  intro n
  induction n using Nat.strongRecOn with
  | _ n ih =>
   intro g a w S H hp hn r b k cs
   obtain⟨e,a₁,w₁,hq,harr⟩:=round g hp a w S H r b (.inLoop body::k) cs
   obtain⟨st',S',H',r',hq⟩:=hq
   cases e with
   | normal =>
    obtain⟨g',ex',hp',hs',hm',hlt⟩:=hq
    have r'':Rel c ⟨st'.t,mm g'++ex'⟩ a₁ w₁ S' H':=by rw[<- hm'];exact r'
    have rt:=r''.trim (Nx hs' (hin g' hp')) (hmin g' hp') (hk g' hp')
    obtain⟨e₂,a₂,w₂,hq₂,harr₂⟩:=ih (μ g') (hn ▸ hlt) g' a₁ w₁ S' H' hp' rfl rt b k cs
    exact⟨e₂,a₂,w₂,hq₂,.of_steps (Steps.trans harr (.one step_inLoop)) harr₂⟩
   | exit id=>exact⟨_,a₁,w₁,⟨st',S',H',r',hq⟩,.pass (x:=.inLoop body) rfl (λ_ _=>.inl (by simp)) harr⟩
   | goto l=>exact⟨_,a₁,w₁,⟨st',S',H',r',hq⟩,.pass (x:=.inLoop body) rfl (λ_ _=>.inl (by simp)) harr⟩
   | ret=>exact⟨_,a₁,w₁,⟨st',S',H',r',hq⟩,.pass (x:=.inLoop body) rfl (λ_ _=>.inl (by simp)) harr⟩
   | panic ch=>exact⟨_,a₁,w₁,⟨st',S',H',r',hq⟩,.pass (x:=.inLoop body) rfl (λ_ _=>.inl (by simp)) harr⟩
   | outgrown=>exact⟨_,a₁,w₁,⟨st',S',H',r',hq⟩,.pass (x:=.inLoop body) rfl (λ_ _=>.inl (by simp)) harr⟩
 have r0:Rel c ⟨st.t,mm g0++ex⟩ a w S H:=by rw[<- m0];exact r
 have rt:=r0.trim (Nx s0 (hin g0 p0)) (hmin g0 p0) (hk g0 p0)
 intro b k cs
 obtain⟨e,a',w',hq,harr⟩:=key _ g0 a w S H p0 rfl rt b k cs
 exact⟨e,a',w',hq,.of_steps (.one step_loop) harr⟩
end
open Go.RowKit
structure EI (P:Program) (e sz bytes:Nat) (zl:List Lf):Prop where
 h:∃ i z,P.info? e=some i/\i.zero=some z/\i.size=sz/\i.bytes=bytes/\z.cells.size=sz/\z.cells.toList.map clf=zl/\z.cells.all (·.oneCell')=true
 p:0<sz
structure NI (P:Program) (t:TypeId):Prop where
 h:(∃ e,P.underlying t=some (.slice e))\/P.underlying t=some .string
structure Src (P:Program) (w:World) (y:Value) (size m:Nat) (news:List Value):Prop where
 len:∀ w1,(Builtin.lenOf y).run P w1=.ok m w1
 cells:∀ w1:World,(∀ a,w1.cell? a=w.cell? a)->(Builtin.firstCells size m y).run P w1=.ok news.toArray w1
section run
variable {P:Program} {w:World} {t t2 ty e:TypeId} {i:TypeInfo} {z y:Value} {n cap m:Nat} {news:List Value}
theorem Ye {base:Option Addr} {size:Nat} (ht:P.underlying t=some (.slice e)) (hi:P.info? e=some i) (hz:i.size=size) (h2:NI P t2) (hs:Src P w y size 0 []) (hc:n<=cap) :
  (Builtin.append_ #[t,t2] ty #[.slice base n cap,y]).run P w=.ok (.slice base n cap) w:=by
 subst hz
 have h1:=hs.len w
 have h3:=hs.cells w (λ_=>rfl)
 rcases h2.h with⟨e2,hu2⟩|hu2
 ·cases base with
  | none=>simp [Builtin.append_,run_underlying ht,run_underlying hu2,sizeOf,typeInfo,hi,h1,h3,hc]
  | some a=>simp [Builtin.append_,run_underlying ht,run_underlying hu2,sizeOf,typeInfo,hi,h1,h3,hc,storeCells]
 ·cases base with
  | none=>simp [Builtin.append_,run_underlying ht,run_underlying hu2,sizeOf,typeInfo,hi,h1,h3,hc]
  | some a=>simp [Builtin.append_,run_underlying ht,run_underlying hu2,sizeOf,typeInfo,hi,h1,h3,hc,storeCells]
theorem Aeq {g:Nat} {cur:Array Value} (ht:P.underlying t=some (.slice e)) (hi:P.info? e=some i) (h2:NI P t2) (hs:Src P w y i.size m news) (hg:w.heap[g]? = some (.cells cur e (0,0)))
  (h1:∀ u∈news,u.oneCell'=true) (hroom:n+m<=cap) (hfit:n*i.size+news.length<=cur.size) :
  (Builtin.append_ #[t,t2] ty #[.slice (some ⟨g,0,none⟩) n cap,y]).run P w =
   .ok (.slice (some ⟨g,0,none⟩) (n+m) cap) (w.setRow g (cur.toList.take (n*i.size)++news++cur.toList.drop (n*i.size+news.length)).toArray):=by
 have hl:=hs.len w
 have hf:=hs.cells w (λ_=>rfl)
 have hst:=run_storeCells_at P g (n*i.size) e news 0 cur w hg (by simpa using hfit) h1
 simp only[kF] at hst
 rcases h2.h with⟨e2,hu2⟩|hu2
 ·simp [Builtin.append_,run_underlying ht,run_underlying hu2,sizeOf,typeInfo,hi,hl,hroom,hf,Addr.add_lit,hst]
 ·simp [Builtin.append_,run_underlying ht,run_underlying hu2,sizeOf,typeInfo,hi,hl,hroom,hf,Addr.add_lit,hst]
theorem Yk {base:Option Addr} {olds:List Value} (ht:P.underlying t=some (.slice e)) (hi:P.info? e=some i) (hz:i.zero=some z) (h2:NI P t2) (hs:Src P w y i.size m news)
  (ho:∀ w1:World,(∀ a,w1.cell? a=w.cell? a)->(Builtin.firstCells i.size n (.slice base n cap)).run P w1=.ok olds.toArray w1)
  (hg:cap<n+m) (h63:((n+m:Nat):Int)<=9223372036854775807) (hfit:Builtin.nextslicecap (n+m) cap*i.bytes<=281474976710656) :
  (Builtin.append_ #[t,t2] ty #[.slice base n cap,y]).run P w =
   .ok (.slice (some ⟨w.heap.size,0,none⟩) (n+m) (grownCap w (n+m) cap e)) (w.drew.alloc (.cells (olds.toArray++news.toArray++Builtin.zeroCells z.cells (grownCap w (n+m) cap e-(n+m))) e)):=by
 have hl:=hs.len w
 have hn:¬ (n+m<=cap):=by omega
 have h63':¬ (9223372036854775807<((n:Int)+(m:Int))):=by omega
 have h48':¬ (281474976710656<Builtin.nextslicecap (n+m) cap*i.bytes):=by omega
 have hf:=hs.cells w.drew (λ_=>rfl)
 have hfo:=ho w.drew (λ_=>rfl)
 rcases h2.h with⟨e2,hu2⟩|hu2
 ·simp [Builtin.append_,run_underlying ht,run_underlying hu2,sizeOf,typeInfo,zeroValue,hi,hz,hl,hn,h63',h48',Question.forced,hf,hfo,newRow,grownCap]
  congr 2
  apply Array.ext'
  simp [xM]
 ·simp [Builtin.append_,run_underlying ht,run_underlying hu2,sizeOf,typeInfo,zeroValue,hi,hz,hl,hn,h63',h48',Question.forced,hf,hfo,newRow,grownCap]
  congr 2
  apply Array.ext'
  simp [xM]
end run
theorem LsR.append {R:Lf->Value->Prop} {a b:List Lf} {x y:List Value} (h:LsR R a x) (k:LsR R b y):LsR R (a++b) (x++y):=by
 refine⟨by simp [h.1,k.1],λj l v h1 h2=>?_⟩
 by_cases hj:j<a.length
 ·rw[zK hj] at h1
  rw[zK (by rw[<- h.1];exact hj)] at h2
  exact h.2 j l v h1 h2
 ·rw[z2 (by omega)] at h1
  rw[z2 (by rw[<- h.1];omega),<- h.1] at h2
  exact k.2 _ l v h1 h2
theorem Rel.append {P:Program} {c:Ctx} {st:AS} {a:Act} {w:World} {S:Bz} {H:Nat->Value} (r:Rel c st a w S H) {t t2 ty e:TypeId} {sz bytes:Nat} {zl:List Lf} {p n m k:Nat} {cs ys:List Lf} {y:Value} {news:List Value}
  (ht:P.underlying t=some (.slice e)) (ei:EI P e sz bytes zl) (h2:NI P t2) (hm:st.m[p]? = some (.arr e sz k cs)) (hn:n*sz=cs.length) (hs:Src P w y sz m news) (hy:ys.length=m*sz) (hls:LsR (Rep w S) ys news)
  (h63:n+m<=maxLen) (hb:(n+m)*bytes<=140737488355328) :
  ∃ v' w' S' H',(Builtin.append_ #[t,t2] ty #[H p,y]).run P w=.ok v' w'/\Rel c ⟨st.t,st.m.set p (.arr e sz k (cs++ys))⟩ a w' S' H'/\H' p=v':=by
 obtain⟨i,z,hi,hz,hsize,hbytes,hzs,hzl,hzo⟩:=ei.h
 have hp:p<st.m.length:=(zB.1 hm).1
 obtain⟨hsz,hk,n0,vals,hown,hcs,hstb⟩:=r.bl p _ hm
 have hnn:n0=n:=L0 hown hsz (by rw[<- hcs.1];exact hn)
 subst hnn
 have hnl:news.length=m*sz:=by rw[<- hls.1,hy]
 have hone:∀ u∈news,u.oneCell'=true:=by
  intro u hu
  obtain⟨j,hj,hju⟩:=yU hu
  have hj':j<ys.length:=by rw[hls.1];exact hj
  exact Rep.oneCell (hls.2 j _ u (zC hj') (by rw[zC hj,hju]))
 subst hsize
 subst hbytes
 have hset:∀ v,(v=H p)->Mr H p v=H:=λv hv=>by
  funext q
  by_cases e':q=p
  ·rw[e',Bm];exact hv
  ·exact Bw H _ e'
 by_cases hm0:m=0
 ·subst hm0
  have h1:news=[]:=z7 (by rw[hnl,kG])
  have h1':ys=[]:=z7 (by rw[hy,kG])
  subst h1;subst h1'
  have hsame:st.m.set p (.arr e i.size k (cs++[]))=st.m:=by
   rw[xG]
   apply wE
   intro q
   by_cases e':p=q
   ·subst e';rw[zI hp,hm]
   ·rw[zM e']
  refine⟨H p,w,S,H,?_,by rw[hsame];exact r,rfl⟩
  rcases hown.2 with⟨hv,h0⟩|⟨g,cap,cur,hv,_,_,hnc,_,_,_⟩
  ·rw[hv];exact Ye (n:=0) ht hi rfl h2 hs (zO _)
  ·rw[hv];exact Ye ht hi rfl h2 hs hnc
 have hmpos:0<m:=Nat.pos_of_ne_zero hm0
 have hyspos:0<ys.length:=by rw[hy];exact Nat.mul_pos hmpos hsz
 have grow:∀ (olds:List Value) (old:Nat),olds=vals->old<n0+m->Cz (H p)≠some w.heap.size ->
   ∃ S' H',Rel c ⟨st.t,st.m.set p (.arr e i.size k (cs++ys))⟩ a (w.drew.alloc (.cells (olds.toArray++news.toArray++Builtin.zeroCells z.cells (grownCap w (n0+m) old e-(n0+m))) e)) S' H' /\
    H' p=.slice (some ⟨w.heap.size,0,none⟩) (n0+m) (grownCap w (n0+m) old e):=by
  intro olds old ho hold _
  subst ho
  have hge:=grownCap_ge w (n0+m) old e
  have hcm:grownCap w (n0+m) old e<=maxLen:=grownCap_le_maxLen w (n0+m) old e h63
  generalize hcap:grownCap w (n0+m) old e=cap' at *
  have hlen:(olds++news).length=(n0+m)*i.size:=by rw[zH,hown.1,hnl,wR]
  have hfr:=r.fresh (g:=w.heap.size) (zO _)
  let S':Bz:=λb j=>S b j\/(b=w.heap.size/\j<k)
  have hkeep:∀ b j,S b j->S' b j/\(w.drew.alloc (.cells (olds.toArray++news.toArray++Builtin.zeroCells z.cells (cap'-(n0+m))) e)).cell? ⟨b,j,none⟩=w.cell? ⟨b,j,none⟩ :=
   λb j h=>⟨.inl h,World.cell?_alloc_lt w.drew _ ⟨b,j,none⟩ (r.sl.1 b j h)⟩
  have hown':(w.drew.alloc (.cells (olds.toArray++news.toArray++Builtin.zeroCells z.cells (cap'-(n0+m))) e)).ownsRow 0 e i.size (.slice (some ⟨w.heap.size,0,none⟩) (n0+m) cap') (n0+m) (olds++news):=by
   refine⟨hlen,.inr ⟨w.heap.size,cap',_,rfl,zZ _,heap_alloc_new w.drew _,hge,hcm,?_,?_⟩⟩
   ·simp only[yY,yE,size_zeroCells,hzs,hown.1,hnl,<- wR]
    congr 1
    omega
   ·simp only[xR,xM]
    rw[<- xM,<- hlen]
    exact List.take_left
  refine⟨S',Mr H p (.slice (some ⟨w.heap.size,0,none⟩) (n0+m) cap'),?_,Bm H p _⟩
  refine r.change (b':=.arr e i.size k (cs++ys)) (by simp) (by rw[zI hp]) (λq hq=>zM (λe=>hq e.symm)) hkeep (λg _ hg=>?_)
   (λe' sz' k' cs' _ h=>by cases h;exact⟨k,cs,hm,.inr (by simp;omega)⟩) (λg hg _=>Below.heap_alloc w.drew _ g hg) ?_ (λg hg=>?_) (λq b g j hq hb ho hs=>?_) (λg j hg _ hs=>?_) ⟨λb j hs=>?_,r.sl.2.1.mono hkeep⟩ (by simp) rfl rfl rfl
  ·rcases hown.2 with⟨hv,_⟩|⟨g',cap,cur,hv,_⟩
   ·rw[hv] at hg;cases hg
   ·rw[hv] at hg;cases hg
  ·refine⟨hsz,by simp;omega,n0+m,olds++news,hown',(LsR.append hcs hls).mono (λl v=>Rep.mono hkeep),λg hg j hj=>?_⟩
   simp only[Cz,zJ] at hg
   exact .inr ⟨hg.symm,hj⟩
  ·simp only[Blk.own,Cz,zJ] at hg
   subst hg
   refine⟨.inl r.ex.size,by simp,λq b _ hb=>hfr.1 q b hb,λj hj=>?_⟩
   rcases hj with hj|hj
   ·exact absurd hj (hfr.2 j)
   ·exact hj.2
  ·rcases hs with hs|hs
   ·exact hs
   ·have:=(r.lo q b g hb ho).2;omega
  ·rcases hs with hs|hs
   ·exact hs
   ·have:=r.ex.size;omega
  ·rcases hs with hs|hs
   ·have:=r.sl.1 b j hs;simp;omega
   ·rw[hs.1];simp
 have h63':((n0+m:Nat):Int)<=9223372036854775807:=by simp only[maxLen] at h63;omega
 rcases hown.2 with⟨hv,h0⟩|⟨g,cap,cur,hv,hbg,hg,hnc,hcm,hcsz,htake⟩
 ·subst h0
  have hvals:vals=[]:=z7 (by simpa using hown.1)
  obtain⟨S',H',hr,hH⟩:=grow [] 0 hvals.symm (by omega) (by rw[hv];simp [Cz])
  refine⟨_,_,S',H',?_,hr,hH⟩
  rw[hv]
  exact Yk (n:=0) (cap:=0) ht hi hz h2 hs (λw1 _=>by simp [Builtin.firstCells]) (by omega) h63' (growslice_fits (by omega) hb)
 ·by_cases hroom:n0+m<=cap
  ·have hfit:n0*i.size+news.length<=cur.size:=by rw[hnl,hcsz,<- wR];exact yZ _ hroom
   have hrun:=Aeq (ty:=ty) (n:=n0) (cap:=cap) ht hi h2 hs hg hone hroom hfit
   have hrow:=setRow_heap w g cur (cur.toList.take (n0*i.size)++news++cur.toList.drop (n0*i.size+news.length)).toArray e _ hg
   have hoth:∀ q,q≠g->(w.setRow g (cur.toList.take (n0*i.size)++news++cur.toList.drop (n0*i.size+news.length)).toArray).heap[q]? = w.heap[q]? := λq hq=>setRow_other w g q _ hq
   have hownp:(Blk.arr e i.size k cs).own (H p)=some g:=by rw[hv];rfl
   have hcl:cs.length=n0*i.size:=hn.symm
   have hkeep:∀ b j,S b j->S b j/\(w.setRow g (cur.toList.take (n0*i.size)++news++cur.toList.drop (n0*i.size+news.length)).toArray).cell? ⟨b,j,none⟩=w.cell? ⟨b,j,none⟩:=by
    intro b j hS
    refine⟨hS,?_⟩
    by_cases hbg':b=g
    ·subst hbg'
     have hj:j<cs.length:=z6 (r.sb p _ b j hm hownp hS) hk
     rw[cell_of_row _ b j _ e (0,0) hrow,cell_of_row w b j cur e (0,0) hg]
     have:=getElem?_putAt cur.toList news (n0*i.size) j hfit
     rw[if_pos (by omega)] at this
     simpa using this
    ·exact World.cell?_of_block (w:=w) (hoth b hbg')
   refine⟨_,_,S,Mr H p (.slice (some ⟨g,0,none⟩) (n0+m) cap),by rw[hv];exact hrun,?_,Bm H p _⟩
   have hlen:(vals++news).length=(n0+m)*i.size:=by rw[zH,hown.1,hnl,wR]
   have hown':(w.setRow g (cur.toList.take (n0*i.size)++news++cur.toList.drop (n0*i.size+news.length)).toArray).ownsRow 0 e i.size (.slice (some ⟨g,0,none⟩) (n0+m) cap) (n0+m) (vals++news):=by
    refine⟨hlen,.inr ⟨g,cap,_,rfl,hbg,hrow,hroom,hcm,?_,?_⟩⟩
    ·simp only[yE,zH,zN,yB,zX];omega
    ·rw[htake,<- hlen];exact List.take_left
   refine r.change (b':=.arr e i.size k (cs++ys)) (by simp) (by rw[zI hp]) (λq hq=>zM (λe=>hq e.symm)) hkeep (λg' _ hg'=>by rw[hv] at hg';cases hg')
    (λe' sz' k' cs' _ h=>by cases h;exact⟨k,cs,hm,.inr (by simp;omega)⟩) (λg' _ hne=>hoth g' (λe'=>hne _ hm (by rw[e'];exact hownp))) ?_ (λg' hg'=>?_) (λq b g' j _ _ _ hs=>hs) (λg' j _ _ hs=>hs) ⟨λb j hs=>by simp;exact r.sl.1 b j hs,r.sl.2.1.mono hkeep⟩ (by simp) rfl rfl rfl
   ·refine⟨hsz,by simp;omega,n0+m,vals++news,hown',(LsR.append hcs hls).mono (λl v=>Rep.mono hkeep),λg' hg' j hj=>?_⟩
    simp only[Cz,zJ] at hg'
    subst hg'
    exact hstb _ hownp j hj
   ·simp only[Blk.own,Cz,zJ] at hg'
    subst hg'
    refine⟨(r.lo p _ g hm hownp).1,by simp;exact(r.lo p _ g hm hownp).2,λq b hq hb ho=>hq (r.inj q p b _ g hb hm ho hownp),λj hj=>(r.sb p _ g j hm hownp hj:j<k)⟩
  ·have hne:Cz (H p)≠some w.heap.size:=by
    rw[hv]
    simp only[Cz,ne_eq,zJ]
    have:=(yA.1 hg).1
    omega
   obtain⟨S',H',hr,hH⟩:=grow vals cap rfl (by omega) hne
   refine⟨_,_,S',H',?_,hr,hH⟩
   rw[hv]
   refine Yk ht hi hz h2 hs (λw1 hw1=>?_) (by omega) h63' (growslice_fits (by omega) hb)
   exact run_firstCells_some w1 i.size n0 ⟨g,0,none⟩ n0 cap vals hown.1 (λj v hv'=>by rw[hw1];exact hown.cells (g:=g) (by rw[hv];rfl) j v hv')
inductive Ad4 (P:Program):SV->Nat->Nat->List Lf->Prop
 | sl (sz n:Nat) (cs:List Lf) (h:cs.length=n*sz):Ad4 P (.one (.sl n cs)) sz n cs
 | nil (sz:Nat):Ad4 P (.one (.raw (.slice none 0 0))) sz 0 []
 | str (x:ByteArray):Ad4 P (.one (.s x)) 1 x.size (x.data.toList.map λb=>.i .u8 b.toNat)
theorem Ad4.src {P:Program} {w:World} {S:Bz} {x:SV} {sz m:Nat} {ys:List Lf} (h:Ad4 P x sz m ys) {v:Value} (hv:SVR (Rep w S) x v):∃ news,Src P w v sz m news/\ys.length=m*sz/\LsR (Rep w S) ys news:=by
 match x,sz,m,ys,h with
 | _,_,_,_,.sl sz n cs h =>
  have hv':Rep w S (.sl n cs) v:=hv
  cases hv' with
  | sl0 a cap =>
   refine⟨[],⟨λw1=>by simp [Builtin.lenOf],λw1 _=>?_⟩,h,rfl,λj l v h=>by simp at h⟩
   cases a <;> simp [Builtin.firstCells,loadCells,loadCellsFrom]
  | sl n cs bk off cap vals hc hm hs hr =>
   refine⟨(List.range cs.length).map vals,⟨λw1=>by simp [Builtin.lenOf],λw1 hw1=>?_⟩,h,by simp,λj l u h1 h2=>?_⟩
   ·refine run_firstCells_some w1 sz n ⟨bk,off,none⟩ n cap _ (by simpa using h) (λj v hj=>?_)
    rw[zQ] at hj
    have hjl:j<cs.length:=by
     rcases zU j cs.length with h|h
     ·exact h
     ·rw[yL (by simpa using h)] at hj;cases hj
    rw[jZ hjl] at hj
    cases hj
    rw[Addr.add_lit,hw1]
    exact(hs j _ (zC hjl)).2
   ·have hjl:j<cs.length:=(zB.1 h1).1
    rw[zQ,jZ hjl] at h2
    cases h2
    exact hr j l h1
 | _,_,_,_,.nil sz =>
  have hv':v=.slice none 0 0:=Eu hv
  subst hv'
  exact⟨[],⟨λw1=>by simp [Builtin.lenOf],λw1 _=>by simp [Builtin.firstCells]⟩,by simp,rfl,λj l v h=>by simp at h⟩
 | _,_,_,_,.str x =>
  have hv':v=.string x:=Ajx hv
  subst hv'
  refine⟨x.data.toList.map λb=>.int .u8 b.toNat,⟨λw1=>by simp [Builtin.lenOf],λw1 _=>?_⟩,by simp,by simp,λj l u h1 h2=>?_⟩
  ·have hx2:(x.extract 0 x.size)=x:=by simp
   simp only[Builtin.firstCells,Sem.run_pure,hx2]
   congr 1
   apply Array.ext'
   simp
  ·rw[zQ] at h1 h2
   cases hb:x.data.toList[j]? with
   | none=>rw[hb] at h1;cases h1
   | some b =>
    rw[hb] at h1 h2
    cases h1;cases h2
    exact .i _ _
section
variable {P:Program} {c:Ctx} {st:AS} {ops:Array Oper} {Q:Exit->AS->Prop} {rest:List Oper} {ty:TypeId} {pos:String} {af:Array Edge} {d:Tmp}
theorem Ajv {x y:Operand} {t t2 e sz bytes p n m k:Nat} {zl cs ys:List Lf} {yv yv':SV} {m':List Blk} (si:P.underlying t=some (.slice e)) (ei:EI P e sz bytes zl) (h2:NI P t2) (hx:B2 st x=.s (.one (.ls p n))) (hy:B2 st y=.s yv)
  (hp:Xk st.m yv yv' m') (hm:m'[p]? = some (.arr e sz k cs)) (hn:n*sz=cs.length) (hsrc:Ad4 P yv' sz m ys) (h63:n+m<=maxLen) (hb:(n+m)*bytes<=140737488355328) (hd:d<c.nt)
  (kk:AWL P c ops Q rest ⟨Go.Proofs.YtkblaobhhoebaaaGreat.Abs.upd st.t d (.s (.one (.ls p (n+m)))),m'.set p (.arr e sz k (cs++ys))⟩) :
  AWL P c ops Q (⟨some d,.call { callee:=.builtin .append,args:=#[x,y],argTypes:=#[t,t2] },ty,pos,af,none⟩::rest) st:=by
 intro a w S H r
 have hy':=Ba r y
 rw[hy] at hy'
 obtain⟨S1,k1,g1⟩:=hp.keeps r
 have hyr:=g1 _ hy'
 obtain⟨news,hs,hyl,hls⟩:=hsrc.src hyr
 have hx':=Ba r x
 rw[hx] at hx'
 have hx2:Bt w S1 m' H (.ls p n) (a.eval x):=k1.gr _ _ hx'
 obtain⟨hpl,_,hr⟩:=hx2
 have hH:=(hr _ _ _ _ hm).2 hn
 obtain⟨v',w',S',H',hrun,hrel,hHp⟩:=k1.rel.append (P:=P) (ty:=ty) si ei h2 hm hn hs hyl hls h63 hb
 refine wpList_plain rfl λK hK=>?_
 unfold Oper.wp
 have hrun':(execOp a.eval ⟨some d,.call { callee:=.builtin .append,args:=#[x,y],argTypes:=#[t,t2] },ty,pos,af,none⟩).run P w=.ok (.value v') w':=by
  simp [execOp,resolve,invoke,builtin,hH,hrun]
 rw[hrun']
 refine hK _ _ (kk _ _ _ _ (hrel.put (d:=d) (x:=.s (.one (.ls p (n+m)))) hd ?_))
 refine⟨by simpa using hpl,?_,λe2 sz2 k2 cs2 hm2=>?_⟩
 ·rw[<- hHp]
  obtain⟨_,_,n',vals,hown,_⟩:=hrel.bl p _ (by show(m'.set p _)[p]? = some (.arr e sz k (cs++ys));rw[zI hpl])
  exact Sy hown
 ·have:(m'.set p (.arr e sz k (cs++ys)))[p]? = some (.arr e2 sz2 k2 cs2):=hm2
  rw[zI hpl] at this
  cases this
  exact⟨by rw[zH,hyl,wR,hn];exact zO _,λ_=>hHp.symm⟩
end
open Go.RowKit
def Aax (zl:List Lf) (n:Nat):List Lf:=(List.range n).map λj=>zl.getD (j % zl.length) default
theorem Oa (zl:List Lf) (n:Nat):(Aax zl n).length=n:=by simp [Aax]
theorem Ab2 {w:World} {S:Bz} {z:Value} (hz:0<z.cells.size) (hzo:z.cells.all (·.oneCell')=true) (a b:Nat) (h:a<=b):LsR (Rep w S) (Aax (z.cells.toList.map clf) a) ((madeCells z.cells b).toList.take a):=by
 refine⟨by simp [Aax,size_madeCells];omega,λj l v h1 h2=>?_⟩
 have hj:j<a:=by
  have:=(zB.1 h1).1
  rwa [Oa] at this
 have hm:j % z.cells.size<z.cells.size:=zAe _ hz
 have e1:l=clf z.cells[j % z.cells.size]:=by
  simp [Aax,hj,List.getD,hm] at h1
  exact h1.symm
 have e2:v=z.cells[j % z.cells.size]:=by
  rw[yF,if_pos hj] at h2
  have hjb:j<b:=z6 hj h
  simp [madeCells,hjb] at h2
  rw[<- h2]
  rw[getElem!_pos z.cells _ hm]
 subst e1;subst e2
 refine Acy ?_
 rw[wO] at hzo
 exact hzo _ (j9 hm)
section
variable {P:Program} {c:Ctx} {st:AS} {ops:Array Oper} {Q:Exit->AS->Prop} {rest:List Oper} {ty:TypeId} {pos:String} {af:Array Edge} {d:Tmp}
theorem Att {l:List Oper} (i:Nat) {x y:SV} {m':List Blk} (hx:st.t i=.s x) (hp:Xk st.m x y m') (k:AWL P c ops Q l ⟨Go.Proofs.YtkblaobhhoebaaaGreat.Abs.upd st.t i (.s y),m'⟩):AWL P c ops Q l st:=by
 intro a w S H r
 obtain⟨S',k1,g1⟩:=hp.keeps r
 have h:=r.tm i
 rw[hx] at h
 have hy:=g1 _ h
 have r':=k1.rel
 refine k a w S' H ⟨r'.nt,r'.df,λj=>?_,r'.bl,r'.lo,r'.inj,r'.sb,r'.sl,r'.ex,r'.kl,r'.kh,r'.kr,r'.ku⟩
 show AVR _ (Go.Proofs.YtkblaobhhoebaaaGreat.Abs.upd st.t i _ j) _
 rw[Ej]
 by_cases e:j=i
 ·subst e;rw[if_pos rfl];exact SVR.mono (λ_ _=>Bt.of_rep) hy
 ·rw[if_neg e];exact r'.tm j
def Aet (P:Program) (c:Ctx) (st:AS) (op:Op) (ty:TypeId) (e sz n:Nat) (cs:List Lf):Prop :=
 ∀ a w S H,Rel c st a w S H->∃ v w' vals,(∀ d pos af g,(execOp a.eval ⟨d,op,ty,pos,af,g⟩).run P w=.ok (.value v) w')/\Ext w S w' S/\InH w' S/\w'.ownsRow w.heap.size e sz v n vals/\LsR (Rep w' S) cs vals
theorem Ut {op:Op} {e sz:Nat} {cs:List Lf} {n:Nat} (hsz:0<sz) (hd:d<c.nt)
  (h:Aet P c st op ty e sz n cs)
  (k:AWL P c ops Q rest ⟨Go.Proofs.YtkblaobhhoebaaaGreat.Abs.upd st.t d (.s (.one (.ls st.m.length n))),st.m++[.arr e sz 0 cs]⟩):AWL P c ops Q (⟨some d,op,ty,pos,af,none⟩::rest) st:=by
 intro a w S H r
 obtain⟨v,w',vals,hrun,hext,hin,hown,hls⟩:=h a w S H r
 refine wpList_plain rfl λK hK=>?_
 unfold Oper.wp
 rw[hrun]
 have r':=r.ext hext hin
 have hown':w'.ownsRow c.w0.heap.size e sz v n vals:=by
  refine⟨hown.1,?_⟩
  rcases hown.2 with h|⟨g,cap,cur,hv,hb,rest⟩
  ·exact .inl h
  ·exact .inr ⟨g,cap,cur,hv,yP r.ex.size hb,rest⟩
 have hv1:=Sy hown
 have hr2:=r'.newArr hsz hown' (zO _) hls (λg hg=>by
  have hge:w.heap.size<=g:=by
   rcases hown.2 with⟨hv,_⟩|⟨g',cap,cur,hv,hb,_⟩
   ·rw[hv] at hg;cases hg
   ·rw[hv] at hg;cases hg;exact hb
  exact⟨λq b hb ho=>by have:=(r.lo q b g hb ho).2;omega,λi hs=>by have:=r.sl.1 g i hs;omega⟩)
 refine hK _ _ (k _ _ _ _ (hr2.put (d:=d) (x:=.s (.one (.ls st.m.length n))) hd ?_))
 refine⟨by simp,⟨hv1.1,by rw[Bm];exact hv1.2⟩,λe2 sz2 k2 cs2 hm2=>?_⟩
 simp at hm2
 obtain⟨rfl,rfl,rfl,rfl⟩:=hm2
 have hn:n*sz=cs.length:=by rw[<- hown.1,hls.1]
 exact⟨kC hn,λ_=>by rw[Bm]⟩
theorem Aez (cur:Array Value) (off:Nat):∀ (vs:List Value) (j:Nat) (cs:Array Value),off+j+vs.length<=cs.size ->
  ((vs.zipIdx j).foldl (λ(cs:Array Value) (x:Value×Nat)=>cs.setIfInBounds (off+x.2) x.1) cs).toList=cs.toList.take (off+j)++vs++cs.toList.drop (off+j+vs.length)
 | [],j,cs,_=>by simp
 | v::vs,j,cs,h=>by
  simp only[xD] at h
  rw[List.zipIdx_cons,kO,Aez cur off vs (j+1) _ (by simp;omega)]
  have hlt:off+j<cs.toList.length:=by simp;omega
  apply wE
  intro i
  have hlen:off+(j+1)+vs.length<=(cs.setIfInBounds (off+j) v).toList.length:=by simp;omega
  have hlen2:off+j+(v::vs).length<=cs.toList.length:=by simp;omega
  rw[getElem?_putAt _ vs (off+(j+1)) i hlen,getElem?_putAt _ (v::vs) (off+j) i hlen2]
  simp only[Array.toList_setIfInBounds,xD]
  by_cases h1:i<off+j
  ·rw[if_pos (by omega),if_pos h1,zM (by omega)]
  ·by_cases h2:i=off+j
   ·subst h2
    rw[if_pos (by omega),if_neg (by omega),if_pos (by omega),zI hlt]
    simp
   ·by_cases h3:i<off+j+(vs.length+1)
    ·rw[if_neg (by omega),if_pos (by omega),if_neg h1,if_pos h3]
     rw[show i-(off+j)=(i-(off+(j+1)))+1 by omega,jL]
    ·rw[if_neg (by omega),if_neg (by omega),if_neg h1,if_neg h3,zM (by omega)]
theorem Aiw (off:Nat) (vs cs:Array Value) (h:off+vs.size<=cs.size) :
  (vs.zipIdx.foldl (λ(cs:Array Value) (x:Value×Nat)=>cs.setIfInBounds (off+x.2) x.1) cs).toList=cs.toList.take off++vs.toList++cs.toList.drop (off+vs.toList.length):=by
 have:=Aez cs off vs.toList 0 cs (by simpa using h)
 simp only[kF] at this
 rw[<- this,<- Array.foldl_toList,Array.toList_zipIdx]
inductive Wj (place:Nat->Option (Nat×Nat)):List Lf->List (Nat×SV)->List Lf->Prop
 | nil (cs:List Lf):Wj place cs [] cs
 | cons (cs out:List Lf) (i off s:Nat) (x:SV) (rest:List (Nat×SV)) (hp:place i=some (off,s)) (hl:x.cells.length=s) (hb:off+s<=cs.length) (t:Wj place (Ky cs off x.cells) rest out):Wj place cs ((i,x)::rest) out
def Yy (st:AS):List (Nat×Operand)->List (Nat×SV)->Prop
 | [],xs=>xs=[]
 | (i,o)::os,xs=>∃ x r,B2 st o=.s x/\Yy st os r/\xs=(i,x)::r
theorem Dh:Yy st [] []:=rfl
theorem Bo {i:Nat} {o:Operand} {os:List (Nat×Operand)} {x:SV} {r:List (Nat×SV)} (h:B2 st o=.s x) (t:Yy st os r):Yy st ((i,o)::os) ((i,x)::r):=⟨x,r,h,t,rfl⟩
theorem Ad1 {R:Lf->Value->Prop} (hone:∀ l v,R l v->v.oneCell'=true) {place:Nat->Option (Nat×Nat)} {cs out:List Lf} {xs:List (Nat×SV)} (hb:Wj place cs xs out) :
  ∀ (cells:Array Value) (ps:List (Nat×Value)),LsR R cs cells.toList->xs.length=ps.length->(∀ (j:Nat) (x:Nat×SV) (p:Nat×Value),xs[j]? = some x->ps[j]? = some p->x.1=p.1/\SVR R x.2 p.2) ->
   ∃ cells',Instr.fill place cells ps=some cells'/\LsR R out cells'.toList:=by
 induction hb with
 | nil cs =>
  intro cells ps h hl _
  have:ps=[]:=z7 hl.symm
  subst this
  exact⟨cells,rfl,h⟩
 | cons cs out i off s x rest hp hl hbd _ ih =>
  intro cells ps h hlen hps
  cases ps with
  | nil=>simp at hlen
  | cons p ps =>
   obtain⟨e1,e2⟩:=hps 0 _ p rfl rfl
   have hx:=R2 e2 hone
   have hsz:p.2.cells.size=s:=by rw[<- hl,hx.1];simp
   have hcs:cells.size=cs.length:=by rw[h.1];simp
   have hput:=Aiw off p.2.cells cells (by rw[hsz,hcs];exact hbd)
   have hnew:LsR R (Ky cs off x.cells) (p.2.cells.zipIdx.foldl (λ(cs:Array Value) (x:Value×Nat)=>cs.setIfInBounds (off+x.2) x.1) cells).toList:=by
    rw[hput]
    refine⟨?_,λj l v h1 h2=>?_⟩
    ·simp only[Ky,zH,zN,yB]
     rw[<- hx.1,<- h.1]
    ·unfold Ky at h1
     rw[getElem?_putAt cs x.cells off j (by rw[hl];exact hbd)] at h1
     rw[getElem?_putAt cells.toList p.2.cells.toList off j (by rw[<- hx.1,hl,<- h.1];exact hbd)] at h2
     rw[<- hx.1] at h2
     by_cases a1:j<off
     ·rw[if_pos a1] at h1 h2;exact h.2 j l v h1 h2
     ·rw[if_neg a1] at h1 h2
      by_cases a2:j<off+x.cells.length
      ·rw[if_pos a2] at h1 h2;exact hx.2 _ l v h1 h2
      ·rw[if_neg a2] at h1 h2;exact h.2 j l v h1 h2
   obtain⟨cells',hf,hr⟩:=ih _ ps hnew (by simpa using hlen) (λj y q h1 h2=>hps (j+1) y q (by simpa using h1) (by simpa using h2))
   refine⟨cells',?_,hr⟩
   obtain⟨pi,pv⟩:=p
   simp only at e1
   subst e1
   unfold Instr.fill
   simp only[hp]
   rw[if_neg (by simp only at hsz;rw[hsz,hcs];simp;omega)]
   exact hf
theorem Z9 {a:Act} {w:World} {S:Bz} {H:Nat->Value} (r:Rel c st a w S H):∀ {os:List (Nat×Operand)} {xs:List (Nat×SV)},Yy st os xs ->
  xs.length=(os.map λx=>(x.1,a.eval x.2)).length/\∀ (j:Nat) (x:Nat×SV) (p:Nat×Value),xs[j]? = some x->(os.map λx=>(x.1,a.eval x.2))[j]? = some p->x.1=p.1/\SVR (Bt w S st.m H) x.2 p.2
 | [],xs,h=>by cases h;exact⟨rfl,λj x p h=>by simp at h⟩
 | (i,o)::os,xs,h=>by
  obtain⟨x,rr,h1,h2,rfl⟩:=h
  have ih:=Z9 r h2
  have h0:=Ba r o
  rw[h1] at h0
  refine⟨by simp [ih.1],λj y p hy hp=>?_⟩
  cases j with
  | zero=>simp only[yT,xO,zJ] at hy hp;subst hy;subst hp;exact⟨rfl,h0⟩
  | succ j=>exact ih.2 j y p (by simpa using hy) (by simpa using hp)
structure PI (P:Program) (t:TypeId) (pl:List (Nat×Nat)):Prop where
 h:∃ fs,P.underlying t=some (.struct fs)/\fs.size=pl.length/\∀ (j:Nat) (f:Field) (q:Nat×Nat),fs[j]? = some f->pl[j]? = some q->f.offset=q.1/\(P.info? f.type).map (·.size)=some q.2
theorem Ad0 {P:Program} {α β:Type} (f:α->Sem β) (w:World) (l:Array α) (vs:List β) (hl:l.size=vs.length) (h:∀ (j:Nat) (x:α) (v:β),l[j]? = some x->vs[j]? = some v->(f x).run P w=.ok v w):(l.mapM f).run P w=.ok vs.toArray w:=by
 have:=P5 (P:=P) f w l.toList vs (by simpa using hl) (λj x v h1 h2=>h j x v (by simpa using h1) h2)
 rw[j1]
 simp only[Sem.run_map,this,Result.andThen_ok]
theorem O4 {t:TypeId} {zl out:List Lf} {pl:List (Nat×Nat)} {parts:Array (Nat×Operand)} {xs:List (Nat×SV)} (zi:ZI P t zl) (pi:PI P t pl) (hp:Yy st parts.toList xs) (hb:Wj (λi:Nat=>pl[i]?) zl xs out) :
  OpV P c st (.build t parts) ty (.s (.agg out)):=by
 intro a w S H r
 obtain⟨i,z,hi,hz,hl,ho⟩:=zi.h
 obtain⟨fs,hu,hfl,hfs⟩:=pi.h
 have hpr:=Z9 r hp
 have hz0:LsR (Bt w S st.m H) zl z.cells.toList:=by rw[<- hl];exact Acv ho
 obtain⟨cells',hf,hr⟩:=Ad1 (λl v=>Bt.oneCell) hb z.cells _ hz0 hpr.1 hpr.2
 refine⟨.agg cells',⟨cells',rfl,hr⟩,λ_ _ _ _=>?_⟩
 have hmap:(fs.mapM (λf=>do pure (f.offset,<- sizeOf f.type):Field->Sem (Nat×Nat))).run P w=.ok pl.toArray w :=
  Ad0 _ w fs pl hfl (λj f q h1 h2=>by
   obtain⟨e1,e2⟩:=hfs j f q h1 h2
   simp [Ci e2,e1])
 have hfill:Instr.fill (λj:Nat=>pl.toArray[j]?) z.cells ((parts.map λx=>(x.1,a.eval x.2)).toList)=some cells':=by
  rw[Array.toList_map]
  have:(λj:Nat=>pl.toArray[j]?)=λj:Nat=>pl[j]? := by funext j;simp
  rw[this]
  exact hf
 simp only[execOp,Instr.build,Sem.run_bind,zeroValue,typeInfo,run_program,Result.andThen_ok,hi,hz,Sem.run_pure,run_underlying hu,hmap]
 rw[show(λx:Nat×Operand=>(x.1,a.eval x.2))=(λx=>match x with|(i,x)=>(i,a.eval x)) from rfl] at hfill
 simp only[hfill,Sem.run_pure,Result.andThen_ok]
end
open Go.RowKit
section
variable {P:Program} {c:Ctx} {st:AS} {ops:Array Oper} {Q:Exit->AS->Prop} {rest:List Oper} {ty:TypeId} {pos:String} {af:Array Edge} {d:Tmp}
theorem Aey {place:Nat->Option (Nat×Nat)} {cs out:List Lf} {xs:List (Nat×SV)} (hb:Wj place cs xs out):out.length=cs.length:=by
 induction hb with
 | nil cs=>rfl
 | cons cs out i off s x rest hp hl hbd _ ih =>
  rw[ih]
  simp only[Ky,zH,zN,yB]
  omega
theorem Rx {t e sz bytes len:Nat} {zl out:List Lf} {parts:Array (Nat×Operand)} {xs:List (Nat×SV)} (si:P.underlying t=some (.slice e)) (ei:EI P e sz bytes zl) (hp:Yy st parts.toList xs)
  (hb:Wj (λi:Nat=>some (i*sz,sz)) (Aax zl (len*sz)) xs out) (hout:∀ l∈out,l.pubd=true) (hlen:len*sz<=16777216):Aet P c st (.buildSlice t len parts) ty e sz len out:=by
 intro a w S H r
 obtain⟨i,z,hi,hz,hsize,hbytes,hzs,hzl,hzo⟩:=ei.h
 have hpr:=Z9 r hp
 have hz0:LsR (Bt w S st.m H) (Aax zl (len*sz)) (madeCells z.cells (len*sz)).toList:=by
  have:=Ab2 (w:=w) (S:=S) (z:=z) (by rw[hzs];exact ei.p) hzo (len*sz) (len*sz) (zO _)
  rw[hzl,yO (by rw[zX,size_madeCells];exact zO _)] at this
  exact this.mono (λ_ _=>Bt.of_rep)
 obtain⟨cells',hf,hr⟩:=Ad1 (λl v=>Bt.oneCell) hb _ _ hz0 hpr.1 hpr.2
 have hfill:Instr.fill (λi=>some (i*sz,sz)) (madeCells z.cells (len*sz)) ((parts.map λx=>(x.1,a.eval x.2)).toList)=some cells':=by
  rw[Array.toList_map];exact hf
 have hsz':cells'.size=len*sz:=by
  have h1:=hr.1
  have h2:out.length=(Aax zl (len*sz)).length:=Aey hb
  rw[Oa] at h2
  rw[h2] at h1
  simpa using h1.symm
 refine⟨.slice (some ⟨w.heap.size,0,none⟩) len len,w.alloc (.cells cells' e),cells'.toList,λ_ _ _ _=>?_,Ext.alloc w S _,r.sl.ext (Ext.alloc w S _),?_,?_⟩
 ·have hsi:(P.info? e).map (·.size)=some sz:=by rw[hi];simp [hsize]
  have hnle:¬ (16777216<len*sz):=by omega
  have hfill':Instr.fill (λi=>some (i*sz,sz)) (madeCells z.cells (len*sz)) (Array.map (λx=>match x with|(i,x)=>(i,a.eval x)) parts).toList=some cells':=hfill
  by_cases h0:len*sz=0
  ·have hm0:madeCells z.cells (len*sz)=madeCells #[] (len*sz):=by rw[h0];simp [madeCells,Array.range_zero']
   rw[hm0] at hfill'
   unfold madeCells at hfill'
   simp only[execOp,Instr.buildSlice,Sem.run_bind,run_underlying si,Result.andThen_ok,Ci hsi]
   simp only[gt_iff_lt,show(2:Nat) ^ 24=16777216 from rfl,show ¬ (16777216<0) from by decide,if_false,h0,if_true,Sem.run_pure]
   rw[h0] at hfill'
   simp only[Sem.run_bind,Sem.run_pure,Result.andThen_ok,hfill',newRow,run_newObj]
   rfl
  ·unfold madeCells at hfill'
   simp only[execOp,Instr.buildSlice,Sem.run_bind,run_underlying si,Result.andThen_ok,Ci hsi]
   simp only[gt_iff_lt,show(2:Nat) ^ 24=16777216 from rfl,hnle,if_false,h0,zeroValue,typeInfo,Sem.run_bind,run_program,hi,hz,Sem.run_pure,Result.andThen_ok]
   simp only[hfill',Sem.run_bind,Sem.run_pure,Result.andThen_ok,newRow,run_newObj]
   rfl
 ·exact⟨by rw[zX,hsz'],.inr ⟨w.heap.size,len,cells',rfl,zO _,heap_alloc_new w _,zO _,by
   have:len<=len*sz:=jM len ei.p
   simp only[maxLen];omega,hsz',yO (by rw[zX,hsz'];exact zO _)⟩⟩
 ·refine⟨hr.1,λj l v h1 h2=>?_⟩
  exact Rep.mono ((Ext.alloc w S _).keeps r.sl) (Bt.rep (hr.2 j l v h1 h2) (hout l (zG h1)))
theorem Vg {t e sz bytes len:Nat} {zl out:List Lf} {parts:Array (Nat×Operand)} {xs:List (Nat×SV)} (si:P.underlying t=some (.slice e)) (ei:EI P e sz bytes zl) (hp:Yy st parts.toList xs)
  (_hpub:∀ x∈xs,∀ l∈x.2.cells,l.pubd=true) (hb:Wj (λi:Nat=>some (i*sz,sz)) (Aax zl (len*sz)) xs out) (hout:∀ l∈out,l.pubd=true) (hlen:len*sz<=16777216) (hd:d<c.nt)
  (k:AWL P c ops Q rest ⟨Go.Proofs.YtkblaobhhoebaaaGreat.Abs.upd st.t d (.s (.one (.ls st.m.length len))),st.m++[.arr e sz 0 out]⟩):AWL P c ops Q (⟨some d,.buildSlice t len parts,ty,pos,af,none⟩::rest) st :=
 Ut ei.p hd (Rx si ei hp hb hout hlen) k
theorem Ad3 {t:TypeId} {x y:Operand} {p n off sz e sze k:Nat} {v:SV} {cs:List Lf} (hi:(P.info? t).map (·.size)=some sz) (hx:B2 st x=.s (.one (.ap p n off))) (hy:B2 st y=.s v) (hm:st.m[p]? = some (.arr e sze k cs)) (hn:n*sze=cs.length)
  (hv:v.cells.length=sz) (hpub:∀ l∈v.cells,l.pubd=true) (hk:k<=off) (hfit:off+sz<=cs.length)
  (kk:AWL P c ops Q rest ⟨st.t,st.m.set p (.arr e sze k (Ky cs off v.cells))⟩):AWL P c ops Q (⟨none,.store t x y,ty,pos,af,none⟩::rest) st:=by
 intro a w S H r
 have hx':=Ba r x
 rw[hx] at hx'
 obtain⟨hp,_,hr⟩:=hx'
 obtain⟨g,cp,hH,ex⟩:=(hr _ _ _ _ hm).2 hn
 have hy':=Ba r y
 rw[hy] at hy'
 have hls:=R2 hy' (λl v=>Bt.oneCell)
 obtain⟨hsz,hkc,n0,vals,hown,hcs,hstb⟩:=r.bl p _ hm
 have hnn:n0=n:=L0 hown hsz (by rw[<- hcs.1];exact hn)
 subst hnn
 rcases hown.2 with⟨hv0,_⟩|⟨g',cap,cur,hv0,hbg,hg,hnc,hcm,hcsz,htake⟩
 ·rw[hv0] at hH;cases hH
 rw[hv0] at hH
 cases hH
 have hlen:(a.eval y).cells.toList.length=sz:=by rw[<- hls.1,hv]
 have hone:∀ u∈(a.eval y).cells.toList,u.oneCell'=true:=by
  intro u hu
  obtain⟨j,hj,hju⟩:=yU hu
  have hj':j<v.cells.length:=by rw[hls.1];exact hj
  exact Bt.oneCell (hls.2 j _ u (zC hj') (by rw[zC hj,hju]))
 have hcap:n0*sze<=cur.size:=by rw[hcsz];exact yZ _ hnc
 have hfitc:off+(a.eval y).cells.toList.length<=cur.toList.length:=by rw[hlen];simp;omega
 have hst:=run_storeCells_at P g off e (a.eval y).cells.toList 0 cur w hg (by rw[hlen];omega) hone
 simp only[kF] at hst
 refine wpList_plain rfl λK hK=>?_
 unfold Oper.wp
 have hrun:(execOp a.eval ⟨none,.store t x y,ty,pos,af,none⟩).run P w=.ok .skip (w.setRow g (cur.toList.take off++(a.eval y).cells.toList++cur.toList.drop (off+(a.eval y).cells.toList.length)).toArray):=by
  have hszz:(a.eval y).cells.size=sz:=by simpa using hlen
  simp only[execOp,ex,Instr.storeAt,Instr.sureAddr,storeVar,Sem.run_bind,Sem.run_pure,Result.andThen_ok,Ci hi,hszz,ne_eq,not_true_eq_false,if_false,hst]
 rw[hrun]
 have hownp:(Blk.arr e sze k cs).own (H p)=some g:=by rw[hv0];rfl
 have hrow:=setRow_heap w g cur (cur.toList.take off++(a.eval y).cells.toList++cur.toList.drop (off+(a.eval y).cells.toList.length)).toArray e _ hg
 have hoth:∀ q,q≠g->(w.setRow g (cur.toList.take off++(a.eval y).cells.toList++cur.toList.drop (off+(a.eval y).cells.toList.length)).toArray).heap[q]? = w.heap[q]? := λq hq=>setRow_other w g q _ hq
 have hkeep:∀ b j,S b j->S b j/\(w.setRow g (cur.toList.take off++(a.eval y).cells.toList++cur.toList.drop (off+(a.eval y).cells.toList.length)).toArray).cell? ⟨b,j,none⟩=w.cell? ⟨b,j,none⟩:=by
  intro b j hS
  refine⟨hS,?_⟩
  by_cases hbg':b=g
  ·subst hbg'
   have hj:j<k:=r.sb p _ b j hm hownp hS
   rw[cell_of_row _ b j _ e (0,0) hrow,cell_of_row w b j cur e (0,0) hg]
   have:=getElem?_putAt cur.toList (a.eval y).cells.toList off j hfitc
   rw[if_pos (by omega)] at this
   simpa using this
  ·exact World.cell?_of_block (w:=w) (hoth b hbg')
 have hset:Mr H p (H p)=H:=by
  funext q
  by_cases e':q=p
  ·subst e';exact Bm H q _
  ·exact Bw H _ e'
 have hcl:cs.length=n0*sze:=hn.symm
 have hcur:cur.toList.take (n0*sze)=vals:=htake
 have hfin:Rel c ⟨st.t,st.m.set p (.arr e sze k (Ky cs off v.cells))⟩ a (w.setRow g (cur.toList.take off++(a.eval y).cells.toList++cur.toList.drop (off+(a.eval y).cells.toList.length)).toArray) S (Mr H p (H p)):=by
  have hpl:(Ky cs off v.cells).length=cs.length:=by simp only[Ky,zH,zN,yB];omega
  refine r.change (b':=.arr e sze k (Ky cs off v.cells)) (by simp) (by rw[zI hp]) (λq hq=>zM (λe=>hq e.symm)) hkeep (λg' _ _=>rfl)
   (λe' sz' k' cs' _ h=>by cases h;exact⟨k,cs,hm,.inl ⟨hpl.symm,rfl⟩⟩) (λg' _ hne=>hoth g' (λe'=>hne _ hm (by rw[e'];exact hownp))) ?_ (λg' hg'=>?_) (λq b g' j _ _ _ hs=>hs) (λg' j _ _ hs=>hs) ⟨λb j hs=>by simp;exact r.sl.1 b j hs,r.sl.2.1.mono hkeep⟩ (by simp) rfl rfl rfl
  ·have hnl:off+(a.eval y).cells.toList.length<=(cur.toList.take (n0*sze)).length:=by rw[hlen,zN,wV (by simpa using hcap)];omega
   refine⟨hsz,by rw[hpl];exact hkc,n0,(cur.toList.take (n0*sze)).take off++(a.eval y).cells.toList++(cur.toList.take (n0*sze)).drop (off+(a.eval y).cells.toList.length),?_,?_,λg' hg' j hj=>hstb g' hg' j hj⟩
   ·refine⟨?_,.inr ⟨g,cp,_,hv0,hbg,hrow,hnc,hcm,?_,?_⟩⟩
    ·simp only[zH,zN,yB,zX] at hnl ⊢;omega
    ·simp only[yE,zH,zN,yB,zX] at hfitc ⊢;omega
    ·apply wE
     intro j
     rw[yF]
     rw[getElem?_putAt _ _ off j hnl]
     by_cases hj:j<n0*sze
     ·rw[if_pos hj]
      have:=getElem?_putAt cur.toList (a.eval y).cells.toList off j hfitc
      simp only at this ⊢
      rw[this]
      by_cases b1:j<off
      ·rw[if_pos b1,if_pos b1,yF,if_pos hj]
      ·rw[if_neg b1,if_neg b1]
       by_cases b2:j<off+(a.eval y).cells.toList.length
       ·rw[if_pos b2,if_pos b2]
       ·rw[if_neg b2,if_neg b2,yF,if_pos hj]
     ·rw[if_neg hj,if_neg (by omega)]
      by_cases b2:j<off+(a.eval y).cells.toList.length
      ·rw[hlen] at b2;omega
      ·rw[if_neg b2,yF,if_neg hj]
   ·rw[hcur]
    have hvl:off+(a.eval y).cells.toList.length<=vals.length:=by rw[hlen,<- hcs.1];exact hfit
    refine⟨?_,λj l u h1 h2=>?_⟩
    ·rw[hpl];simp only[zH,zN,yB];have:=hcs.1;rw[hlen] at hvl ⊢;omega
    ·unfold Ky at h1
     rw[getElem?_putAt cs v.cells off j (by rw[hv];exact hfit)] at h1
     rw[getElem?_putAt vals _ off j hvl] at h2
     rw[<- hls.1] at h2
     refine Rep.mono hkeep ?_
     by_cases a1:j<off
     ·rw[if_pos a1] at h1 h2;exact hcs.2 j l u h1 h2
     ·rw[if_neg a1] at h1 h2
      by_cases a2:j<off+v.cells.length
      ·rw[if_pos a2] at h1 h2;exact Bt.rep (hls.2 _ l u h1 h2) (hpub l (zG h1))
      ·rw[if_neg a2] at h1 h2;exact hcs.2 j l u h1 h2
  ·have hg2:Cz (H p)=some g':=hg'
   rw[hv0] at hg2
   simp only[Cz,zJ] at hg2
   subst hg2
   exact⟨(r.lo p _ g hm hownp).1,by simp;exact(r.lo p _ g hm hownp).2,λq b hq hb ho=>hq (r.inj q p b _ g hb hm ho hownp),λj hj=>(r.sb p _ g j hm hownp hj:j<k)⟩
 rw[hset] at hfin
 exact hK a _ (kk a _ S H hfin)
theorem Atg {w:World} {S:Bz} {n:Nat} {cs:List Lf} {v:Value} (h:Rep w S (.sl n cs) v) {sz lo hi:Nat} (hl:lo<=hi) (hh:hi<=n) (hn:cs.length=n*sz) :
  ∃ a cap,v=.slice a n cap/\n<=cap/\Rep w S (.sl (hi-lo) ((cs.drop (lo*sz)).take ((hi-lo)*sz))) (.slice (if cap=lo then a else a.map (·.add (lo*sz))) (hi-lo) (cap-lo)):=by
 cases h with
 | sl0 a cap =>
  have h1:hi=0:=by omega
  have h2:lo=0:=by omega
  subst h1;subst h2
  refine⟨a,cap,rfl,zZ _,?_⟩
  simp only[jG,kG,jE]
  exact .sl0 _ _
 | sl n cs bk off cap vals hc hm hs hr =>
  refine⟨some ⟨bk,off,none⟩,cap,rfl,hc,?_⟩
  by_cases he:cap=lo
  ·have:hi=lo:=by omega
   subst this
   simp only[jG,kG,jE]
   exact .sl0 _ _
  ·rw[if_neg he]
   have hadd:(⟨bk,off,none⟩:Addr).add (lo*sz)=⟨bk,off+lo*sz,none⟩:=Addr.add_lit _ _ _
   simp only[xE,hadd]
   refine Rep.sl _ _ bk (off+lo*sz) (cap-lo) (λj=>vals (lo*sz+j)) (by omega) (by simp only[maxLen] at hm ⊢;omega) (λj l hl'=>?_) (λj l hl'=>?_)
   ·rw[yF] at hl'
    split at hl'
    ·rw[yH] at hl'
     rw[jN]
     exact hs _ _ hl'
    ·cases hl'
   ·rw[yF] at hl'
    split at hl'
    ·rw[yH] at hl'
     exact hr _ _ hl'
    ·cases hl'
def Aiz (st:AS):Option Operand->Nat->Nat->Prop
 | none,dflt,b=>b=dflt
 | some o,_,b=>∃ k i,B2 st o=.s (.one (.i k i))/\0<=i/\i.toNat=b
theorem R9 {n:Nat}:Aiz st none n n:=rfl
theorem Mq {o:Operand} {k:IntKind} {i:Int} {n:Nat} (h:B2 st o=.s (.one (.i k i))) (h0:0<=i):Aiz st (some o) n i.toNat:=⟨k,i,h,h0,rfl⟩
theorem R3 {a:Act} {w:World} {S:Bz} {H:Nat->Value} (r:Rel c st a w S H) {o:Operand} {k:IntKind} {i:Int} (h:B2 st o=.s (.one (.i k i))) (h0:0<=i) (y:Nat) (hy:i.toNat<=y) (code:BoundsCode) :
  (Instr.sliceBound (a.eval o) y code).run P w=.ok i.toNat w:=by
 have h':=Ba r o
 rw[h] at h'
 have e:a.eval o=.int k i:=Sk h'
 rw[e]
 exact run_sliceBound w k i y code h0 (by omega)
theorem Am0 {t e sz n lo hi:Nat} {x:Operand} {cs:List Lf} {l h:Option Operand} (si:SI P t e sz) (hx:B2 st x=.s (.one (.sl n cs))) (hcs:cs.length=n*sz) (hl:Aiz st l 0 lo) (hh:Aiz st h n hi) (h1:lo<=hi) (h2:hi<=n) :
  OpV P c st (.slice t x l h none) ty (.s (.one (.sl (hi-lo) ((cs.drop (lo*sz)).take ((hi-lo)*sz))))):=by
 intro a w S H r
 have hx':=Ba r x
 rw[hx] at hx'
 obtain⟨ad,cap,hv,hnc,hrep⟩:=Atg (hx':Rep w S (.sl n cs) (a.eval x)) h1 h2 hcs
 refine⟨_,Fl hrep,λ_ _ _ _=>?_⟩
 have hrun:(Instr.sliceAt t (.slice ad n cap) (l.map a.eval) (h.map a.eval) none).run P w=.ok (.slice (if cap=lo then ad else ad.map (·.add (lo*sz))) (hi-lo) (cap-lo)) w:=by
  cases h with
  | none =>
   have hhn:hi=n:=hh
   subst hhn
   cases l with
   | none =>
    have:lo=0:=hl
    subst this
    simp [Instr.sliceAt,Instr.slice,run_underlying si.u,Instr.sliceBounds,Ci si.i]
   | some o =>
    obtain⟨k,i,ho,h0,rfl⟩:=hl
    have:=R3 (P:=P) r ho h0 hi h1 .sliceB
    simp [Instr.sliceAt,Instr.slice,run_underlying si.u,Instr.sliceBounds,Ci si.i,this]
  | some o2 =>
   obtain⟨k2,i2,ho2,h02,rfl⟩:=hh
   have hb2:=R3 (P:=P) r ho2 h02 cap (by omega) .sliceAcap
   cases l with
   | none =>
    have:lo=0:=hl
    subst this
    simp [Instr.sliceAt,Instr.slice,run_underlying si.u,Instr.sliceBounds,Ci si.i,hb2]
   | some o =>
    obtain⟨k,i,ho,h0,rfl⟩:=hl
    have hb1:=R3 (P:=P) r ho h0 i2.toNat h1 .sliceB
    simp [Instr.sliceAt,Instr.slice,run_underlying si.u,Instr.sliceBounds,Ci si.i,hb2,hb1]
 simp only[execOp,hv,Sem.run_bind,Option.map_none]
 rw[hrun]
 rfl
def bl (l:List UInt8):List Lf:=l.map λb=>.i .u8 b.toNat
theorem Vh {w:World} (f:Value->ByteArray->Sem (ForInStep ByteArray)) (hf:∀ (b:UInt8) (s:ByteArray),(f (.int .u8 b.toNat) s).run P w=.ok (.yield (s.push b)) w):∀ (l:List UInt8) (s:ByteArray),
  (forIn (l.map λb=>Value.int IntKind.u8 (b.toNat:Int)) s f:Sem ByteArray).run P w=.ok ⟨s.data++l.toArray⟩ w
 | [],s=>by simp
 | b::l,s=>by
  simp only[xO,List.forIn_cons,Sem.run_bind,hf,Result.andThen_ok]
  rw[Vh f hf l]
  simp [ByteArray.push]
theorem Afu {s t e:TypeId} {x:Operand} {l:List UInt8} (hs:P.underlying s=some (.slice e)) (he:P.underlying e=some (.int .u8)) (ht:P.underlying t=some .string) (hx:B2 st x=.s (.one (.sl l.length (bl l)))) :
  OpV P c st (.convert s t x) ty (.s (.one (.s ⟨l.toArray⟩))):=by
 intro a w S H r
 have hx':=Ba r x
 rw[hx] at hx'
 have hx2:Rep w S (.sl l.length (bl l)) (a.eval x):=hx'
 refine⟨.string ⟨l.toArray⟩,Fl (.s _),λ_ _ _ _=>?_⟩
 have key:(Conv.bytesToString (a.eval x)).run P w=.ok (.string ⟨l.toArray⟩) w:=by
  generalize a.eval x=v at hx2
  generalize hn:l.length=n at hx2
  generalize hb:bl l=cs at hx2
  cases hx2 with
  | sl0 ad cap =>
   have:l=[]:=z7 hn
   subst this
   cases ad with
   | none=>rfl
   | some ad=>simp [Conv.bytesToString,loadCells,loadCellsFrom];rfl
  | sl n cs bk off cap vals hc hm hs' hr =>
   subst hn;subst hb
   have hvals:∀ j,∀ b,l[j]? = some b->vals j=.int .u8 b.toNat/\w.cell? ⟨bk,off+j,none⟩=some (.int .u8 b.toNat):=by
    intro j b hj
    have hbl:(bl l)[j]? = some (.i .u8 b.toNat):=by simp [bl,hj]
    have h1:=Sk (hr j _ hbl)
    exact⟨h1,by rw[<- h1];exact(hs' j _ hbl).2⟩
   have hload:=run_loadCells_list (P:=P) w ⟨bk,off,none⟩ (l.map λb=>Value.int .u8 b.toNat) (λj v hj=>by
    rw[zQ] at hj
    cases hb:l[j]? with
    | none=>rw[hb] at hj;cases hj
    | some b =>
     rw[hb] at hj;cases hj
     rw[Addr.add_lit]
     exact(hvals j b hb).2)
   rw[zY] at hload
   simp only[Conv.bytesToString,Sem.run_bind,hload,Result.andThen_ok,List.forIn_toArray]
   rw[Vh (P:=P) (w:=w) _ (λb s=>by simp) l ByteArray.empty]
   simp
 simp only[execOp,convert,Sem.run_bind,run_underlying hs,run_underlying ht,Result.andThen_ok]
 obtain⟨ad,cap,hv⟩:=Arh hx2
 rw[hv] at key
 simp [hv,run_underlying he,key]
end
open Go.RowKit
section
variable {P:Program} {c:Ctx} {t:Nat->AV} {m:List Blk} {ops:Array Oper} {Q:Exit->AS->Prop} {rest:List Oper} {op:Op} {ty:TypeId} {pos:String} {af:Array Edge} {d:Tmp} {x:AV}
theorem sv (hd:decide (d<c.nt)=true) (h:OpV P c ⟨t,m⟩ op ty x) (k:AWL P c ops Q rest ⟨upd t d x,m⟩):AWL P c ops Q (⟨some d,op,ty,pos,af,none⟩::rest) ⟨t,m⟩ :=
 Axw h (of_decide_eq_true hd) k
theorem son {dst:Option Tmp} {j:Nat} {want:Bool} {dj:Tmp} (hn:decide (dj<c.nt)=true) (hj:(ops[j]?).bind (·.dst)=some dj) (ht:t dj=.s (.one (.b want)))
  (k:AWL P c ops Q (⟨dst,op,ty,pos,af,none⟩::rest) ⟨t,m⟩):AWL P c ops Q (⟨dst,op,ty,pos,af,some (j,want)⟩::rest) ⟨t,m⟩ :=
 Axc hj ht k rfl (of_decide_eq_true hn)
theorem Ay7 {j:Nat} {want b:Bool} {dj:Tmp} (hd:decide (d<c.nt)=true) (hj:(ops[j]?).bind (·.dst)=some dj) (ht:t dj=.s (.one (.b b))) (hb:(b==want)=false)
  (k:AWL P c ops Q rest ⟨upd t d (.tup []),m⟩):AWL P c ops Q (⟨some d,op,ty,pos,af,some (j,want)⟩::rest) ⟨t,m⟩ :=
 An5 hj ht hb (λd' h=>by cases h;exact of_decide_eq_true hd) k
theorem Ay3 {j:Nat} {want b:Bool} {dj:Tmp} (hj:(ops[j]?).bind (·.dst)=some dj) (ht:t dj=.s (.one (.b b))) (hb:(b==want)=false)
  (k:AWL P c ops Q rest ⟨t,m⟩):AWL P c ops Q (⟨none,op,ty,pos,af,some (j,want)⟩::rest) ⟨t,m⟩ :=
 An5 hj ht hb (λd' h=>by cases h) k
theorem Ayi {j:Nat} {want:Bool} {dj:Tmp} (hd:decide (d<c.nt)=true) (hj:(ops[j]?).bind (·.dst)=some dj) (ht:t dj=.tup [])
  (k:AWL P c ops Q rest ⟨upd t d (.tup []),m⟩):AWL P c ops Q (⟨some d,op,ty,pos,af,some (j,want)⟩::rest) ⟨t,m⟩ :=
 Ah3 hj ht (λd' h=>by cases h;exact of_decide_eq_true hd) k
theorem Av2 {j:Nat} {want:Bool} {dj:Tmp} (hj:(ops[j]?).bind (·.dst)=some dj) (ht:t dj=.tup [])
  (k:AWL P c ops Q rest ⟨t,m⟩):AWL P c ops Q (⟨none,op,ty,pos,af,some (j,want)⟩::rest) ⟨t,m⟩ :=
 Ah3 hj ht (λd' h=>by cases h) k
theorem Ama {l:List Oper} (dj:Tmp) {b:Bool} (ht:t dj=.s (.one (.b b))) (k1:b=true->AWL P c ops Q l ⟨upd t dj (.s (.one (.b true))),m⟩) (k0:b=false->AWL P c ops Q l ⟨upd t dj (.s (.one (.b false))),m⟩):AWL P c ops Q l ⟨t,m⟩ :=
 Ale ht k1 k0
theorem Kk {l:List Oper} (dj:Tmp) {y:AV} (z:AV) (ht:t dj=y) (e:y=z) (k:AWL P c ops Q l ⟨upd t dj z,m⟩):AWL P c ops Q l ⟨t,m⟩:=by
 subst e
 exact Ajl (Rf ht) k
theorem Ya {x:Code} (dj:Tmp) {y:AV} (z:AV) (ht:t dj=y) (e:y=z) (k:AWC P c x Q ⟨upd t dj z,m⟩):AWC P c x Q ⟨t,m⟩:=by
 subst e
 have:upd t dj y=t:=Rf ht
 rw[this] at k
 exact k
theorem Oy {n:AS->Prop} (h:n ⟨t,m⟩):AWL P c ops (Gh n Q) [] ⟨t,m⟩:=Ach h
theorem Fi (h:Q .normal ⟨t,m⟩):AWL P c ops Q [] ⟨t,m⟩:=Ach h
theorem Aw8 {t':TypeId} {zl:List Lf} (hd:decide (d<c.nt)=true) (zi:ZI P t' zl)
  (k:AWL P c ops Q rest ⟨upd t d (.s (.one (.lp m.length 0))),m++[.box zl]⟩):AWL P c ops Q (⟨some d,.alloc t',ty,pos,af,none⟩::rest) ⟨t,m⟩ :=
 Alg zi (of_decide_eq_true hd) k
theorem Azb {t':TypeId} {y:Operand} {x:SV} (hd:decide (d<c.nt)=true) (hx:B2 ⟨t,m⟩ y=.s x)
  (k:AWL P c ops Q rest ⟨upd t d (.s (.one (.lp m.length 0))),m++[.box x.cells]⟩):AWL P c ops Q (⟨some d,.box t' y,ty,pos,af,none⟩::rest) ⟨t,m⟩ :=
 Atk hx (of_decide_eq_true hd) k
theorem Axf {t':TypeId} {x y:Operand} {p off sz:Nat} {v:SV} {cs:List Lf} (hi:(P.info? t').map (·.size)=some sz) (hx:B2 ⟨t,m⟩ x=.s (.one (.lp p off))) (hy:B2 ⟨t,m⟩ y=.s v) (hm:m[p]? = some (.box cs))
  (hv:v.cells.length=sz) (hfit:off+sz<=cs.length)
  (k:AWL P c ops Q rest ⟨t,m.set p (.box (Ky cs off v.cells))⟩):AWL P c ops Q (⟨none,.store t' x y,ty,pos,af,none⟩::rest) ⟨t,m⟩ :=
 Am8 hi hx hy hm hv hfit k
theorem Akr {t':TypeId} {x y:Operand} {p n off sz e sze k:Nat} {v:SV} {cs:List Lf} (hi:(P.info? t').map (·.size)=some sz) (hx:B2 ⟨t,m⟩ x=.s (.one (.ap p n off))) (hy:B2 ⟨t,m⟩ y=.s v) (hm:m[p]? = some (.arr e sze k cs)) (hn:n*sze=cs.length)
  (hv:v.cells.length=sz) (hpub:∀ l∈v.cells,l.pubd=true) (hk:k<=off) (hfit:off+sz<=cs.length)
  (kk:AWL P c ops Q rest ⟨t,m.set p (.arr e sze k (Ky cs off v.cells))⟩):AWL P c ops Q (⟨none,.store t' x y,ty,pos,af,none⟩::rest) ⟨t,m⟩ :=
 Ad3 hi hx hy hm hn hv hpub hk hfit kk
theorem Amw {f:FuncId} {args:Array Operand} {ats:Array TypeId} {xs ys:List SV} {m':List Blk} {r:AV} (hd:decide (d<c.nt)=true) (hf:FnI P f) (ho:Xi ⟨t,m⟩ args.toList xs) (hp:W6 m xs ys m') (hc:A6 P f ys (·=r))
  (k:AWL P c ops Q rest ⟨upd t d r,m'⟩):AWL P c ops Q (⟨some d,.call { callee:=.value (.func f),args:=args,argTypes:=ats },ty,pos,af,none⟩::rest) ⟨t,m⟩ :=
 Aqj hf ho hp hc (of_decide_eq_true hd) (λ_ h=>h ▸ k)
theorem Sz {t' e sz bytes:Nat} {zl:List Lf} (hd:decide (d<c.nt)=true) (si:P.underlying t'=some (.slice e)) (ei:EI P e sz bytes zl)
  (k:AWL P c ops Q rest ⟨upd t d (.s (.one (.ls m.length 0))),m++[.arr e sz 0 []]⟩):AWL P c ops Q (⟨some d,.buildSlice t' 0 #[],ty,pos,af,none⟩::rest) ⟨t,m⟩ :=
 Vg si ei Dh (λx h=>by cases h) (by rw[kG];exact .nil _) (λl h=>by cases h) (by omega) (of_decide_eq_true hd) k
theorem Eg {t' e sz bytes:Nat} {zl:List Lf} {o:Operand} {x:SV} (hd:decide (d<c.nt)=true) (si:P.underlying t'=some (.slice e)) (ei:EI P e sz bytes zl) (ho:B2 ⟨t,m⟩ o=.s x) (hx:x.cells.length=sz) (hp:∀ l∈x.cells,l.pubd=true) (hsz:sz<=16777216)
  (k:AWL P c ops Q rest ⟨upd t d (.s (.one (.ls m.length 1))),m++[.arr e sz 0 x.cells]⟩):AWL P c ops Q (⟨some d,.buildSlice t' 1 #[(0,o)],ty,pos,af,none⟩::rest) ⟨t,m⟩:=by
 have hput:Ky (Aax zl (1*sz)) (0*sz) x.cells=x.cells:=by
  unfold Ky
  rw[kG,yK,jE,wZ,w7 (by rw[Oa,hx,kI];exact zO _),xG]
 refine Vg (xs:=[(0,x)]) si ei (Bo ho Dh) (λy h=>?_) ?_ (λl h=>hp l h) (by omega) (of_decide_eq_true hd) k
 ·simp at h;subst h;exact hp
 ·refine Wj.cons _ _ 0 (0*sz) sz x [] rfl hx (by rw[Oa];omega) ?_
  rw[hput]
  exact .nil _
theorem At8 {x y:Operand} {t' t2 e sz bytes p n mm k:Nat} {zl cs ys:List Lf} {yv yv':SV} {m':List Blk} (hd:decide (d<c.nt)=true) (si:P.underlying t'=some (.slice e)) (ei:EI P e sz bytes zl) (h2:NI P t2) (hx:B2 ⟨t,m⟩ x=.s (.one (.ls p n))) (hy:B2 ⟨t,m⟩ y=.s yv)
  (hp:Xk m yv yv' m') (hm:m'[p]? = some (.arr e sz k cs)) (hn:n*sz=cs.length) (hsrc:Ad4 P yv' sz mm ys) (h63:n+mm<=maxLen) (hb:(n+mm)*bytes<=140737488355328)
  (kk:AWL P c ops Q rest ⟨upd t d (.s (.one (.ls p (n+mm)))),m'.set p (.arr e sz k (cs++ys))⟩) :
  AWL P c ops Q (⟨some d,.call { callee:=.builtin .append,args:=#[x,y],argTypes:=#[t',t2] },ty,pos,af,none⟩::rest) ⟨t,m⟩ :=
 Ajv si ei h2 hx hy hp hm hn hsrc h63 hb (of_decide_eq_true hd) kk
theorem Ahd {l:List Oper} (i:Nat) {x y:SV} {m':List Blk} (hx:t i=.s x) (hp:Xk m x y m') (k:AWL P c ops Q l ⟨upd t i (.s y),m'⟩):AWL P c ops Q l ⟨t,m⟩:=Att i hx hp k
theorem Avz {l:List Oper} (e sz:Nat) (i:Nat) (hsz:0<sz) (hi:t i=.s (.one (.raw (.slice none 0 0)))) (k:AWL P c ops Q l ⟨upd t i (.s (.one (.ls m.length 0))),m++[.arr e sz 0 []]⟩):AWL P c ops Q l ⟨t,m⟩ :=
 Avw _ (λ_ _ S H r=>⟨S,Mr H m.length (.slice none 0 0),Aen (st:=⟨t,m⟩) i hsz hi r⟩) k
theorem Cq {x:Code} (e sz:Nat) (i:Nat) (hsz:0<sz) (hi:t i=.s (.one (.raw (.slice none 0 0)))) (k:AWC P c x Q ⟨upd t i (.s (.one (.ls m.length 0))),m++[.arr e sz 0 []]⟩):AWC P c x Q ⟨t,m⟩ :=
 Ahb _ (λ_ _ S H r=>⟨S,Mr H m.length (.slice none 0 0),Aen (st:=⟨t,m⟩) i hsz hi r⟩) k
theorem Yn {x:Code} (e sz p:Nat) {cs:List Lf} (i:Nat) (hsz:0<sz) (hm:m[p]? = some (.box cs)) (hi:cs[i]? = some (.raw (.slice none 0 0))) (k:AWC P c x Q ⟨t,m.set p (.box (cs.set i (.ls m.length 0)))++[.arr e sz 0 []]⟩):AWC P c x Q ⟨t,m⟩ :=
 Ahb _ (λ_ _ S H r=>⟨S,Mr H m.length (.slice none 0 0),Acw (st:=⟨t,m⟩) i hsz hm hi r⟩) k
theorem Bb {x y:Code} (h:AWC P c x (Gh (AWC P c y Q) Q) ⟨t,m⟩):AWC P c (.seq x y) Q ⟨t,m⟩:=Ato h
theorem Bg {id:Nat} {l:List Oper} (h:AWL P c l.toArray Q l ⟨t,m⟩):AWC P c (.region id l.toArray false) Q ⟨t,m⟩:=Abi h
theorem B1 {o:Operand} {x y:Code} {b:Bool} (ho:B2 ⟨t,m⟩ o=.s (.one (.b b))) (h1:b=true->AWC P c x Q ⟨t,m⟩) (h0:b=false->AWC P c y Q ⟨t,m⟩):AWC P c (.cond o x y) Q ⟨t,m⟩:=Apy ho h1 h0
theorem Bh {id:Nat} {x:Code} (h:AWC P c x (Em id Q) ⟨t,m⟩):AWC P c (.block id x) Q ⟨t,m⟩:=Akp h
theorem Vu (h:Q .normal ⟨t,m⟩):AWC P c .skip Q ⟨t,m⟩:=Aqb h
theorem Tm {id:Nat} (h:Q (.exit id) ⟨t,m⟩):AWC P c (.exit id) Q ⟨t,m⟩:=Ap8 h
theorem Bn (h:Q .ret ⟨t,m⟩):AWC P c .ret Q ⟨t,m⟩:=Atf h
theorem Ag {n:AS->Prop} {st:AS} (h:n st):Gh n Q .normal st:=h
theorem Cw {n:AS->Prop} {st:AS} {id:Nat} (h:Q (.exit id) st):Gh n Q (.exit id) st:=h
theorem Oi {n:AS->Prop} {st:AS} (h:Q .ret st):Gh n Q .ret st:=h
theorem A0 {id:Nat} {st:AS} (h:Q .normal st):Em id Q .normal st:=h
theorem D5 {id:Nat} {st:AS} (h:Q .ret st):Em id Q .ret st:=h
theorem Ez {id:Nat} {st:AS} (h:Q .normal st):Em id Q (.exit id) st:=by
 show(if id=id then Q .normal st else Q (.exit id) st)
 rw[if_pos rfl];exact h
theorem X7 {id id':Nat} {st:AS} (hne:Nat.beq id' id=false) (h:Q (.exit id') st):Em id Q (.exit id') st:=by
 show(if id'=id then Q .normal st else Q (.exit id') st)
 rw[if_neg (λe=>by subst e;simp at hne)];exact h
end
open Go.RowKit
def OpD (P:Program) (c:Ctx) (st:AS) (op:Op) (ty:TypeId) (x:AV):Prop :=
 ∀ a w S H,Rel c st a w S H->∀ (dst:Option Tmp) (pos:String) (af:Array Edge) (g:Option (Nat×Bool)) (K:Act->World->Prop) (Q:Exit->Act->World->Prop),
  (∀ v w' S',Ext w S w' S'->InH w' S'->AVR (Bt w' S' st.m H) x v->K (a.put dst v) w')->Oper.wp P ⟨dst,op,ty,pos,af,g⟩ a w K Q
theorem OpV.opD {P:Program} {c:Ctx} {st:AS} {op:Op} {ty:TypeId} {x:AV} (h:OpV P c st op ty x):OpD P c st op ty x:=by
 intro a w S H r dst pos af g K Q hK
 obtain⟨v,hv,hrun⟩:=h a w S H r
 unfold Oper.wp
 rw[hrun]
 exact hK v w S (Ext.refl w S) r.sl hv
theorem Al4 {w:World} {S:Bz} {m:List Blk} {H:Nat->Value} {x:SV} {v:Value} (h:SVR (Bt w S m H) x v) (hp:x.cells.all Lf.pubd=true):SVR (Rep w S) x v:=by
 cases x with
 | one l=>exact Bt.rep h (by simpa [SV.cells] using hp)
 | agg ls =>
  obtain⟨cs,rfl,h1,h2⟩:=h
  exact⟨cs,rfl,h1,λj l u hl hu=>Bt.rep (h2 j l u hl hu) (zL.1 hp l (zG hl))⟩
theorem Cf {P:Program} {c:Ctx} {st:AS} {ty:TypeId} {f:FuncId} {args:Array Operand} {ats:Array TypeId} {xs:List SV} {r:AV} (hf:FnI P f) (ho:Xi st args.toList xs) (hp:xs.all (λx=>x.cells.all Lf.pubd)=true) (hc:A6 P f xs (·=r)) :
  OpD P c st (.call { callee:=.value (.func f),args:=args,argTypes:=ats }) ty r:=by
 intro a w S H rr dst pos af g K Q hK
 have hv:=T0 rr ho
 unfold Oper.wp
 have hrun:(execOp a.eval ⟨dst,.call { callee:=.value (.func f),args:=args,argTypes:=ats },ty,pos,af,g⟩).run P w=.ok (.enter f (args.map a.eval)) w:=by
  simp [execOp,resolve,Act.eval,Deferred.ofValue,invoke,hf.run]
 rw[hrun]
 refine(hc w S (args.map a.eval) rr.sl ⟨by simpa using hv.1,λj x v h1 h2=>?_⟩).mono ?_
 ·exact Al4 (hv.2 j x v h1 (by simpa using h2)) (zL.1 hp x (zG h1))
 ·rintro e w' ⟨v,x,S',rfl,rfl,hext,hin,hav⟩
  exact hK v w' S' hext hin (Xt hav)
def Q5 (t:Nat->AV) (L:List Nat):Nat->AV:=λj=>cond (L.contains j) (t j) .top
def Aoi (ops:Array Oper) (t:Nat->AV) (o:Oper):Prop:=o.guard=none\/∃ j want dj,o.guard=some (j,want)/\(ops[j]?).bind (·.dst)=some dj/\t dj=.s (.one (.b want))
def GNo (ops:Array Oper) (t:Nat->AV) (o:Oper):Prop:=∃ j want dj,o.guard=some (j,want)/\(ops[j]?).bind (·.dst)=some dj/\(t dj=.tup []\/∃ b,t dj=.s (.one (.b b))/\(b==want)=false)
def T6 (P:Program) (c:Ctx) (m:List Blk) (ops:Array Oper) (t:Nat->AV) (o:Oper) (x:AV):Prop :=
 (Aoi ops t o/\OpD P c ⟨Q5 t (o.looksAt ops),m⟩ o.op o.type x)\/(GNo ops t o/\x=.tup [])
def DR (P:Program) (c:Ctx) (m:List Blk) (ops:Array Oper) (k:(Nat->AV)->Prop):List Oper->(Nat->AV)->Prop
 | [],t=>k t
 | o::rest,t=>∃ x d,o.dst=some d/\d<c.nt/\T6 P c m ops t o x/\DR P c m ops k rest (upd t d x)
def Ir (l:List Oper):List Tmp:=l.filterMap (·.dst)
theorem Af9 {t t':Nat->AV} {L:List Nat} (h:∀ x∈L,t x=t' x):Q5 t L=Q5 t' L:=by
 funext j
 unfold Q5
 cases hc:L.contains j with
 | false=>rfl
 | true=>simp only[cond_true];exact h j (by simpa using hc)
theorem Da {ops:Array Oper} {o:Oper} {j:Nat} {want:Bool} {dj:Tmp} (hg:o.guard=some (j,want)) (hd:(ops[j]?).bind (·.dst)=some dj):dj∈o.looksAt ops:=by
 unfold Oper.looksAt
 rw[hg]
 refine wA _ ?_
 simp [hd]
theorem T6.congr {P:Program} {c:Ctx} {m:List Blk} {ops:Array Oper} {t t':Nat->AV} {o:Oper} {x:AV} (h:T6 P c m ops t o x) (ht:∀ y∈o.looksAt ops,t y=t' y):T6 P c m ops t' o x:=by
 rcases h with⟨hg,ho⟩|⟨hg,hx⟩
 ·refine .inl ⟨?_,by rw[<- Af9 ht];exact ho⟩
  rcases hg with hg|⟨j,want,dj,h1,h2,h3⟩
  ·exact .inl hg
  ·exact .inr ⟨j,want,dj,h1,h2,by rw[<- ht dj (Da h1 h2)];exact h3⟩
 ·obtain⟨j,want,dj,h1,h2,h3⟩:=hg
  exact .inr ⟨⟨j,want,dj,h1,h2,by rw[<- ht dj (Da h1 h2)];exact h3⟩,hx⟩
theorem DR.get {P:Program} {c:Ctx} {m:List Blk} {ops:Array Oper} {k:(Nat->AV)->Prop}:∀ {l:List Oper} {t:Nat->AV},DR P c m ops k l t->(Ir l).Nodup->(∀ (i:Nat) (o:Oper),l[i]? = some o->∀ y∈o.looksAt ops,y∉Ir (l.drop i)) ->
  ∃ T,k T/\(∀ y,y∉Ir l->T y=t y)/\∀ (i:Nat) (o:Oper),l[i]? = some o->∃ d,o.dst=some d/\d<c.nt/\T6 P c m ops T o (T d)
 | [],t,h,_,_=>⟨t,h,λ_ _=>rfl,λi o h=>by simp at h⟩
 | o::rest,t,h,hnd,hl=>by
  obtain⟨x,d,hd,hlt,hg,hr⟩:=h
  have hds:Ir (o::rest)=d::Ir rest:=by simp [Ir,hd]
  rw[hds] at hnd
  have hnd':=xU.1 hnd
  obtain⟨T,hk,hT,hG⟩:=DR.get hr hnd'.2 (λi o' h' y hy=>by
   have:=hl (i+1) o' (by simpa using h') y hy
   simpa using this)
  refine⟨T,hk,λy hy=>?_,λi o' h'=>?_⟩
  ·rw[hds] at hy
   simp only[yM,not_or] at hy
   rw[hT y hy.2,Ej,if_neg hy.1]
  ·cases i with
   | zero =>
    simp only[yT,zJ] at h'
    subst h'
    have hTd:T d=x:=by rw[hT d hnd'.1,Ej,if_pos rfl]
    refine⟨d,hd,hlt,?_⟩
    rw[hTd]
    refine hg.congr (λy hy=>?_)
    have:=hl 0 o rfl y hy
    rw[List.drop_zero,hds] at this
    simp only[yM,not_or] at this
    rw[hT y this.2,Ej,if_neg this.1]
   | succ i=>exact hG i o' (by simpa using h')
def Arw (ops:Array Oper):Bool :=
 (List.range ops.size).all λi=>match ops[i]? with
  | none=>false
  | some o=>o.dst.isSome&&o.after.all (λe=>decide (e.on<i))&&(List.range ops.size).all (λj=>match ops[j]? with
    | none=>false
    | some p=>(decide (i=j) || !(o.dst==p.dst))&&(match p.dst with
      | none=>false
      | some d=>!(o.looksAt ops).contains d||o.after.any (λe=>e.on==j&&Region.binds .any e)))
structure Ah5 (ops:Array Oper):Prop where
 dst:∀ (i:Nat) (o:Oper),ops[i]? = some o->∃ d,o.dst=some d
 lt:∀ (i:Nat) (o:Oper),ops[i]? = some o->∀ e∈o.after,e.on<i
 ne:∀ (i:Nat) (o:Oper) (j:Nat) (p:Oper),ops[i]? = some o->ops[j]? = some p->i≠j->o.dst≠p.dst
 ed:∀ (i:Nat) (o:Oper) (j:Nat) (p:Oper) (d:Tmp),ops[i]? = some o->ops[j]? = some p->p.dst=some d->d∈o.looksAt ops->∃ e∈o.after,e.on=j/\Region.binds .any e=true
theorem Alq {ops:Array Oper} (h:Arw ops=true):Ah5 ops:=by
 have key:∀ (i:Nat) (o:Oper),ops[i]? = some o->o.dst.isSome=true/\o.after.all (λe=>decide (e.on<i))=true/\∀ (j:Nat) (p:Oper),ops[j]? = some p->(decide (i=j) || !(o.dst==p.dst))=true/\(match p.dst with
      | none=>false
      | some d=>!(o.looksAt ops).contains d||o.after.any (λe=>e.on==j&&Region.binds .any e))=true:=by
  intro i o hi
  have hil:i<ops.size:=(yA.1 hi).1
  have h1:=zL.1 h i (wL.2 hil)
  rw[hi] at h1
  simp only[zS] at h1
  refine⟨h1.1.1,h1.1.2,λj p hj=>?_⟩
  have hjl:j<ops.size:=(yA.1 hj).1
  have h2:=zL.1 h1.2 j (wL.2 hjl)
  rw[hj] at h2
  simp only[zS] at h2
  exact h2
 refine⟨λi o hi=>j2.1 (key i o hi).1,λi o hi e he=>?_,λi o j p hi hj hne he=>?_,λi o j p d hi hj hd hm=>?_⟩
 ·have:=(key i o hi).2.1
  rw[wO] at this
  exact of_decide_eq_true (this e he)
 ·have:=((key i o hi).2.2 j p hj).1
  simp only[wQ,decide_eq_true_eq,xS,beq_eq_false_iff_ne] at this
  rcases this with h|h
  ·exact hne h
  ·exact h he
 ·have:=((key i o hi).2.2 j p hj).2
  rw[hd] at this
  simp only[wQ,xS] at this
  rcases this with h|h
  ·rw[List.contains_eq_mem] at h
   simp [hm] at h
  ·rw[Array.any_eq_true] at h
   obtain⟨i',hi',h⟩:=h
   simp only[zS,beq_iff_eq] at h
   exact⟨_,j9 hi',h.1,h.2⟩
theorem Ah5.nodup {ops:Array Oper} (h:Ah5 ops):(Ir ops.toList).Nodup:=by
 have aux:∀ (l:List Oper),(∀ (i:Nat) (o:Oper) (j:Nat) (p:Oper),l[i]? = some o->l[j]? = some p->i≠j->o.dst≠p.dst)->(Ir l).Nodup:=by
  intro l
  induction l with
  | nil=>intro _;exact kJ
  | cons o l ih =>
   intro hne
   have ih':=ih (λi o' j p hi hj hij=>hne (i+1) o' (j+1) p (by simpa using hi) (by simpa using hj) (by omega))
   cases hd:o.dst with
   | none=>simpa [Ir,hd] using ih'
   | some d =>
    have:Ir (o::l)=d::Ir l:=by simp [Ir,hd]
    rw[this]
    refine xU.2 ⟨λhm=>?_,ih'⟩
    unfold Ir at hm
    rw[wG] at hm
    obtain⟨p,hp,hpd⟩:=hm
    obtain⟨j,hj,hjp⟩:=yU hp
    exact hne 0 o (j+1) p rfl (by simp [zC hj,hjp]) (by omega) (by rw[hd,hpd])
 exact aux ops.toList (λi o j p hi hj=>h.ne i o j p (by simpa using hi) (by simpa using hj))
theorem Ab5 {α:Type} (p q:α->Bool) (l:List α) (h:∀ x∈l,q x=true->p x=true) {x:α} (hx:x∈l) (hp:p x=true) (hq:q x=false):l.countP q<l.countP p:=by
 induction l with
 | nil=>cases hx
 | cons y l ih =>
  simp only[List.countP_cons]
  rcases yM.1 hx with rfl|hx'
  ·have hle:l.countP q<=l.countP p:=List.countP_mono_left (λz hz=>h z (yQ _ hz))
   simp only[hp,hq,if_true]
   simp
   omega
  ·have:=ih (λz hz=>h z (yQ _ hz)) hx'
   have hy:=h y (yR ..)
   by_cases a:q y=true
   ·simp only[a,hy a,if_true];omega
   ·by_cases b:p y=true
    ·simp only[a,b,if_true];simp;omega
    ·simp only[a,b];simp;omega
section
variable {P:Program} {c:Ctx} {t:Nat->AV} {m:List Blk} {Q:Exit->AS->Prop}
open Classical in
noncomputable def TL (ops:Array Oper) (T:Nat->AV) (listed:Array Bool):Nat->AV:=λx=>if ∃ (i:Nat) (o:Oper),ops[i]? = some o/\o.dst=some x/\listed.getD i true=false then .top else T x
open Classical in
theorem Aoh {ops:Array Oper} (hok:Ah5 ops) {T:Nat->AV} (hT:∀ (i:Nat) (o:Oper),ops[i]? = some o->∃ d,o.dst=some d/\d<c.nt/\T6 P c m ops T o (T d)) (hQ:Q .normal ⟨T,m⟩) :
  ∀ (fuel:Nat) (listed:Array Bool) (a:Act) (w:World) (S:Bz) (H:Nat->Value),listed.size=ops.size->(List.range ops.size).countP (λi=>!listed.getD i true)<=fuel ->
   Rel c ⟨TL ops T listed,m⟩ a w S H->wpAny P .any ops (QR c Q) fuel listed a w:=by
 have done:∀ (listed:Array Bool) (a:Act) (w:World) (S:Bz) (H:Nat->Value),listed.size=ops.size->Region.ready .any ops listed=[]->Rel c ⟨TL ops T listed,m⟩ a w S H->QR c Q .normal a w:=by
  intro listed a w S H hsz hr r
  have hall:∀ n i,i<n->i<ops.size->listed.getD i true=true:=by
   intro n
   induction n with
   | zero=>intro i h;omega
   | succ n ih =>
    intro i hi hio
    by_cases hb:listed.getD i true=true
    ·exact hb
    ·exfalso
     have hmem:i∈Region.ready .any ops listed:=by
      unfold Region.ready
      refine yG.2 ⟨wL.2 hio,?_⟩
      have hlt:=hok.lt i ops[i] (zR hio)
      have hb':listed.getD i true=false:=by simpa using hb
      simp only[hb',Bool.not_false,wY,zR hio,xE,yI]
      rw[wO]
      intro e he
      have hel:=hlt e he
      have h1:=ih e.on (by omega) (by omega)
      have h2:listed.getD e.on false=true:=by
       simp only[zF] at h1 ⊢
       rw[zR (by omega)] at h1 ⊢
       exact h1
      simp [h2]
     rw[hr] at hmem
     cases hmem
  have hTL:TL ops T listed=T:=by
   funext x
   unfold TL
   rw[if_neg]
   rintro⟨i,o,hi,_,hl⟩
   have:=hall (i+1) i (by omega) (yA.1 hi).1
   rw[this] at hl
   cases hl
  rw[hTL] at r
  exact⟨_,S,H,r,hQ⟩
 intro fuel
 induction fuel with
 | zero =>
  intro listed a w S H hsz hc r
  have hr:Region.ready .any ops listed=[]:=by
   unfold Region.ready
   rw[jP]
   intro i hi hb
   simp only[zS] at hb
   have:0<(List.range ops.size).countP (λi=>!listed.getD i true):=zAk.2 ⟨i,hi,hb.1⟩
   omega
  exact⟨hr,done listed a w S H hsz hr r⟩
 | succ fuel ih =>
  intro listed a w S H hsz hc r
  refine⟨λhr=>done listed a w S H hsz hr r,λi hi=>?_⟩
  unfold Region.ready at hi
  rw[yG] at hi
  obtain⟨hi1,hi2⟩:=hi
  have hio:i<ops.size:=wL.1 hi1
  have hget:ops[i]? = some ops[i]:=zR hio
  simp only[zS,hget,xE,yI] at hi2
  obtain⟨hun,haf⟩:=hi2
  have hun':listed.getD i true=false:=by simpa using hun
  obtain⟨d,hd,hdn,hgood⟩:=hT i _ hget
  generalize ho:ops[i]=o at *
  have hlook:∀ y∈o.looksAt ops,TL ops T listed y=T y:=by
   intro y hy
   unfold TL
   rw[if_neg]
   rintro⟨j,p,hj,hpd,hl⟩
   obtain⟨e,he,heo,hbind⟩:=hok.ed i o j p y hget hj hpd hy
   rw[wO] at haf
   have h1:=haf e he
   rw[hbind,heo] at h1
   simp only[zAb,Bool.false_or] at h1
   have hjl:j<ops.size:=(yA.1 hj).1
   simp only[zF] at h1 hl
   rw[zR (by omega)] at h1 hl
   simp only[yI] at h1 hl
   rw[h1] at hl
   cases hl
  have hTL':upd (TL ops T listed) d (T d)=TL ops T (listed.setIfInBounds i true):=by
   funext x
   rw[Ej]
   by_cases hx:x=d
   ·subst hx
    rw[if_pos rfl]
    unfold TL
    rw[if_neg]
    rintro⟨j,p,hj,hpd,hl⟩
    by_cases hij:i=j
    ·subst hij
     simp only[zF,xF (by omega:i<listed.size),yI] at hl
     cases hl
    ·exact hok.ne i o j p hget hj hij (by rw[hd,hpd])
   ·rw[if_neg hx]
    unfold TL
    by_cases hex:∃ (j:Nat) (p:Oper),ops[j]? = some p/\p.dst=some x/\listed.getD j true=false
    ·rw[if_pos hex]
     obtain⟨j,p,hj,hpd,hl⟩:=hex
     rw[if_pos]
     refine⟨j,p,hj,hpd,?_⟩
     have hij:i≠j:=by
      intro e;subst e
      rw[hget] at hj
      cases hj
      rw[hd] at hpd
      cases hpd
      exact hx rfl
     simp only[zF,yV hij]
     simpa [zF] using hl
    ·rw[if_neg hex,if_neg]
     rintro⟨j,p,hj,hpd,hl⟩
     refine hex ⟨j,p,hj,hpd,?_⟩
     by_cases hij:i=j
     ·subst hij;exact hun'
     ·simp only[zF,yV hij] at hl
      simpa [zF] using hl
  have hcnt:(List.range ops.size).countP (λj=>!(listed.setIfInBounds i true).getD j true)<=fuel:=by
   have:=Ab5 (λj=>!listed.getD j true) (λj=>!(listed.setIfInBounds i true).getD j true) (List.range ops.size) (λj _ hj=>by
    by_cases hij:i=j
    ·subst hij
     simp only[zF,xF (by omega:i<listed.size),yI] at hj
     cases hj
    ·simp only[zF,yV hij] at hj
     simpa [zF] using hj) hi1 hun (by simp only[zF,xF (by omega:i<listed.size),yI];rfl)
   omega
  have next:∀ v w' S',Ext w S w' S'->InH w' S'->AVR (Bt w' S' m H) (T d) v->wpAny P .any ops (QR c Q) fuel (listed.setIfInBounds i true) (a.put o.dst v) w':=by
   intro v w' S' hext hin hv
   rw[hd]
   refine ih _ _ w' S' H (by simpa using hsz) hcnt ?_
   rw[<- hTL']
   exact(r.ext hext hin).put hdn hv
  have hw:wpOp P ops (QR c Q) i (wpAny P .any ops (QR c Q) fuel (listed.setIfInBounds i true)) a w:=by
   unfold wpOp
   rw[hget]
   simp only
   have hrr:Rel c ⟨Q5 T (o.looksAt ops),m⟩ a w S H:=by
    refine r.weak (λy=>?_)
    unfold Q5
    cases hc':(o.looksAt ops).contains y with
    | false=>exact .inr rfl
    | true=>exact .inl (hlook y (by simpa using hc')).symm
   rcases hgood with⟨hg,hop⟩|⟨hg,hx⟩
   ·have hwant:Region.wanted o (yielded ops a.tmps)=true:=by
     rcases hg with hg|⟨j,want,dj,h1,h2,h3⟩
     ·simp [Region.wanted,hg]
     ·have h4:=r.tm dj
      have h5:TL ops T listed dj=.s (.one (.b want)):=by rw[hlook dj (Da h1 h2)];exact h3
      rw[show(⟨TL ops T listed,m⟩:AS).t dj=.s (.one (.b want)) from h5] at h4
      have hv:a.tmps.getD dj undef=.bool want:=Tn (h4:Rep w S (.b want) (a.tmps.getD dj undef))
      have hs:a.tmps[dj]? = some (.bool want):=by
       simp only[zF] at hv
       cases hq:a.tmps[dj]? with
       | none=>rw[hq] at hv;cases hv
       | some u=>rw[hq] at hv;simp only[yI] at hv;rw[hv]
      simp only[Region.wanted,h1,yielded,h2,zA,hs,beq_self_eq_true]
    rw[if_pos hwant]
    obtain⟨odst,oop,oty,opos,oaf,og⟩:=o
    exact .inl (hop a w S H hrr odst opos oaf og _ _ (λv w' S' h1 h2 h3=>next v w' S' h1 h2 h3))
   ·have hwant:Region.wanted o (yielded ops a.tmps)=false:=by
     obtain⟨j,want,dj,h1,h2,h3⟩:=hg
     have h4:=r.tm dj
     rw[show(⟨TL ops T listed,m⟩:AS).t dj=T dj from hlook dj (Da h1 h2)] at h4
     simp only[Region.wanted,h1,yielded,h2,zA]
     rcases h3 with h3|⟨b,h3,hb⟩
     ·rw[h3] at h4
      obtain⟨vs,hv,_⟩:=h4
      simp only[zF] at hv
      cases hq:a.tmps[dj]? with
      | none=>rfl
      | some u=>rw[hq] at hv;simp only[yI] at hv;subst hv;rfl
     ·rw[h3] at h4
      have hv:a.tmps.getD dj undef=.bool b:=Tn (h4:Rep w S (.b b) (a.tmps.getD dj undef))
      simp only[zF] at hv
      cases hq:a.tmps[dj]? with
      | none=>rfl
      | some u =>
       rw[hq] at hv;simp only[yI] at hv;subst hv
       cases b <;> cases want <;> first|rfl|cases hb
    rw[if_neg (by rw[hwant];simp)]
    have:=next undef w S (Ext.refl w S) r.sl (by rw[hx];exact H8)
    exact this
  exact hw
theorem U4 {id:Nat} {l:List Oper} (hm:P.follows .mixedOrders=true) (hok:Arw l.toArray=true) (h:DR P c m l.toArray (λT=>Q .normal ⟨T,m⟩) l t):AWC P c (.region id l.toArray true) Q ⟨t,m⟩:=by
 have ok:=Alq hok
 have hnd:=ok.nodup
 obtain⟨T,hQ,hTt,hG⟩:=DR.get h (by simpa using hnd) (λi o hi y hy hm'=>by
  unfold Ir at hm'
  rw[wG] at hm'
  obtain⟨p,hp,hpd⟩:=hm'
  obtain⟨j,hj,hjp⟩:=yU hp
  have hjl:l[i+j]? = some p:=by
   rw[zAa] at hjp
   have:i+j<l.length:=by simp at hj;omega
   rw[zC this,hjp]
  obtain⟨e,he,heo,_⟩:=ok.ed i o (i+j) p y (by simpa using hi) (by simpa using hjl) hpd hy
  have:=ok.lt i o (by simpa using hi) e he
  omega)
 intro a w S H r
 refine wp_region_any hm ?_
 have hG':∀ (i:Nat) (o:Oper),(l.toArray)[i]? = some o->∃ d,o.dst=some d/\d<c.nt/\T6 P c m l.toArray T o (T d):=λi o hi=>hG i o (by simpa using hi)
 have hcnt:(List.range l.toArray.size).countP (λi=>!(Array.replicate l.toArray.size false).getD i true)<=l.toArray.size:=by
  refine yP jT ?_
  simp
 refine Aoh ok hG' hQ l.toArray.size (Array.replicate l.toArray.size false) a _ S H (by simp) hcnt ?_
 have r':Rel c ⟨t,m⟩ a w.drew S H:=r.ext (Ext.drew w S) (r.sl.ext (Ext.drew w S))
 refine r'.weak (λx=>?_)
 unfold TL
 by_cases hx:x∈Ir l
 ·right
  rw[if_pos]
  unfold Ir at hx
  rw[wG] at hx
  obtain⟨p,hp,hpd⟩:=hx
  obtain⟨j,hj,hjp⟩:=yU hp
  refine⟨j,p,by simp [hj,hjp],hpd,?_⟩
  simp [zF,hj]
 ·left
  rw[if_neg,hTt x hx]
  rintro⟨i,o,hi,hod,_⟩
  refine hx ?_
  unfold Ir
  rw[wG]
  have hi':l[i]? = some o:=by simpa using hi
  exact⟨o,zG hi',hod⟩
variable {ops:Array Oper} {k:(Nat->AV)->Prop} {rest:List Oper} {op:Op} {ty:TypeId} {pos:String} {af:Array Edge} {d:Tmp} {x:AV}
theorem Vp (h:k t):DR P c m ops k [] t:=h
theorem dv (hd:decide (d<c.nt)=true) (h:OpV P c ⟨Q5 t (Oper.looksAt ops ⟨some d,op,ty,pos,af,none⟩),m⟩ op ty x) (kk:DR P c m ops k rest (upd t d x)):DR P c m ops k (⟨some d,op,ty,pos,af,none⟩::rest) t :=
 ⟨x,d,rfl,of_decide_eq_true hd,.inl ⟨.inl rfl,h.opD⟩,kk⟩
theorem dvg {j:Nat} {want:Bool} {dj:Tmp} (hd:decide (d<c.nt)=true) (hj:(ops[j]?).bind (·.dst)=some dj) (ht:t dj=.s (.one (.b want))) (h:OpV P c ⟨Q5 t (Oper.looksAt ops ⟨some d,op,ty,pos,af,some (j,want)⟩),m⟩ op ty x) (kk:DR P c m ops k rest (upd t d x)):DR P c m ops k (⟨some d,op,ty,pos,af,some (j,want)⟩::rest) t :=
 ⟨x,d,rfl,of_decide_eq_true hd,.inl ⟨.inr ⟨j,want,dj,rfl,hj,ht⟩,h.opD⟩,kk⟩
theorem dd (hd:decide (d<c.nt)=true) (h:OpD P c ⟨Q5 t (Oper.looksAt ops ⟨some d,op,ty,pos,af,none⟩),m⟩ op ty x) (kk:DR P c m ops k rest (upd t d x)):DR P c m ops k (⟨some d,op,ty,pos,af,none⟩::rest) t :=
 ⟨x,d,rfl,of_decide_eq_true hd,.inl ⟨.inl rfl,h⟩,kk⟩
theorem ddg {j:Nat} {want:Bool} {dj:Tmp} (hd:decide (d<c.nt)=true) (hj:(ops[j]?).bind (·.dst)=some dj) (ht:t dj=.s (.one (.b want))) (h:OpD P c ⟨Q5 t (Oper.looksAt ops ⟨some d,op,ty,pos,af,some (j,want)⟩),m⟩ op ty x) (kk:DR P c m ops k rest (upd t d x)):DR P c m ops k (⟨some d,op,ty,pos,af,some (j,want)⟩::rest) t :=
 ⟨x,d,rfl,of_decide_eq_true hd,.inl ⟨.inr ⟨j,want,dj,rfl,hj,ht⟩,h⟩,kk⟩
theorem Dy {j:Nat} {want b:Bool} {dj:Tmp} (hd:decide (d<c.nt)=true) (hj:(ops[j]?).bind (·.dst)=some dj) (ht:t dj=.s (.one (.b b))) (hb:(b==want)=false) (kk:DR P c m ops k rest (upd t d (.tup []))):DR P c m ops k (⟨some d,op,ty,pos,af,some (j,want)⟩::rest) t :=
 ⟨.tup [],d,rfl,of_decide_eq_true hd,.inr ⟨⟨j,want,dj,rfl,hj,.inr ⟨b,ht,hb⟩⟩,rfl⟩,kk⟩
theorem Tw {j:Nat} {want:Bool} {dj:Tmp} (hd:decide (d<c.nt)=true) (hj:(ops[j]?).bind (·.dst)=some dj) (ht:t dj=.tup []) (kk:DR P c m ops k rest (upd t d (.tup []))):DR P c m ops k (⟨some d,op,ty,pos,af,some (j,want)⟩::rest) t :=
 ⟨.tup [],d,rfl,of_decide_eq_true hd,.inr ⟨⟨j,want,dj,rfl,hj,.inl ht⟩,rfl⟩,kk⟩
theorem Qh {l:List Oper} (dj:Tmp) {b:Bool} (ht:t dj=.s (.one (.b b))) (k1:b=true->DR P c m ops k l (upd t dj (.s (.one (.b true))))) (k0:b=false->DR P c m ops k l (upd t dj (.s (.one (.b false))))):DR P c m ops k l t:=by
 cases b
 ·have:=k0 rfl;rwa [Rf ht] at this
 ·have:=k1 rfl;rwa [Rf ht] at this
end
open Go.RowKit
theorem wrap_i64 {x:Int} (h1:-9223372036854775808<=x) (h2:x<=9223372036854775807):IntKind.i64.wrap x=x:=by
 show(if (true&&decide (x % 18446744073709551616≥9223372036854775808))=true then x % 18446744073709551616-18446744073709551616 else x % 18446744073709551616)=x
 simp only[wY,ge_iff_le,decide_eq_true_eq]
 by_cases h:0<=x
 ·rw[if_neg (by omega)];omega
 ·rw[if_pos (by omega)];omega
section
variable {P:Program} {c:Ctx} {st:AS} {k k2:IntKind} {n m:Int} {x y:Operand} {xt yt ty:TypeId}
theorem As7 (hx:B2 st x=.s (.one (.i k n))) (hy:B2 st y=.s (.one (.i k m))):OpV P c st (.binOp .and xt x y yt) ty (.s (.one (.i k (k.wrap ((BitVec.ofInt k.bits n &&& BitVec.ofInt k.bits m).toNat:Int))))) :=
 M2 (u:=.int k n) (u':=.int k m) (z:=.int k (k.wrap ((BitVec.ofInt k.bits n &&& BitVec.ofInt k.bits m).toNat:Int))) hx hy rfl rfl (λw=>by
  simp [eqGuard,binOp,Op.intBits]) rfl rfl
theorem Asf (hx:B2 st x=.s (.one (.i k n))) (hy:B2 st y=.s (.one (.i k m))) (h0:m≠0):OpV P c st (.binOp .rem xt x y yt) ty (.s (.one (.i k (n.tmod m)))) :=
 M2 (u:=.int k n) (u':=.int k m) (z:=.int k (n.tmod m)) hx hy rfl rfl (λw=>by
  simp [eqGuard,binOp,Op.intDiv,h0]) rfl rfl
section un
variable {a b:BitVec k.bits}
end un
theorem Aon {xt yt:TypeId} {p q:ByteArray} (hx:B2 st x=.s (.one (.s p))) (hy:B2 st y=.s (.one (.s q))):OpV P c st (.binOp .eql xt x y yt) ty (.s (.one (.b (p.toList==q.toList)))) :=
 M2 (u:=.string p) (u':=.string q) (z:=.bool (p.toList==q.toList)) hx hy rfl rfl (λw=>by
  simp [eqGuard,binOp,Op.stringOp]) rfl rfl
theorem Ap5 {xt yt:TypeId} {p q:ByteArray} (hx:B2 st x=.s (.one (.s p))) (hy:B2 st y=.s (.one (.s q))):OpV P c st (.binOp .neq xt x y yt) ty (.s (.one (.b (!(p.toList==q.toList))))) :=
 M2 (u:=.string p) (u':=.string q) (z:=.bool (!(p.toList==q.toList))) hx hy rfl rfl (λw=>by
  simp [eqGuard,binOp,Op.stringOp]) rfl rfl
end
open Go.RowKit
inductive Sh where
 | int (k:IntKind)
 | bool
 | str
 | sl (e:Sh)
 | st (r:Sh)
 | unit
 | pair (a r:Sh)
def Sh.cells:Sh->Nat
 | .st r=>r.cells
 | .unit=>0
 | .pair a r=>a.cells+r.cells
 | _=>1
def Aff:Sh->List Lf->Prop
 | .int k,ls=>∃ n,(Lit.int k n).wf=true/\ls=[.i k n]
 | .bool,ls=>∃ b,ls=[.b b]
 | .str,ls=>∃ s:ByteArray,s.size<=maxLen/\ls=[.s s]
 | .sl e,ls=>∃ rows:List (List Lf),rows.length<=maxLen/\(∀ r∈rows,Aff e r)/\ls=[.sl rows.length rows.flatten]
 | .st r,ls=>Aff r ls
 | .unit,ls=>ls=[]
 | .pair a r,ls=>∃ x y,Aff a x/\Aff r y/\ls=x++y
def okT (P:Program):Sh->TypeId ⊕ (List Field×Nat)->Bool
 | .int k,.inl t=>match P.underlying t with | some (.int k')=>k'==k | _=>false
 | .bool,.inl t=>match P.underlying t with | some .bool=>true | _=>false
 | .str,.inl t=>match P.underlying t with | some .string=>true | _=>false
 | .sl e,.inl t=>match P.underlying t with | some (.slice t')=>okT P e (.inl t')&&(P.cellsOf t'==e.cells&&decide (0<e.cells)) | _=>false
 | .st r,.inl t=>match P.underlying t with | some (.struct fs)=>okT P r (.inr (fs.toList,0))&&P.cellsOf t==r.cells | _=>false
 | .unit,.inr ([],_)=>true
 | .pair a r,.inr (f::fs,off)=>f.offset==off&&(P.cellsOf f.type==a.cells&&(okT P a (.inl f.type)&&okT P r (.inr (fs,off+a.cells))))
 | _,_=>false
theorem Ai8 {α:Type} {f:Nat->Option α}:∀ {n:Nat} {ys:List α},(List.range n).mapM f=some ys->ys.length=n/\∀ i,i<n->f i=ys[i]? := by
 intro n
 induction n with
 | zero=>intro ys h;simp at h;subst h;exact⟨rfl,λi hi=>absurd hi (zW i)⟩
 | succ n ih =>
  intro ys h
  rw[List.range_succ,List.mapM_append] at h
  simp only[List.mapM_cons,List.mapM_nil,Option.pure_def,Option.bind_eq_bind] at h
  cases h1:(List.range n).mapM f with
  | none=>rw[h1] at h;simp at h
  | some xs =>
   rw[h1] at h
   cases h2:f n with
   | none=>rw[h2] at h;simp at h
   | some y =>
    rw[h2] at h
    simp at h
    subst h
    obtain⟨hl,hi⟩:=ih h1
    refine⟨by simp [hl],λi hlt=>?_⟩
    by_cases hin:i<n
    ·rw[hi i hin,zK (by omega)]
    ·have:i=n:=by omega
     subst this
     rw[h2,z2 (by omega),hl];simp
theorem Amh {w:World} {a:Addr} {v:Value} (h:w.cell? a=some v):a.block<w.heap.size/\a.spot=none:=by
 unfold World.cell? at h
 split at h
 ·rename_i c e f hb
  refine⟨(yA.1 hb).1,?_⟩
  cases hs:a.spot with
  | none=>rfl
  | some x=>rw[hs] at h;simp at h
 ·cases h
def Ahy (w:World):Bz:=λb i=>∃ v,w.cell? ⟨b,i,none⟩=some v
theorem Ar7 (w:World) (h:GLR w (Ahy w)):InH w (Ahy w):=⟨λ_ _ ⟨_,h⟩=>(Amh h).1,h,λg i ⟨v,h⟩ hc=>by rw[h] at hc;cases hc⟩
section
variable {H:Type} {enc:TypeId×Value->H} {P:Program} {w:World} {spare:Nat->Bool} {held:Bool} {base:Nat}
theorem Ada {a:Addr} {n:Nat} {ys:List Value} (h:w.cells? base a n=some ys):ys.length=n/\∀ i,i<n->w.cell? (a.add i)=ys[i]? := by
 unfold World.cells? at h
 split at h
 ·exact Ai8 h
 ·cases h
theorem Abq {bk off sz:Nat} {Q:List Lf->Prop}:∀ (n:Nat),(∀ i,i<n->∃ r:List Lf,Q r/\r.length=sz/\∀ j l,r[j]? = some l->∃ v,w.cell? ⟨bk,off+(i*sz+j),none⟩=some v/\Rep w (Ahy w) l v) ->
  ∃ rows:List (List Lf),rows.length=n/\(∀ r∈rows,Q r)/\rows.flatten.length=n*sz/\∀ j l,rows.flatten[j]? = some l->∃ v,w.cell? ⟨bk,off+j,none⟩=some v/\Rep w (Ahy w) l v
 | 0,_=>⟨[],rfl,λr h=>by simp at h,by simp,λj l h=>by simp at h⟩
 | n+1,h=>by
  obtain⟨rows,h1,h2,h3,h4⟩:=Abq n (λi hi=>h i (Nat.lt_succ_of_lt hi))
  obtain⟨r,q1,q2,q3⟩:=h n (wM n)
  refine⟨rows++[r],by simp [h1],λx hx=>?_,?_,λj l hj=>?_⟩
  ·rcases yC.1 hx with hx|hx
   ·exact h2 x hx
   ·simp at hx;subst hx;exact q1
  ·rw[xX,zH,h3];simp [q2,jH]
  ·rw[xX] at hj
   by_cases hlt:j<n*sz
   ·rw[zK (by omega)] at hj
    exact h4 j l hj
   ·rw[z2 (by omega),h3] at hj
    simp at hj
    obtain⟨v,e1,e2⟩:=q3 (j-n*sz) l hj
    exact⟨v,by rw[<- e1];congr 2;omega,e2⟩
theorem Axa (sh:Sh) :
  (∀ (t:TypeId) (fuel:Nat) (cs:List Value) (x:DataW H×List MemPlace),okT P sh (.inl t)=true->DataW.trod enc P w base spare held fuel t cs=some x ->
   ∃ ls,Aff sh ls/\ls.length=sh.cells/\LsR (Rep w (Ahy w)) ls cs) /\
  (∀ (fs:List Field) (off fuel:Nat) (cs:List Value),okT P sh (.inr (fs,off))=true->off+sh.cells=cs.length ->
   (∀ f∈fs,∃ x,DataW.trod enc P w base spare held fuel f.type ((cs.drop f.offset).take (P.cellsOf f.type))=some x) ->
   ∃ ls,Aff sh ls/\ls.length=sh.cells/\LsR (Rep w (Ahy w)) ls (cs.drop off)):=by
 have lsone:∀ {l:Lf} {v:Value},Rep w (Ahy w) l v->LsR (Rep w (Ahy w)) [l] [v]:=λ{l v} h=>⟨rfl,λj a b h1 h2=>by
  cases j with
  | zero=>simp at h1 h2;subst h1;subst h2;exact h
  | succ j=>simp at h1⟩
 induction sh with
 | int k =>
  refine⟨λt fuel cs x ht h=>?_,λfs off fuel cs ht=>by simp [okT] at ht⟩
  simp only[okT] at ht
  split at ht
  ·rename_i k' hu
   have hk:k'=k:=by simpa using ht
   subst hk
   obtain⟨n,hcs,hx,hw⟩:=DataW.trod_int hu h
   subst hcs
   exact⟨_,⟨n,hw,rfl⟩,rfl,lsone (.i _ _)⟩
  ·cases ht
 | bool =>
  refine⟨λt fuel cs x ht h=>?_,λfs off fuel cs ht=>by simp [okT] at ht⟩
  simp only[okT] at ht
  split at ht
  ·rename_i hu
   obtain⟨b,hcs,_⟩:=DataW.trod_bool hu h
   subst hcs
   exact⟨_,⟨b,rfl⟩,rfl,lsone (.b _)⟩
  ·cases ht
 | str =>
  refine⟨λt fuel cs x ht h=>?_,λfs off fuel cs ht=>by simp [okT] at ht⟩
  simp only[okT] at ht
  split at ht
  ·rename_i hu
   obtain⟨b,hcs,_,hs⟩:=DataW.trod_string hu h
   subst hcs
   exact⟨_,⟨b,hs,rfl⟩,rfl,lsone (.s _)⟩
  ·cases ht
 | sl e ih =>
  refine⟨λt fuel cs x ht h=>?_,λfs off fuel cs ht=>by simp [okT] at ht⟩
  simp only[okT] at ht
  split at ht
  ·rename_i t' hu
   simp only[zS,beq_iff_eq,decide_eq_true_eq] at ht
   obtain⟨hok,hcell,hpos⟩:=ht
   rcases DataW.trod_slice hu h with⟨hcs,_⟩|⟨a,len,cap,elems,rest,fuel,rfl,hcs,_,_,hlc,hcm,hl,hi,_⟩
   ·subst hcs
    exact⟨[.sl 0 []],⟨[],by simp,λr hr=>by simp at hr,rfl⟩,rfl,lsone (.sl0 _ _)⟩
   ·subst hcs
    by_cases h0:len=0
    ·subst h0
     exact⟨[.sl 0 []],⟨[],by simp,λr hr=>by simp at hr,rfl⟩,rfl,lsone (.sl0 _ _)⟩
    ·have helem:∀ i,i<len->∃ ys,w.cells? base (a.add (i*P.cellsOf t')) (P.cellsOf t')=some ys/\∃ x,DataW.trod enc P w base spare held fuel t' ys=some x:=by
      intro i hlt
      have hx:=hi i hlt
      have:elems[i]? = some (elems[i]'(by omega)):=zC _
      rw[this] at hx
      cases hc:w.cells? base (a.add (i*P.cellsOf t')) (P.cellsOf t') with
      | none=>rw[hc] at hx;simp at hx
      | some ys=>rw[hc] at hx;exact⟨ys,rfl,_,hx⟩
     have hspot:a.spot=none:=by
      obtain⟨ys,hc,_⟩:=helem 0 (by omega)
      obtain⟨hyl,hyc⟩:=Ada hc
      have hy:=hyc 0 (by omega)
      rw[zC (by omega)] at hy
      have:=(Amh hy).2
      simpa [Addr.add] using this
     have hadd:∀ n m,(a.add n).add m=⟨a.block,a.off+(n+m),none⟩:=by
      intro n m
      obtain⟨ab,ao,asp⟩:=a
      simp only at hspot
      subst hspot
      unfold Addr.add
      by_cases hn:n=0 <;> by_cases hm:m=0 <;> simp [hn,hm] <;> omega
     obtain⟨rows,r1,r2,r3,r4⟩:=Abq (w:=w) (bk:=a.block) (off:=a.off) (sz:=e.cells) (Q:=Aff e) len (λi hlt=>by
      obtain⟨ys,hc,x,hx⟩:=helem i hlt
      obtain⟨ls,f1,f2,f3⟩:=ih.1 t' fuel ys x hok hx
      obtain⟨hyl,hyc⟩:=Ada hc
      refine⟨ls,f1,f2,λj l hj=>?_⟩
      obtain⟨v,hv,hr⟩:=f3.get hj
      have hjl:j<ys.length:=(zB.1 hv).1
      have:=hyc j (by omega)
      rw[hadd,hv,hcell] at this
      exact⟨v,this,hr⟩)
     refine⟨[.sl rows.length rows.flatten],⟨rows,by omega,r2,rfl⟩,rfl,lsone ?_⟩
     have ea:a=⟨a.block,a.off,none⟩:=by
      obtain⟨ab,ao,asp⟩:=a
      simp only at hspot
      subst hspot
      rfl
     rw[ea,r1]
     refine Rep.sl len rows.flatten a.block a.off cap (λj=>(w.cell? ⟨a.block,a.off+j,none⟩).getD undef) hlc hcm (λj l hj=>?_) (λj l hj=>?_)
     ·obtain⟨v,hv,_⟩:=r4 j l hj
      exact⟨⟨_,hv⟩,by rw[hv];rfl⟩
     ·obtain⟨v,hv,hr⟩:=r4 j l hj
      show Rep w (Ahy w) l ((w.cell? ⟨a.block,a.off+j,none⟩).getD undef)
      rw[hv];exact hr
  ·cases ht
 | st r ih =>
  refine⟨λt fuel cs x ht h=>?_,λfs off fuel cs ht=>by simp [okT] at ht⟩
  simp only[okT] at ht
  split at ht
  ·rename_i fs hu
   simp only[zS,beq_iff_eq] at ht
   obtain⟨xs,n,rfl,_,hlen,hxl,hi⟩:=DataW.trod_struct hu h
   obtain⟨ls,f1,f2,f3⟩:=ih.2 fs.toList 0 n cs ht.1 (by omega) (λf hf=>by
    obtain⟨i,hlt,rfl⟩:=List.mem_iff_getElem.1 hf
    have:=hi i fs[i] (by simp)
    simp only[jV] at this ⊢
    rw[this]
    exact⟨xs[i]'(by simp at hlt;omega),zC _⟩)
   exact⟨ls,f1,f2,by simpa using f3⟩
  ·cases ht
 | unit =>
  refine⟨λt fuel cs x ht=>by simp [okT] at ht,λfs off fuel cs ht hl h=>?_⟩
  refine⟨[],rfl,rfl,?_⟩
  rw[w7 (by simp only[Sh.cells] at hl;omega)]
  exact⟨rfl,λj l v h1=>by simp at h1⟩
 | pair a r iha ihr =>
  refine⟨λt fuel cs x ht=>by simp [okT] at ht,λfs off fuel cs ht hl h=>?_⟩
  cases fs with
  | nil=>simp [okT] at ht
  | cons f fs =>
   simp only[okT,zS,beq_iff_eq] at ht
   obtain⟨h1,h2,h3,h4⟩:=ht
   simp only[Sh.cells] at hl
   obtain⟨x,hx⟩:=h f (yR ..)
   obtain⟨l1,a1,a2,a3⟩:=iha.1 f.type fuel _ x h3 hx
   obtain⟨l2,b1,b2,b3⟩:=ihr.2 fs (off+a.cells) fuel cs h4 (by omega) (λg hg=>h g (yQ _ hg))
   rw[h1,h2] at a3
   refine⟨l1++l2,⟨l1,l2,a1,b1,rfl⟩,by simp [Sh.cells,a2,b2],?_⟩
   refine⟨by rw[zH,a2,b2,yB];omega,λj l v hj hv=>?_⟩
   by_cases hlt:j<l1.length
   ·rw[zK hlt] at hj
    refine a3.2 j l v hj ?_
    rw[yF,if_pos (by omega)]
    exact hv
   ·rw[z2 (by omega)] at hj
    refine b3.2 (j-l1.length) l v hj ?_
    rw[<- hv,yH,yH,a2]
    congr 1
    omega
def Ayr:Sh->List Lf->SV
 | .st _,ls=>.agg ls
 | _,[l]=>.one l
 | _,ls=>.agg ls
theorem Ajz {sh:Sh} {t:TypeId} {v:Value} {d:DataW H} {ps:List MemPlace} {r:Reach} {b0:Nat} (ht:okT P sh (.inl t)=true) (hval:Value.okWide P w r b0 t v) (h:DataW.Trod enc P w base spare held t v d ps) :
  ∃ ls,Aff sh ls/\SVR (Rep w (Ahy w)) (Ayr sh ls) v:=by
 obtain⟨fuel,h⟩:=h
 obtain⟨ls,f1,f2,f3⟩:=(Axa sh).1 t fuel _ _ ht h
 refine⟨ls,f1,?_⟩
 have one:∀ {l:Lf},ls=[l]->(∀ cs,v≠.agg cs)->SVR (Rep w (Ahy w)) (.one l) v:=by
  intro l hl hne
  subst hl
  have hc:v.cells = #[v]:=by
   cases v <;> first|rfl|exact absurd rfl (hne _)
  rw[hc] at f3
  exact f3.2 0 l v rfl rfl
 cases sh with
 | int k =>
  simp only[okT] at ht
  split at ht
  ·rename_i k' hu
   obtain⟨n,rfl⟩:=WideShapes.okWide_int hu hval
   obtain⟨m,_,rfl⟩:=f1
   exact one rfl (λ_ h=>by cases h)
  ·cases ht
 | bool =>
  simp only[okT] at ht
  split at ht
  ·rename_i hu
   obtain⟨n,rfl⟩:=WideShapes.okWide_bool hu hval
   obtain⟨m,rfl⟩:=f1
   exact one rfl (λ_ h=>by cases h)
  ·cases ht
 | str =>
  simp only[okT] at ht
  split at ht
  ·rename_i hu
   obtain⟨n,rfl⟩:=WideShapes.okWide_string hu hval
   obtain⟨m,_,rfl⟩:=f1
   exact one rfl (λ_ h=>by cases h)
  ·cases ht
 | sl e =>
  simp only[okT] at ht
  split at ht
  ·rename_i t' hu
   obtain⟨a,n,c,rfl⟩:=WideShapes.okWide_slice hu hval
   obtain⟨rows,_,_,rfl⟩:=f1
   exact one rfl (λ_ h=>by cases h)
  ·cases ht
 | st r =>
  simp only[okT] at ht
  split at ht
  ·rename_i fs hu
   obtain⟨cs,rfl,_⟩:=WideShapes.okWide_struct hu hval
   exact⟨cs,rfl,f3⟩
  ·cases ht
 | unit=>simp [okT] at ht
 | pair a r=>simp [okT] at ht
end
open Go.RowKit
def Aca:List Sh->List SV->Prop
 | [],[]=>True
 | sh::shs,x::xs=>(∃ ls,Aff sh ls/\x=Ayr sh ls)/\Aca shs xs
 | _,_=>False
def Oh (P:Program):List Sh->List TypeId->Bool
 | [],[]=>true
 | sh::shs,t::ts=>okT P sh (.inl t)&&(P.readableRec t&&(decide (t<P.types.size)&&Oh P shs ts))
 | _,_=>false
section
variable {H:Type} {enc:TypeId×Value->H} {P:Program} {W W':World}
theorem Ais:∀ {shs:List Sh} {ts:List TypeId} {vs:List Value} {ds:List (DataW H)} {ps:List MemPlace} {base:Nat},Oh P shs ts=true->DataW.TrodAll enc P W 0 (λ_=>true) true ts vs ds ps ->
  (∀ (j:Nat) t v,ts[j]? = some t->vs[j]? = some v->Value.okWide P W .any base t v)->∃ xs,Aca shs xs/\Yv (Rep W (Ahy W)) xs vs
 | [],[],[],[],_,_,_,_,_=>⟨[],trivial,rfl,λj x v h=>by simp at h⟩
 | [],_::_,_,_,_,_,h,_,_=>by simp [Oh] at h
 | _::_,[],_,_,_,_,h,_,_=>by simp [Oh] at h
 | sh::shs,t::ts,v::vs,d::ds,ps,base,h,hd,hv=>by
  simp only[Oh,zS] at h
  obtain⟨p,q,h1,h2,_⟩:=hd
  obtain⟨ls,f1,f2⟩:=Ajz h.1 (hv 0 t v rfl rfl) h1
  obtain⟨xs,g1,g2⟩:=Ais h.2.2.2 h2 (λj t' v' e1 e2=>hv (j+1) t' v' e1 e2)
  refine⟨Ayr sh ls::xs,⟨⟨ls,f1,rfl⟩,g1⟩,by simp [g2.1],λj x u e1 e2=>?_⟩
  cases j with
  | zero=>simp at e1 e2;subst e1;subst e2;exact f2
  | succ j=>exact g2.2 j x u e1 e2
theorem Adi (hl:laidOutB P=true) (hb:Below W.heap.size W W'):∀ {shs:List Sh} {ts:List TypeId} {vs:List Value} {ds:List (DataW H)} {ps:List MemPlace},Oh P shs ts=true->DataW.TrodAll enc P W 0 (λ_=>true) true ts vs ds ps->(∀ x∈ps,x.block<W.heap.size) ->
  DataW.TrodAll enc P W' 0 (λb=>decide (b<W.heap.size)) true ts vs ds ps
 | [],[],[],[],_,_,h,_=>h
 | [],_::_,_,_,_,h,_,_=>by simp [Oh] at h
 | _::_,[],_,_,_,h,_,_=>by simp [Oh] at h
 | sh::shs,t::ts,v::vs,d::ds,ps,h,hd,hlt=>by
  simp only[Oh,zS,decide_eq_true_eq] at h
  obtain⟨p,q,h1,h2,rfl⟩:=hd
  exact⟨p,q,Below.trod hl h.2.1 h.2.2.1 h1 hb (λx hx=>hlt x (xN _ hx)),Adi hl hb h.2.2.2 h2 (λx hx=>hlt x (wA _ hx)),rfl⟩
theorem law_contract {f:FuncId} {fn:Func} {s:ChangeSpec} {apart fresh handsOn:Bool} {tb:TypeId} (hl:laidOutB P=true) (shs:List Sh) (hp:Oh P shs fn.params.toList=true) (hres:fn.resultTypes = #[tb]) (htb:P.underlying tb=some .bool)
  (hvars:s.vars=[]) (hs:∀ ds:List (DataW H),ds.length=fn.params.toList.length->s.fn H ds={ results:=[.lit (.bool true)],args:=ds })
  (hf:∀ xs,Aca shs xs->A6 P f xs (·=.s (.one (.b true)))) (hG:GLR W (Ahy W))
  (base:Nat) (args:Array Value) (ds gs:List (DataW H)) (before:List MemPlace)
  (hval:∀ (j:Nat) t v,fn.params[j]? = some t->args[j]? = some v->Value.okWide P W .any base t v) (hW:DataW.Whole enc P fn.params.toList s.vars apart W args.toList ds gs before) :
  Calls P f args W λe W'=>∃ v,e=.returned v/\s.post enc P fn apart fresh handsOn false W args v W':=by
 have hlt:=hW.lt
 have hW':=hW
 obtain⟨p,q,hA,hV,hpq,_,_⟩:=hW'
 obtain⟨xs,h1,h2⟩:=Ais hp hA (λj t v e1 e2=>hval j t v (by simpa using e1) (by simpa using e2))
 refine(hf xs h1 W (Ahy W) args (Ar7 W hG) h2).mono ?_
 rintro e W' ⟨v,x,S',rfl,rfl,hext,_,hv⟩
 have hv:v=.bool true:=Tn hv
 subst hv
 have hlen:ds.length=fn.params.toList.length:=by
  have:∀ {ts:List TypeId} {vs:List Value} {ds:List (DataW H)} {ps:List MemPlace},DataW.TrodAll enc P W 0 (λ_=>true) true ts vs ds ps->ds.length=ts.length:=by
   intro ts
   induction ts with
   | nil=>intro vs ds ps h;cases vs <;> cases ds <;> simp_all [DataW.TrodAll]
   | cons t ts ih =>
    intro vs ds ps h
    cases vs <;> cases ds <;> simp only[DataW.TrodAll] at h
    obtain⟨p,q,_,h2,_⟩:=h
    simp [ih h2]
  exact this hA
 rw[hvars] at hV
 have hgs:gs=[]/\q=[]:=by
  cases gs with
  | nil=>exact⟨rfl,hV⟩
  | cons g gs=>exact hV.elim
 obtain⟨rfl,rfl⟩:=hgs
 refine⟨_,rfl,ds,[],before,[],p,[],hW,?_,?_,?_,hext.below.frame _,λh=>by cases h⟩
 ·rw[xG,hs ds hlen,hres]
  exact⟨[],[],⟨1,by simp [DataW.trod,Value.cells,htb]⟩,rfl,rfl⟩
 ·rw[xG,hs ds hlen]
  exact Adi hl hext.below hp hA (λx hx=>hlt x (by rw[hpq];exact xN _ hx))
 ·rw[xG,hs ds hlen,hvars]
  rfl
end
end Go.Proofs.YtkblaobhhoebaaaGreat.Abs
