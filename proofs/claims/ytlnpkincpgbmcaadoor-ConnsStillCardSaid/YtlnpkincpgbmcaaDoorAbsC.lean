/-
  A walk over abstract states: its rules, part C.
-/
import Derived.Test.YtlnpkincpgbmcaaDoorAbsB
/-
  Iterators: functions that call yield; a box that stays as it is from the first.
-/
namespace Go.Proofs.YtlnpkincpgbmcaaDoor.Abs
open Go.RowKit
section
variable {P : Program} {c : Ctx} {ops : Array Oper} {Q : Exit → AS → Prop} {rest : List Oper} {ty : TypeId} {pos : String} {af : Array Edge} {d : Tmp} {t : Nat → AV} {m : List Blk}
theorem sboxc {t' : TypeId} {y : Operand} {x : SV} (hd : decide (d < c.nt) = true) (hx : opnd ⟨t, m⟩ y = .s x) (hpub : x.cells.all Lf.pubd = true)
    (k : AWL P c ops Q rest ⟨upd t d (.s (.one (.cp x.cells))), m⟩) : AWL P c ops Q (⟨some d, .box t' y, ty, pos, af, none⟩ :: rest) ⟨t, m⟩ := by
  intro a w S H r
  have h := opnd_rel r y
  rw [hx] at h
  have hls := svr_cells h (fun l v => GRep.oneCell)
  obtain ⟨cells, hce⟩ : ∃ cells, cells = (a.eval y).cells := ⟨_, rfl⟩
  rw [← hce] at hls
  have hrun : (execOp a.eval ⟨some d, .box t' y, ty, pos, af, none⟩).run P w = .ok (.value (.pointer (some ⟨w.heap.size, 0, none⟩))) (w.alloc (.cells cells t')) := by
    rw [hce]; simp [execOp, Instr.box, newVar, newRow]
  let S' : Stab := fun b i => S b i ∨ (b = w.heap.size ∧ i < cells.size)
  have hx1 : Ext w S (w.alloc (.cells cells t')) S' := ⟨rfl, rfl, rfl, by simp, fun b hb => Below.heap_alloc w _ b hb, fun _ _ h => .inl h, fun b i hb h => by
    rcases h with h | ⟨h, _⟩
    · exact h
    · omega⟩
  have hin : InH (w.alloc (.cells cells t')) S' := ⟨fun b i hs => by
    rcases hs with hs | ⟨rfl, _⟩
    · exact Nat.lt_of_lt_of_le (r.sl.1 b i hs) hx1.size
    · simp, r.sl.2.mono (hx1.keeps r.sl)⟩
  refine wpList_plain rfl fun K hK => ?_
  unfold Oper.wp
  rw [hrun]
  refine hK _ _ (k _ _ _ _ ((r.ext hx1 hin).put (of_decide_eq_true hd) ?_))
  have hrep : Rep (w.alloc (.cells cells t')) S' (.cp x.cells) (.pointer (some ⟨w.heap.size, 0, none⟩)) := by
    have hcell : ∀ j, (w.alloc (.cells cells t')).cell? ⟨w.heap.size, j, none⟩ = cells[j]? := fun j => by
      unfold World.cell?
      rw [show (w.alloc (.cells cells t')).heap[(⟨w.heap.size, j, none⟩ : Addr).block]? = some (.cells cells t') from heap_alloc_new w _]
      rfl
    have hj : ∀ (j : Nat) (l : Lf), x.cells[j]? = some l → ∃ v, cells[j]? = some v ∧ GRep w S m H l v := fun j l hl => by
      obtain ⟨v, h1, h2⟩ := hls.get hl
      exact ⟨v, by simpa using h1, h2⟩
    refine .cp x.cells w.heap.size 0 (fun j => cells.getD j undef) (fun j l hl => ?_) (fun j l hl => ?_)
    · obtain ⟨v, h1, h2⟩ := hj j l hl
      rw [Nat.zero_add]
      refine ⟨.inr ⟨rfl, (Array.getElem?_eq_some_iff.1 h1).1⟩, (hcell j).trans ?_⟩
      simp [h1]
    · obtain ⟨v, h1, h2⟩ := hj j l hl
      have : cells.getD j undef = v := by simp [h1]
      rw [this]
      exact Rep.mono (hx1.keeps r.sl) (GRep.rep h2 ((List.all_eq_true.1 hpub) l (List.mem_of_getElem? hl)))
  exact hrep
end
abbrev YK := World → Stab → Prop
def YExt (K : YK) : Prop := ∀ w S w' S', K w S → Ext w S w' S' → InH w' S' → K w' S'
def QY (nt : Nat) (Q : Exit → (Nat → AV) → YK → Prop) : Exit → Act → World → Prop := fun e a w => ∃ t S H K, Rel (Ctx.of w S nt) ⟨t, []⟩ a w S H ∧ K w S ∧ Q e t K
def NoOutY (Q : Exit → (Nat → AV) → YK → Prop) : Prop := ∀ t K, ¬ Q .outgrown t K
def thenY (n : (Nat → AV) → YK → Prop) (Q : Exit → (Nat → AV) → YK → Prop) : Exit → (Nat → AV) → YK → Prop
  | .normal, t, K => n t K
  | e, t, K => Q e t K
def inBlockY (id : Nat) (Q : Exit → (Nat → AV) → YK → Prop) : Exit → (Nat → AV) → YK → Prop
  | .exit id', t, K => if id' = id then Q .normal t K else Q (.exit id') t K
  | e, t, K => Q e t K
def AWY (P : Program) (nt : Nat) (x : Code) (Q : Exit → (Nat → AV) → YK → Prop) (K : YK) (t : Nat → AV) : Prop :=
  NoOutY Q → ∀ a w S H, Rel (Ctx.of w S nt) ⟨t, []⟩ a w S H → K w S → x.wpIn Fence.wide 0 P (QY nt Q) a w
def AWLY (P : Program) (nt : Nat) (ops : Array Oper) (Q : Exit → (Nat → AV) → YK → Prop) (K : YK) (l : List Oper) (t : Nat → AV) : Prop :=
  NoOutY Q → ∀ a w S H, Rel (Ctx.of w S nt) ⟨t, []⟩ a w S H → K w S → wpListIn Fence.wide 0 P ops (QY nt Q) l a w
theorem Rel.here {c : Ctx} {t : Nat → AV} {a : Act} {w : World} {S : Stab} {H : Nat → Value} {nt : Nat} (hn : c.nt = nt) (r : Rel c ⟨t, []⟩ a w S H) : Rel (Ctx.of w S nt) ⟨t, []⟩ a w S H :=
  ⟨r.nt.trans hn, r.df, r.tm, fun p b h => by simp at h, fun p b g h => by simp at h, fun p q b b' g h => by simp at h, fun p b g i h => by simp at h, r.sl, ExtX.refl _ w S, Nat.zero_le _, fun p g h => absurd h (Nat.not_lt_zero _), fun p e sz k cs h => absurd h (Nat.not_lt_zero _)⟩
theorem Rel.kept {t : Nat → AV} {a : Act} {w w' : World} {S S' : Stab} {H : Nat → Value} {nt : Nat} (r : Rel (Ctx.of w S nt) ⟨t, []⟩ a w S H) (h : KeptS w S w' S') : Rel (Ctx.of w' S' nt) ⟨t, []⟩ a w' S' H :=
  ⟨r.nt, r.df, fun i => AVR.mono (fun l v => GRep.mono h.st (Nat.le_refl _) (fun _ _ => rfl) (fun p e sz k cs hp _ => by simp at hp)) (r.tm i), fun p b h => by simp at h, fun p b g h => by simp at h, fun p q b b' g h => by simp at h, fun p b g i h => by simp at h, h.sl, ExtX.refl _ w' S', Nat.zero_le _, fun p g h => absurd h (Nat.not_lt_zero _), fun p e sz k cs h => absurd h (Nat.not_lt_zero _)⟩
theorem wpListIn_append {F : Fence} {n : Nat} {P : Program} {ops : Array Oper} {Q : Exit → Act → World → Prop} {l2 : List Oper} : ∀ (l1 : List Oper) (a : Act) (w : World), wpListIn F n P ops (Exit.then (wpListIn F n P ops Q l2) Q) l1 a w → wpListIn F n P ops Q (l1 ++ l2) a w
  | [], a, w, h => h
  | o :: l1, a, w, h => by
    have ih := wpListIn_append (F := F) (n := n) (P := P) (ops := ops) (Q := Q) (l2 := l2) l1
    simp only [List.cons_append]
    unfold wpListIn at h ⊢
    split at h
    · rename_i hw
      rw [if_pos hw]
      obtain ⟨h1, h2⟩ := h
      refine ⟨h1, ?_⟩
      generalize (o.semAt F.round a.eval).run P w = r at h2
      have hlet : LetsOut (Exit.then (wpListIn F n P ops Q l2) Q) → LetsOut Q := fun ⟨a, w, h⟩ => ⟨a, w, h⟩
      cases r with
      | ok nx w' =>
        cases nx with
        | value v => exact ih _ _ h2
        | skip => exact ih _ _ h2
        | defer d => exact ih _ _ h2
        | enter f args =>
          refine ⟨h2.1, h2.2.mono fun e w'' hr => ?_⟩
          cases e with
          | returned v => exact ih _ _ hr
          | panicked ch => exact hr
          | outgrown => exact hlet hr
        | row row args => exact ⟨h2.1, h2.2.mono fun v w'' hr => ih _ _ hr⟩
        | round l f tmps as bd =>
          refine ⟨h2.1, h2.2.mono fun e w'' hr => ?_⟩
          cases e with
          | returned v => exact ih _ _ hr
          | panicked ch => exact hr
          | outgrown => exact hlet hr
        | _ => exact absurd h2 id
      | halt x w' =>
        cases x with
        | panic v => exact h2
        | _ => exact absurd h2 id
    · rename_i hw
      rw [if_neg hw]
      exact ⟨h.1, ih _ _ h.2⟩
section
variable {P : Program} {nt : Nat} {Q : Exit → (Nat → AV) → YK → Prop} {K : YK} {t : Nat → AV}
theorem yseq {x y : Code} (h : AWY P nt x (thenY (fun t K => AWY P nt y Q K t) Q) K t) : AWY P nt (.seq x y) Q K t := by
  intro hn a w S H r hK
  refine wpIn_seq (wpIn_mono (h (fun t K hs => hn t K hs) a w S H r hK) ?_)
  rintro e a w ⟨t, S, H, K, r, hK, hq⟩
  cases e with
  | normal => exact hq hn a w S H r hK
  | _ => exact ⟨t, S, H, K, r, hK, hq⟩
theorem ythen {n : (Nat → AV) → YK → Prop} (h : n t K) : thenY n Q .normal t K := h
theorem yblk {id : Nat} (h : Q .normal t K) : inBlockY id Q .normal t K := h
theorem yskip (h : Q .normal t K) : AWY P nt .skip Q K t := fun _ _ _ S H r hK => wpIn_skip ⟨t, S, H, K, r, hK, h⟩
theorem yexit {id : Nat} (h : Q (.exit id) t K) : AWY P nt (.exit id) Q K t := fun _ _ _ S H r hK => wpIn_exit ⟨t, S, H, K, r, hK, h⟩
theorem yret (h : Q .ret t K) : AWY P nt .ret Q K t := fun _ _ _ S H r hK => wpIn_ret ⟨t, S, H, K, r, hK, h⟩
theorem yblock {id : Nat} {x : Code} (h : AWY P nt x (inBlockY id Q) K t) : AWY P nt (.block id x) Q K t := by
  intro hn a w S H r hK
  refine wpIn_block (wpIn_mono (h (fun t K hs => hn t K hs) a w S H r hK) ?_)
  rintro e a w ⟨t, S, H, K, r, hK, hq⟩
  cases e with
  | exit id' =>
    simp only [inBlockY] at hq
    simp only [Exit.inBlock]
    split
    · rename_i h; rw [if_pos h] at hq; exact ⟨t, S, H, K, r, hK, hq⟩
    · rename_i h; rw [if_neg h] at hq; exact ⟨t, S, H, K, r, hK, hq⟩
  | _ => exact ⟨t, S, H, K, r, hK, hq⟩
theorem ycond {o : Operand} {x y : Code} {b : Bool} (ho : opnd ⟨t, []⟩ o = .s (.one (.b b))) (h1 : b = true → AWY P nt x Q K t) (h0 : b = false → AWY P nt y Q K t) : AWY P nt (.cond o x y) Q K t := by
  intro hn a w S H r hK
  have h := opnd_rel r o
  rw [ho] at h
  have hv : a.eval o = .bool b := rep_b (h : Rep w S (.b b) (a.eval o))
  exact wpIn_cond_split hv (fun hb => h1 hb hn a w S H r hK) (fun hb => h0 hb hn a w S H r hK)
theorem yl_of {ops : Array Oper} {l1 l2 : List Oper} (hK : YExt K) (hnd : l1.all ndf = true) (h : ∀ w0 S0, AWL P (Ctx.of w0 S0 nt) ops (fun e st => e = .normal ∧ st.m = [] ∧ AWLY P nt ops Q K l2 st.t) l1 ⟨t, []⟩) : AWLY P nt ops Q K (l1 ++ l2) t := by
  intro hn a w S H r hk
  refine wpListIn_append l1 a w ?_
  have h1 := wpList_in (rd := none) (ds := []) (Q1 := QR (Ctx.of w S nt) (fun e st => e = .normal ∧ st.m = [] ∧ AWLY P nt ops Q K l2 st.t)) (Q2 := Exit.then (wpListIn Fence.wide 0 P ops (QY nt Q) l2) (QY nt Q)) ?_ ?_ ?_ l1 hnd a w (h w S a w S H r)
  · rw [dsl_same r.df] at h1
    exact h1
  · rintro ⟨a, w, st, S, H, _, h, _⟩; cases h
  · rintro e a w ⟨st, S, H, r, _⟩; exact r.df
  · rintro e a' w' ⟨⟨t', m'⟩, S', H', r', rfl, hm, h⟩
    have hm' : m' = [] := hm
    subst hm'
    rw [dsl_same r'.df]
    exact h hn a' w' S' H' (r'.here rfl) (hK _ _ _ _ hk (r'.ex.toExt (fun _ h => h)) r'.sl)
theorem yl_nil {ops : Array Oper} (h : Q .normal t K) : AWLY P nt ops Q K [] t := fun _ _ _ S H r hK => ⟨t, S, H, K, r, hK, h⟩
theorem yregion {id : Nat} {l : List Oper} (h : AWLY P nt l.toArray Q K l t) : AWY P nt (.region id l.toArray false) Q K t := fun hn a w S H r hK => wpIn_region_lit (h hn a w S H r hK)
theorem yplain {id : Nat} {l : List Oper} (hK : YExt K) (hnd : l.all ndf = true) (h : ∀ w0 S0, AWL P (Ctx.of w0 S0 nt) l.toArray (fun e st => e = .normal ∧ st.m = [] ∧ AWLY P nt l.toArray Q K [] st.t) l ⟨t, []⟩) : AWY P nt (.region id l.toArray false) Q K t := by
  refine yregion ?_
  have h1 := yl_of (l2 := []) hK hnd h
  rwa [List.append_nil] at h1
def YStep (P : Program) (l : Nat) (J : Nat → YK) (Jx : YK) (L : List (SV × SV)) : Prop :=
  ∀ k x y w S v u, L[k]? = some (x, y) → J k w S → InH w S → SVR (Rep w S) x v → SVR (Rep w S) y u →
      ∃ fn tmps assign body, (Instr.yield l #[v, u]).run P w = .ok (.round l fn tmps assign body) w ∧
        RoundIn Fence.wide 0 P l fn tmps assign body w (fun e w' => ∃ b S', e = .returned (.bool b) ∧ KeptS w S w' S' ∧ (if b then J (k + 1) w' S' else Jx w' S'))
theorem pub_nil {w : World} {S : Stab} {H : Nat → Value} {x : SV} {v : Value} (h : SVR (GRep w S [] H) x v) : SVR (Rep w S) x v := by
  have h0 : ∀ l v, GRep0 w S [] H l v → Rep w S l v := fun l v h => by
    cases l with
    | lp p off => exact absurd h.1 (Nat.not_lt_zero _)
    | ls p n => exact absurd h.1 (Nat.not_lt_zero _)
    | ap p n off => exact absurd h.1 (Nat.not_lt_zero _)
    | _ => exact h
  refine SVR.mono (fun l v h => ?_) h
  cases l with
  | lp p off => exact absurd h.1 (Nat.not_lt_zero _)
  | ls p n => exact absurd h.1 (Nat.not_lt_zero _)
  | ap p n off => exact absurd h.1 (Nat.not_lt_zero _)
  | fn f a b =>
    obtain ⟨va, vb, rfl, h1, h2⟩ := h
    refine .fn f a b va vb (by simpa using h1.1) (by simpa using h2.1) (fun j l v hl hv => h0 _ _ (h1.2 j l v hl (by simpa using hv))) (fun j l v hl hv => h0 _ _ (h2.2 j l v hl (by simpa using hv)))
  | _ => exact h0 _ _ h
theorem yl_yield {ops : Array Oper} {rest : List Oper} {o : Oper} {d : Tmp} {ty : Tmp} {ax ay : Operand} {ats : Array TypeId} {l : Nat} {J : Nat → YK} {Jx : YK} {L : List (SV × SV)} {k : Nat} {x y : SV}
    (ho : o.op = .call { callee := .value (.tmp ty), args := #[ax, ay], argTypes := ats }) (hod : o.dst = some d) (hw : ∀ a w S H, Rel (Ctx.of w S nt) ⟨t, []⟩ a w S H → Region.wanted o (yielded ops a.tmps) = true)
    (hs : YStep P l J Jx L) (hd : decide (d < nt) = true) (hy : t ty = .s (.one (.raw (.func (.yield l) #[] #[])))) (hx : opnd ⟨t, []⟩ ax = .s x) (hyy : opnd ⟨t, []⟩ ay = .s y) (hL : L[k]? = some (x, y))
    (h1 : AWLY P nt ops Q (J (k + 1)) rest (upd t d (.s (.one (.b true))))) (h0 : AWLY P nt ops Q Jx rest (upd t d (.s (.one (.b false))))) : AWLY P nt ops Q (J k) (o :: rest) t := by
  intro hn a w S H r hK
  have e1 := opnd_rel r ax
  rw [hx] at e1
  have e2 := opnd_rel r ay
  rw [hyy] at e2
  have e3 := r.tm ty
  have e3' : AVR (GRep w S [] H) (t ty) (a.tmps.getD ty undef) := e3
  rw [hy] at e3'
  have hv : a.tmps.getD ty undef = .func (.yield l) #[] #[] := rep_raw e3'
  obtain ⟨fn, tmps, assign, body, hrun, hround⟩ := hs k x y w S (a.eval ax) (a.eval ay) hL hK r.sl (pub_nil e1) (pub_nil e2)
  have hev : (execOp a.eval o).run P w = .ok (.round l fn tmps assign body) w := by
    obtain ⟨odst, oop, oty, opos, oaf, og⟩ := o
    simp only at ho
    subst ho
    have hv' : a.eval (.tmp ty) = .func (.yield l) #[] #[] := hv
    simp only [execOp, resolve, hv', Deferred.ofValue, Sem.run_bind]
    simpa [invoke] using hrun
  have hsem : o.semAt Fence.wide.round a.eval = execOp a.eval o := Oper.semAt_none _ _
  unfold wpListIn
  rw [if_pos (hw a w S H r)]
  refine ⟨fun _ _ => trivial, ?_⟩
  rw [hsem, hev]
  refine ⟨fun hh => (by simp [Fence.wide] at hh), ?_⟩
  refine hround.mono ?_
  rintro e w' ⟨b, S', rfl, hk, hj⟩
  have r' := (r.kept hk).put (d := d) (x := .s (.one (.b b))) (v := .bool b) (of_decide_eq_true hd) (show AVR _ (.s (.one (.b b))) _ from Rep.b b)
  rw [hod]
  cases b with
  | true => exact h1 hn _ _ _ _ (r'.here rfl) hj
  | false => exact h0 hn _ _ _ _ (r'.here rfl) hj
theorem yloop {body : Code} {G : Type} (sl : G → List (Nat × AV)) (KK : G → YK) (pre : G → Prop) (μ : G → Nat) (g0 : G) (p0 : pre g0) (s0 : MatchL t (sl g0)) (hK0 : K = KK g0) (hin : ∀ g, pre g → InbL 0 (sl g))
    (round : ∀ g, pre g → AWY P nt body (thenY (fun t' K' => ∃ g', pre g' ∧ MatchL t' (sl g') ∧ K' = KK g' ∧ μ g' < μ g) Q) (KK g) (updL (fun _ => .top) (sl g))) : AWY P nt (.loop body) Q K t := by
  subst hK0
  intro hn a w S H r hK b k cs hro hb hr
  have key : ∀ n, ∀ g a w S H, pre g → μ g = n → Rel (Ctx.of w S nt) ⟨updL (fun _ => .top) (sl g), []⟩ a w S H → KK g w S →
      ∃ e a' w', QY nt Q e a' w' ∧ ArrivesIn (Machine.fenced P Fence.wide) P (lone (b.atR a (.code body :: .inLoop body :: k)) cs w) b k cs e a' w' := by
    intro n
    induction n using Nat.strongRecOn with
    | _ n ih =>
      intro g a w S H hp hμ r hK
      obtain ⟨e, a₁, w₁, hqq, harr⟩ := round g hp (fun t K hs => hn t K hs) a w S H r hK b (.inLoop body :: k) cs hro hb hr
      obtain ⟨t', S', H', K', r', hK', hqq⟩ := hqq
      cases e with
      | normal =>
        obtain ⟨g', hp', hs', rfl, hlt⟩ := hqq
        have rt : Rel (Ctx.of w₁ S' nt) ⟨updL (fun _ => .top) (sl g'), []⟩ a₁ w₁ S' H' := r'.weak fun i => by
          rcases updL_match hs' (hin g' hp') i with h | h
          · exact .inr h
          · exact .inl h.1
        obtain ⟨e₂, a₂, w₂, hq₂, harr₂⟩ := ih (μ g') (hμ ▸ hlt) g' a₁ w₁ S' H' hp' rfl rt hK'
        exact ⟨e₂, a₂, w₂, hq₂, .of_steps (StepsIn.trans harr (.one (fenced_calm (n := 0) hb hr rfl) stepR_inLoop)) harr₂⟩
      | exit id => exact ⟨_, _, w₁, ⟨t', S', H', K', r', hK', hqq⟩, .pass (x := .inLoop body) rfl (fun _ _ => .inl (by simp)) harr⟩
      | goto l => exact ⟨_, _, w₁, ⟨t', S', H', K', r', hK', hqq⟩, .pass (x := .inLoop body) rfl (fun _ _ => .inl (by simp)) harr⟩
      | ret => exact ⟨_, _, w₁, ⟨t', S', H', K', r', hK', hqq⟩, .pass (x := .inLoop body) rfl (fun _ _ => .inl (by simp)) harr⟩
      | panic ch => exact ⟨_, _, w₁, ⟨t', S', H', K', r', hK', hqq⟩, .pass (x := .inLoop body) rfl (fun _ _ => .inl (by simp)) harr⟩
      | outgrown => exact ⟨_, _, w₁, ⟨t', S', H', K', r', hK', hqq⟩, .pass (x := .inLoop body) rfl (fun _ _ => .inl (by simp)) harr⟩
  have rt : Rel (Ctx.of w S nt) ⟨updL (fun _ => .top) (sl g0), []⟩ a w S H := r.weak fun i => by
    rcases updL_match s0 (hin g0 p0) i with h | h
    · exact .inr h
    · exact .inl h.1
  obtain ⟨e, a', w', hqq, harr⟩ := key _ g0 a w S H p0 rfl rt hK
  exact ⟨e, a', w', hqq, .of_steps (.one (fenced_calm (n := 0) hb hr rfl) stepR_loop) harr⟩
end
theorem entry_rel {args : List SV} {w : World} {S : Stab} {vs : Array Value} {nt : Nat} (hn : args.length ≤ nt) (hS : InH w S) (hv : SvsR (Rep w S) args vs.toList) :
    Rel (Ctx.of w S nt) ⟨argT args, []⟩ { tmps := vs ++ Array.replicate (nt - vs.size) undef, defers := [] } w S (fun _ => undef) := by
  have hlen : vs.size = args.length := by have := hv.1; simp at this; omega
  have hget : ∀ i, (vs ++ Array.replicate (nt - vs.size) undef).getD i undef = vs.getD i undef := by
    intro i
    simp only [Array.getD_eq_getD_getElem?, Array.getElem?_append]
    split
    · rfl
    · rename_i hi
      rw [Array.getElem?_replicate]
      have : vs[i]? = none := Array.getElem?_eq_none (by omega)
      rw [this]
      split <;> rfl
  refine ⟨by simp; omega, rfl, fun i => ?_, fun p b h => by simp at h, fun p b g h => by simp at h, fun p q b b' g h => by simp at h, fun p b g i h => by simp at h, hS, ExtX.refl _ w S, Nat.zero_le _, fun p g h => absurd h (Nat.not_lt_zero _), fun p e sz k cs h => absurd h (Nat.not_lt_zero _)⟩
  rw [hget]
  show AVR _ (match args[i]? with | some x => .s x | none => .tup []) _
  cases ha : args[i]? with
  | none =>
    have : vs[i]? = none := Array.getElem?_eq_none (by rw [hlen]; exact List.getElem?_eq_none_iff.1 ha)
    simp only [Array.getD_eq_getD_getElem?, this, Option.getD_none]
    exact avr_undef
  | some x =>
    have hi : i < args.length := (List.getElem?_eq_some_iff.1 ha).1
    have hi' : i < vs.size := by omega
    have : vs[i]? = some vs[i] := Array.getElem?_eq_getElem hi'
    simp only [Array.getD_eq_getD_getElem?, this, Option.getD_some]
    exact SVR.mono (fun _ _ => GRep.of_rep) (hv.2 i x _ ha (by simp))
theorem iterC_of {P : Program} {fc : FuncId} {fn : Func} {body : Code} {cap : List Lf} {L : List (SV × SV)} (hf : P.funcs[fc]? = some fn) (hb : fn.body = some body) (hres : fn.results = #[]) {nt : Nat} (hnt : fn.ntmps = nt) (hn : cap.length + 1 ≤ nt)
    (h : ∀ l J Jx, (∀ k, YExt (J k)) → YExt Jx → YStep P l J Jx L → AWY P nt body (fun e _ K => (e = .normal ∨ e = .ret) ∧ (K = J L.length ∨ K = Jx)) (J 0) (argT (.one (.raw (.func (.yield l) #[] #[])) :: cap.map .one))) : IterC P fc cap L := by
  subst hnt
  intro l J Jx w S vs hJ hJx hs h0 hS hcap
  refine callsIn_wide.1 (callsIn_of_wp (n := 0) hf hb trivial ?_)
  have hv : SvsR (Rep w S) (.one (.raw (.func (.yield l) #[] #[])) :: cap.map .one) ((#[Value.func (.yield l) #[] #[]] ++ vs : Array Value)).toList := by
    refine ⟨by have := hcap.1; simp at this ⊢; omega, fun j x v hx hv => ?_⟩
    cases j with
    | zero =>
      simp at hx hv
      subst hx; subst hv
      exact Rep.raw (.func (.yield l) #[] #[]) rfl
    | succ j =>
      simp at hx hv
      obtain ⟨x', hx', rfl⟩ := hx
      exact hcap.2 j x' v hx' (by simpa using hv)
  have r0 := entry_rel (nt := fn.ntmps) (by simpa using hn) hS hv
  refine wpIn_mono (h l J Jx (fun k => hJ k) hJx hs (fun t K hs => by rcases hs.1 with h | h <;> cases h) _ w S _ r0 h0) ?_
  rintro e a w1 ⟨t, S1, H, K, r, hK, he, hk⟩
  have hr : (results fn a.tmps).run P w1 = .ok (.tuple #[]) w1 := by
    rw [results_eq, hres]
    simp
  have hfin : ∃ v S', Ending.returned (.tuple #[]) = .returned v ∧ InH w1 S' ∧ (J L.length w1 S' ∨ Jx w1 S') := by
    refine ⟨_, S1, rfl, r.sl, ?_⟩
    rcases hk with rfl | rfl
    · exact .inl hK
    · exact .inr hK
  rcases he with rfl | rfl
  · exact ⟨r.df, _, hr, hfin⟩
  · exact ⟨r.df, _, hr, hfin⟩
end Go.Proofs.YtlnpkincpgbmcaaDoor.Abs

/-
  Ranges over functions, told by models.
-/
namespace Go.Proofs.YtlnpkincpgbmcaaDoor.Abs
open Go.RowKit
def rangeL {α σ : Type} (f : σ → α → Option (σ ⊕ (Nat × σ))) : List α → σ → Option (σ ⊕ (Nat × σ))
  | [], s => some (.inl s)
  | x :: xs, s => match f s x with
    | none => none
    | some (.inl s') => rangeL f xs s'
    | some (.inr j) => some (.inr j)
def rangeK {σ ρ : Type} (k kr : σ → Option ρ) (ke : Nat → σ → Option ρ) : σ ⊕ (Nat × σ) → Option ρ
  | .inl s => k s
  | .inr (0, s) => kr s
  | .inr (n + 1, s) => ke n s
def jcode : Code → Nat
  | .exit id => id + 1
  | _ => 0
theorem rangeL_cons {α σ : Type} {f : σ → α → Option (σ ⊕ (Nat × σ))} {x : α} {xs : List α} {s : σ} {r : σ ⊕ (Nat × σ)} (h : rangeL f (x :: xs) s = some r) :
    ∃ y, f s x = some y ∧ (∀ s', y = .inl s' → rangeL f xs s' = some r) ∧ ∀ j, y = .inr j → r = .inr j := by
  unfold rangeL at h
  cases hf : f s x with
  | none => rw [hf] at h; cases h
  | some y =>
    rw [hf] at h
    refine ⟨y, rfl, fun s' e => ?_, fun j e => ?_⟩
    · subst e; exact h
    · subst e; exact (Option.some.inj h).symm
section
variable {P : Program} {c : Ctx} {Q : Exit → AS → Prop} {t : Nat → AV} {m : List Blk}
theorem RQ.mono {G : Type} {mm : G → List Blk} {p p' : G → Prop} {j j' : Code → G → Prop} (hp : ∀ g, p g → p' g) (hj : ∀ c g, j c g → j' c g) : ∀ e st, RQ mm p j e st → RQ mm p' j' e st := by
  intro e st h
  cases e with
  | normal => obtain ⟨g, ex, h1, h2⟩ := h; exact ⟨g, ex, hp g h1, h2⟩
  | ret => obtain ⟨g, ex, h1, h2⟩ := h; exact ⟨g, ex, hj _ g h1, h2⟩
  | exit id => obtain ⟨g, ex, h1, h2⟩ := h; exact ⟨g, ex, hj _ g h1, h2⟩
  | _ => exact h
theorem irangeL {go : Operand} {p1 p2 : Tmp} {assign body : Code} {fc : FuncId} {cap : List Lf} {α σ : Type} (f : σ → α → Option (σ ⊕ (Nat × σ))) (Lst : List α) (sx sy : α → SV) (mm : σ → List Blk) (s0 : σ) {rr : σ ⊕ (Nat × σ)} (hr : rangeL f Lst s0 = some rr)
    (hg : opnd ⟨t, m⟩ go = .s (.one (.fn fc [] cap))) (hfc : FnI P fc) (hcap : cap.all Lf.pubd0 = true) (hit : IterC P fc cap (Lst.map fun x => (sx x, sy x))) (hp1 : decide (p1 < c.nt) = true) (hp2 : decide (p2 < c.nt) = true)
    (hm : m = mm s0) (hlen : ∀ g, (mm g).length = m.length) (hmin : ∀ g, ∀ b ∈ mm g, b.inb (mm g).length)
    (round : ∀ x s y l, f s x = some y → ∀ w0 S0 X H0, AWI (some l) P ⟨w0, S0, c.nt, X, mm s, H0⟩ okB assign
      (thenA (fun st1 => ∀ w0 S0 X H0, AWI (some l) P ⟨w0, S0, c.nt, X, st1.m, H0⟩ okB body (RQ mm (fun s' => y = .inl s') (fun jc s' => y = .inr (jcode jc, s'))) st1) (fun _ _ => False)) ⟨upd (upd t p1 (.s (sx x))) p2 (.s (sy x)), mm s⟩)
    (done : ∀ s, rr = .inl s → Q .normal ⟨t, mm s⟩) (hret : ∀ s, rr = .inr (0, s) → Q .ret ⟨t, mm s⟩) (hex : ∀ id s, rr = .inr (id + 1, s) → Q (.exit id) ⟨t, mm s⟩) :
    AWI none P c (okO c) (.rangeFunc go #[p1, p2] assign body) Q ⟨t, m⟩ := by
  refine irange (L := Lst.map fun x => (sx x, sy x)) mm (fun k s => rangeL f (Lst.drop k) s = some rr) (fun jc s => rr = .inr (jcode jc, s)) s0 hg hfc hcap hit hp1 hp2 hr hm hlen hmin ?_ (fun g h => ?_) (fun g h => hret g h) (fun id g h => hex id g h)
  · intro k X Y s l hk hp w0 S0 X0 H0
    rw [List.getElem?_map] at hk
    cases hx : Lst[k]? with
    | none => rw [hx] at hk; cases hk
    | some x =>
      rw [hx] at hk
      simp only [Option.map_some, Option.some.injEq, Prod.mk.injEq] at hk
      obtain ⟨rfl, rfl⟩ := hk
      have hlt := (List.getElem?_eq_some_iff.1 hx).1
      have hd : Lst.drop k = x :: Lst.drop (k + 1) := by
        rw [List.drop_eq_getElem_cons hlt, (List.getElem?_eq_some_iff.1 hx).2]
      rw [hd] at hp
      obtain ⟨y, hy, h1, h2⟩ := rangeL_cons hp
      refine (round x s y l hy w0 S0 X0 H0).mono fun e st h => ?_
      cases e with
      | normal =>
        exact fun w0 S0 X0 H0 => AWI.mono (h w0 S0 X0 H0) (RQ.mono (fun s' h => h1 s' h) (fun jc s' h => h2 _ h))
      | _ => exact h
  · have h' : rangeL f (Lst.drop (Lst.map fun x => (sx x, sy x)).length) g = some rr := h
    rw [List.length_map, List.drop_length] at h'
    exact done g (Option.some.inj h').symm
theorem sadopt_box_i {rd : Option Nat} {ok : FrK → Prop} {x : Code} (e sz p : Nat) {cs : List Lf} (i : Nat) (hsz : 0 < sz) (hm : m[p]? = some (.box cs)) (hi : cs[i]? = some (.raw (.slice none 0 0))) (k : AWI rd P c ok x Q ⟨t, m.set p (.box (cs.set i (.ls m.length 0))) ++ [.arr e sz 0 []]⟩) : AWI rd P c ok x Q ⟨t, m⟩ :=
  awi_of _ (fun _ _ S H r => ⟨S, setH H m.length (.slice none 0 0), adopt_box_rel (st := ⟨t, m⟩) i hsz hm hi r⟩) k
end
end Go.Proofs.YtlnpkincpgbmcaaDoor.Abs

/-
  A drawn region with effects whose last operation, behind all others, writes what they read.
-/
namespace Go.Proofs.YtlnpkincpgbmcaaDoor.Abs
open Go.RowKit
section
variable {P : Program}
end
section
variable {P : Program} {c : Ctx} {t : Nat → AV} {m : List Blk} {Q : Exit → AS → Prop}
theorem AWL.go {ops : Array Oper} {l : List Oper} {st : AS} (h : AWL P c ops Q l st) (a : Act) (w : World) (S : Stab) (H : Nat → Value) (r : Rel c st a w S H) : wpList P ops (QR c Q) l a w := h a w S H r
end
end Go.Proofs.YtlnpkincpgbmcaaDoor.Abs

/-
  A region that draws its order, with effects that stand in no order to one another: what the memory is hangs on which of them are done.
-/
namespace Go.Proofs.YtlnpkincpgbmcaaDoor.Abs
open Go.RowKit
abbrev MTbl := List (List Bool × List Blk)
def look : MTbl → List Bool → Option (List Blk)
  | [], _ => none
  | (b, M) :: r, bits => if b == bits then some M else look r bits
theorem look_mem : ∀ {tbl : MTbl} {bits : List Bool} {M : List Blk}, look tbl bits = some M → (bits, M) ∈ tbl
  | (b, N) :: r, bits, M, h => by
    unfold look at h
    by_cases hb : (b == bits) = true
    · rw [if_pos hb] at h
      cases h
      have : b = bits := by simpa using hb
      subst this
      exact List.mem_cons_self ..
    · rw [if_neg hb] at h
      exact List.mem_cons_of_mem _ (look_mem h)
theorem zip_self_mem : ∀ {es : List Nat} {a b : Nat}, (a, b) ∈ es.zip es → a = b ∧ a ∈ es
  | [], _, _, h => by simp at h
  | e :: r, a, b, h => by
    rw [List.zip_cons_cons] at h
    rcases List.mem_cons.1 h with h | h
    · cases h; exact ⟨rfl, List.mem_cons_self ..⟩
    · obtain ⟨h1, h2⟩ := zip_self_mem h
      exact ⟨h1, List.mem_cons_of_mem _ h2⟩
def bitsOf (es : List Nat) (listed : Array Bool) : List Bool := es.map fun e => listed.getD e false
def consB (ws es : List Nat) (i : Nat) (bits : List Bool) : Bool := (es.zip bits).all fun x => (!((ws.getD i 0).testBit x.1) || x.2) && (!(x.1 == i || (ws.getD x.1 0).testBit i) || !x.2)
def closedB (ws es : List Nat) (bits : List Bool) : Bool := (es.zip bits).all fun x => !x.2 || (es.zip bits).all fun y => !((ws.getD x.1 0).testBit y.1) || y.2
def allBits : Nat → List (List Bool)
  | 0 => [[]]
  | n + 1 => (allBits n).map (false :: ·) ++ (allBits n).map (true :: ·)
theorem mem_allBits : ∀ {n : Nat} {bits : List Bool}, bits.length = n → bits ∈ allBits n
  | 0, [], _ => List.mem_singleton.2 rfl
  | 0, _ :: _, h => by simp at h
  | n + 1, [], h => by simp at h
  | n + 1, b :: bits, h => by
    have ih := mem_allBits (n := n) (bits := bits) (by simpa using h)
    unfold allBits
    rw [List.mem_append]
    cases b with
    | false => exact .inl (List.mem_map.2 ⟨bits, ih, rfl⟩)
    | true => exact .inr (List.mem_map.2 ⟨bits, ih, rfl⟩)
def fullB (ws es : List Nat) (tbl : MTbl) : Bool := (allBits es.length).all fun bits => !closedB ws es bits || (look tbl bits).isSome
def AllE (p : List Bool → Bool) (Q : List Bool → List Blk → Prop) (tbl : MTbl) : Prop := ∀ e ∈ tbl, p e.1 = true → Q e.1 e.2
theorem alle_nil {p : List Bool → Bool} {Q : List Bool → List Blk → Prop} : AllE p Q [] := fun e h => by cases h
theorem alle_t {p : List Bool → Bool} {Q : List Bool → List Blk → Prop} {b : List Bool} {M : List Blk} {r : MTbl} (_ : p b = true) (q : Q b M) (h : AllE p Q r) : AllE p Q ((b, M) :: r) := fun e he hp => by
  rcases List.mem_cons.1 he with rfl | he
  · exact q
  · exact h e he hp
theorem alle_f {p : List Bool → Bool} {Q : List Bool → List Blk → Prop} {b : List Bool} {M : List Blk} {r : MTbl} (hf : p b = false) (h : AllE p Q r) : AllE p Q ((b, M) :: r) := fun e he hp => by
  rcases List.mem_cons.1 he with rfl | he
  · have hp' : p b = true := hp
    rw [hf] at hp'; cases hp'
  · exact h e he hp
section
variable {P : Program} {c : Ctx} {t : Nat → AV} {m : List Blk} {Q : Exit → AS → Prop}
def GoodM (P : Program) (c : Ctx) (ops : Array Oper) (ws es : List Nat) (tbl : MTbl) (i : Nat) (t : Nat → AV) (o : Oper) (x : AV) : Prop :=
  (∃ md, Good1 P c md ops t o x ∧ AllE (consB ws es i) (fun _ M => Lift md M) tbl) ∨ AllE (consB ws es i) (fun _ M => Good1 P c M ops t o x) tbl
theorem GoodM.congr {ops : Array Oper} {ws es : List Nat} {tbl : MTbl} {i : Nat} {t t' : Nat → AV} {o : Oper} {x : AV} (h : GoodM P c ops ws es tbl i t o x) (ht : ∀ y ∈ o.looksAt ops, t y = t' y) : GoodM P c ops ws es tbl i t' o x := by
  rcases h with ⟨md, h1, h2⟩ | h
  · exact .inl ⟨md, h1.congr ht, h2⟩
  · exact .inr fun e he hp => (h e he hp).congr ht
def DM (P : Program) (c : Ctx) (ops : Array Oper) (ws es : List Nat) (tbl : MTbl) (k : (Nat → AV) → Prop) : Nat → List Oper → (Nat → AV) → Prop
  | _, [], t => k t
  | i, o :: rest, t =>
    (es.contains i = false ∧ ∃ x d, o.dst = some d ∧ d < c.nt ∧ GoodM P c ops ws es tbl i t o x ∧ DM P c ops ws es tbl k (i + 1) rest (upd t d x)) ∨
    (∃ j x, es[j]? = some i ∧ GYes ops t o ∧ AllE (consB ws es i) (fun b M => ∃ M', look tbl (b.set j true) = some M' ∧ EffS P c ops t M M' o x) tbl ∧ (∀ d, o.dst = some d → d < c.nt) ∧
      DM P c ops ws es tbl k (i + 1) rest (match o.dst with | some d => upd t d x | none => t))
theorem DM.get {ops : Array Oper} {ws es : List Nat} {tbl : MTbl} {k : (Nat → AV) → Prop} : ∀ {l : List Oper} {i : Nat} {t : Nat → AV}, DM P c ops ws es tbl k i l t → (dsts l).Nodup → (∀ (q : Nat) (o : Oper), l[q]? = some o → ∀ y ∈ o.looksAt ops, y ∉ dsts (l.drop q)) →
    ∃ T, k T ∧ (∀ y, y ∉ dsts l → T y = t y) ∧ ∀ (q : Nat) (o : Oper), l[q]? = some o →
      (es.contains (i + q) = false ∧ ∃ d, o.dst = some d ∧ d < c.nt ∧ GoodM P c ops ws es tbl (i + q) T o (T d)) ∨
      (∃ j x, es[j]? = some (i + q) ∧ GYes ops T o ∧ AllE (consB ws es (i + q)) (fun b M => ∃ M', look tbl (b.set j true) = some M' ∧ EffS P c ops T M M' o x) tbl ∧ ∀ d, o.dst = some d → d < c.nt ∧ T d = x)
  | [], i, t, h, _, _ => ⟨t, h, fun _ _ => rfl, fun q o h => by simp at h⟩
  | o :: rest, i, t, h, hnd, hl => by
    have hlook : ∀ y ∈ o.looksAt ops, y ∉ dsts (o :: rest) := fun y hy => by simpa using hl 0 o rfl y hy
    have hlt : ∀ (q : Nat) (o' : Oper), rest[q]? = some o' → ∀ y ∈ o'.looksAt ops, y ∉ dsts (rest.drop q) := fun q o' h' y hy => by
      have := hl (q + 1) o' (by simpa using h') y hy
      simpa using this
    rcases h with ⟨hne, x, d, hd, hdn, hg, hr⟩ | ⟨j, x, h1, h6, h7, h8, hr⟩
    · have hds : dsts (o :: rest) = d :: dsts rest := by simp [dsts, hd]
      rw [hds] at hnd hlook
      have hnd' := List.nodup_cons.1 hnd
      obtain ⟨T, hk, hT, hG⟩ := DM.get hr hnd'.2 hlt
      have hTl : ∀ y ∈ o.looksAt ops, t y = T y := fun y hy => by
        have := hlook y hy
        simp only [List.mem_cons, not_or] at this
        rw [hT y this.2, upd_def, if_neg this.1]
      have hTd : T d = x := by rw [hT d hnd'.1, upd_def, if_pos rfl]
      refine ⟨T, hk, fun y hy => ?_, fun q o' h' => ?_⟩
      · rw [hds] at hy
        simp only [List.mem_cons, not_or] at hy
        rw [hT y hy.2, upd_def, if_neg hy.1]
      · cases q with
        | zero =>
          simp only [List.getElem?_cons_zero, Option.some.injEq] at h'
          subst h'
          exact .inl ⟨hne, d, hd, hdn, by rw [hTd]; exact hg.congr hTl⟩
        | succ q =>
          have := hG q o' (by simpa using h')
          rw [show i + 1 + q = i + (q + 1) by omega] at this
          exact this
    · have fin : ∀ {T : Nat → AV}, (∀ y ∈ o.looksAt ops, t y = T y) → AllE (consB ws es i) (fun b M => ∃ M', look tbl (b.set j true) = some M' ∧ EffS P c ops T M M' o x) tbl := fun hTl e he hp => by
        obtain ⟨M', h3, h4⟩ := h7 e he hp
        exact ⟨M', h3, h4.congr hTl⟩
      cases hd : o.dst with
      | none =>
        have hds : dsts (o :: rest) = dsts rest := by simp [dsts, hd]
        rw [hds] at hnd hlook
        rw [hd] at hr
        obtain ⟨T, hk, hT, hG⟩ := DM.get hr hnd hlt
        have hTl : ∀ y ∈ o.looksAt ops, t y = T y := fun y hy => (hT y (hlook y hy)).symm
        refine ⟨T, hk, fun y hy => hT y (by rw [hds] at hy; exact hy), fun q o' h' => ?_⟩
        cases q with
        | zero =>
          simp only [List.getElem?_cons_zero, Option.some.injEq] at h'
          subst h'
          exact .inr ⟨j, x, h1, h6.congr hTl, fin hTl, fun d h => by rw [hd] at h; cases h⟩
        | succ q =>
          have := hG q o' (by simpa using h')
          rw [show i + 1 + q = i + (q + 1) by omega] at this
          exact this
      | some d =>
        have hds : dsts (o :: rest) = d :: dsts rest := by simp [dsts, hd]
        rw [hds] at hnd hlook
        have hnd' := List.nodup_cons.1 hnd
        rw [hd] at hr
        obtain ⟨T, hk, hT0, hG⟩ := DM.get hr hnd'.2 hlt
        have hT : ∀ y, y ∉ dsts rest → T y = upd t d x y := hT0
        have hTl : ∀ y ∈ o.looksAt ops, t y = T y := fun y hy => by
          have := hlook y hy
          simp only [List.mem_cons, not_or] at this
          rw [hT y this.2, upd_def, if_neg this.1]
        have hTd : T d = x := by rw [hT d hnd'.1, upd_def, if_pos rfl]
        refine ⟨T, hk, fun y hy => ?_, fun q o' h' => ?_⟩
        · rw [hds] at hy
          simp only [List.mem_cons, not_or] at hy
          rw [hT y hy.2, upd_def, if_neg hy.1]
        · cases q with
          | zero =>
            simp only [List.getElem?_cons_zero, Option.some.injEq] at h'
            subst h'
            refine .inr ⟨j, x, h1, h6.congr hTl, fin hTl, fun d' h => ?_⟩
            rw [hd] at h
            cases h
            exact ⟨h8 d hd, hTd⟩
          | succ q =>
            have := hG q o' (by simpa using h')
            rw [show i + 1 + q = i + (q + 1) by omega] at this
            exact this
theorem cdraw_mD {l : List Oper} (es ws : List Nat) (tbl : MTbl) {last : List Blk} (hws : waitsL l [] = ws) (hok : okDrawC l.toArray = true) (hnd : es.Nodup) (hes : (es.all fun e => decide (e < l.length)) = true) (hfull : fullB ws es tbl = true) (h0 : look tbl (es.map fun _ => false) = some m) (hlast : look tbl (es.map fun _ => true) = some last)
    (h : DM P c l.toArray ws es tbl (fun T => Q .normal ⟨T, last⟩) 0 l t) : AWD P c Q l ⟨t, m⟩ := by
  subst hws
  have ok := drawOkC_of hok
  have hdn : (dsts l).Nodup := by
    have key : ∀ (k : List Oper) (n : Nat), (∀ i o, k[i]? = some o → l[n + i]? = some o) → (dsts k).Nodup := by
      intro k
      induction k with
      | nil => intro n _; exact List.nodup_nil
      | cons o r ih =>
        intro n hk
        have ih' := ih (n + 1) (fun i o' h' => by have := hk (i + 1) o' (by simpa using h'); rw [← this]; congr 1; omega)
        cases hd : o.dst with
        | none => simpa [dsts, hd] using ih'
        | some d =>
          have hds : dsts (o :: r) = d :: dsts r := by simp [dsts, hd]
          rw [hds]
          refine List.nodup_cons.2 ⟨fun hmem => ?_, ih'⟩
          unfold dsts at hmem
          rw [List.mem_filterMap] at hmem
          obtain ⟨p, hp, hpd⟩ := hmem
          obtain ⟨q, hq, hqp⟩ := List.getElem_of_mem hp
          have h1 := hk 0 o rfl
          have h2 := hk (q + 1) p (by simp [hq, hqp])
          exact ok.ne n o (n + (q + 1)) p (by simpa using h1) (by simpa using h2) (by omega) d hd hpd
    exact key l 0 (fun i o h => by simpa using h)
  obtain ⟨T, hQ, hTt, hG⟩ := DM.get h hdn (later ok)
  let B : Array Bool → List Blk := fun listed => (look tbl (bitsOf es listed)).getD []
  let HI : Array Bool → (Nat → Value) → Prop := fun listed _ => Closed l.toArray listed
  have hws : ∀ {listed : Array Bool}, Closed l.toArray listed → ∀ i, listed.getD i false = true → ∀ j, ((waitsL l []).getD i 0).testBit j = true → listed.getD j false = true := fun hc =>
    waitsL_ok hc l [] (fun i o h => by simpa using h) (fun i h => by simp at h)
  have huf : ∀ {listed : Array Bool} {i : Nat}, listed.size = l.toArray.size → i < l.length → listed.getD i true = false → listed.getD i false = false := by
    intro listed i hs hi h
    simp only [Array.getD_eq_getD_getElem?] at h ⊢
    rw [Array.getElem?_eq_getElem (by rw [hs]; simpa using hi)] at h ⊢
    exact h
  have hzip : ∀ {listed : Array Bool} {x : Nat × Bool}, x ∈ es.zip (bitsOf es listed) → x.2 = listed.getD x.1 false ∧ x.1 ∈ es := by
    intro listed x hx
    unfold bitsOf at hx
    rw [List.zip_map_right] at hx
    obtain ⟨y, hy, rfl⟩ := List.mem_map.1 hx
    obtain ⟨a, b⟩ := y
    have hab := zip_self_mem hy
    obtain ⟨rfl, hm⟩ := hab
    exact ⟨rfl, hm⟩
  have hclosed : ∀ {listed : Array Bool}, Closed l.toArray listed → closedB (waitsL l []) es (bitsOf es listed) = true := by
    intro listed hc
    unfold closedB
    rw [List.all_eq_true]
    intro x hx
    obtain ⟨h1, _⟩ := hzip hx
    cases hb : x.2 with
    | false => rfl
    | true =>
      simp only [Bool.not_true, Bool.false_or]
      rw [List.all_eq_true]
      intro y hy
      obtain ⟨h2, _⟩ := hzip hy
      cases hw : ((waitsL l []).getD x.1 0).testBit y.1 with
      | false => rfl
      | true =>
        rw [h1] at hb
        rw [h2, hws hc x.1 hb y.1 hw]
        rfl
  have hmem : ∀ {listed : Array Bool}, Closed l.toArray listed → (bitsOf es listed, B listed) ∈ tbl := by
    intro listed hc
    have hf := (List.all_eq_true.1 hfull) (bitsOf es listed) (mem_allBits (by simp [bitsOf]))
    rw [hclosed hc] at hf
    simp only [Bool.not_true, Bool.false_or, Option.isSome_iff_exists] at hf
    obtain ⟨M, hM⟩ := hf
    have : B listed = M := by show (look tbl (bitsOf es listed)).getD [] = M; rw [hM]; rfl
    rw [this]
    exact look_mem hM
  have hcons : ∀ {listed : Array Bool} {i : Nat} {o : Oper}, Closed l.toArray listed → l[i]? = some o → Met listed o → listed.getD i false = false → consB (waitsL l []) es i (bitsOf es listed) = true := by
    intro listed i o hc ho hmt hun
    unfold consB
    rw [List.all_eq_true]
    intro x hx
    obtain ⟨h1, _⟩ := hzip hx
    rw [Bool.and_eq_true, Bool.or_eq_true, Bool.or_eq_true]
    constructor
    · cases hw : ((waitsL l []).getD i 0).testBit x.1 with
      | false => exact .inl rfl
      | true =>
        right
        rw [h1]
        exact waits_met (ops := l.toArray) hc (i := i) (o := o) (by simpa using ho) hmt (j := x.1) hw
    · cases hb : x.2 with
      | false => exact .inr rfl
      | true =>
        left
        rw [h1] at hb
        simp only [Bool.not_eq_true', Bool.or_eq_false_iff]
        constructor
        · cases he : (x.1 == i) with
          | false => rfl
          | true =>
            have : x.1 = i := by simpa using he
            rw [this, hun] at hb; cases hb
        · cases hw : ((waitsL l []).getD x.1 0).testBit i with
          | false => rfl
          | true =>
            have := hws hc x.1 hb i hw
            rw [hun] at this; cases this
  have hbsame : ∀ {listed : Array Bool} {i : Nat}, es.contains i = false → bitsOf es (listed.setIfInBounds i true) = bitsOf es listed := by
    intro listed i hi
    unfold bitsOf
    refine List.map_congr_left fun e he => ?_
    have : i ≠ e := fun e' => by subst e'; have : es.contains i = true := by simpa using he
                                 rw [hi] at this; cases this
    simp only [Array.getD_eq_getD_getElem?, Array.getElem?_setIfInBounds_ne this]
  have hlk : ∀ {i : Nat} {o : Oper}, l.toArray[i]? = some o → l[i]? = some o ∧ i < l.length := fun {i o} h => by
    have h' : l[i]? = some o := by simpa using h
    exact ⟨h', (List.getElem?_eq_some_iff.1 h').1⟩
  refine draw_open (T := T) (B := B) (HI := HI) ok (fun i o ho => ?_) hTt (fun a w S H r => ⟨H, ?_, ?_⟩) (fun listed hs hl => ?_)
  · obtain ⟨ho', hil⟩ := hlk ho
    rcases hG i o ho' with ⟨hne, d, hd, hdn, hg⟩ | ⟨j, x, h1, h5, h6, h7⟩
    · rw [Nat.zero_add] at hne hg
      refine .inl fun listed H hs hun hmt hc => ?_
      have hBs : B (listed.setIfInBounds i true) = B listed := by
        show (look tbl (bitsOf es (listed.setIfInBounds i true))).getD [] = _
        rw [hbsame hne]
      have hm := hmem hc
      have hcs := hcons hc ho' hmt (huf hs hil hun)
      rcases hg with ⟨md, hg, hmd⟩ | hg
      · exact ⟨md, ⟨d, hd, hdn, hg⟩, hmd _ hm hcs, hBs, hc.set ho hmt⟩
      · exact ⟨B listed, ⟨d, hd, hdn, hg _ hm hcs⟩, Lift.refl _, hBs, hc.set ho hmt⟩
    · rw [Nat.zero_add] at h1 h6
      refine .inr ⟨h5, fun listed hs hun hmt a w S H r hc K Qn hK => ?_⟩
      have hm := hmem hc
      have hcs := hcons hc ho' hmt (huf hs hil hun)
      obtain ⟨M', hM', h6⟩ := h6 _ hm hcs
      have hbits : bitsOf es (listed.setIfInBounds i true) = (bitsOf es listed).set j true := by
        refine List.ext_getElem? fun q => ?_
        unfold bitsOf
        rw [List.getElem?_map, List.getElem?_set, List.length_map, List.getElem?_map]
        have hjl := (List.getElem?_eq_some_iff.1 h1).1
        by_cases e : j = q
        · subst e
          rw [if_pos rfl, if_pos hjl, h1]
          simp only [Option.map_some, Option.some.injEq, Array.getD_eq_getD_getElem?]
          rw [Array.getElem?_setIfInBounds_self_of_lt (by rw [hs]; simpa using hil)]
          rfl
        · rw [if_neg e]
          cases hq : es[q]? with
          | none => rfl
          | some e' =>
            have hne : i ≠ e' := fun e'' => by
              subst e''
              have hql := (List.getElem?_eq_some_iff.1 hq).1
              have h8 := (List.getElem?_eq_some_iff.1 hq).2
              have h9 := (List.getElem?_eq_some_iff.1 h1).2
              exact e ((List.getElem_inj hnd).1 (h9.trans h8.symm))
            simp only [Option.map_some, Option.some.injEq, Array.getD_eq_getD_getElem?]
            rw [Array.getElem?_setIfInBounds_ne hne]
      have hB2 : B (listed.setIfInBounds i true) = M' := by
        show (look tbl (bitsOf es (listed.setIfInBounds i true))).getD [] = M'
        rw [hbits, hM']
        rfl
      have hlook := TL_look (T := T) ok hs ho hmt
      have hmix : mix T (o.looksAt l.toArray) (TL l.toArray T listed) = TL l.toArray T listed := by
        funext y
        unfold mix
        cases hc' : (o.looksAt l.toArray).contains y with
        | false => rfl
        | true => exact (hlook y (by simpa using hc')).symm
      have heff := h6 (TL l.toArray T listed)
      rw [hmix] at heff
      have hw := heff a w S H r
      unfold wpList at hw
      rw [if_pos (by rfl)] at hw
      rcases hw with hw | ⟨_, a', w', st', S', H', _, he, _⟩
      · refine oper_mono (P := P) (o := o) ?_ ?_ (show o.wp P a w _ _ from hw)
        · rintro a' w' ⟨st', S', H', r', _, rfl⟩
          refine hK a' w' S' H' ?_ (hc.set ho hmt)
          rw [hB2]
          cases hd : o.dst with
          | none =>
            rw [hd] at r'
            rw [← TL_set_none ho hd]
            exact r'
          | some d =>
            rw [hd] at r'
            rw [← TL_set (T := T) ok hs ho hun hd, (h7 d hd).2]
            exact r'
        · rintro e a' w' hne ⟨st', S', H', r', he, _⟩
          exact absurd he hne
      · cases he
  · have : B (Array.replicate l.toArray.size false) = m := by
      have e1 : bitsOf es (Array.replicate l.toArray.size false) = es.map fun _ => false := by
        unfold bitsOf
        refine List.map_congr_left fun e _ => ?_
        simp only [Array.getD_eq_getD_getElem?, Array.getElem?_replicate]
        split <;> rfl
      show (look tbl (bitsOf es (Array.replicate l.toArray.size false))).getD [] = m
      rw [e1, h0]
      rfl
    rw [this]
    exact r
  · intro i o _ hl
    simp only [Array.getD_eq_getD_getElem?, Array.getElem?_replicate] at hl
    split at hl <;> simp at hl
  · have hin : ∀ e ∈ es, e < l.length := fun e he => by simpa using List.all_eq_true.1 hes e he
    have e1 : bitsOf es listed = es.map fun _ => true := by
      unfold bitsOf
      refine List.map_congr_left fun e he => ?_
      have h1 := hl e (by simpa using hin e he)
      have h2 : e < listed.size := by rw [hs]; simpa using hin e he
      simp only [Array.getD_eq_getD_getElem?, Array.getElem?_eq_getElem h2, Option.getD_some] at h1 ⊢
      exact h1
    have : B listed = last := by
      show (look tbl (bitsOf es listed)).getD [] = last
      rw [e1, hlast]
      rfl
    rw [this]
    exact hQ
theorem cdraw_m {id : Nat} {l : List Oper} (es ws : List Nat) (tbl : MTbl) {last : List Blk} (hws : waitsL l [] = ws) (hm : P.follows .mixedOrders = true) (hok : okDrawC l.toArray = true) (hnd : es.Nodup) (hes : (es.all fun e => decide (e < l.length)) = true) (hfull : fullB ws es tbl = true) (h0 : look tbl (es.map fun _ => false) = some m) (hlast : look tbl (es.map fun _ => true) = some last)
    (h : DM P c l.toArray ws es tbl (fun T => Q .normal ⟨T, last⟩) 0 l t) : AWC P c (.region id l.toArray true) Q ⟨t, m⟩ := (cdraw_mD es ws tbl hws hok hnd hes hfull h0 hlast h).awc hm
variable {ops : Array Oper} {ws es : List Nat} {tbl : MTbl} {k : (Nat → AV) → Prop} {rest : List Oper} {op : Op} {ty : TypeId} {pos : String} {af : Array Edge} {d : Tmp} {x : AV} {i : Nat}
theorem mnil2 (h : k t) : DM P c ops ws es tbl k i [] t := h
theorem mee (j : Nat) (he : es[j]? = some i) (hd : decide (d < c.nt) = true)
    (h : AllE (consB ws es i) (fun b M => ∃ M', look tbl (b.set j true) = some M' ∧ ∀ ζ, AWL P c ops (fun e st => e = .normal ∧ st = ⟨upd (mix t (Oper.looksAt ops ⟨some d, op, ty, pos, af, none⟩) ζ) d x, M'⟩) [⟨some d, op, ty, pos, af, none⟩] ⟨mix t (Oper.looksAt ops ⟨some d, op, ty, pos, af, none⟩) ζ, M⟩) tbl)
    (kk : DM P c ops ws es tbl k (i + 1) rest (upd t d x)) : DM P c ops ws es tbl k i (⟨some d, op, ty, pos, af, none⟩ :: rest) t :=
  .inr ⟨j, x, he, .inl rfl, h, fun d' h' => by cases h'; exact of_decide_eq_true hd, kk⟩
theorem mee0 (j : Nat) (he : es[j]? = some i)
    (h : AllE (consB ws es i) (fun b M => ∃ M', look tbl (b.set j true) = some M' ∧ ∀ ζ, AWL P c ops (fun e st => e = .normal ∧ st = ⟨mix t (Oper.looksAt ops ⟨none, op, ty, pos, af, none⟩) ζ, M'⟩) [⟨none, op, ty, pos, af, none⟩] ⟨mix t (Oper.looksAt ops ⟨none, op, ty, pos, af, none⟩) ζ, M⟩) tbl)
    (kk : DM P c ops ws es tbl k (i + 1) rest t) : DM P c ops ws es tbl k i (⟨none, op, ty, pos, af, none⟩ :: rest) t :=
  .inr ⟨j, .top, he, .inl rfl, h, (fun d' h' => by cases h'), kk⟩
end
end Go.Proofs.YtlnpkincpgbmcaaDoor.Abs

/-
  An iterator's round that lays a block of its own, and forgets it ahead of yield.
-/
namespace Go.Proofs.YtlnpkincpgbmcaaDoor.Abs
open Go.RowKit
def AWYc (P : Program) (nt : Nat) (w0 : World) (S0 : Stab) (x : Code) (Q : Exit → (Nat → AV) → YK → Prop) (K : YK) (st : AS) : Prop :=
  NoOutY Q → ∀ a w S H, Rel (Ctx.of w0 S0 nt) st a w S H → K w0 S0 → x.wpIn Fence.wide 0 P (QY nt Q) a w
def Forget (st : AS) (sl : List (Nat × AV)) : Prop := MatchL st.t sl ∧ InbL 0 sl
theorem Rel.forget {c : Ctx} {st : AS} {a : Act} {w : World} {S : Stab} {H : Nat → Value} (r : Rel c st a w S H) (hc : c.m0 = []) {sl : List (Nat × AV)} (h : Forget st sl) : Rel c ⟨updL (fun _ => .top) sl, []⟩ a w S H := by
  have r' : Rel c ⟨st.t, [] ++ st.m⟩ a w S H := r
  exact r'.trim (updL_match h.1 h.2) (fun b hb => by cases hb) (by rw [hc]; exact Nat.zero_le _)
section
variable {P : Program} {nt : Nat} {Q : Exit → (Nat → AV) → YK → Prop} {K : YK} {t : Nat → AV}
theorem ycl_of {w0 : World} {S0 : Stab} {st : AS} {ops : Array Oper} {l1 l2 : List Oper} (hK : YExt K) (hnd : l1.all ndf = true)
    (h : AWL P (Ctx.of w0 S0 nt) ops (fun e st => e = .normal ∧ ∃ sl, Forget st sl ∧ AWLY P nt ops Q K l2 (updL (fun _ => .top) sl)) l1 st) (hn : NoOutY Q) (a : Act) (w : World) (S : Stab) (H : Nat → Value) (r : Rel (Ctx.of w0 S0 nt) st a w S H) (hk : K w0 S0) : wpListIn Fence.wide 0 P ops (QY nt Q) (l1 ++ l2) a w := by
  refine wpListIn_append l1 a w ?_
  have h1 := wpList_in (rd := none) (ds := []) (Q1 := QR (Ctx.of w0 S0 nt) (fun e st => e = .normal ∧ ∃ sl, Forget st sl ∧ AWLY P nt ops Q K l2 (updL (fun _ => .top) sl))) (Q2 := Exit.then (wpListIn Fence.wide 0 P ops (QY nt Q) l2) (QY nt Q)) ?_ ?_ ?_ l1 hnd a w (h a w S H r)
  · rw [dsl_same r.df] at h1
    exact h1
  · rintro ⟨a, w, st, S, H, _, h, _⟩; cases h
  · rintro e a w ⟨st, S, H, r, _⟩; exact r.df
  · rintro e a' w' ⟨st', S', H', r', rfl, sl, hf, h⟩
    rw [dsl_same r'.df]
    exact h hn a' w' S' H' ((r'.forget rfl hf).here rfl) (hK _ _ _ _ hk (r'.ex.toExt (fun _ h => h)) r'.sl)
theorem yc_region {w0 : World} {S0 : Stab} {st : AS} {id : Nat} {l1 l2 : List Oper} (hK : YExt K) (hnd : l1.all ndf = true)
    (h : AWL P (Ctx.of w0 S0 nt) (l1 ++ l2).toArray (fun e st => e = .normal ∧ ∃ sl, Forget st sl ∧ AWLY P nt (l1 ++ l2).toArray Q K l2 (updL (fun _ => .top) sl)) l1 st) : AWYc P nt w0 S0 (.region id (l1 ++ l2).toArray false) Q K st :=
  fun hn a w S H r hk => wpIn_region_lit (ycl_of hK hnd h hn a w S H r hk)
theorem yc_seq {w0 : World} {S0 : Stab} {st : AS} {x y : Code} (h : AWYc P nt w0 S0 x (thenY (fun t K => AWY P nt y Q K t) Q) K st) : AWYc P nt w0 S0 (.seq x y) Q K st := by
  intro hn a w S H r hK
  refine wpIn_seq (wpIn_mono (h (fun t K hs => hn t K hs) a w S H r hK) ?_)
  rintro e a w ⟨t, S, H, K, r, hK, hq⟩
  cases e with
  | normal => exact hq hn a w S H r hK
  | _ => exact ⟨t, S, H, K, r, hK, hq⟩
theorem yc_first {id : Nat} {l : List Oper} {y : Code} (hnd : l.all ndf = true) (h : ∀ w0 S0, AWL P (Ctx.of w0 S0 nt) l.toArray (fun e st => e = .normal ∧ AWYc P nt w0 S0 y Q K st) l ⟨t, []⟩) : AWY P nt (.seq (.region id l.toArray false) y) Q K t := by
  intro hn a w S H r hk
  refine wpIn_seq (wpIn_region_lit ?_)
  have h1 := wpList_in (rd := none) (ds := []) (Q1 := QR (Ctx.of w S nt) (fun e st => e = .normal ∧ AWYc P nt w S y Q K st)) (Q2 := Exit.then (y.wpIn Fence.wide 0 P (QY nt Q)) (QY nt Q)) ?_ ?_ ?_ l hnd a w (h w S a w S H r)
  · rw [dsl_same r.df] at h1
    exact h1
  · rintro ⟨a, w, st, S, H, _, h, _⟩; cases h
  · rintro e a w ⟨st, S, H, r, _⟩; exact r.df
  · rintro e a' w' ⟨st', S', H', r', rfl, h⟩
    rw [dsl_same r'.df]
    exact h hn a' w' S' H' r' hk
theorem wanted_on {ops : Array Oper} {o : Oper} {j : Nat} {want : Bool} {dj : Tmp} (hj : (ops[j]?).bind (·.dst) = some dj) (ht : t dj = .s (.one (.b want))) (hg : o.guard = some (j, want)) (hn : decide (dj < nt) = true) (a : Act) (w : World) (S : Stab) (H : Nat → Value) (r : Rel (Ctx.of w S nt) ⟨t, []⟩ a w S H) : Region.wanted o (yielded ops a.tmps) = true := by
  have hr := r.tm dj
  have hr1 : AVR (GRep w S [] H) (t dj) (a.tmps.getD dj undef) := hr
  rw [ht] at hr1
  have hv : a.tmps.getD dj undef = .bool want := by
    have hr' : Rep w S (.b want) (a.tmps.getD dj undef) := hr1
    generalize a.tmps.getD dj undef = u at hr'
    cases hr'
    rfl
  have hs : a.tmps[dj]? = some (.bool want) := by
    have hd' : dj < a.tmps.size := by rw [r.nt]; exact of_decide_eq_true hn
    simp only [Array.getD_eq_getD_getElem?, Array.getElem?_eq_getElem hd', Option.getD_some] at hv
    rw [Array.getElem?_eq_getElem hd', hv]
  simp only [Region.wanted, hg, yielded, hj, Option.bind_some, hs, beq_self_eq_true]
end
theorem newArr_canon {P : Program} {c : Ctx} {st : AS} {op : Op} {ty : TypeId} {e sz n : Nat} {cs : List Lf} (h : NewArr P c st op ty e sz n cs) : NewArr P c st op ty e sz n (cs.map Lf.canon) := by
  intro a w S H r
  obtain ⟨v, w', vals, hrun, hext, hin, hown, hls⟩ := h a w S H r
  exact ⟨v, w', vals, hrun, hext, hin, hown, lsR_canon hls⟩
theorem opD_bldc {P : Program} {c : Ctx} {st : AS} {ty : TypeId} {t e sz bytes len : Nat} {zl out out' : List Lf} {parts : Array (Nat × Operand)} {xs : List (Nat × SV)} (si : P.underlying t = some (.slice e)) (ei : EI P e sz bytes zl) (hp : Parts st parts.toList xs)
    (hb : Built (fun i : Nat => some (i * sz, sz)) (mkLs zl (len * sz)) xs out) (hout : out.all Lf.pubd = true) (hlen : len * sz ≤ 16777216) (he : out.map Lf.canon = out') : OpD P c st (.buildSlice t len parts) ty (.s (.one (.sl len out'))) :=
  he ▸ opD_newArr ei.p (newArr_canon (newArr_build si ei hp hb (List.all_eq_true.1 hout) hlen))
theorem idraw {rd : Option Nat} {P : Program} {c : Ctx} {ok : FrK → Prop} {Q : Exit → AS → Prop} {t : Nat → AV} {m : List Blk} {id : Nat} {l : List Oper} (hm : P.follows .mixedOrders = true) (hnd : l.all ndf = true)
    (h : ∀ w0 S0 X m0 H0, AWD P ⟨w0, S0, c.nt, X, m0, H0⟩ Q l ⟨t, m⟩) : AWI rd P c ok (.region id l.toArray true) Q ⟨t, m⟩ :=
  idraw_any hm hnd (fun w0 S0 X m0 H0 => h w0 S0 X m0 H0)
section
variable {P : Program} {c : Ctx} {ops : Array Oper} {ws es : List Nat} {tbl : MTbl} {k : (Nat → AV) → Prop} {t : Nat → AV} {rest : List Oper} {op : Op} {ty : TypeId} {pos : String} {af : Array Edge} {d : Tmp} {x : AV} {i : Nat}
theorem mevA (hi : es.contains i = false) (hd : decide (d < c.nt) = true) (h : AllE (consB ws es i) (fun _ M => OpV P c ⟨restr t (Oper.looksAt ops ⟨some d, op, ty, pos, af, none⟩), M⟩ op ty x) tbl) (kk : DM P c ops ws es tbl k (i + 1) rest (upd t d x)) : DM P c ops ws es tbl k i (⟨some d, op, ty, pos, af, none⟩ :: rest) t :=
  .inl ⟨hi, x, d, rfl, of_decide_eq_true hd, .inr fun e he hp => .inl ⟨.inl rfl, (h e he hp).opD⟩, kk⟩
end
theorem cjoinb {P : Program} {c : Ctx} {id : Nat} {x y : Code} {Q Q' : Exit → AS → Prop} {st : AS} (G : Type) (sl : G → List (Nat × AV)) (mm : G → List Blk) (pre : G → Prop) (hin : ∀ g, pre g → InbL (mm g).length (sl g)) (hmin : ∀ g, pre g → ∀ b ∈ mm g, b.inb (mm g).length) (hk : ∀ g, pre g → c.m0.length ≤ (mm g).length)
    (hy : ∀ g, pre g → AWC P c y Q ⟨updL (fun _ => .top) (sl g), mm g⟩) (hx : AWC P c x (inBlockA id (thenA (Meet sl mm pre) Q')) st) : AWC P c x (inBlockA id (thenA (AWC P c y Q) Q')) st := by
  refine hx.mono fun e st h => ?_
  cases e with
  | normal => exact meet_go h hin hmin hk hy
  | exit id' =>
    simp only [inBlockA] at h ⊢
    split
    · rename_i he
      rw [if_pos he] at h
      exact meet_go h hin hmin hk hy
    · rename_i he
      rw [if_neg he] at h
      exact h
  | _ => exact h
end Go.Proofs.YtlnpkincpgbmcaaDoor.Abs

/-
  What arguments of each kind are.
-/
namespace Go.Proofs.YtlnpkincpgbmcaaDoor.Abs
open Go.RowKit
theorem ft_i64 {ls : List Lf} (h : Fits (.int .i64) ls) : ∃ n : Int, (-9223372036854775808 ≤ n ∧ n ≤ 9223372036854775807) ∧ ls = eI n := by
  obtain ⟨n, hw, rfl⟩ := h
  exact ⟨n, lit_i64 hw, rfl⟩
theorem lit_un {k : IntKind} {n : Int} (h : (Lit.int k n).wf = true) : k.min ≤ n ∧ n ≤ k.max := by
  simp only [Lit.wf, Bool.and_eq_true, decide_eq_true_eq] at h
  exact h
theorem ft_u8 {ls : List Lf} (h : Fits (.int .u8) ls) : ∃ a : UInt8, True ∧ ls = eU8 a := by
  obtain ⟨n, hw, rfl⟩ := h
  obtain ⟨h1, h2⟩ := lit_un hw
  simp [IntKind.min, IntKind.max, IntKind.bits, IntKind.signed] at h1 h2
  refine ⟨UInt8.ofNat n.toNat, trivial, ?_⟩
  show _ = [Lf.i .u8 _]
  rw [show ((UInt8.ofNat n.toNat).toNat : Int) = n by rw [UInt8.toNat_ofNat']; omega]
theorem ft_b8 {ls : List Lf} (h : Fits (.int .u8) ls) : ∃ a : BitVec 8, True ∧ ls = [.i .u8 (a.toNat : Int)] := by
  obtain ⟨a, _, rfl⟩ := ft_u8 h
  exact ⟨a.toBitVec, trivial, rfl⟩
theorem ft_u16 {ls : List Lf} (h : Fits (.int .u16) ls) : ∃ a : BitVec 16, True ∧ ls = eU16 a := by
  obtain ⟨n, hw, rfl⟩ := h
  obtain ⟨h1, h2⟩ := lit_un hw
  simp [IntKind.min, IntKind.max, IntKind.bits, IntKind.signed] at h1 h2
  refine ⟨BitVec.ofNat 16 n.toNat, trivial, ?_⟩
  show _ = [Lf.i .u16 _]
  rw [show ((BitVec.ofNat 16 n.toNat).toNat : Int) = n by rw [BitVec.toNat_ofNat]; omega]
theorem ft_u32 {ls : List Lf} (h : Fits (.int .u32) ls) : ∃ a : BitVec 32, True ∧ ls = eU32 a := by
  obtain ⟨n, hw, rfl⟩ := h
  obtain ⟨h1, h2⟩ := lit_un hw
  simp [IntKind.min, IntKind.max, IntKind.bits, IntKind.signed] at h1 h2
  refine ⟨BitVec.ofNat 32 n.toNat, trivial, ?_⟩
  show _ = [Lf.i .u32 _]
  rw [show ((BitVec.ofNat 32 n.toNat).toNat : Int) = n by rw [BitVec.toNat_ofNat]; omega]
theorem ft_u64 {ls : List Lf} (h : Fits (.int .u64) ls) : ∃ a : BitVec 64, True ∧ ls = eU64 a := by
  obtain ⟨n, hw, rfl⟩ := h
  obtain ⟨h1, h2⟩ := lit_un hw
  simp [IntKind.min, IntKind.max, IntKind.bits, IntKind.signed] at h1 h2
  refine ⟨BitVec.ofNat 64 n.toNat, trivial, ?_⟩
  show _ = [Lf.i .u64 _]
  rw [show ((BitVec.ofNat 64 n.toNat).toNat : Int) = n by rw [BitVec.toNat_ofNat]; omega]
theorem ft_bool {ls : List Lf} (h : Fits .bool ls) : ∃ b : Bool, True ∧ ls = eB b := by
  obtain ⟨b, rfl⟩ := h
  exact ⟨b, trivial, rfl⟩
theorem ft_str {ls : List Lf} (h : Fits .str ls) : ∃ s : List UInt8, s.length ≤ maxLen ∧ ls = eS s := by
  obtain ⟨s, hs, rfl⟩ := h
  exact ⟨s.data.toList, by simpa using hs, by simp [eS]⟩
theorem ft_sl {α : Type} {e : Sh} {f : α → List Lf} {Q : α → Prop} (he : ∀ {r}, Fits e r → ∃ x, Q x ∧ r = f x) {ls : List Lf} (h : Fits (.sl e) ls) : ∃ xs : List α, (xs.length ≤ maxLen ∧ ∀ x ∈ xs, Q x) ∧ ls = eL f xs := by
  obtain ⟨rows, hl, hr, rfl⟩ := h
  have : ∃ xs : List α, (∀ x ∈ xs, Q x) ∧ rows = xs.map f := by
    clear hl
    induction rows with
    | nil => exact ⟨[], fun _ h => by simp at h, rfl⟩
    | cons r rs ih =>
      obtain ⟨x, hq, hx⟩ := he (hr r (List.mem_cons_self ..))
      obtain ⟨xs, hqs, hxs⟩ := ih (fun r h => hr r (List.mem_cons_of_mem _ h))
      exact ⟨x :: xs, fun y hy => by rcases List.mem_cons.1 hy with rfl | hy; exact hq; exact hqs y hy, by rw [hx, hxs]; rfl⟩
  obtain ⟨xs, hq, rfl⟩ := this
  exact ⟨xs, ⟨by simpa using hl, hq⟩, by rw [eL, List.flatMap, List.length_map]⟩
end Go.Proofs.YtlnpkincpgbmcaaDoor.Abs

/-
  How rounds are reckoned with.
-/
namespace Go.Proofs.YtlnpkincpgbmcaaDoor.Abs
theorem wI_id {n : Int} (h1 : -9223372036854775808 ≤ n) (h2 : n ≤ 9223372036854775807) : wI n = n := by
  unfold wI IntKind.wrap
  simp [IntKind.bits, IntKind.signed]
  omega
theorem lt_fuel {n : Nat} (h : n ≤ 1000000000000000000) : n < fuel := by unfold fuel; omega
theorem idx_nat {α : Type} (xs : List α) (i : Nat) : idx xs (i : Int) = xs[i]? := by
  unfold idx
  rw [if_pos (Int.natCast_nonneg i), Int.toNat_natCast]
theorem idx_get {α : Type} {xs : List α} {j : Int} (h0 : 0 ≤ j) (h1 : j < xs.length) : ∃ x, idx xs j = some x ∧ xs[j.toNat]? = some x := by
  have h : j.toNat < xs.length := by omega
  exact ⟨xs[j.toNat], by unfold idx; rw [if_pos h0, List.getElem?_eq_getElem h], List.getElem?_eq_getElem h⟩
theorem cut_of {α : Type} {xs : List α} {lo hi : Int} (h0 : 0 ≤ lo) (h1 : lo ≤ hi) (h2 : hi ≤ xs.length) : cut xs lo hi = some ((xs.drop lo.toNat).take (hi.toNat - lo.toNat)) := by
  unfold cut
  rw [if_pos ⟨h0, h1, h2⟩]
theorem iterB_inv {σ β : Type} {f : σ → Option (LB σ β)} {P : σ → Prop} {μ : σ → Nat} {R : β → Prop}
    (h : ∀ s, P s → (∃ s', f s = some (.cont s') ∧ P s' ∧ μ s' < μ s) ∨ ∃ b, f s = some (.brk b) ∧ R b) : ∀ (n : Nat) (s : σ), P s → μ s < n → ∃ b, iterB f n s = some b ∧ R b
  | 0, s, _, hm => by omega
  | n + 1, s, hp, hm => by
    rcases h s hp with ⟨s', hf, hp', hlt⟩ | ⟨b, hf, hr⟩
    · obtain ⟨b, hb, hr⟩ := iterB_inv h n s' hp' (by omega)
      exact ⟨b, by rw [iterB, hf]; exact hb, hr⟩
    · exact ⟨b, by rw [iterB, hf], hr⟩
theorem iter_inv {σ β ρ : Type} {f : σ → Option (LR σ β ρ)} {P : σ → Prop} {μ : σ → Nat} {R : Sum ρ β → Prop}
    (h : ∀ s, P s → (∃ s', f s = some (.cont s') ∧ P s' ∧ μ s' < μ s) ∨ (∃ b, f s = some (.brk b) ∧ R (.inr b)) ∨ ∃ r, f s = some (.ret r) ∧ R (.inl r)) : ∀ (n : Nat) (s : σ), P s → μ s < n → ∃ b, iter f n s = some b ∧ R b
  | 0, s, _, hm => by omega
  | n + 1, s, hp, hm => by
    rcases h s hp with ⟨s', hf, hp', hlt⟩ | ⟨b, hf, hr⟩ | ⟨b, hf, hr⟩
    · obtain ⟨b, hb, hr⟩ := iter_inv h n s' hp' (by omega)
      exact ⟨b, by rw [iter, hf]; exact hb, hr⟩
    · exact ⟨.inr b, by rw [iter, hf], hr⟩
    · exact ⟨.inl b, by rw [iter, hf], hr⟩
theorem iterB_fold {α σ β τ : Type} {f : τ → Option (LB τ β)} (st : σ → Nat → τ) (xs : List α) (g : σ → α → σ) (out : σ → β) (hl : xs.length < 1000000000000000000000000)
    (h1 : ∀ acc i x, xs[i]? = some x → f (st acc i) = some (.cont (st (g acc x) (i + 1)))) (h2 : ∀ acc, f (st acc xs.length) = some (.brk (out acc))) (a0 : σ) : iterB f fuel (st a0 0) = some (out (xs.foldl g a0)) := by
  have key : ∀ (k i : Nat) (acc : σ) (n : Nat), k + i = xs.length → k < n → iterB f n (st acc i) = some (out ((xs.drop i).foldl g acc)) := by
    intro k
    induction k with
    | zero =>
      intro i acc n hi hn
      obtain ⟨m, rfl⟩ : ∃ m, n = m + 1 := ⟨n - 1, by omega⟩
      have : i = xs.length := by omega
      subst this
      rw [iterB, h2, List.drop_length]
      rfl
    | succ k ih =>
      intro i acc n hi hn
      obtain ⟨m, rfl⟩ : ∃ m, n = m + 1 := ⟨n - 1, by omega⟩
      have hlt : i < xs.length := by omega
      rw [iterB, h1 acc i xs[i] (List.getElem?_eq_getElem hlt), List.drop_eq_getElem_cons hlt, List.foldl_cons]
      exact ih (i + 1) _ m (by omega) (by omega)
  have := key xs.length 0 a0 fuel (by omega) hl
  rwa [List.drop_zero] at this
end Go.Proofs.YtlnpkincpgbmcaaDoor.Abs

