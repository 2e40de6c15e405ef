/-
  A walk over abstract states: its rules, part C.
-/
import Derived.Test.YtoojcpiigkmhiaaAbsB
/-
  The builtin copy into an own row; an own row that takes another one's place.
-/
namespace Go.Proofs.Ytoojcpiigkmhiaa.Abs
open Go.RowKit

theorem run_copy_any {P : Program} (w : World) (dT sT ty elem : TypeId) (g n m q dCap sCap sz : Nat) (ad : Option Addr) (cur : Array Value) (t : TypeId) (cs : List Value)
    (hu : P.underlying dT = some (.slice elem)) (hs : (P.info? elem).map (·.size) = some sz)
    (hg : w.heap[g]? = some (.cells cur t (0, 0))) (hq : Nat.min m n = q)
    (hsrc : (Builtin.firstCells sz q (.slice ad m sCap)).run P w = .ok cs.toArray w) (hfit : cs.length ≤ cur.size) (h1 : ∀ v ∈ cs, v.oneCell' = true) :
    (Builtin.copy_ #[dT, sT] ty #[.slice (some ⟨g, 0, none⟩) n dCap, .slice ad m sCap]).run P w =
      .ok (goInt (q : Nat)) (w.setRow g (cs ++ cur.toList.drop cs.length).toArray) := by
  have hst := run_storeCells_at P g 0 t cs 0 cur w hg (by simpa using hfit) h1
  simp only [Nat.zero_add, List.take_zero, List.nil_append] at hst
  cases hi0 : P.info? elem with
  | none => simp [hi0] at hs
  | some i =>
    have hi : i.size = sz := by simpa [hi0] using hs
    simp [Builtin.copy_, run_underlying hu, Builtin.lenOf, sizeOf, typeInfo, hi0, hi, hq, hsrc, hst]

theorem Rel.copy {P : Program} {c : Ctx} {st : AS} {a : Act} {w : World} {S : Stab} {H : Nat → Value} (r : Rel c st a w S H) {t t2 ty e sz p n m : Nat} {cs ys : List Lf} {y : Value}
    (ht : P.underlying t = some (.slice e)) (hi : (P.info? e).map (·.size) = some sz) (hm : st.m[p]? = some (.arr e sz 0 cs)) (hn : n * sz = cs.length) (hy : Rep w S (.sl m ys) y) (hyl : ys.length = m * sz) :
    ∃ w', (Builtin.copy_ #[t, t2] ty #[H p, y]).run P w = .ok (goInt (Nat.min m n : Nat)) w' ∧ Rel c ⟨st.t, st.m.set p (.arr e sz 0 (ys.take (Nat.min m n * sz) ++ cs.drop (Nat.min m n * sz)))⟩ a w' S H := by
  have hp : p < st.m.length := (List.getElem?_eq_some_iff.1 hm).1
  obtain ⟨hsz, hk, n0, vals, hown, hcs, hstb⟩ := r.bl p _ hm
  have hnn : n0 = n := ownsRow_n hown hsz (by rw [← hcs.1]; exact hn)
  subst hnn
  have hset : setH H p (H p) = H := by
    funext q
    by_cases e' : q = p
    · rw [e', setH_same]
    · exact setH_other H _ e'
  have hqm : Nat.min m n0 ≤ m := Nat.min_le_left _ _
  have hqn : Nat.min m n0 ≤ n0 := Nat.min_le_right _ _
  generalize hq : Nat.min m n0 = q at *
  have hqm' : q * sz ≤ m * sz := Nat.mul_le_mul_right _ hqm
  have hqn' : q * sz ≤ n0 * sz := Nat.mul_le_mul_right _ hqn
  -- the source's first cells
  have hsrc : ∃ ad cap news, y = .slice ad m cap ∧ news.length = q * sz ∧ (Builtin.firstCells sz q (.slice ad m cap)).run P w = .ok news.toArray w ∧ LsR (Rep w S) (ys.take (q * sz)) news := by
    cases hy with
    | sl0 ad cap =>
      have h0 : q = 0 := by omega
      subst h0
      refine ⟨ad, cap, [], rfl, by simp, ?_, by simp, fun j l v h => by simp at h⟩
      cases ad <;> simp [Builtin.firstCells, loadCells, loadCellsFrom]
    | sl m ys bk off cap vs hc hmx hs hr =>
      refine ⟨_, cap, (List.range (q * sz)).map vs, rfl, by simp, ?_, by rw [List.length_take, List.length_map, List.length_range, hyl]; exact Nat.min_eq_left hqm', fun j l u h1 h2 => ?_⟩
      · refine run_firstCells_some w sz q ⟨bk, off, none⟩ m cap _ (by simp) (fun j v hj => ?_)
        rw [List.getElem?_map] at hj
        have hjl : j < q * sz := by
          rcases Nat.lt_or_ge j (q * sz) with h | h
          · exact h
          · rw [List.getElem?_eq_none (by simpa using h)] at hj; cases hj
        rw [List.getElem?_range hjl] at hj
        cases hj
        rw [Addr.add_lit]
        exact (hs j _ (List.getElem?_eq_getElem (by omega))).2
      · rw [List.getElem?_take] at h1
        split at h1
        · rename_i hjl
          rw [List.getElem?_map, List.getElem?_range hjl] at h2
          cases h2
          exact hr j l h1
        · cases h1
  obtain ⟨ad, cap, news, rfl, hnl, hfc, hls⟩ := hsrc
  have hone : ∀ u ∈ news, u.oneCell' = true := by
    intro u hu
    obtain ⟨j, hj, hju⟩ := List.getElem_of_mem hu
    have hj' : j < (ys.take (q * sz)).length := by rw [hls.1]; exact hj
    exact Rep.oneCell (hls.2 j _ u (List.getElem?_eq_getElem hj') (by rw [List.getElem?_eq_getElem hj, hju]))
  rcases hown.2 with ⟨hv, h0⟩ | ⟨g, cp, cur, hv, hbg, hg, hnc, hcm, hcsz, htake⟩
  · subst h0
    have hq0 : q = 0 := by omega
    subst hq0
    have hn0 : news = [] := List.eq_nil_of_length_eq_zero (by rw [hnl, Nat.zero_mul])
    subst hn0
    have hsame : st.m.set p (.arr e sz 0 (ys.take (0 * sz) ++ cs.drop (0 * sz))) = st.m := by
      rw [Nat.zero_mul, List.take_zero, List.drop_zero, List.nil_append]
      apply List.ext_getElem?
      intro j
      by_cases e' : p = j
      · subst e'; rw [List.getElem?_set_self hp, hm]
      · rw [List.getElem?_set_ne e']
    refine ⟨w, ?_, by rw [hsame]; exact r⟩
    rw [hv]
    cases hq' : P.info? e with
    | none => simp [hq'] at hi
    | some i =>
      have hi' : i.size = sz := by simpa [hq'] using hi
      simp [Builtin.copy_, run_underlying ht, Builtin.lenOf, sizeOf, typeInfo, hq', hi', hfc, hq]
  · have hrun := run_copy_any (P := P) w t t2 ty e g n0 m q cp cap sz ad cur e news ht hi hg hq hfc (by
      have := hown.1
      have h3 := congrArg List.length htake
      rw [List.length_take, Array.length_toList] at h3
      omega) hone
    have hrow := setRow_heap w g cur (news ++ cur.toList.drop news.length).toArray e _ hg
    have hoth : ∀ b, b ≠ g → (w.setRow g (news ++ cur.toList.drop news.length).toArray).heap[b]? = w.heap[b]? := fun b hb => setRow_other w g b _ hb
    have hownp : (Blk.arr e sz 0 cs).own (H p) = some g := by rw [hv]; rfl
    have hkeep : ∀ b j, S b j → S b j ∧ (w.setRow g (news ++ cur.toList.drop news.length).toArray).cell? ⟨b, j, none⟩ = w.cell? ⟨b, j, none⟩ := by
      intro b j hS
      refine ⟨hS, ?_⟩
      by_cases hbg' : b = g
      · subst hbg'
        exact absurd (r.sb p _ b j hm hownp hS) (Nat.not_lt_zero _)
      · exact World.cell?_of_block (w := w) (hoth b hbg')
    have hvl : vals.length = n0 * sz := hown.1
    have hown' : (w.setRow g (news ++ cur.toList.drop news.length).toArray).ownsRow 0 e sz (H p) n0 (news ++ vals.drop (q * sz)) := by
      refine ⟨by rw [List.length_append, hnl, List.length_drop, hvl]; omega, .inr ⟨g, cp, _, hv, hbg, hrow, hnc, hcm, ?_, ?_⟩⟩
      · have := Nat.mul_le_mul_right sz hnc
        simp only [List.size_toArray, List.length_append, List.length_drop, Array.length_toList, hnl]; omega
      · simp only [List.length_append, List.length_drop, hnl, hvl]
        rw [List.take_append, hnl]
        have hq1 : news.take (n0 * sz) = news := List.take_of_length_le (by rw [hnl]; omega)
        rw [hq1, ← htake, List.drop_take]
    refine ⟨_, by rw [hv]; exact hrun, ?_⟩
    have hch := r.change (m' := st.m.set p (.arr e sz 0 (ys.take (q * sz) ++ cs.drop (q * sz)))) (p := p) (b' := .arr e sz 0 (ys.take (q * sz) ++ cs.drop (q * sz))) (v := H p) (w' := w.setRow g (news ++ cur.toList.drop news.length).toArray) (S' := S)
      (by simp) (by rw [List.getElem?_set_self hp]) (fun j hj => List.getElem?_set_ne (fun e => hj e.symm)) hkeep (fun _ _ _ => rfl)
      (fun e' sz' k' cs' _ h => by cases h; exact ⟨0, cs, hm, .inl ⟨by rw [List.length_append, List.length_take, List.length_drop, hyl]; omega, rfl⟩⟩)
      (fun g' _ hne => hoth g' (fun e' => hne _ hm (by rw [e']; exact hownp))) ?_ (fun g' hg' => ?_) (fun _ _ _ _ _ _ _ hs => hs) (fun _ _ _ _ hs => hs) (fun b j hs => by simp; exact r.sl b j hs) (by simp) rfl rfl rfl
    · rw [hset] at hch; exact hch
    · rw [hset]
      refine ⟨hsz, Nat.zero_le _, n0, news ++ vals.drop (q * sz), hown', ?_, fun g' _ j hj => absurd hj (Nat.not_lt_zero _)⟩
      refine (LsR.append hls (y := vals.drop (q * sz)) (b := cs.drop (q * sz)) ⟨by rw [List.length_drop, List.length_drop, hcs.1], fun j l v h1 h2 => ?_⟩).mono (fun l v => Rep.mono hkeep)
      rw [List.getElem?_drop] at h1 h2
      exact hcs.2 _ l v h1 h2
    · have hg'' : g' = g := by
        have := hg'
        rw [hv] at this
        simp only [Blk.own, ownOf, Option.some.injEq] at this
        exact this.symm
      subst hg''
      exact ⟨(r.lo p _ g' hm hownp).1, by simp; exact (r.lo p _ g' hm hownp).2, fun j b hj hb ho => hj (r.inj j p b _ g' hb hm ho hownp), fun j hj => (show j < 0 from r.sb p _ g' j hm hownp hj)⟩

section
variable {P : Program} {c : Ctx} {t : Nat → AV} {m : List Blk} {ops : Array Oper} {Q : Exit → AS → Prop} {rest : List Oper} {ty : TypeId} {pos : String} {af : Array Edge} {d : Tmp} {α : Type} {f : α → List Lf} {sz : Nat}

theorem scopy {x y : Operand} {t' t2 e p n k : Nat} {cs ys : List Lf} {xs us : List α} (hd : decide (d < c.nt) = true) (si : P.underlying t' = some (.slice e)) (hi : (P.info? e).map (·.size) = some sz) (hf : ∀ x, (f x).length = sz)
    (hx : opnd ⟨t, m⟩ x = .s (.one (.ls p n))) (hm : m[p]? = some (.arr e sz k cs)) (hk : k = 0) (hcs : cs = xs.flatMap f) (hn : n = xs.length) (hy : opnd ⟨t, m⟩ y = .s (.one (.sl us.length ys))) (hys : ys = us.flatMap f)
    (kk : AWL P c ops Q rest ⟨upd t d (.s (.one (.i .i64 ((Nat.min us.length xs.length : Nat) : Int)))), m.set p (.arr e sz 0 ((us.take xs.length ++ xs.drop us.length).flatMap f))⟩) :
    AWL P c ops Q (⟨some d, .call { callee := .builtin .copy, args := #[x, y], argTypes := #[t', t2] }, ty, pos, af, none⟩ :: rest) ⟨t, m⟩ := by
  subst hcs hn hys hk
  intro a w S H r
  have hy' := opnd_rel r y
  rw [hy] at hy'
  have hx' := opnd_rel r x
  rw [hx] at hx'
  obtain ⟨_, _, hr⟩ := hx'
  have hH := (hr _ _ _ _ hm).2 (flat_len hf xs).symm
  obtain ⟨w', hrun, hrel⟩ := r.copy (P := P) (t2 := t2) (ty := ty) si hi hm (flat_len hf xs).symm (hy' : Rep w S (.sl us.length (us.flatMap f)) (a.eval y)) (flat_len hf us)
  refine wpList_plain rfl fun K hK => ?_
  unfold Oper.wp
  have hrun' : (execOp a.eval ⟨some d, .call { callee := .builtin .copy, args := #[x, y], argTypes := #[t', t2] }, ty, pos, af, none⟩).run P w = .ok (.value (goInt (Nat.min us.length xs.length : Nat))) w' := by
    simp [execOp, resolve, invoke, builtin, hH, hrun]
  rw [hrun']
  have e : (us.flatMap f).take (Nat.min us.length xs.length * sz) ++ (xs.flatMap f).drop (Nat.min us.length xs.length * sz) = (us.take xs.length ++ xs.drop us.length).flatMap f := by
    rw [List.flatMap_append]
    congr 1
    · have : us.flatMap f = (us.take xs.length).flatMap f ++ (us.drop xs.length).flatMap f := by rw [← List.flatMap_append, List.take_append_drop]
      rw [this]
      have hl : ((us.take xs.length).flatMap f).length = Nat.min us.length xs.length * sz := by rw [flat_len hf, List.length_take, Nat.min_comm]
      rw [← hl]
      exact List.take_left
    · have : xs.flatMap f = (xs.take us.length).flatMap f ++ (xs.drop us.length).flatMap f := by rw [← List.flatMap_append, List.take_append_drop]
      rw [this]
      have hl : ((xs.take us.length).flatMap f).length = Nat.min us.length xs.length * sz := by rw [flat_len hf, List.length_take]
      rw [← hl]
      exact List.drop_left
  rw [e] at hrel
  exact hK _ _ (kk _ _ _ _ (hrel.put (d := d) (x := .s (.one (.i .i64 ((Nat.min us.length xs.length : Nat) : Int)))) (of_decide_eq_true hd) (avr_rep (.i _ _))))
end

theorem copy_len {α : Type} (us xs : List α) : xs.length = (us.take xs.length ++ xs.drop us.length).length := by
  rw [List.length_append, List.length_take, List.length_drop]
  omega
/-! One own block takes another one's place. -/
def Lf.men0 (p : Nat) : Lf → Bool
  | .lp q _ => Nat.beq q p
  | .ls q _ => Nat.beq q p
  | .ap q _ _ => Nat.beq q p
  | _ => false
def Lf.men (p : Nat) : Lf → Bool
  | .lp q _ => Nat.beq q p
  | .ls q _ => Nat.beq q p
  | .ap q _ _ => Nat.beq q p
  | .fn _ la lb => la.any (Lf.men0 p) || lb.any (Lf.men0 p)
  | _ => false
def Lf.rnq0 (p q : Nat) : Lf → Lf
  | .lp r o => .lp (cond (Nat.beq r q) p r) o
  | .ls r n => .ls (cond (Nat.beq r q) p r) n
  | .ap r n o => .ap (cond (Nat.beq r q) p r) n o
  | l => l
def Lf.rnq (p q : Nat) : Lf → Lf
  | .lp r o => .lp (cond (Nat.beq r q) p r) o
  | .ls r n => .ls (cond (Nat.beq r q) p r) n
  | .ap r n o => .ap (cond (Nat.beq r q) p r) n o
  | .fn f la lb => .fn f (la.map (Lf.rnq0 p q)) (lb.map (Lf.rnq0 p q))
  | l => l
def SV.men (p : Nat) : SV → Bool
  | .one l => l.men p
  | .agg ls => ls.any (Lf.men p)
def SV.rnq (p q : Nat) : SV → SV
  | .one l => .one (l.rnq p q)
  | .agg ls => .agg (ls.map (Lf.rnq p q))
def AV.rnq (p q : Nat) : AV → AV
  | .s x => cond (x.men p) .top (.s (x.rnq p q))
  | .tup xs => cond (xs.any (SV.men p)) .top (.tup (xs.map (SV.rnq p q)))
  | .top => .top
def Blk.rnq (p q : Nat) : Blk → Blk
  | .box cs => cond (cs.any (Lf.men p)) .dead (.box (cs.map (Lf.rnq p q)))
  | b => b
theorem beqN {a b : Nat} : Nat.beq a b = decide (a = b) := by
  by_cases h : a = b
  · subst h; simp
  · rw [decide_eq_false h]
    cases hb : Nat.beq a b with
    | false => rfl
    | true => exact absurd (Nat.eq_of_beq_eq_true hb) h
theorem ren_ix {p q r : Nat} : cond (Nat.beq r q) p r = if r = q then p else r := by
  rw [beqN]
  by_cases h : r = q <;> simp [h]
theorem blk_ren_arr {p q : Nat} {b : Blk} {e sz k : Nat} {cs : List Lf} (h : b.rnq p q = .arr e sz k cs) : b = .arr e sz k cs := by
  cases b with
  | box cs' =>
    have h' : (cond (cs'.any (Lf.men p)) .dead (.box (cs'.map (Lf.rnq p q))) : Blk) = .arr e sz k cs := h
    cases hc : cs'.any (Lf.men p) <;> rw [hc] at h' <;> cases h'
  | arr _ _ _ _ => exact h
  | dead => cases h
  | hole => cases h
theorem blk_ren_own {p q : Nat} {b : Blk} {v : Value} {g : Nat} (h : (b.rnq p q).own v = some g) : b.own v = some g ∧ (b.rnq p q).stab = b.stab := by
  cases b with
  | box cs' =>
    have h' : (cond (cs'.any (Lf.men p)) .dead (.box (cs'.map (Lf.rnq p q))) : Blk).own v = some g := h
    show _ ∧ (cond (cs'.any (Lf.men p)) .dead (.box (cs'.map (Lf.rnq p q))) : Blk).stab = _
    cases hc : cs'.any (Lf.men p) <;> rw [hc] at h'
    · exact ⟨h', rfl⟩
    · cases h'
  | arr _ _ _ _ => exact ⟨h, rfl⟩
  | dead => exact ⟨h, rfl⟩
  | hole => exact ⟨h, rfl⟩

theorem ren_rel {c : Ctx} {t : Nat → AV} {m : List Blk} {a : Act} {w : World} {S : Stab} {H : Nat → Value} (r : Rel c ⟨t, m⟩ a w S H) {p q : Nat} {b : Blk} (hp : c.m0.length ≤ p) (hq : c.m0.length ≤ q) (hne : p ≠ q) (hpl : p < m.length) (hb : m[q]? = some b) :
    Rel c ⟨fun i => (t i).rnq p q, ((m.map (Blk.rnq p q)).set p (b.rnq p q)).set q .dead⟩ a w S (setH H p (H q)) := by
  have hql : q < m.length := (List.getElem?_eq_some_iff.1 hb).1
  generalize hM : ((m.map (Blk.rnq p q)).set p (b.rnq p q)).set q .dead = m'
  have hml : m'.length = m.length := by rw [← hM]; simp
  have hmp : m'[p]? = some (b.rnq p q) := by
    rw [← hM, List.getElem?_set_ne (fun e => hne e.symm), List.getElem?_set_self (by simpa using hpl)]
  have hmq : m'[q]? = some .dead := by rw [← hM, List.getElem?_set_self (by simpa using hql)]
  have hmo : ∀ i, i ≠ p → i ≠ q → m'[i]? = (m[i]?).map (Blk.rnq p q) := fun i h1 h2 => by
    rw [← hM, List.getElem?_set_ne (fun e => h2 e.symm), List.getElem?_set_ne (fun e => h1 e.symm), List.getElem?_map]
  have hHp : setH H p (H q) p = H q := setH_same _ _ _
  have hHo : ∀ i, i ≠ p → setH H p (H q) i = H i := fun i h => setH_other H _ h
  -- where a place of the new memory comes from
  have hfrom : ∀ i b', m'[i]? = some b' → i = q ∧ b' = .dead ∨ i ≠ q ∧ ∃ b0, m[if i = p then q else i]? = some b0 ∧ b' = b0.rnq p q ∧ setH H p (H q) i = H (if i = p then q else i) := fun i b' h => by
    by_cases h1 : i = q
    · subst h1; rw [hmq] at h; cases h; exact .inl ⟨rfl, rfl⟩
    · refine .inr ⟨h1, ?_⟩
      by_cases h2 : i = p
      · subst h2
        rw [hmp] at h; cases h
        rw [if_pos rfl]
        exact ⟨b, hb, rfl, hHp⟩
      · rw [hmo i h2 h1] at h
        rw [if_neg h2]
        cases hmi : m[i]? with
        | none => rw [hmi] at h; cases h
        | some b0 => rw [hmi] at h; cases h; exact ⟨b0, rfl, rfl, hHo i h2⟩
  have hg0 : ∀ l v, l.men0 p = false → GRep0 w S m H l v → GRep0 w S m' (setH H p (H q)) (l.rnq0 p q) v := by
    intro l v hl h
    cases l with
    | lp r' o =>
      have hrp : r' ≠ p := by simpa [Lf.men0, beqN] using hl
      obtain ⟨h1, g, h2, h3⟩ := h
      show GRep0 w S m' _ (.lp (cond (Nat.beq r' q) p r') o) v
      rw [ren_ix]
      by_cases hrq : r' = q
      · rw [if_pos hrq]; exact ⟨by omega, g, by rw [hHp, ← hrq]; exact h2, h3⟩
      · rw [if_neg hrq]; exact ⟨by omega, g, by rw [hHo _ hrp]; exact h2, h3⟩
    | ls r' n =>
      have hrp : r' ≠ p := by simpa [Lf.men0, beqN] using hl
      obtain ⟨h1, h2, h3⟩ := h
      show GRep0 w S m' _ (.ls (cond (Nat.beq r' q) p r') n) v
      rw [ren_ix]
      by_cases hrq : r' = q
      · subst hrq
        rw [if_pos rfl]
        refine ⟨by omega, h2, fun e sz k cs hm => ?_⟩
        rw [hmp] at hm
        have := h3 e sz k cs (by rw [hb, blk_ren_arr (Option.some.inj hm)])
        rw [hHp]; exact this
      · rw [if_neg hrq]
        refine ⟨by omega, h2, fun e sz k cs hm => ?_⟩
        rw [hmo _ hrp hrq] at hm
        rw [hHo _ hrp]
        cases hmi : m[r']? with
        | none => rw [hmi] at hm; cases hm
        | some b0 =>
          rw [hmi] at hm
          exact h3 e sz k cs (by rw [hmi, blk_ren_arr (Option.some.inj hm)])
    | ap r' n o =>
      have hrp : r' ≠ p := by simpa [Lf.men0, beqN] using hl
      obtain ⟨h1, h2, h3⟩ := h
      show GRep0 w S m' _ (.ap (cond (Nat.beq r' q) p r') n o) v
      rw [ren_ix]
      by_cases hrq : r' = q
      · subst hrq
        rw [if_pos rfl]
        refine ⟨by omega, h2, fun e sz k cs hm => ?_⟩
        rw [hmp] at hm
        have := h3 e sz k cs (by rw [hb, blk_ren_arr (Option.some.inj hm)])
        rw [hHp]; exact this
      · rw [if_neg hrq]
        refine ⟨by omega, h2, fun e sz k cs hm => ?_⟩
        rw [hmo _ hrp hrq] at hm
        rw [hHo _ hrp]
        cases hmi : m[r']? with
        | none => rw [hmi] at hm; cases hm
        | some b0 =>
          rw [hmi] at hm
          exact h3 e sz k cs (by rw [hmi, blk_ren_arr (Option.some.inj hm)])
    | i k n => exact h
    | b x => exact h
    | s x => exact h
    | raw v => exact h
    | sl n cs => exact h
    | cp cs => exact h
    | fn f a b => exact h
  have hgl : ∀ (ls : List Lf) (vs : List Value), ls.any (Lf.men0 p) = false → LsR (GRep0 w S m H) ls vs → LsR (GRep0 w S m' (setH H p (H q))) (ls.map (Lf.rnq0 p q)) vs := fun ls vs hl h =>
    ⟨by rw [List.length_map]; exact h.1, fun j l v h1 h2 => by
      rw [List.getElem?_map] at h1
      cases hlj : ls[j]? with
      | none => rw [hlj] at h1; cases h1
      | some l0 =>
        rw [hlj] at h1; cases h1
        refine hg0 l0 v ?_ (h.2 j l0 v hlj h2)
        have := List.any_eq_false.1 hl l0 (List.mem_of_getElem? hlj)
        simpa using this⟩
  have hg : ∀ l v, l.men p = false → GRep w S m H l v → GRep w S m' (setH H p (H q)) (l.rnq p q) v := by
    intro l v hl h
    cases l with
    | fn f a b =>
      obtain ⟨va, vb, hv, h1, h2⟩ := h
      have hl' : a.any (Lf.men0 p) = false ∧ b.any (Lf.men0 p) = false := by simpa [Lf.men, Bool.or_eq_false_iff] using hl
      exact ⟨va, vb, hv, hgl a _ hl'.1 h1, hgl b _ hl'.2 h2⟩
    | lp r' o => exact hg0 (.lp r' o) v hl h
    | ls r' n => exact hg0 (.ls r' n) v hl h
    | ap r' n o => exact hg0 (.ap r' n o) v hl h
    | i k n => exact h
    | b x => exact h
    | s x => exact h
    | raw v => exact h
    | sl n cs => exact h
    | cp cs => exact h
  have hgL : ∀ (ls : List Lf) (vs : List Value), ls.any (Lf.men p) = false → LsR (GRep w S m H) ls vs → LsR (GRep w S m' (setH H p (H q))) (ls.map (Lf.rnq p q)) vs := fun ls vs hl h =>
    ⟨by rw [List.length_map]; exact h.1, fun j l v h1 h2 => by
      rw [List.getElem?_map] at h1
      cases hlj : ls[j]? with
      | none => rw [hlj] at h1; cases h1
      | some l0 =>
        rw [hlj] at h1; cases h1
        refine hg l0 v ?_ (h.2 j l0 v hlj h2)
        have := List.any_eq_false.1 hl l0 (List.mem_of_getElem? hlj)
        simpa using this⟩
  have hsv : ∀ (x : SV) (v : Value), x.men p = false → SVR (GRep w S m H) x v → SVR (GRep w S m' (setH H p (H q))) (x.rnq p q) v := by
    intro x v hx h
    cases x with
    | one l => exact hg l v hx h
    | agg ls =>
      obtain ⟨cs, rfl, h1⟩ := h
      exact ⟨cs, rfl, hgL ls _ hx h1⟩
  refine ⟨r.nt, r.df, fun i => ?_, fun i b' hb' => ?_, fun i b' g hb' ho => ?_, fun i i' b1 b2 g h1 h2 o1 o2 => ?_, fun i b' g j hb' ho hs => ?_, r.sl, r.ex, by show c.m0.length ≤ m'.length; rw [hml]; exact r.kl, fun i g hi hh => ?_, fun i e sz k cs hi hm => ?_⟩
  · have h := r.tm i
    show AVR _ ((t i).rnq p q) _
    generalize a.tmps.getD i undef = v at h
    cases ht : t i with
    | s x =>
      show AVR _ (cond (x.men p) .top (.s (x.rnq p q))) _
      cases hx : x.men p with
      | true => trivial
      | false => exact hsv x v hx (by have h' : AVR _ (t i) v := h; rw [ht] at h'; exact h')
    | tup xs =>
      show AVR _ (cond (xs.any (SV.men p)) .top (.tup (xs.map (SV.rnq p q)))) _
      cases hx : xs.any (SV.men p) with
      | true => trivial
      | false =>
        have h' : AVR (GRep w S m H) (t i) v := h
        rw [ht] at h'
        obtain ⟨vs, rfl, h1, h2⟩ := h'
        refine ⟨vs, rfl, by rw [List.length_map]; exact h1, fun j x u hj hu => ?_⟩
        rw [List.getElem?_map] at hj
        cases hlj : xs[j]? with
        | none => rw [hlj] at hj; cases hj
        | some x0 =>
          rw [hlj] at hj; cases hj
          refine hsv x0 u ?_ (h2 j x0 u hlj hu)
          have := List.any_eq_false.1 hx x0 (List.mem_of_getElem? hlj)
          simpa using this
    | top => trivial
  · rcases hfrom i b' hb' with ⟨_, rfl⟩ | ⟨_, b0, h1, rfl, h2⟩
    · trivial
    · have hr := r.bl _ _ h1
      rw [h2]
      cases b0 with
      | dead => trivial
      | hole => exact hr
      | box cs =>
        show BlkR 0 w S m' _ (cond (cs.any (Lf.men p)) .dead (.box (cs.map (Lf.rnq p q)))) _
        cases hx : cs.any (Lf.men p) with
        | true => trivial
        | false =>
          obtain ⟨g, e, cur, h3, h4, h5⟩ := hr
          exact ⟨g, e, cur, h3, h4, hgL cs _ hx h5⟩
      | arr e sz k cs =>
        obtain ⟨h0, hk1, n, vals, h3, h4, h5⟩ := hr
        exact ⟨h0, hk1, n, vals, h3, h4, h5⟩
  · rcases hfrom i b' hb' with ⟨_, rfl⟩ | ⟨_, b0, h1, rfl, h2⟩
    · cases ho
    · rw [h2] at ho
      exact r.lo _ b0 g h1 (blk_ren_own ho).1
  · rcases hfrom i b1 h1 with ⟨_, rfl⟩ | ⟨n1, b0, h3, rfl, h4⟩
    · cases o1
    rcases hfrom i' b2 h2 with ⟨_, rfl⟩ | ⟨n2, b0', h5, rfl, h6⟩
    · cases o2
    rw [h4] at o1
    rw [h6] at o2
    have := r.inj _ _ b0 b0' g h3 h5 (blk_ren_own o1).1 (blk_ren_own o2).1
    by_cases e1 : i = p <;> by_cases e2 : i' = p
    · rw [e1, e2]
    · rw [if_pos e1, if_neg e2] at this; exact absurd this.symm n2
    · rw [if_neg e1, if_pos e2] at this; exact absurd this n1
    · rw [if_neg e1, if_neg e2] at this; exact this
  · rcases hfrom i b' hb' with ⟨_, rfl⟩ | ⟨_, b0, h1, rfl, h2⟩
    · cases ho
    · rw [h2] at ho
      rw [(blk_ren_own ho).2]
      exact r.sb _ b0 g j h1 (blk_ren_own ho).1 hs
  · rw [hHo i (by omega)]
    exact r.kh i g hi hh
  · have hm' : m'[i]? = some (.arr e sz k cs) := hm
    rw [hmo i (by omega) (by omega)] at hm'
    rw [hHo i (by omega)]
    cases hmi : m[i]? with
    | none => rw [hmi] at hm'; cases hm'
    | some b0 =>
      rw [hmi] at hm'
      exact r.kr i e sz k cs hi (by show m[i]? = _; rw [hmi, blk_ren_arr (Option.some.inj hm')])

section
variable {P : Program} {c : Ctx} {t : Nat → AV} {m : List Blk} {ops : Array Oper} {Q : Exit → AS → Prop}
theorem cren {x : Code} (p q : Nat) {b : Blk} (hp : Nat.ble c.m0.length p = true) (hq : Nat.ble c.m0.length q = true) (hne : Nat.beq p q = false) (hpl : Nat.blt p m.length = true) (hb : m[q]? = some b)
    (k : AWC P c x Q ⟨fun i => (t i).rnq p q, ((m.map (Blk.rnq p q)).set p (b.rnq p q)).set q .dead⟩) : AWC P c x Q ⟨t, m⟩ :=
  awc_of _ (fun _ _ S H r => ⟨S, _, ren_rel r (Nat.le_of_ble_eq_true hp) (Nat.le_of_ble_eq_true hq) (Nat.ne_of_beq_eq_false hne) (Nat.le_of_ble_eq_true hpl) hb⟩) k
theorem sren {l : List Oper} (p q : Nat) {b : Blk} (hp : Nat.ble c.m0.length p = true) (hq : Nat.ble c.m0.length q = true) (hne : Nat.beq p q = false) (hpl : Nat.blt p m.length = true) (hb : m[q]? = some b)
    (k : AWL P c ops Q l ⟨fun i => (t i).rnq p q, ((m.map (Blk.rnq p q)).set p (b.rnq p q)).set q .dead⟩) : AWL P c ops Q l ⟨t, m⟩ :=
  awl_of _ (fun _ _ S H r => ⟨S, _, ren_rel r (Nat.le_of_ble_eq_true hp) (Nat.le_of_ble_eq_true hq) (Nat.ne_of_beq_eq_false hne) (Nat.le_of_ble_eq_true hpl) hb⟩) k
end
end Go.Proofs.Ytoojcpiigkmhiaa.Abs

/-
  Blocks that are laid in a region that draws its order: a place is kept free for each.
-/
namespace Go.Proofs.Ytoojcpiigkmhiaa.Abs
open Go.RowKit

/-- A place kept free. -/
theorem hole_rel {c : Ctx} {t : Nat → AV} {m : List Blk} {a : Act} {w : World} {S : Stab} {H : Nat → Value} (r : Rel c ⟨t, m⟩ a w S H) : Rel c ⟨t, m ++ [.hole]⟩ a w S (setH H m.length undef) := by
  refine r.change (p := m.length) (b' := .hole) (v := undef) (by simp) (by simp) (fun q hq => ?_) (fun b i h => ⟨h, rfl⟩) (fun g h => absurd h (Nat.lt_irrefl _)) (fun e sz k cs h => absurd h (Nat.lt_irrefl _))
    (fun g _ _ => rfl) rfl (fun g hg => by cases hg) (fun q b g i _ _ _ h => h) (fun g i _ _ h => h) r.sl (Nat.le_refl _) rfl rfl rfl
  rcases Nat.lt_or_ge q m.length with h | h
  · rw [List.getElem?_append_left h]
  · rw [List.getElem?_eq_none (by simp; omega), List.getElem?_eq_none h]
/-- The place taken by a box. -/
theorem Rel.fillBox {c : Ctx} {t : Nat → AV} {m : List Blk} {a : Act} {w : World} {S : Stab} {H : Nat → Value} (r : Rel c ⟨t, m⟩ a w S H) {p : Nat} (hm : m[p]? = some .hole) {e : TypeId} {cells : Array Value} {ls : List Lf} (hls : LsR (GRep w S m H) ls cells.toList) :
    Rel c ⟨t, m.set p (.box ls)⟩ a (w.alloc (.cells cells e)) S (setH H p (.pointer (some ⟨w.heap.size, 0, none⟩))) := by
  have hx : Ext w S (w.alloc (.cells cells e)) S := Ext.alloc w S _
  have hp : p < m.length := (List.getElem?_eq_some_iff.1 hm).1
  have hH : H p = undef := r.bl p _ hm
  have hf := r.fresh (Nat.le_refl w.heap.size)
  have hkeep : ∀ b i, S b i → S b i ∧ (w.alloc (.cells cells e)).cell? ⟨b, i, none⟩ = w.cell? ⟨b, i, none⟩ := fun b i h => hx.keeps r.sl b i h
  have hoth : ∀ q, q ≠ p → (m.set p (.box ls))[q]? = m[q]? := fun q hq => List.getElem?_set_ne (fun e => hq e.symm)
  have hgr : ∀ l v, GRep w S m H l v → GRep (w.alloc (.cells cells e)) S (m.set p (.box ls)) (setH H p (.pointer (some ⟨w.heap.size, 0, none⟩))) l v := fun l v =>
    GRep.mono2 hkeep (by simp) (fun q g hq hh => by
      by_cases e1 : q = p
      · subst e1; exact (undef_ne (hH.symm.trans hh)).elim
      · exact setH_other H _ e1) (fun q e1 sz k cs hq hm1 => by
      by_cases e2 : q = p
      · subst e2; rw [List.getElem?_set_self hp] at hm1; cases hm1
      · rw [hoth q e2] at hm1
        exact ⟨k, cs, hm1, .inl ⟨rfl, setH_other H _ e2⟩⟩)
  refine r.change (p := p) (b' := .box ls) (by simp) (List.getElem?_set_self hp) hoth hkeep (fun g _ h => (undef_ne (hH.symm.trans h)).elim) (fun e sz k cs _ h => by cases h)
    (fun g hg _ => hx.blk g hg) ⟨w.heap.size, e, cells, rfl, heap_alloc_new w _, hls.mono hgr⟩ (fun g hg => ?_) (fun q b g i _ _ _ h => h) (fun g i _ _ h => h) (fun b i hs => by have := r.sl b i hs; simp; omega) hx.size rfl rfl rfl
  have hg' : w.heap.size = g := by simpa [Blk.own, ownOf] using hg
  subst hg'
  exact ⟨.inl r.ex.size, by simp, fun q b _ hb => hf.1 q b hb, fun i hi => absurd hi (hf.2 i)⟩

section
variable {P : Program} {c : Ctx} {t : Nat → AV} {m : List Blk} {ops : Array Oper} {Q : Exit → AS → Prop} {rest : List Oper} {ty : TypeId} {pos : String} {af : Array Edge} {d : Tmp}
theorem chole {x : Code} (k : AWC P c x Q ⟨t, m ++ [.hole]⟩) : AWC P c x Q ⟨t, m⟩ := awc_of _ (fun _ _ S _ r => ⟨S, _, hole_rel r⟩) k
theorem salloc_at {tt : TypeId} {zl : List Lf} (p : Nat) (hd : decide (d < c.nt) = true) (zi : ZI P tt zl) (hm : m[p]? = some .hole)
    (k : AWL P c ops Q rest ⟨upd t d (.s (.one (.lp p 0))), m.set p (.box zl)⟩) : AWL P c ops Q (⟨some d, .alloc tt, ty, pos, af, none⟩ :: rest) ⟨t, m⟩ := by
  obtain ⟨i, z, hi, hz, hl, ho⟩ := zi.h
  subst hl
  intro a w S H r
  refine wpList_plain rfl fun K hK => ?_
  unfold Oper.wp
  have hrun : (execOp a.eval ⟨some d, .alloc tt, ty, pos, af, none⟩).run P w = .ok (.value (.pointer (some ⟨w.heap.size, 0, none⟩))) (w.alloc (.cells z.cells tt)) := by simp [execOp, Instr.alloc, zeroValue, typeInfo, hi, hz, newVar, newRow]
  rw [hrun]
  have r' := r.fillBox (e := tt) (cells := z.cells) hm (clf_list ho)
  have hp : p < m.length := (List.getElem?_eq_some_iff.1 hm).1
  exact hK _ _ (k _ _ _ _ (r'.put (d := d) (x := .s (.one (.lp p 0))) (of_decide_eq_true hd) ⟨by simpa using hp, w.heap.size, setH_same _ _ _, rfl⟩))
theorem sbox_at {tt : TypeId} {y : Operand} {x : SV} (p : Nat) (hd : decide (d < c.nt) = true) (hx : opnd ⟨t, m⟩ y = .s x) (hm : m[p]? = some .hole)
    (k : AWL P c ops Q rest ⟨upd t d (.s (.one (.lp p 0))), m.set p (.box x.cells)⟩) : AWL P c ops Q (⟨some d, .box tt y, ty, pos, af, none⟩ :: rest) ⟨t, m⟩ := by
  intro a w S H r
  have hy := opnd_rel r y
  rw [hx] at hy
  have hls := svr_cells hy (fun l v => GRep.oneCell)
  refine wpList_plain rfl fun K hK => ?_
  unfold Oper.wp
  have hrun : (execOp a.eval ⟨some d, .box tt y, ty, pos, af, none⟩).run P w = .ok (.value (.pointer (some ⟨w.heap.size, 0, none⟩))) (w.alloc (.cells (a.eval y).cells tt)) := by simp [execOp, Instr.box, newVar, newRow]
  rw [hrun]
  have r' := r.fillBox (e := tt) (cells := (a.eval y).cells) hm hls
  have hp : p < m.length := (List.getElem?_eq_some_iff.1 hm).1
  exact hK _ _ (k _ _ _ _ (r'.put (d := d) (x := .s (.one (.lp p 0))) (of_decide_eq_true hd) ⟨by simpa using hp, w.heap.size, setH_same _ _ _, rfl⟩))
end
end Go.Proofs.Ytoojcpiigkmhiaa.Abs

/-
  What arguments of each kind are.
-/
namespace Go.Proofs.Ytoojcpiigkmhiaa.Abs
open Go.RowKit

theorem ft_i64 {ls : List Lf} (h : Fits (.int .i64) ls) : ∃ n : Int, (-9223372036854775808 ≤ n ∧ n ≤ 9223372036854775807) ∧ ls = eI n := by
  obtain ⟨n, hw, rfl⟩ := h
  exact ⟨n, lit_i64 hw, rfl⟩
theorem lit_un {k : IntKind} {n : Int} (h : (Lit.int k n).wf = true) : k.min ≤ n ∧ n ≤ k.max := by
  simp only [Lit.wf, Bool.and_eq_true, decide_eq_true_eq] at h
  exact h
theorem ft_u8 {ls : List Lf} (h : Fits (.int .u8) ls) : ∃ a : UInt8, True ∧ ls = eU8 a := by
  obtain ⟨n, hw, rfl⟩ := h
  obtain ⟨h1, h2⟩ := lit_un hw
  simp [IntKind.min, IntKind.max, IntKind.bits, IntKind.signed] at h1 h2
  refine ⟨UInt8.ofNat n.toNat, trivial, ?_⟩
  show _ = [Lf.i .u8 _]
  rw [show ((UInt8.ofNat n.toNat).toNat : Int) = n by rw [UInt8.toNat_ofNat']; omega]
theorem ft_b8 {ls : List Lf} (h : Fits (.int .u8) ls) : ∃ a : BitVec 8, True ∧ ls = [.i .u8 (a.toNat : Int)] := by
  obtain ⟨a, _, rfl⟩ := ft_u8 h
  exact ⟨a.toBitVec, trivial, rfl⟩
theorem ft_u16 {ls : List Lf} (h : Fits (.int .u16) ls) : ∃ a : BitVec 16, True ∧ ls = eU16 a := by
  obtain ⟨n, hw, rfl⟩ := h
  obtain ⟨h1, h2⟩ := lit_un hw
  simp [IntKind.min, IntKind.max, IntKind.bits, IntKind.signed] at h1 h2
  refine ⟨BitVec.ofNat 16 n.toNat, trivial, ?_⟩
  show _ = [Lf.i .u16 _]
  rw [show ((BitVec.ofNat 16 n.toNat).toNat : Int) = n by rw [BitVec.toNat_ofNat]; omega]
theorem ft_u32 {ls : List Lf} (h : Fits (.int .u32) ls) : ∃ a : BitVec 32, True ∧ ls = eU32 a := by
  obtain ⟨n, hw, rfl⟩ := h
  obtain ⟨h1, h2⟩ := lit_un hw
  simp [IntKind.min, IntKind.max, IntKind.bits, IntKind.signed] at h1 h2
  refine ⟨BitVec.ofNat 32 n.toNat, trivial, ?_⟩
  show _ = [Lf.i .u32 _]
  rw [show ((BitVec.ofNat 32 n.toNat).toNat : Int) = n by rw [BitVec.toNat_ofNat]; omega]
theorem ft_u64 {ls : List Lf} (h : Fits (.int .u64) ls) : ∃ a : BitVec 64, True ∧ ls = eU64 a := by
  obtain ⟨n, hw, rfl⟩ := h
  obtain ⟨h1, h2⟩ := lit_un hw
  simp [IntKind.min, IntKind.max, IntKind.bits, IntKind.signed] at h1 h2
  refine ⟨BitVec.ofNat 64 n.toNat, trivial, ?_⟩
  show _ = [Lf.i .u64 _]
  rw [show ((BitVec.ofNat 64 n.toNat).toNat : Int) = n by rw [BitVec.toNat_ofNat]; omega]
theorem ft_bool {ls : List Lf} (h : Fits .bool ls) : ∃ b : Bool, True ∧ ls = eB b := by
  obtain ⟨b, rfl⟩ := h
  exact ⟨b, trivial, rfl⟩
theorem ft_str {ls : List Lf} (h : Fits .str ls) : ∃ s : List UInt8, s.length ≤ maxLen ∧ ls = eS s := by
  obtain ⟨s, hs, rfl⟩ := h
  exact ⟨s.data.toList, by simpa using hs, by simp [eS]⟩
theorem ft_sl {α : Type} {e : Sh} {f : α → List Lf} {Q : α → Prop} (he : ∀ {r}, Fits e r → ∃ x, Q x ∧ r = f x) {ls : List Lf} (h : Fits (.sl e) ls) : ∃ xs : List α, (xs.length ≤ maxLen ∧ ∀ x ∈ xs, Q x) ∧ ls = eL f xs := by
  obtain ⟨rows, hl, hr, rfl⟩ := h
  have : ∃ xs : List α, (∀ x ∈ xs, Q x) ∧ rows = xs.map f := by
    clear hl
    induction rows with
    | nil => exact ⟨[], fun _ h => by simp at h, rfl⟩
    | cons r rs ih =>
      obtain ⟨x, hq, hx⟩ := he (hr r (List.mem_cons_self ..))
      obtain ⟨xs, hqs, hxs⟩ := ih (fun r h => hr r (List.mem_cons_of_mem _ h))
      exact ⟨x :: xs, fun y hy => by rcases List.mem_cons.1 hy with rfl | hy; exact hq; exact hqs y hy, by rw [hx, hxs]; rfl⟩
  obtain ⟨xs, hq, rfl⟩ := this
  exact ⟨xs, ⟨by simpa using hl, hq⟩, by rw [eL, List.flatMap, List.length_map]⟩
end Go.Proofs.Ytoojcpiigkmhiaa.Abs

/-
  How rounds are reckoned with.
-/
namespace Go.Proofs.Ytoojcpiigkmhiaa.Abs

theorem wI_id {n : Int} (h1 : -9223372036854775808 ≤ n) (h2 : n ≤ 9223372036854775807) : wI n = n := by
  unfold wI IntKind.wrap
  simp [IntKind.bits, IntKind.signed]
  omega
theorem lt_fuel {n : Nat} (h : n ≤ 1000000000000000000) : n < fuel := by unfold fuel; omega
theorem idx_nat {α : Type} (xs : List α) (i : Nat) : idx xs (i : Int) = xs[i]? := by
  unfold idx
  rw [if_pos (Int.natCast_nonneg i), Int.toNat_natCast]
theorem idx_get {α : Type} {xs : List α} {j : Int} (h0 : 0 ≤ j) (h1 : j < xs.length) : ∃ x, idx xs j = some x ∧ xs[j.toNat]? = some x := by
  have h : j.toNat < xs.length := by omega
  exact ⟨xs[j.toNat], by unfold idx; rw [if_pos h0, List.getElem?_eq_getElem h], List.getElem?_eq_getElem h⟩
theorem idx_of {α : Type} {xs : List α} {j : Int} {x : α} (h0 : 0 ≤ j) (h : xs[j.toNat]? = some x) : idx xs j = some x := by
  unfold idx
  rw [if_pos h0, h]
theorem cut_of {α : Type} {xs : List α} {lo hi : Int} (h0 : 0 ≤ lo) (h1 : lo ≤ hi) (h2 : hi ≤ xs.length) : cut xs lo hi = some ((xs.drop lo.toNat).take (hi.toNat - lo.toNat)) := by
  unfold cut
  rw [if_pos ⟨h0, h1, h2⟩]

theorem iterB_inv {σ β : Type} {f : σ → Option (LB σ β)} {P : σ → Prop} {μ : σ → Nat} {R : β → Prop}
    (h : ∀ s, P s → (∃ s', f s = some (.cont s') ∧ P s' ∧ μ s' < μ s) ∨ ∃ b, f s = some (.brk b) ∧ R b) : ∀ (n : Nat) (s : σ), P s → μ s < n → ∃ b, iterB f n s = some b ∧ R b
  | 0, s, _, hm => by omega
  | n + 1, s, hp, hm => by
    rcases h s hp with ⟨s', hf, hp', hlt⟩ | ⟨b, hf, hr⟩
    · obtain ⟨b, hb, hr⟩ := iterB_inv h n s' hp' (by omega)
      exact ⟨b, by rw [iterB, hf]; exact hb, hr⟩
    · exact ⟨b, by rw [iterB, hf], hr⟩
theorem iter_inv {σ β ρ : Type} {f : σ → Option (LR σ β ρ)} {P : σ → Prop} {μ : σ → Nat} {R : Sum ρ β → Prop}
    (h : ∀ s, P s → (∃ s', f s = some (.cont s') ∧ P s' ∧ μ s' < μ s) ∨ (∃ b, f s = some (.brk b) ∧ R (.inr b)) ∨ ∃ r, f s = some (.ret r) ∧ R (.inl r)) : ∀ (n : Nat) (s : σ), P s → μ s < n → ∃ b, iter f n s = some b ∧ R b
  | 0, s, _, hm => by omega
  | n + 1, s, hp, hm => by
    rcases h s hp with ⟨s', hf, hp', hlt⟩ | ⟨b, hf, hr⟩ | ⟨b, hf, hr⟩
    · obtain ⟨b, hb, hr⟩ := iter_inv h n s' hp' (by omega)
      exact ⟨b, by rw [iter, hf]; exact hb, hr⟩
    · exact ⟨.inr b, by rw [iter, hf], hr⟩
    · exact ⟨.inl b, by rw [iter, hf], hr⟩

/-- A loop over a row, told as a fold. -/
theorem iterB_fold {α σ β τ : Type} {f : τ → Option (LB τ β)} (st : σ → Nat → τ) (xs : List α) (g : σ → α → σ) (out : σ → β) (hl : xs.length < 1000000000000000000000000)
    (h1 : ∀ acc i x, xs[i]? = some x → f (st acc i) = some (.cont (st (g acc x) (i + 1)))) (h2 : ∀ acc, f (st acc xs.length) = some (.brk (out acc))) (a0 : σ) : iterB f fuel (st a0 0) = some (out (xs.foldl g a0)) := by
  have key : ∀ (k i : Nat) (acc : σ) (n : Nat), k + i = xs.length → k < n → iterB f n (st acc i) = some (out ((xs.drop i).foldl g acc)) := by
    intro k
    induction k with
    | zero =>
      intro i acc n hi hn
      obtain ⟨m, rfl⟩ : ∃ m, n = m + 1 := ⟨n - 1, by omega⟩
      have : i = xs.length := by omega
      subst this
      rw [iterB, h2, List.drop_length]
      rfl
    | succ k ih =>
      intro i acc n hi hn
      obtain ⟨m, rfl⟩ : ∃ m, n = m + 1 := ⟨n - 1, by omega⟩
      have hlt : i < xs.length := by omega
      rw [iterB, h1 acc i xs[i] (List.getElem?_eq_getElem hlt), List.drop_eq_getElem_cons hlt, List.foldl_cons]
      exact ih (i + 1) _ m (by omega) (by omega)
  have := key xs.length 0 a0 fuel (by omega) hl
  rwa [List.drop_zero] at this
end Go.Proofs.Ytoojcpiigkmhiaa.Abs

