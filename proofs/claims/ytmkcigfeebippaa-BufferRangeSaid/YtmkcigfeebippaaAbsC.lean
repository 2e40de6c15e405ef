/-
  A walk over abstract states: its rules, part C.
-/
import Derived.Test.YtmkcigfeebippaaAbsB
import Derived.Laws.StructEq
import Derived.ProofKit
import Derived.LaidMore
import Derived.OpenShut
import Derived.MakeChecks
import Derived.RangeFuncOwn
import Derived.OrdersIn
/-
  The builtin copy into an own row; an own row that takes another one's place.
-/
namespace Go.Proofs.Ytmkcigfeebippaa.Abs
open Go.RowKit

theorem run_copy_any {P : Program} (w : World) (dT sT ty elem : TypeId) (g n m q dCap sCap sz : Nat) (ad : Option Addr) (cur : Array Value) (t : TypeId) (cs : List Value)
    (hu : P.underlying dT = some (.slice elem)) (hs : (P.info? elem).map (·.size) = some sz)
    (hg : w.heap[g]? = some (.cells cur t (0, 0))) (hq : Nat.min m n = q)
    (hsrc : (Builtin.firstCells sz q (.slice ad m sCap)).run P w = .ok cs.toArray w) (hfit : cs.length ≤ cur.size) (h1 : ∀ v ∈ cs, v.oneCell' = true) :
    (Builtin.copy_ #[dT, sT] ty #[.slice (some ⟨g, 0, none⟩) n dCap, .slice ad m sCap]).run P w =
      .ok (goInt (q : Nat)) (w.setRow g (cs ++ cur.toList.drop cs.length).toArray) := by
  have hst := run_storeCells_at P g 0 t cs 0 cur w hg (by simpa using hfit) h1
  simp only [Nat.zero_add, List.take_zero, List.nil_append] at hst
  cases hi0 : P.info? elem with
  | none => simp [hi0] at hs
  | some i =>
    have hi : i.size = sz := by simpa [hi0] using hs
    simp [Builtin.copy_, run_underlying hu, Builtin.lenOf, sizeOf, typeInfo, hi0, hi, hq, hsrc, hst]

theorem Rel.copy {P : Program} {c : Ctx} {st : AS} {a : Act} {w : World} {S : Stab} {H : Nat → Value} (r : Rel c st a w S H) {t t2 ty e sz p n m : Nat} {cs ys : List Lf} {y : Value}
    (ht : P.underlying t = some (.slice e)) (hi : (P.info? e).map (·.size) = some sz) (hm : st.m[p]? = some (.arr e sz 0 cs)) (hn : n * sz = cs.length) (hy : Rep w S (.sl m ys) y) (hyl : ys.length = m * sz) :
    ∃ w', (Builtin.copy_ #[t, t2] ty #[H p, y]).run P w = .ok (goInt (Nat.min m n : Nat)) w' ∧ Rel c ⟨st.t, st.m.set p (.arr e sz 0 (ys.take (Nat.min m n * sz) ++ cs.drop (Nat.min m n * sz)))⟩ a w' S H := by
  have hp : p < st.m.length := (List.getElem?_eq_some_iff.1 hm).1
  obtain ⟨hsz, hk, n0, vals, hown, hcs, hstb⟩ := r.bl p _ hm
  have hnn : n0 = n := ownsRow_n hown hsz (by rw [← hcs.1]; exact hn)
  subst hnn
  have hset : setH H p (H p) = H := by
    funext q
    by_cases e' : q = p
    · rw [e', setH_same]
    · exact setH_other H _ e'
  have hqm : Nat.min m n0 ≤ m := Nat.min_le_left _ _
  have hqn : Nat.min m n0 ≤ n0 := Nat.min_le_right _ _
  generalize hq : Nat.min m n0 = q at *
  have hqm' : q * sz ≤ m * sz := Nat.mul_le_mul_right _ hqm
  have hqn' : q * sz ≤ n0 * sz := Nat.mul_le_mul_right _ hqn
  -- the source's first cells
  have hsrc : ∃ ad cap news, y = .slice ad m cap ∧ news.length = q * sz ∧ (Builtin.firstCells sz q (.slice ad m cap)).run P w = .ok news.toArray w ∧ LsR (Rep w S) (ys.take (q * sz)) news := by
    cases hy with
    | sl0 ad cap =>
      have h0 : q = 0 := by omega
      subst h0
      refine ⟨ad, cap, [], rfl, by simp, ?_, by simp, fun j l v h => by simp at h⟩
      cases ad <;> simp [Builtin.firstCells, loadCells, loadCellsFrom]
    | sl m ys bk off cap vs hc hmx hs hr =>
      refine ⟨_, cap, (List.range (q * sz)).map vs, rfl, by simp, ?_, by rw [List.length_take, List.length_map, List.length_range, hyl]; exact Nat.min_eq_left hqm', fun j l u h1 h2 => ?_⟩
      · refine run_firstCells_some w sz q ⟨bk, off, none⟩ m cap _ (by simp) (fun j v hj => ?_)
        rw [List.getElem?_map] at hj
        have hjl : j < q * sz := by
          rcases Nat.lt_or_ge j (q * sz) with h | h
          · exact h
          · rw [List.getElem?_eq_none (by simpa using h)] at hj; cases hj
        rw [List.getElem?_range hjl] at hj
        cases hj
        rw [Addr.add_lit]
        exact (hs j _ (List.getElem?_eq_getElem (by omega))).2
      · rw [List.getElem?_take] at h1
        split at h1
        · rename_i hjl
          rw [List.getElem?_map, List.getElem?_range hjl] at h2
          cases h2
          exact hr j l h1
        · cases h1
  obtain ⟨ad, cap, news, rfl, hnl, hfc, hls⟩ := hsrc
  have hone : ∀ u ∈ news, u.oneCell' = true := by
    intro u hu
    obtain ⟨j, hj, hju⟩ := List.getElem_of_mem hu
    have hj' : j < (ys.take (q * sz)).length := by rw [hls.1]; exact hj
    exact Rep.oneCell (hls.2 j _ u (List.getElem?_eq_getElem hj') (by rw [List.getElem?_eq_getElem hj, hju]))
  rcases hown.2 with ⟨hv, h0⟩ | ⟨g, cp, cur, hv, hbg, hg, hnc, hcm, hcsz, htake⟩
  · subst h0
    have hq0 : q = 0 := by omega
    subst hq0
    have hn0 : news = [] := List.eq_nil_of_length_eq_zero (by rw [hnl, Nat.zero_mul])
    subst hn0
    have hsame : st.m.set p (.arr e sz 0 (ys.take (0 * sz) ++ cs.drop (0 * sz))) = st.m := by
      rw [Nat.zero_mul, List.take_zero, List.drop_zero, List.nil_append]
      apply List.ext_getElem?
      intro j
      by_cases e' : p = j
      · subst e'; rw [List.getElem?_set_self hp, hm]
      · rw [List.getElem?_set_ne e']
    refine ⟨w, ?_, by rw [hsame]; exact r⟩
    rw [hv]
    cases hq' : P.info? e with
    | none => simp [hq'] at hi
    | some i =>
      have hi' : i.size = sz := by simpa [hq'] using hi
      simp [Builtin.copy_, run_underlying ht, Builtin.lenOf, sizeOf, typeInfo, hq', hi', hfc, hq]
  · have hrun := run_copy_any (P := P) w t t2 ty e g n0 m q cp cap sz ad cur e news ht hi hg hq hfc (by
      have := hown.1
      have h3 := congrArg List.length htake
      rw [List.length_take, Array.length_toList] at h3
      omega) hone
    have hrow := setRow_heap w g cur (news ++ cur.toList.drop news.length).toArray e _ hg
    have hoth : ∀ b, b ≠ g → (w.setRow g (news ++ cur.toList.drop news.length).toArray).heap[b]? = w.heap[b]? := fun b hb => setRow_other w g b _ hb
    have hownp : (Blk.arr e sz 0 cs).own (H p) = some g := by rw [hv]; rfl
    have hkeep : ∀ b j, S b j → S b j ∧ (w.setRow g (news ++ cur.toList.drop news.length).toArray).cell? ⟨b, j, none⟩ = w.cell? ⟨b, j, none⟩ := by
      intro b j hS
      refine ⟨hS, ?_⟩
      by_cases hbg' : b = g
      · subst hbg'
        exact absurd (r.sb p _ b j hm hownp hS) (Nat.not_lt_zero _)
      · exact World.cell?_of_block (w := w) (hoth b hbg')
    have hvl : vals.length = n0 * sz := hown.1
    have hown' : (w.setRow g (news ++ cur.toList.drop news.length).toArray).ownsRow 0 e sz (H p) n0 (news ++ vals.drop (q * sz)) := by
      refine ⟨by rw [List.length_append, hnl, List.length_drop, hvl]; omega, .inr ⟨g, cp, _, hv, hbg, hrow, hnc, hcm, ?_, ?_⟩⟩
      · have := Nat.mul_le_mul_right sz hnc
        simp only [List.size_toArray, List.length_append, List.length_drop, Array.length_toList, hnl]; omega
      · simp only [List.length_append, List.length_drop, hnl, hvl]
        rw [List.take_append, hnl]
        have hq1 : news.take (n0 * sz) = news := List.take_of_length_le (by rw [hnl]; omega)
        rw [hq1, ← htake, List.drop_take]
    refine ⟨_, by rw [hv]; exact hrun, ?_⟩
    have hch := r.change (m' := st.m.set p (.arr e sz 0 (ys.take (q * sz) ++ cs.drop (q * sz)))) (p := p) (b' := .arr e sz 0 (ys.take (q * sz) ++ cs.drop (q * sz))) (v := H p) (w' := w.setRow g (news ++ cur.toList.drop news.length).toArray) (S' := S)
      (by simp) (by rw [List.getElem?_set_self hp]) (fun j hj => List.getElem?_set_ne (fun e => hj e.symm)) hkeep (fun _ _ _ => rfl)
      (fun e' sz' k' cs' _ h => by cases h; exact ⟨0, cs, hm, .inl ⟨by rw [List.length_append, List.length_take, List.length_drop, hyl]; omega, rfl⟩⟩)
      (fun g' _ hne => hoth g' (fun e' => hne _ hm (by rw [e']; exact hownp))) ?_ (fun g' hg' => ?_) (fun _ _ _ _ _ _ _ hs => hs) (fun _ _ _ _ hs => hs) ⟨fun b j hs => by simp; exact r.sl.1 b j hs, r.sl.2.mono hkeep⟩ (by simp) rfl rfl rfl
    · rw [hset] at hch; exact hch
    · rw [hset]
      refine ⟨hsz, Nat.zero_le _, n0, news ++ vals.drop (q * sz), hown', ?_, fun g' _ j hj => absurd hj (Nat.not_lt_zero _)⟩
      refine (LsR.append hls (y := vals.drop (q * sz)) (b := cs.drop (q * sz)) ⟨by rw [List.length_drop, List.length_drop, hcs.1], fun j l v h1 h2 => ?_⟩).mono (fun l v => Rep.mono hkeep)
      rw [List.getElem?_drop] at h1 h2
      exact hcs.2 _ l v h1 h2
    · have hg'' : g' = g := by
        have := hg'
        rw [hv] at this
        simp only [Blk.own, ownOf, Option.some.injEq] at this
        exact this.symm
      subst hg''
      exact ⟨(r.lo p _ g' hm hownp).1, by simp; exact (r.lo p _ g' hm hownp).2, fun j b hj hb ho => hj (r.inj j p b _ g' hb hm ho hownp), fun j hj => (show j < 0 from r.sb p _ g' j hm hownp hj)⟩

section
variable {P : Program} {c : Ctx} {t : Nat → AV} {m : List Blk} {ops : Array Oper} {Q : Exit → AS → Prop} {rest : List Oper} {ty : TypeId} {pos : String} {af : Array Edge} {d : Tmp} {α : Type} {f : α → List Lf} {sz : Nat}

theorem scopy {x y : Operand} {t' t2 e p n k : Nat} {cs ys : List Lf} {xs us : List α} (hd : decide (d < c.nt) = true) (si : P.underlying t' = some (.slice e)) (hi : (P.info? e).map (·.size) = some sz) (hf : ∀ x, (f x).length = sz)
    (hx : opnd ⟨t, m⟩ x = .s (.one (.ls p n))) (hm : m[p]? = some (.arr e sz k cs)) (hk : k = 0) (hcs : cs = xs.flatMap f) (hn : n = xs.length) (hy : opnd ⟨t, m⟩ y = .s (.one (.sl us.length ys))) (hys : ys = us.flatMap f)
    (kk : AWL P c ops Q rest ⟨upd t d (.s (.one (.i .i64 ((Nat.min us.length xs.length : Nat) : Int)))), m.set p (.arr e sz 0 ((us.take xs.length ++ xs.drop us.length).flatMap f))⟩) :
    AWL P c ops Q (⟨some d, .call { callee := .builtin .copy, args := #[x, y], argTypes := #[t', t2] }, ty, pos, af, none⟩ :: rest) ⟨t, m⟩ := by
  subst hcs hn hys hk
  intro a w S H r
  have hy' := opnd_rel r y
  rw [hy] at hy'
  have hx' := opnd_rel r x
  rw [hx] at hx'
  obtain ⟨_, _, hr⟩ := hx'
  have hH := (hr _ _ _ _ hm).2 (flat_len hf xs).symm
  obtain ⟨w', hrun, hrel⟩ := r.copy (P := P) (t2 := t2) (ty := ty) si hi hm (flat_len hf xs).symm (hy' : Rep w S (.sl us.length (us.flatMap f)) (a.eval y)) (flat_len hf us)
  refine wpList_plain rfl fun K hK => ?_
  unfold Oper.wp
  have hrun' : (execOp a.eval ⟨some d, .call { callee := .builtin .copy, args := #[x, y], argTypes := #[t', t2] }, ty, pos, af, none⟩).run P w = .ok (.value (goInt (Nat.min us.length xs.length : Nat))) w' := by
    simp [execOp, resolve, invoke, builtin, hH, hrun]
  rw [hrun']
  have e : (us.flatMap f).take (Nat.min us.length xs.length * sz) ++ (xs.flatMap f).drop (Nat.min us.length xs.length * sz) = (us.take xs.length ++ xs.drop us.length).flatMap f := by
    rw [List.flatMap_append]
    congr 1
    · have : us.flatMap f = (us.take xs.length).flatMap f ++ (us.drop xs.length).flatMap f := by rw [← List.flatMap_append, List.take_append_drop]
      rw [this]
      have hl : ((us.take xs.length).flatMap f).length = Nat.min us.length xs.length * sz := by rw [flat_len hf, List.length_take, Nat.min_comm]
      rw [← hl]
      exact List.take_left
    · have : xs.flatMap f = (xs.take us.length).flatMap f ++ (xs.drop us.length).flatMap f := by rw [← List.flatMap_append, List.take_append_drop]
      rw [this]
      have hl : ((xs.take us.length).flatMap f).length = Nat.min us.length xs.length * sz := by rw [flat_len hf, List.length_take]
      rw [← hl]
      exact List.drop_left
  rw [e] at hrel
  exact hK _ _ (kk _ _ _ _ (hrel.put (d := d) (x := .s (.one (.i .i64 ((Nat.min us.length xs.length : Nat) : Int)))) (of_decide_eq_true hd) (avr_rep (.i _ _))))
end

theorem copy_len {α : Type} (us xs : List α) : xs.length = (us.take xs.length ++ xs.drop us.length).length := by
  rw [List.length_append, List.length_take, List.length_drop]
  omega
/-! One own block takes another one's place. -/
def Lf.men0 (p : Nat) : Lf → Bool
  | .lp q _ => Nat.beq q p
  | .ls q _ => Nat.beq q p
  | .ap q _ _ => Nat.beq q p
  | _ => false
def Lf.men (p : Nat) : Lf → Bool
  | .lp q _ => Nat.beq q p
  | .ls q _ => Nat.beq q p
  | .ap q _ _ => Nat.beq q p
  | .fn _ la lb => la.any (Lf.men0 p) || lb.any (Lf.men0 p)
  | _ => false
def Lf.rnq0 (p q : Nat) : Lf → Lf
  | .lp r o => .lp (cond (Nat.beq r q) p r) o
  | .ls r n => .ls (cond (Nat.beq r q) p r) n
  | .ap r n o => .ap (cond (Nat.beq r q) p r) n o
  | l => l
def Lf.rnq (p q : Nat) : Lf → Lf
  | .lp r o => .lp (cond (Nat.beq r q) p r) o
  | .ls r n => .ls (cond (Nat.beq r q) p r) n
  | .ap r n o => .ap (cond (Nat.beq r q) p r) n o
  | .fn f la lb => .fn f (la.map (Lf.rnq0 p q)) (lb.map (Lf.rnq0 p q))
  | l => l
def SV.men (p : Nat) : SV → Bool
  | .one l => l.men p
  | .agg ls => ls.any (Lf.men p)
def SV.rnq (p q : Nat) : SV → SV
  | .one l => .one (l.rnq p q)
  | .agg ls => .agg (ls.map (Lf.rnq p q))
def AV.rnq (p q : Nat) : AV → AV
  | .s x => cond (x.men p) .top (.s (x.rnq p q))
  | .tup xs => cond (xs.any (SV.men p)) .top (.tup (xs.map (SV.rnq p q)))
  | .top => .top
def Blk.rnq (p q : Nat) : Blk → Blk
  | .box cs => cond (cs.any (Lf.men p)) .dead (.box (cs.map (Lf.rnq p q)))
  | b => b
theorem beqN {a b : Nat} : Nat.beq a b = decide (a = b) := by
  by_cases h : a = b
  · subst h; simp
  · rw [decide_eq_false h]
    cases hb : Nat.beq a b with
    | false => rfl
    | true => exact absurd (Nat.eq_of_beq_eq_true hb) h
theorem ren_ix {p q r : Nat} : cond (Nat.beq r q) p r = if r = q then p else r := by
  rw [beqN]
  by_cases h : r = q <;> simp [h]
theorem blk_ren_arr {p q : Nat} {b : Blk} {e sz k : Nat} {cs : List Lf} (h : b.rnq p q = .arr e sz k cs) : b = .arr e sz k cs := by
  cases b with
  | box cs' =>
    have h' : (cond (cs'.any (Lf.men p)) .dead (.box (cs'.map (Lf.rnq p q))) : Blk) = .arr e sz k cs := h
    cases hc : cs'.any (Lf.men p) <;> rw [hc] at h' <;> cases h'
  | arr _ _ _ _ => exact h
  | dead => cases h
  | hole => cases h
  | obj g mk cs => cases h
theorem blk_ren_own {p q : Nat} {b : Blk} {v : Value} {g : Nat} (h : (b.rnq p q).own v = some g) : b.own v = some g ∧ (b.rnq p q).stab = b.stab := by
  cases b with
  | box cs' =>
    have h' : (cond (cs'.any (Lf.men p)) .dead (.box (cs'.map (Lf.rnq p q))) : Blk).own v = some g := h
    show _ ∧ (cond (cs'.any (Lf.men p)) .dead (.box (cs'.map (Lf.rnq p q))) : Blk).stab = _
    cases hc : cs'.any (Lf.men p) <;> rw [hc] at h'
    · exact ⟨h', rfl⟩
    · cases h'
  | arr _ _ _ _ => exact ⟨h, rfl⟩
  | dead => exact ⟨h, rfl⟩
  | hole => exact ⟨h, rfl⟩
  | obj g mk cs => exact ⟨h, rfl⟩

theorem ren_rel {c : Ctx} {t : Nat → AV} {m : List Blk} {a : Act} {w : World} {S : Stab} {H : Nat → Value} (r : Rel c ⟨t, m⟩ a w S H) {p q : Nat} {b : Blk} (hp : c.m0.length ≤ p) (hq : c.m0.length ≤ q) (hne : p ≠ q) (hpl : p < m.length) (hb : m[q]? = some b) :
    Rel c ⟨fun i => (t i).rnq p q, ((m.map (Blk.rnq p q)).set p (b.rnq p q)).set q .dead⟩ a w S (setH H p (H q)) := by
  have hql : q < m.length := (List.getElem?_eq_some_iff.1 hb).1
  generalize hM : ((m.map (Blk.rnq p q)).set p (b.rnq p q)).set q .dead = m'
  have hml : m'.length = m.length := by rw [← hM]; simp
  have hmp : m'[p]? = some (b.rnq p q) := by
    rw [← hM, List.getElem?_set_ne (fun e => hne e.symm), List.getElem?_set_self (by simpa using hpl)]
  have hmq : m'[q]? = some .dead := by rw [← hM, List.getElem?_set_self (by simpa using hql)]
  have hmo : ∀ i, i ≠ p → i ≠ q → m'[i]? = (m[i]?).map (Blk.rnq p q) := fun i h1 h2 => by
    rw [← hM, List.getElem?_set_ne (fun e => h2 e.symm), List.getElem?_set_ne (fun e => h1 e.symm), List.getElem?_map]
  have hHp : setH H p (H q) p = H q := setH_same _ _ _
  have hHo : ∀ i, i ≠ p → setH H p (H q) i = H i := fun i h => setH_other H _ h
  -- where a place of the new memory comes from
  have hfrom : ∀ i b', m'[i]? = some b' → i = q ∧ b' = .dead ∨ i ≠ q ∧ ∃ b0, m[if i = p then q else i]? = some b0 ∧ b' = b0.rnq p q ∧ setH H p (H q) i = H (if i = p then q else i) := fun i b' h => by
    by_cases h1 : i = q
    · subst h1; rw [hmq] at h; cases h; exact .inl ⟨rfl, rfl⟩
    · refine .inr ⟨h1, ?_⟩
      by_cases h2 : i = p
      · subst h2
        rw [hmp] at h; cases h
        rw [if_pos rfl]
        exact ⟨b, hb, rfl, hHp⟩
      · rw [hmo i h2 h1] at h
        rw [if_neg h2]
        cases hmi : m[i]? with
        | none => rw [hmi] at h; cases h
        | some b0 => rw [hmi] at h; cases h; exact ⟨b0, rfl, rfl, hHo i h2⟩
  have hg0 : ∀ l v, l.men0 p = false → GRep0 w S m H l v → GRep0 w S m' (setH H p (H q)) (l.rnq0 p q) v := by
    intro l v hl h
    cases l with
    | lp r' o =>
      have hrp : r' ≠ p := by simpa [Lf.men0, beqN] using hl
      obtain ⟨h1, g, h2, h3⟩ := h
      show GRep0 w S m' _ (.lp (cond (Nat.beq r' q) p r') o) v
      rw [ren_ix]
      by_cases hrq : r' = q
      · rw [if_pos hrq]; exact ⟨by omega, g, by rw [hHp, ← hrq]; exact h2, h3⟩
      · rw [if_neg hrq]; exact ⟨by omega, g, by rw [hHo _ hrp]; exact h2, h3⟩
    | ls r' n =>
      have hrp : r' ≠ p := by simpa [Lf.men0, beqN] using hl
      obtain ⟨h1, h2, h3⟩ := h
      show GRep0 w S m' _ (.ls (cond (Nat.beq r' q) p r') n) v
      rw [ren_ix]
      by_cases hrq : r' = q
      · subst hrq
        rw [if_pos rfl]
        refine ⟨by omega, ⟨h2.1, by rw [hHp]; exact h2.2⟩, fun e sz k cs hm => ?_⟩
        rw [hmp] at hm
        have := h3 e sz k cs (by rw [hb, blk_ren_arr (Option.some.inj hm)])
        rw [hHp]; exact this
      · rw [if_neg hrq]
        refine ⟨by omega, ⟨h2.1, by rw [hHo _ hrp]; exact h2.2⟩, fun e sz k cs hm => ?_⟩
        rw [hmo _ hrp hrq] at hm
        rw [hHo _ hrp]
        cases hmi : m[r']? with
        | none => rw [hmi] at hm; cases hm
        | some b0 =>
          rw [hmi] at hm
          exact h3 e sz k cs (by rw [hmi, blk_ren_arr (Option.some.inj hm)])
    | ap r' n o =>
      have hrp : r' ≠ p := by simpa [Lf.men0, beqN] using hl
      obtain ⟨h1, h2, h3⟩ := h
      show GRep0 w S m' _ (.ap (cond (Nat.beq r' q) p r') n o) v
      rw [ren_ix]
      by_cases hrq : r' = q
      · subst hrq
        rw [if_pos rfl]
        refine ⟨by omega, ⟨h2.1, by rw [hHp]; exact h2.2⟩, fun e sz k cs hm => ?_⟩
        rw [hmp] at hm
        have := h3 e sz k cs (by rw [hb, blk_ren_arr (Option.some.inj hm)])
        rw [hHp]; exact this
      · rw [if_neg hrq]
        refine ⟨by omega, ⟨h2.1, by rw [hHo _ hrp]; exact h2.2⟩, fun e sz k cs hm => ?_⟩
        rw [hmo _ hrp hrq] at hm
        rw [hHo _ hrp]
        cases hmi : m[r']? with
        | none => rw [hmi] at hm; cases hm
        | some b0 =>
          rw [hmi] at hm
          exact h3 e sz k cs (by rw [hmi, blk_ren_arr (Option.some.inj hm)])
    | i k n => exact h
    | b x => exact h
    | s x => exact h
    | raw v => exact h
    | sl n cs => exact h
    | cp cs => exact h
    | nix => exact h
    | fn f a b => exact h
  have hgl : ∀ (ls : List Lf) (vs : List Value), ls.any (Lf.men0 p) = false → LsR (GRep0 w S m H) ls vs → LsR (GRep0 w S m' (setH H p (H q))) (ls.map (Lf.rnq0 p q)) vs := fun ls vs hl h =>
    ⟨by rw [List.length_map]; exact h.1, fun j l v h1 h2 => by
      rw [List.getElem?_map] at h1
      cases hlj : ls[j]? with
      | none => rw [hlj] at h1; cases h1
      | some l0 =>
        rw [hlj] at h1; cases h1
        refine hg0 l0 v ?_ (h.2 j l0 v hlj h2)
        have := List.any_eq_false.1 hl l0 (List.mem_of_getElem? hlj)
        simpa using this⟩
  have hg : ∀ l v, l.men p = false → GRep w S m H l v → GRep w S m' (setH H p (H q)) (l.rnq p q) v := by
    intro l v hl h
    cases l with
    | fn f a b =>
      obtain ⟨va, vb, hv, h1, h2⟩ := h
      have hl' : a.any (Lf.men0 p) = false ∧ b.any (Lf.men0 p) = false := by simpa [Lf.men, Bool.or_eq_false_iff] using hl
      exact ⟨va, vb, hv, hgl a _ hl'.1 h1, hgl b _ hl'.2 h2⟩
    | lp r' o => exact hg0 (.lp r' o) v hl h
    | ls r' n => exact hg0 (.ls r' n) v hl h
    | ap r' n o => exact hg0 (.ap r' n o) v hl h
    | i k n => exact h
    | b x => exact h
    | s x => exact h
    | raw v => exact h
    | sl n cs => exact h
    | cp cs => exact h
    | nix => exact h
  have hgL : ∀ (ls : List Lf) (vs : List Value), ls.any (Lf.men p) = false → LsR (GRep w S m H) ls vs → LsR (GRep w S m' (setH H p (H q))) (ls.map (Lf.rnq p q)) vs := fun ls vs hl h =>
    ⟨by rw [List.length_map]; exact h.1, fun j l v h1 h2 => by
      rw [List.getElem?_map] at h1
      cases hlj : ls[j]? with
      | none => rw [hlj] at h1; cases h1
      | some l0 =>
        rw [hlj] at h1; cases h1
        refine hg l0 v ?_ (h.2 j l0 v hlj h2)
        have := List.any_eq_false.1 hl l0 (List.mem_of_getElem? hlj)
        simpa using this⟩
  have hsv : ∀ (x : SV) (v : Value), x.men p = false → SVR (GRep w S m H) x v → SVR (GRep w S m' (setH H p (H q))) (x.rnq p q) v := by
    intro x v hx h
    cases x with
    | one l => exact hg l v hx h
    | agg ls =>
      obtain ⟨cs, rfl, h1⟩ := h
      exact ⟨cs, rfl, hgL ls _ hx h1⟩
  refine ⟨r.nt, r.df, fun i => ?_, fun i b' hb' => ?_, fun i b' g hb' ho => ?_, fun i i' b1 b2 g h1 h2 o1 o2 => ?_, fun i b' g j hb' ho hs => ?_, r.sl, r.ex, by show c.m0.length ≤ m'.length; rw [hml]; exact r.kl, fun i g hi hh => ?_, fun i e sz k cs hi hm => ?_, fun i hi hne0 => by rw [hHo i (by omega)]; exact r.ku i hi hne0⟩
  · have h := r.tm i
    show AVR _ ((t i).rnq p q) _
    generalize a.tmps.getD i undef = v at h
    cases ht : t i with
    | s x =>
      show AVR _ (cond (x.men p) .top (.s (x.rnq p q))) _
      cases hx : x.men p with
      | true => trivial
      | false => exact hsv x v hx (by have h' : AVR _ (t i) v := h; rw [ht] at h'; exact h')
    | tup xs =>
      show AVR _ (cond (xs.any (SV.men p)) .top (.tup (xs.map (SV.rnq p q)))) _
      cases hx : xs.any (SV.men p) with
      | true => trivial
      | false =>
        have h' : AVR (GRep w S m H) (t i) v := h
        rw [ht] at h'
        obtain ⟨vs, rfl, h1, h2⟩ := h'
        refine ⟨vs, rfl, by rw [List.length_map]; exact h1, fun j x u hj hu => ?_⟩
        rw [List.getElem?_map] at hj
        cases hlj : xs[j]? with
        | none => rw [hlj] at hj; cases hj
        | some x0 =>
          rw [hlj] at hj; cases hj
          refine hsv x0 u ?_ (h2 j x0 u hlj hu)
          have := List.any_eq_false.1 hx x0 (List.mem_of_getElem? hlj)
          simpa using this
    | top => trivial
  · rcases hfrom i b' hb' with ⟨_, rfl⟩ | ⟨_, b0, h1, rfl, h2⟩
    · trivial
    · have hr := r.bl _ _ h1
      rw [h2]
      cases b0 with
      | dead => trivial
      | hole => exact hr
      | obj g mk cs => exact hr
      | box cs =>
        show BlkR 0 w S m' _ (cond (cs.any (Lf.men p)) .dead (.box (cs.map (Lf.rnq p q)))) _
        cases hx : cs.any (Lf.men p) with
        | true => trivial
        | false =>
          obtain ⟨g, e, cur, h3, h4, h5⟩ := hr
          exact ⟨g, e, cur, h3, h4, hgL cs _ hx h5⟩
      | arr e sz k cs =>
        obtain ⟨h0, hk1, n, vals, h3, h4, h5⟩ := hr
        exact ⟨h0, hk1, n, vals, h3, h4, h5⟩
  · rcases hfrom i b' hb' with ⟨_, rfl⟩ | ⟨_, b0, h1, rfl, h2⟩
    · cases ho
    · rw [h2] at ho
      exact r.lo _ b0 g h1 (blk_ren_own ho).1
  · rcases hfrom i b1 h1 with ⟨_, rfl⟩ | ⟨n1, b0, h3, rfl, h4⟩
    · cases o1
    rcases hfrom i' b2 h2 with ⟨_, rfl⟩ | ⟨n2, b0', h5, rfl, h6⟩
    · cases o2
    rw [h4] at o1
    rw [h6] at o2
    have := r.inj _ _ b0 b0' g h3 h5 (blk_ren_own o1).1 (blk_ren_own o2).1
    by_cases e1 : i = p <;> by_cases e2 : i' = p
    · rw [e1, e2]
    · rw [if_pos e1, if_neg e2] at this; exact absurd this.symm n2
    · rw [if_neg e1, if_pos e2] at this; exact absurd this n1
    · rw [if_neg e1, if_neg e2] at this; exact this
  · rcases hfrom i b' hb' with ⟨_, rfl⟩ | ⟨_, b0, h1, rfl, h2⟩
    · cases ho
    · rw [h2] at ho
      rw [(blk_ren_own ho).2]
      exact r.sb _ b0 g j h1 (blk_ren_own ho).1 hs
  · rw [hHo i (by omega)]
    exact r.kh i g hi hh
  · have hm' : m'[i]? = some (.arr e sz k cs) := hm
    rw [hmo i (by omega) (by omega)] at hm'
    rw [hHo i (by omega)]
    cases hmi : m[i]? with
    | none => rw [hmi] at hm'; cases hm'
    | some b0 =>
      rw [hmi] at hm'
      exact r.kr i e sz k cs hi (by show m[i]? = _; rw [hmi, blk_ren_arr (Option.some.inj hm')])

section
variable {P : Program} {c : Ctx} {t : Nat → AV} {m : List Blk} {ops : Array Oper} {Q : Exit → AS → Prop}
theorem cren {x : Code} (p q : Nat) {b : Blk} (hp : Nat.ble c.m0.length p = true) (hq : Nat.ble c.m0.length q = true) (hne : Nat.beq p q = false) (hpl : Nat.blt p m.length = true) (hb : m[q]? = some b)
    (k : AWC P c x Q ⟨fun i => (t i).rnq p q, ((m.map (Blk.rnq p q)).set p (b.rnq p q)).set q .dead⟩) : AWC P c x Q ⟨t, m⟩ :=
  awc_of _ (fun _ _ S H r => ⟨S, _, ren_rel r (Nat.le_of_ble_eq_true hp) (Nat.le_of_ble_eq_true hq) (Nat.ne_of_beq_eq_false hne) (Nat.le_of_ble_eq_true hpl) hb⟩) k
theorem sren {l : List Oper} (p q : Nat) {b : Blk} (hp : Nat.ble c.m0.length p = true) (hq : Nat.ble c.m0.length q = true) (hne : Nat.beq p q = false) (hpl : Nat.blt p m.length = true) (hb : m[q]? = some b)
    (k : AWL P c ops Q l ⟨fun i => (t i).rnq p q, ((m.map (Blk.rnq p q)).set p (b.rnq p q)).set q .dead⟩) : AWL P c ops Q l ⟨t, m⟩ :=
  awl_of _ (fun _ _ S H r => ⟨S, _, ren_rel r (Nat.le_of_ble_eq_true hp) (Nat.le_of_ble_eq_true hq) (Nat.ne_of_beq_eq_false hne) (Nat.le_of_ble_eq_true hpl) hb⟩) k
end
end Go.Proofs.Ytmkcigfeebippaa.Abs

/-
  Blocks that are laid in a region that draws its order: a place is kept free for each.
-/
namespace Go.Proofs.Ytmkcigfeebippaa.Abs
open Go.RowKit

/-- A place kept free. -/
theorem hole_rel {c : Ctx} {t : Nat → AV} {m : List Blk} {a : Act} {w : World} {S : Stab} {H : Nat → Value} (r : Rel c ⟨t, m⟩ a w S H) : Rel c ⟨t, m ++ [.hole]⟩ a w S (setH H m.length undef) := by
  refine r.change (p := m.length) (b' := .hole) (v := undef) (by simp) (by simp) (fun q hq => ?_) (fun b i h => ⟨h, rfl⟩) (fun g h => absurd h (Nat.lt_irrefl _)) (fun e sz k cs h => absurd h (Nat.lt_irrefl _))
    (fun g _ _ => rfl) rfl (fun g hg => by cases hg) (fun q b g i _ _ _ h => h) (fun g i _ _ h => h) r.sl (Nat.le_refl _) rfl rfl rfl (fun _ h => absurd h (Nat.lt_irrefl _))
  rcases Nat.lt_or_ge q m.length with h | h
  · rw [List.getElem?_append_left h]
  · rw [List.getElem?_eq_none (by simp; omega), List.getElem?_eq_none h]
/-- The place taken by a box. -/
theorem Rel.fillBox {c : Ctx} {t : Nat → AV} {m : List Blk} {a : Act} {w : World} {S : Stab} {H : Nat → Value} (r : Rel c ⟨t, m⟩ a w S H) {p : Nat} (hm : m[p]? = some .hole) {e : TypeId} {cells : Array Value} {ls : List Lf} (hls : LsR (GRep w S m H) ls cells.toList) :
    Rel c ⟨t, m.set p (.box ls)⟩ a (w.alloc (.cells cells e)) S (setH H p (.pointer (some ⟨w.heap.size, 0, none⟩))) := by
  have hx : Ext w S (w.alloc (.cells cells e)) S := Ext.alloc w S _
  have hp : p < m.length := (List.getElem?_eq_some_iff.1 hm).1
  have hH : H p = undef := r.bl p _ hm
  have hf := r.fresh (Nat.le_refl w.heap.size)
  have hkeep : ∀ b i, S b i → S b i ∧ (w.alloc (.cells cells e)).cell? ⟨b, i, none⟩ = w.cell? ⟨b, i, none⟩ := fun b i h => hx.keeps r.sl b i h
  have hoth : ∀ q, q ≠ p → (m.set p (.box ls))[q]? = m[q]? := fun q hq => List.getElem?_set_ne (fun e => hq e.symm)
  have hgr : ∀ l v, GRep w S m H l v → GRep (w.alloc (.cells cells e)) S (m.set p (.box ls)) (setH H p (.pointer (some ⟨w.heap.size, 0, none⟩))) l v := fun l v =>
    GRep.mono2 hkeep (by simp) (fun q g hq hh => by
      by_cases e1 : q = p
      · subst e1; exact (undef_ne (hH.symm.trans hh)).elim
      · exact setH_other H _ e1) (fun q _ hne => by
      by_cases e1 : q = p
      · subst e1; exact absurd hH hne
      · rw [setH_other H _ e1]; exact hne) (fun q e1 sz k cs hq hm1 => by
      by_cases e2 : q = p
      · subst e2; rw [List.getElem?_set_self hp] at hm1; cases hm1
      · rw [hoth q e2] at hm1
        exact ⟨k, cs, hm1, .inl ⟨rfl, setH_other H _ e2⟩⟩)
  refine r.change (p := p) (b' := .box ls) (by simp) (List.getElem?_set_self hp) hoth hkeep (fun g _ h => (undef_ne (hH.symm.trans h)).elim) (fun e sz k cs _ h => by cases h)
    (fun g hg _ => hx.blk g hg) ⟨w.heap.size, e, cells, rfl, heap_alloc_new w _, hls.mono hgr⟩ (fun g hg => ?_) (fun q b g i _ _ _ h => h) (fun g i _ _ h => h) (r.sl.ext hx) hx.size rfl rfl rfl
  have hg' : w.heap.size = g := by simpa [Blk.own, ownOf] using hg
  subst hg'
  exact ⟨.inl r.ex.size, by simp, fun q b _ hb => hf.1 q b hb, fun i hi => absurd hi (hf.2 i)⟩

section
variable {P : Program} {c : Ctx} {t : Nat → AV} {m : List Blk} {ops : Array Oper} {Q : Exit → AS → Prop} {rest : List Oper} {ty : TypeId} {pos : String} {af : Array Edge} {d : Tmp}
theorem chole {x : Code} (k : AWC P c x Q ⟨t, m ++ [.hole]⟩) : AWC P c x Q ⟨t, m⟩ := awc_of _ (fun _ _ S _ r => ⟨S, _, hole_rel r⟩) k
theorem salloc_at {tt : TypeId} {zl : List Lf} (p : Nat) (hd : decide (d < c.nt) = true) (zi : ZI P tt zl) (hm : m[p]? = some .hole)
    (k : AWL P c ops Q rest ⟨upd t d (.s (.one (.lp p 0))), m.set p (.box zl)⟩) : AWL P c ops Q (⟨some d, .alloc tt, ty, pos, af, none⟩ :: rest) ⟨t, m⟩ := by
  obtain ⟨i, z, hi, hz, hl, ho⟩ := zi.h
  subst hl
  intro a w S H r
  refine wpList_plain rfl fun K hK => ?_
  unfold Oper.wp
  have hrun : (execOp a.eval ⟨some d, .alloc tt, ty, pos, af, none⟩).run P w = .ok (.value (.pointer (some ⟨w.heap.size, 0, none⟩))) (w.alloc (.cells z.cells tt)) := by simp [execOp, Instr.alloc, zeroValue, typeInfo, hi, hz, newVar, newRow]
  rw [hrun]
  have r' := r.fillBox (e := tt) (cells := z.cells) hm (clf_list ho)
  have hp : p < m.length := (List.getElem?_eq_some_iff.1 hm).1
  exact hK _ _ (k _ _ _ _ (r'.put (d := d) (x := .s (.one (.lp p 0))) (of_decide_eq_true hd) ⟨by simpa using hp, w.heap.size, setH_same _ _ _, rfl⟩))
theorem sbox_at {tt : TypeId} {y : Operand} {x : SV} (p : Nat) (hd : decide (d < c.nt) = true) (hx : opnd ⟨t, m⟩ y = .s x) (hm : m[p]? = some .hole)
    (k : AWL P c ops Q rest ⟨upd t d (.s (.one (.lp p 0))), m.set p (.box x.cells)⟩) : AWL P c ops Q (⟨some d, .box tt y, ty, pos, af, none⟩ :: rest) ⟨t, m⟩ := by
  intro a w S H r
  have hy := opnd_rel r y
  rw [hx] at hy
  have hls := svr_cells hy (fun l v => GRep.oneCell)
  refine wpList_plain rfl fun K hK => ?_
  unfold Oper.wp
  have hrun : (execOp a.eval ⟨some d, .box tt y, ty, pos, af, none⟩).run P w = .ok (.value (.pointer (some ⟨w.heap.size, 0, none⟩))) (w.alloc (.cells (a.eval y).cells tt)) := by simp [execOp, Instr.box, newVar, newRow]
  rw [hrun]
  have r' := r.fillBox (e := tt) (cells := (a.eval y).cells) hm hls
  have hp : p < m.length := (List.getElem?_eq_some_iff.1 hm).1
  exact hK _ _ (k _ _ _ _ (r'.put (d := d) (x := .s (.one (.lp p 0))) (of_decide_eq_true hd) ⟨by simpa using hp, w.heap.size, setH_same _ _ _, rfl⟩))
end
end Go.Proofs.Ytmkcigfeebippaa.Abs

/-
  Structures held against one another.
-/
namespace Go.Proofs.Ytmkcigfeebippaa.Abs
open Go.RowKit

def eqLf : Lf → Lf → Option Bool
  | .i k n, .i k' m => if k = k' then some (decide (n = m)) else none
  | .b x, .b y => some (x == y)
  | .s x, .s y => some (x.toList == y.toList)
  | _, _ => none
def eqLs : List Lf → List Lf → Option Bool
  | [], [] => some true
  | a :: l, b :: r => match eqLf a b, eqLs l r with
    | some x, some y => some (x && y)
    | _, _ => none
  | _, _ => none
def Lf.tag : Lf → Nat
  | .i _ _ => 0
  | .b _ => 1
  | .s _ => 2
  | _ => 3
def tagOf : Option TypeDesc → Nat
  | some (.int _) => 0
  | some .bool => 1
  | some .string => 2
  | _ => 4
/-- Fields of one cell each, one behind the other. -/
def flatF (P : Program) : Nat → List Field → List Nat → Bool
  | _, [], [] => true
  | i, f :: r, k :: ks => f.name != "_" && f.offset == i && tagOf (P.underlying f.type) == k && flatF P (i + 1) r ks
  | _, _, _ => false

theorem part_flat {P : Program} {w : World} {t : TypeId} {xs : Array Value} {i : Nat} {v : Value} (h : tagOf (P.underlying t) < 4) (hv : xs[i]? = some v) : (part t xs i).run P w = .ok v w := by
  cases hu : P.underlying t with
  | none => rw [hu] at h; simp [tagOf] at h
  | some d => rw [hu] at h; cases d <;> simp [tagOf] at h <;> simp [part, isAgg, run_underlying hu, hv]

theorem eqFields_flat {P : Program} {S : Stab} {m : List Blk} {H : Nat → Value} {w : World} {d : Nat} {xs ys : Array Value} : ∀ (fs : List Field) (i : Nat) (ls ls' : List Lf) (b : Bool), flatF P i fs (ls.map Lf.tag) = true → ls.map Lf.tag = ls'.map Lf.tag → eqLs ls ls' = some b →
    (∀ j l, ls[j]? = some l → ∃ v, xs[i + j]? = some v ∧ GRep w S m H l v) → (∀ j l, ls'[j]? = some l → ∃ v, ys[i + j]? = some v ∧ GRep w S m H l v) →
    (Op.eqFields (d + 1) xs ys fs).run P w = .ok b w
  | [], i, ls, ls', b, hf, _, he, _, _ => by
    cases ls with
    | cons _ _ => cases hf
    | nil =>
      cases ls' with
      | nil => cases he; rfl
      | cons _ _ => cases he
  | f :: fs, i, [], ls', b, hf, _, _, _, _ => by cases hf
  | f :: fs, i, l :: ls, [], b, _, _, he, _, _ => by cases he
  | f :: fs, i, l :: ls, l' :: ls', b, hf, hl, he, hx, hy => by
    simp only [List.map_cons, flatF, Bool.and_eq_true, bne_iff_ne, ne_eq, beq_iff_eq] at hf
    obtain ⟨⟨⟨h1, h2⟩, h3⟩, h4⟩ := hf
    simp only [List.map_cons, List.cons.injEq] at hl
    obtain ⟨hl1, hl2⟩ := hl
    obtain ⟨v, hv, hr⟩ := hx 0 l rfl
    obtain ⟨v', hv', hr'⟩ := hy 0 l' rfl
    unfold eqLs at he
    cases e1 : eqLf l l' with
    | none => rw [e1] at he; cases he
    | some x =>
    cases e2 : eqLs ls ls' with
    | none => rw [e1, e2] at he; cases he
    | some y =>
    rw [e1, e2] at he
    obtain rfl : (x && y) = b := Option.some.inj he
    have ht4 : tagOf (P.underlying f.type) < 4 := by
      rw [h3]; cases l <;> simp [Lf.tag]
    have heq : (Op.equalIn (d + 1) f.type v v').run P w = .ok x w := by
      cases hu : P.underlying f.type with
      | none => rw [hu] at ht4; simp [tagOf] at ht4
      | some dd =>
        rw [hu] at h3
        cases l <;> cases l' <;> simp only [eqLf, reduceCtorEq, Option.some.injEq] at e1
        · rename_i k n k' m'
          by_cases hk : k = k'
          · subst hk
            rw [if_pos rfl] at e1
            obtain rfl := Option.some.inj e1
            have q1 : v = _ := rep_i hr
            have q2 : v' = _ := rep_i hr'
            subst q1 q2
            cases dd <;> simp [tagOf, Lf.tag] at h3
            exact (run_equalIn_int w d f.type _ _ _ _ hu).trans (by rw [go_beq])
          · rw [if_neg hk] at e1; cases e1
        · subst e1
          have q1 : v = _ := rep_b hr
          have q2 : v' = _ := rep_b hr'
          subst q1 q2
          cases dd <;> simp [tagOf, Lf.tag] at h3
          simp [Op.equalIn, run_underlying hu]
        · subst e1
          have q1 : v = _ := rep_s hr
          have q2 : v' = _ := rep_s hr'
          subst q1 q2
          cases dd <;> simp [tagOf, Lf.tag] at h3
          simp [Op.equalIn, run_underlying hu, beq_toListBytes]
    have ih := eqFields_flat (d := d) fs (i + 1) ls ls' y h4 hl2 e2 (fun j l h => by have := hx (j + 1) l (by simpa using h); rwa [show i + (j + 1) = i + 1 + j by omega] at this) (fun j l h => by have := hy (j + 1) l (by simpa using h); rwa [show i + (j + 1) = i + 1 + j by omega] at this)
    unfold Op.eqFields
    rw [Nat.add_zero] at hv hv'
    rw [if_pos h1, h2]
    simp only [Sem.run_bind, part_flat ht4 hv, part_flat ht4 hv', Result.andThen_ok, heq]
    cases x
    · simp
    · simp [ih]

section
variable {P : Program} {c : Ctx} {st : AS} {ty : TypeId} {xt yt : TypeId} {x y : Operand}
structure EqT (P : Program) (t : TypeId) (n : List Nat) : Prop where
  u : P.underlying t = some (.struct (P.fieldsOf t))
  h : P.stoodInHeld t = false
  g : P.eqGuardType P.depth t = false
  f : flatF P 0 (P.fieldsOf t).toList n = true
theorem eq_run {n : List Nat} (et : EqT P xt n) {ls ls' : List Lf} {b : Bool} (hx : opnd st x = .s (.agg ls)) (hy : opnd st y = .s (.agg ls')) (hn : ls.map Lf.tag = n) (hn' : ls'.map Lf.tag = n) (he : eqLs ls ls' = some b) {a : Act} {w : World} {S : Stab} {H : Nat → Value} (r : Rel c st a w S H) :
    ∃ cs cs' : Array Value, a.eval x = .agg cs ∧ a.eval y = .agg cs' ∧ (Op.equalIn 10000 xt (.agg cs) (.agg cs')).run P w = .ok b w := by
  have h1 := opnd_rel r x
  rw [hx] at h1
  have h2 := opnd_rel r y
  rw [hy] at h2
  obtain ⟨cs, e1, g1⟩ := h1
  obtain ⟨cs', e2, g2⟩ := h2
  refine ⟨cs, cs', e1, e2, ?_⟩
  rw [run_equalIn_struct w 9999 xt cs cs' et.u et.h]
  refine eqFields_flat (d := 9998) (S := S) (m := st.m) (H := H) _ 0 ls ls' b (by rw [hn]; exact et.f) (hn.trans hn'.symm) he (fun j l h => ?_) (fun j l h => ?_)
  · obtain ⟨v, hv, hr⟩ := g1.get h
    exact ⟨v, by simpa using hv, hr⟩
  · obtain ⟨v, hv, hr⟩ := g2.get h
    exact ⟨v, by simpa using hv, hr⟩
theorem opv_steql {n : List Nat} (et : EqT P xt n) {ls ls' : List Lf} {b : Bool} (hx : opnd st x = .s (.agg ls)) (hy : opnd st y = .s (.agg ls')) (hn : ls.map Lf.tag = n) (hn' : ls'.map Lf.tag = n) (he : eqLs ls ls' = some b) : OpV P c st (.binOp .eql xt x y yt) ty (.s (.one (.b b))) := by
  intro a w S H r
  obtain ⟨cs, cs', e1, e2, h⟩ := eq_run et hx hy hn hn' he r
  refine ⟨.bool b, avr_rep (.b _), fun _ _ _ _ => ?_⟩
  simp only [execOp, e1, e2, Sem.run_bind, run_eqGuard_agg w _ xt x y cs cs' et.g, Result.andThen_ok, run_eql_struct, h]
  rfl
theorem opv_stneq {n : List Nat} (et : EqT P xt n) {ls ls' : List Lf} {b : Bool} (hx : opnd st x = .s (.agg ls)) (hy : opnd st y = .s (.agg ls')) (hn : ls.map Lf.tag = n) (hn' : ls'.map Lf.tag = n) (he : eqLs ls ls' = some b) : OpV P c st (.binOp .neq xt x y yt) ty (.s (.one (.b (!b)))) := by
  intro a w S H r
  obtain ⟨cs, cs', e1, e2, h⟩ := eq_run et hx hy hn hn' he r
  refine ⟨.bool (!b), avr_rep (.b _), fun _ _ _ _ => ?_⟩
  simp only [execOp, e1, e2, Sem.run_bind, run_eqGuard_agg w _ xt x y cs cs' et.g, Result.andThen_ok, run_neq_struct, h]
  rfl
end
end Go.Proofs.Ytmkcigfeebippaa.Abs

/-
  The program's own tables: an element of one; that they are as the row says.
-/
namespace Go.Proofs.Ytmkcigfeebippaa.Abs
open Go.RowKit

section
variable {P : Program} {c : Ctx} {st : AS} {ty : TypeId} {α : Type} {f : α → List Lf} {sz : Nat}
/-- An element of a table. -/
theorem opv_gix {t n e g : Nat} {y : Operand} {cs : List Lf} {xs : List α} {k : IntKind} {j : Int} {u : α} (ai : AI P t n e sz) (hf : ∀ x, (f x).length = sz) (hG : (g, cs) ∈ GL) (hcs : cs = xs.flatMap f) (hn : n = xs.length) (hy : opnd st y = .s (.one (.i k j))) (h : idx xs j = some u) :
    OpV P c st (.indexAddr t (.global g) y) ty (.s (.one (.cp (f u ++ (xs.drop (j.toNat + 1)).flatMap f)))) := by
  intro a w S H r
  obtain ⟨h0, h1⟩ := idx_eq h
  have h2 := (idx_lt h).2
  have hx : GRep w S st.m H (.cp cs) (.pointer (some ⟨g, 0, none⟩)) := r.sl.2 _ hG
  have hy' := opnd_rel r y
  rw [hy] at hy'
  have ey : a.eval y = .int k j := rep_i hy'
  obtain ⟨g', o, hv, hr⟩ := adv_rel (l := .cp cs) rfl hx (fun _ _ _ h => by cases h)
  cases hv
  have hj : j < n := by rw [hn]; exact h2
  have h3 := hr (j.toNat * sz)
  have e1 : (Lf.cp cs).adv (j.toNat * sz) = .cp (f u ++ (xs.drop (j.toNat + 1)).flatMap f) := by
    show Lf.cp (cs.drop (j.toNat * sz)) = _
    rw [hcs, flat_at hf h1]
  rw [e1] at h3
  refine ⟨_, h3, fun _ _ _ _ => ?_⟩
  have hadd : (⟨g, 0, none⟩ : Addr).add (j.toNat * sz) = ⟨g, 0 + j.toNat * sz, none⟩ := Addr.add_lit _ _ _
  have ev : a.eval (.global g) = .pointer (some ⟨g, 0, none⟩) := rfl
  simp [execOp, ev, ey, Instr.indexAt, asIntOf, Instr.sureAddr, run_underlying ai.u, h0, hj, run_sizeOf' ai.i, hadd]
end

/-- A table of truth values, as a row tells it. -/
def tabD {H : Type} (rows : List (List Bool)) : DataW H := .agg (rows.map fun r => .agg (r.map fun b => .lit (.bool b)))

/-- Are the parts truth values, one behind the other? -/
def boolFields (P : Program) : List Field → Nat → Bool
  | [], _ => true
  | f :: fs, i => f.offset == i && (P.cellsOf f.type == 1 && ((match P.underlying f.type with | some .bool => true | _ => false) && boolFields P fs (i + 1)))
theorem boolFields_at {P : Program} : ∀ {fs : List Field} {i j : Nat} {f : Field}, boolFields P fs i = true → fs[j]? = some f → f.offset = i + j ∧ P.cellsOf f.type = 1 ∧ P.underlying f.type = some .bool
  | f :: fs, i, 0, g, h, hg => by
    simp only [boolFields, Bool.and_eq_true, beq_iff_eq] at h
    simp at hg; subst hg
    refine ⟨h.1, h.2.1, ?_⟩
    have := h.2.2.1
    split at this
    · assumption
    · cases this
  | f :: fs, i, j + 1, g, h, hg => by
    simp only [boolFields, Bool.and_eq_true] at h
    obtain ⟨a, b, c⟩ := boolFields_at (j := j) h.2.2.2 (by simpa using hg)
    exact ⟨by omega, b, c⟩
  | [], i, j, g, h, hg => by simp at hg

theorem tab_cells {P : Program} {H : Type} {enc : TypeId × Value → H} {w : World} {base fuel t n e k : Nat} {spare : Nat → Bool} {held : Bool} {fs : Array Field} {cs : List Value} {rows : List (List Bool)} {q : List MemPlace}
    (ht : P.underlying t = some (.array n e)) (he : P.underlying e = some (.struct fs)) (hk : P.cellsOf e = k) (hb : boolFields P fs.toList 0 = true)
    (h : DataW.trod enc P w base spare held fuel t cs = some (tabD rows, q)) :
    ∀ (i j : Nat) (r : List Bool) (b : Bool), rows[i]? = some r → r[j]? = some b → j < k ∧ cs[i * k + j]? = some (.bool b) := by
  intro i j r b hi hj
  obtain ⟨xs, m, rfl, hx, hlen, hxl, hel⟩ := DataW.trod_array ht h
  simp only [tabD, Prod.mk.injEq, DataW.agg.injEq] at hx
  have hx1 := hx.1
  have hin : i < n := by
    have := congrArg List.length hx1
    simp at this
    have := (List.getElem?_eq_some_iff.1 hi).1
    omega
  have hE := hel i hin
  have hxi : xs[i]? = some (xs[i]'(by omega)) := List.getElem?_eq_getElem _
  have hd : (xs[i]'(by omega)).1 = .agg (r.map fun b => .lit (.bool b)) := by
    have := congrArg (fun l => l[i]?) hx1
    simp only [List.getElem?_map, hi, hxi, Option.map_some, Option.some.injEq] at this
    exact this.symm
  rw [hxi, hk] at hE
  obtain ⟨ys, m', rfl, hy, hlen', hyl, hel'⟩ := DataW.trod_struct he hE
  rw [hy] at hd
  simp only [DataW.agg.injEq] at hd
  have hjn : j < fs.size := by
    have := congrArg List.length hd
    simp at this
    have := (List.getElem?_eq_some_iff.1 hj).1
    omega
  obtain ⟨f1, f2, f3⟩ := boolFields_at (j := j) hb (f := fs[j]) (by simp [hjn])
  have hE' := hel' j fs[j] (by simp [hjn])
  have hyj : ys[j]? = some (ys[j]'(by omega)) := List.getElem?_eq_getElem _
  have hdj : (ys[j]'(by omega)).1 = .lit (.bool b) := by
    have := congrArg (fun l => l[j]?) hd
    simp only [List.getElem?_map, hj, hyj, Option.map_some, Option.some.injEq] at this
    exact this
  rw [hyj, f2] at hE'
  obtain ⟨b', hc, hv⟩ := DataW.trod_bool f3 hE'
  rw [hv] at hdj
  simp only [DataW.lit.injEq, Lit.bool.injEq] at hdj
  subst hdj
  have e1 := congrArg (fun l => l[0]?) hc
  simp only [List.getElem?_cons_zero, List.getElem?_take, List.getElem?_drop, f1] at e1
  have hjk : j < k := by
    by_cases hjk : j < k
    · exact hjk
    · have : (0 + j + 0) = j := by omega
      rw [this, if_neg hjk] at e1
      simp at e1
  refine ⟨hjk, ?_⟩
  have e2 : (0 + j + 0) = j := by omega
  rw [e2, if_pos hjk] at e1
  simpa using e1

theorem flat_ix {α : Type} {k : Nat} : ∀ {rows : List (List α)} {p : Nat} {x : α}, (∀ r ∈ rows, r.length = k) → rows.flatten[p]? = some x → ∃ i j r, rows[i]? = some r ∧ r[j]? = some x ∧ p = i * k + j
  | [], p, x, _, h => by simp at h
  | r :: rows, p, x, hk, h => by
    rw [List.flatten_cons] at h
    by_cases hp : p < r.length
    · rw [List.getElem?_append_left hp] at h
      exact ⟨0, p, r, rfl, h, by simp⟩
    · rw [List.getElem?_append_right (by omega)] at h
      obtain ⟨i, j, r', h1, h2, h3⟩ := flat_ix (fun r hr => hk r (List.mem_cons_of_mem _ hr)) h
      refine ⟨i + 1, j, r', by simpa using h1, h2, ?_⟩
      have := hk r (List.mem_cons_self ..)
      rw [Nat.add_mul]; omega

/-- What the row says of a table, out of the row's condition. -/
theorem tab_rep {P : Program} {W : World} {name : String} {g t n e k : Nat} {fs : Array Field} {rows : List (List Bool)} (h : laidMetH P [(name, tabD rows)] W)
    (hg : P.globalNamed name = some g) (htp : (P.globals[g]?).map (·.type) = some t) (ht : P.underlying t = some (.array n e)) (he : P.underlying e = some (.struct fs)) (hk : P.cellsOf e = k) (hb : boolFields P fs.toList 0 = true)
    (hr : ∀ r ∈ rows, r.length = k) : Rep W (allS W) (.cp (rows.flatten.map .b)) (.pointer (some ⟨g, 0, none⟩)) := by
  rw [MakeChecks.laidMetH_plain _ _ _ rfl] at h
  obtain ⟨ps, ⟨g0, t0, cs0, f0, p0, q0, hg0, ht0, hv0, hd0, _, _⟩, _, _⟩ := h
  obtain rfl := Option.some.inj (hg.symm.trans hg0)
  obtain rfl := Option.some.inj (htp.symm.trans ht0)
  have hc : ∀ (j : Nat) (l : Lf), (rows.flatten.map Lf.b)[j]? = some l → ∃ b, l = .b b ∧ W.cell? ⟨g, 0 + j, none⟩ = some (.bool b) := by
    intro j l hj
    rw [List.getElem?_map] at hj
    cases hx : rows.flatten[j]? with
    | none => rw [hx] at hj; cases hj
    | some b =>
      rw [hx] at hj
      cases hj
      obtain ⟨i, j', r, h1, h2, h3⟩ := flat_ix hr hx
      obtain ⟨_, h4⟩ := tab_cells ht he hk hb hd0 i j' r b h1 h2
      refine ⟨b, rfl, ?_⟩
      have := World.var?_cell hg hv0 j
      rw [Nat.zero_add, this]
      rw [h3]
      simpa using h4
  refine .cp _ g 0 (fun j => (W.cell? ⟨g, 0 + j, none⟩).getD undef) (fun j l hj => ?_) (fun j l hj => ?_)
  · obtain ⟨b, _, h1⟩ := hc j l hj
    exact ⟨(cell_lt h1).1, by rw [h1]; rfl⟩
  · obtain ⟨b, rfl, h1⟩ := hc j l hj
    show Rep _ _ _ ((W.cell? ⟨g, 0 + j, none⟩).getD undef)
    rw [h1]
    exact .b b

theorem canon_rep {w : World} {S : Stab} {l : Lf} {v : Value} (h : Rep w S l v) : Rep w S l.canon v := by
  unfold Lf.canon
  split
  · obtain rfl := rep_raw h
    exact .sl0 _ _
  · exact h
theorem svr_canon {w : World} {S : Stab} {x : SV} {v : Value} (h : SVR (Rep w S) x v) : SVR (Rep w S) x.canon v := by
  cases x with
  | one l => exact canon_rep h
  | agg ls =>
    obtain ⟨cs, rfl, h1, h2⟩ := h
    refine ⟨cs, rfl, by simpa using h1, fun j l u hl hu => ?_⟩
    rw [List.getElem?_map] at hl
    cases hx : ls[j]? with
    | none => rw [hx] at hl; cases hl
    | some l' =>
      rw [hx] at hl
      cases hl
      exact canon_rep (h2 j l' u hx hu)
/-- A call of a drawn region, nil handed as a slice of nothing. -/
theorem opD_callN {P : Program} {c : Ctx} {st : AS} {ty : TypeId} {f : FuncId} {args : Array Operand} {ats : Array TypeId} {xs : List SV} {r : AV} (hf : FnI P f) (ho : Opnds st args.toList xs) (hp : xs.all (fun x => x.cells.all Lf.pubd) = true) (hc : CallsA P f (xs.map SV.canon) (· = r)) :
    OpD P c st (.call { callee := .value (.func f), args := args, argTypes := ats }) ty r := by
  intro a w S H rr dst pos af g K Q hK
  have hv := opnds_rel rr ho
  unfold Oper.wp
  have hrun : (execOp a.eval ⟨dst, .call { callee := .value (.func f), args := args, argTypes := ats }, ty, pos, af, g⟩).run P w = .ok (.enter f (args.map a.eval)) w := by
    simp [execOp, resolve, Act.eval, Deferred.ofValue, invoke, hf.run]
  rw [hrun]
  refine (hc w S (args.map a.eval) rr.sl ⟨by simpa using hv.1, fun j x v h1 h2 => ?_⟩).mono ?_
  · rw [List.getElem?_map] at h1
    cases hx : xs[j]? with
    | none => rw [hx] at h1; cases h1
    | some y =>
      rw [hx] at h1
      cases h1
      exact svr_canon (svr_pub (hv.2 j y v hx (by simpa using h2)) (List.all_eq_true.1 hp y (List.mem_of_getElem? hx)))
  · rintro e w' ⟨v, x, S', rfl, rfl, hext, hin, hav⟩
    exact hK v w' S' hext hin (avr_of_rep hav)
end Go.Proofs.Ytmkcigfeebippaa.Abs

/-
  A region that draws its order, whose last operation comes behind all the others, and writes what others have read.
-/
namespace Go.Proofs.Ytmkcigfeebippaa.Abs
open Go.RowKit

/-- What is asked of the region's text. -/
def okDrawL (ops : Array Oper) : Bool :=
  ((List.range ops.size).all fun i => match ops[i]? with
    | none => false
    | some o => o.dst.isSome && o.after.all (fun e => decide (e.on < i)) && (List.range ops.size).all (fun j => match ops[j]? with
        | none => false
        | some p => (decide (i = j) || !(o.dst == p.dst)) && (match p.dst with
            | none => false
            | some d => !(o.looksAt ops).contains d || decide (j + 1 = ops.size) || o.after.any (fun e => e.on == j && Region.binds .any e)))) &&
  (decide (0 < ops.size) && (match ops[ops.size - 1]? with
    | none => false
    | some o => (List.range (ops.size - 1)).all fun j => o.after.any (fun e => e.on == j && Region.binds .any e)))

structure DrawOkL (ops : Array Oper) (n : Nat) : Prop where
  sz : ops.size = n + 1
  dst : ∀ (i : Nat) (o : Oper), ops[i]? = some o → ∃ d, o.dst = some d
  lt : ∀ (i : Nat) (o : Oper), ops[i]? = some o → ∀ e ∈ o.after, e.on < i
  ne : ∀ (i : Nat) (o : Oper) (j : Nat) (p : Oper), ops[i]? = some o → ops[j]? = some p → i ≠ j → o.dst ≠ p.dst
  ed : ∀ (i : Nat) (o : Oper) (j : Nat) (p : Oper) (d : Tmp), ops[i]? = some o → ops[j]? = some p → p.dst = some d → j < n → d ∈ o.looksAt ops → ∃ e ∈ o.after, e.on = j ∧ Region.binds .any e = true
  all : ∀ (o : Oper) (j : Nat), ops[n]? = some o → j < n → ∃ e ∈ o.after, e.on = j ∧ Region.binds .any e = true

theorem drawOkL_of {ops : Array Oper} (h : okDrawL ops = true) : DrawOkL ops (ops.size - 1) := by
  unfold okDrawL at h
  simp only [Bool.and_eq_true] at h
  obtain ⟨h0, hpos, hlast⟩ := h
  have hpos := of_decide_eq_true hpos
  have key : ∀ (i : Nat) (o : Oper), ops[i]? = some o → o.dst.isSome = true ∧ o.after.all (fun e => decide (e.on < i)) = true ∧ ∀ (j : Nat) (p : Oper), ops[j]? = some p → (decide (i = j) || !(o.dst == p.dst)) = true ∧ (match p.dst with
            | none => false
            | some d => !(o.looksAt ops).contains d || decide (j + 1 = ops.size) || o.after.any (fun e => e.on == j && Region.binds .any e)) = true := by
    intro i o hi
    have hil : i < ops.size := (Array.getElem?_eq_some_iff.1 hi).1
    have h1 := List.all_eq_true.1 h0 i (List.mem_range.2 hil)
    rw [hi] at h1
    simp only [Bool.and_eq_true] at h1
    refine ⟨h1.1.1, h1.1.2, fun j p hj => ?_⟩
    have hjl : j < ops.size := (Array.getElem?_eq_some_iff.1 hj).1
    have h2 := List.all_eq_true.1 h1.2 j (List.mem_range.2 hjl)
    rw [hj] at h2
    simp only [Bool.and_eq_true] at h2
    exact h2
  have hany : ∀ {o : Oper} {j : Nat}, o.after.any (fun e => e.on == j && Region.binds .any e) = true → ∃ e ∈ o.after, e.on = j ∧ Region.binds .any e = true := by
    intro o j h
    rw [Array.any_eq_true] at h
    obtain ⟨i', hi', h⟩ := h
    simp only [Bool.and_eq_true, beq_iff_eq] at h
    exact ⟨_, Array.getElem_mem hi', h.1, h.2⟩
  refine ⟨by omega, fun i o hi => Option.isSome_iff_exists.1 (key i o hi).1, fun i o hi e he => ?_, fun i o j p hi hj hne he => ?_, fun i o j p d hi hj hd hjn hm => ?_, fun o j ho hj => ?_⟩
  · have := (key i o hi).2.1
    rw [Array.all_eq_true'] at this
    exact of_decide_eq_true (this e he)
  · have := ((key i o hi).2.2 j p hj).1
    simp only [Bool.or_eq_true, decide_eq_true_eq, Bool.not_eq_true', beq_eq_false_iff_ne] at this
    rcases this with h | h
    · exact hne h
    · exact h he
  · have := ((key i o hi).2.2 j p hj).2
    rw [hd] at this
    simp only [Bool.or_eq_true, Bool.not_eq_true'] at this
    rcases this with (h | h) | h
    · rw [List.contains_eq_mem] at h
      simp [hm] at h
    · have := of_decide_eq_true h
      omega
    · exact hany h
  · rw [ho] at hlast
    exact hany (List.all_eq_true.1 hlast j (List.mem_range.2 hj))

section
variable {P : Program} {c : Ctx} {t : Nat → AV} {m : List Blk} {Q : Exit → AS → Prop}

open Classical in
/-- What is known when some have been done: T, or what the last one makes of it. -/
noncomputable def TM (ops : Array Oper) (n : Nat) (T T' : Nat → AV) (listed : Array Bool) : Nat → AV :=
  if listed.getD n true = true then T' else fun x => if ∃ (i : Nat) (o : Oper), i < n ∧ ops[i]? = some o ∧ o.dst = some x ∧ listed.getD i true = false then .top else T x

open Classical in
theorem draw_last {ops : Array Oper} {n : Nat} (hok : DrawOkL ops n) {T : Nat → AV} (hT : ∀ (i : Nat) (o : Oper), i < n → ops[i]? = some o → ∃ d, o.dst = some d ∧ d < c.nt ∧ Good1 P c m ops T o (T d))
    {dl : Tmp} {xl : AV} {ol : Oper} (hol : ops[n]? = some ol) (hdl : ol.dst = some dl) (hln : dl < c.nt) (hgl : Good1 P c m ops T ol xl) (hQ : Q .normal ⟨upd T dl xl, m⟩) :
    ∀ (fuel : Nat) (listed : Array Bool) (a : Act) (w : World) (S : Stab) (H : Nat → Value), listed.size = ops.size → (List.range ops.size).countP (fun i => !listed.getD i true) ≤ fuel →
      (listed.getD n true = true → ∀ j, j < n → listed.getD j true = true) →
      Rel c ⟨TM ops n T (upd T dl xl) listed, m⟩ a w S H → wpAny P .any ops (QR c Q) fuel listed a w := by
  have hsz1 := hok.sz
  have done : ∀ (listed : Array Bool) (a : Act) (w : World) (S : Stab) (H : Nat → Value), listed.size = ops.size → Region.ready .any ops listed = [] → Rel c ⟨TM ops n T (upd T dl xl) listed, m⟩ a w S H → QR c Q .normal a w := by
    intro listed a w S H hsz hr r
    have hall : ∀ n i, i < n → i < ops.size → listed.getD i true = true := by
      intro n
      induction n with
      | zero => intro i h; omega
      | succ n ih =>
        intro i hi hio
        by_cases hb : listed.getD i true = true
        · exact hb
        · exfalso
          have hmem : i ∈ Region.ready .any ops listed := by
            unfold Region.ready
            refine List.mem_filter.2 ⟨List.mem_range.2 hio, ?_⟩
            have hlt := hok.lt i ops[i] (Array.getElem?_eq_getElem hio)
            have hb' : listed.getD i true = false := by simpa using hb
            simp only [hb', Bool.not_false, Bool.true_and, Array.getElem?_eq_getElem hio, Option.map_some, Option.getD_some]
            rw [Array.all_eq_true']
            intro e he
            have hel := hlt e he
            have h1 := ih e.on (by omega) (by omega)
            have h2 : listed.getD e.on false = true := by
              simp only [Array.getD_eq_getD_getElem?] at h1 ⊢
              rw [Array.getElem?_eq_getElem (by omega)] at h1 ⊢
              exact h1
            simp [h2]
          rw [hr] at hmem
          cases hmem
    have hTM : TM ops n T (upd T dl xl) listed = upd T dl xl := by
      unfold TM
      rw [if_pos (hall (n + 1) n (by omega) (by omega))]
    rw [hTM] at r
    exact ⟨_, S, H, r, hQ⟩
  intro fuel
  induction fuel with
  | zero =>
    intro listed a w S H hsz hc _ r
    have hr : Region.ready .any ops listed = [] := by
      unfold Region.ready
      rw [List.filter_eq_nil_iff]
      intro i hi hb
      simp only [Bool.and_eq_true] at hb
      have : 0 < (List.range ops.size).countP (fun i => !listed.getD i true) := List.countP_pos_iff.2 ⟨i, hi, hb.1⟩
      omega
    exact ⟨hr, done listed a w S H hsz hr r⟩
  | succ fuel ih =>
    intro listed a w S H hsz hc hinv r
    refine ⟨fun hr => done listed a w S H hsz hr r, fun i hi => ?_⟩
    unfold Region.ready at hi
    rw [List.mem_filter] at hi
    obtain ⟨hi1, hi2⟩ := hi
    have hio : i < ops.size := List.mem_range.1 hi1
    have hget : ops[i]? = some ops[i] := Array.getElem?_eq_getElem hio
    simp only [Bool.and_eq_true, hget, Option.map_some, Option.getD_some] at hi2
    obtain ⟨hun, haf⟩ := hi2
    have hun' : listed.getD i true = false := by simpa using hun
    have hnl : listed.getD n true = false := by
      cases hb : listed.getD n true with
      | false => rfl
      | true =>
        by_cases hin : i = n
        · subst hin; rw [hun'] at hb; cases hb
        · rw [hinv hb i (by omega)] at hun'; cases hun'
    have hedge : ∀ (j : Nat) (e : Edge), e ∈ ops[i].after → e.on = j → Region.binds .any e = true → j < ops.size → listed.getD j true = true := by
      intro j e he heo hbind hjl
      rw [Array.all_eq_true'] at haf
      have h1 := haf e he
      rw [hbind, heo] at h1
      simp only [Bool.not_true, Bool.false_or] at h1
      simp only [Array.getD_eq_getD_getElem?] at h1 ⊢
      rw [Array.getElem?_eq_getElem (by omega)] at h1 ⊢
      simpa using h1
    have hTMl : TM ops n T (upd T dl xl) listed = fun x => if ∃ (i : Nat) (o : Oper), i < n ∧ ops[i]? = some o ∧ o.dst = some x ∧ listed.getD i true = false then .top else T x := by
      unfold TM
      rw [if_neg (by rw [hnl]; simp)]
    -- the operands are known
    have hlook : ∀ y ∈ (ops[i]).looksAt ops, TM ops n T (upd T dl xl) listed y = T y := by
      intro y hy
      rw [hTMl]
      simp only
      rw [if_neg]
      rintro ⟨j, p, hjn, hj, hpd, hl⟩
      obtain ⟨e, he, heo, hbind⟩ := hok.ed i _ j p y hget hj hpd hjn hy
      have := hedge j e he heo hbind (by omega)
      rw [this] at hl
      cases hl
    have hsame : ∀ j, i ≠ j → (listed.setIfInBounds i true).getD j true = listed.getD j true := fun j hij => by
      simp only [Array.getD_eq_getD_getElem?, Array.getElem?_setIfInBounds_ne hij]
    have hself : (listed.setIfInBounds i true).getD i true = true := by
      simp only [Array.getD_eq_getD_getElem?, Array.getElem?_setIfInBounds_self_of_lt (by omega : i < listed.size), Option.getD_some]
    obtain ⟨d, x, hd, hdn, hgood, hTM', hinv'⟩ : ∃ d x, (ops[i]).dst = some d ∧ d < c.nt ∧ Good1 P c m ops T ops[i] x ∧ upd (TM ops n T (upd T dl xl) listed) d x = TM ops n T (upd T dl xl) (listed.setIfInBounds i true) ∧
        ((listed.setIfInBounds i true).getD n true = true → ∀ j, j < n → (listed.setIfInBounds i true).getD j true = true) := by
      by_cases hin : i = n
      · subst hin
        rw [hget] at hol
        cases hol
        have hallj : ∀ j, j < i → listed.getD j true = true := fun j hj => by
          obtain ⟨e, he, heo, hb⟩ := hok.all _ j hget hj
          exact hedge j e he heo hb (by omega)
        refine ⟨dl, xl, hdl, hln, hgl, ?_, fun _ j hj => by rw [hsame j (by omega)]; exact hallj j hj⟩
        have e1 : TM ops i T (upd T dl xl) listed = T := by
          rw [hTMl]
          funext y
          rw [if_neg]
          rintro ⟨j, p, hjn, _, _, hl⟩
          rw [hallj j hjn] at hl
          cases hl
        rw [e1]
        unfold TM
        rw [if_pos hself]
      · obtain ⟨d, hd, hdn, hgood⟩ := hT i _ (by omega) hget
        refine ⟨d, T d, hd, hdn, hgood, ?_, fun hb => ?_⟩
        · rw [hTMl]
          unfold TM
          rw [if_neg (by rw [hsame n hin, hnl]; simp)]
          funext x
          rw [upd_def]
          by_cases hx : x = d
          · subst hx
            rw [if_pos rfl, if_neg]
            rintro ⟨j, p, hjn, hj, hpd, hl⟩
            by_cases hij : i = j
            · subst hij
              rw [hself] at hl
              cases hl
            · exact hok.ne i _ j p hget hj hij (by rw [hd, hpd])
          · rw [if_neg hx]
            by_cases hex : ∃ (j : Nat) (p : Oper), j < n ∧ ops[j]? = some p ∧ p.dst = some x ∧ listed.getD j true = false
            · rw [if_pos hex]
              obtain ⟨j, p, hjn, hj, hpd, hl⟩ := hex
              rw [if_pos]
              have hij : i ≠ j := by
                intro e; subst e
                rw [hget] at hj
                cases hj
                rw [hd] at hpd
                cases hpd
                exact hx rfl
              exact ⟨j, p, hjn, hj, hpd, by rw [hsame j hij]; exact hl⟩
            · rw [if_neg hex, if_neg]
              rintro ⟨j, p, hjn, hj, hpd, hl⟩
              refine hex ⟨j, p, hjn, hj, hpd, ?_⟩
              by_cases hij : i = j
              · subst hij; exact hun'
              · rw [hsame j hij] at hl; exact hl
        · rw [hsame n hin, hnl] at hb
          cases hb
    have hcnt : (List.range ops.size).countP (fun j => !(listed.setIfInBounds i true).getD j true) ≤ fuel := by
      have := count_lt (fun j => !listed.getD j true) (fun j => !(listed.setIfInBounds i true).getD j true) (List.range ops.size) (fun j _ hj => by
        by_cases hij : i = j
        · subst hij
          rw [hself] at hj
          cases hj
        · rw [hsame j hij] at hj
          exact hj) hi1 hun (by rw [hself]; rfl)
      omega
    generalize ho : ops[i] = o at *
    have next : ∀ v w' S', Ext w S w' S' → InH w' S' → AVR (GRep w' S' m H) x v → wpAny P .any ops (QR c Q) fuel (listed.setIfInBounds i true) (a.put o.dst v) w' := by
      intro v w' S' hext hin hv
      rw [hd]
      refine ih _ _ w' S' H (by simpa using hsz) hcnt hinv' ?_
      rw [← hTM']
      exact (r.ext hext hin).put hdn hv
    have hw : wpOp P ops (QR c Q) i (wpAny P .any ops (QR c Q) fuel (listed.setIfInBounds i true)) a w := by
      unfold wpOp
      rw [hget]
      simp only
      have hrr : Rel c ⟨restr T (o.looksAt ops), m⟩ a w S H := by
        refine r.weak (fun y => ?_)
        unfold restr
        cases hc' : (o.looksAt ops).contains y with
        | false => exact .inr rfl
        | true => exact .inl (hlook y (by simpa using hc')).symm
      rcases hgood with ⟨hg, hop⟩ | ⟨hg, hx⟩
      · have hwant : Region.wanted o (yielded ops a.tmps) = true := by
          rcases hg with hg | ⟨j, want, dj, h1, h2, h3⟩
          · simp [Region.wanted, hg]
          · have h4 := r.tm dj
            have h5 : TM ops n T (upd T dl xl) listed dj = .s (.one (.b want)) := by rw [hlook dj (mem_looks_guard h1 h2)]; exact h3
            rw [show (⟨TM ops n T (upd T dl xl) listed, m⟩ : AS).t dj = .s (.one (.b want)) from h5] at h4
            have hv : a.tmps.getD dj undef = .bool want := rep_b (h4 : Rep w S (.b want) (a.tmps.getD dj undef))
            have hs : a.tmps[dj]? = some (.bool want) := by
              simp only [Array.getD_eq_getD_getElem?] at hv
              cases hq : a.tmps[dj]? with
              | none => rw [hq] at hv; cases hv
              | some u => rw [hq] at hv; simp only [Option.getD_some] at hv; rw [hv]
            simp only [Region.wanted, h1, yielded, h2, Option.bind_some, hs, beq_self_eq_true]
        rw [if_pos hwant]
        obtain ⟨odst, oop, oty, opos, oaf, og⟩ := o
        exact .inl (hop a w S H hrr odst opos oaf og _ _ (fun v w' S' h1 h2 h3 => next v w' S' h1 h2 h3))
      · have hwant : Region.wanted o (yielded ops a.tmps) = false := by
          obtain ⟨j, want, dj, h1, h2, h3⟩ := hg
          have h4 := r.tm dj
          rw [show (⟨TM ops n T (upd T dl xl) listed, m⟩ : AS).t dj = T dj from hlook dj (mem_looks_guard h1 h2)] at h4
          simp only [Region.wanted, h1, yielded, h2, Option.bind_some]
          rcases h3 with h3 | ⟨b, h3, hb⟩
          · rw [h3] at h4
            obtain ⟨vs, hv, _⟩ := h4
            simp only [Array.getD_eq_getD_getElem?] at hv
            cases hq : a.tmps[dj]? with
            | none => rfl
            | some u => rw [hq] at hv; simp only [Option.getD_some] at hv; subst hv; rfl
          · rw [h3] at h4
            have hv : a.tmps.getD dj undef = .bool b := rep_b (h4 : Rep w S (.b b) (a.tmps.getD dj undef))
            simp only [Array.getD_eq_getD_getElem?] at hv
            cases hq : a.tmps[dj]? with
            | none => rfl
            | some u =>
              rw [hq] at hv; simp only [Option.getD_some] at hv; subst hv
              cases b <;> cases want <;> first | rfl | cases hb
        rw [if_neg (by rw [hwant]; simp)]
        have := next undef w S (Ext.refl w S) r.sl (by rw [hx]; exact avr_undef)
        exact this
    exact hw

theorem DR.split {ops : Array Oper} {k : (Nat → AV) → Prop} : ∀ {l : List Oper} {o : Oper} {t : Nat → AV}, DR P c m ops k (l ++ [o]) t → DR P c m ops (fun T => ∃ x d, o.dst = some d ∧ d < c.nt ∧ Good1 P c m ops T o x ∧ k (upd T d x)) l t
  | [], o, t, h => by
    obtain ⟨x, d, h1, h2, h3, h4⟩ := h
    exact ⟨x, d, h1, h2, h3, h4⟩
  | o' :: l, o, t, h => by
    obtain ⟨x, d, h1, h2, h3, h4⟩ := h
    exact ⟨x, d, h1, h2, h3, DR.split h4⟩

/-- A region that draws its order, its last operation behind all the others. -/
theorem cdrawL {id : Nat} {l : List Oper} (hm : P.follows .mixedOrders = true) (hok : okDrawL l.toArray = true) (h : DR P c m l.toArray (fun T => Q .normal ⟨T, m⟩) l t) : AWC P c (.region id l.toArray true) Q ⟨t, m⟩ := by
  have ok := drawOkL_of hok
  have hne : l ≠ [] := by
    intro e; subst e
    have := ok.sz
    simp at this
  obtain ⟨l0, ol, rfl⟩ : ∃ l0 ol, l = l0 ++ [ol] := ⟨l.dropLast, l.getLast hne, (List.dropLast_concat_getLast hne).symm⟩
  have hn : (l0 ++ [ol]).toArray.size - 1 = l0.length := by simp
  rw [hn] at ok
  have h' := DR.split h
  have hgl : ∀ {i : Nat} {o : Oper}, l0[i]? = some o → (l0 ++ [ol])[i]? = some o := fun {i o} hi => by
    rw [List.getElem?_append_left (List.getElem?_eq_some_iff.1 hi).1]; exact hi
  have hnd : (dsts l0).Nodup := by
    have aux : ∀ (l : List Oper), (∀ (i : Nat) (o : Oper) (j : Nat) (p : Oper), l[i]? = some o → l[j]? = some p → i ≠ j → o.dst ≠ p.dst) → (dsts l).Nodup := by
      intro l
      induction l with
      | nil => intro _; exact List.nodup_nil
      | cons o l ih =>
        intro hne
        have ih' := ih (fun i o' j p hi hj hij => hne (i + 1) o' (j + 1) p (by simpa using hi) (by simpa using hj) (by omega))
        cases hd : o.dst with
        | none => simpa [dsts, hd] using ih'
        | some d =>
          have : dsts (o :: l) = d :: dsts l := by simp [dsts, hd]
          rw [this]
          refine List.nodup_cons.2 ⟨fun hm => ?_, ih'⟩
          unfold dsts at hm
          rw [List.mem_filterMap] at hm
          obtain ⟨p, hp, hpd⟩ := hm
          obtain ⟨j, hj, hjp⟩ := List.getElem_of_mem hp
          exact hne 0 o (j + 1) p rfl (by simp [List.getElem?_eq_getElem hj, hjp]) (by omega) (by rw [hd, hpd])
    exact aux l0 (fun i o j p hi hj => ok.ne i o j p (by simpa using hgl hi) (by simpa using hgl hj))
  obtain ⟨T, ⟨x, d, hod, hdn, hgood, hQ⟩, hTt, hG⟩ := DR.get h' hnd (fun i o hi y hy hm' => by
    unfold dsts at hm'
    rw [List.mem_filterMap] at hm'
    obtain ⟨p, hp, hpd⟩ := hm'
    obtain ⟨j, hj, hjp⟩ := List.getElem_of_mem hp
    have hjb : i + j < l0.length := by simp at hj; omega
    have hjl : l0[i + j]? = some p := by
      rw [List.getElem_drop] at hjp
      rw [List.getElem?_eq_getElem hjb, hjp]
    obtain ⟨e, he, heo, _⟩ := ok.ed i o (i + j) p y (by simpa using hgl hi) (by simpa using hgl hjl) hpd hjb hy
    have := ok.lt i o (by simpa using hgl hi) e he
    omega)
  intro a w S H r
  refine wp_region_any hm ?_
  have hG' : ∀ (i : Nat) (o : Oper), i < l0.length → ((l0 ++ [ol]).toArray)[i]? = some o → ∃ d, o.dst = some d ∧ d < c.nt ∧ Good1 P c m (l0 ++ [ol]).toArray T o (T d) := fun i o hi ho => hG i o (by
    have : (l0 ++ [ol])[i]? = some o := by simpa using ho
    rwa [List.getElem?_append_left hi] at this)
  have hcnt : (List.range (l0 ++ [ol]).toArray.size).countP (fun i => !(Array.replicate (l0 ++ [ol]).toArray.size false).getD i true) ≤ (l0 ++ [ol]).toArray.size := by
    refine Nat.le_trans List.countP_le_length ?_
    simp
  have hlf : (Array.replicate (l0 ++ [ol]).toArray.size false).getD l0.length true = false := by
    simp [Array.getD_eq_getD_getElem?]
  refine draw_last ok hG' (ol := ol) (by simp) hod hdn hgood hQ (l0 ++ [ol]).toArray.size (Array.replicate (l0 ++ [ol]).toArray.size false) a _ S H (by simp) hcnt (fun hb => by rw [hlf] at hb; cases hb) ?_
  have r' : Rel c ⟨t, m⟩ a w.drew S H := r.ext (Ext.drew w S) (r.sl.ext (Ext.drew w S))
  refine r'.weak (fun x => ?_)
  unfold TM
  rw [if_neg (by rw [hlf]; simp)]
  by_cases hx : x ∈ dsts l0
  · right
    rw [if_pos]
    unfold dsts at hx
    rw [List.mem_filterMap] at hx
    obtain ⟨p, hp, hpd⟩ := hx
    obtain ⟨j, hj, hjp⟩ := List.getElem_of_mem hp
    refine ⟨j, p, hj, ?_, hpd, ?_⟩
    · have : l0[j]? = some p := by rw [List.getElem?_eq_getElem hj, hjp]
      simpa using hgl this
    · have : j < l0.length + 1 := by omega
      simp [Array.getD_eq_getD_getElem?, this]
  · left
    rw [if_neg, hTt x hx]
    rintro ⟨i, o, hin, hi, hod, _⟩
    refine hx ?_
    unfold dsts
    rw [List.mem_filterMap]
    have hi' : l0[i]? = some o := by
      have : (l0 ++ [ol])[i]? = some o := by simpa using hi
      rwa [List.getElem?_append_left hin] at this
    exact ⟨o, List.mem_of_getElem? hi', hod⟩
end

/-- One more part of a struct, the cells told. -/
theorem bcons {place : Nat → Option (Nat × Nat)} {cs out : List Lf} {i off s : Nat} {x : SV} {rest : List (Nat × SV)} (cs' : List Lf) (hp : place i = some (off, s)) (hl : x.cells.length = s) (hb : off + s ≤ cs.length) (he : putAt cs off x.cells = cs') (t : Built place cs' rest out) : Built place cs ((i, x) :: rest) out := by
  subst he
  exact .cons _ _ _ _ _ _ _ hp hl hb t
end Go.Proofs.Ytmkcigfeebippaa.Abs

/-
  append to a slice that has no room, in a region that draws its order.
-/
namespace Go.Proofs.Ytmkcigfeebippaa.Abs
open Go.RowKit
section
variable {P : Program} {c : Ctx} {st : AS} {ty : TypeId} {α : Type} {f : α → List Lf} {sz : Nat}

theorem rep_z {w : World} {S : Stab} {v : Value} (h : Rep w S .nix v) : ∃ a, v = .slice a 0 0 := by cases h; exact ⟨_, rfl⟩

/-- []T{}. -/
theorem opD_bldz {t e bytes : Nat} {zl : List Lf} (si : P.underlying t = some (.slice e)) (ei : EI P e sz bytes zl) : OpD P c st (.buildSlice t 0 #[]) ty (.s (.one .nix)) := by
  intro a w S H r dst pos af g K Q hK
  obtain ⟨i, z, hi, hz, hsize, hbytes, hzs, hzl, hzo⟩ := ei.h
  have hsi : (P.info? e).map (·.size) = some sz := by rw [hi]; simp [hsize]
  have hm0 : madeCells (#[] : Array Value) 0 = #[] := by simp [madeCells]
  have hrun : (execOp a.eval ⟨dst, .buildSlice t 0 #[], ty, pos, af, g⟩).run P w = .ok (.value (.slice (some ⟨w.heap.size, 0, none⟩) 0 0)) (w.alloc (.cells #[] e)) := by
    simp [execOp, Instr.buildSlice, run_underlying si, run_sizeOf' hsi, Instr.fill, newRow]
    simp [Array.range_zero']
  unfold Oper.wp
  rw [hrun]
  exact hK _ _ S (Ext.alloc w S _) (r.sl.ext (Ext.alloc w S _)) (avr_rep (.nix _))

/-- append([]T{}, x...). -/
theorem opD_appz {t' t2 e bytes n m : Nat} {zl ys : List Lf} {x y : Operand} {sy : SV} (si : P.underlying t' = some (.slice e)) (ei : EI P e sz bytes zl) (h2 : NI P t2) (hx : opnd st x = .s (.one .nix)) (hy : opnd st y = .s sy) (hpub : sy.cells.all Lf.pubd = true) (hs : SrcOf P sy sz m ys)
    (hb : m * bytes ≤ 140737488355328) (h63 : m ≤ maxLen) (hn : n = m) :
    OpD P c st (.call { callee := .builtin .append, args := #[x, y], argTypes := #[t', t2] }) ty (.s (.one (.sl n ys))) := by
  subst hn
  by_cases h0 : n = 0
  · subst h0
    intro a w S H r dst pos af g K Q hK
    have hx' := opnd_rel r x
    rw [hx] at hx'
    obtain ⟨b, hv⟩ := rep_z (hx' : Rep w S .nix (a.eval x))
    have hy' := opnd_rel r y
    rw [hy] at hy'
    obtain ⟨news, hsrc, hl, hls⟩ := hs.src (svr_pub hy' hpub)
    obtain ⟨i, z, hi, hz, hsize, hbytes, hzs, hzl, hzo⟩ := ei.h
    have hys : ys = [] := List.eq_nil_of_length_eq_zero (by rw [hl, Nat.zero_mul])
    subst hys
    have hnews : news = [] := List.eq_nil_of_length_eq_zero (by rw [← hls.1]; rfl)
    subst hnews
    have hrun := run_app_zero (P := P) (w := w) (t := t') (t2 := t2) (ty := ty) (n := 0) (cap := 0) (base := b) si hi hsize h2 hsrc (Nat.le_refl _)
    unfold Oper.wp
    have : (execOp a.eval ⟨dst, .call { callee := .builtin .append, args := #[x, y], argTypes := #[t', t2] }, ty, pos, af, g⟩).run P w = .ok (.value (.slice b 0 0)) w := by
      simp [execOp, resolve, invoke, builtin, hv, hrun]
    rw [this]
    exact hK _ _ S (Ext.refl w S) r.sl (avr_rep (.sl0 _ _))
  · refine opD_newArr (e := e) (sz := sz) ei.p fun a w S H r => ?_
    have hx' := opnd_rel r x
    rw [hx] at hx'
    obtain ⟨b, hv⟩ := rep_z (hx' : Rep w S .nix (a.eval x))
    have hy' := opnd_rel r y
    rw [hy] at hy'
    obtain ⟨news, hsrc, hl, hls⟩ := hs.src (svr_pub hy' hpub)
    obtain ⟨i, z, hi, hz, hsize, hbytes, hzs, hzl, hzo⟩ := ei.h
    subst hsize
    subst hbytes
    have hnl : news.length = n * i.size := by rw [← hls.1, hl]
    have hfc : ∀ w1 : World, (∀ a, w1.cell? a = w.cell? a) → (Builtin.firstCells i.size 0 (.slice b 0 0)).run P w1 = .ok ([] : List Value).toArray w1 := fun w1 _ => by
      cases b with
      | none => simp [Builtin.firstCells]
      | some b => simp only [Builtin.firstCells, loadCells, Nat.zero_mul]; first | rfl | (unfold loadCellsFrom; rfl) | (simp [loadCellsFrom])
    have hrun := run_app_grow (P := P) (w := w) (t := t') (t2 := t2) (ty := ty) (n := 0) (m := n) (cap := 0) (base := b) (olds := []) si hi hz h2 hsrc hfc (by omega) (by simp only [maxLen] at h63; omega) (growslice_fits (by omega) (by rw [Nat.zero_add]; exact hb))
    rw [Nat.zero_add] at hrun
    have hcap := grownCap_ge w n 0 e
    have hcm : grownCap w n 0 e ≤ maxLen := grownCap_le_maxLen w n 0 e h63
    have hx : Ext w S (w.drew.alloc (.cells (([] : List Value).toArray ++ news.toArray ++ Builtin.zeroCells z.cells (grownCap w n 0 e - n)) e)) S := (Ext.drew w S).trans (Ext.alloc w.drew S _)
    refine ⟨.slice (some ⟨w.heap.size, 0, none⟩) n (grownCap w n 0 e), _, news, fun _ _ _ _ => by simp only [execOp, resolve, invoke, builtin]; simp [hv, hrun], hx, r.sl.ext hx, ?_, hls.mono fun l v => Rep.mono (hx.keeps r.sl)⟩
    refine ⟨hnl, .inr ⟨w.heap.size, _, _, rfl, Nat.le_refl _, heap_alloc_new w.drew _, hcap, hcm, ?_, ?_⟩⟩
    · simp only [Array.size_append, List.size_toArray, List.length_nil, size_zeroCells, hzs, hnl, Nat.zero_add, ← Nat.add_mul]
      congr 1; omega
    · rw [← hnl]
      simp
theorem opv_minu {ts : Array TypeId} {x y : Operand} {k k' : IntKind} {n : Nat} {u v : BitVec n} (hx : opnd st x = .s (.one (.i k (u.toNat : Int)))) (hy : opnd st y = .s (.one (.i k' (v.toNat : Int)))) :
    OpV P c st (.call { callee := .builtin .min, args := #[x, y], argTypes := ts }) ty (.s (.one (.i k ((if v.toNat < u.toNat then v else u).toNat : Int)))) := by
  have h := opv_min (P := P) (c := c) (ty := ty) (ts := ts) hx hy
  have e : (if (v.toNat : Int) < (u.toNat : Int) then (v.toNat : Int) else (u.toNat : Int)) = ((if v.toNat < u.toNat then v else u).toNat : Int) := by
    by_cases hlt : v.toNat < u.toNat
    · rw [if_pos hlt, if_pos (by omega)]
    · rw [if_neg hlt, if_neg (by omega)]
  rw [e] at h
  exact h
theorem opD_apzf {t' t2 e bytes : Nat} {zl : List Lf} {x y : Operand} {us : List α} (si : P.underlying t' = some (.slice e)) (ei : EI P e sz bytes zl) (h2 : NI P t2) (hf : ∀ x, (f x).length = sz) (hx : opnd st x = .s (.one .nix)) (hy : opnd st y = .s (.one (.sl us.length (us.flatMap f))))
    (hb : us.length * bytes ≤ 140737488355328) (hbp : 0 < bytes) : OpD P c st (.call { callee := .builtin .append, args := #[x, y], argTypes := #[t', t2] }) ty (.s (.one (.sl us.length (us.flatMap f)))) := by
  refine opD_appz si ei h2 hx hy rfl (.sl _ _ _ (flat_len hf us)) hb ?_ rfl
  have : us.length ≤ us.length * bytes := Nat.le_mul_of_pos_right _ hbp
  simp only [maxLen]; omega
end
end Go.Proofs.Ytmkcigfeebippaa.Abs

/-
  A field of a struct that is no variable.
-/
namespace Go.Proofs.Ytmkcigfeebippaa.Abs
open Go.RowKit
structure FT (P : Program) (s : TypeId) (f off : Nat) (ft : TypeId) : Prop where
  h : ∃ fs fld, P.underlying s = some (.struct fs) ∧ fs[f]? = some fld ∧ fld.offset = off ∧ fld.type = ft
section
variable {P : Program} {c : Ctx} {st : AS} {ty : TypeId}
theorem opv_field1 {s f off ft : Nat} {x : Operand} {ls : List Lf} {y : Lf} (h : FT P s f off ft) (ti : TI P ft false 1) (hx : opnd st x = .s (.agg ls)) (hy : ls[off]? = some y) : OpV P c st (.field s x f) ty (.s (.one y)) := by
  intro a w S H r
  have h1 := opnd_rel r x
  rw [hx] at h1
  obtain ⟨cs, hv, hl, hr⟩ := h1
  obtain ⟨fs, fld, hu, hf, ho, ht⟩ := h.h
  have hj : off < cs.size := by
    have := (List.getElem?_eq_some_iff.1 hy).1
    rw [hl] at this
    simpa using this
  have hg : cs[off]? = some cs[off] := Array.getElem?_eq_getElem hj
  refine ⟨cs[off], hr off y _ hy (by simp), fun _ _ _ _ => ?_⟩
  subst ho ht
  simp [execOp, hv, Instr.field, run_underlying hu, hf, part, asAgg, ti.run_isAgg, hg]
theorem opv_fieldN {s f off ft sz : Nat} {x : Operand} {ls : List Lf} (h : FT P s f off ft) (ti : TI P ft true sz) (hx : opnd st x = .s (.agg ls)) (hb : off + sz ≤ ls.length) : OpV P c st (.field s x f) ty (.s (.agg ((ls.drop off).take sz))) := by
  intro a w S H r
  have h1 := opnd_rel r x
  rw [hx] at h1
  obtain ⟨cs, hv, hl, hr⟩ := h1
  obtain ⟨fs, fld, hu, hf, ho, ht⟩ := h.h
  have hsz : cs.size = ls.length := by rw [hl]; simp
  subst ho ht
  refine ⟨.agg (cs.extract fld.offset (fld.offset + sz)), ⟨_, rfl, by simp [hsz], fun j l u hj hu => ?_⟩, fun _ _ _ _ => by simp [execOp, hv, Instr.field, run_underlying hu, hf, part, asAgg, ti.run_isAgg, run_sizeOf' ti.i]⟩
  rw [List.getElem?_take] at hj
  split at hj
  · rw [List.getElem?_drop] at hj
    refine hr _ l u hj ?_
    rw [Array.toList_extract, List.extract_eq_take_drop, List.getElem?_take] at hu
    split at hu
    · rw [List.getElem?_drop] at hu; exact hu
    · cases hu
  · cases hj
end
end Go.Proofs.Ytmkcigfeebippaa.Abs

/-
  Rows of structs that hold nil.
-/
namespace Go.Proofs.Ytmkcigfeebippaa.Abs
open Go.RowKit
theorem mkLs_canon (zl : List Lf) (n : Nat) : (mkLs zl n).map Lf.canon = mkLs (zl.map Lf.canon) n := by
  unfold mkLs
  rw [List.map_map, List.length_map]
  apply List.map_congr_left
  intro j _
  simp only [Function.comp, List.getD_eq_getElem?_getD, List.getElem?_map]
  cases zl[j % zl.length]? <;> rfl
theorem lsR_canon {w : World} {S : Stab} {ls : List Lf} {vs : List Value} (h : LsR (Rep w S) ls vs) : LsR (Rep w S) (ls.map Lf.canon) vs := by
  refine ⟨by simpa using h.1, fun j l u hl hu => ?_⟩
  rw [List.getElem?_map] at hl
  cases hx : ls[j]? with
  | none => rw [hx] at hl; cases hl
  | some l' =>
    rw [hx] at hl
    cases hl
    exact canon_rep (h.2 j l' u hx hu)
section
variable {P : Program} {c : Ctx} {t : Nat → AV} {m : List Blk} {ops : Array Oper} {Q : Exit → AS → Prop} {rest : List Oper} {ty : TypeId} {pos : String} {af : Array Edge} {d : Tmp} {α : Type} {f : α → List Lf} {sz : Nat}

/-- append(nil, make([]T, n)...), nil in it told as slices of nothing. -/
theorem sappzc {x y : Operand} {t' t2 e bytes : Nat} {zl : List Lf} {k kn : IntKind} {n : Int} {z : α} (hd : decide (d < c.nt) = true) (si : P.underlying t' = some (.slice e)) (ei : EI P e sz bytes zl) (h2 : P.underlying t2 = some (.int kn)) (hf : ∀ x, (f x).length = sz) (hz : f z = zl.map Lf.canon) (hx : opnd ⟨t, m⟩ x = .s (.one (.raw (.slice none 0 0)))) (hy : opnd ⟨t, m⟩ y = .s (.one (.i k n)))
    (h : 0 < n ∧ n * (bytes : Int) ≤ 281474976710656) (hb : 0 < bytes)
    (kk : AWL P c ops Q rest ⟨upd t d (.s (.one (.ls m.length (List.replicate n.toNat z).length))), m ++ [.arr e sz 0 ((List.replicate n.toNat z).flatMap f)]⟩) :
    AWL P c ops Q (⟨some d, .call { callee := .builtin .append, args := #[x, y], argTypes := #[t', t2] }, ty, pos, af, none⟩ :: rest) ⟨t, m⟩ := by
  obtain ⟨N, rfl⟩ : ∃ N : Nat, n = (N : Int) := ⟨n.toNat, by omega⟩
  have hN : 0 < N := by omega
  have h48 : N * bytes ≤ 281474976710656 := by have := h.2; rw [← Int.natCast_mul] at this; omega
  have hle : N ≤ N * bytes := Nat.le_mul_of_pos_right _ hb
  rw [Int.toNat_natCast, List.length_replicate, ← mkLs_flat hz hf, ← mkLs_canon] at kk
  refine awl_newArr (e := e) (sz := sz) (n := N) (cs := (mkLs zl (N * sz)).map Lf.canon) ei.p (of_decide_eq_true hd) (fun a w S H r => ?_) kk
  obtain ⟨i, zz, hi, hzz, hsize, hbytes, hzs, hzl, hzo⟩ := ei.h
  have hx' := opnd_rel r x
  rw [hx] at hx'
  have hv : a.eval x = .slice none 0 0 := rep_raw hx'
  have hy' := opnd_rel r y
  rw [hy] at hy'
  have ev : a.eval y = .int k N := rep_i hy'
  subst hsize hbytes
  have hrun := Lib.run_append_nil_zeros (P := P) w t' t2 ty e i zz k kn si h2 hi hzz N hN ei.p (by omega) h48
  have hcap := grownCap_ge w N 0 e
  have hcm : grownCap w N 0 e ≤ maxLen := grownCap_le_maxLen w N 0 e (by simp only [maxLen]; omega)
  have hlen1 : (Builtin.zeroCells zz.cells N).size = N * i.size := by rw [size_zeroCells, hzs]
  refine ⟨.slice (some ⟨w.heap.size, 0, none⟩) N (grownCap w N 0 e), w.drew.alloc (.cells (Builtin.zeroCells zz.cells N ++ Builtin.zeroCells zz.cells (grownCap w N 0 e - N)) e), (Builtin.zeroCells zz.cells N).toList, fun _ _ _ _ => by simp [execOp, resolve, invoke, builtin, hv, ev, hrun], ?_, r.sl.ext ((Ext.drew w S).trans (Ext.alloc w.drew S _)), ?_, ?_⟩
  · exact (Ext.drew w S).trans (Ext.alloc w.drew S _)
  · refine ⟨by rw [Array.length_toList, hlen1], .inr ⟨w.heap.size, grownCap w N 0 e, _, rfl, Nat.le_refl _, heap_alloc_new w.drew _, hcap, hcm, ?_, ?_⟩⟩
    · simp only [Array.size_append, size_zeroCells, hzs, ← Nat.add_mul]
      congr 1; omega
    · simp only [Array.toList_append]
      rw [List.take_left' (by rw [Array.length_toList, hlen1])]
  · have := made_rep (w := w.drew.alloc (.cells (Builtin.zeroCells zz.cells N ++ Builtin.zeroCells zz.cells (grownCap w N 0 e - N)) e)) (S := S) (z := zz) (by rw [hzs]; exact ei.p) hzo (N * i.size) (N * i.size) (Nat.le_refl _)
    have e2 : (madeCells zz.cells (N * i.size)).toList.take (N * i.size) = (Builtin.zeroCells zz.cells N).toList := by
      rw [List.take_of_length_le (by rw [Array.length_toList, size_madeCells]; exact Nat.le_refl _)]
      unfold madeCells Builtin.zeroCells
      rw [hzs]
    rw [e2] at this
    rw [← hzl]
    exact lsR_canon this
end
end Go.Proofs.Ytmkcigfeebippaa.Abs

/-
  copy(x, x[j:]).
-/
namespace Go.Proofs.Ytmkcigfeebippaa.Abs
open Go.RowKit
/-- copy, whatever the source is. -/
theorem Rel.copyS {P : Program} {c : Ctx} {st : AS} {a : Act} {w : World} {S : Stab} {H : Nat → Value} (r : Rel c st a w S H) {t t2 ty e sz p n m : Nat} {cs ys : List Lf} {y : Value}
    (ht : P.underlying t = some (.slice e)) (hi : (P.info? e).map (·.size) = some sz) (hm : st.m[p]? = some (.arr e sz 0 cs)) (hn : n * sz = cs.length) (hsrc : ∃ ad cap news, y = .slice ad m cap ∧ news.length = Nat.min m n * sz ∧ (Builtin.firstCells sz (Nat.min m n) (.slice ad m cap)).run P w = .ok news.toArray w ∧ LsR (Rep w S) (ys.take (Nat.min m n * sz)) news) (hyl : ys.length = m * sz) :
    ∃ w', (Builtin.copy_ #[t, t2] ty #[H p, y]).run P w = .ok (goInt (Nat.min m n : Nat)) w' ∧ Rel c ⟨st.t, st.m.set p (.arr e sz 0 (ys.take (Nat.min m n * sz) ++ cs.drop (Nat.min m n * sz)))⟩ a w' S H := by
  have hp : p < st.m.length := (List.getElem?_eq_some_iff.1 hm).1
  obtain ⟨hsz, hk, n0, vals, hown, hcs, hstb⟩ := r.bl p _ hm
  have hnn : n0 = n := ownsRow_n hown hsz (by rw [← hcs.1]; exact hn)
  subst hnn
  have hset : setH H p (H p) = H := by
    funext q
    by_cases e' : q = p
    · rw [e', setH_same]
    · exact setH_other H _ e'
  have hqm : Nat.min m n0 ≤ m := Nat.min_le_left _ _
  have hqn : Nat.min m n0 ≤ n0 := Nat.min_le_right _ _
  generalize hq : Nat.min m n0 = q at *
  have hqm' : q * sz ≤ m * sz := Nat.mul_le_mul_right _ hqm
  have hqn' : q * sz ≤ n0 * sz := Nat.mul_le_mul_right _ hqn
  obtain ⟨ad, cap, news, rfl, hnl, hfc, hls⟩ := hsrc
  have hone : ∀ u ∈ news, u.oneCell' = true := by
    intro u hu
    obtain ⟨j, hj, hju⟩ := List.getElem_of_mem hu
    have hj' : j < (ys.take (q * sz)).length := by rw [hls.1]; exact hj
    exact Rep.oneCell (hls.2 j _ u (List.getElem?_eq_getElem hj') (by rw [List.getElem?_eq_getElem hj, hju]))
  rcases hown.2 with ⟨hv, h0⟩ | ⟨g, cp, cur, hv, hbg, hg, hnc, hcm, hcsz, htake⟩
  · subst h0
    have hq0 : q = 0 := by omega
    subst hq0
    have hn0 : news = [] := List.eq_nil_of_length_eq_zero (by rw [hnl, Nat.zero_mul])
    subst hn0
    have hsame : st.m.set p (.arr e sz 0 (ys.take (0 * sz) ++ cs.drop (0 * sz))) = st.m := by
      rw [Nat.zero_mul, List.take_zero, List.drop_zero, List.nil_append]
      apply List.ext_getElem?
      intro j
      by_cases e' : p = j
      · subst e'; rw [List.getElem?_set_self hp, hm]
      · rw [List.getElem?_set_ne e']
    refine ⟨w, ?_, by rw [hsame]; exact r⟩
    rw [hv]
    cases hq' : P.info? e with
    | none => simp [hq'] at hi
    | some i =>
      have hi' : i.size = sz := by simpa [hq'] using hi
      simp [Builtin.copy_, run_underlying ht, Builtin.lenOf, sizeOf, typeInfo, hq', hi', hfc]
  · have hrun := run_copy_any (P := P) w t t2 ty e g n0 m q cp cap sz ad cur e news ht hi hg hq hfc (by
      have := hown.1
      have h3 := congrArg List.length htake
      rw [List.length_take, Array.length_toList] at h3
      omega) hone
    have hrow := setRow_heap w g cur (news ++ cur.toList.drop news.length).toArray e _ hg
    have hoth : ∀ b, b ≠ g → (w.setRow g (news ++ cur.toList.drop news.length).toArray).heap[b]? = w.heap[b]? := fun b hb => setRow_other w g b _ hb
    have hownp : (Blk.arr e sz 0 cs).own (H p) = some g := by rw [hv]; rfl
    have hkeep : ∀ b j, S b j → S b j ∧ (w.setRow g (news ++ cur.toList.drop news.length).toArray).cell? ⟨b, j, none⟩ = w.cell? ⟨b, j, none⟩ := by
      intro b j hS
      refine ⟨hS, ?_⟩
      by_cases hbg' : b = g
      · subst hbg'
        exact absurd (r.sb p _ b j hm hownp hS) (Nat.not_lt_zero _)
      · exact World.cell?_of_block (w := w) (hoth b hbg')
    have hvl : vals.length = n0 * sz := hown.1
    have hown' : (w.setRow g (news ++ cur.toList.drop news.length).toArray).ownsRow 0 e sz (H p) n0 (news ++ vals.drop (q * sz)) := by
      refine ⟨by rw [List.length_append, hnl, List.length_drop, hvl]; omega, .inr ⟨g, cp, _, hv, hbg, hrow, hnc, hcm, ?_, ?_⟩⟩
      · have := Nat.mul_le_mul_right sz hnc
        simp only [List.size_toArray, List.length_append, List.length_drop, Array.length_toList, hnl]; omega
      · simp only [List.length_append, List.length_drop, hnl, hvl]
        rw [List.take_append, hnl]
        have hq1 : news.take (n0 * sz) = news := List.take_of_length_le (by rw [hnl]; omega)
        rw [hq1, ← htake, List.drop_take]
    refine ⟨_, by rw [hv]; exact hrun, ?_⟩
    have hch := r.change (m' := st.m.set p (.arr e sz 0 (ys.take (q * sz) ++ cs.drop (q * sz)))) (p := p) (b' := .arr e sz 0 (ys.take (q * sz) ++ cs.drop (q * sz))) (v := H p) (w' := w.setRow g (news ++ cur.toList.drop news.length).toArray) (S' := S)
      (by simp) (by rw [List.getElem?_set_self hp]) (fun j hj => List.getElem?_set_ne (fun e => hj e.symm)) hkeep (fun _ _ _ => rfl)
      (fun e' sz' k' cs' _ h => by cases h; exact ⟨0, cs, hm, .inl ⟨by rw [List.length_append, List.length_take, List.length_drop, hyl]; omega, rfl⟩⟩)
      (fun g' _ hne => hoth g' (fun e' => hne _ hm (by rw [e']; exact hownp))) ?_ (fun g' hg' => ?_) (fun _ _ _ _ _ _ _ hs => hs) (fun _ _ _ _ hs => hs) ⟨fun b j hs => by simp; exact r.sl.1 b j hs, r.sl.2.mono hkeep⟩ (by simp) rfl rfl rfl
    · rw [hset] at hch; exact hch
    · rw [hset]
      refine ⟨hsz, Nat.zero_le _, n0, news ++ vals.drop (q * sz), hown', ?_, fun g' _ j hj => absurd hj (Nat.not_lt_zero _)⟩
      refine (LsR.append hls (y := vals.drop (q * sz)) (b := cs.drop (q * sz)) ⟨by rw [List.length_drop, List.length_drop, hcs.1], fun j l v h1 h2 => ?_⟩).mono (fun l v => Rep.mono hkeep)
      rw [List.getElem?_drop] at h1 h2
      exact hcs.2 _ l v h1 h2
    · have hg'' : g' = g := by
        have := hg'
        rw [hv] at this
        simp only [Blk.own, ownOf, Option.some.injEq] at this
        exact this.symm
      subst hg''
      exact ⟨(r.lo p _ g' hm hownp).1, by simp; exact (r.lo p _ g' hm hownp).2, fun j b hj hb ho => hj (r.inj j p b _ g' hb hm ho hownp), fun j hj => (show j < 0 from r.sb p _ g' j hm hownp hj)⟩

section
variable {P : Program} {c : Ctx} {t : Nat → AV} {m : List Blk} {ops : Array Oper} {Q : Exit → AS → Prop} {rest : List Oper} {ty ty' : TypeId} {pos pos' : String} {af af' : Array Edge} {d d1 : Tmp} {α : Type} {f : α → List Lf} {sz : Nat}
theorem slcopy_len {xs : List α} {j : Int} (h : 0 ≤ j ∧ j ≤ xs.length ∧ 0 < xs.length) : xs.length = (xs.drop j.toNat ++ xs.drop (xs.length - j.toNat)).length := by
  rw [List.length_append, List.length_drop, List.length_drop]; omega
/-- v := x[j:]; copy(x, v): what v is is not known behind it. -/
theorem sslcopy {x y o : Operand} {t' t2 e p n : Nat} {cs : List Lf} {xs : List α} {k : IntKind} {j : Int} (hd1 : decide (d1 < c.nt) = true) (hd : decide (d < c.nt) = true) (si : SI P t' e sz) (hf : ∀ x, (f x).length = sz)
    (hy : opnd ⟨t, m⟩ y = .s (.one (.ls p n))) (hx : opnd ⟨upd t d1 .top, m⟩ x = .s (.one (.ls p n))) (hm : m[p]? = some (.arr e sz 0 cs)) (hcs : cs = xs.flatMap f) (hn : n = xs.length) (ho : opnd ⟨t, m⟩ o = .s (.one (.i k j))) (h : 0 ≤ j ∧ j ≤ xs.length ∧ 0 < xs.length)
    (kk : AWL P c ops Q rest ⟨upd (upd t d1 .top) d (.s (.one (.i .i64 ((xs.length - j.toNat : Nat) : Int)))), m.set p (.arr e sz 0 ((xs.drop j.toNat ++ xs.drop (xs.length - j.toNat)).flatMap f))⟩) :
    AWL P c ops Q (⟨some d1, .slice t' y (some o) none none, ty, pos, af, none⟩ :: ⟨some d, .call { callee := .builtin .copy, args := #[x, .tmp d1], argTypes := #[t', t2] }, ty', pos', af', none⟩ :: rest) ⟨t, m⟩ := by
  subst hcs hn
  intro a w S H r
  have hy' := opnd_rel r y
  rw [hy] at hy'
  have hv : a.eval y = H p := (hy'.2.2 _ _ _ _ hm).2 (flat_len hf xs).symm
  obtain ⟨hsz, hk, n0, vals, hown, hls, hst⟩ := r.bl p _ hm
  have hnl : xs.length * sz = (xs.flatMap f).length := (flat_len hf xs).symm
  have hn0 : n0 = xs.length := ownsRow_n hown hsz (by rw [← hls.1]; exact hnl)
  subst hn0
  rcases hown.2 with ⟨h1, h0⟩ | ⟨g, cap, cur, h1, h2, h3, h4, h5, h6, h7⟩
  · omega
  have hJ : j.toNat ≤ xs.length := by omega
  generalize hJe : j.toNat = J at *
  have hb := bound_run (P := P) r ho h.1 xs.length (by omega) .sliceB
  rw [hJe] at hb
  have hfd : (xs.drop J).flatMap f = (xs.flatMap f).drop (J * sz) := by
    have e1 : xs.flatMap f = (xs.take J).flatMap f ++ (xs.drop J).flatMap f := by rw [← List.flatMap_append, List.take_append_drop]
    have e2 : ((xs.take J).flatMap f).length = J * sz := by rw [flat_len hf, List.length_take, Nat.min_eq_left hJ]
    rw [e1, ← e2, List.drop_left]
  have hfd2 : (xs.drop (xs.length - J)).flatMap f = (xs.flatMap f).drop ((xs.length - J) * sz) := by
    have e1 : xs.flatMap f = (xs.take (xs.length - J)).flatMap f ++ (xs.drop (xs.length - J)).flatMap f := by rw [← List.flatMap_append, List.take_append_drop]
    have e2 : ((xs.take (xs.length - J)).flatMap f).length = (xs.length - J) * sz := by rw [flat_len hf, List.length_take, Nat.min_eq_left (by omega)]
    conv => rhs; rw [e1]
    rw [← e2, List.drop_left]
  let v1 : Value := .slice (if cap = J then some ⟨g, 0, none⟩ else some ⟨g, J * sz, none⟩) (xs.length - J) (cap - J)
  have hrun1 : (execOp a.eval ⟨some d1, .slice t' y (some o) none none, ty, pos, af, none⟩).run P w = .ok (.value v1) w := by
    have hadd : (⟨g, 0, none⟩ : Addr).add (J * sz) = ⟨g, 0 + J * sz, none⟩ := Addr.add_lit _ _ _
    simp [execOp, hv, h1, Instr.sliceAt, Instr.slice, run_underlying si.u, Instr.sliceBounds, run_sizeOf' si.i, hb, v1, hadd]
  refine wpList_plain rfl fun K hK => ?_
  unfold Oper.wp
  rw [hrun1]
  refine hK _ _ ?_
  have r1 : Rel c ⟨upd t d1 .top, m⟩ (a.put (some d1) v1) w S H := r.put (x := .top) (of_decide_eq_true hd1) trivial
  have hx' := opnd_rel r1 x
  rw [hx] at hx'
  have hvx : (a.put (some d1) v1).eval x = H p := (hx'.2.2 _ _ _ _ hm).2 (flat_len hf xs).symm
  have hvd : (a.put (some d1) v1).eval (.tmp d1) = v1 := by
    show (a.put (some d1) v1).tmps.getD d1 undef = v1
    rw [getD_put (by rw [r.nt]; exact of_decide_eq_true hd1), if_pos rfl]
  have hq : Nat.min (xs.length - J) xs.length = xs.length - J := Nat.min_eq_left (by omega)
  have hvl : vals.length = xs.length * sz := hown.1
  have hnewl : (vals.drop (J * sz)).length = (xs.length - J) * sz := by rw [List.length_drop, hvl, Nat.sub_mul]
  have hcell : ∀ (i : Nat) (u : Value), (vals.drop (J * sz))[i]? = some u → w.cell? ⟨g, J * sz + i, none⟩ = some u := by
    intro i u hu
    rw [List.getElem?_drop] at hu
    have := hown.cells (g := g) (by rw [h1]; rfl) (J * sz + i) u hu
    rwa [Addr.add_lit, Nat.zero_add] at this
  have hsrc : ∃ ad cap' news, v1 = .slice ad (xs.length - J) cap' ∧ news.length = Nat.min (xs.length - J) xs.length * sz ∧ (Builtin.firstCells sz (Nat.min (xs.length - J) xs.length) (.slice ad (xs.length - J) cap')).run P w = .ok news.toArray w ∧ LsR (Rep w S) (((xs.drop J).flatMap f).take (Nat.min (xs.length - J) xs.length * sz)) news := by
    refine ⟨_, _, vals.drop (J * sz), rfl, by rw [hq]; exact hnewl, ?_, ?_⟩
    · rw [hq]
      by_cases h0 : xs.length - J = 0
      · have hnil : vals.drop (J * sz) = [] := List.eq_nil_of_length_eq_zero (by rw [hnewl, h0, Nat.zero_mul])
        rw [hnil, h0]
        split <;> (simp only [Builtin.firstCells, loadCells, Nat.zero_mul]; first | rfl | (unfold loadCellsFrom; rfl) | (simp [loadCellsFrom]))
      · rw [if_neg (by omega)]
        exact run_firstCells_some w sz (xs.length - J) ⟨g, J * sz, none⟩ (xs.length - J) (cap - J) _ hnewl (fun i u hu => by
          rw [Addr.add_lit]
          exact hcell i u hu)
    · rw [hq, hfd, List.take_of_length_le (by rw [List.length_drop, ← hnl, Nat.sub_mul]; exact Nat.le_refl _)]
      refine ⟨by rw [List.length_drop, List.length_drop, hls.1], fun i l u hl hu => ?_⟩
      rw [List.getElem?_drop] at hl hu
      exact hls.2 _ l u hl hu
  obtain ⟨w', hrun, hrel⟩ := r1.copyS (P := P) (t2 := t2) (ty := ty') (ys := (xs.drop J).flatMap f) (y := v1) si.u si.i hm hnl hsrc (by rw [flat_len hf, List.length_drop])
  refine wpList_plain rfl fun K' hK' => ?_
  unfold Oper.wp
  have hrun' : (execOp (a.put (some d1) v1).eval ⟨some d, .call { callee := .builtin .copy, args := #[x, .tmp d1], argTypes := #[t', t2] }, ty', pos', af', none⟩).run P w = .ok (.value (goInt (Nat.min (xs.length - J) xs.length : Nat))) w' := by
    simp [execOp, resolve, invoke, builtin, hvx, hvd, hrun]
  rw [hrun']
  have e : ((xs.drop J).flatMap f).take (Nat.min (xs.length - J) xs.length * sz) ++ (xs.flatMap f).drop (Nat.min (xs.length - J) xs.length * sz) = (xs.drop J ++ xs.drop (xs.length - J)).flatMap f := by
    rw [hq, List.flatMap_append, hfd2]
    congr 1
    exact List.take_of_length_le (by rw [flat_len hf, List.length_drop]; exact Nat.le_refl _)
  rw [e] at hrel
  rw [hq]
  exact hK' _ _ (kk _ _ _ _ (hrel.put (d := d) (x := .s (.one (.i .i64 ((xs.length - J : Nat) : Int)))) (of_decide_eq_true hd) (avr_rep (.i _ _))))
end
end Go.Proofs.Ytmkcigfeebippaa.Abs

/-
  make([]T, n), nil in it told as slices of nothing.
-/
namespace Go.Proofs.Ytmkcigfeebippaa.Abs
open Go.RowKit
/-- An own row's cells, nil told otherwise. -/
theorem Rel.canonArr {c : Ctx} {st : AS} {a : Act} {w : World} {S : Stab} {H : Nat → Value} (r : Rel c st a w S H) {e sz p : Nat} {cs : List Lf} (hm : st.m[p]? = some (.arr e sz 0 cs)) : Rel c ⟨st.t, st.m.set p (.arr e sz 0 (cs.map Lf.canon))⟩ a w S H := by
  have hp : p < st.m.length := (List.getElem?_eq_some_iff.1 hm).1
  obtain ⟨hsz, hk, n0, vals, hown, hcs, hstb⟩ := r.bl p _ hm
  have hset : setH H p (H p) = H := by
    funext q
    by_cases e' : q = p
    · rw [e', setH_same]
    · exact setH_other H _ e'
  have hch := r.change (m' := st.m.set p (.arr e sz 0 (cs.map Lf.canon))) (p := p) (b' := .arr e sz 0 (cs.map Lf.canon)) (v := H p) (w' := w) (S' := S)
    (by simp) (by rw [List.getElem?_set_self hp]) (fun j hj => List.getElem?_set_ne (fun e => hj e.symm)) (fun b j h => ⟨h, rfl⟩) (fun _ _ _ => rfl)
    (fun e' sz' k' cs' _ h => by cases h; exact ⟨0, cs, hm, .inl ⟨by simp, rfl⟩⟩)
    (fun g' _ _ => rfl) ?_ (fun g' hg' => ?_) (fun _ _ _ _ _ _ _ hs => hs) (fun _ _ _ _ hs => hs) r.sl (Nat.le_refl _) rfl rfl rfl
  · rw [hset] at hch; exact hch
  · rw [hset]
    exact ⟨hsz, Nat.zero_le _, n0, vals, hown, lsR_canon hcs, fun g' _ j hj => absurd hj (Nat.not_lt_zero _)⟩
  · have hownp : (Blk.arr e sz 0 cs).own (H p) = some g' := hg'
    exact ⟨(r.lo p _ g' hm hownp).1, (r.lo p _ g' hm hownp).2, fun j b hj hb ho => hj (r.inj j p b _ g' hb hm ho hownp), fun j hj => (show j < 0 from r.sb p _ g' j hm hownp hj)⟩
section
variable {P : Program} {c : Ctx} {t : Nat → AV} {m : List Blk} {ops : Array Oper} {Q : Exit → AS → Prop} {rest : List Oper} {ty : TypeId} {pos : String} {af : Array Edge} {d : Tmp} {α : Type} {f : α → List Lf} {sz : Nat}
theorem scanon_arr {l : List Oper} {e p : Nat} {cs : List Lf} (hm : m[p]? = some (.arr e sz 0 cs)) (k : AWL P c ops Q l ⟨t, m.set p (.arr e sz 0 (cs.map Lf.canon))⟩) : AWL P c ops Q l ⟨t, m⟩ :=
  fun a w S H r => k a w S H (r.canonArr hm)
theorem smkc {t' e bytes : Nat} {zl : List Lf} {x y : Operand} {kl kc : IntKind} {l cc : Int} {z : α} (hd : decide (d < c.nt) = true) (si : P.underlying t' = some (.slice e)) (ei : EI P e sz bytes zl) (hf : ∀ x, (f x).length = sz) (hz : f z = zl.map Lf.canon) (hx : opnd ⟨t, m⟩ x = .s (.one (.i kl l))) (hy : opnd ⟨t, m⟩ y = .s (.one (.i kc cc)))
    (h : 0 ≤ l ∧ l ≤ cc ∧ (bytes : Int) * cc ≤ 281474976710656) (hbp : 0 < bytes)
    (k : AWL P c ops Q rest ⟨upd t d (.s (.one (.ls m.length (List.replicate l.toNat z).length))), m ++ [.arr e sz 0 ((List.replicate l.toNat z).flatMap f)]⟩) : AWL P c ops Q (⟨some d, .makeSlice t' x y, ty, pos, af, none⟩ :: rest) ⟨t, m⟩ := by
  have hcc : cc ≤ (bytes : Int) * cc := by
    have h1 : (1 : Int) ≤ bytes := by omega
    have h2 : (0 : Int) ≤ cc := by omega
    calc cc = 1 * cc := (Int.one_mul cc).symm
      _ ≤ (bytes : Int) * cc := Int.mul_le_mul_of_nonneg_right h1 h2
  refine smake hd si ei hx hy h.1 h.2.1 h.2.2 (by omega) ?_
  refine scanon_arr (sz := sz) (e := e) (p := m.length) (cs := mkLs zl (l.toNat * sz)) (by simp) ?_
  rw [List.set_append_right _ _ (Nat.le_refl _), Nat.sub_self, List.set_cons_zero, mkLs_canon, mkLs_flat hz hf]
  rw [List.length_replicate] at k
  exact k
end
end Go.Proofs.Ytmkcigfeebippaa.Abs

/-
  Code within a frame that has deferred calls' marks, or within a round's frame of a range over a function: a region is walked with a context of its own.
-/
namespace Go.Proofs.Ytmkcigfeebippaa.Abs
open Go.RowKit

/-- All is let in; a round's frame knows its loop. -/
def FW (rd : Option Nat) : Fence := { Fence.wide with round := rd }
theorem callsIn_FW {rd : Option Nat} {n : Nat} {P : Program} {f : FuncId} {args : Array Value} {w : World} {R : Ending → World → Prop} (h : Calls P f args w R) : CallsIn (FW rd) n P f args w R :=
  (callsIn_wide (n := n)).2 h
theorem rowsIn_FW {rd : Option Nat} {n : Nat} {P : Program} {row : String} {args : Array Value} {w : World} {R : Value → World → Prop} (h : Rows P row args w R) : RowsIn (FW rd) n P row args w R :=
  fun c cs _ => let ⟨v, w', r, s⟩ := h c cs; ⟨v, w', r, (stepsIn_wide).2 s⟩

/-- The same, with other deferred calls. -/
def dsl (a : Act) (ds : List Deferred) : Act := { a with defers := ds }
theorem dsl_put (a : Act) (ds : List Deferred) (d : Option Tmp) (v : Value) : dsl (a.put d v) ds = (dsl a ds).put d v := by cases d <;> rfl
theorem put_defers (a : Act) (d : Option Tmp) (v : Value) : (a.put d v).defers = a.defers := by cases d <;> rfl
theorem dsl_same {a : Act} {ds : List Deferred} (h : a.defers = ds) : dsl a ds = a := by subst h; rfl
theorem dsl_dsl (a : Act) (d e : List Deferred) : dsl (dsl a d) e = dsl a e := rfl
theorem dsl_eval (a : Act) (ds : List Deferred) : (dsl a ds).eval = a.eval := by funext x; cases x <;> rfl

def ndf (o : Oper) : Bool := match o.op with
  | .defer _ => false
  | _ => true

section
variable {P : Program} {ops : Array Oper} {K K' : Act → World → Prop} {Q1 Q2 : Exit → Act → World → Prop} {ds : List Deferred} {rd : Option Nat}

theorem opwp_nd {o : Oper} {a : Act} {w : World} (hno : ¬ LetsOut Q1) (hK : ∀ a w, K a w → a.defers = []) (hQ : ∀ e a w, Q1 e a w → a.defers = []) (h : o.wp P a w K Q1) : a.defers = [] := by
  unfold Oper.wp at h
  generalize (execOp a.eval o).run P w = r at h
  cases r with
  | ok nx w' =>
    cases nx with
    | value v => have := hK _ _ h; rwa [put_defers] at this
    | skip => have := hK _ _ h; rwa [put_defers] at this
    | defer d => have := hK _ _ h; rw [put_defers] at this; cases this
    | enter f args =>
      have h' : Calls P f args w' _ := h
      obtain ⟨e, w'', fr, hr, _⟩ := h' []
      cases e with
      | returned v => have := hK _ _ hr; rwa [put_defers] at this
      | panicked ch => exact hQ _ _ _ hr
      | outgrown => exact absurd hr hno
    | row row args =>
      have h' : Rows P row args w' _ := h
      obtain ⟨v, w'', hr, _⟩ := h' default []
      have := hK _ _ hr; rwa [put_defers] at this
    | _ => exact absurd h id
  | halt x w' =>
    cases x with
    | panic v => exact hQ _ _ _ h
    | _ => exact absurd h id

theorem opwp_in {o : Oper} (hd : ndf o = true) {a : Act} {w : World} (hno : ¬ LetsOut Q1) (hnd : ∀ a w, K a w → a.defers = []) (hK : ∀ a w, K a w → K' (dsl a ds) w) (hQ : ∀ e a w, Q1 e a w → Q2 e (dsl a ds) w)
    (h : o.wp P a w K Q1) : o.wpIn (FW rd) 0 P (dsl a ds) w K' Q2 := by
  refine ⟨fun _ _ => trivial, ?_⟩
  have e2 : o.semAt (FW rd).round (dsl a ds).eval = execOp a.eval o := by
    rw [dsl_eval]
    cases rd with
    | none => exact Oper.semAt_none _ _
    | some l => exact Oper.semAt_some l _ o (fun c hc => by simp only [ndf, hc] at hd; cases hd)
  rw [e2]
  unfold Oper.wp at h
  generalize (execOp a.eval o).run P w = r at h
  cases r with
  | ok nx w' =>
    cases nx with
    | value v => have := hK _ _ h; rw [dsl_put] at this; exact this
    | skip => have := hK _ _ h; rw [dsl_put] at this; exact this
    | defer d => have := hnd _ _ h; rw [put_defers] at this; cases this
    | enter f args =>
      refine ⟨fun hh => (by simp [FW, Fence.wide] at hh), callsIn_FW ?_⟩
      have h' : Calls P f args w' _ := h
      refine h'.mono fun e w'' hr => ?_
      cases e with
      | returned v => have := hK _ _ hr; rw [dsl_put] at this; exact this
      | panicked ch => exact hQ _ _ _ hr
      | outgrown => exact absurd hr hno
    | row row args =>
      refine ⟨fun hh => (by simp [FW, Fence.wide] at hh), rowsIn_FW ?_⟩
      have h' : Rows P row args w' _ := h
      refine h'.mono fun v w'' hr => ?_
      have := hK _ _ hr; rw [dsl_put] at this; exact this
    | _ => exact absurd h id
  | halt x w' =>
    cases x with
    | panic v => exact hQ _ _ _ h
    | _ => exact absurd h id

theorem wpList_nd (hno : ¬ LetsOut Q1) (hQ : ∀ e a w, Q1 e a w → a.defers = []) : ∀ (l : List Oper) (a : Act) (w : World), wpList P ops Q1 l a w → a.defers = []
  | [], a, w, h => hQ _ _ _ h
  | o :: rest, a, w, h => by
    unfold wpList at h
    split at h
    · rcases h with h | h
      · exact opwp_nd hno (fun a w => wpList_nd hno hQ rest a w) hQ h
      · exact absurd h.2 hno
    · have := wpList_nd hno hQ rest _ _ h
      rwa [put_defers] at this

theorem wpList_in (hno : ¬ LetsOut Q1) (hnd : ∀ e a w, Q1 e a w → a.defers = []) (hQ : ∀ e a w, Q1 e a w → Q2 e (dsl a ds) w) : ∀ (l : List Oper), l.all ndf = true → ∀ (a : Act) (w : World), wpList P ops Q1 l a w → wpListIn (FW rd) 0 P ops Q2 l (dsl a ds) w
  | [], _, a, w, h => hQ _ _ _ h
  | o :: rest, hl, a, w, h => by
    simp only [List.all_cons, Bool.and_eq_true] at hl
    unfold wpList at h
    unfold wpListIn
    have ih := wpList_in hno hnd hQ rest hl.2
    by_cases hw : Region.wanted o (yielded ops a.tmps) = true
    · rw [if_pos hw] at h
      rw [if_pos (show Region.wanted o (yielded ops (dsl a ds).tmps) = true from hw)]
      rcases h with h | h
      · exact opwp_in hl.1 hno (wpList_nd hno hnd rest) ih hQ h
      · exact absurd h.2 hno
    · rw [if_neg hw] at h
      rw [if_neg (show ¬ Region.wanted o (yielded ops (dsl a ds).tmps) = true from hw)]
      have := ih _ _ h
      rw [dsl_put] at this
      exact ⟨fun _ _ => trivial, this⟩

theorem wpAny_nd (hno : ¬ LetsOut Q1) (hQ : ∀ e a w, Q1 e a w → a.defers = []) {md : Region.Mode} : ∀ (fuel : Nat) (listed : Array Bool) (a : Act) (w : World), wpAny P md ops Q1 fuel listed a w → a.defers = []
  | 0, listed, a, w, h => hQ _ _ _ h.2
  | fuel + 1, listed, a, w, h => by
    obtain ⟨h0, h1⟩ := h
    cases hr : Region.ready md ops listed with
    | nil => exact hQ _ _ _ (h0 hr)
    | cons i is =>
      have h := h1 i (by rw [hr]; exact List.mem_cons_self ..)
      unfold wpOp at h
      have ih := wpAny_nd hno hQ (md := md) fuel (listed.setIfInBounds i true)
      split at h
      · exact ih _ _ h
      · split at h
        · rcases h with h | h
          · exact opwp_nd hno ih hQ h
          · exact absurd h.2 hno
        · have := ih _ _ h
          rwa [put_defers] at this

theorem wpAny_in (hl : ∀ o ∈ ops, ndf o = true) (hno : ¬ LetsOut Q1) (hnd : ∀ e a w, Q1 e a w → a.defers = []) (hQ : ∀ e a w, Q1 e a w → Q2 e (dsl a ds) w) {md : Region.Mode} : ∀ (fuel : Nat) (listed : Array Bool) (a : Act) (w : World), wpAny P md ops Q1 fuel listed a w → wpAnyIn (FW rd) 0 P md ops Q2 fuel listed (dsl a ds) w
  | 0, listed, a, w, h => ⟨h.1, hQ _ _ _ h.2⟩
  | fuel + 1, listed, a, w, h => by
    obtain ⟨h0, h1⟩ := h
    refine ⟨fun hr => hQ _ _ _ (h0 hr), fun i hi => ?_⟩
    have h := h1 i hi
    have ih := wpAny_in hl hno hnd hQ (md := md) fuel (listed.setIfInBounds i true)
    unfold wpOp at h
    unfold wpOpIn
    cases ho : ops[i]? with
    | none => rw [ho] at h; exact ih _ _ h
    | some o =>
      rw [ho] at h
      simp only at h ⊢
      by_cases hw : Region.wanted o (yielded ops a.tmps) = true
      · rw [if_pos hw] at h
        rw [if_pos (show Region.wanted o (yielded ops (dsl a ds).tmps) = true from hw)]
        rcases h with h | h
        · exact opwp_in (hl o (Array.mem_of_getElem? ho)) hno (wpAny_nd hno hnd _ _) ih hQ h
        · exact absurd h.2 hno
      · rw [if_neg hw] at h
        rw [if_neg (show ¬ Region.wanted o (yielded ops (dsl a ds).tmps) = true from hw)]
        have := ih _ _ h
        rw [dsl_put] at this
        exact ⟨fun _ _ => trivial, this⟩
end

/-! A context of the moment -/

/-- The own blocks of the moment. -/
def OwnX (m : List Blk) (H : Nat → Value) (g : Nat) : Prop := ∃ (p : Nat) (b : Blk), m[p]? = some b ∧ b.own (H p) = some g
abbrev Ctx.now (c : Ctx) (st : AS) (w : World) (S : Stab) (H : Nat → Value) : Ctx := ⟨w, S, c.nt, OwnX st.m H, st.m, H⟩

theorem Rel.now {c : Ctx} {st : AS} {a : Act} {w : World} {S : Stab} {H : Nat → Value} (r : Rel c st a w S H) : Rel (c.now st w S H) st a w S H :=
  ⟨r.nt, r.df, r.tm, r.bl, fun p b g hb ho => ⟨.inr ⟨p, b, hb, ho⟩, (r.lo p b g hb ho).2⟩, r.inj, r.sb, r.sl, ExtX.refl _ _ _, Nat.le_refl _, fun _ _ _ _ => rfl,
   fun p e sz k cs hp hm => ⟨k, cs, hm, .inl ⟨rfl, rfl⟩⟩, fun _ _ h => h⟩

theorem ExtX.then_now {c : Ctx} {st : AS} {a : Act} {w w' : World} {S S' : Stab} {H : Nat → Value} (r : Rel c st a w S H) (x : ExtX (OwnX st.m H) w S w' S') : ExtX c.X c.w0 c.S0 w' S' := by
  have k := r.ex
  have nx : ∀ b, b < c.w0.heap.size → ¬ c.X b → ¬ OwnX st.m H b := fun b hb hx ⟨p, bb, h1, h2⟩ => by
    rcases (r.lo p bb b h1 h2).1 with h | h
    · omega
    · exact hx h
  refine ⟨x.os.trans k.os, x.tape.trans k.tape, x.output.trans k.output, Nat.le_trans k.size x.size, fun b hb hx => ?_, fun b i hs => x.sub b i (k.sub b i hs), fun b i hs => (x.stab b i (k.sub b i hs)).trans (k.stab b i hs), fun b i hb hx hs => ?_⟩
  · exact (x.blk b (Nat.lt_of_lt_of_le hb k.size) (nx b hb hx)).trans (k.blk b hb hx)
  · exact k.back b i hb hx (x.back b i (Nat.lt_of_lt_of_le hb k.size) (nx b hb hx) hs)

/-- What a walk in the context of the moment comes to, in the old one. -/
theorem Rel.then_now {c : Ctx} {st st' : AS} {a a' : Act} {w w' : World} {S S' : Stab} {H H' : Nat → Value} (r : Rel c st a w S H) (r' : Rel (c.now st w S H) st' a' w' S' H') : Rel c st' a' w' S' H' := by
  refine ⟨r'.nt, r'.df, r'.tm, r'.bl, fun p b g hb ho => ?_, r'.inj, r'.sb, r'.sl, ExtX.then_now r r'.ex, Nat.le_trans r.kl r'.kl, fun p g hp hh => ?_, fun p e sz k cs hp hm => ?_, fun p hp hne => r'.ku p (Nat.lt_of_lt_of_le hp r.kl) (r.ku p hp hne)⟩
  · obtain ⟨h1, h2⟩ := r'.lo p b g hb ho
    refine ⟨?_, h2⟩
    rcases h1 with h1 | ⟨q, bb, h3, h4⟩
    · exact .inl (Nat.le_trans r.ex.size h1)
    · exact (r.lo q bb g h3 h4).1
  · have h1 := r.kh p g hp hh
    exact (r'.kh p g (Nat.lt_of_lt_of_le hp r.kl) (h1.trans hh)).trans h1
  · obtain ⟨k1, cs1, h1, h2⟩ := r'.kr p e sz k cs (Nat.lt_of_lt_of_le hp r.kl) hm
    obtain ⟨k2, cs2, h3, h4⟩ := r.kr p e sz k1 cs1 hp h1
    refine ⟨k2, cs2, h3, ?_⟩
    rcases h2 with ⟨h2, h5⟩ | h2 <;> rcases h4 with ⟨h4, h6⟩ | h4
    · exact .inl ⟨h4.trans h2, h5.trans h6⟩
    · exact .inr (by omega)
    · exact .inr (by omega)
    · exact .inr (by omega)

/-- An own block holds cells. -/
theorem own_cells {base : Nat} {w : World} {S : Stab} {m : List Blk} {H : Nat → Value} {b : Blk} {v : Value} {g : Nat} (h : BlkR base w S m H b v) (ho : b.own v = some g) : ∃ o, w.heap[g]? = some o ∧ isOwn o = true := by
  cases b with
  | dead => cases ho
  | hole => cases ho
  | obj g' mk cs =>
    obtain ⟨h1, vs, o, h2, h3, _⟩ := h
    rw [h1] at ho
    have : g' = g := by simpa [Blk.own, ownOf] using ho
    subst this
    exact ⟨o, h2, isOwn_tab h3⟩
  | box cs =>
    obtain ⟨g', e, cur, h1, h2, _⟩ := h
    rw [h1] at ho
    have : g' = g := by simpa [Blk.own, ownOf] using ho
    subst this
    exact ⟨_, h2, rfl⟩
  | arr e sz k cs =>
    obtain ⟨_, _, n, vals, h1, _⟩ := h
    rcases h1.2 with ⟨hv, _⟩ | ⟨g', cap, cur, hv, _, hg, _⟩
    · rw [hv] at ho; cases ho
    · rw [hv] at ho
      have : g' = g := by simpa [Blk.own, ownOf] using ho
      subst this
      exact ⟨_, hg, rfl⟩

/-- Blocks that hold no cells, and what they hold. -/
def Zed (w : World) (Z : List (Nat × Obj)) : Prop := ∀ x ∈ Z, w.heap[x.1]? = some x.2 ∧ isOwn x.2 = false

theorem Zed.now {c : Ctx} {st : AS} {a : Act} {w w' : World} {S S' : Stab} {H : Nat → Value} {Z : List (Nat × Obj)} (r : Rel c st a w S H) (x : ExtX (OwnX st.m H) w S w' S') (z : Zed w Z) : Zed w' Z := fun y hy => by
  obtain ⟨h1, h2⟩ := z y hy
  refine ⟨(x.blk y.1 (Array.getElem?_eq_some_iff.1 h1).1 fun ⟨p, b, h3, h4⟩ => ?_).trans h1, h2⟩
  obtain ⟨o, h5, h6⟩ := own_cells (r.bl p b h3) h4
  rw [h1] at h5
  have : y.2 = o := Option.some.inj h5
  rw [this, h6] at h2
  cases h2

theorem Zed.ext {w w' : World} {S S' : Stab} {Z : List (Nat × Obj)} (x : Ext w S w' S') (z : Zed w Z) : Zed w' Z := fun y hy => by
  obtain ⟨h1, h2⟩ := z y hy
  exact ⟨(x.blk y.1 (Array.getElem?_eq_some_iff.1 h1).1).trans h1, h2⟩

theorem isOwn_cells {o : Obj} (h : isOwn o = false) : o.isCells = false := by cases o <;> first | rfl | cases h
/-- A block without cells is laid anew: nothing of what is known turns. -/
theorem cell_putObj {w : World} {l : Nat} {o o' : Obj} (h : w.heap[l]? = some o) (ho : isOwn o = false) (ho' : isOwn o' = false) (a : Addr) : (w.putObj l o').cell? a = w.cell? a := by
  have ho := isOwn_cells ho
  have ho' := isOwn_cells ho'
  by_cases e : a.block = l
  · have h1 : (w.putObj l o').heap[a.block]? = some o' := by rw [e]; exact World.putObj_heap_same (Array.getElem?_eq_some_iff.1 h).1
    have h2 : w.heap[a.block]? = some o := by rw [e]; exact h
    unfold World.cell?
    rw [h1, h2]
    cases o <;> first | cases ho; done | (cases o' <;> first | rfl | (simp [Obj.isCells] at ho'; done) | (simp [Obj.isCells] at ho; done))
  · exact World.cell?_of_block (World.putObj_heap_other e)

theorem Rel.putObj {c : Ctx} {st : AS} {a : Act} {w : World} {S : Stab} {H : Nat → Value} (r : Rel c st a w S H) {l : Nat} {o : Obj} (o' : Obj) (h : w.heap[l]? = some o) (ho : isOwn o = false) (ho' : isOwn o' = false) (hl : c.w0.heap.size ≤ l) : Rel c st a (w.putObj l o') S H := by
  have hc := cell_putObj (o' := o') h ho ho'
  have hk : ∀ b i, S b i → S b i ∧ (w.putObj l o').cell? ⟨b, i, none⟩ = w.cell? ⟨b, i, none⟩ := fun b i hs => ⟨hs, hc _⟩
  have hg : ∀ x v, GRep w S st.m H x v → GRep (w.putObj l o') S st.m H x v := fun x v => GRep.mono hk (Nat.le_refl _) (fun _ _ => rfl) (fun p e sz k cs _ hm => ⟨k, cs, hm, rfl⟩)
  have hb : ∀ (p : Nat) (b : Blk) (g : Nat), st.m[p]? = some b → b.own (H p) = some g → (w.putObj l o').heap[g]? = w.heap[g]? := fun p b g h1 h2 => by
    refine World.putObj_heap_other fun e => ?_
    subst e
    obtain ⟨o2, h5, h6⟩ := own_cells (r.bl p b h1) h2
    rw [h] at h5
    have : o = o2 := Option.some.inj h5
    rw [this, h6] at ho
    cases ho
  refine ⟨r.nt, r.df, fun i => AVR.mono hg (r.tm i), fun p b hbb => ?_, fun p b g h1 h2 => ⟨(r.lo p b g h1 h2).1, by rw [World.putObj_size]; exact (r.lo p b g h1 h2).2⟩, r.inj, r.sb, r.sl.turn (by rw [World.putObj_size]; exact Nat.le_refl _) (fun b i hs => hc _), ?_, r.kl, r.kh, r.kr, r.ku⟩
  · have hr := r.bl p b hbb
    have hbo := hb p b
    cases b with
    | dead => trivial
    | hole => exact hr
    | obj g mk cs =>
      obtain ⟨h1, vs, o, h2, h3, h4, h5⟩ := hr
      exact ⟨h1, vs, o, (hbo g hbb (by rw [h1]; rfl)).trans h2, h3, h4, h5.mono (fun l v => Rep.mono hk)⟩
    | box cs =>
      obtain ⟨g, e, cur, h1, h2, h3⟩ := hr
      exact ⟨g, e, cur, h1, (hbo g hbb (by rw [h1]; rfl)).trans h2, h3.mono hg⟩
    | arr e sz k cs =>
      obtain ⟨h0, hk1, n, vals, h1, h2, h3⟩ := hr
      exact ⟨h0, hk1, n, vals, ownsRow_of_block h1 (fun g hgo => hbo g hbb hgo), h2.mono (fun l v => Rep.mono hk), h3⟩
  · have x := r.ex
    exact ⟨x.os, x.tape, x.output, by rw [World.putObj_size]; exact x.size, fun b hbb hx => (World.putObj_heap_other (by omega)).trans (x.blk b hbb hx), x.sub, fun b i hs => (hc _).trans (x.stab b i hs), x.back⟩

theorem Zed.putObj {w : World} {l : Nat} {o : Obj} {Z : List (Nat × Obj)} (z : Zed w Z) (hl : ∀ x ∈ Z, x.1 ≠ l) : Zed (w.putObj l o) Z := fun y hy =>
  ⟨(World.putObj_heap_other (hl y hy)).trans (z y hy).1, (z y hy).2⟩
end Go.Proofs.Ytmkcigfeebippaa.Abs

/-
  Ranges over functions: code in a frame with marks, or in a round's frame; an iterator's contract; the statement.
-/
namespace Go.Proofs.Ytmkcigfeebippaa.Abs
open Go.RowKit

/-- What a frame has put off (marks alone), and the blocks without cells that it counts on. -/
structure FrK where
  ds : List Deferred
  Z : List (Nat × Obj)
def NoOut (Q : Exit → AS → Prop) : Prop := ∀ st, ¬ Q .outgrown st
def QI (c : Ctx) (ok : FrK → Prop) (K : FrK) (Q : Exit → AS → Prop) : Exit → Act → World → Prop := fun e a w =>
  ∃ K' st S H a0, ok K' ∧ (∀ z ∈ K.Z, z ∈ K'.Z) ∧ a = dsl a0 K'.ds ∧ Rel c st a0 w S H ∧ Zed w K'.Z ∧ Q e st
def AWI (rd : Option Nat) (P : Program) (c : Ctx) (ok : FrK → Prop) (x : Code) (Q : Exit → AS → Prop) (st : AS) : Prop :=
  NoOut Q → ∀ K, ok K → ∀ a w S H, Rel c st a w S H → Zed w K.Z → x.wpIn (FW rd) 0 P (QI c ok K Q) (dsl a K.ds) w

section
variable {rd : Option Nat} {P : Program} {c : Ctx} {ok : FrK → Prop} {Q : Exit → AS → Prop} {t : Nat → AV} {m : List Blk}

theorem NoOut.then {n : AS → Prop} (h : NoOut Q) : NoOut (thenA n Q) := fun st hs => h st hs
theorem NoOut.block {id : Nat} (h : NoOut Q) : NoOut (inBlockA id Q) := fun st hs => h st hs

theorem iregion {id : Nat} {l : List Oper} (hnd : l.all ndf = true) (h : ∀ w0 S0 X m0 H0, AWL P ⟨w0, S0, c.nt, X, m0, H0⟩ l.toArray Q l ⟨t, m⟩) : AWI rd P c ok (.region id l.toArray false) Q ⟨t, m⟩ := by
  intro hq K hK a w S H r z
  refine wpIn_region_lit (wpList_in (Q1 := QR (c.now ⟨t, m⟩ w S H) Q) ?_ ?_ ?_ l hnd a w (h _ _ _ _ _ a w S H r.now))
  · rintro ⟨a, w, st, S, H, _, h⟩; exact hq st h
  · rintro e a w ⟨st, S, H, r, _⟩; exact r.df
  · rintro e a' w' ⟨st', S', H', r', h⟩
    exact ⟨K, st', S', H', a', hK, fun _ h => h, rfl, r.then_now r', z.now r r'.ex, h⟩

/-- A region that draws its order, in the context of the moment. -/
theorem idraw_any {id : Nat} {l : List Oper} (hm : P.follows .mixedOrders = true) (hnd : l.all ndf = true)
    (h : ∀ w0 S0 X m0 H0 a w S H, Rel ⟨w0, S0, c.nt, X, m0, H0⟩ ⟨t, m⟩ a w S H → wpAny P .any l.toArray (QR ⟨w0, S0, c.nt, X, m0, H0⟩ Q) l.toArray.size (Array.replicate l.toArray.size false) a w.drew) : AWI rd P c ok (.region id l.toArray true) Q ⟨t, m⟩ := by
  intro hq K hK a w S H r z
  refine wpIn_region_any hm (wpAny_in (Q1 := QR (c.now ⟨t, m⟩ w S H) Q) ?_ ?_ ?_ ?_ _ _ a w.drew (h _ _ _ _ _ a w S H r.now))
  · intro o ho
    exact (List.all_eq_true.1 hnd) o (by simpa using ho)
  · rintro ⟨a, w, st, S, H, _, h⟩; exact hq st h
  · rintro e a w ⟨st, S, H, r, _⟩; exact r.df
  · rintro e a' w' ⟨st', S', H', r', h⟩
    exact ⟨K, st', S', H', a', hK, fun _ h => h, rfl, r.then_now r', z.now r r'.ex, h⟩

theorem AWI.mono {x : Code} {st : AS} {Q Q' : Exit → AS → Prop} (h : AWI rd P c ok x Q st) (hq : ∀ e st, Q e st → Q' e st) : AWI rd P c ok x Q' st := by
  intro hn K hK a w S H r z
  refine wpIn_mono (h (fun st hs => hn st (hq _ _ hs)) K hK a w S H r z) ?_
  rintro e a w ⟨K', st, S, H, a0, h1, h2, h3, h4, h5, h6⟩
  exact ⟨K', st, S, H, a0, h1, h2, h3, h4, h5, hq _ _ h6⟩

theorem iseq {x y : Code} (h : AWI rd P c ok x (thenA (AWI rd P c ok y Q) Q) ⟨t, m⟩) : AWI rd P c ok (.seq x y) Q ⟨t, m⟩ := by
  intro hn K hK a w S H r z
  refine wpIn_seq (wpIn_mono (h hn.then K hK a w S H r z) ?_)
  rintro e a w ⟨K', st, S, H, a0, h1, h2, rfl, h4, h5, h6⟩
  cases e with
  | normal =>
    have h6' : AWI rd P c ok y Q st := h6
    refine wpIn_mono (h6' hn K' h1 a0 w S H h4 h5) ?_
    rintro e a w ⟨K2, st, S, H, a0, g1, g2, g3, g4, g5, g6⟩
    exact ⟨K2, st, S, H, a0, g1, fun z hz => g2 z (h2 z hz), g3, g4, g5, g6⟩
  | _ => exact ⟨K', st, S, H, a0, h1, h2, rfl, h4, h5, h6⟩

theorem iskip (h : Q .normal ⟨t, m⟩) : AWI rd P c ok .skip Q ⟨t, m⟩ := fun _ K hK a _ S H r z => wpIn_skip ⟨K, _, S, H, a, hK, fun _ h => h, rfl, r, z, h⟩
theorem iexit {id : Nat} (h : Q (.exit id) ⟨t, m⟩) : AWI rd P c ok (.exit id) Q ⟨t, m⟩ := fun _ K hK a _ S H r z => wpIn_exit ⟨K, _, S, H, a, hK, fun _ h => h, rfl, r, z, h⟩
theorem iret (h : Q .ret ⟨t, m⟩) : AWI rd P c ok .ret Q ⟨t, m⟩ := fun _ K hK a _ S H r z => wpIn_ret ⟨K, _, S, H, a, hK, fun _ h => h, rfl, r, z, h⟩

theorem iblock {id : Nat} {x : Code} (h : AWI rd P c ok x (inBlockA id Q) ⟨t, m⟩) : AWI rd P c ok (.block id x) Q ⟨t, m⟩ := by
  intro hn K hK a w S H r z
  refine wpIn_block (wpIn_mono (h hn.block K hK a w S H r z) ?_)
  rintro e a w ⟨K', st, S, H, a0, h1, h2, h3, h4, h5, hq⟩
  cases e with
  | exit id' =>
    simp only [inBlockA] at hq
    simp only [Exit.inBlock]
    split
    · rename_i h; rw [if_pos h] at hq; exact ⟨K', st, S, H, a0, h1, h2, h3, h4, h5, hq⟩
    · rename_i h; rw [if_neg h] at hq; exact ⟨K', st, S, H, a0, h1, h2, h3, h4, h5, hq⟩
  | _ => exact ⟨K', st, S, H, a0, h1, h2, h3, h4, h5, hq⟩

theorem icond {o : Operand} {x y : Code} {b : Bool} (ho : opnd ⟨t, m⟩ o = .s (.one (.b b))) (h1 : b = true → AWI rd P c ok x Q ⟨t, m⟩) (h0 : b = false → AWI rd P c ok y Q ⟨t, m⟩) : AWI rd P c ok (.cond o x y) Q ⟨t, m⟩ := by
  intro hn K hK a w S H r z
  have h := opnd_rel r o
  rw [ho] at h
  have hv : (dsl a K.ds).eval o = .bool b := by rw [dsl_eval]; exact rep_b (h : Rep w S (.b b) (a.eval o))
  exact wpIn_cond_split hv (fun hb => h1 hb hn K hK a w S H r z) (fun hb => h0 hb hn K hK a w S H r z)

/-- Any way to tell the state anew. -/
theorem awi_of {x : Code} {st : AS} (st' : AS) (h : ∀ a w S H, Rel c st a w S H → ∃ S' H', Rel c st' a w S' H') (k : AWI rd P c ok x Q st') : AWI rd P c ok x Q st := by
  intro hn K hK a w S H r z
  obtain ⟨S', H', r'⟩ := h a w S H r
  exact k hn K hK a w S' H' r' z

theorem iloop {body : Code} {G : Type} (sl : G → List (Nat × AV)) (mm : G → List Blk) (pre : G → Prop) (μ : G → Nat) (g0 : G) (p0 : pre g0) (s0 : MatchL t (sl g0)) (ex : List Blk) (m0 : m = mm g0 ++ ex)
    (hin : ∀ g, pre g → InbL (mm g).length (sl g)) (hmin : ∀ g, pre g → ∀ b ∈ mm g, b.inb (mm g).length) (hk : ∀ g, pre g → c.m0.length ≤ (mm g).length)
    (round : ∀ g, pre g → AWI rd P c ok body (thenA (fun st' => ∃ g' ex', pre g' ∧ MatchL st'.t (sl g') ∧ st'.m = mm g' ++ ex' ∧ μ g' < μ g) Q) ⟨updL (fun _ => .top) (sl g), mm g⟩) : AWI rd P c ok (.loop body) Q ⟨t, m⟩ := by
  intro hq K hK a w S H r z
  intro b k cs hro hb hr
  have key : ∀ n, ∀ g K1 a w S H, ok K1 → (∀ z ∈ K.Z, z ∈ K1.Z) → pre g → μ g = n → Rel c ⟨updL (fun _ => .top) (sl g), mm g⟩ a w S H → Zed w K1.Z →
      ∃ e a' w', QI c ok K Q e a' w' ∧ ArrivesIn (Machine.fenced P (FW rd)) P (lone (b.atR (dsl a K1.ds) (.code body :: .inLoop body :: k)) cs w) b k cs e a' w' := by
    intro n
    induction n using Nat.strongRecOn with
    | _ n ih =>
      intro g K1 a w S H h1 h2 hp hn r z
      obtain ⟨e, a₁, w₁, hqq, harr⟩ := round g hp hq.then K1 h1 a w S H r z b (.inLoop body :: k) cs hro hb hr
      obtain ⟨K2, st', S', H', a0, g1, g2, rfl, r', z', hqq⟩ := hqq
      cases e with
      | normal =>
        obtain ⟨g', ex', hp', hs', hm', hlt⟩ := hqq
        have r'' : Rel c ⟨st'.t, mm g' ++ ex'⟩ a0 w₁ S' H' := by rw [← hm']; exact r'
        have rt := r''.trim (updL_match hs' (hin g' hp')) (hmin g' hp') (hk g' hp')
        obtain ⟨e₂, a₂, w₂, hq₂, harr₂⟩ := ih (μ g') (hn ▸ hlt) g' K2 a0 w₁ S' H' g1 (fun z hz => g2 z (h2 z hz)) hp' rfl rt z'
        exact ⟨e₂, a₂, w₂, hq₂, .of_steps (StepsIn.trans harr (.one (fenced_calm hb hr rfl) stepR_inLoop)) harr₂⟩
      | exit id => exact ⟨_, _, w₁, ⟨K2, st', S', H', a0, g1, fun z hz => g2 z (h2 z hz), rfl, r', z', hqq⟩, .pass (x := .inLoop body) rfl (fun _ _ => .inl (by simp)) harr⟩
      | goto l => exact ⟨_, _, w₁, ⟨K2, st', S', H', a0, g1, fun z hz => g2 z (h2 z hz), rfl, r', z', hqq⟩, .pass (x := .inLoop body) rfl (fun _ _ => .inl (by simp)) harr⟩
      | ret => exact ⟨_, _, w₁, ⟨K2, st', S', H', a0, g1, fun z hz => g2 z (h2 z hz), rfl, r', z', hqq⟩, .pass (x := .inLoop body) rfl (fun _ _ => .inl (by simp)) harr⟩
      | panic ch => exact ⟨_, _, w₁, ⟨K2, st', S', H', a0, g1, fun z hz => g2 z (h2 z hz), rfl, r', z', hqq⟩, .pass (x := .inLoop body) rfl (fun _ _ => .inl (by simp)) harr⟩
      | outgrown => exact ⟨_, _, w₁, ⟨K2, st', S', H', a0, g1, fun z hz => g2 z (h2 z hz), rfl, r', z', hqq⟩, .pass (x := .inLoop body) rfl (fun _ _ => .inl (by simp)) harr⟩
  have r0 : Rel c ⟨t, mm g0 ++ ex⟩ a w S H := by rw [← m0]; exact r
  have rt := r0.trim (updL_match s0 (hin g0 p0)) (hmin g0 p0) (hk g0 p0)
  obtain ⟨e, a', w', hqq, harr⟩ := key _ g0 K a w S H hK (fun _ h => h) p0 rfl rt z
  exact ⟨e, a', w', hqq, .of_steps (.one (fenced_calm hb hr rfl) stepR_loop) harr⟩
end

section
variable {rd : Option Nat} {P : Program} {c : Ctx} {ok : FrK → Prop} {Q : Exit → AS → Prop} {t : Nat → AV} {M : List Blk}

theorem imeet_go {G : Type} {sl : G → List (Nat × AV)} {mm : G → List Blk} {pre : G → Prop} {x : Code} {Q : Exit → AS → Prop} {st : AS} (h : Meet sl mm pre st) (hin : ∀ g, pre g → InbL (mm g).length (sl g)) (hmin : ∀ g, pre g → ∀ b ∈ mm g, b.inb (mm g).length) (hk : ∀ g, pre g → c.m0.length ≤ (mm g).length)
    (hy : ∀ g, pre g → AWI rd P c ok x Q ⟨updL (fun _ => .top) (sl g), mm g⟩) : AWI rd P c ok x Q st := by
  obtain ⟨g, ex, hp, hs, hm⟩ := h
  intro hn K hK a w S H r z
  have r0 : Rel c ⟨st.t, mm g ++ ex⟩ a w S H := by rw [← hm]; exact r
  exact hy g hp hn K hK a w S H (r0.trim (updL_match hs (hin g hp)) (hmin g hp) (hk g hp)) z

theorem ijoin {x y : Code} {Q Q' : Exit → AS → Prop} {st : AS} (G : Type) (sl : G → List (Nat × AV)) (mm : G → List Blk) (pre : G → Prop) (hin : ∀ g, pre g → InbL (mm g).length (sl g)) (hmin : ∀ g, pre g → ∀ b ∈ mm g, b.inb (mm g).length) (hk : ∀ g, pre g → c.m0.length ≤ (mm g).length)
    (hy : ∀ g, pre g → AWI rd P c ok y Q ⟨updL (fun _ => .top) (sl g), mm g⟩) (hx : AWI rd P c ok x (thenA (Meet sl mm pre) Q') st) : AWI rd P c ok x (thenA (AWI rd P c ok y Q) Q') st := by
  refine hx.mono fun e st h => ?_
  cases e with
  | normal => exact imeet_go h hin hmin hk hy
  | _ => exact h
theorem ijoin2 {x y z : Code} {Q Q' : Exit → AS → Prop} {st : AS} (G : Type) (sl : G → List (Nat × AV)) (mm : G → List Blk) (pre : G → Prop) (hin : ∀ g, pre g → InbL (mm g).length (sl g)) (hmin : ∀ g, pre g → ∀ b ∈ mm g, b.inb (mm g).length) (hk : ∀ g, pre g → c.m0.length ≤ (mm g).length)
    (hy : ∀ g, pre g → AWI rd P c ok z Q ⟨updL (fun _ => .top) (sl g), mm g⟩) (hx : AWI rd P c ok x (thenA (AWI rd P c ok y (thenA (Meet sl mm pre) Q)) Q') st) : AWI rd P c ok x (thenA (AWI rd P c ok (.seq y z) Q) Q') st := by
  refine hx.mono fun e st h => ?_
  cases e with
  | normal =>
    have h' : AWI rd P c ok y (thenA (Meet sl mm pre) Q) ⟨st.t, st.m⟩ := h
    refine iseq (AWI.mono h' fun e st h => ?_)
    cases e with
    | normal => exact imeet_go h hin hmin hk hy
    | _ => exact h
  | _ => exact h
theorem ijoin3 {x y z : Code} {Q Q' Q'' : Exit → AS → Prop} {st : AS} (G : Type) (sl : G → List (Nat × AV)) (mm : G → List Blk) (pre : G → Prop) (hin : ∀ g, pre g → InbL (mm g).length (sl g)) (hmin : ∀ g, pre g → ∀ b ∈ mm g, b.inb (mm g).length) (hk : ∀ g, pre g → c.m0.length ≤ (mm g).length)
    (hy : ∀ g, pre g → AWI rd P c ok z Q ⟨updL (fun _ => .top) (sl g), mm g⟩) (hx : AWI rd P c ok x (thenA (AWI rd P c ok y (thenA (Meet sl mm pre) Q'')) Q') st) : AWI rd P c ok x (thenA (AWI rd P c ok y (thenA (AWI rd P c ok z Q) Q'')) Q') st := by
  refine hx.mono fun e st h => ?_
  cases e with
  | normal =>
    refine AWI.mono h fun e st h => ?_
    cases e with
    | normal => exact imeet_go h hin hmin hk hy
    | _ => exact h
  | _ => exact h
end

/-! What has been put off is marks alone -/

def mkMark (D : Nat) : Deferred := { target := .collected D, args := #[] }
/-- The frame of a function with ranges over functions. -/
def okO (c : Ctx) (K : FrK) : Prop := ∃ Ds : List Nat, K.ds = Ds.map mkMark ∧ K.Z = Ds.map (fun D => (D, .deferred (some []))) ∧ Ds.Nodup ∧ ∀ D ∈ Ds, c.w0.heap.size ≤ D
/-- A round's frame. -/
def okB (K : FrK) : Prop := K.ds = []

theorem leaves_marks {P : Program} {fn : Func} {R : Ending → World → Prop} {c : Ctx} {st : AS} {a : Act} {S : Stab} {H : Nat → Value} (hR : ∀ w', Rel c st a w' S H → ∃ v, (results fn a.tmps).run P w' = .ok v w' ∧ R (.returned v) w') :
    ∀ (Ds : List Nat) (w : World), Ds.Nodup → (∀ D ∈ Ds, c.w0.heap.size ≤ D) → Zed w (Ds.map (fun D => (D, .deferred (some [])))) → Rel c st a w S H → LeavesInM Fence.wide 0 P fn a.tmps R (Ds.map mkMark) .returning w
  | [], w, _, _, _, r => hR w r
  | D :: Ds, w, hn, hge, z, r => by
    have hD : w.heap[D]? = some (.deferred (some [])) := (z (D, .deferred (some [])) (List.mem_cons_self ..)).1
    refine ⟨by simp, .inl ⟨D, w.putObj D (.deferred none), rfl, run_takeDeferred hD, leaves_marks hR Ds _ (List.nodup_cons.1 hn).2 (fun D' h => hge D' (List.mem_cons_of_mem _ h)) ?_ (r.putObj _ hD rfl rfl (hge D (List.mem_cons_self ..)))⟩⟩
    refine Zed.putObj (fun x hx => z x (List.mem_cons_of_mem _ hx)) fun x hx e => ?_
    rw [List.mem_map] at hx
    obtain ⟨D', h1, rfl⟩ := hx
    exact (List.nodup_cons.1 hn).1 (e ▸ h1)

theorem callsA_ofI {P : Program} {f : FuncId} {fn : Func} {body : Code} {args : List SV} {R : AV → Prop} (hf : P.funcs[f]? = some fn) (hb : fn.body = some body) {nt : Nat} (hnt : fn.ntmps = nt) (hn : args.length ≤ nt)
    (h : ∀ w0 S0, AWI none P (Ctx.of w0 S0 nt) (okO (Ctx.of w0 S0 nt)) body (Done P fn R) ⟨argT args, []⟩) : CallsA P f args R := by
  subst hnt
  intro w S vs hS hv
  refine callsIn_wide.1 (callsIn_of_wp_marks (n := 0) hf hb trivial ?_)
  have hlen : vs.size = args.length := by have := hv.1; simp at this; omega
  have hget : ∀ i, (vs ++ Array.replicate (fn.ntmps - vs.size) undef).getD i undef = vs.getD i undef := by
    intro i
    simp only [Array.getD_eq_getD_getElem?, Array.getElem?_append]
    split
    · rfl
    · rename_i hi
      rw [Array.getElem?_replicate]
      have : vs[i]? = none := Array.getElem?_eq_none (by omega)
      rw [this]
      split <;> rfl
  have r0 : Rel (Ctx.of w S fn.ntmps) ⟨argT args, []⟩ { tmps := vs ++ Array.replicate (fn.ntmps - vs.size) undef, defers := [] } w S (fun _ => undef) := by
    refine ⟨by simp; omega, rfl, fun i => ?_, fun p b h => by simp at h, fun p b g h => by simp at h, fun p q b b' g h => by simp at h, fun p b g i h => by simp at h, hS, ExtX.refl _ w S, Nat.zero_le _, fun p g h => absurd h (Nat.not_lt_zero _), fun p e sz k cs h => absurd h (Nat.not_lt_zero _), fun p h => absurd h (Nat.not_lt_zero _)⟩
    rw [hget]
    show AVR _ (match args[i]? with | some x => .s x | none => .tup []) _
    cases ha : args[i]? with
    | none =>
      have : vs[i]? = none := Array.getElem?_eq_none (by rw [hlen]; exact List.getElem?_eq_none_iff.1 ha)
      simp only [Array.getD_eq_getD_getElem?, this, Option.getD_none]
      exact avr_undef
    | some x =>
      have hi : i < args.length := (List.getElem?_eq_some_iff.1 ha).1
      have hi' : i < vs.size := by omega
      have : vs[i]? = some vs[i] := Array.getElem?_eq_getElem hi'
      simp only [Array.getD_eq_getD_getElem?, this, Option.getD_some]
      exact SVR.mono (fun _ _ => GRep.of_rep) (hv.2 i x _ ha (by simp))
  have hno : NoOut (Done P fn R) := fun st hs => by rcases hs.1 with h | h <;> cases h
  refine wpIn_mono (h w S hno ⟨[], []⟩ ⟨[], rfl, rfl, List.nodup_nil, fun D h => by cases h⟩ _ w S _ r0 (fun x h => by cases h)) ?_
  rintro e a w1 ⟨K', st, S1, H, a0, ⟨Ds, h1, h2, h3, h4⟩, _, rfl, r, z, he, xs, ys, m', hx, hp, hR⟩
  have key : LeavesInM Fence.wide 0 P fn a0.tmps (fun e w' => ∃ v x S', e = .returned v ∧ R x ∧ Ext w S w' S' ∧ InH w' S' ∧ AVR (Rep w' S') x v) (Ds.map mkMark) .returning w1 := by
    refine leaves_marks (c := Ctx.of w S fn.ntmps) (st := st) (S := S1) (H := H) (fun w' r => ?_) Ds w1 h3 h4 (by rw [← h2]; exact z) r
    obtain ⟨u, hu, hk⟩ := results_run r hx
    obtain ⟨S2, k2, g2⟩ := hp.keeps r
    exact ⟨u, hu, u, resOf ys, S2, rfl, hR, k2.rel.ex.toExt (fun _ h => h), k2.rel.sl, hk S2 ys g2⟩
  rw [← h1] at key
  rcases he with rfl | rfl
  · exact key
  · exact key

/-! An iterator's contract -/

/-- What a round leaves of what stays. -/
structure KeptS (w : World) (S : Stab) (w' : World) (S' : Stab) : Prop where
  st : ∀ b i, S b i → S' b i ∧ w'.cell? ⟨b, i, none⟩ = w.cell? ⟨b, i, none⟩
  sl : InH w' S'

/-- A function that yields the pairs of L, one behind the other, as long as yield says yes. -/
def IterC (P : Program) (fc : FuncId) (cap : List Lf) (L : List (SV × SV)) : Prop :=
  ∀ (l : Nat) (J : Nat → World → Stab → Prop) (Jx : World → Stab → Prop) (w : World) (S : Stab) (vs : Array Value),
    (∀ k w S w' S', J k w S → Ext w S w' S' → InH w' S' → J k w' S') → (∀ w S w' S', Jx w S → Ext w S w' S' → InH w' S' → Jx w' S') →
    (∀ k x y w S v u, L[k]? = some (x, y) → J k w S → InH w S → SVR (Rep w S) x v → SVR (Rep w S) y u →
      ∃ fn tmps assign body, (Instr.yield l #[v, u]).run P w = .ok (.round l fn tmps assign body) w ∧
        RoundIn Fence.wide 0 P l fn tmps assign body w (fun e w' => ∃ b S', e = .returned (.bool b) ∧ KeptS w S w' S' ∧ (if b then J (k + 1) w' S' else Jx w' S'))) →
    J 0 w S → InH w S → LsR (Rep w S) cap vs.toList →
    Calls P fc (#[.func (.yield l) #[] #[]] ++ vs) w fun e w' => ∃ v S', e = .returned v ∧ InH w' S' ∧ (J L.length w' S' ∨ Jx w' S')

/-- How a round may be left. -/
def RQ {G : Type} (mm : G → List Blk) (pre : G → Prop) (jmp : Code → G → Prop) : Exit → AS → Prop
  | .normal, st => ∃ g ex, pre g ∧ st.m = mm g ++ ex
  | .ret, st => ∃ g ex, jmp .ret g ∧ st.m = mm g ++ ex
  | .exit id, st => ∃ g ex, jmp (.exit id) g ∧ st.m = mm g ++ ex
  | _, _ => False

theorem GRep.of_now {c : Ctx} {st st' : AS} {a' : Act} {w w' : World} {S S' : Stab} {H H' : Nat → Value} (r' : Rel (c.now st w S H) st' a' w' S' H') {l : Lf} {v : Value} (h : GRep w S st.m H l v) : GRep w' S' st'.m H' l v :=
  GRep.mono2 (fun b i hs => ⟨r'.ex.sub b i hs, r'.ex.stab b i hs⟩) r'.kl (fun p g hp hh => r'.kh p g hp hh) (fun p hp hne => r'.ku p hp hne) (fun p e sz k cs hp hm => r'.kr p e sz k cs hp hm) h
/-- .. and where blocks are forgotten. -/
theorem GRep.of_now_trim {c : Ctx} {st : AS} {t' : Nat → AV} {m' ex : List Blk} {a' : Act} {w w' : World} {S S' : Stab} {H H' : Nat → Value} (r' : Rel (c.now st w S H) ⟨t', m' ++ ex⟩ a' w' S' H') (hl : st.m.length ≤ m'.length) {l : Lf} {v : Value} (h : GRep w S st.m H l v) : GRep w' S' m' H' l v :=
  GRep.mono2 (fun b i hs => ⟨r'.ex.sub b i hs, r'.ex.stab b i hs⟩) hl (fun p g hp hh => r'.kh p g hp hh) (fun p hp hne => r'.ku p hp hne) (fun p e sz k cs hp hm => r'.kr p e sz k cs hp (by rw [List.getElem?_append_left (Nat.lt_of_lt_of_le hp hl)]; exact hm)) h

theorem Rel.swap {c : Ctx} {t t' : Nat → AV} {m : List Blk} {a a' : Act} {w : World} {S : Stab} {H : Nat → Value} (r : Rel c ⟨t', m⟩ a' w S H) (hn : a.tmps.size = c.nt) (hd : a.defers = []) (tm : ∀ i, AVR (GRep w S m H) (t i) (a.tmps.getD i undef)) : Rel c ⟨t, m⟩ a w S H :=
  ⟨hn, hd, tm, r.bl, r.lo, r.inj, r.sb, r.sl, r.ex, r.kl, r.kh, r.kr, r.ku⟩

section
variable {P : Program} {c : Ctx} {Q : Exit → AS → Prop} {t : Nat → AV} {m : List Blk}

/-- A range over a function. -/
theorem irange {go : Operand} {p1 p2 : Tmp} {assign body : Code} {fc : FuncId} {cap : List Lf} {L : List (SV × SV)} {G : Type} (mm : G → List Blk) (pre : Nat → G → Prop) (jmp : Code → G → Prop) (g0 : G)
    (hg : opnd ⟨t, m⟩ go = .s (.one (.fn fc [] cap))) (hfc : FnI P fc) (hcap : cap.all Lf.pubd0 = true) (hit : IterC P fc cap L) (hp1 : decide (p1 < c.nt) = true) (hp2 : decide (p2 < c.nt) = true)
    (h0 : pre 0 g0) (hm : m = mm g0) (hlen : ∀ g, (mm g).length = m.length) (hmin : ∀ g, ∀ b ∈ mm g, b.inb (mm g).length)
    (round : ∀ k x y g l, L[k]? = some (x, y) → pre k g → ∀ w0 S0 X H0, AWI (some l) P ⟨w0, S0, c.nt, X, mm g, H0⟩ okB assign
      (thenA (fun st1 => ∀ w0 S0 X H0, AWI (some l) P ⟨w0, S0, c.nt, X, st1.m, H0⟩ okB body (RQ mm (pre (k + 1)) jmp) st1) (fun _ _ => False)) ⟨upd (upd t p1 (.s x)) p2 (.s y), mm g⟩)
    (done : ∀ g, pre L.length g → Q .normal ⟨t, mm g⟩) (hret : ∀ g, jmp .ret g → Q .ret ⟨t, mm g⟩) (hex : ∀ id g, jmp (.exit id) g → Q (.exit id) ⟨t, mm g⟩) :
    AWI none P c (okO c) (.rangeFunc go #[p1, p2] assign body) Q ⟨t, m⟩ := by
  intro hq K hK a w S H r z
  obtain ⟨Ds, hds, hZ, hnd, hge⟩ := hK
  have hp1' : p1 < c.nt := of_decide_eq_true hp1
  have hp2' : p2 < c.nt := of_decide_eq_true hp2
  have hgo := opnd_rel r go
  rw [hg] at hgo
  obtain ⟨va, vb, hgv, hva, hvb⟩ := hgo
  have hva0 : va = #[] := Array.eq_empty_of_size_eq_zero (by have := hva.1; simpa using this.symm)
  subst hva0
  refine wpIn_rangeFunc fun fn _ => ?_
  obtain ⟨D, hD⟩ : ∃ D, D = w.heap.size := ⟨_, rfl⟩
  obtain ⟨l, hl⟩ : ∃ l, l = w.heap.size + 1 := ⟨_, rfl⟩
  obtain ⟨rec, hrec⟩ : ∃ rec : LoopState → Option Code → Loop, rec = fun st pe => { state := st, pending := pe, fn, tmps := a.tmps, params := #[p1, p2], assign, body, defers := w.heap.size } := ⟨_, rfl⟩
  obtain ⟨W1, hW1⟩ : ∃ W1, (w.alloc (.deferred (some []))).alloc (.loop (rec .ready none)) = W1 := ⟨_, rfl⟩
  have hx1 : Ext w S W1 S := by rw [← hW1]; exact (Ext.alloc w S _).trans (Ext.alloc _ S _)
  have hS1 : InH W1 S := InH.ext hx1 r.sl
  have hL1 : W1.heap[l]? = some (.loop (rec .ready none)) := by
    rw [← hW1, hl]; have := World.alloc_heap_new (w.alloc (.deferred (some []))) (.loop (rec .ready none)); rwa [World.size_alloc] at this
  have hD1 : W1.heap[D]? = some (.deferred (some [])) := by
    rw [← hW1, hD]; exact (Below.heap_alloc _ _ _ (by simp)).trans (World.alloc_heap_new w _)
  have hcl : c.w0.heap.size ≤ l := by rw [hl]; exact Nat.le_trans r.ex.size (Nat.le_succ _)
  have hDl : D ≠ l := by omega
  have hZl : ∀ x ∈ K.Z, x.1 < w.heap.size := fun x hx => (Array.getElem?_eq_some_iff.1 (z x hx).1).1
  -- what the rounds keep
  let Zr : Obj → List (Nat × Obj) := fun o => (l, o) :: (D, .deferred (some [])) :: K.Z
  have zput : ∀ {w' : World} {o : Obj} (o' : Obj), isOwn o' = false → Zed w' (Zr o) → Zed (w'.putObj l o') (Zr o') := by
    intro w' o o' ho' zz x hx
    rcases List.mem_cons.1 hx with rfl | hx
    · exact ⟨World.putObj_heap_same (Array.getElem?_eq_some_iff.1 (zz (l, o) (List.mem_cons_self ..)).1).1, ho'⟩
    · have h1 := zz x (List.mem_cons_of_mem _ hx)
      have hne : x.1 ≠ l := by
        rcases List.mem_cons.1 hx with rfl | hx
        · exact hDl
        · have := hZl x hx; omega
      exact ⟨(World.putObj_heap_other hne).trans h1.1, h1.2⟩
  let J : Nat → World → Stab → Prop := fun k W S => ∃ g H, pre k g ∧ Rel c ⟨t, mm g⟩ a W S H ∧ Zed W (Zr (.loop (rec .ready none)))
  let Jx : World → Stab → Prop := fun W S => ∃ jc g H, jmp jc g ∧ (jc = .ret ∨ ∃ id, jc = .exit id) ∧ Rel c ⟨t, mm g⟩ a W S H ∧ Zed W (Zr (.loop (rec .done (some jc))))
  have hJ0 : J 0 W1 S := by
    refine ⟨g0, H, h0, by rw [← hm]; exact r.ext hx1 hS1, fun x hx => ?_⟩
    rcases List.mem_cons.1 hx with rfl | hx
    · exact ⟨hL1, rfl⟩
    · rcases List.mem_cons.1 hx with rfl | hx
      · exact ⟨hD1, rfl⟩
      · exact (z.ext hx1) x hx
  have hcapR : LsR (Rep W1 S) cap vb.toList := by
    refine ⟨hvb.1, fun j x v h1 h2 => ?_⟩
    exact Rep.mono (hx1.keeps r.sl) (GRep0.rep (hvb.2 j x v h1 h2) ((List.all_eq_true.1 hcap) x (List.mem_of_getElem? h1)))
  have hev : (dsl a K.ds).eval go = .func (.func fc) #[] vb := by rw [dsl_eval]; exact hgv
  refine ⟨l, [mkMark D], W1, { target := .fn (.func fc) vb, args := #[.func (.yield l) #[] #[]] }, W1, fc, #[.func (.yield l) #[] #[]] ++ vb, W1, ?_, ?_, fun _ _ => trivial, ?_, fun hh => (by simp [FW, Fence.wide] at hh), ?_⟩
  · rw [← hW1, hrec, hl, hD]; exact run_enterLoop_outer _ _ _ _ _
  · simp only [resolve, hev]
    simp [Deferred.ofValue, Act.eval]
  · simp [invoke, hfc.run]
  · refine callsIn_FW ((hit l J Jx W1 S vb ?_ ?_ ?_ hJ0 hS1 hcapR).mono ?_)
    · rintro k w S w' S' ⟨g, H, h1, h2, h3⟩ hx hin
      exact ⟨g, H, h1, h2.ext hx hin, h3.ext hx⟩
    · rintro w S w' S' ⟨jc, g, H, h1, h1', h2, h3⟩ hx hin
      exact ⟨jc, g, H, h1, h1', h2.ext hx hin, h3.ext hx⟩
    · -- one round
      rintro k x0 y W S v u hxy ⟨g, H, hp, r1, z1⟩ hin hv hu
      have hl1 : W.heap[l]? = some (.loop (rec .ready none)) := (z1 (l, _) (List.mem_cons_self ..)).1
      have hy := run_yield (P := P) (args := #[v, u]) hl1 (by rw [hrec]; rfl)
      rw [hrec] at hy
      have r2 : Rel c ⟨upd (upd t p1 (.s x0)) p2 (.s y), mm g⟩ ((a.put (some p1) v).put (some p2) u) W S H :=
        (r1.put hp1' (show AVR _ (.s x0) v from SVR.mono (fun _ _ h => GRep.of_rep h) hv)).put hp2' (show AVR _ (.s y) u from SVR.mono (fun _ _ h => GRep.of_rep h) hu)
      refine ⟨fn, _, assign, body, hy, roundIn_of_wpIn trivial ?_⟩
      have hA := round k x0 y g l hxy hp W S (OwnX (mm g) H) H (fun st hs => hs) ⟨[], Zr (.loop (rec .ready none))⟩ rfl _ W S H r2.now z1
      have hact : dsl ((a.put (some p1) v).put (some p2) u) [] = { tmps := (#[p1, p2].zip #[v, u]).foldl (fun t (x : Tmp × Value) => t.setIfInBounds x.1 x.2) a.tmps, defers := [] } := by simp [dsl, Act.put]
      rw [hact] at hA
      refine wpIn_mono hA ?_
      rintro e a1 w1 ⟨K1, st1, S1, H1, a10, hok1, hz1, rfl, r3, z3, hq1⟩
      cases e with
      | normal =>
        have hK1 : K1.ds = [] := hok1
        have z3' : Zed w1 (Zr (.loop (rec .ready none))) := fun x hx => z3 x (hz1 x hx)
        have hl3 : w1.heap[l]? = some (.loop (rec .ready none)) := (z3' (l, _) (List.mem_cons_self ..)).1
        refine ⟨_, run_beginRound hl3 (by rw [hrec]), ?_⟩
        have r3c : Rel c st1 a10 w1 S1 H1 := r2.then_now r3
        have hb3 : ({ rec .ready none with state := .busy } : Loop) = rec .busy none := by rw [hrec]
        rw [hb3]
        have r4 : Rel c st1 a10 (w1.putObj l (.loop (rec .busy none))) S1 H1 := r3c.putObj _ hl3 rfl rfl hcl
        have z4 := zput (.loop (rec .busy none)) rfl z3'
        have hB := hq1 (w1.putObj l (.loop (rec .busy none))) S1 (OwnX st1.m H1) H1 (fun st hs => hs) ⟨[], Zr (.loop (rec .busy none))⟩ rfl a10 _ S1 H1 r4.now z4
        rw [hK1]
        refine wpIn_mono hB ?_
        have fin : ∀ (st' : AS) (a0' : Act) (w3 : World) (S3 : Stab) (H3 : Nat → Value) (K3 : FrK) (g' : G) (ex : List Blk) (o' : Obj), (∀ z ∈ Zr (.loop (rec .busy none)), z ∈ K3.Z) → Rel (c.now st1 (w1.putObj l (.loop (rec .busy none))) S1 H1) st' a0' w3 S3 H3 → Zed w3 K3.Z → st'.m = mm g' ++ ex → isOwn o' = false →
            w3.heap[l]? = some (.loop (rec .busy none)) ∧ KeptS W S (w3.putObj l o') S3 ∧ ∃ H4, Rel c ⟨t, mm g'⟩ a (w3.putObj l o') S3 H4 ∧ Zed (w3.putObj l o') (Zr o') := by
          intro st' a0' w3 S3 H3 K3 g' ex o' hz3 r5 z5 hm' ho'
          have z5' : Zed w3 (Zr (.loop (rec .busy none))) := fun x hx => z5 x (hz3 x hx)
          have hl5 : w3.heap[l]? = some (.loop (rec .busy none)) := (z5' (l, _) (List.mem_cons_self ..)).1
          have hc2 := cell_putObj (o' := .loop (rec .busy none)) hl3 rfl rfl
          have hc4 := cell_putObj (o' := o') hl5 rfl ho'
          have r5' : Rel (c.now st1 (w1.putObj l (.loop (rec .busy none))) S1 H1) ⟨st'.t, mm g' ++ ex⟩ a0' w3 S3 H3 := by rw [← hm']; exact r5
          have r6 : Rel c ⟨st'.t, mm g' ++ ex⟩ a0' w3 S3 H3 := r4.then_now r5'
          have r7 := (r6.putObj o' hl5 rfl ho' hcl).trim (t' := fun _ => .top) (fun _ => .inl rfl) (hmin g') (by rw [hlen]; have := r.kl; exact this)
          refine ⟨hl5, ⟨fun b i hs => ?_, r7.sl⟩, H3, r7.swap r1.nt r1.df (fun i => ?_), zput o' ho' z5'⟩
          · have s1 := r3.ex.sub b i hs
            refine ⟨r5.ex.sub b i s1, ?_⟩
            exact (hc4 _).trans ((r5.ex.stab b i s1).trans ((hc2 _).trans (r3.ex.stab b i hs)))
          · refine AVR.mono (fun x v hx => ?_) (r1.tm i)
            have e3 : GRep w3 S3 (mm g') H3 x v := by
              have hl0 : (mm g).length = m.length := hlen g
              have hl1 : (mm g).length ≤ st1.m.length := r3.kl
              refine GRep.mono2 (fun b i hs => ?_) (by rw [hlen g', hl0]; exact Nat.le_refl _) (fun p gg hp hh => ?_) (fun p hp hne => r5.ku p (Nat.lt_of_lt_of_le hp hl1) (r3.ku p hp hne)) (fun p e sz k cs hp hm => ?_) hx
              · have s1 := r3.ex.sub b i hs
                exact ⟨r5.ex.sub b i s1, (r5.ex.stab b i s1).trans ((hc2 _).trans (r3.ex.stab b i hs))⟩
              · have h1 : H1 p = H p := r3.kh p gg hp hh
                exact (r5.kh p gg (Nat.lt_of_lt_of_le hp hl1) (h1.trans hh)).trans h1
              · have hm2 : (mm g' ++ ex)[p]? = some (.arr e sz k cs) := by rw [List.getElem?_append_left (by rw [hlen g', ← hl0]; exact hp)]; exact hm
                obtain ⟨k1, cs1, q1, q2⟩ := r5'.kr p e sz k cs (Nat.lt_of_lt_of_le hp hl1) hm2
                obtain ⟨k2, cs2, q3, q4⟩ := r3.kr p e sz k1 cs1 hp q1
                refine ⟨k2, cs2, q3, ?_⟩
                rcases q2 with ⟨q2, q5⟩ | q2 <;> rcases q4 with ⟨q4, q6⟩ | q4
                · exact .inl ⟨q4.trans q2, q5.trans q6⟩
                · exact .inr (by omega)
                · exact .inr (by omega)
                · exact .inr (by omega)
            exact GRep.mono (fun b i hs => ⟨hs, hc4 _⟩) (Nat.le_refl _) (fun _ _ => rfl) (fun p e sz k cs _ hm => ⟨k, cs, hm, rfl⟩) e3
        rintro e a3 w3 ⟨K3, st', S3, H3, a0', hok3, hz3, rfl, r5, z5, hq3⟩
        cases e with
        | normal =>
          obtain ⟨g', ex, hp', hm'⟩ := hq3
          obtain ⟨hl5, hks, H4, hr4, hz4⟩ := fin st' a0' w3 S3 H3 K3 g' ex (.loop (rec .ready none)) hz3 r5 z5 hm' rfl
          have he := run_endRound (P := P) none hl5
          rw [hrec] at he
          refine ⟨_, _, he, true, S3, rfl, ?_, ?_⟩
          · rw [hrec] at hks; exact hks
          · refine ⟨g', H4, hp', ?_, ?_⟩
            · rw [hrec] at hr4; exact hr4
            · rw [hrec] at hz4; rw [hrec]; exact hz4
        | ret =>
          obtain ⟨g', ex, hp', hm'⟩ := hq3
          obtain ⟨hl5, hks, H4, hr4, hz4⟩ := fin st' a0' w3 S3 H3 K3 g' ex (.loop (rec .done (some .ret))) hz3 r5 z5 hm' rfl
          have he := run_endRound (P := P) (some .ret) hl5
          rw [hrec] at he
          refine ⟨_, _, he, false, S3, rfl, ?_, ?_⟩
          · rw [hrec] at hks; exact hks
          · refine ⟨.ret, g', H4, hp', .inl rfl, ?_, ?_⟩
            · rw [hrec] at hr4; exact hr4
            · rw [hrec] at hz4; rw [hrec]; exact hz4
        | exit id =>
          obtain ⟨g', ex, hp', hm'⟩ := hq3
          obtain ⟨hl5, hks, H4, hr4, hz4⟩ := fin st' a0' w3 S3 H3 K3 g' ex (.loop (rec .done (some (.exit id)))) hz3 r5 z5 hm' rfl
          have he := run_endRound (P := P) (some (.exit id)) hl5
          rw [hrec] at he
          refine ⟨_, _, he, false, S3, rfl, ?_, ?_⟩
          · rw [hrec] at hks; exact hks
          · refine ⟨.exit id, g', H4, hp', .inr ⟨id, rfl⟩, ?_, ?_⟩
            · rw [hrec] at hr4; exact hr4
            · rw [hrec] at hz4; rw [hrec]; exact hz4
        | goto lb => exact absurd hq3 id
        | panic ch => exact absurd hq3 id
        | outgrown => exact absurd hq3 id
      | _ => exact hq1
    · -- the function has returned
      rintro e w5 ⟨v, S5, rfl, hin, hj⟩
      have okK : okO c ⟨mkMark D :: K.ds, (D, .deferred (some [])) :: K.Z⟩ := by
        refine ⟨D :: Ds, by rw [hds]; rfl, by rw [hZ]; rfl, List.nodup_cons.2 ⟨fun hm => ?_, hnd⟩, fun D' h => ?_⟩
        · have := hZl (D, .deferred (some [])) (by rw [hZ]; exact List.mem_map.2 ⟨D, hm, rfl⟩)
          simp only at this
          omega
        · rcases List.mem_cons.1 h with rfl | h
          · rw [hD]; exact r.ex.size
          · exact hge D' h
      rcases hj with ⟨g, H5, hp, r5, z5⟩ | ⟨jc, g, H5, hp, hjc, r5, z5⟩
      · have hl5 : w5.heap[l]? = some (.loop (rec .ready none)) := (z5 (l, _) (List.mem_cons_self ..)).1
        have he := run_endLoop (P := P) hl5 (by rw [hrec]; simp)
        refine ⟨_, _, he, ?_⟩
        rw [hrec]
        exact ⟨⟨mkMark D :: K.ds, (D, .deferred (some [])) :: K.Z⟩, _, S5, H5, a, okK, fun x hx => List.mem_cons_of_mem _ hx, rfl, r5.putObj _ hl5 rfl rfl hcl, fun x hx => (zput (.loop _) rfl z5) x (List.mem_cons_of_mem _ hx), done g hp⟩
      · have hl5 : w5.heap[l]? = some (.loop (rec .done (some jc))) := (z5 (l, _) (List.mem_cons_self ..)).1
        have he := run_endLoop (P := P) hl5 (by rw [hrec]; simp)
        refine ⟨_, _, he, ?_⟩
        rw [hrec]
        have post : ∀ e, Q e ⟨t, mm g⟩ → QI c (okO c) K Q e (dsl a (mkMark D :: K.ds)) (w5.putObj l (.loop { ({ state := .done, pending := some jc, fn, tmps := a.tmps, params := #[p1, p2], assign, body, defers := w.heap.size } : Loop) with state := .exhausted })) := fun e hqe =>
          ⟨⟨mkMark D :: K.ds, (D, .deferred (some [])) :: K.Z⟩, _, S5, H5, a, okK, fun x hx => List.mem_cons_of_mem _ hx, rfl, r5.putObj _ hl5 rfl rfl hcl, fun x hx => (zput (.loop _) rfl z5) x (List.mem_cons_of_mem _ hx), hqe⟩
        rcases hjc with rfl | ⟨id, rfl⟩
        · exact wpIn_ret (post _ (hret g hp))
        · exact wpIn_exit (post _ (hex id g hp))
end
end Go.Proofs.Ytmkcigfeebippaa.Abs

/-
  Iterators: functions that call yield; a box that stays as it is from the first.
-/
namespace Go.Proofs.Ytmkcigfeebippaa.Abs
open Go.RowKit

section
variable {P : Program} {c : Ctx} {ops : Array Oper} {Q : Exit → AS → Prop} {rest : List Oper} {ty : TypeId} {pos : String} {af : Array Edge} {d : Tmp} {t : Nat → AV} {m : List Blk}

/-- A box that nobody writes: its cells stay. -/
theorem sboxc {t' : TypeId} {y : Operand} {x : SV} (hd : decide (d < c.nt) = true) (hx : opnd ⟨t, m⟩ y = .s x) (hpub : x.cells.all Lf.pubd = true)
    (k : AWL P c ops Q rest ⟨upd t d (.s (.one (.cp x.cells))), m⟩) : AWL P c ops Q (⟨some d, .box t' y, ty, pos, af, none⟩ :: rest) ⟨t, m⟩ := by
  intro a w S H r
  have h := opnd_rel r y
  rw [hx] at h
  have hls := svr_cells h (fun l v => GRep.oneCell)
  obtain ⟨cells, hce⟩ : ∃ cells, cells = (a.eval y).cells := ⟨_, rfl⟩
  rw [← hce] at hls
  have hrun : (execOp a.eval ⟨some d, .box t' y, ty, pos, af, none⟩).run P w = .ok (.value (.pointer (some ⟨w.heap.size, 0, none⟩))) (w.alloc (.cells cells t')) := by
    rw [hce]; simp [execOp, Instr.box, newVar, newRow]
  let S' : Stab := fun b i => S b i ∨ (b = w.heap.size ∧ i < cells.size)
  have hx1 : Ext w S (w.alloc (.cells cells t')) S' := ⟨rfl, rfl, rfl, by simp, fun b hb => Below.heap_alloc w _ b hb, fun _ _ h => .inl h, fun b i hb h => by
    rcases h with h | ⟨h, _⟩
    · exact h
    · omega⟩
  have hin : InH (w.alloc (.cells cells t')) S' := ⟨fun b i hs => by
    rcases hs with hs | ⟨rfl, _⟩
    · exact Nat.lt_of_lt_of_le (r.sl.1 b i hs) hx1.size
    · simp, r.sl.2.mono (hx1.keeps r.sl)⟩
  refine wpList_plain rfl fun K hK => ?_
  unfold Oper.wp
  rw [hrun]
  refine hK _ _ (k _ _ _ _ ((r.ext hx1 hin).put (of_decide_eq_true hd) ?_))
  have hrep : Rep (w.alloc (.cells cells t')) S' (.cp x.cells) (.pointer (some ⟨w.heap.size, 0, none⟩)) := by
    have hcell : ∀ j, (w.alloc (.cells cells t')).cell? ⟨w.heap.size, j, none⟩ = cells[j]? := fun j => by
      unfold World.cell?
      rw [show (w.alloc (.cells cells t')).heap[(⟨w.heap.size, j, none⟩ : Addr).block]? = some (.cells cells t') from heap_alloc_new w _]
      rfl
    have hj : ∀ (j : Nat) (l : Lf), x.cells[j]? = some l → ∃ v, cells[j]? = some v ∧ GRep w S m H l v := fun j l hl => by
      obtain ⟨v, h1, h2⟩ := hls.get hl
      exact ⟨v, by simpa using h1, h2⟩
    refine .cp x.cells w.heap.size 0 (fun j => cells.getD j undef) (fun j l hl => ?_) (fun j l hl => ?_)
    · obtain ⟨v, h1, h2⟩ := hj j l hl
      rw [Nat.zero_add]
      refine ⟨.inr ⟨rfl, (Array.getElem?_eq_some_iff.1 h1).1⟩, (hcell j).trans ?_⟩
      simp [h1]
    · obtain ⟨v, h1, h2⟩ := hj j l hl
      have : cells.getD j undef = v := by simp [h1]
      rw [this]
      exact Rep.mono (hx1.keeps r.sl) (GRep.rep h2 ((List.all_eq_true.1 hpub) l (List.mem_of_getElem? hl)))
  exact hrep
end

abbrev YK := World → Stab → Prop
/-- What new blocks leave standing. -/
def YExt (K : YK) : Prop := ∀ w S w' S', K w S → Ext w S w' S' → InH w' S' → K w' S'
def QY (nt : Nat) (Q : Exit → (Nat → AV) → YK → Prop) : Exit → Act → World → Prop := fun e a w => ∃ t S H K, Rel (Ctx.of w S nt) ⟨t, []⟩ a w S H ∧ K w S ∧ Q e t K
def NoOutY (Q : Exit → (Nat → AV) → YK → Prop) : Prop := ∀ t K, ¬ Q .outgrown t K
def thenY (n : (Nat → AV) → YK → Prop) (Q : Exit → (Nat → AV) → YK → Prop) : Exit → (Nat → AV) → YK → Prop
  | .normal, t, K => n t K
  | e, t, K => Q e t K
def inBlockY (id : Nat) (Q : Exit → (Nat → AV) → YK → Prop) : Exit → (Nat → AV) → YK → Prop
  | .exit id', t, K => if id' = id then Q .normal t K else Q (.exit id') t K
  | e, t, K => Q e t K
def AWY (P : Program) (nt : Nat) (x : Code) (Q : Exit → (Nat → AV) → YK → Prop) (K : YK) (t : Nat → AV) : Prop :=
  NoOutY Q → ∀ a w S H, Rel (Ctx.of w S nt) ⟨t, []⟩ a w S H → K w S → x.wpIn Fence.wide 0 P (QY nt Q) a w
def AWLY (P : Program) (nt : Nat) (ops : Array Oper) (Q : Exit → (Nat → AV) → YK → Prop) (K : YK) (l : List Oper) (t : Nat → AV) : Prop :=
  NoOutY Q → ∀ a w S H, Rel (Ctx.of w S nt) ⟨t, []⟩ a w S H → K w S → wpListIn Fence.wide 0 P ops (QY nt Q) l a w

theorem Rel.here {c : Ctx} {t : Nat → AV} {a : Act} {w : World} {S : Stab} {H : Nat → Value} {nt : Nat} (hn : c.nt = nt) (r : Rel c ⟨t, []⟩ a w S H) : Rel (Ctx.of w S nt) ⟨t, []⟩ a w S H :=
  ⟨r.nt.trans hn, r.df, r.tm, fun p b h => by simp at h, fun p b g h => by simp at h, fun p q b b' g h => by simp at h, fun p b g i h => by simp at h, r.sl, ExtX.refl _ w S, Nat.zero_le _, fun p g h => absurd h (Nat.not_lt_zero _), fun p e sz k cs h => absurd h (Nat.not_lt_zero _), fun p h => absurd h (Nat.not_lt_zero _)⟩

/-- What stays in memory stays known. -/
theorem Rel.kept {t : Nat → AV} {a : Act} {w w' : World} {S S' : Stab} {H : Nat → Value} {nt : Nat} (r : Rel (Ctx.of w S nt) ⟨t, []⟩ a w S H) (h : KeptS w S w' S') : Rel (Ctx.of w' S' nt) ⟨t, []⟩ a w' S' H :=
  ⟨r.nt, r.df, fun i => AVR.mono (fun l v => GRep.mono h.st (Nat.le_refl _) (fun _ _ => rfl) (fun p e sz k cs hp _ => by simp at hp)) (r.tm i), fun p b h => by simp at h, fun p b g h => by simp at h, fun p q b b' g h => by simp at h, fun p b g i h => by simp at h, h.sl, ExtX.refl _ w' S', Nat.zero_le _, fun p g h => absurd h (Nat.not_lt_zero _), fun p e sz k cs h => absurd h (Nat.not_lt_zero _), fun p h => absurd h (Nat.not_lt_zero _)⟩

theorem wpListIn_append {F : Fence} {n : Nat} {P : Program} {ops : Array Oper} {Q : Exit → Act → World → Prop} {l2 : List Oper} : ∀ (l1 : List Oper) (a : Act) (w : World), wpListIn F n P ops (Exit.then (wpListIn F n P ops Q l2) Q) l1 a w → wpListIn F n P ops Q (l1 ++ l2) a w
  | [], a, w, h => h
  | o :: l1, a, w, h => by
    have ih := wpListIn_append (F := F) (n := n) (P := P) (ops := ops) (Q := Q) (l2 := l2) l1
    simp only [List.cons_append]
    unfold wpListIn at h ⊢
    split at h
    · rename_i hw
      rw [if_pos hw]
      obtain ⟨h1, h2⟩ := h
      refine ⟨h1, ?_⟩
      generalize (o.semAt F.round a.eval).run P w = r at h2
      have hlet : LetsOut (Exit.then (wpListIn F n P ops Q l2) Q) → LetsOut Q := fun ⟨a, w, h⟩ => ⟨a, w, h⟩
      cases r with
      | ok nx w' =>
        cases nx with
        | value v => exact ih _ _ h2
        | skip => exact ih _ _ h2
        | defer d => exact ih _ _ h2
        | enter f args =>
          refine ⟨h2.1, h2.2.mono fun e w'' hr => ?_⟩
          cases e with
          | returned v => exact ih _ _ hr
          | panicked ch => exact hr
          | outgrown => exact hlet hr
        | row row args => exact ⟨h2.1, h2.2.mono fun v w'' hr => ih _ _ hr⟩
        | round l f tmps as bd =>
          refine ⟨h2.1, h2.2.mono fun e w'' hr => ?_⟩
          cases e with
          | returned v => exact ih _ _ hr
          | panicked ch => exact hr
          | outgrown => exact hlet hr
        | _ => exact absurd h2 id
      | halt x w' =>
        cases x with
        | panic v => exact h2
        | _ => exact absurd h2 id
    · rename_i hw
      rw [if_neg hw]
      exact ⟨h.1, ih _ _ h.2⟩

section
variable {P : Program} {nt : Nat} {Q : Exit → (Nat → AV) → YK → Prop} {K : YK} {t : Nat → AV}

theorem yseq {x y : Code} (h : AWY P nt x (thenY (fun t K => AWY P nt y Q K t) Q) K t) : AWY P nt (.seq x y) Q K t := by
  intro hn a w S H r hK
  refine wpIn_seq (wpIn_mono (h (fun t K hs => hn t K hs) a w S H r hK) ?_)
  rintro e a w ⟨t, S, H, K, r, hK, hq⟩
  cases e with
  | normal => exact hq hn a w S H r hK
  | _ => exact ⟨t, S, H, K, r, hK, hq⟩
theorem ythen {n : (Nat → AV) → YK → Prop} (h : n t K) : thenY n Q .normal t K := h
theorem yblk {id : Nat} (h : Q .normal t K) : inBlockY id Q .normal t K := h
theorem yskip (h : Q .normal t K) : AWY P nt .skip Q K t := fun _ _ _ S H r hK => wpIn_skip ⟨t, S, H, K, r, hK, h⟩
theorem yexit {id : Nat} (h : Q (.exit id) t K) : AWY P nt (.exit id) Q K t := fun _ _ _ S H r hK => wpIn_exit ⟨t, S, H, K, r, hK, h⟩
theorem yret (h : Q .ret t K) : AWY P nt .ret Q K t := fun _ _ _ S H r hK => wpIn_ret ⟨t, S, H, K, r, hK, h⟩
theorem yblock {id : Nat} {x : Code} (h : AWY P nt x (inBlockY id Q) K t) : AWY P nt (.block id x) Q K t := by
  intro hn a w S H r hK
  refine wpIn_block (wpIn_mono (h (fun t K hs => hn t K hs) a w S H r hK) ?_)
  rintro e a w ⟨t, S, H, K, r, hK, hq⟩
  cases e with
  | exit id' =>
    simp only [inBlockY] at hq
    simp only [Exit.inBlock]
    split
    · rename_i h; rw [if_pos h] at hq; exact ⟨t, S, H, K, r, hK, hq⟩
    · rename_i h; rw [if_neg h] at hq; exact ⟨t, S, H, K, r, hK, hq⟩
  | _ => exact ⟨t, S, H, K, r, hK, hq⟩
theorem ycond {o : Operand} {x y : Code} {b : Bool} (ho : opnd ⟨t, []⟩ o = .s (.one (.b b))) (h1 : b = true → AWY P nt x Q K t) (h0 : b = false → AWY P nt y Q K t) : AWY P nt (.cond o x y) Q K t := by
  intro hn a w S H r hK
  have h := opnd_rel r o
  rw [ho] at h
  have hv : a.eval o = .bool b := rep_b (h : Rep w S (.b b) (a.eval o))
  exact wpIn_cond_split hv (fun hb => h1 hb hn a w S H r hK) (fun hb => h0 hb hn a w S H r hK)

theorem AWY.of_eq {x : Code} {t' : Nat → AV} (h : AWY P nt x Q K t') (e : ∀ i, t' i = .top ∨ t' i = t i) : AWY P nt x Q K t := by
  intro hn a w S H r hK
  refine h hn a w S H (r.weak fun i => ?_) hK
  rcases e i with h | h
  · exact .inr h
  · exact .inl h

/-- Operations that call no yield. -/
theorem yl_of {ops : Array Oper} {l1 l2 : List Oper} (hK : YExt K) (hnd : l1.all ndf = true) (h : ∀ w0 S0, AWL P (Ctx.of w0 S0 nt) ops (fun e st => e = .normal ∧ st.m = [] ∧ AWLY P nt ops Q K l2 st.t) l1 ⟨t, []⟩) : AWLY P nt ops Q K (l1 ++ l2) t := by
  intro hn a w S H r hk
  refine wpListIn_append l1 a w ?_
  have h1 := wpList_in (rd := none) (ds := []) (Q1 := QR (Ctx.of w S nt) (fun e st => e = .normal ∧ st.m = [] ∧ AWLY P nt ops Q K l2 st.t)) (Q2 := Exit.then (wpListIn Fence.wide 0 P ops (QY nt Q) l2) (QY nt Q)) ?_ ?_ ?_ l1 hnd a w (h w S a w S H r)
  · rw [dsl_same r.df] at h1
    exact h1
  · rintro ⟨a, w, st, S, H, _, h, _⟩; cases h
  · rintro e a w ⟨st, S, H, r, _⟩; exact r.df
  · rintro e a' w' ⟨⟨t', m'⟩, S', H', r', rfl, hm, h⟩
    have hm' : m' = [] := hm
    subst hm'
    rw [dsl_same r'.df]
    exact h hn a' w' S' H' (r'.here rfl) (hK _ _ _ _ hk (r'.ex.toExt (fun _ h => h)) r'.sl)

theorem yl_nil {ops : Array Oper} (h : Q .normal t K) : AWLY P nt ops Q K [] t := fun _ _ _ S H r hK => ⟨t, S, H, K, r, hK, h⟩
theorem yregion {id : Nat} {l : List Oper} (h : AWLY P nt l.toArray Q K l t) : AWY P nt (.region id l.toArray false) Q K t := fun hn a w S H r hK => wpIn_region_lit (h hn a w S H r hK)
/-- A region that calls no yield. -/
theorem yplain {id : Nat} {l : List Oper} (hK : YExt K) (hnd : l.all ndf = true) (h : ∀ w0 S0, AWL P (Ctx.of w0 S0 nt) l.toArray (fun e st => e = .normal ∧ st.m = [] ∧ AWLY P nt l.toArray Q K [] st.t) l ⟨t, []⟩) : AWY P nt (.region id l.toArray false) Q K t := by
  refine yregion ?_
  have h1 := yl_of (l2 := []) hK hnd h
  rwa [List.append_nil] at h1

/-- What a call of yield comes to. -/
def YStep (P : Program) (l : Nat) (J : Nat → YK) (Jx : YK) (L : List (SV × SV)) : Prop :=
  ∀ k x y w S v u, L[k]? = some (x, y) → J k w S → InH w S → SVR (Rep w S) x v → SVR (Rep w S) y u →
      ∃ fn tmps assign body, (Instr.yield l #[v, u]).run P w = .ok (.round l fn tmps assign body) w ∧
        RoundIn Fence.wide 0 P l fn tmps assign body w (fun e w' => ∃ b S', e = .returned (.bool b) ∧ KeptS w S w' S' ∧ (if b then J (k + 1) w' S' else Jx w' S'))

theorem pub_nil {w : World} {S : Stab} {H : Nat → Value} {x : SV} {v : Value} (h : SVR (GRep w S [] H) x v) : SVR (Rep w S) x v := by
  have h0 : ∀ l v, GRep0 w S [] H l v → Rep w S l v := fun l v h => by
    cases l with
    | lp p off => exact absurd h.1 (Nat.not_lt_zero _)
    | ls p n => exact absurd h.1 (Nat.not_lt_zero _)
    | ap p n off => exact absurd h.1 (Nat.not_lt_zero _)
    | _ => exact h
  refine SVR.mono (fun l v h => ?_) h
  cases l with
  | lp p off => exact absurd h.1 (Nat.not_lt_zero _)
  | ls p n => exact absurd h.1 (Nat.not_lt_zero _)
  | ap p n off => exact absurd h.1 (Nat.not_lt_zero _)
  | fn f a b =>
    obtain ⟨va, vb, rfl, h1, h2⟩ := h
    refine .fn f a b va vb (by simpa using h1.1) (by simpa using h2.1) (fun j l v hl hv => h0 _ _ (h1.2 j l v hl (by simpa using hv))) (fun j l v hl hv => h0 _ _ (h2.2 j l v hl (by simpa using hv)))
  | _ => exact h0 _ _ h

/-- yield is called. -/
theorem yl_yield {ops : Array Oper} {rest : List Oper} {o : Oper} {d : Tmp} {ty : Tmp} {ax ay : Operand} {ats : Array TypeId} {l : Nat} {J : Nat → YK} {Jx : YK} {L : List (SV × SV)} {k : Nat} {x y : SV}
    (ho : o.op = .call { callee := .value (.tmp ty), args := #[ax, ay], argTypes := ats }) (hod : o.dst = some d) (hw : ∀ a w S H, Rel (Ctx.of w S nt) ⟨t, []⟩ a w S H → Region.wanted o (yielded ops a.tmps) = true)
    (hs : YStep P l J Jx L) (hd : decide (d < nt) = true) (hy : t ty = .s (.one (.raw (.func (.yield l) #[] #[])))) (hx : opnd ⟨t, []⟩ ax = .s x) (hyy : opnd ⟨t, []⟩ ay = .s y) (hL : L[k]? = some (x, y))
    (h1 : AWLY P nt ops Q (J (k + 1)) rest (upd t d (.s (.one (.b true))))) (h0 : AWLY P nt ops Q Jx rest (upd t d (.s (.one (.b false))))) : AWLY P nt ops Q (J k) (o :: rest) t := by
  intro hn a w S H r hK
  have e1 := opnd_rel r ax
  rw [hx] at e1
  have e2 := opnd_rel r ay
  rw [hyy] at e2
  have e3 := r.tm ty
  have e3' : AVR (GRep w S [] H) (t ty) (a.tmps.getD ty undef) := e3
  rw [hy] at e3'
  have hv : a.tmps.getD ty undef = .func (.yield l) #[] #[] := rep_raw e3'
  obtain ⟨fn, tmps, assign, body, hrun, hround⟩ := hs k x y w S (a.eval ax) (a.eval ay) hL hK r.sl (pub_nil e1) (pub_nil e2)
  have hev : (execOp a.eval o).run P w = .ok (.round l fn tmps assign body) w := by
    obtain ⟨odst, oop, oty, opos, oaf, og⟩ := o
    simp only at ho
    subst ho
    have hv' : a.eval (.tmp ty) = .func (.yield l) #[] #[] := hv
    simp only [execOp, resolve, hv', Deferred.ofValue, Sem.run_bind]
    simpa [invoke] using hrun
  have hsem : o.semAt Fence.wide.round a.eval = execOp a.eval o := Oper.semAt_none _ _
  unfold wpListIn
  rw [if_pos (hw a w S H r)]
  refine ⟨fun _ _ => trivial, ?_⟩
  rw [hsem, hev]
  refine ⟨fun hh => (by simp [Fence.wide] at hh), ?_⟩
  refine hround.mono ?_
  rintro e w' ⟨b, S', rfl, hk, hj⟩
  have r' := (r.kept hk).put (d := d) (x := .s (.one (.b b))) (v := .bool b) (of_decide_eq_true hd) (show AVR _ (.s (.one (.b b))) _ from Rep.b b)
  rw [hod]
  cases b with
  | true => exact h1 hn _ _ _ _ (r'.here rfl) hj
  | false => exact h0 hn _ _ _ _ (r'.here rfl) hj

/-- A loop. -/
theorem yloop {body : Code} {G : Type} (sl : G → List (Nat × AV)) (KK : G → YK) (pre : G → Prop) (μ : G → Nat) (g0 : G) (p0 : pre g0) (s0 : MatchL t (sl g0)) (hK0 : K = KK g0) (hin : ∀ g, pre g → InbL 0 (sl g))
    (round : ∀ g, pre g → AWY P nt body (thenY (fun t' K' => ∃ g', pre g' ∧ MatchL t' (sl g') ∧ K' = KK g' ∧ μ g' < μ g) Q) (KK g) (updL (fun _ => .top) (sl g))) : AWY P nt (.loop body) Q K t := by
  subst hK0
  intro hn a w S H r hK b k cs hro hb hr
  have key : ∀ n, ∀ g a w S H, pre g → μ g = n → Rel (Ctx.of w S nt) ⟨updL (fun _ => .top) (sl g), []⟩ a w S H → KK g w S →
      ∃ e a' w', QY nt Q e a' w' ∧ ArrivesIn (Machine.fenced P Fence.wide) P (lone (b.atR a (.code body :: .inLoop body :: k)) cs w) b k cs e a' w' := by
    intro n
    induction n using Nat.strongRecOn with
    | _ n ih =>
      intro g a w S H hp hμ r hK
      obtain ⟨e, a₁, w₁, hqq, harr⟩ := round g hp (fun t K hs => hn t K hs) a w S H r hK b (.inLoop body :: k) cs hro hb hr
      obtain ⟨t', S', H', K', r', hK', hqq⟩ := hqq
      cases e with
      | normal =>
        obtain ⟨g', hp', hs', rfl, hlt⟩ := hqq
        have rt : Rel (Ctx.of w₁ S' nt) ⟨updL (fun _ => .top) (sl g'), []⟩ a₁ w₁ S' H' := r'.weak fun i => by
          rcases updL_match hs' (hin g' hp') i with h | h
          · exact .inr h
          · exact .inl h.1
        obtain ⟨e₂, a₂, w₂, hq₂, harr₂⟩ := ih (μ g') (hμ ▸ hlt) g' a₁ w₁ S' H' hp' rfl rt hK'
        exact ⟨e₂, a₂, w₂, hq₂, .of_steps (StepsIn.trans harr (.one (fenced_calm (n := 0) hb hr rfl) stepR_inLoop)) harr₂⟩
      | exit id => exact ⟨_, _, w₁, ⟨t', S', H', K', r', hK', hqq⟩, .pass (x := .inLoop body) rfl (fun _ _ => .inl (by simp)) harr⟩
      | goto l => exact ⟨_, _, w₁, ⟨t', S', H', K', r', hK', hqq⟩, .pass (x := .inLoop body) rfl (fun _ _ => .inl (by simp)) harr⟩
      | ret => exact ⟨_, _, w₁, ⟨t', S', H', K', r', hK', hqq⟩, .pass (x := .inLoop body) rfl (fun _ _ => .inl (by simp)) harr⟩
      | panic ch => exact ⟨_, _, w₁, ⟨t', S', H', K', r', hK', hqq⟩, .pass (x := .inLoop body) rfl (fun _ _ => .inl (by simp)) harr⟩
      | outgrown => exact ⟨_, _, w₁, ⟨t', S', H', K', r', hK', hqq⟩, .pass (x := .inLoop body) rfl (fun _ _ => .inl (by simp)) harr⟩
  have rt : Rel (Ctx.of w S nt) ⟨updL (fun _ => .top) (sl g0), []⟩ a w S H := r.weak fun i => by
    rcases updL_match s0 (hin g0 p0) i with h | h
    · exact .inr h
    · exact .inl h.1
  obtain ⟨e, a', w', hqq, harr⟩ := key _ g0 a w S H p0 rfl rt hK
  exact ⟨e, a', w', hqq, .of_steps (.one (fenced_calm (n := 0) hb hr rfl) stepR_loop) harr⟩
end

theorem entry_rel {args : List SV} {w : World} {S : Stab} {vs : Array Value} {nt : Nat} (hn : args.length ≤ nt) (hS : InH w S) (hv : SvsR (Rep w S) args vs.toList) :
    Rel (Ctx.of w S nt) ⟨argT args, []⟩ { tmps := vs ++ Array.replicate (nt - vs.size) undef, defers := [] } w S (fun _ => undef) := by
  have hlen : vs.size = args.length := by have := hv.1; simp at this; omega
  have hget : ∀ i, (vs ++ Array.replicate (nt - vs.size) undef).getD i undef = vs.getD i undef := by
    intro i
    simp only [Array.getD_eq_getD_getElem?, Array.getElem?_append]
    split
    · rfl
    · rename_i hi
      rw [Array.getElem?_replicate]
      have : vs[i]? = none := Array.getElem?_eq_none (by omega)
      rw [this]
      split <;> rfl
  refine ⟨by simp; omega, rfl, fun i => ?_, fun p b h => by simp at h, fun p b g h => by simp at h, fun p q b b' g h => by simp at h, fun p b g i h => by simp at h, hS, ExtX.refl _ w S, Nat.zero_le _, fun p g h => absurd h (Nat.not_lt_zero _), fun p e sz k cs h => absurd h (Nat.not_lt_zero _), fun p h => absurd h (Nat.not_lt_zero _)⟩
  rw [hget]
  show AVR _ (match args[i]? with | some x => .s x | none => .tup []) _
  cases ha : args[i]? with
  | none =>
    have : vs[i]? = none := Array.getElem?_eq_none (by rw [hlen]; exact List.getElem?_eq_none_iff.1 ha)
    simp only [Array.getD_eq_getD_getElem?, this, Option.getD_none]
    exact avr_undef
  | some x =>
    have hi : i < args.length := (List.getElem?_eq_some_iff.1 ha).1
    have hi' : i < vs.size := by omega
    have : vs[i]? = some vs[i] := Array.getElem?_eq_getElem hi'
    simp only [Array.getD_eq_getD_getElem?, this, Option.getD_some]
    exact SVR.mono (fun _ _ => GRep.of_rep) (hv.2 i x _ ha (by simp))

/-- An iterator's contract out of its body. -/
theorem iterC_of {P : Program} {fc : FuncId} {fn : Func} {body : Code} {cap : List Lf} {L : List (SV × SV)} (hf : P.funcs[fc]? = some fn) (hb : fn.body = some body) (hres : fn.results = #[]) {nt : Nat} (hnt : fn.ntmps = nt) (hn : cap.length + 1 ≤ nt)
    (h : ∀ l J Jx, (∀ k, YExt (J k)) → YExt Jx → YStep P l J Jx L → AWY P nt body (fun e _ K => (e = .normal ∨ e = .ret) ∧ (K = J L.length ∨ K = Jx)) (J 0) (argT (.one (.raw (.func (.yield l) #[] #[])) :: cap.map .one))) : IterC P fc cap L := by
  subst hnt
  intro l J Jx w S vs hJ hJx hs h0 hS hcap
  refine callsIn_wide.1 (callsIn_of_wp (n := 0) hf hb trivial ?_)
  have hv : SvsR (Rep w S) (.one (.raw (.func (.yield l) #[] #[])) :: cap.map .one) ((#[Value.func (.yield l) #[] #[]] ++ vs : Array Value)).toList := by
    refine ⟨by have := hcap.1; simp at this ⊢; omega, fun j x v hx hv => ?_⟩
    cases j with
    | zero =>
      simp at hx hv
      subst hx; subst hv
      exact Rep.raw (.func (.yield l) #[] #[]) rfl
    | succ j =>
      simp at hx hv
      obtain ⟨x', hx', rfl⟩ := hx
      exact hcap.2 j x' v hx' (by simpa using hv)
  have r0 := entry_rel (nt := fn.ntmps) (by simpa using hn) hS hv
  refine wpIn_mono (h l J Jx (fun k => hJ k) hJx hs (fun t K hs => by rcases hs.1 with h | h <;> cases h) _ w S _ r0 h0) ?_
  rintro e a w1 ⟨t, S1, H, K, r, hK, he, hk⟩
  have hr : (results fn a.tmps).run P w1 = .ok (.tuple #[]) w1 := by
    rw [results_eq, hres]
    simp
  have hfin : ∃ v S', Ending.returned (.tuple #[]) = .returned v ∧ InH w1 S' ∧ (J L.length w1 S' ∨ Jx w1 S') := by
    refine ⟨_, S1, rfl, r.sl, ?_⟩
    rcases hk with rfl | rfl
    · exact .inl hK
    · exact .inr hK
  rcases he with rfl | rfl
  · exact ⟨r.df, _, hr, hfin⟩
  · exact ⟨r.df, _, hr, hfin⟩
end Go.Proofs.Ytmkcigfeebippaa.Abs

/-
  Ranges over functions, told by models.
-/
namespace Go.Proofs.Ytmkcigfeebippaa.Abs
open Go.RowKit

/-- A range over what an iterator yields: each round goes on, or leaves by a jump (0: a return; n + 1: an exit of block n). -/
def rangeL {α σ : Type} (f : σ → α → Option (σ ⊕ (Nat × σ))) : List α → σ → Option (σ ⊕ (Nat × σ))
  | [], s => some (.inl s)
  | x :: xs, s => match f s x with
    | none => none
    | some (.inl s') => rangeL f xs s'
    | some (.inr j) => some (.inr j)

def rangeK {σ ρ : Type} (k kr : σ → Option ρ) (ke : Nat → σ → Option ρ) : σ ⊕ (Nat × σ) → Option ρ
  | .inl s => k s
  | .inr (0, s) => kr s
  | .inr (n + 1, s) => ke n s

def jcode : Code → Nat
  | .exit id => id + 1
  | _ => 0

theorem rangeL_cons {α σ : Type} {f : σ → α → Option (σ ⊕ (Nat × σ))} {x : α} {xs : List α} {s : σ} {r : σ ⊕ (Nat × σ)} (h : rangeL f (x :: xs) s = some r) :
    ∃ y, f s x = some y ∧ (∀ s', y = .inl s' → rangeL f xs s' = some r) ∧ ∀ j, y = .inr j → r = .inr j := by
  unfold rangeL at h
  cases hf : f s x with
  | none => rw [hf] at h; cases h
  | some y =>
    rw [hf] at h
    refine ⟨y, rfl, fun s' e => ?_, fun j e => ?_⟩
    · subst e; exact h
    · subst e; exact (Option.some.inj h).symm

section
variable {P : Program} {c : Ctx} {Q : Exit → AS → Prop} {t : Nat → AV} {m : List Blk}

theorem RQ.mono {G : Type} {mm : G → List Blk} {p p' : G → Prop} {j j' : Code → G → Prop} (hp : ∀ g, p g → p' g) (hj : ∀ c g, j c g → j' c g) : ∀ e st, RQ mm p j e st → RQ mm p' j' e st := by
  intro e st h
  cases e with
  | normal => obtain ⟨g, ex, h1, h2⟩ := h; exact ⟨g, ex, hp g h1, h2⟩
  | ret => obtain ⟨g, ex, h1, h2⟩ := h; exact ⟨g, ex, hj _ g h1, h2⟩
  | exit id => obtain ⟨g, ex, h1, h2⟩ := h; exact ⟨g, ex, hj _ g h1, h2⟩
  | _ => exact h

theorem irangeL {go : Operand} {p1 p2 : Tmp} {assign body : Code} {fc : FuncId} {cap : List Lf} {α σ : Type} (f : σ → α → Option (σ ⊕ (Nat × σ))) (Lst : List α) (sx sy : α → SV) (mm : σ → List Blk) (s0 : σ) {rr : σ ⊕ (Nat × σ)} (hr : rangeL f Lst s0 = some rr)
    (hg : opnd ⟨t, m⟩ go = .s (.one (.fn fc [] cap))) (hfc : FnI P fc) (hcap : cap.all Lf.pubd0 = true) (hit : IterC P fc cap (Lst.map fun x => (sx x, sy x))) (hp1 : decide (p1 < c.nt) = true) (hp2 : decide (p2 < c.nt) = true)
    (hm : m = mm s0) (hlen : ∀ g, (mm g).length = m.length) (hmin : ∀ g, ∀ b ∈ mm g, b.inb (mm g).length)
    (round : ∀ x s y l, f s x = some y → ∀ w0 S0 X H0, AWI (some l) P ⟨w0, S0, c.nt, X, mm s, H0⟩ okB assign
      (thenA (fun st1 => ∀ w0 S0 X H0, AWI (some l) P ⟨w0, S0, c.nt, X, st1.m, H0⟩ okB body (RQ mm (fun s' => y = .inl s') (fun jc s' => y = .inr (jcode jc, s'))) st1) (fun _ _ => False)) ⟨upd (upd t p1 (.s (sx x))) p2 (.s (sy x)), mm s⟩)
    (done : ∀ s, rr = .inl s → Q .normal ⟨t, mm s⟩) (hret : ∀ s, rr = .inr (0, s) → Q .ret ⟨t, mm s⟩) (hex : ∀ id s, rr = .inr (id + 1, s) → Q (.exit id) ⟨t, mm s⟩) :
    AWI none P c (okO c) (.rangeFunc go #[p1, p2] assign body) Q ⟨t, m⟩ := by
  refine irange (L := Lst.map fun x => (sx x, sy x)) mm (fun k s => rangeL f (Lst.drop k) s = some rr) (fun jc s => rr = .inr (jcode jc, s)) s0 hg hfc hcap hit hp1 hp2 hr hm hlen hmin ?_ (fun g h => ?_) (fun g h => hret g h) (fun id g h => hex id g h)
  · intro k X Y s l hk hp w0 S0 X0 H0
    rw [List.getElem?_map] at hk
    cases hx : Lst[k]? with
    | none => rw [hx] at hk; cases hk
    | some x =>
      rw [hx] at hk
      simp only [Option.map_some, Option.some.injEq, Prod.mk.injEq] at hk
      obtain ⟨rfl, rfl⟩ := hk
      have hlt := (List.getElem?_eq_some_iff.1 hx).1
      have hd : Lst.drop k = x :: Lst.drop (k + 1) := by
        rw [List.drop_eq_getElem_cons hlt, (List.getElem?_eq_some_iff.1 hx).2]
      rw [hd] at hp
      obtain ⟨y, hy, h1, h2⟩ := rangeL_cons hp
      refine (round x s y l hy w0 S0 X0 H0).mono fun e st h => ?_
      cases e with
      | normal =>
        exact fun w0 S0 X0 H0 => AWI.mono (h w0 S0 X0 H0) (RQ.mono (fun s' h => h1 s' h) (fun jc s' h => h2 _ h))
      | _ => exact h
  · have h' : rangeL f (Lst.drop (Lst.map fun x => (sx x, sy x)).length) g = some rr := h
    rw [List.length_map, List.drop_length] at h'
    exact done g (Option.some.inj h').symm

/-- An own row that grows out of nothing, in code with marks. -/
theorem sadopt_i {rd : Option Nat} {ok : FrK → Prop} {x : Code} (e sz : Nat) (i : Nat) (hsz : 0 < sz) (hi : t i = .s (.one (.raw (.slice none 0 0)))) (k : AWI rd P c ok x Q ⟨upd t i (.s (.one (.ls m.length 0))), m ++ [.arr e sz 0 []]⟩) : AWI rd P c ok x Q ⟨t, m⟩ :=
  awi_of _ (fun _ _ S H r => ⟨S, setH H m.length (.slice none 0 0), adopt_rel (st := ⟨t, m⟩) i hsz hi r⟩) k
theorem sadopt_box_i {rd : Option Nat} {ok : FrK → Prop} {x : Code} (e sz p : Nat) {cs : List Lf} (i : Nat) (hsz : 0 < sz) (hm : m[p]? = some (.box cs)) (hi : cs[i]? = some (.raw (.slice none 0 0))) (k : AWI rd P c ok x Q ⟨t, m.set p (.box (cs.set i (.ls m.length 0))) ++ [.arr e sz 0 []]⟩) : AWI rd P c ok x Q ⟨t, m⟩ :=
  awi_of _ (fun _ _ S H r => ⟨S, setH H m.length (.slice none 0 0), adopt_box_rel (st := ⟨t, m⟩) i hsz hm hi r⟩) k
theorem ipub {rd : Option Nat} {ok : FrK → Prop} {x : Code} (i : Nat) {y z : SV} {m' : List Blk} (hx : t i = .s y) (hp : PubV m y z m') (k : AWI rd P c ok x Q ⟨upd t i (.s z), m'⟩) : AWI rd P c ok x Q ⟨t, m⟩ := by
  refine awi_of ⟨upd t i (.s z), m'⟩ (fun a w S H r => ?_) k
  obtain ⟨S', k1, g1⟩ := hp.keeps r
  have h := r.tm i
  have hxx : (AS.mk t m).t i = .s y := hx
  rw [hxx] at h
  have hy := g1 _ h
  have r' := k1.rel
  refine ⟨S', H, r'.nt, r'.df, fun j => ?_, r'.bl, r'.lo, r'.inj, r'.sb, r'.sl, r'.ex, r'.kl, r'.kh, r'.kr, r'.ku⟩
  show AVR _ (upd t i _ j) _
  rw [upd_def]
  by_cases e : j = i
  · subst e
    rw [if_pos rfl]
    exact SVR.mono (fun _ _ => GRep.of_rep) hy
  · rw [if_neg e]
    exact r'.tm j
end
end Go.Proofs.Ytmkcigfeebippaa.Abs

/-
  A drawn region with effects whose last operation, behind all others, writes what they read.
-/
namespace Go.Proofs.Ytmkcigfeebippaa.Abs
open Go.RowKit

section
variable {P : Program}

/-- The last waits for all others, and the others for none but themselves. -/
def okLast (l0 : List Oper) (ol : Oper) : Bool :=
  ol.guard.isNone && ol.after.all (fun e => !Region.binds .any e || decide (e.on < l0.length)) && (List.range l0.length).all (fun j => ol.after.any (fun e => e.on == j && Region.binds .any e)) &&
    l0.all (fun o => o.after.all (fun e => !Region.binds .any e || decide (e.on < l0.length)) && (match o.guard with | none => true | some g => decide (g.1 < l0.length)))

theorem ready_nil {ops : Array Oper} (hlt : ∀ (i : Nat) (o : Oper), ops[i]? = some o → ∀ e ∈ o.after, Region.binds .any e = true → e.on < i) {listed : Array Bool} (hsz : listed.size = ops.size) (hr : Region.ready .any ops listed = []) : ∀ n i, i < n → i < ops.size → listed.getD i true = true := by
  intro n
  induction n with
  | zero => intro i h; omega
  | succ n ih =>
    intro i hi hio
    by_cases hb : listed.getD i true = true
    · exact hb
    · exfalso
      have hmem : i ∈ Region.ready .any ops listed := by
        unfold Region.ready
        refine List.mem_filter.2 ⟨List.mem_range.2 hio, ?_⟩
        have hl := hlt i ops[i] (Array.getElem?_eq_getElem hio)
        have hb' : listed.getD i true = false := by simpa using hb
        simp only [hb', Bool.not_false, Bool.true_and, Array.getElem?_eq_getElem hio, Option.map_some, Option.getD_some]
        rw [Array.all_eq_true']
        intro e he
        cases hbind : Region.binds .any e with
        | false => rfl
        | true =>
          have hel := hl e he hbind
          have h1 := ih e.on (by omega) (by omega)
          have h2 : listed.getD e.on false = true := by
            simp only [Array.getD_eq_getD_getElem?] at h1 ⊢
            rw [Array.getElem?_eq_getElem (by omega)] at h1 ⊢
            exact h1
          simp [h2]
      rw [hr] at hmem
      cases hmem

theorem wpAny_snoc {l0 : List Oper} {ol : Oper} (hok : okLast l0 ol = true) (hok0 : DrawOkC l0.toArray) {Q Q' : Exit → Act → World → Prop} (hQ : ∀ e a w, e ≠ .normal → Q' e a w → Q e a w) (hlast : ∀ a w, Q' .normal a w → ol.wp P a w (Q .normal) Q ∨ (ol.asks P a w ∧ LetsOut Q)) :
    ∀ (fuel : Nat) (listed : Array Bool) (a : Act) (w : World), listed.size = l0.length → wpAny P .any l0.toArray Q' fuel listed a w → wpAny P .any (l0 ++ [ol]).toArray Q (fuel + 1) (listed.push false) a w := by
  simp only [okLast, Bool.and_eq_true, List.all_eq_true, Option.isNone_iff_eq_none] at hok
  obtain ⟨⟨⟨hg, hal⟩, hall⟩, hl0⟩ := hok
  have hget : ∀ {i : Nat}, i < l0.length → (l0 ++ [ol]).toArray[i]? = l0.toArray[i]? := fun {i} h => by
    simp [List.getElem?_append_left h]
  have hgl : (l0 ++ [ol]).toArray[l0.length]? = some ol := by simp
  have hD : ∀ {listed : Array Bool} {i : Nat} (b d : Bool), listed.size = l0.length → i < l0.length → (listed.push b).getD i d = listed.getD i d := fun {listed i} b d hs h => by
    simp only [Array.getD_eq_getD_getElem?, Array.getElem?_push]
    rw [if_neg (by omega)]
  have hrdy : ∀ {listed : Array Bool} {i : Nat}, listed.size = l0.length → i < l0.length → i ∈ Region.ready .any (l0 ++ [ol]).toArray (listed.push false) → i ∈ Region.ready .any l0.toArray listed := by
    intro listed i hs h hi
    unfold Region.ready at hi ⊢
    rw [List.mem_filter] at hi ⊢
    obtain ⟨_, h2⟩ := hi
    refine ⟨List.mem_range.2 (by simpa using h), ?_⟩
    rw [hget h, hD false true hs h] at h2
    simp only [Bool.and_eq_true] at h2 ⊢
    refine ⟨h2.1, ?_⟩
    have ho : l0.toArray[i]? = some l0[i] := by simp [h]
    rw [ho] at h2 ⊢
    simp only [Option.map_some, Option.getD_some] at h2 ⊢
    rw [Array.all_eq_true'] at h2 ⊢
    intro e he
    have h3 := h2.2 e he
    have h4 := (hl0 l0[i] (List.getElem_mem h)).1
    rw [Array.all_eq_true'] at h4
    have h5 := h4 e he
    cases hb : Region.binds .any e with
    | false => rfl
    | true =>
      rw [hb] at h3 h5
      have h6 : e.on < l0.length := by simpa using h5
      simp only [Bool.not_true, Bool.false_or] at h3 ⊢
      have h7 := hD (i := e.on) false false hs h6
      first
        | rw [h7] at h3; exact h3
        | (simp only [Array.getD_eq_getD_getElem?] at h3 h7 ⊢; rw [h7] at h3; exact h3)
  have hfin : ∀ {listed : Array Bool}, listed.size = l0.length → l0.length ∈ Region.ready .any (l0 ++ [ol]).toArray (listed.push false) → Region.ready .any l0.toArray listed = [] := by
    intro listed hs hi
    unfold Region.ready at hi ⊢
    rw [List.mem_filter] at hi
    obtain ⟨_, h2⟩ := hi
    rw [hgl] at h2
    simp only [Bool.and_eq_true, Option.map_some, Option.getD_some] at h2
    rw [Array.all_eq_true'] at h2
    rw [List.filter_eq_nil_iff]
    intro j hj hb
    have hjl : j < l0.length := by simpa using List.mem_range.1 hj
    simp only [Bool.and_eq_true] at hb
    have h3 := hall j (List.mem_range.2 hjl)
    rw [Array.any_eq_true] at h3
    obtain ⟨k, hk, h4⟩ := h3
    simp only [Bool.and_eq_true, beq_iff_eq] at h4
    have h5 := h2.2 _ (Array.getElem_mem hk)
    rw [h4.2] at h5
    simp only [Bool.not_true, Bool.false_or] at h5
    rw [h4.1] at h5
    have h6 : listed.getD j false = true := by
      have h7 := hD (i := j) false false hs hjl
      first
        | rw [h7] at h5; exact h5
        | (simp only [Array.getD_eq_getD_getElem?] at h5 h7 ⊢; rw [h7] at h5; exact h5)
    have h8 : listed.getD j true = false := by simpa using hb.1
    simp only [Array.getD_eq_getD_getElem?] at h6 h8
    rw [Array.getElem?_eq_getElem (by omega)] at h6 h8
    simp only [Option.getD_some] at h6 h8
    rw [h6] at h8
    cases h8
  have hnone : ∀ {listed : Array Bool}, listed.size = l0.length → Region.ready .any l0.toArray listed = [] → Region.ready .any (l0 ++ [ol]).toArray (listed.push true) = [] := by
    intro listed hs hr
    rw [List.eq_nil_iff_forall_not_mem]
    intro i hi
    unfold Region.ready at hi
    rw [List.mem_filter] at hi
    obtain ⟨h1, h2⟩ := hi
    have hil : i < l0.length + 1 := by simpa using List.mem_range.1 h1
    simp only [Bool.and_eq_true] at h2
    by_cases hin : i = l0.length
    · subst hin
      have : (listed.push true).getD l0.length true = true := by
        simp only [Array.getD_eq_getD_getElem?, Array.getElem?_push]
        rw [if_pos hs.symm]; rfl
      rw [this] at h2
      simp at h2
    · have hlt : i < l0.length := by omega
      have hmem : i ∈ Region.ready .any (l0 ++ [ol]).toArray (listed.push false) := by
        unfold Region.ready
        rw [List.mem_filter]
        refine ⟨h1, ?_⟩
        rw [hD false true hs hlt]
        rw [hD true true hs hlt] at h2
        simp only [Bool.and_eq_true]
        refine ⟨h2.1, ?_⟩
        have ho : (l0 ++ [ol]).toArray[i]? = some l0[i] := by rw [hget hlt]; simp [hlt]
        have h2' := h2.2
        rw [ho] at h2' ⊢
        simp only [Option.map_some, Option.getD_some] at h2' ⊢
        rw [Array.all_eq_true'] at h2' ⊢
        intro e he
        have h3 := h2' e he
        have h4 := (hl0 l0[i] (List.getElem_mem hlt)).1
        rw [Array.all_eq_true'] at h4
        have h5 := h4 e he
        cases hb : Region.binds .any e with
        | false => rfl
        | true =>
          rw [hb] at h3 h5
          have h6 : e.on < l0.length := by simpa using h5
          simp only [Bool.not_true, Bool.false_or] at h3 ⊢
          have h7 := hD (i := e.on) true false hs h6
          have h8 := hD (i := e.on) false false hs h6
          first
            | rw [h7] at h3; rw [h8]; exact h3
            | (simp only [Array.getD_eq_getD_getElem?] at h3 h7 h8 ⊢; rw [h7] at h3; rw [h8]; exact h3)
      have := hrdy hs hlt hmem
      rw [hr] at this
      cases this
  have hset : ∀ {listed : Array Bool} {i : Nat}, listed.size = l0.length → i < l0.length → (listed.push false).setIfInBounds i true = (listed.setIfInBounds i true).push false := by
    intro listed i hs h
    apply Array.ext_getElem?
    intro j
    simp only [Array.getElem?_setIfInBounds, Array.getElem?_push, Array.size_push, Array.size_setIfInBounds]
    by_cases e : i = j
    · subst e
      rw [if_pos rfl, if_pos (by omega), if_neg (by omega), if_pos rfl, if_pos (by omega)]
    · rw [if_neg e, if_neg e]
  have hsetl : ∀ {listed : Array Bool}, listed.size = l0.length → (listed.push false).setIfInBounds l0.length true = listed.push true := by
    intro listed hs
    apply Array.ext_getElem?
    intro j
    simp only [Array.getElem?_setIfInBounds, Array.getElem?_push, Array.size_push]
    by_cases e : l0.length = j
    · subst e
      rw [if_pos rfl, if_pos (by omega), if_pos hs.symm]
    · rw [if_neg e, if_neg (by omega), if_neg (by omega)]
  have hwl : ∀ (a : Act), Region.wanted ol (yielded (l0 ++ [ol]).toArray a.tmps) = true := fun a => by simp [Region.wanted, hg]
  have lastStep : ∀ (fuel : Nat) (listed : Array Bool) (a : Act) (w : World), listed.size = l0.length → Region.ready .any l0.toArray listed = [] → Q' .normal a w →
      wpOp P (l0 ++ [ol]).toArray Q l0.length (wpAny P .any (l0 ++ [ol]).toArray Q fuel ((listed.push false).setIfInBounds l0.length true)) a w := by
    intro fuel listed a w hs hr hq
    unfold wpOp
    rw [hgl]
    simp only
    rw [if_pos (hwl a), hsetl hs]
    refine (hlast a w hq).imp (Oper.wp_mono (fun a w h => ?_)) id
    have hr' := hnone hs hr
    cases fuel with
    | zero => exact ⟨hr', h⟩
    | succ n => exact ⟨fun _ => h, fun i hi => by rw [hr'] at hi; cases hi⟩
  have hneed : ∀ {listed : Array Bool}, listed.size = l0.length → Region.ready .any (l0 ++ [ol]).toArray (listed.push false) = [] → False := by
    intro listed hs hr
    have hlt : ∀ (i : Nat) (o : Oper), (l0 ++ [ol]).toArray[i]? = some o → ∀ e ∈ o.after, Region.binds .any e = true → e.on < i := by
      intro i o ho e he hb
      by_cases hi : i < l0.length
      · rw [hget hi] at ho
        exact hok0.lt i o ho e he hb
      · have hil : i < l0.length + 1 := by
          have := (Array.getElem?_eq_some_iff.1 ho).1
          simpa using this
        have : i = l0.length := by omega
        subst this
        rw [hgl] at ho
        cases ho
        rw [Array.all_eq_true'] at hal
        have := hal e he
        rw [hb] at this
        simpa using this
    have h1 := ready_nil hlt (by simp [hs]) hr (l0.length + 1) l0.length (by omega) (by simp)
    simp only [Array.getD_eq_getD_getElem?, Array.getElem?_push] at h1
    rw [if_pos hs.symm] at h1
    cases h1
  intro fuel
  induction fuel with
  | zero =>
    intro listed a w hs h
    obtain ⟨hr, hq⟩ := h
    refine ⟨fun hr' => (hneed hs hr').elim, fun i hi => ?_⟩
    have hil : i < l0.length + 1 := by
      unfold Region.ready at hi
      rw [List.mem_filter] at hi
      simpa using List.mem_range.1 hi.1
    by_cases hin : i = l0.length
    · subst hin
      exact lastStep 0 listed a w hs hr hq
    · have := hrdy hs (by omega) hi
      rw [hr] at this
      cases this
  | succ fuel ih =>
    intro listed a w hs h
    obtain ⟨hd, hn⟩ := h
    refine ⟨fun hr' => (hneed hs hr').elim, fun i hi => ?_⟩
    have hil : i < l0.length + 1 := by
      unfold Region.ready at hi
      rw [List.mem_filter] at hi
      simpa using List.mem_range.1 hi.1
    by_cases hin : i = l0.length
    · subst hin
      have hr := hfin hs hi
      exact lastStep (fuel + 1) listed a w hs hr (hd hr)
    · have hlt : i < l0.length := by omega
      have hw := hn i (hrdy hs hlt hi)
      unfold wpOp at hw ⊢
      rw [hget hlt]
      have ho : l0.toArray[i]? = some l0[i] := by simp [hlt]
      rw [ho] at hw ⊢
      simp only at hw ⊢
      have hy : Region.wanted l0[i] (yielded (l0 ++ [ol]).toArray a.tmps) = Region.wanted l0[i] (yielded l0.toArray a.tmps) := by
        have h4 := (hl0 l0[i] (List.getElem_mem hlt)).2
        unfold Region.wanted
        cases hgd : l0[i].guard with
        | none => rfl
        | some g =>
          rw [hgd] at h4
          have h5 : g.1 < l0.length := by simpa using h4
          obtain ⟨j, want⟩ := g
          simp only [yielded]
          rw [hget h5]
      rw [hy, hset hs hlt]
      split at hw
      · rename_i hwant
        rw [if_pos hwant]
        rcases hw with hw | ⟨_, hw⟩
        · exact .inl (oper_mono (fun a w h => ih _ a w (by simpa using hs) h) hQ hw)
        · exact .inr ⟨by assumption, hw.imp fun _ h => h.imp fun _ h => hQ _ _ _ (by simp) h⟩
      · rename_i hwant
        rw [if_neg hwant]
        exact ih _ _ _ (by simpa using hs) hw
end

section
variable {P : Program} {c : Ctx} {t : Nat → AV} {m : List Blk} {Q : Exit → AS → Prop}

theorem AWL.go {ops : Array Oper} {l : List Oper} {st : AS} (h : AWL P c ops Q l st) (a : Act) (w : World) (S : Stab) (H : Nat → Value) (r : Rel c st a w S H) : wpList P ops (QR c Q) l a w := h a w S H r

/-- A region with effects that draws its order, its last operation behind all others. -/
theorem cdraw_eLD {l : List Oper} (es ws : List Nat) (all : List (List Blk)) {last : List Blk} (hws : waitsL l.dropLast [] = ws) (hne : l ≠ []) (hokl : okLast l.dropLast (l.getLast hne) = true) (hok : okDrawC l.dropLast.toArray = true) (hnd : es.Nodup) (hes : (es.all fun e => decide (e < l.dropLast.length)) = true) (hall : all.length = es.length + 1) (h0 : all[0]? = some m) (hlast : all[es.length]? = some last)
    (h : DE P c l.dropLast.toArray ws es all (fun T => AWL P c [l.getLast hne].toArray Q [l.getLast hne] ⟨T, last⟩) 0 all l.dropLast t) : AWD P c Q l ⟨t, m⟩ := by
  have hl : l.dropLast ++ [l.getLast hne] = l := List.dropLast_concat_getLast hne
  generalize l.getLast hne = ol at *
  generalize l.dropLast = l0 at *
  subst hl
  have ok0 := drawOkC_of hok
  have hD := cdraw_eD (P := P) (c := c) (m := m) (t := t) (Q := fun e st => match e with
    | .normal => AWL P c [ol].toArray Q [ol] st
    | _ => False) es ws all hws hok hnd hes hall h0 hlast h
  intro a w S H r
  have h1 := hD a w S H r
  have hg : ol.guard = none := by
    simp only [okLast, Bool.and_eq_true, Option.isNone_iff_eq_none] at hokl
    exact hokl.1.1.1
  have h2 := wpAny_snoc (Q := QR c Q) hokl ok0 (fun e a w hne h => by
    obtain ⟨_, _, _, _, he⟩ := h
    cases e with
    | normal => exact absurd rfl hne
    | _ => exact absurd he id) (fun a w h => by
    obtain ⟨st, S', H', r', hl⟩ := h
    have := AWL.go hl a w S' H' r'
    unfold wpList at this
    rw [if_pos (by simp [Region.wanted, hg])] at this
    exact this) l0.toArray.size (Array.replicate l0.toArray.size false) a w.drew (by simp) h1
  have e1 : (Array.replicate l0.toArray.size false).push false = Array.replicate (l0 ++ [ol]).toArray.size false := by
    apply Array.ext_getElem?
    intro j
    simp only [Array.getElem?_push, Array.getElem?_replicate, Array.size_replicate, List.size_toArray, List.length_append, List.length_cons, List.length_nil]
    split <;> split <;> first | rfl | omega | (split <;> first | rfl | omega)
  rw [e1] at h2
  have e2 : l0.toArray.size + 1 = (l0 ++ [ol]).toArray.size := by simp
  rw [e2] at h2
  exact h2
theorem cdraw_eL {id : Nat} {l : List Oper} (es ws : List Nat) (all : List (List Blk)) {last : List Blk} (hws : waitsL l.dropLast [] = ws) (hm : P.follows .mixedOrders = true) (hne : l ≠ []) (hokl : okLast l.dropLast (l.getLast hne) = true) (hok : okDrawC l.dropLast.toArray = true) (hnd : es.Nodup) (hes : (es.all fun e => decide (e < l.dropLast.length)) = true) (hall : all.length = es.length + 1) (h0 : all[0]? = some m) (hlast : all[es.length]? = some last)
    (h : DE P c l.dropLast.toArray ws es all (fun T => AWL P c [l.getLast hne].toArray Q [l.getLast hne] ⟨T, last⟩) 0 all l.dropLast t) : AWC P c (.region id l.toArray true) Q ⟨t, m⟩ := (cdraw_eLD es ws all hws hne hokl hok hnd hes hall h0 hlast h).awc hm
end
end Go.Proofs.Ytmkcigfeebippaa.Abs

/-
  A region that draws its order, with effects that stand in no order to one another: what the memory is hangs on which of them are done.
-/
namespace Go.Proofs.Ytmkcigfeebippaa.Abs
open Go.RowKit

abbrev MTbl := List (List Bool × List Blk)
def look : MTbl → List Bool → Option (List Blk)
  | [], _ => none
  | (b, M) :: r, bits => if b == bits then some M else look r bits
theorem look_mem : ∀ {tbl : MTbl} {bits : List Bool} {M : List Blk}, look tbl bits = some M → (bits, M) ∈ tbl
  | (b, N) :: r, bits, M, h => by
    unfold look at h
    by_cases hb : (b == bits) = true
    · rw [if_pos hb] at h
      cases h
      have : b = bits := by simpa using hb
      subst this
      exact List.mem_cons_self ..
    · rw [if_neg hb] at h
      exact List.mem_cons_of_mem _ (look_mem h)

theorem zip_self_mem : ∀ {es : List Nat} {a b : Nat}, (a, b) ∈ es.zip es → a = b ∧ a ∈ es
  | [], _, _, h => by simp at h
  | e :: r, a, b, h => by
    rw [List.zip_cons_cons] at h
    rcases List.mem_cons.1 h with h | h
    · cases h; exact ⟨rfl, List.mem_cons_self ..⟩
    · obtain ⟨h1, h2⟩ := zip_self_mem h
      exact ⟨h1, List.mem_cons_of_mem _ h2⟩

/-- Which effects are done. -/
def bitsOf (es : List Nat) (listed : Array Bool) : List Bool := es.map fun e => listed.getD e false
/-- So many effects may be done when operation i comes. -/
def consB (ws es : List Nat) (i : Nat) (bits : List Bool) : Bool := (es.zip bits).all fun x => (!((ws.getD i 0).testBit x.1) || x.2) && (!(x.1 == i || (ws.getD x.1 0).testBit i) || !x.2)
def closedB (ws es : List Nat) (bits : List Bool) : Bool := (es.zip bits).all fun x => !x.2 || (es.zip bits).all fun y => !((ws.getD x.1 0).testBit y.1) || y.2
def allBits : Nat → List (List Bool)
  | 0 => [[]]
  | n + 1 => (allBits n).map (false :: ·) ++ (allBits n).map (true :: ·)
theorem mem_allBits : ∀ {n : Nat} {bits : List Bool}, bits.length = n → bits ∈ allBits n
  | 0, [], _ => List.mem_singleton.2 rfl
  | 0, _ :: _, h => by simp at h
  | n + 1, [], h => by simp at h
  | n + 1, b :: bits, h => by
    have ih := mem_allBits (n := n) (bits := bits) (by simpa using h)
    unfold allBits
    rw [List.mem_append]
    cases b with
    | false => exact .inl (List.mem_map.2 ⟨bits, ih, rfl⟩)
    | true => exact .inr (List.mem_map.2 ⟨bits, ih, rfl⟩)
def fullB (ws es : List Nat) (tbl : MTbl) : Bool := (allBits es.length).all fun bits => !closedB ws es bits || (look tbl bits).isSome

def AllE (p : List Bool → Bool) (Q : List Bool → List Blk → Prop) (tbl : MTbl) : Prop := ∀ e ∈ tbl, p e.1 = true → Q e.1 e.2
theorem alle_nil {p : List Bool → Bool} {Q : List Bool → List Blk → Prop} : AllE p Q [] := fun e h => by cases h
theorem alle_t {p : List Bool → Bool} {Q : List Bool → List Blk → Prop} {b : List Bool} {M : List Blk} {r : MTbl} (_ : p b = true) (q : Q b M) (h : AllE p Q r) : AllE p Q ((b, M) :: r) := fun e he hp => by
  rcases List.mem_cons.1 he with rfl | he
  · exact q
  · exact h e he hp
theorem alle_f {p : List Bool → Bool} {Q : List Bool → List Blk → Prop} {b : List Bool} {M : List Blk} {r : MTbl} (hf : p b = false) (h : AllE p Q r) : AllE p Q ((b, M) :: r) := fun e he hp => by
  rcases List.mem_cons.1 he with rfl | he
  · have hp' : p b = true := hp
    rw [hf] at hp'; cases hp'
  · exact h e he hp

section
variable {P : Program} {c : Ctx} {t : Nat → AV} {m : List Blk} {Q : Exit → AS → Prop}

def GoodM (P : Program) (c : Ctx) (ops : Array Oper) (ws es : List Nat) (tbl : MTbl) (i : Nat) (t : Nat → AV) (o : Oper) (x : AV) : Prop :=
  (∃ md, Good1 P c md ops t o x ∧ AllE (consB ws es i) (fun _ M => Lift md M) tbl) ∨ AllE (consB ws es i) (fun _ M => Good1 P c M ops t o x) tbl
theorem GoodM.congr {ops : Array Oper} {ws es : List Nat} {tbl : MTbl} {i : Nat} {t t' : Nat → AV} {o : Oper} {x : AV} (h : GoodM P c ops ws es tbl i t o x) (ht : ∀ y ∈ o.looksAt ops, t y = t' y) : GoodM P c ops ws es tbl i t' o x := by
  rcases h with ⟨md, h1, h2⟩ | h
  · exact .inl ⟨md, h1.congr ht, h2⟩
  · exact .inr fun e he hp => (h e he hp).congr ht

/-- A region's operations in the text's order. -/
def DM (P : Program) (c : Ctx) (ops : Array Oper) (ws es : List Nat) (tbl : MTbl) (k : (Nat → AV) → Prop) : Nat → List Oper → (Nat → AV) → Prop
  | _, [], t => k t
  | i, o :: rest, t =>
    (es.contains i = false ∧ ∃ x d, o.dst = some d ∧ d < c.nt ∧ GoodM P c ops ws es tbl i t o x ∧ DM P c ops ws es tbl k (i + 1) rest (upd t d x)) ∨
    (∃ j x, es[j]? = some i ∧ GYes ops t o ∧ AllE (consB ws es i) (fun b M => ∃ M', look tbl (b.set j true) = some M' ∧ EffS P c ops t M M' o x) tbl ∧ (∀ d, o.dst = some d → d < c.nt) ∧
      DM P c ops ws es tbl k (i + 1) rest (match o.dst with | some d => upd t d x | none => t))

theorem DM.get {ops : Array Oper} {ws es : List Nat} {tbl : MTbl} {k : (Nat → AV) → Prop} : ∀ {l : List Oper} {i : Nat} {t : Nat → AV}, DM P c ops ws es tbl k i l t → (dsts l).Nodup → (∀ (q : Nat) (o : Oper), l[q]? = some o → ∀ y ∈ o.looksAt ops, y ∉ dsts (l.drop q)) →
    ∃ T, k T ∧ (∀ y, y ∉ dsts l → T y = t y) ∧ ∀ (q : Nat) (o : Oper), l[q]? = some o →
      (es.contains (i + q) = false ∧ ∃ d, o.dst = some d ∧ d < c.nt ∧ GoodM P c ops ws es tbl (i + q) T o (T d)) ∨
      (∃ j x, es[j]? = some (i + q) ∧ GYes ops T o ∧ AllE (consB ws es (i + q)) (fun b M => ∃ M', look tbl (b.set j true) = some M' ∧ EffS P c ops T M M' o x) tbl ∧ ∀ d, o.dst = some d → d < c.nt ∧ T d = x)
  | [], i, t, h, _, _ => ⟨t, h, fun _ _ => rfl, fun q o h => by simp at h⟩
  | o :: rest, i, t, h, hnd, hl => by
    have hlook : ∀ y ∈ o.looksAt ops, y ∉ dsts (o :: rest) := fun y hy => by simpa using hl 0 o rfl y hy
    have hlt : ∀ (q : Nat) (o' : Oper), rest[q]? = some o' → ∀ y ∈ o'.looksAt ops, y ∉ dsts (rest.drop q) := fun q o' h' y hy => by
      have := hl (q + 1) o' (by simpa using h') y hy
      simpa using this
    rcases h with ⟨hne, x, d, hd, hdn, hg, hr⟩ | ⟨j, x, h1, h6, h7, h8, hr⟩
    · have hds : dsts (o :: rest) = d :: dsts rest := by simp [dsts, hd]
      rw [hds] at hnd hlook
      have hnd' := List.nodup_cons.1 hnd
      obtain ⟨T, hk, hT, hG⟩ := DM.get hr hnd'.2 hlt
      have hTl : ∀ y ∈ o.looksAt ops, t y = T y := fun y hy => by
        have := hlook y hy
        simp only [List.mem_cons, not_or] at this
        rw [hT y this.2, upd_def, if_neg this.1]
      have hTd : T d = x := by rw [hT d hnd'.1, upd_def, if_pos rfl]
      refine ⟨T, hk, fun y hy => ?_, fun q o' h' => ?_⟩
      · rw [hds] at hy
        simp only [List.mem_cons, not_or] at hy
        rw [hT y hy.2, upd_def, if_neg hy.1]
      · cases q with
        | zero =>
          simp only [List.getElem?_cons_zero, Option.some.injEq] at h'
          subst h'
          exact .inl ⟨hne, d, hd, hdn, by rw [hTd]; exact hg.congr hTl⟩
        | succ q =>
          have := hG q o' (by simpa using h')
          rw [show i + 1 + q = i + (q + 1) by omega] at this
          exact this
    · have fin : ∀ {T : Nat → AV}, (∀ y ∈ o.looksAt ops, t y = T y) → AllE (consB ws es i) (fun b M => ∃ M', look tbl (b.set j true) = some M' ∧ EffS P c ops T M M' o x) tbl := fun hTl e he hp => by
        obtain ⟨M', h3, h4⟩ := h7 e he hp
        exact ⟨M', h3, h4.congr hTl⟩
      cases hd : o.dst with
      | none =>
        have hds : dsts (o :: rest) = dsts rest := by simp [dsts, hd]
        rw [hds] at hnd hlook
        rw [hd] at hr
        obtain ⟨T, hk, hT, hG⟩ := DM.get hr hnd hlt
        have hTl : ∀ y ∈ o.looksAt ops, t y = T y := fun y hy => (hT y (hlook y hy)).symm
        refine ⟨T, hk, fun y hy => hT y (by rw [hds] at hy; exact hy), fun q o' h' => ?_⟩
        cases q with
        | zero =>
          simp only [List.getElem?_cons_zero, Option.some.injEq] at h'
          subst h'
          exact .inr ⟨j, x, h1, h6.congr hTl, fin hTl, fun d h => by rw [hd] at h; cases h⟩
        | succ q =>
          have := hG q o' (by simpa using h')
          rw [show i + 1 + q = i + (q + 1) by omega] at this
          exact this
      | some d =>
        have hds : dsts (o :: rest) = d :: dsts rest := by simp [dsts, hd]
        rw [hds] at hnd hlook
        have hnd' := List.nodup_cons.1 hnd
        rw [hd] at hr
        obtain ⟨T, hk, hT0, hG⟩ := DM.get hr hnd'.2 hlt
        have hT : ∀ y, y ∉ dsts rest → T y = upd t d x y := hT0
        have hTl : ∀ y ∈ o.looksAt ops, t y = T y := fun y hy => by
          have := hlook y hy
          simp only [List.mem_cons, not_or] at this
          rw [hT y this.2, upd_def, if_neg this.1]
        have hTd : T d = x := by rw [hT d hnd'.1, upd_def, if_pos rfl]
        refine ⟨T, hk, fun y hy => ?_, fun q o' h' => ?_⟩
        · rw [hds] at hy
          simp only [List.mem_cons, not_or] at hy
          rw [hT y hy.2, upd_def, if_neg hy.1]
        · cases q with
          | zero =>
            simp only [List.getElem?_cons_zero, Option.some.injEq] at h'
            subst h'
            refine .inr ⟨j, x, h1, h6.congr hTl, fin hTl, fun d' h => ?_⟩
            rw [hd] at h
            cases h
            exact ⟨h8 d hd, hTd⟩
          | succ q =>
            have := hG q o' (by simpa using h')
            rw [show i + 1 + q = i + (q + 1) by omega] at this
            exact this

/-- A region that draws its order, its effects in whatever order the text leaves. -/
theorem cdraw_mD {l : List Oper} (es ws : List Nat) (tbl : MTbl) {last : List Blk} (hws : waitsL l [] = ws) (hok : okDrawC l.toArray = true) (hnd : es.Nodup) (hes : (es.all fun e => decide (e < l.length)) = true) (hfull : fullB ws es tbl = true) (h0 : look tbl (es.map fun _ => false) = some m) (hlast : look tbl (es.map fun _ => true) = some last)
    (h : DM P c l.toArray ws es tbl (fun T => Q .normal ⟨T, last⟩) 0 l t) : AWD P c Q l ⟨t, m⟩ := by
  subst hws
  have ok := drawOkC_of hok
  have hdn : (dsts l).Nodup := by
    have key : ∀ (k : List Oper) (n : Nat), (∀ i o, k[i]? = some o → l[n + i]? = some o) → (dsts k).Nodup := by
      intro k
      induction k with
      | nil => intro n _; exact List.nodup_nil
      | cons o r ih =>
        intro n hk
        have ih' := ih (n + 1) (fun i o' h' => by have := hk (i + 1) o' (by simpa using h'); rw [← this]; congr 1; omega)
        cases hd : o.dst with
        | none => simpa [dsts, hd] using ih'
        | some d =>
          have hds : dsts (o :: r) = d :: dsts r := by simp [dsts, hd]
          rw [hds]
          refine List.nodup_cons.2 ⟨fun hmem => ?_, ih'⟩
          unfold dsts at hmem
          rw [List.mem_filterMap] at hmem
          obtain ⟨p, hp, hpd⟩ := hmem
          obtain ⟨q, hq, hqp⟩ := List.getElem_of_mem hp
          have h1 := hk 0 o rfl
          have h2 := hk (q + 1) p (by simp [hq, hqp])
          exact ok.ne n o (n + (q + 1)) p (by simpa using h1) (by simpa using h2) (by omega) d hd hpd
    exact key l 0 (fun i o h => by simpa using h)
  obtain ⟨T, hQ, hTt, hG⟩ := DM.get h hdn (later ok)
  let B : Array Bool → List Blk := fun listed => (look tbl (bitsOf es listed)).getD []
  let HI : Array Bool → (Nat → Value) → Prop := fun listed _ => Closed l.toArray listed
  have hws : ∀ {listed : Array Bool}, Closed l.toArray listed → ∀ i, listed.getD i false = true → ∀ j, ((waitsL l []).getD i 0).testBit j = true → listed.getD j false = true := fun hc =>
    waitsL_ok hc l [] (fun i o h => by simpa using h) (fun i h => by simp at h)
  have huf : ∀ {listed : Array Bool} {i : Nat}, listed.size = l.toArray.size → i < l.length → listed.getD i true = false → listed.getD i false = false := by
    intro listed i hs hi h
    simp only [Array.getD_eq_getD_getElem?] at h ⊢
    rw [Array.getElem?_eq_getElem (by rw [hs]; simpa using hi)] at h ⊢
    exact h
  have hzip : ∀ {listed : Array Bool} {x : Nat × Bool}, x ∈ es.zip (bitsOf es listed) → x.2 = listed.getD x.1 false ∧ x.1 ∈ es := by
    intro listed x hx
    unfold bitsOf at hx
    rw [List.zip_map_right] at hx
    obtain ⟨y, hy, rfl⟩ := List.mem_map.1 hx
    obtain ⟨a, b⟩ := y
    have hab := zip_self_mem hy
    obtain ⟨rfl, hm⟩ := hab
    exact ⟨rfl, hm⟩
  have hclosed : ∀ {listed : Array Bool}, Closed l.toArray listed → closedB (waitsL l []) es (bitsOf es listed) = true := by
    intro listed hc
    unfold closedB
    rw [List.all_eq_true]
    intro x hx
    obtain ⟨h1, _⟩ := hzip hx
    cases hb : x.2 with
    | false => rfl
    | true =>
      simp only [Bool.not_true, Bool.false_or]
      rw [List.all_eq_true]
      intro y hy
      obtain ⟨h2, _⟩ := hzip hy
      cases hw : ((waitsL l []).getD x.1 0).testBit y.1 with
      | false => rfl
      | true =>
        rw [h1] at hb
        rw [h2, hws hc x.1 hb y.1 hw]
        rfl
  have hmem : ∀ {listed : Array Bool}, Closed l.toArray listed → (bitsOf es listed, B listed) ∈ tbl := by
    intro listed hc
    have hf := (List.all_eq_true.1 hfull) (bitsOf es listed) (mem_allBits (by simp [bitsOf]))
    rw [hclosed hc] at hf
    simp only [Bool.not_true, Bool.false_or, Option.isSome_iff_exists] at hf
    obtain ⟨M, hM⟩ := hf
    have : B listed = M := by show (look tbl (bitsOf es listed)).getD [] = M; rw [hM]; rfl
    rw [this]
    exact look_mem hM
  have hcons : ∀ {listed : Array Bool} {i : Nat} {o : Oper}, Closed l.toArray listed → l[i]? = some o → Met listed o → listed.getD i false = false → consB (waitsL l []) es i (bitsOf es listed) = true := by
    intro listed i o hc ho hmt hun
    unfold consB
    rw [List.all_eq_true]
    intro x hx
    obtain ⟨h1, _⟩ := hzip hx
    rw [Bool.and_eq_true, Bool.or_eq_true, Bool.or_eq_true]
    constructor
    · cases hw : ((waitsL l []).getD i 0).testBit x.1 with
      | false => exact .inl rfl
      | true =>
        right
        rw [h1]
        exact waits_met (ops := l.toArray) hc (i := i) (o := o) (by simpa using ho) hmt (j := x.1) hw
    · cases hb : x.2 with
      | false => exact .inr rfl
      | true =>
        left
        rw [h1] at hb
        simp only [Bool.not_eq_true', Bool.or_eq_false_iff]
        constructor
        · cases he : (x.1 == i) with
          | false => rfl
          | true =>
            have : x.1 = i := by simpa using he
            rw [this, hun] at hb; cases hb
        · cases hw : ((waitsL l []).getD x.1 0).testBit i with
          | false => rfl
          | true =>
            have := hws hc x.1 hb i hw
            rw [hun] at this; cases this
  have hbsame : ∀ {listed : Array Bool} {i : Nat}, es.contains i = false → bitsOf es (listed.setIfInBounds i true) = bitsOf es listed := by
    intro listed i hi
    unfold bitsOf
    refine List.map_congr_left fun e he => ?_
    have : i ≠ e := fun e' => by subst e'; have : es.contains i = true := by simpa using he
                                 rw [hi] at this; cases this
    simp only [Array.getD_eq_getD_getElem?, Array.getElem?_setIfInBounds_ne this]
  have hlk : ∀ {i : Nat} {o : Oper}, l.toArray[i]? = some o → l[i]? = some o ∧ i < l.length := fun {i o} h => by
    have h' : l[i]? = some o := by simpa using h
    exact ⟨h', (List.getElem?_eq_some_iff.1 h').1⟩
  refine draw_open (T := T) (B := B) (HI := HI) ok (fun i o ho => ?_) hTt (fun a w S H r => ⟨H, ?_, ?_⟩) (fun listed hs hl => ?_)
  · obtain ⟨ho', hil⟩ := hlk ho
    rcases hG i o ho' with ⟨hne, d, hd, hdn, hg⟩ | ⟨j, x, h1, h5, h6, h7⟩
    · rw [Nat.zero_add] at hne hg
      refine .inl fun listed H hs hun hmt hc => ?_
      have hBs : B (listed.setIfInBounds i true) = B listed := by
        show (look tbl (bitsOf es (listed.setIfInBounds i true))).getD [] = _
        rw [hbsame hne]
      have hm := hmem hc
      have hcs := hcons hc ho' hmt (huf hs hil hun)
      rcases hg with ⟨md, hg, hmd⟩ | hg
      · exact ⟨md, ⟨d, hd, hdn, hg⟩, hmd _ hm hcs, hBs, hc.set ho hmt⟩
      · exact ⟨B listed, ⟨d, hd, hdn, hg _ hm hcs⟩, Lift.refl _, hBs, hc.set ho hmt⟩
    · rw [Nat.zero_add] at h1 h6
      refine .inr ⟨h5, fun listed hs hun hmt a w S H r hc K Qn hK => ?_⟩
      have hm := hmem hc
      have hcs := hcons hc ho' hmt (huf hs hil hun)
      obtain ⟨M', hM', h6⟩ := h6 _ hm hcs
      have hbits : bitsOf es (listed.setIfInBounds i true) = (bitsOf es listed).set j true := by
        refine List.ext_getElem? fun q => ?_
        unfold bitsOf
        rw [List.getElem?_map, List.getElem?_set, List.length_map, List.getElem?_map]
        have hjl := (List.getElem?_eq_some_iff.1 h1).1
        by_cases e : j = q
        · subst e
          rw [if_pos rfl, if_pos hjl, h1]
          simp only [Option.map_some, Option.some.injEq, Array.getD_eq_getD_getElem?]
          rw [Array.getElem?_setIfInBounds_self_of_lt (by rw [hs]; simpa using hil)]
          rfl
        · rw [if_neg e]
          cases hq : es[q]? with
          | none => rfl
          | some e' =>
            have hne : i ≠ e' := fun e'' => by
              subst e''
              have hql := (List.getElem?_eq_some_iff.1 hq).1
              have h8 := (List.getElem?_eq_some_iff.1 hq).2
              have h9 := (List.getElem?_eq_some_iff.1 h1).2
              exact e ((List.getElem_inj hnd).1 (h9.trans h8.symm))
            simp only [Option.map_some, Option.some.injEq, Array.getD_eq_getD_getElem?]
            rw [Array.getElem?_setIfInBounds_ne hne]
      have hB2 : B (listed.setIfInBounds i true) = M' := by
        show (look tbl (bitsOf es (listed.setIfInBounds i true))).getD [] = M'
        rw [hbits, hM']
        rfl
      have hlook := TL_look (T := T) ok hs ho hmt
      have hmix : mix T (o.looksAt l.toArray) (TL l.toArray T listed) = TL l.toArray T listed := by
        funext y
        unfold mix
        cases hc' : (o.looksAt l.toArray).contains y with
        | false => rfl
        | true => exact (hlook y (by simpa using hc')).symm
      have heff := h6 (TL l.toArray T listed)
      rw [hmix] at heff
      have hw := heff a w S H r
      unfold wpList at hw
      rw [if_pos (by rfl)] at hw
      rcases hw with hw | ⟨_, a', w', st', S', H', _, he, _⟩
      · refine oper_mono (P := P) (o := o) ?_ ?_ (show o.wp P a w _ _ from hw)
        · rintro a' w' ⟨st', S', H', r', _, rfl⟩
          refine hK a' w' S' H' ?_ (hc.set ho hmt)
          rw [hB2]
          cases hd : o.dst with
          | none =>
            rw [hd] at r'
            rw [← TL_set_none ho hd]
            exact r'
          | some d =>
            rw [hd] at r'
            rw [← TL_set (T := T) ok hs ho hun hd, (h7 d hd).2]
            exact r'
        · rintro e a' w' hne ⟨st', S', H', r', he, _⟩
          exact absurd he hne
      · cases he
  · have : B (Array.replicate l.toArray.size false) = m := by
      have e1 : bitsOf es (Array.replicate l.toArray.size false) = es.map fun _ => false := by
        unfold bitsOf
        refine List.map_congr_left fun e _ => ?_
        simp only [Array.getD_eq_getD_getElem?, Array.getElem?_replicate]
        split <;> rfl
      show (look tbl (bitsOf es (Array.replicate l.toArray.size false))).getD [] = m
      rw [e1, h0]
      rfl
    rw [this]
    exact r
  · intro i o _ hl
    simp only [Array.getD_eq_getD_getElem?, Array.getElem?_replicate] at hl
    split at hl <;> simp at hl
  · have hin : ∀ e ∈ es, e < l.length := fun e he => by simpa using List.all_eq_true.1 hes e he
    have e1 : bitsOf es listed = es.map fun _ => true := by
      unfold bitsOf
      refine List.map_congr_left fun e he => ?_
      have h1 := hl e (by simpa using hin e he)
      have h2 : e < listed.size := by rw [hs]; simpa using hin e he
      simp only [Array.getD_eq_getD_getElem?, Array.getElem?_eq_getElem h2, Option.getD_some] at h1 ⊢
      exact h1
    have : B listed = last := by
      show (look tbl (bitsOf es listed)).getD [] = last
      rw [e1, hlast]
      rfl
    rw [this]
    exact hQ
theorem cdraw_m {id : Nat} {l : List Oper} (es ws : List Nat) (tbl : MTbl) {last : List Blk} (hws : waitsL l [] = ws) (hm : P.follows .mixedOrders = true) (hok : okDrawC l.toArray = true) (hnd : es.Nodup) (hes : (es.all fun e => decide (e < l.length)) = true) (hfull : fullB ws es tbl = true) (h0 : look tbl (es.map fun _ => false) = some m) (hlast : look tbl (es.map fun _ => true) = some last)
    (h : DM P c l.toArray ws es tbl (fun T => Q .normal ⟨T, last⟩) 0 l t) : AWC P c (.region id l.toArray true) Q ⟨t, m⟩ := (cdraw_mD es ws tbl hws hok hnd hes hfull h0 hlast h).awc hm

/-! The walk's rules -/
variable {ops : Array Oper} {ws es : List Nat} {tbl : MTbl} {k : (Nat → AV) → Prop} {rest : List Oper} {op : Op} {ty : TypeId} {pos : String} {af : Array Edge} {d : Tmp} {x : AV} {i : Nat}
theorem mlift {md : List Blk} (h : AllE (consB ws es i) (fun _ M => LiftL md M) tbl) : AllE (consB ws es i) (fun _ M => Lift md M) tbl := fun e he hp => lift_of (h e he hp)
theorem mnil2 (h : k t) : DM P c ops ws es tbl k i [] t := h
theorem mev {md : List Blk} (hs : AllE (consB ws es i) (fun _ M => LiftL md M) tbl) (hi : es.contains i = false) (hd : decide (d < c.nt) = true) (h : OpV P c ⟨restr t (Oper.looksAt ops ⟨some d, op, ty, pos, af, none⟩), md⟩ op ty x) (kk : DM P c ops ws es tbl k (i + 1) rest (upd t d x)) : DM P c ops ws es tbl k i (⟨some d, op, ty, pos, af, none⟩ :: rest) t :=
  .inl ⟨hi, x, d, rfl, of_decide_eq_true hd, .inl ⟨md, .inl ⟨.inl rfl, h.opD⟩, mlift hs⟩, kk⟩
theorem med {md : List Blk} (hs : AllE (consB ws es i) (fun _ M => LiftL md M) tbl) (hi : es.contains i = false) (hd : decide (d < c.nt) = true) (h : OpD P c ⟨restr t (Oper.looksAt ops ⟨some d, op, ty, pos, af, none⟩), md⟩ op ty x) (kk : DM P c ops ws es tbl k (i + 1) rest (upd t d x)) : DM P c ops ws es tbl k i (⟨some d, op, ty, pos, af, none⟩ :: rest) t :=
  .inl ⟨hi, x, d, rfl, of_decide_eq_true hd, .inl ⟨md, .inl ⟨.inl rfl, h⟩, mlift hs⟩, kk⟩
theorem mem2 (hi : es.contains i = false) (hd : decide (d < c.nt) = true) (h : ∀ md, OpV P c ⟨restr t (Oper.looksAt ops ⟨some d, op, ty, pos, af, none⟩), md⟩ op ty x) (kk : DM P c ops ws es tbl k (i + 1) rest (upd t d x)) : DM P c ops ws es tbl k i (⟨some d, op, ty, pos, af, none⟩ :: rest) t :=
  .inl ⟨hi, x, d, rfl, of_decide_eq_true hd, .inr fun _ _ _ => .inl ⟨.inl rfl, (h _).opD⟩, kk⟩
theorem mee (j : Nat) (he : es[j]? = some i) (hd : decide (d < c.nt) = true)
    (h : AllE (consB ws es i) (fun b M => ∃ M', look tbl (b.set j true) = some M' ∧ ∀ ζ, AWL P c ops (fun e st => e = .normal ∧ st = ⟨upd (mix t (Oper.looksAt ops ⟨some d, op, ty, pos, af, none⟩) ζ) d x, M'⟩) [⟨some d, op, ty, pos, af, none⟩] ⟨mix t (Oper.looksAt ops ⟨some d, op, ty, pos, af, none⟩) ζ, M⟩) tbl)
    (kk : DM P c ops ws es tbl k (i + 1) rest (upd t d x)) : DM P c ops ws es tbl k i (⟨some d, op, ty, pos, af, none⟩ :: rest) t :=
  .inr ⟨j, x, he, .inl rfl, h, fun d' h' => by cases h'; exact of_decide_eq_true hd, kk⟩
theorem mee0 (j : Nat) (he : es[j]? = some i)
    (h : AllE (consB ws es i) (fun b M => ∃ M', look tbl (b.set j true) = some M' ∧ ∀ ζ, AWL P c ops (fun e st => e = .normal ∧ st = ⟨mix t (Oper.looksAt ops ⟨none, op, ty, pos, af, none⟩) ζ, M'⟩) [⟨none, op, ty, pos, af, none⟩] ⟨mix t (Oper.looksAt ops ⟨none, op, ty, pos, af, none⟩) ζ, M⟩) tbl)
    (kk : DM P c ops ws es tbl k (i + 1) rest t) : DM P c ops ws es tbl k i (⟨none, op, ty, pos, af, none⟩ :: rest) t :=
  .inr ⟨j, .top, he, .inl rfl, h, (fun d' h' => by cases h'), kk⟩
end
end Go.Proofs.Ytmkcigfeebippaa.Abs

/-
  An iterator's round that lays a block of its own, and forgets it ahead of yield.
-/
namespace Go.Proofs.Ytmkcigfeebippaa.Abs
open Go.RowKit

/-- A state whose blocks were laid since K was known. -/
def AWYc (P : Program) (nt : Nat) (w0 : World) (S0 : Stab) (x : Code) (Q : Exit → (Nat → AV) → YK → Prop) (K : YK) (st : AS) : Prop :=
  NoOutY Q → ∀ a w S H, Rel (Ctx.of w0 S0 nt) st a w S H → K w0 S0 → x.wpIn Fence.wide 0 P (QY nt Q) a w
/-- What is left known when the blocks are forgotten. -/
def Forget (st : AS) (sl : List (Nat × AV)) : Prop := MatchL st.t sl ∧ InbL 0 sl
theorem Rel.forget {c : Ctx} {st : AS} {a : Act} {w : World} {S : Stab} {H : Nat → Value} (r : Rel c st a w S H) (hc : c.m0 = []) {sl : List (Nat × AV)} (h : Forget st sl) : Rel c ⟨updL (fun _ => .top) sl, []⟩ a w S H := by
  have r' : Rel c ⟨st.t, [] ++ st.m⟩ a w S H := r
  exact r'.trim (updL_match h.1 h.2) (fun b hb => by cases hb) (by rw [hc]; exact Nat.zero_le _)

section
variable {P : Program} {nt : Nat} {Q : Exit → (Nat → AV) → YK → Prop} {K : YK} {t : Nat → AV}

/-- Operations that call no yield, ahead of more; the blocks are forgotten behind them. -/
theorem ycl_of {w0 : World} {S0 : Stab} {st : AS} {ops : Array Oper} {l1 l2 : List Oper} (hK : YExt K) (hnd : l1.all ndf = true)
    (h : AWL P (Ctx.of w0 S0 nt) ops (fun e st => e = .normal ∧ ∃ sl, Forget st sl ∧ AWLY P nt ops Q K l2 (updL (fun _ => .top) sl)) l1 st) (hn : NoOutY Q) (a : Act) (w : World) (S : Stab) (H : Nat → Value) (r : Rel (Ctx.of w0 S0 nt) st a w S H) (hk : K w0 S0) : wpListIn Fence.wide 0 P ops (QY nt Q) (l1 ++ l2) a w := by
  refine wpListIn_append l1 a w ?_
  have h1 := wpList_in (rd := none) (ds := []) (Q1 := QR (Ctx.of w0 S0 nt) (fun e st => e = .normal ∧ ∃ sl, Forget st sl ∧ AWLY P nt ops Q K l2 (updL (fun _ => .top) sl))) (Q2 := Exit.then (wpListIn Fence.wide 0 P ops (QY nt Q) l2) (QY nt Q)) ?_ ?_ ?_ l1 hnd a w (h a w S H r)
  · rw [dsl_same r.df] at h1
    exact h1
  · rintro ⟨a, w, st, S, H, _, h, _⟩; cases h
  · rintro e a w ⟨st, S, H, r, _⟩; exact r.df
  · rintro e a' w' ⟨st', S', H', r', rfl, sl, hf, h⟩
    rw [dsl_same r'.df]
    exact h hn a' w' S' H' ((r'.forget rfl hf).here rfl) (hK _ _ _ _ hk (r'.ex.toExt (fun _ h => h)) r'.sl)
theorem yc_region {w0 : World} {S0 : Stab} {st : AS} {id : Nat} {l1 l2 : List Oper} (hK : YExt K) (hnd : l1.all ndf = true)
    (h : AWL P (Ctx.of w0 S0 nt) (l1 ++ l2).toArray (fun e st => e = .normal ∧ ∃ sl, Forget st sl ∧ AWLY P nt (l1 ++ l2).toArray Q K l2 (updL (fun _ => .top) sl)) l1 st) : AWYc P nt w0 S0 (.region id (l1 ++ l2).toArray false) Q K st :=
  fun hn a w S H r hk => wpIn_region_lit (ycl_of hK hnd h hn a w S H r hk)
theorem yc_seq {w0 : World} {S0 : Stab} {st : AS} {x y : Code} (h : AWYc P nt w0 S0 x (thenY (fun t K => AWY P nt y Q K t) Q) K st) : AWYc P nt w0 S0 (.seq x y) Q K st := by
  intro hn a w S H r hK
  refine wpIn_seq (wpIn_mono (h (fun t K hs => hn t K hs) a w S H r hK) ?_)
  rintro e a w ⟨t, S, H, K, r, hK, hq⟩
  cases e with
  | normal => exact hq hn a w S H r hK
  | _ => exact ⟨t, S, H, K, r, hK, hq⟩
/-- A region that lays blocks, and what follows while they are known. -/
theorem yc_first {id : Nat} {l : List Oper} {y : Code} (hnd : l.all ndf = true) (h : ∀ w0 S0, AWL P (Ctx.of w0 S0 nt) l.toArray (fun e st => e = .normal ∧ AWYc P nt w0 S0 y Q K st) l ⟨t, []⟩) : AWY P nt (.seq (.region id l.toArray false) y) Q K t := by
  intro hn a w S H r hk
  refine wpIn_seq (wpIn_region_lit ?_)
  have h1 := wpList_in (rd := none) (ds := []) (Q1 := QR (Ctx.of w S nt) (fun e st => e = .normal ∧ AWYc P nt w S y Q K st)) (Q2 := Exit.then (y.wpIn Fence.wide 0 P (QY nt Q)) (QY nt Q)) ?_ ?_ ?_ l hnd a w (h w S a w S H r)
  · rw [dsl_same r.df] at h1
    exact h1
  · rintro ⟨a, w, st, S, H, _, h, _⟩; cases h
  · rintro e a w ⟨st, S, H, r, _⟩; exact r.df
  · rintro e a' w' ⟨st', S', H', r', rfl, h⟩
    rw [dsl_same r'.df]
    exact h hn a' w' S' H' r' hk

/-- An operation whose guard is known to hold is wanted. -/
theorem wanted_on {ops : Array Oper} {o : Oper} {j : Nat} {want : Bool} {dj : Tmp} (hj : (ops[j]?).bind (·.dst) = some dj) (ht : t dj = .s (.one (.b want))) (hg : o.guard = some (j, want)) (hn : decide (dj < nt) = true) (a : Act) (w : World) (S : Stab) (H : Nat → Value) (r : Rel (Ctx.of w S nt) ⟨t, []⟩ a w S H) : Region.wanted o (yielded ops a.tmps) = true := by
  have hr := r.tm dj
  have hr1 : AVR (GRep w S [] H) (t dj) (a.tmps.getD dj undef) := hr
  rw [ht] at hr1
  have hv : a.tmps.getD dj undef = .bool want := by
    have hr' : Rep w S (.b want) (a.tmps.getD dj undef) := hr1
    generalize a.tmps.getD dj undef = u at hr'
    cases hr'
    rfl
  have hs : a.tmps[dj]? = some (.bool want) := by
    have hd' : dj < a.tmps.size := by rw [r.nt]; exact of_decide_eq_true hn
    simp only [Array.getD_eq_getD_getElem?, Array.getElem?_eq_getElem hd', Option.getD_some] at hv
    rw [Array.getElem?_eq_getElem hd', hv]
  simp only [Region.wanted, hg, yielded, hj, Option.bind_some, hs, beq_self_eq_true]
end

/-- A row literal that holds nil. -/
theorem newArr_canon {P : Program} {c : Ctx} {st : AS} {op : Op} {ty : TypeId} {e sz n : Nat} {cs : List Lf} (h : NewArr P c st op ty e sz n cs) : NewArr P c st op ty e sz n (cs.map Lf.canon) := by
  intro a w S H r
  obtain ⟨v, w', vals, hrun, hext, hin, hown, hls⟩ := h a w S H r
  exact ⟨v, w', vals, hrun, hext, hin, hown, lsR_canon hls⟩
theorem opD_bldc {P : Program} {c : Ctx} {st : AS} {ty : TypeId} {t e sz bytes len : Nat} {zl out out' : List Lf} {parts : Array (Nat × Operand)} {xs : List (Nat × SV)} (si : P.underlying t = some (.slice e)) (ei : EI P e sz bytes zl) (hp : Parts st parts.toList xs)
    (hb : Built (fun i : Nat => some (i * sz, sz)) (mkLs zl (len * sz)) xs out) (hout : out.all Lf.pubd = true) (hlen : len * sz ≤ 16777216) (he : out.map Lf.canon = out') : OpD P c st (.buildSlice t len parts) ty (.s (.one (.sl len out'))) :=
  he ▸ opD_newArr ei.p (newArr_canon (newArr_build si ei hp hb (List.all_eq_true.1 hout) hlen))

/-- A region that draws its order, in code with marks. -/
theorem idraw {rd : Option Nat} {P : Program} {c : Ctx} {ok : FrK → Prop} {Q : Exit → AS → Prop} {t : Nat → AV} {m : List Blk} {id : Nat} {l : List Oper} (hm : P.follows .mixedOrders = true) (hnd : l.all ndf = true)
    (h : ∀ w0 S0 X m0 H0, AWD P ⟨w0, S0, c.nt, X, m0, H0⟩ Q l ⟨t, m⟩) : AWI rd P c ok (.region id l.toArray true) Q ⟨t, m⟩ :=
  idraw_any hm hnd (fun w0 S0 X m0 H0 => h w0 S0 X m0 H0)

section
variable {P : Program} {c : Ctx} {ops : Array Oper} {ws es : List Nat} {tbl : MTbl} {k : (Nat → AV) → Prop} {t : Nat → AV} {rest : List Oper} {op : Op} {ty : TypeId} {pos : String} {af : Array Edge} {d : Tmp} {x : AV} {i : Nat}
/-- An operation told for each memory that it may meet. -/
theorem mevA (hi : es.contains i = false) (hd : decide (d < c.nt) = true) (h : AllE (consB ws es i) (fun _ M => OpV P c ⟨restr t (Oper.looksAt ops ⟨some d, op, ty, pos, af, none⟩), M⟩ op ty x) tbl) (kk : DM P c ops ws es tbl k (i + 1) rest (upd t d x)) : DM P c ops ws es tbl k i (⟨some d, op, ty, pos, af, none⟩ :: rest) t :=
  .inl ⟨hi, x, d, rfl, of_decide_eq_true hd, .inr fun e he hp => .inl ⟨.inl rfl, (h e he hp).opD⟩, kk⟩
theorem medA (hi : es.contains i = false) (hd : decide (d < c.nt) = true) (h : AllE (consB ws es i) (fun _ M => OpD P c ⟨restr t (Oper.looksAt ops ⟨some d, op, ty, pos, af, none⟩), M⟩ op ty x) tbl) (kk : DM P c ops ws es tbl k (i + 1) rest (upd t d x)) : DM P c ops ws es tbl k i (⟨some d, op, ty, pos, af, none⟩ :: rest) t :=
  .inl ⟨hi, x, d, rfl, of_decide_eq_true hd, .inr fun e he hp => .inl ⟨.inl rfl, h e he hp⟩, kk⟩
end

/-- Ways that meet behind a loop at a block's end. -/
theorem cjoinb {P : Program} {c : Ctx} {id : Nat} {x y : Code} {Q Q' : Exit → AS → Prop} {st : AS} (G : Type) (sl : G → List (Nat × AV)) (mm : G → List Blk) (pre : G → Prop) (hin : ∀ g, pre g → InbL (mm g).length (sl g)) (hmin : ∀ g, pre g → ∀ b ∈ mm g, b.inb (mm g).length) (hk : ∀ g, pre g → c.m0.length ≤ (mm g).length)
    (hy : ∀ g, pre g → AWC P c y Q ⟨updL (fun _ => .top) (sl g), mm g⟩) (hx : AWC P c x (inBlockA id (thenA (Meet sl mm pre) Q')) st) : AWC P c x (inBlockA id (thenA (AWC P c y Q) Q')) st := by
  refine hx.mono fun e st h => ?_
  cases e with
  | normal => exact meet_go h hin hmin hk hy
  | exit id' =>
    simp only [inBlockA] at h ⊢
    split
    · rename_i he
      rw [if_pos he] at h
      exact meet_go h hin hmin hk hy
    · rename_i he
      rw [if_neg he] at h
      exact h
  | _ => exact h
end Go.Proofs.Ytmkcigfeebippaa.Abs

