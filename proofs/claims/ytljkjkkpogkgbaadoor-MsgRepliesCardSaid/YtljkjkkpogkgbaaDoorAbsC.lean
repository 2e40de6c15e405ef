/-
  A walk over abstract states: its rules, part C.
-/
import Derived.Test.YtljkjkkpogkgbaaDoorAbsB
import Derived.Laws.StructEq
import Derived.ProofKit
import Derived.LaidMore
import Derived.OpenShut
import Derived.MakeChecks
/-
  The builtin copy into an own row; an own row that takes another one's place.
-/
namespace Go.Proofs.YtljkjkkpogkgbaaDoor.Abs
open Go.RowKit

theorem run_copy_any {P : Program} (w : World) (dT sT ty elem : TypeId) (g n m q dCap sCap sz : Nat) (ad : Option Addr) (cur : Array Value) (t : TypeId) (cs : List Value)
    (hu : P.underlying dT = some (.slice elem)) (hs : (P.info? elem).map (·.size) = some sz)
    (hg : w.heap[g]? = some (.cells cur t (0, 0))) (hq : Nat.min m n = q)
    (hsrc : (Builtin.firstCells sz q (.slice ad m sCap)).run P w = .ok cs.toArray w) (hfit : cs.length ≤ cur.size) (h1 : ∀ v ∈ cs, v.oneCell' = true) :
    (Builtin.copy_ #[dT, sT] ty #[.slice (some ⟨g, 0, none⟩) n dCap, .slice ad m sCap]).run P w =
      .ok (goInt (q : Nat)) (w.setRow g (cs ++ cur.toList.drop cs.length).toArray) := by
  have hst := run_storeCells_at P g 0 t cs 0 cur w hg (by simpa using hfit) h1
  simp only [Nat.zero_add, List.take_zero, List.nil_append] at hst
  cases hi0 : P.info? elem with
  | none => simp [hi0] at hs
  | some i =>
    have hi : i.size = sz := by simpa [hi0] using hs
    simp [Builtin.copy_, run_underlying hu, Builtin.lenOf, sizeOf, typeInfo, hi0, hi, hq, hsrc, hst]

theorem Rel.copy {P : Program} {c : Ctx} {st : AS} {a : Act} {w : World} {S : Stab} {H : Nat → Value} (r : Rel c st a w S H) {t t2 ty e sz p n m : Nat} {cs ys : List Lf} {y : Value}
    (ht : P.underlying t = some (.slice e)) (hi : (P.info? e).map (·.size) = some sz) (hm : st.m[p]? = some (.arr e sz 0 cs)) (hn : n * sz = cs.length) (hy : Rep w S (.sl m ys) y) (hyl : ys.length = m * sz) :
    ∃ w', (Builtin.copy_ #[t, t2] ty #[H p, y]).run P w = .ok (goInt (Nat.min m n : Nat)) w' ∧ Rel c ⟨st.t, st.m.set p (.arr e sz 0 (ys.take (Nat.min m n * sz) ++ cs.drop (Nat.min m n * sz)))⟩ a w' S H := by
  have hp : p < st.m.length := (List.getElem?_eq_some_iff.1 hm).1
  obtain ⟨hsz, hk, n0, vals, hown, hcs, hstb⟩ := r.bl p _ hm
  have hnn : n0 = n := ownsRow_n hown hsz (by rw [← hcs.1]; exact hn)
  subst hnn
  have hset : setH H p (H p) = H := by
    funext q
    by_cases e' : q = p
    · rw [e', setH_same]
    · exact setH_other H _ e'
  have hqm : Nat.min m n0 ≤ m := Nat.min_le_left _ _
  have hqn : Nat.min m n0 ≤ n0 := Nat.min_le_right _ _
  generalize hq : Nat.min m n0 = q at *
  have hqm' : q * sz ≤ m * sz := Nat.mul_le_mul_right _ hqm
  have hqn' : q * sz ≤ n0 * sz := Nat.mul_le_mul_right _ hqn
  -- the source's first cells
  have hsrc : ∃ ad cap news, y = .slice ad m cap ∧ news.length = q * sz ∧ (Builtin.firstCells sz q (.slice ad m cap)).run P w = .ok news.toArray w ∧ LsR (Rep w S) (ys.take (q * sz)) news := by
    cases hy with
    | sl0 ad cap =>
      have h0 : q = 0 := by omega
      subst h0
      refine ⟨ad, cap, [], rfl, by simp, ?_, by simp, fun j l v h => by simp at h⟩
      cases ad <;> simp [Builtin.firstCells, loadCells, loadCellsFrom]
    | sl m ys bk off cap vs hc hmx hs hr =>
      refine ⟨_, cap, (List.range (q * sz)).map vs, rfl, by simp, ?_, by rw [List.length_take, List.length_map, List.length_range, hyl]; exact Nat.min_eq_left hqm', fun j l u h1 h2 => ?_⟩
      · refine run_firstCells_some w sz q ⟨bk, off, none⟩ m cap _ (by simp) (fun j v hj => ?_)
        rw [List.getElem?_map] at hj
        have hjl : j < q * sz := by
          rcases Nat.lt_or_ge j (q * sz) with h | h
          · exact h
          · rw [List.getElem?_eq_none (by simpa using h)] at hj; cases hj
        rw [List.getElem?_range hjl] at hj
        cases hj
        rw [Addr.add_lit]
        exact (hs j _ (List.getElem?_eq_getElem (by omega))).2
      · rw [List.getElem?_take] at h1
        split at h1
        · rename_i hjl
          rw [List.getElem?_map, List.getElem?_range hjl] at h2
          cases h2
          exact hr j l h1
        · cases h1
  obtain ⟨ad, cap, news, rfl, hnl, hfc, hls⟩ := hsrc
  have hone : ∀ u ∈ news, u.oneCell' = true := by
    intro u hu
    obtain ⟨j, hj, hju⟩ := List.getElem_of_mem hu
    have hj' : j < (ys.take (q * sz)).length := by rw [hls.1]; exact hj
    exact Rep.oneCell (hls.2 j _ u (List.getElem?_eq_getElem hj') (by rw [List.getElem?_eq_getElem hj, hju]))
  rcases hown.2 with ⟨hv, h0⟩ | ⟨g, cp, cur, hv, hbg, hg, hnc, hcm, hcsz, htake⟩
  · subst h0
    have hq0 : q = 0 := by omega
    subst hq0
    have hn0 : news = [] := List.eq_nil_of_length_eq_zero (by rw [hnl, Nat.zero_mul])
    subst hn0
    have hsame : st.m.set p (.arr e sz 0 (ys.take (0 * sz) ++ cs.drop (0 * sz))) = st.m := by
      rw [Nat.zero_mul, List.take_zero, List.drop_zero, List.nil_append]
      apply List.ext_getElem?
      intro j
      by_cases e' : p = j
      · subst e'; rw [List.getElem?_set_self hp, hm]
      · rw [List.getElem?_set_ne e']
    refine ⟨w, ?_, by rw [hsame]; exact r⟩
    rw [hv]
    cases hq' : P.info? e with
    | none => simp [hq'] at hi
    | some i =>
      have hi' : i.size = sz := by simpa [hq'] using hi
      simp [Builtin.copy_, run_underlying ht, Builtin.lenOf, sizeOf, typeInfo, hq', hi', hfc, hq]
  · have hrun := run_copy_any (P := P) w t t2 ty e g n0 m q cp cap sz ad cur e news ht hi hg hq hfc (by
      have := hown.1
      have h3 := congrArg List.length htake
      rw [List.length_take, Array.length_toList] at h3
      omega) hone
    have hrow := setRow_heap w g cur (news ++ cur.toList.drop news.length).toArray e _ hg
    have hoth : ∀ b, b ≠ g → (w.setRow g (news ++ cur.toList.drop news.length).toArray).heap[b]? = w.heap[b]? := fun b hb => setRow_other w g b _ hb
    have hownp : (Blk.arr e sz 0 cs).own (H p) = some g := by rw [hv]; rfl
    have hkeep : ∀ b j, S b j → S b j ∧ (w.setRow g (news ++ cur.toList.drop news.length).toArray).cell? ⟨b, j, none⟩ = w.cell? ⟨b, j, none⟩ := by
      intro b j hS
      refine ⟨hS, ?_⟩
      by_cases hbg' : b = g
      · subst hbg'
        exact absurd (r.sb p _ b j hm hownp hS) (Nat.not_lt_zero _)
      · exact World.cell?_of_block (w := w) (hoth b hbg')
    have hvl : vals.length = n0 * sz := hown.1
    have hown' : (w.setRow g (news ++ cur.toList.drop news.length).toArray).ownsRow 0 e sz (H p) n0 (news ++ vals.drop (q * sz)) := by
      refine ⟨by rw [List.length_append, hnl, List.length_drop, hvl]; omega, .inr ⟨g, cp, _, hv, hbg, hrow, hnc, hcm, ?_, ?_⟩⟩
      · have := Nat.mul_le_mul_right sz hnc
        simp only [List.size_toArray, List.length_append, List.length_drop, Array.length_toList, hnl]; omega
      · simp only [List.length_append, List.length_drop, hnl, hvl]
        rw [List.take_append, hnl]
        have hq1 : news.take (n0 * sz) = news := List.take_of_length_le (by rw [hnl]; omega)
        rw [hq1, ← htake, List.drop_take]
    refine ⟨_, by rw [hv]; exact hrun, ?_⟩
    have hch := r.change (m' := st.m.set p (.arr e sz 0 (ys.take (q * sz) ++ cs.drop (q * sz)))) (p := p) (b' := .arr e sz 0 (ys.take (q * sz) ++ cs.drop (q * sz))) (v := H p) (w' := w.setRow g (news ++ cur.toList.drop news.length).toArray) (S' := S)
      (by simp) (by rw [List.getElem?_set_self hp]) (fun j hj => List.getElem?_set_ne (fun e => hj e.symm)) hkeep (fun _ _ _ => rfl)
      (fun e' sz' k' cs' _ h => by cases h; exact ⟨0, cs, hm, .inl ⟨by rw [List.length_append, List.length_take, List.length_drop, hyl]; omega, rfl⟩⟩)
      (fun g' _ hne => hoth g' (fun e' => hne _ hm (by rw [e']; exact hownp))) ?_ (fun g' hg' => ?_) (fun _ _ _ _ _ _ _ hs => hs) (fun _ _ _ _ hs => hs) ⟨fun b j hs => by simp; exact r.sl.1 b j hs, r.sl.2.mono hkeep⟩ (by simp) rfl rfl rfl
    · rw [hset] at hch; exact hch
    · rw [hset]
      refine ⟨hsz, Nat.zero_le _, n0, news ++ vals.drop (q * sz), hown', ?_, fun g' _ j hj => absurd hj (Nat.not_lt_zero _)⟩
      refine (LsR.append hls (y := vals.drop (q * sz)) (b := cs.drop (q * sz)) ⟨by rw [List.length_drop, List.length_drop, hcs.1], fun j l v h1 h2 => ?_⟩).mono (fun l v => Rep.mono hkeep)
      rw [List.getElem?_drop] at h1 h2
      exact hcs.2 _ l v h1 h2
    · have hg'' : g' = g := by
        have := hg'
        rw [hv] at this
        simp only [Blk.own, ownOf, Option.some.injEq] at this
        exact this.symm
      subst hg''
      exact ⟨(r.lo p _ g' hm hownp).1, by simp; exact (r.lo p _ g' hm hownp).2, fun j b hj hb ho => hj (r.inj j p b _ g' hb hm ho hownp), fun j hj => (show j < 0 from r.sb p _ g' j hm hownp hj)⟩

section
variable {P : Program} {c : Ctx} {t : Nat → AV} {m : List Blk} {ops : Array Oper} {Q : Exit → AS → Prop} {rest : List Oper} {ty : TypeId} {pos : String} {af : Array Edge} {d : Tmp} {α : Type} {f : α → List Lf} {sz : Nat}

theorem scopy {x y : Operand} {t' t2 e p n k : Nat} {cs ys : List Lf} {xs us : List α} (hd : decide (d < c.nt) = true) (si : P.underlying t' = some (.slice e)) (hi : (P.info? e).map (·.size) = some sz) (hf : ∀ x, (f x).length = sz)
    (hx : opnd ⟨t, m⟩ x = .s (.one (.ls p n))) (hm : m[p]? = some (.arr e sz k cs)) (hk : k = 0) (hcs : cs = xs.flatMap f) (hn : n = xs.length) (hy : opnd ⟨t, m⟩ y = .s (.one (.sl us.length ys))) (hys : ys = us.flatMap f)
    (kk : AWL P c ops Q rest ⟨upd t d (.s (.one (.i .i64 ((Nat.min us.length xs.length : Nat) : Int)))), m.set p (.arr e sz 0 ((us.take xs.length ++ xs.drop us.length).flatMap f))⟩) :
    AWL P c ops Q (⟨some d, .call { callee := .builtin .copy, args := #[x, y], argTypes := #[t', t2] }, ty, pos, af, none⟩ :: rest) ⟨t, m⟩ := by
  subst hcs hn hys hk
  intro a w S H r
  have hy' := opnd_rel r y
  rw [hy] at hy'
  have hx' := opnd_rel r x
  rw [hx] at hx'
  obtain ⟨_, _, hr⟩ := hx'
  have hH := (hr _ _ _ _ hm).2 (flat_len hf xs).symm
  obtain ⟨w', hrun, hrel⟩ := r.copy (P := P) (t2 := t2) (ty := ty) si hi hm (flat_len hf xs).symm (hy' : Rep w S (.sl us.length (us.flatMap f)) (a.eval y)) (flat_len hf us)
  refine wpList_plain rfl fun K hK => ?_
  unfold Oper.wp
  have hrun' : (execOp a.eval ⟨some d, .call { callee := .builtin .copy, args := #[x, y], argTypes := #[t', t2] }, ty, pos, af, none⟩).run P w = .ok (.value (goInt (Nat.min us.length xs.length : Nat))) w' := by
    simp [execOp, resolve, invoke, builtin, hH, hrun]
  rw [hrun']
  have e : (us.flatMap f).take (Nat.min us.length xs.length * sz) ++ (xs.flatMap f).drop (Nat.min us.length xs.length * sz) = (us.take xs.length ++ xs.drop us.length).flatMap f := by
    rw [List.flatMap_append]
    congr 1
    · have : us.flatMap f = (us.take xs.length).flatMap f ++ (us.drop xs.length).flatMap f := by rw [← List.flatMap_append, List.take_append_drop]
      rw [this]
      have hl : ((us.take xs.length).flatMap f).length = Nat.min us.length xs.length * sz := by rw [flat_len hf, List.length_take, Nat.min_comm]
      rw [← hl]
      exact List.take_left
    · have : xs.flatMap f = (xs.take us.length).flatMap f ++ (xs.drop us.length).flatMap f := by rw [← List.flatMap_append, List.take_append_drop]
      rw [this]
      have hl : ((xs.take us.length).flatMap f).length = Nat.min us.length xs.length * sz := by rw [flat_len hf, List.length_take]
      rw [← hl]
      exact List.drop_left
  rw [e] at hrel
  exact hK _ _ (kk _ _ _ _ (hrel.put (d := d) (x := .s (.one (.i .i64 ((Nat.min us.length xs.length : Nat) : Int)))) (of_decide_eq_true hd) (avr_rep (.i _ _))))
end

theorem copy_len {α : Type} (us xs : List α) : xs.length = (us.take xs.length ++ xs.drop us.length).length := by
  rw [List.length_append, List.length_take, List.length_drop]
  omega
/-! One own block takes another one's place. -/
def Lf.men0 (p : Nat) : Lf → Bool
  | .lp q _ => Nat.beq q p
  | .ls q _ => Nat.beq q p
  | .ap q _ _ => Nat.beq q p
  | _ => false
def Lf.men (p : Nat) : Lf → Bool
  | .lp q _ => Nat.beq q p
  | .ls q _ => Nat.beq q p
  | .ap q _ _ => Nat.beq q p
  | .fn _ la lb => la.any (Lf.men0 p) || lb.any (Lf.men0 p)
  | _ => false
def Lf.rnq0 (p q : Nat) : Lf → Lf
  | .lp r o => .lp (cond (Nat.beq r q) p r) o
  | .ls r n => .ls (cond (Nat.beq r q) p r) n
  | .ap r n o => .ap (cond (Nat.beq r q) p r) n o
  | l => l
def Lf.rnq (p q : Nat) : Lf → Lf
  | .lp r o => .lp (cond (Nat.beq r q) p r) o
  | .ls r n => .ls (cond (Nat.beq r q) p r) n
  | .ap r n o => .ap (cond (Nat.beq r q) p r) n o
  | .fn f la lb => .fn f (la.map (Lf.rnq0 p q)) (lb.map (Lf.rnq0 p q))
  | l => l
def SV.men (p : Nat) : SV → Bool
  | .one l => l.men p
  | .agg ls => ls.any (Lf.men p)
def SV.rnq (p q : Nat) : SV → SV
  | .one l => .one (l.rnq p q)
  | .agg ls => .agg (ls.map (Lf.rnq p q))
def AV.rnq (p q : Nat) : AV → AV
  | .s x => cond (x.men p) .top (.s (x.rnq p q))
  | .tup xs => cond (xs.any (SV.men p)) .top (.tup (xs.map (SV.rnq p q)))
  | .top => .top
def Blk.rnq (p q : Nat) : Blk → Blk
  | .box cs => cond (cs.any (Lf.men p)) .dead (.box (cs.map (Lf.rnq p q)))
  | b => b
theorem beqN {a b : Nat} : Nat.beq a b = decide (a = b) := by
  by_cases h : a = b
  · subst h; simp
  · rw [decide_eq_false h]
    cases hb : Nat.beq a b with
    | false => rfl
    | true => exact absurd (Nat.eq_of_beq_eq_true hb) h
theorem ren_ix {p q r : Nat} : cond (Nat.beq r q) p r = if r = q then p else r := by
  rw [beqN]
  by_cases h : r = q <;> simp [h]
theorem blk_ren_arr {p q : Nat} {b : Blk} {e sz k : Nat} {cs : List Lf} (h : b.rnq p q = .arr e sz k cs) : b = .arr e sz k cs := by
  cases b with
  | box cs' =>
    have h' : (cond (cs'.any (Lf.men p)) .dead (.box (cs'.map (Lf.rnq p q))) : Blk) = .arr e sz k cs := h
    cases hc : cs'.any (Lf.men p) <;> rw [hc] at h' <;> cases h'
  | arr _ _ _ _ => exact h
  | dead => cases h
  | hole => cases h
theorem blk_ren_own {p q : Nat} {b : Blk} {v : Value} {g : Nat} (h : (b.rnq p q).own v = some g) : b.own v = some g ∧ (b.rnq p q).stab = b.stab := by
  cases b with
  | box cs' =>
    have h' : (cond (cs'.any (Lf.men p)) .dead (.box (cs'.map (Lf.rnq p q))) : Blk).own v = some g := h
    show _ ∧ (cond (cs'.any (Lf.men p)) .dead (.box (cs'.map (Lf.rnq p q))) : Blk).stab = _
    cases hc : cs'.any (Lf.men p) <;> rw [hc] at h'
    · exact ⟨h', rfl⟩
    · cases h'
  | arr _ _ _ _ => exact ⟨h, rfl⟩
  | dead => exact ⟨h, rfl⟩
  | hole => exact ⟨h, rfl⟩

theorem ren_rel {c : Ctx} {t : Nat → AV} {m : List Blk} {a : Act} {w : World} {S : Stab} {H : Nat → Value} (r : Rel c ⟨t, m⟩ a w S H) {p q : Nat} {b : Blk} (hp : c.m0.length ≤ p) (hq : c.m0.length ≤ q) (hne : p ≠ q) (hpl : p < m.length) (hb : m[q]? = some b) :
    Rel c ⟨fun i => (t i).rnq p q, ((m.map (Blk.rnq p q)).set p (b.rnq p q)).set q .dead⟩ a w S (setH H p (H q)) := by
  have hql : q < m.length := (List.getElem?_eq_some_iff.1 hb).1
  generalize hM : ((m.map (Blk.rnq p q)).set p (b.rnq p q)).set q .dead = m'
  have hml : m'.length = m.length := by rw [← hM]; simp
  have hmp : m'[p]? = some (b.rnq p q) := by
    rw [← hM, List.getElem?_set_ne (fun e => hne e.symm), List.getElem?_set_self (by simpa using hpl)]
  have hmq : m'[q]? = some .dead := by rw [← hM, List.getElem?_set_self (by simpa using hql)]
  have hmo : ∀ i, i ≠ p → i ≠ q → m'[i]? = (m[i]?).map (Blk.rnq p q) := fun i h1 h2 => by
    rw [← hM, List.getElem?_set_ne (fun e => h2 e.symm), List.getElem?_set_ne (fun e => h1 e.symm), List.getElem?_map]
  have hHp : setH H p (H q) p = H q := setH_same _ _ _
  have hHo : ∀ i, i ≠ p → setH H p (H q) i = H i := fun i h => setH_other H _ h
  -- where a place of the new memory comes from
  have hfrom : ∀ i b', m'[i]? = some b' → i = q ∧ b' = .dead ∨ i ≠ q ∧ ∃ b0, m[if i = p then q else i]? = some b0 ∧ b' = b0.rnq p q ∧ setH H p (H q) i = H (if i = p then q else i) := fun i b' h => by
    by_cases h1 : i = q
    · subst h1; rw [hmq] at h; cases h; exact .inl ⟨rfl, rfl⟩
    · refine .inr ⟨h1, ?_⟩
      by_cases h2 : i = p
      · subst h2
        rw [hmp] at h; cases h
        rw [if_pos rfl]
        exact ⟨b, hb, rfl, hHp⟩
      · rw [hmo i h2 h1] at h
        rw [if_neg h2]
        cases hmi : m[i]? with
        | none => rw [hmi] at h; cases h
        | some b0 => rw [hmi] at h; cases h; exact ⟨b0, rfl, rfl, hHo i h2⟩
  have hg0 : ∀ l v, l.men0 p = false → GRep0 w S m H l v → GRep0 w S m' (setH H p (H q)) (l.rnq0 p q) v := by
    intro l v hl h
    cases l with
    | lp r' o =>
      have hrp : r' ≠ p := by simpa [Lf.men0, beqN] using hl
      obtain ⟨h1, g, h2, h3⟩ := h
      show GRep0 w S m' _ (.lp (cond (Nat.beq r' q) p r') o) v
      rw [ren_ix]
      by_cases hrq : r' = q
      · rw [if_pos hrq]; exact ⟨by omega, g, by rw [hHp, ← hrq]; exact h2, h3⟩
      · rw [if_neg hrq]; exact ⟨by omega, g, by rw [hHo _ hrp]; exact h2, h3⟩
    | ls r' n =>
      have hrp : r' ≠ p := by simpa [Lf.men0, beqN] using hl
      obtain ⟨h1, h2, h3⟩ := h
      show GRep0 w S m' _ (.ls (cond (Nat.beq r' q) p r') n) v
      rw [ren_ix]
      by_cases hrq : r' = q
      · subst hrq
        rw [if_pos rfl]
        refine ⟨by omega, h2, fun e sz k cs hm => ?_⟩
        rw [hmp] at hm
        have := h3 e sz k cs (by rw [hb, blk_ren_arr (Option.some.inj hm)])
        rw [hHp]; exact this
      · rw [if_neg hrq]
        refine ⟨by omega, h2, fun e sz k cs hm => ?_⟩
        rw [hmo _ hrp hrq] at hm
        rw [hHo _ hrp]
        cases hmi : m[r']? with
        | none => rw [hmi] at hm; cases hm
        | some b0 =>
          rw [hmi] at hm
          exact h3 e sz k cs (by rw [hmi, blk_ren_arr (Option.some.inj hm)])
    | ap r' n o =>
      have hrp : r' ≠ p := by simpa [Lf.men0, beqN] using hl
      obtain ⟨h1, h2, h3⟩ := h
      show GRep0 w S m' _ (.ap (cond (Nat.beq r' q) p r') n o) v
      rw [ren_ix]
      by_cases hrq : r' = q
      · subst hrq
        rw [if_pos rfl]
        refine ⟨by omega, h2, fun e sz k cs hm => ?_⟩
        rw [hmp] at hm
        have := h3 e sz k cs (by rw [hb, blk_ren_arr (Option.some.inj hm)])
        rw [hHp]; exact this
      · rw [if_neg hrq]
        refine ⟨by omega, h2, fun e sz k cs hm => ?_⟩
        rw [hmo _ hrp hrq] at hm
        rw [hHo _ hrp]
        cases hmi : m[r']? with
        | none => rw [hmi] at hm; cases hm
        | some b0 =>
          rw [hmi] at hm
          exact h3 e sz k cs (by rw [hmi, blk_ren_arr (Option.some.inj hm)])
    | i k n => exact h
    | b x => exact h
    | s x => exact h
    | raw v => exact h
    | sl n cs => exact h
    | cp cs => exact h
    | nix => exact h
    | fn f a b => exact h
  have hgl : ∀ (ls : List Lf) (vs : List Value), ls.any (Lf.men0 p) = false → LsR (GRep0 w S m H) ls vs → LsR (GRep0 w S m' (setH H p (H q))) (ls.map (Lf.rnq0 p q)) vs := fun ls vs hl h =>
    ⟨by rw [List.length_map]; exact h.1, fun j l v h1 h2 => by
      rw [List.getElem?_map] at h1
      cases hlj : ls[j]? with
      | none => rw [hlj] at h1; cases h1
      | some l0 =>
        rw [hlj] at h1; cases h1
        refine hg0 l0 v ?_ (h.2 j l0 v hlj h2)
        have := List.any_eq_false.1 hl l0 (List.mem_of_getElem? hlj)
        simpa using this⟩
  have hg : ∀ l v, l.men p = false → GRep w S m H l v → GRep w S m' (setH H p (H q)) (l.rnq p q) v := by
    intro l v hl h
    cases l with
    | fn f a b =>
      obtain ⟨va, vb, hv, h1, h2⟩ := h
      have hl' : a.any (Lf.men0 p) = false ∧ b.any (Lf.men0 p) = false := by simpa [Lf.men, Bool.or_eq_false_iff] using hl
      exact ⟨va, vb, hv, hgl a _ hl'.1 h1, hgl b _ hl'.2 h2⟩
    | lp r' o => exact hg0 (.lp r' o) v hl h
    | ls r' n => exact hg0 (.ls r' n) v hl h
    | ap r' n o => exact hg0 (.ap r' n o) v hl h
    | i k n => exact h
    | b x => exact h
    | s x => exact h
    | raw v => exact h
    | sl n cs => exact h
    | cp cs => exact h
    | nix => exact h
  have hgL : ∀ (ls : List Lf) (vs : List Value), ls.any (Lf.men p) = false → LsR (GRep w S m H) ls vs → LsR (GRep w S m' (setH H p (H q))) (ls.map (Lf.rnq p q)) vs := fun ls vs hl h =>
    ⟨by rw [List.length_map]; exact h.1, fun j l v h1 h2 => by
      rw [List.getElem?_map] at h1
      cases hlj : ls[j]? with
      | none => rw [hlj] at h1; cases h1
      | some l0 =>
        rw [hlj] at h1; cases h1
        refine hg l0 v ?_ (h.2 j l0 v hlj h2)
        have := List.any_eq_false.1 hl l0 (List.mem_of_getElem? hlj)
        simpa using this⟩
  have hsv : ∀ (x : SV) (v : Value), x.men p = false → SVR (GRep w S m H) x v → SVR (GRep w S m' (setH H p (H q))) (x.rnq p q) v := by
    intro x v hx h
    cases x with
    | one l => exact hg l v hx h
    | agg ls =>
      obtain ⟨cs, rfl, h1⟩ := h
      exact ⟨cs, rfl, hgL ls _ hx h1⟩
  refine ⟨r.nt, r.df, fun i => ?_, fun i b' hb' => ?_, fun i b' g hb' ho => ?_, fun i i' b1 b2 g h1 h2 o1 o2 => ?_, fun i b' g j hb' ho hs => ?_, r.sl, r.ex, by show c.m0.length ≤ m'.length; rw [hml]; exact r.kl, fun i g hi hh => ?_, fun i e sz k cs hi hm => ?_⟩
  · have h := r.tm i
    show AVR _ ((t i).rnq p q) _
    generalize a.tmps.getD i undef = v at h
    cases ht : t i with
    | s x =>
      show AVR _ (cond (x.men p) .top (.s (x.rnq p q))) _
      cases hx : x.men p with
      | true => trivial
      | false => exact hsv x v hx (by have h' : AVR _ (t i) v := h; rw [ht] at h'; exact h')
    | tup xs =>
      show AVR _ (cond (xs.any (SV.men p)) .top (.tup (xs.map (SV.rnq p q)))) _
      cases hx : xs.any (SV.men p) with
      | true => trivial
      | false =>
        have h' : AVR (GRep w S m H) (t i) v := h
        rw [ht] at h'
        obtain ⟨vs, rfl, h1, h2⟩ := h'
        refine ⟨vs, rfl, by rw [List.length_map]; exact h1, fun j x u hj hu => ?_⟩
        rw [List.getElem?_map] at hj
        cases hlj : xs[j]? with
        | none => rw [hlj] at hj; cases hj
        | some x0 =>
          rw [hlj] at hj; cases hj
          refine hsv x0 u ?_ (h2 j x0 u hlj hu)
          have := List.any_eq_false.1 hx x0 (List.mem_of_getElem? hlj)
          simpa using this
    | top => trivial
  · rcases hfrom i b' hb' with ⟨_, rfl⟩ | ⟨_, b0, h1, rfl, h2⟩
    · trivial
    · have hr := r.bl _ _ h1
      rw [h2]
      cases b0 with
      | dead => trivial
      | hole => exact hr
      | box cs =>
        show BlkR 0 w S m' _ (cond (cs.any (Lf.men p)) .dead (.box (cs.map (Lf.rnq p q)))) _
        cases hx : cs.any (Lf.men p) with
        | true => trivial
        | false =>
          obtain ⟨g, e, cur, h3, h4, h5⟩ := hr
          exact ⟨g, e, cur, h3, h4, hgL cs _ hx h5⟩
      | arr e sz k cs =>
        obtain ⟨h0, hk1, n, vals, h3, h4, h5⟩ := hr
        exact ⟨h0, hk1, n, vals, h3, h4, h5⟩
  · rcases hfrom i b' hb' with ⟨_, rfl⟩ | ⟨_, b0, h1, rfl, h2⟩
    · cases ho
    · rw [h2] at ho
      exact r.lo _ b0 g h1 (blk_ren_own ho).1
  · rcases hfrom i b1 h1 with ⟨_, rfl⟩ | ⟨n1, b0, h3, rfl, h4⟩
    · cases o1
    rcases hfrom i' b2 h2 with ⟨_, rfl⟩ | ⟨n2, b0', h5, rfl, h6⟩
    · cases o2
    rw [h4] at o1
    rw [h6] at o2
    have := r.inj _ _ b0 b0' g h3 h5 (blk_ren_own o1).1 (blk_ren_own o2).1
    by_cases e1 : i = p <;> by_cases e2 : i' = p
    · rw [e1, e2]
    · rw [if_pos e1, if_neg e2] at this; exact absurd this.symm n2
    · rw [if_neg e1, if_pos e2] at this; exact absurd this n1
    · rw [if_neg e1, if_neg e2] at this; exact this
  · rcases hfrom i b' hb' with ⟨_, rfl⟩ | ⟨_, b0, h1, rfl, h2⟩
    · cases ho
    · rw [h2] at ho
      rw [(blk_ren_own ho).2]
      exact r.sb _ b0 g j h1 (blk_ren_own ho).1 hs
  · rw [hHo i (by omega)]
    exact r.kh i g hi hh
  · have hm' : m'[i]? = some (.arr e sz k cs) := hm
    rw [hmo i (by omega) (by omega)] at hm'
    rw [hHo i (by omega)]
    cases hmi : m[i]? with
    | none => rw [hmi] at hm'; cases hm'
    | some b0 =>
      rw [hmi] at hm'
      exact r.kr i e sz k cs hi (by show m[i]? = _; rw [hmi, blk_ren_arr (Option.some.inj hm')])

section
variable {P : Program} {c : Ctx} {t : Nat → AV} {m : List Blk} {ops : Array Oper} {Q : Exit → AS → Prop}
theorem cren {x : Code} (p q : Nat) {b : Blk} (hp : Nat.ble c.m0.length p = true) (hq : Nat.ble c.m0.length q = true) (hne : Nat.beq p q = false) (hpl : Nat.blt p m.length = true) (hb : m[q]? = some b)
    (k : AWC P c x Q ⟨fun i => (t i).rnq p q, ((m.map (Blk.rnq p q)).set p (b.rnq p q)).set q .dead⟩) : AWC P c x Q ⟨t, m⟩ :=
  awc_of _ (fun _ _ S H r => ⟨S, _, ren_rel r (Nat.le_of_ble_eq_true hp) (Nat.le_of_ble_eq_true hq) (Nat.ne_of_beq_eq_false hne) (Nat.le_of_ble_eq_true hpl) hb⟩) k
theorem sren {l : List Oper} (p q : Nat) {b : Blk} (hp : Nat.ble c.m0.length p = true) (hq : Nat.ble c.m0.length q = true) (hne : Nat.beq p q = false) (hpl : Nat.blt p m.length = true) (hb : m[q]? = some b)
    (k : AWL P c ops Q l ⟨fun i => (t i).rnq p q, ((m.map (Blk.rnq p q)).set p (b.rnq p q)).set q .dead⟩) : AWL P c ops Q l ⟨t, m⟩ :=
  awl_of _ (fun _ _ S H r => ⟨S, _, ren_rel r (Nat.le_of_ble_eq_true hp) (Nat.le_of_ble_eq_true hq) (Nat.ne_of_beq_eq_false hne) (Nat.le_of_ble_eq_true hpl) hb⟩) k
end
end Go.Proofs.YtljkjkkpogkgbaaDoor.Abs

/-
  Blocks that are laid in a region that draws its order: a place is kept free for each.
-/
namespace Go.Proofs.YtljkjkkpogkgbaaDoor.Abs
open Go.RowKit

/-- A place kept free. -/
theorem hole_rel {c : Ctx} {t : Nat → AV} {m : List Blk} {a : Act} {w : World} {S : Stab} {H : Nat → Value} (r : Rel c ⟨t, m⟩ a w S H) : Rel c ⟨t, m ++ [.hole]⟩ a w S (setH H m.length undef) := by
  refine r.change (p := m.length) (b' := .hole) (v := undef) (by simp) (by simp) (fun q hq => ?_) (fun b i h => ⟨h, rfl⟩) (fun g h => absurd h (Nat.lt_irrefl _)) (fun e sz k cs h => absurd h (Nat.lt_irrefl _))
    (fun g _ _ => rfl) rfl (fun g hg => by cases hg) (fun q b g i _ _ _ h => h) (fun g i _ _ h => h) r.sl (Nat.le_refl _) rfl rfl rfl
  rcases Nat.lt_or_ge q m.length with h | h
  · rw [List.getElem?_append_left h]
  · rw [List.getElem?_eq_none (by simp; omega), List.getElem?_eq_none h]
/-- The place taken by a box. -/
theorem Rel.fillBox {c : Ctx} {t : Nat → AV} {m : List Blk} {a : Act} {w : World} {S : Stab} {H : Nat → Value} (r : Rel c ⟨t, m⟩ a w S H) {p : Nat} (hm : m[p]? = some .hole) {e : TypeId} {cells : Array Value} {ls : List Lf} (hls : LsR (GRep w S m H) ls cells.toList) :
    Rel c ⟨t, m.set p (.box ls)⟩ a (w.alloc (.cells cells e)) S (setH H p (.pointer (some ⟨w.heap.size, 0, none⟩))) := by
  have hx : Ext w S (w.alloc (.cells cells e)) S := Ext.alloc w S _
  have hp : p < m.length := (List.getElem?_eq_some_iff.1 hm).1
  have hH : H p = undef := r.bl p _ hm
  have hf := r.fresh (Nat.le_refl w.heap.size)
  have hkeep : ∀ b i, S b i → S b i ∧ (w.alloc (.cells cells e)).cell? ⟨b, i, none⟩ = w.cell? ⟨b, i, none⟩ := fun b i h => hx.keeps r.sl b i h
  have hoth : ∀ q, q ≠ p → (m.set p (.box ls))[q]? = m[q]? := fun q hq => List.getElem?_set_ne (fun e => hq e.symm)
  have hgr : ∀ l v, GRep w S m H l v → GRep (w.alloc (.cells cells e)) S (m.set p (.box ls)) (setH H p (.pointer (some ⟨w.heap.size, 0, none⟩))) l v := fun l v =>
    GRep.mono2 hkeep (by simp) (fun q g hq hh => by
      by_cases e1 : q = p
      · subst e1; exact (undef_ne (hH.symm.trans hh)).elim
      · exact setH_other H _ e1) (fun q e1 sz k cs hq hm1 => by
      by_cases e2 : q = p
      · subst e2; rw [List.getElem?_set_self hp] at hm1; cases hm1
      · rw [hoth q e2] at hm1
        exact ⟨k, cs, hm1, .inl ⟨rfl, setH_other H _ e2⟩⟩)
  refine r.change (p := p) (b' := .box ls) (by simp) (List.getElem?_set_self hp) hoth hkeep (fun g _ h => (undef_ne (hH.symm.trans h)).elim) (fun e sz k cs _ h => by cases h)
    (fun g hg _ => hx.blk g hg) ⟨w.heap.size, e, cells, rfl, heap_alloc_new w _, hls.mono hgr⟩ (fun g hg => ?_) (fun q b g i _ _ _ h => h) (fun g i _ _ h => h) (r.sl.ext hx) hx.size rfl rfl rfl
  have hg' : w.heap.size = g := by simpa [Blk.own, ownOf] using hg
  subst hg'
  exact ⟨.inl r.ex.size, by simp, fun q b _ hb => hf.1 q b hb, fun i hi => absurd hi (hf.2 i)⟩

section
variable {P : Program} {c : Ctx} {t : Nat → AV} {m : List Blk} {ops : Array Oper} {Q : Exit → AS → Prop} {rest : List Oper} {ty : TypeId} {pos : String} {af : Array Edge} {d : Tmp}
theorem chole {x : Code} (k : AWC P c x Q ⟨t, m ++ [.hole]⟩) : AWC P c x Q ⟨t, m⟩ := awc_of _ (fun _ _ S _ r => ⟨S, _, hole_rel r⟩) k
theorem salloc_at {tt : TypeId} {zl : List Lf} (p : Nat) (hd : decide (d < c.nt) = true) (zi : ZI P tt zl) (hm : m[p]? = some .hole)
    (k : AWL P c ops Q rest ⟨upd t d (.s (.one (.lp p 0))), m.set p (.box zl)⟩) : AWL P c ops Q (⟨some d, .alloc tt, ty, pos, af, none⟩ :: rest) ⟨t, m⟩ := by
  obtain ⟨i, z, hi, hz, hl, ho⟩ := zi.h
  subst hl
  intro a w S H r
  refine wpList_plain rfl fun K hK => ?_
  unfold Oper.wp
  have hrun : (execOp a.eval ⟨some d, .alloc tt, ty, pos, af, none⟩).run P w = .ok (.value (.pointer (some ⟨w.heap.size, 0, none⟩))) (w.alloc (.cells z.cells tt)) := by simp [execOp, Instr.alloc, zeroValue, typeInfo, hi, hz, newVar, newRow]
  rw [hrun]
  have r' := r.fillBox (e := tt) (cells := z.cells) hm (clf_list ho)
  have hp : p < m.length := (List.getElem?_eq_some_iff.1 hm).1
  exact hK _ _ (k _ _ _ _ (r'.put (d := d) (x := .s (.one (.lp p 0))) (of_decide_eq_true hd) ⟨by simpa using hp, w.heap.size, setH_same _ _ _, rfl⟩))
theorem sbox_at {tt : TypeId} {y : Operand} {x : SV} (p : Nat) (hd : decide (d < c.nt) = true) (hx : opnd ⟨t, m⟩ y = .s x) (hm : m[p]? = some .hole)
    (k : AWL P c ops Q rest ⟨upd t d (.s (.one (.lp p 0))), m.set p (.box x.cells)⟩) : AWL P c ops Q (⟨some d, .box tt y, ty, pos, af, none⟩ :: rest) ⟨t, m⟩ := by
  intro a w S H r
  have hy := opnd_rel r y
  rw [hx] at hy
  have hls := svr_cells hy (fun l v => GRep.oneCell)
  refine wpList_plain rfl fun K hK => ?_
  unfold Oper.wp
  have hrun : (execOp a.eval ⟨some d, .box tt y, ty, pos, af, none⟩).run P w = .ok (.value (.pointer (some ⟨w.heap.size, 0, none⟩))) (w.alloc (.cells (a.eval y).cells tt)) := by simp [execOp, Instr.box, newVar, newRow]
  rw [hrun]
  have r' := r.fillBox (e := tt) (cells := (a.eval y).cells) hm hls
  have hp : p < m.length := (List.getElem?_eq_some_iff.1 hm).1
  exact hK _ _ (k _ _ _ _ (r'.put (d := d) (x := .s (.one (.lp p 0))) (of_decide_eq_true hd) ⟨by simpa using hp, w.heap.size, setH_same _ _ _, rfl⟩))
end
end Go.Proofs.YtljkjkkpogkgbaaDoor.Abs

/-
  Structures held against one another.
-/
namespace Go.Proofs.YtljkjkkpogkgbaaDoor.Abs
open Go.RowKit

def eqLf : Lf → Lf → Option Bool
  | .i k n, .i k' m => if k = k' then some (decide (n = m)) else none
  | .b x, .b y => some (x == y)
  | .s x, .s y => some (x.toList == y.toList)
  | _, _ => none
def eqLs : List Lf → List Lf → Option Bool
  | [], [] => some true
  | a :: l, b :: r => match eqLf a b, eqLs l r with
    | some x, some y => some (x && y)
    | _, _ => none
  | _, _ => none
def Lf.tag : Lf → Nat
  | .i _ _ => 0
  | .b _ => 1
  | .s _ => 2
  | _ => 3
def tagOf : Option TypeDesc → Nat
  | some (.int _) => 0
  | some .bool => 1
  | some .string => 2
  | _ => 4
/-- Fields of one cell each, one behind the other. -/
def flatF (P : Program) : Nat → List Field → List Nat → Bool
  | _, [], [] => true
  | i, f :: r, k :: ks => f.name != "_" && f.offset == i && tagOf (P.underlying f.type) == k && flatF P (i + 1) r ks
  | _, _, _ => false

theorem part_flat {P : Program} {w : World} {t : TypeId} {xs : Array Value} {i : Nat} {v : Value} (h : tagOf (P.underlying t) < 4) (hv : xs[i]? = some v) : (part t xs i).run P w = .ok v w := by
  cases hu : P.underlying t with
  | none => rw [hu] at h; simp [tagOf] at h
  | some d => rw [hu] at h; cases d <;> simp [tagOf] at h <;> simp [part, isAgg, run_underlying hu, hv]

theorem eqFields_flat {P : Program} {S : Stab} {m : List Blk} {H : Nat → Value} {w : World} {d : Nat} {xs ys : Array Value} : ∀ (fs : List Field) (i : Nat) (ls ls' : List Lf) (b : Bool), flatF P i fs (ls.map Lf.tag) = true → ls.map Lf.tag = ls'.map Lf.tag → eqLs ls ls' = some b →
    (∀ j l, ls[j]? = some l → ∃ v, xs[i + j]? = some v ∧ GRep w S m H l v) → (∀ j l, ls'[j]? = some l → ∃ v, ys[i + j]? = some v ∧ GRep w S m H l v) →
    (Op.eqFields (d + 1) xs ys fs).run P w = .ok b w
  | [], i, ls, ls', b, hf, _, he, _, _ => by
    cases ls with
    | cons _ _ => cases hf
    | nil =>
      cases ls' with
      | nil => cases he; rfl
      | cons _ _ => cases he
  | f :: fs, i, [], ls', b, hf, _, _, _, _ => by cases hf
  | f :: fs, i, l :: ls, [], b, _, _, he, _, _ => by cases he
  | f :: fs, i, l :: ls, l' :: ls', b, hf, hl, he, hx, hy => by
    simp only [List.map_cons, flatF, Bool.and_eq_true, bne_iff_ne, ne_eq, beq_iff_eq] at hf
    obtain ⟨⟨⟨h1, h2⟩, h3⟩, h4⟩ := hf
    simp only [List.map_cons, List.cons.injEq] at hl
    obtain ⟨hl1, hl2⟩ := hl
    obtain ⟨v, hv, hr⟩ := hx 0 l rfl
    obtain ⟨v', hv', hr'⟩ := hy 0 l' rfl
    unfold eqLs at he
    cases e1 : eqLf l l' with
    | none => rw [e1] at he; cases he
    | some x =>
    cases e2 : eqLs ls ls' with
    | none => rw [e1, e2] at he; cases he
    | some y =>
    rw [e1, e2] at he
    obtain rfl : (x && y) = b := Option.some.inj he
    have ht4 : tagOf (P.underlying f.type) < 4 := by
      rw [h3]; cases l <;> simp [Lf.tag]
    have heq : (Op.equalIn (d + 1) f.type v v').run P w = .ok x w := by
      cases hu : P.underlying f.type with
      | none => rw [hu] at ht4; simp [tagOf] at ht4
      | some dd =>
        rw [hu] at h3
        cases l <;> cases l' <;> simp only [eqLf, reduceCtorEq, Option.some.injEq] at e1
        · rename_i k n k' m'
          by_cases hk : k = k'
          · subst hk
            rw [if_pos rfl] at e1
            obtain rfl := Option.some.inj e1
            have q1 : v = _ := rep_i hr
            have q2 : v' = _ := rep_i hr'
            subst q1 q2
            cases dd <;> simp [tagOf, Lf.tag] at h3
            exact (run_equalIn_int w d f.type _ _ _ _ hu).trans (by rw [go_beq])
          · rw [if_neg hk] at e1; cases e1
        · subst e1
          have q1 : v = _ := rep_b hr
          have q2 : v' = _ := rep_b hr'
          subst q1 q2
          cases dd <;> simp [tagOf, Lf.tag] at h3
          simp [Op.equalIn, run_underlying hu]
        · subst e1
          have q1 : v = _ := rep_s hr
          have q2 : v' = _ := rep_s hr'
          subst q1 q2
          cases dd <;> simp [tagOf, Lf.tag] at h3
          simp [Op.equalIn, run_underlying hu, beq_toListBytes]
    have ih := eqFields_flat (d := d) fs (i + 1) ls ls' y h4 hl2 e2 (fun j l h => by have := hx (j + 1) l (by simpa using h); rwa [show i + (j + 1) = i + 1 + j by omega] at this) (fun j l h => by have := hy (j + 1) l (by simpa using h); rwa [show i + (j + 1) = i + 1 + j by omega] at this)
    unfold Op.eqFields
    rw [Nat.add_zero] at hv hv'
    rw [if_pos h1, h2]
    simp only [Sem.run_bind, part_flat ht4 hv, part_flat ht4 hv', Result.andThen_ok, heq]
    cases x
    · simp
    · simp [ih]

section
variable {P : Program} {c : Ctx} {st : AS} {ty : TypeId} {xt yt : TypeId} {x y : Operand}
structure EqT (P : Program) (t : TypeId) (n : List Nat) : Prop where
  u : P.underlying t = some (.struct (P.fieldsOf t))
  h : P.stoodInHeld t = false
  g : P.eqGuardType P.depth t = false
  f : flatF P 0 (P.fieldsOf t).toList n = true
theorem eq_run {n : List Nat} (et : EqT P xt n) {ls ls' : List Lf} {b : Bool} (hx : opnd st x = .s (.agg ls)) (hy : opnd st y = .s (.agg ls')) (hn : ls.map Lf.tag = n) (hn' : ls'.map Lf.tag = n) (he : eqLs ls ls' = some b) {a : Act} {w : World} {S : Stab} {H : Nat → Value} (r : Rel c st a w S H) :
    ∃ cs cs' : Array Value, a.eval x = .agg cs ∧ a.eval y = .agg cs' ∧ (Op.equalIn 10000 xt (.agg cs) (.agg cs')).run P w = .ok b w := by
  have h1 := opnd_rel r x
  rw [hx] at h1
  have h2 := opnd_rel r y
  rw [hy] at h2
  obtain ⟨cs, e1, g1⟩ := h1
  obtain ⟨cs', e2, g2⟩ := h2
  refine ⟨cs, cs', e1, e2, ?_⟩
  rw [run_equalIn_struct w 9999 xt cs cs' et.u et.h]
  refine eqFields_flat (d := 9998) (S := S) (m := st.m) (H := H) _ 0 ls ls' b (by rw [hn]; exact et.f) (hn.trans hn'.symm) he (fun j l h => ?_) (fun j l h => ?_)
  · obtain ⟨v, hv, hr⟩ := g1.get h
    exact ⟨v, by simpa using hv, hr⟩
  · obtain ⟨v, hv, hr⟩ := g2.get h
    exact ⟨v, by simpa using hv, hr⟩
theorem opv_steql {n : List Nat} (et : EqT P xt n) {ls ls' : List Lf} {b : Bool} (hx : opnd st x = .s (.agg ls)) (hy : opnd st y = .s (.agg ls')) (hn : ls.map Lf.tag = n) (hn' : ls'.map Lf.tag = n) (he : eqLs ls ls' = some b) : OpV P c st (.binOp .eql xt x y yt) ty (.s (.one (.b b))) := by
  intro a w S H r
  obtain ⟨cs, cs', e1, e2, h⟩ := eq_run et hx hy hn hn' he r
  refine ⟨.bool b, avr_rep (.b _), fun _ _ _ _ => ?_⟩
  simp only [execOp, e1, e2, Sem.run_bind, run_eqGuard_agg w _ xt x y cs cs' et.g, Result.andThen_ok, run_eql_struct, h]
  rfl
theorem opv_stneq {n : List Nat} (et : EqT P xt n) {ls ls' : List Lf} {b : Bool} (hx : opnd st x = .s (.agg ls)) (hy : opnd st y = .s (.agg ls')) (hn : ls.map Lf.tag = n) (hn' : ls'.map Lf.tag = n) (he : eqLs ls ls' = some b) : OpV P c st (.binOp .neq xt x y yt) ty (.s (.one (.b (!b)))) := by
  intro a w S H r
  obtain ⟨cs, cs', e1, e2, h⟩ := eq_run et hx hy hn hn' he r
  refine ⟨.bool (!b), avr_rep (.b _), fun _ _ _ _ => ?_⟩
  simp only [execOp, e1, e2, Sem.run_bind, run_eqGuard_agg w _ xt x y cs cs' et.g, Result.andThen_ok, run_neq_struct, h]
  rfl
end
end Go.Proofs.YtljkjkkpogkgbaaDoor.Abs

/-
  The program's own tables: an element of one; that they are as the row says.
-/
namespace Go.Proofs.YtljkjkkpogkgbaaDoor.Abs
open Go.RowKit

section
variable {P : Program} {c : Ctx} {st : AS} {ty : TypeId} {α : Type} {f : α → List Lf} {sz : Nat}
/-- An element of a table. -/
theorem opv_gix {t n e g : Nat} {y : Operand} {cs : List Lf} {xs : List α} {k : IntKind} {j : Int} {u : α} (ai : AI P t n e sz) (hf : ∀ x, (f x).length = sz) (hG : (g, cs) ∈ GL) (hcs : cs = xs.flatMap f) (hn : n = xs.length) (hy : opnd st y = .s (.one (.i k j))) (h : idx xs j = some u) :
    OpV P c st (.indexAddr t (.global g) y) ty (.s (.one (.cp (f u ++ (xs.drop (j.toNat + 1)).flatMap f)))) := by
  intro a w S H r
  obtain ⟨h0, h1⟩ := idx_eq h
  have h2 := (idx_lt h).2
  have hx : GRep w S st.m H (.cp cs) (.pointer (some ⟨g, 0, none⟩)) := r.sl.2 _ hG
  have hy' := opnd_rel r y
  rw [hy] at hy'
  have ey : a.eval y = .int k j := rep_i hy'
  obtain ⟨g', o, hv, hr⟩ := adv_rel (l := .cp cs) rfl hx (fun _ _ _ h => by cases h)
  cases hv
  have hj : j < n := by rw [hn]; exact h2
  have h3 := hr (j.toNat * sz)
  have e1 : (Lf.cp cs).adv (j.toNat * sz) = .cp (f u ++ (xs.drop (j.toNat + 1)).flatMap f) := by
    show Lf.cp (cs.drop (j.toNat * sz)) = _
    rw [hcs, flat_at hf h1]
  rw [e1] at h3
  refine ⟨_, h3, fun _ _ _ _ => ?_⟩
  have hadd : (⟨g, 0, none⟩ : Addr).add (j.toNat * sz) = ⟨g, 0 + j.toNat * sz, none⟩ := Addr.add_lit _ _ _
  have ev : a.eval (.global g) = .pointer (some ⟨g, 0, none⟩) := rfl
  simp [execOp, ev, ey, Instr.indexAt, asIntOf, Instr.sureAddr, run_underlying ai.u, h0, hj, run_sizeOf' ai.i, hadd]
end

/-- A table of truth values, as a row tells it. -/
def tabD {H : Type} (rows : List (List Bool)) : DataW H := .agg (rows.map fun r => .agg (r.map fun b => .lit (.bool b)))

/-- Are the parts truth values, one behind the other? -/
def boolFields (P : Program) : List Field → Nat → Bool
  | [], _ => true
  | f :: fs, i => f.offset == i && (P.cellsOf f.type == 1 && ((match P.underlying f.type with | some .bool => true | _ => false) && boolFields P fs (i + 1)))
theorem boolFields_at {P : Program} : ∀ {fs : List Field} {i j : Nat} {f : Field}, boolFields P fs i = true → fs[j]? = some f → f.offset = i + j ∧ P.cellsOf f.type = 1 ∧ P.underlying f.type = some .bool
  | f :: fs, i, 0, g, h, hg => by
    simp only [boolFields, Bool.and_eq_true, beq_iff_eq] at h
    simp at hg; subst hg
    refine ⟨h.1, h.2.1, ?_⟩
    have := h.2.2.1
    split at this
    · assumption
    · cases this
  | f :: fs, i, j + 1, g, h, hg => by
    simp only [boolFields, Bool.and_eq_true] at h
    obtain ⟨a, b, c⟩ := boolFields_at (j := j) h.2.2.2 (by simpa using hg)
    exact ⟨by omega, b, c⟩
  | [], i, j, g, h, hg => by simp at hg

theorem tab_cells {P : Program} {H : Type} {enc : TypeId × Value → H} {w : World} {base fuel t n e k : Nat} {spare : Nat → Bool} {held : Bool} {fs : Array Field} {cs : List Value} {rows : List (List Bool)} {q : List MemPlace}
    (ht : P.underlying t = some (.array n e)) (he : P.underlying e = some (.struct fs)) (hk : P.cellsOf e = k) (hb : boolFields P fs.toList 0 = true)
    (h : DataW.trod enc P w base spare held fuel t cs = some (tabD rows, q)) :
    ∀ (i j : Nat) (r : List Bool) (b : Bool), rows[i]? = some r → r[j]? = some b → j < k ∧ cs[i * k + j]? = some (.bool b) := by
  intro i j r b hi hj
  obtain ⟨xs, m, rfl, hx, hlen, hxl, hel⟩ := DataW.trod_array ht h
  simp only [tabD, Prod.mk.injEq, DataW.agg.injEq] at hx
  have hx1 := hx.1
  have hin : i < n := by
    have := congrArg List.length hx1
    simp at this
    have := (List.getElem?_eq_some_iff.1 hi).1
    omega
  have hE := hel i hin
  have hxi : xs[i]? = some (xs[i]'(by omega)) := List.getElem?_eq_getElem _
  have hd : (xs[i]'(by omega)).1 = .agg (r.map fun b => .lit (.bool b)) := by
    have := congrArg (fun l => l[i]?) hx1
    simp only [List.getElem?_map, hi, hxi, Option.map_some, Option.some.injEq] at this
    exact this.symm
  rw [hxi, hk] at hE
  obtain ⟨ys, m', rfl, hy, hlen', hyl, hel'⟩ := DataW.trod_struct he hE
  rw [hy] at hd
  simp only [DataW.agg.injEq] at hd
  have hjn : j < fs.size := by
    have := congrArg List.length hd
    simp at this
    have := (List.getElem?_eq_some_iff.1 hj).1
    omega
  obtain ⟨f1, f2, f3⟩ := boolFields_at (j := j) hb (f := fs[j]) (by simp [hjn])
  have hE' := hel' j fs[j] (by simp [hjn])
  have hyj : ys[j]? = some (ys[j]'(by omega)) := List.getElem?_eq_getElem _
  have hdj : (ys[j]'(by omega)).1 = .lit (.bool b) := by
    have := congrArg (fun l => l[j]?) hd
    simp only [List.getElem?_map, hj, hyj, Option.map_some, Option.some.injEq] at this
    exact this
  rw [hyj, f2] at hE'
  obtain ⟨b', hc, hv⟩ := DataW.trod_bool f3 hE'
  rw [hv] at hdj
  simp only [DataW.lit.injEq, Lit.bool.injEq] at hdj
  subst hdj
  have e1 := congrArg (fun l => l[0]?) hc
  simp only [List.getElem?_cons_zero, List.getElem?_take, List.getElem?_drop, f1] at e1
  have hjk : j < k := by
    by_cases hjk : j < k
    · exact hjk
    · have : (0 + j + 0) = j := by omega
      rw [this, if_neg hjk] at e1
      simp at e1
  refine ⟨hjk, ?_⟩
  have e2 : (0 + j + 0) = j := by omega
  rw [e2, if_pos hjk] at e1
  simpa using e1

theorem flat_ix {α : Type} {k : Nat} : ∀ {rows : List (List α)} {p : Nat} {x : α}, (∀ r ∈ rows, r.length = k) → rows.flatten[p]? = some x → ∃ i j r, rows[i]? = some r ∧ r[j]? = some x ∧ p = i * k + j
  | [], p, x, _, h => by simp at h
  | r :: rows, p, x, hk, h => by
    rw [List.flatten_cons] at h
    by_cases hp : p < r.length
    · rw [List.getElem?_append_left hp] at h
      exact ⟨0, p, r, rfl, h, by simp⟩
    · rw [List.getElem?_append_right (by omega)] at h
      obtain ⟨i, j, r', h1, h2, h3⟩ := flat_ix (fun r hr => hk r (List.mem_cons_of_mem _ hr)) h
      refine ⟨i + 1, j, r', by simpa using h1, h2, ?_⟩
      have := hk r (List.mem_cons_self ..)
      rw [Nat.add_mul]; omega

/-- What the row says of a table, out of the row's condition. -/
theorem tab_rep {P : Program} {W : World} {name : String} {g t n e k : Nat} {fs : Array Field} {rows : List (List Bool)} (h : laidMetH P [(name, tabD rows)] W)
    (hg : P.globalNamed name = some g) (htp : (P.globals[g]?).map (·.type) = some t) (ht : P.underlying t = some (.array n e)) (he : P.underlying e = some (.struct fs)) (hk : P.cellsOf e = k) (hb : boolFields P fs.toList 0 = true)
    (hr : ∀ r ∈ rows, r.length = k) : Rep W (allS W) (.cp (rows.flatten.map .b)) (.pointer (some ⟨g, 0, none⟩)) := by
  rw [MakeChecks.laidMetH_plain _ _ _ rfl] at h
  obtain ⟨ps, ⟨g0, t0, cs0, f0, p0, q0, hg0, ht0, hv0, hd0, _, _⟩, _, _⟩ := h
  obtain rfl := Option.some.inj (hg.symm.trans hg0)
  obtain rfl := Option.some.inj (htp.symm.trans ht0)
  have hc : ∀ (j : Nat) (l : Lf), (rows.flatten.map Lf.b)[j]? = some l → ∃ b, l = .b b ∧ W.cell? ⟨g, 0 + j, none⟩ = some (.bool b) := by
    intro j l hj
    rw [List.getElem?_map] at hj
    cases hx : rows.flatten[j]? with
    | none => rw [hx] at hj; cases hj
    | some b =>
      rw [hx] at hj
      cases hj
      obtain ⟨i, j', r, h1, h2, h3⟩ := flat_ix hr hx
      obtain ⟨_, h4⟩ := tab_cells ht he hk hb hd0 i j' r b h1 h2
      refine ⟨b, rfl, ?_⟩
      have := World.var?_cell hg hv0 j
      rw [Nat.zero_add, this]
      rw [h3]
      simpa using h4
  refine .cp _ g 0 (fun j => (W.cell? ⟨g, 0 + j, none⟩).getD undef) (fun j l hj => ?_) (fun j l hj => ?_)
  · obtain ⟨b, _, h1⟩ := hc j l hj
    exact ⟨(cell_lt h1).1, by rw [h1]; rfl⟩
  · obtain ⟨b, rfl, h1⟩ := hc j l hj
    show Rep _ _ _ ((W.cell? ⟨g, 0 + j, none⟩).getD undef)
    rw [h1]
    exact .b b

theorem canon_rep {w : World} {S : Stab} {l : Lf} {v : Value} (h : Rep w S l v) : Rep w S l.canon v := by
  unfold Lf.canon
  split
  · obtain rfl := rep_raw h
    exact .sl0 _ _
  · exact h
theorem svr_canon {w : World} {S : Stab} {x : SV} {v : Value} (h : SVR (Rep w S) x v) : SVR (Rep w S) x.canon v := by
  cases x with
  | one l => exact canon_rep h
  | agg ls =>
    obtain ⟨cs, rfl, h1, h2⟩ := h
    refine ⟨cs, rfl, by simpa using h1, fun j l u hl hu => ?_⟩
    rw [List.getElem?_map] at hl
    cases hx : ls[j]? with
    | none => rw [hx] at hl; cases hl
    | some l' =>
      rw [hx] at hl
      cases hl
      exact canon_rep (h2 j l' u hx hu)
/-- A call of a drawn region, nil handed as a slice of nothing. -/
theorem opD_callN {P : Program} {c : Ctx} {st : AS} {ty : TypeId} {f : FuncId} {args : Array Operand} {ats : Array TypeId} {xs : List SV} {r : AV} (hf : FnI P f) (ho : Opnds st args.toList xs) (hp : xs.all (fun x => x.cells.all Lf.pubd) = true) (hc : CallsA P f (xs.map SV.canon) (· = r)) :
    OpD P c st (.call { callee := .value (.func f), args := args, argTypes := ats }) ty r := by
  intro a w S H rr dst pos af g K Q hK
  have hv := opnds_rel rr ho
  unfold Oper.wp
  have hrun : (execOp a.eval ⟨dst, .call { callee := .value (.func f), args := args, argTypes := ats }, ty, pos, af, g⟩).run P w = .ok (.enter f (args.map a.eval)) w := by
    simp [execOp, resolve, Act.eval, Deferred.ofValue, invoke, hf.run]
  rw [hrun]
  refine (hc w S (args.map a.eval) rr.sl ⟨by simpa using hv.1, fun j x v h1 h2 => ?_⟩).mono ?_
  · rw [List.getElem?_map] at h1
    cases hx : xs[j]? with
    | none => rw [hx] at h1; cases h1
    | some y =>
      rw [hx] at h1
      cases h1
      exact svr_canon (svr_pub (hv.2 j y v hx (by simpa using h2)) (List.all_eq_true.1 hp y (List.mem_of_getElem? hx)))
  · rintro e w' ⟨v, x, S', rfl, rfl, hext, hin, hav⟩
    exact hK v w' S' hext hin (avr_of_rep hav)
end Go.Proofs.YtljkjkkpogkgbaaDoor.Abs

/-
  A region that draws its order, whose last operation comes behind all the others, and writes what others have read.
-/
namespace Go.Proofs.YtljkjkkpogkgbaaDoor.Abs
open Go.RowKit

/-- What is asked of the region's text. -/
def okDrawL (ops : Array Oper) : Bool :=
  ((List.range ops.size).all fun i => match ops[i]? with
    | none => false
    | some o => o.dst.isSome && o.after.all (fun e => decide (e.on < i)) && (List.range ops.size).all (fun j => match ops[j]? with
        | none => false
        | some p => (decide (i = j) || !(o.dst == p.dst)) && (match p.dst with
            | none => false
            | some d => !(o.looksAt ops).contains d || decide (j + 1 = ops.size) || o.after.any (fun e => e.on == j && Region.binds .any e)))) &&
  (decide (0 < ops.size) && (match ops[ops.size - 1]? with
    | none => false
    | some o => (List.range (ops.size - 1)).all fun j => o.after.any (fun e => e.on == j && Region.binds .any e)))

structure DrawOkL (ops : Array Oper) (n : Nat) : Prop where
  sz : ops.size = n + 1
  dst : ∀ (i : Nat) (o : Oper), ops[i]? = some o → ∃ d, o.dst = some d
  lt : ∀ (i : Nat) (o : Oper), ops[i]? = some o → ∀ e ∈ o.after, e.on < i
  ne : ∀ (i : Nat) (o : Oper) (j : Nat) (p : Oper), ops[i]? = some o → ops[j]? = some p → i ≠ j → o.dst ≠ p.dst
  ed : ∀ (i : Nat) (o : Oper) (j : Nat) (p : Oper) (d : Tmp), ops[i]? = some o → ops[j]? = some p → p.dst = some d → j < n → d ∈ o.looksAt ops → ∃ e ∈ o.after, e.on = j ∧ Region.binds .any e = true
  all : ∀ (o : Oper) (j : Nat), ops[n]? = some o → j < n → ∃ e ∈ o.after, e.on = j ∧ Region.binds .any e = true

theorem drawOkL_of {ops : Array Oper} (h : okDrawL ops = true) : DrawOkL ops (ops.size - 1) := by
  unfold okDrawL at h
  simp only [Bool.and_eq_true] at h
  obtain ⟨h0, hpos, hlast⟩ := h
  have hpos := of_decide_eq_true hpos
  have key : ∀ (i : Nat) (o : Oper), ops[i]? = some o → o.dst.isSome = true ∧ o.after.all (fun e => decide (e.on < i)) = true ∧ ∀ (j : Nat) (p : Oper), ops[j]? = some p → (decide (i = j) || !(o.dst == p.dst)) = true ∧ (match p.dst with
            | none => false
            | some d => !(o.looksAt ops).contains d || decide (j + 1 = ops.size) || o.after.any (fun e => e.on == j && Region.binds .any e)) = true := by
    intro i o hi
    have hil : i < ops.size := (Array.getElem?_eq_some_iff.1 hi).1
    have h1 := List.all_eq_true.1 h0 i (List.mem_range.2 hil)
    rw [hi] at h1
    simp only [Bool.and_eq_true] at h1
    refine ⟨h1.1.1, h1.1.2, fun j p hj => ?_⟩
    have hjl : j < ops.size := (Array.getElem?_eq_some_iff.1 hj).1
    have h2 := List.all_eq_true.1 h1.2 j (List.mem_range.2 hjl)
    rw [hj] at h2
    simp only [Bool.and_eq_true] at h2
    exact h2
  have hany : ∀ {o : Oper} {j : Nat}, o.after.any (fun e => e.on == j && Region.binds .any e) = true → ∃ e ∈ o.after, e.on = j ∧ Region.binds .any e = true := by
    intro o j h
    rw [Array.any_eq_true] at h
    obtain ⟨i', hi', h⟩ := h
    simp only [Bool.and_eq_true, beq_iff_eq] at h
    exact ⟨_, Array.getElem_mem hi', h.1, h.2⟩
  refine ⟨by omega, fun i o hi => Option.isSome_iff_exists.1 (key i o hi).1, fun i o hi e he => ?_, fun i o j p hi hj hne he => ?_, fun i o j p d hi hj hd hjn hm => ?_, fun o j ho hj => ?_⟩
  · have := (key i o hi).2.1
    rw [Array.all_eq_true'] at this
    exact of_decide_eq_true (this e he)
  · have := ((key i o hi).2.2 j p hj).1
    simp only [Bool.or_eq_true, decide_eq_true_eq, Bool.not_eq_true', beq_eq_false_iff_ne] at this
    rcases this with h | h
    · exact hne h
    · exact h he
  · have := ((key i o hi).2.2 j p hj).2
    rw [hd] at this
    simp only [Bool.or_eq_true, Bool.not_eq_true'] at this
    rcases this with (h | h) | h
    · rw [List.contains_eq_mem] at h
      simp [hm] at h
    · have := of_decide_eq_true h
      omega
    · exact hany h
  · rw [ho] at hlast
    exact hany (List.all_eq_true.1 hlast j (List.mem_range.2 hj))

section
variable {P : Program} {c : Ctx} {t : Nat → AV} {m : List Blk} {Q : Exit → AS → Prop}

open Classical in
/-- What is known when some have been done: T, or what the last one makes of it. -/
noncomputable def TM (ops : Array Oper) (n : Nat) (T T' : Nat → AV) (listed : Array Bool) : Nat → AV :=
  if listed.getD n true = true then T' else fun x => if ∃ (i : Nat) (o : Oper), i < n ∧ ops[i]? = some o ∧ o.dst = some x ∧ listed.getD i true = false then .top else T x

open Classical in
theorem draw_last {ops : Array Oper} {n : Nat} (hok : DrawOkL ops n) {T : Nat → AV} (hT : ∀ (i : Nat) (o : Oper), i < n → ops[i]? = some o → ∃ d, o.dst = some d ∧ d < c.nt ∧ Good1 P c m ops T o (T d))
    {dl : Tmp} {xl : AV} {ol : Oper} (hol : ops[n]? = some ol) (hdl : ol.dst = some dl) (hln : dl < c.nt) (hgl : Good1 P c m ops T ol xl) (hQ : Q .normal ⟨upd T dl xl, m⟩) :
    ∀ (fuel : Nat) (listed : Array Bool) (a : Act) (w : World) (S : Stab) (H : Nat → Value), listed.size = ops.size → (List.range ops.size).countP (fun i => !listed.getD i true) ≤ fuel →
      (listed.getD n true = true → ∀ j, j < n → listed.getD j true = true) →
      Rel c ⟨TM ops n T (upd T dl xl) listed, m⟩ a w S H → wpAny P .any ops (QR c Q) fuel listed a w := by
  have hsz1 := hok.sz
  have done : ∀ (listed : Array Bool) (a : Act) (w : World) (S : Stab) (H : Nat → Value), listed.size = ops.size → Region.ready .any ops listed = [] → Rel c ⟨TM ops n T (upd T dl xl) listed, m⟩ a w S H → QR c Q .normal a w := by
    intro listed a w S H hsz hr r
    have hall : ∀ n i, i < n → i < ops.size → listed.getD i true = true := by
      intro n
      induction n with
      | zero => intro i h; omega
      | succ n ih =>
        intro i hi hio
        by_cases hb : listed.getD i true = true
        · exact hb
        · exfalso
          have hmem : i ∈ Region.ready .any ops listed := by
            unfold Region.ready
            refine List.mem_filter.2 ⟨List.mem_range.2 hio, ?_⟩
            have hlt := hok.lt i ops[i] (Array.getElem?_eq_getElem hio)
            have hb' : listed.getD i true = false := by simpa using hb
            simp only [hb', Bool.not_false, Bool.true_and, Array.getElem?_eq_getElem hio, Option.map_some, Option.getD_some]
            rw [Array.all_eq_true']
            intro e he
            have hel := hlt e he
            have h1 := ih e.on (by omega) (by omega)
            have h2 : listed.getD e.on false = true := by
              simp only [Array.getD_eq_getD_getElem?] at h1 ⊢
              rw [Array.getElem?_eq_getElem (by omega)] at h1 ⊢
              exact h1
            simp [h2]
          rw [hr] at hmem
          cases hmem
    have hTM : TM ops n T (upd T dl xl) listed = upd T dl xl := by
      unfold TM
      rw [if_pos (hall (n + 1) n (by omega) (by omega))]
    rw [hTM] at r
    exact ⟨_, S, H, r, hQ⟩
  intro fuel
  induction fuel with
  | zero =>
    intro listed a w S H hsz hc _ r
    have hr : Region.ready .any ops listed = [] := by
      unfold Region.ready
      rw [List.filter_eq_nil_iff]
      intro i hi hb
      simp only [Bool.and_eq_true] at hb
      have : 0 < (List.range ops.size).countP (fun i => !listed.getD i true) := List.countP_pos_iff.2 ⟨i, hi, hb.1⟩
      omega
    exact ⟨hr, done listed a w S H hsz hr r⟩
  | succ fuel ih =>
    intro listed a w S H hsz hc hinv r
    refine ⟨fun hr => done listed a w S H hsz hr r, fun i hi => ?_⟩
    unfold Region.ready at hi
    rw [List.mem_filter] at hi
    obtain ⟨hi1, hi2⟩ := hi
    have hio : i < ops.size := List.mem_range.1 hi1
    have hget : ops[i]? = some ops[i] := Array.getElem?_eq_getElem hio
    simp only [Bool.and_eq_true, hget, Option.map_some, Option.getD_some] at hi2
    obtain ⟨hun, haf⟩ := hi2
    have hun' : listed.getD i true = false := by simpa using hun
    have hnl : listed.getD n true = false := by
      cases hb : listed.getD n true with
      | false => rfl
      | true =>
        by_cases hin : i = n
        · subst hin; rw [hun'] at hb; cases hb
        · rw [hinv hb i (by omega)] at hun'; cases hun'
    have hedge : ∀ (j : Nat) (e : Edge), e ∈ ops[i].after → e.on = j → Region.binds .any e = true → j < ops.size → listed.getD j true = true := by
      intro j e he heo hbind hjl
      rw [Array.all_eq_true'] at haf
      have h1 := haf e he
      rw [hbind, heo] at h1
      simp only [Bool.not_true, Bool.false_or] at h1
      simp only [Array.getD_eq_getD_getElem?] at h1 ⊢
      rw [Array.getElem?_eq_getElem (by omega)] at h1 ⊢
      simpa using h1
    have hTMl : TM ops n T (upd T dl xl) listed = fun x => if ∃ (i : Nat) (o : Oper), i < n ∧ ops[i]? = some o ∧ o.dst = some x ∧ listed.getD i true = false then .top else T x := by
      unfold TM
      rw [if_neg (by rw [hnl]; simp)]
    -- the operands are known
    have hlook : ∀ y ∈ (ops[i]).looksAt ops, TM ops n T (upd T dl xl) listed y = T y := by
      intro y hy
      rw [hTMl]
      simp only
      rw [if_neg]
      rintro ⟨j, p, hjn, hj, hpd, hl⟩
      obtain ⟨e, he, heo, hbind⟩ := hok.ed i _ j p y hget hj hpd hjn hy
      have := hedge j e he heo hbind (by omega)
      rw [this] at hl
      cases hl
    have hsame : ∀ j, i ≠ j → (listed.setIfInBounds i true).getD j true = listed.getD j true := fun j hij => by
      simp only [Array.getD_eq_getD_getElem?, Array.getElem?_setIfInBounds_ne hij]
    have hself : (listed.setIfInBounds i true).getD i true = true := by
      simp only [Array.getD_eq_getD_getElem?, Array.getElem?_setIfInBounds_self_of_lt (by omega : i < listed.size), Option.getD_some]
    obtain ⟨d, x, hd, hdn, hgood, hTM', hinv'⟩ : ∃ d x, (ops[i]).dst = some d ∧ d < c.nt ∧ Good1 P c m ops T ops[i] x ∧ upd (TM ops n T (upd T dl xl) listed) d x = TM ops n T (upd T dl xl) (listed.setIfInBounds i true) ∧
        ((listed.setIfInBounds i true).getD n true = true → ∀ j, j < n → (listed.setIfInBounds i true).getD j true = true) := by
      by_cases hin : i = n
      · subst hin
        rw [hget] at hol
        cases hol
        have hallj : ∀ j, j < i → listed.getD j true = true := fun j hj => by
          obtain ⟨e, he, heo, hb⟩ := hok.all _ j hget hj
          exact hedge j e he heo hb (by omega)
        refine ⟨dl, xl, hdl, hln, hgl, ?_, fun _ j hj => by rw [hsame j (by omega)]; exact hallj j hj⟩
        have e1 : TM ops i T (upd T dl xl) listed = T := by
          rw [hTMl]
          funext y
          rw [if_neg]
          rintro ⟨j, p, hjn, _, _, hl⟩
          rw [hallj j hjn] at hl
          cases hl
        rw [e1]
        unfold TM
        rw [if_pos hself]
      · obtain ⟨d, hd, hdn, hgood⟩ := hT i _ (by omega) hget
        refine ⟨d, T d, hd, hdn, hgood, ?_, fun hb => ?_⟩
        · rw [hTMl]
          unfold TM
          rw [if_neg (by rw [hsame n hin, hnl]; simp)]
          funext x
          rw [upd_def]
          by_cases hx : x = d
          · subst hx
            rw [if_pos rfl, if_neg]
            rintro ⟨j, p, hjn, hj, hpd, hl⟩
            by_cases hij : i = j
            · subst hij
              rw [hself] at hl
              cases hl
            · exact hok.ne i _ j p hget hj hij (by rw [hd, hpd])
          · rw [if_neg hx]
            by_cases hex : ∃ (j : Nat) (p : Oper), j < n ∧ ops[j]? = some p ∧ p.dst = some x ∧ listed.getD j true = false
            · rw [if_pos hex]
              obtain ⟨j, p, hjn, hj, hpd, hl⟩ := hex
              rw [if_pos]
              have hij : i ≠ j := by
                intro e; subst e
                rw [hget] at hj
                cases hj
                rw [hd] at hpd
                cases hpd
                exact hx rfl
              exact ⟨j, p, hjn, hj, hpd, by rw [hsame j hij]; exact hl⟩
            · rw [if_neg hex, if_neg]
              rintro ⟨j, p, hjn, hj, hpd, hl⟩
              refine hex ⟨j, p, hjn, hj, hpd, ?_⟩
              by_cases hij : i = j
              · subst hij; exact hun'
              · rw [hsame j hij] at hl; exact hl
        · rw [hsame n hin, hnl] at hb
          cases hb
    have hcnt : (List.range ops.size).countP (fun j => !(listed.setIfInBounds i true).getD j true) ≤ fuel := by
      have := count_lt (fun j => !listed.getD j true) (fun j => !(listed.setIfInBounds i true).getD j true) (List.range ops.size) (fun j _ hj => by
        by_cases hij : i = j
        · subst hij
          rw [hself] at hj
          cases hj
        · rw [hsame j hij] at hj
          exact hj) hi1 hun (by rw [hself]; rfl)
      omega
    generalize ho : ops[i] = o at *
    have next : ∀ v w' S', Ext w S w' S' → InH w' S' → AVR (GRep w' S' m H) x v → wpAny P .any ops (QR c Q) fuel (listed.setIfInBounds i true) (a.put o.dst v) w' := by
      intro v w' S' hext hin hv
      rw [hd]
      refine ih _ _ w' S' H (by simpa using hsz) hcnt hinv' ?_
      rw [← hTM']
      exact (r.ext hext hin).put hdn hv
    have hw : wpOp P ops (QR c Q) i (wpAny P .any ops (QR c Q) fuel (listed.setIfInBounds i true)) a w := by
      unfold wpOp
      rw [hget]
      simp only
      have hrr : Rel c ⟨restr T (o.looksAt ops), m⟩ a w S H := by
        refine r.weak (fun y => ?_)
        unfold restr
        cases hc' : (o.looksAt ops).contains y with
        | false => exact .inr rfl
        | true => exact .inl (hlook y (by simpa using hc')).symm
      rcases hgood with ⟨hg, hop⟩ | ⟨hg, hx⟩
      · have hwant : Region.wanted o (yielded ops a.tmps) = true := by
          rcases hg with hg | ⟨j, want, dj, h1, h2, h3⟩
          · simp [Region.wanted, hg]
          · have h4 := r.tm dj
            have h5 : TM ops n T (upd T dl xl) listed dj = .s (.one (.b want)) := by rw [hlook dj (mem_looks_guard h1 h2)]; exact h3
            rw [show (⟨TM ops n T (upd T dl xl) listed, m⟩ : AS).t dj = .s (.one (.b want)) from h5] at h4
            have hv : a.tmps.getD dj undef = .bool want := rep_b (h4 : Rep w S (.b want) (a.tmps.getD dj undef))
            have hs : a.tmps[dj]? = some (.bool want) := by
              simp only [Array.getD_eq_getD_getElem?] at hv
              cases hq : a.tmps[dj]? with
              | none => rw [hq] at hv; cases hv
              | some u => rw [hq] at hv; simp only [Option.getD_some] at hv; rw [hv]
            simp only [Region.wanted, h1, yielded, h2, Option.bind_some, hs, beq_self_eq_true]
        rw [if_pos hwant]
        obtain ⟨odst, oop, oty, opos, oaf, og⟩ := o
        exact .inl (hop a w S H hrr odst opos oaf og _ _ (fun v w' S' h1 h2 h3 => next v w' S' h1 h2 h3))
      · have hwant : Region.wanted o (yielded ops a.tmps) = false := by
          obtain ⟨j, want, dj, h1, h2, h3⟩ := hg
          have h4 := r.tm dj
          rw [show (⟨TM ops n T (upd T dl xl) listed, m⟩ : AS).t dj = T dj from hlook dj (mem_looks_guard h1 h2)] at h4
          simp only [Region.wanted, h1, yielded, h2, Option.bind_some]
          rcases h3 with h3 | ⟨b, h3, hb⟩
          · rw [h3] at h4
            obtain ⟨vs, hv, _⟩ := h4
            simp only [Array.getD_eq_getD_getElem?] at hv
            cases hq : a.tmps[dj]? with
            | none => rfl
            | some u => rw [hq] at hv; simp only [Option.getD_some] at hv; subst hv; rfl
          · rw [h3] at h4
            have hv : a.tmps.getD dj undef = .bool b := rep_b (h4 : Rep w S (.b b) (a.tmps.getD dj undef))
            simp only [Array.getD_eq_getD_getElem?] at hv
            cases hq : a.tmps[dj]? with
            | none => rfl
            | some u =>
              rw [hq] at hv; simp only [Option.getD_some] at hv; subst hv
              cases b <;> cases want <;> first | rfl | cases hb
        rw [if_neg (by rw [hwant]; simp)]
        have := next undef w S (Ext.refl w S) r.sl (by rw [hx]; exact avr_undef)
        exact this
    exact hw

theorem DR.split {ops : Array Oper} {k : (Nat → AV) → Prop} : ∀ {l : List Oper} {o : Oper} {t : Nat → AV}, DR P c m ops k (l ++ [o]) t → DR P c m ops (fun T => ∃ x d, o.dst = some d ∧ d < c.nt ∧ Good1 P c m ops T o x ∧ k (upd T d x)) l t
  | [], o, t, h => by
    obtain ⟨x, d, h1, h2, h3, h4⟩ := h
    exact ⟨x, d, h1, h2, h3, h4⟩
  | o' :: l, o, t, h => by
    obtain ⟨x, d, h1, h2, h3, h4⟩ := h
    exact ⟨x, d, h1, h2, h3, DR.split h4⟩

/-- A region that draws its order, its last operation behind all the others. -/
theorem cdrawL {id : Nat} {l : List Oper} (hm : P.follows .mixedOrders = true) (hok : okDrawL l.toArray = true) (h : DR P c m l.toArray (fun T => Q .normal ⟨T, m⟩) l t) : AWC P c (.region id l.toArray true) Q ⟨t, m⟩ := by
  have ok := drawOkL_of hok
  have hne : l ≠ [] := by
    intro e; subst e
    have := ok.sz
    simp at this
  obtain ⟨l0, ol, rfl⟩ : ∃ l0 ol, l = l0 ++ [ol] := ⟨l.dropLast, l.getLast hne, (List.dropLast_concat_getLast hne).symm⟩
  have hn : (l0 ++ [ol]).toArray.size - 1 = l0.length := by simp
  rw [hn] at ok
  have h' := DR.split h
  have hgl : ∀ {i : Nat} {o : Oper}, l0[i]? = some o → (l0 ++ [ol])[i]? = some o := fun {i o} hi => by
    rw [List.getElem?_append_left (List.getElem?_eq_some_iff.1 hi).1]; exact hi
  have hnd : (dsts l0).Nodup := by
    have aux : ∀ (l : List Oper), (∀ (i : Nat) (o : Oper) (j : Nat) (p : Oper), l[i]? = some o → l[j]? = some p → i ≠ j → o.dst ≠ p.dst) → (dsts l).Nodup := by
      intro l
      induction l with
      | nil => intro _; exact List.nodup_nil
      | cons o l ih =>
        intro hne
        have ih' := ih (fun i o' j p hi hj hij => hne (i + 1) o' (j + 1) p (by simpa using hi) (by simpa using hj) (by omega))
        cases hd : o.dst with
        | none => simpa [dsts, hd] using ih'
        | some d =>
          have : dsts (o :: l) = d :: dsts l := by simp [dsts, hd]
          rw [this]
          refine List.nodup_cons.2 ⟨fun hm => ?_, ih'⟩
          unfold dsts at hm
          rw [List.mem_filterMap] at hm
          obtain ⟨p, hp, hpd⟩ := hm
          obtain ⟨j, hj, hjp⟩ := List.getElem_of_mem hp
          exact hne 0 o (j + 1) p rfl (by simp [List.getElem?_eq_getElem hj, hjp]) (by omega) (by rw [hd, hpd])
    exact aux l0 (fun i o j p hi hj => ok.ne i o j p (by simpa using hgl hi) (by simpa using hgl hj))
  obtain ⟨T, ⟨x, d, hod, hdn, hgood, hQ⟩, hTt, hG⟩ := DR.get h' hnd (fun i o hi y hy hm' => by
    unfold dsts at hm'
    rw [List.mem_filterMap] at hm'
    obtain ⟨p, hp, hpd⟩ := hm'
    obtain ⟨j, hj, hjp⟩ := List.getElem_of_mem hp
    have hjb : i + j < l0.length := by simp at hj; omega
    have hjl : l0[i + j]? = some p := by
      rw [List.getElem_drop] at hjp
      rw [List.getElem?_eq_getElem hjb, hjp]
    obtain ⟨e, he, heo, _⟩ := ok.ed i o (i + j) p y (by simpa using hgl hi) (by simpa using hgl hjl) hpd hjb hy
    have := ok.lt i o (by simpa using hgl hi) e he
    omega)
  intro a w S H r
  refine wp_region_any hm ?_
  have hG' : ∀ (i : Nat) (o : Oper), i < l0.length → ((l0 ++ [ol]).toArray)[i]? = some o → ∃ d, o.dst = some d ∧ d < c.nt ∧ Good1 P c m (l0 ++ [ol]).toArray T o (T d) := fun i o hi ho => hG i o (by
    have : (l0 ++ [ol])[i]? = some o := by simpa using ho
    rwa [List.getElem?_append_left hi] at this)
  have hcnt : (List.range (l0 ++ [ol]).toArray.size).countP (fun i => !(Array.replicate (l0 ++ [ol]).toArray.size false).getD i true) ≤ (l0 ++ [ol]).toArray.size := by
    refine Nat.le_trans List.countP_le_length ?_
    simp
  have hlf : (Array.replicate (l0 ++ [ol]).toArray.size false).getD l0.length true = false := by
    simp [Array.getD_eq_getD_getElem?]
  refine draw_last ok hG' (ol := ol) (by simp) hod hdn hgood hQ (l0 ++ [ol]).toArray.size (Array.replicate (l0 ++ [ol]).toArray.size false) a _ S H (by simp) hcnt (fun hb => by rw [hlf] at hb; cases hb) ?_
  have r' : Rel c ⟨t, m⟩ a w.drew S H := r.ext (Ext.drew w S) (r.sl.ext (Ext.drew w S))
  refine r'.weak (fun x => ?_)
  unfold TM
  rw [if_neg (by rw [hlf]; simp)]
  by_cases hx : x ∈ dsts l0
  · right
    rw [if_pos]
    unfold dsts at hx
    rw [List.mem_filterMap] at hx
    obtain ⟨p, hp, hpd⟩ := hx
    obtain ⟨j, hj, hjp⟩ := List.getElem_of_mem hp
    refine ⟨j, p, hj, ?_, hpd, ?_⟩
    · have : l0[j]? = some p := by rw [List.getElem?_eq_getElem hj, hjp]
      simpa using hgl this
    · have : j < l0.length + 1 := by omega
      simp [Array.getD_eq_getD_getElem?, this]
  · left
    rw [if_neg, hTt x hx]
    rintro ⟨i, o, hin, hi, hod, _⟩
    refine hx ?_
    unfold dsts
    rw [List.mem_filterMap]
    have hi' : l0[i]? = some o := by
      have : (l0 ++ [ol])[i]? = some o := by simpa using hi
      rwa [List.getElem?_append_left hin] at this
    exact ⟨o, List.mem_of_getElem? hi', hod⟩
end

/-- One more part of a struct, the cells told. -/
theorem bcons {place : Nat → Option (Nat × Nat)} {cs out : List Lf} {i off s : Nat} {x : SV} {rest : List (Nat × SV)} (cs' : List Lf) (hp : place i = some (off, s)) (hl : x.cells.length = s) (hb : off + s ≤ cs.length) (he : putAt cs off x.cells = cs') (t : Built place cs' rest out) : Built place cs ((i, x) :: rest) out := by
  subst he
  exact .cons _ _ _ _ _ _ _ hp hl hb t
end Go.Proofs.YtljkjkkpogkgbaaDoor.Abs

/-
  append to a slice that has no room, in a region that draws its order.
-/
namespace Go.Proofs.YtljkjkkpogkgbaaDoor.Abs
open Go.RowKit
section
variable {P : Program} {c : Ctx} {st : AS} {ty : TypeId} {α : Type} {f : α → List Lf} {sz : Nat}

theorem rep_z {w : World} {S : Stab} {v : Value} (h : Rep w S .nix v) : ∃ a, v = .slice a 0 0 := by cases h; exact ⟨_, rfl⟩

/-- []T{}. -/
theorem opD_bldz {t e bytes : Nat} {zl : List Lf} (si : P.underlying t = some (.slice e)) (ei : EI P e sz bytes zl) : OpD P c st (.buildSlice t 0 #[]) ty (.s (.one .nix)) := by
  intro a w S H r dst pos af g K Q hK
  obtain ⟨i, z, hi, hz, hsize, hbytes, hzs, hzl, hzo⟩ := ei.h
  have hsi : (P.info? e).map (·.size) = some sz := by rw [hi]; simp [hsize]
  have hm0 : madeCells (#[] : Array Value) 0 = #[] := by simp [madeCells]
  have hrun : (execOp a.eval ⟨dst, .buildSlice t 0 #[], ty, pos, af, g⟩).run P w = .ok (.value (.slice (some ⟨w.heap.size, 0, none⟩) 0 0)) (w.alloc (.cells #[] e)) := by
    simp [execOp, Instr.buildSlice, run_underlying si, run_sizeOf' hsi, Instr.fill, newRow]
    simp [Array.range_zero']
  unfold Oper.wp
  rw [hrun]
  exact hK _ _ S (Ext.alloc w S _) (r.sl.ext (Ext.alloc w S _)) (avr_rep (.nix _))

/-- append([]T{}, x...). -/
theorem opD_appz {t' t2 e bytes n m : Nat} {zl ys : List Lf} {x y : Operand} {sy : SV} (si : P.underlying t' = some (.slice e)) (ei : EI P e sz bytes zl) (h2 : NI P t2) (hx : opnd st x = .s (.one .nix)) (hy : opnd st y = .s sy) (hpub : sy.cells.all Lf.pubd = true) (hs : SrcOf P sy sz m ys)
    (hb : m * bytes ≤ 140737488355328) (h63 : m ≤ maxLen) (hn : n = m) :
    OpD P c st (.call { callee := .builtin .append, args := #[x, y], argTypes := #[t', t2] }) ty (.s (.one (.sl n ys))) := by
  subst hn
  by_cases h0 : n = 0
  · subst h0
    intro a w S H r dst pos af g K Q hK
    have hx' := opnd_rel r x
    rw [hx] at hx'
    obtain ⟨b, hv⟩ := rep_z (hx' : Rep w S .nix (a.eval x))
    have hy' := opnd_rel r y
    rw [hy] at hy'
    obtain ⟨news, hsrc, hl, hls⟩ := hs.src (svr_pub hy' hpub)
    obtain ⟨i, z, hi, hz, hsize, hbytes, hzs, hzl, hzo⟩ := ei.h
    have hys : ys = [] := List.eq_nil_of_length_eq_zero (by rw [hl, Nat.zero_mul])
    subst hys
    have hnews : news = [] := List.eq_nil_of_length_eq_zero (by rw [← hls.1]; rfl)
    subst hnews
    have hrun := run_app_zero (P := P) (w := w) (t := t') (t2 := t2) (ty := ty) (n := 0) (cap := 0) (base := b) si hi hsize h2 hsrc (Nat.le_refl _)
    unfold Oper.wp
    have : (execOp a.eval ⟨dst, .call { callee := .builtin .append, args := #[x, y], argTypes := #[t', t2] }, ty, pos, af, g⟩).run P w = .ok (.value (.slice b 0 0)) w := by
      simp [execOp, resolve, invoke, builtin, hv, hrun]
    rw [this]
    exact hK _ _ S (Ext.refl w S) r.sl (avr_rep (.sl0 _ _))
  · refine opD_newArr (e := e) (sz := sz) ei.p fun a w S H r => ?_
    have hx' := opnd_rel r x
    rw [hx] at hx'
    obtain ⟨b, hv⟩ := rep_z (hx' : Rep w S .nix (a.eval x))
    have hy' := opnd_rel r y
    rw [hy] at hy'
    obtain ⟨news, hsrc, hl, hls⟩ := hs.src (svr_pub hy' hpub)
    obtain ⟨i, z, hi, hz, hsize, hbytes, hzs, hzl, hzo⟩ := ei.h
    subst hsize
    subst hbytes
    have hnl : news.length = n * i.size := by rw [← hls.1, hl]
    have hfc : ∀ w1 : World, (∀ a, w1.cell? a = w.cell? a) → (Builtin.firstCells i.size 0 (.slice b 0 0)).run P w1 = .ok ([] : List Value).toArray w1 := fun w1 _ => by
      cases b with
      | none => simp [Builtin.firstCells]
      | some b => simp only [Builtin.firstCells, loadCells, Nat.zero_mul]; first | rfl | (unfold loadCellsFrom; rfl) | (simp [loadCellsFrom])
    have hrun := run_app_grow (P := P) (w := w) (t := t') (t2 := t2) (ty := ty) (n := 0) (m := n) (cap := 0) (base := b) (olds := []) si hi hz h2 hsrc hfc (by omega) (by simp only [maxLen] at h63; omega) (growslice_fits (by omega) (by rw [Nat.zero_add]; exact hb))
    rw [Nat.zero_add] at hrun
    have hcap := grownCap_ge w n 0 e
    have hcm : grownCap w n 0 e ≤ maxLen := grownCap_le_maxLen w n 0 e h63
    have hx : Ext w S (w.drew.alloc (.cells (([] : List Value).toArray ++ news.toArray ++ Builtin.zeroCells z.cells (grownCap w n 0 e - n)) e)) S := (Ext.drew w S).trans (Ext.alloc w.drew S _)
    refine ⟨.slice (some ⟨w.heap.size, 0, none⟩) n (grownCap w n 0 e), _, news, fun _ _ _ _ => by simp only [execOp, resolve, invoke, builtin]; simp [hv, hrun], hx, r.sl.ext hx, ?_, hls.mono fun l v => Rep.mono (hx.keeps r.sl)⟩
    refine ⟨hnl, .inr ⟨w.heap.size, _, _, rfl, Nat.le_refl _, heap_alloc_new w.drew _, hcap, hcm, ?_, ?_⟩⟩
    · simp only [Array.size_append, List.size_toArray, List.length_nil, size_zeroCells, hzs, hnl, Nat.zero_add, ← Nat.add_mul]
      congr 1; omega
    · rw [← hnl]
      simp
theorem opv_minu {ts : Array TypeId} {x y : Operand} {k k' : IntKind} {n : Nat} {u v : BitVec n} (hx : opnd st x = .s (.one (.i k (u.toNat : Int)))) (hy : opnd st y = .s (.one (.i k' (v.toNat : Int)))) :
    OpV P c st (.call { callee := .builtin .min, args := #[x, y], argTypes := ts }) ty (.s (.one (.i k ((if v.toNat < u.toNat then v else u).toNat : Int)))) := by
  have h := opv_min (P := P) (c := c) (ty := ty) (ts := ts) hx hy
  have e : (if (v.toNat : Int) < (u.toNat : Int) then (v.toNat : Int) else (u.toNat : Int)) = ((if v.toNat < u.toNat then v else u).toNat : Int) := by
    by_cases hlt : v.toNat < u.toNat
    · rw [if_pos hlt, if_pos (by omega)]
    · rw [if_neg hlt, if_neg (by omega)]
  rw [e] at h
  exact h
theorem opD_apzf {t' t2 e bytes : Nat} {zl : List Lf} {x y : Operand} {us : List α} (si : P.underlying t' = some (.slice e)) (ei : EI P e sz bytes zl) (h2 : NI P t2) (hf : ∀ x, (f x).length = sz) (hx : opnd st x = .s (.one .nix)) (hy : opnd st y = .s (.one (.sl us.length (us.flatMap f))))
    (hb : us.length * bytes ≤ 140737488355328) (hbp : 0 < bytes) : OpD P c st (.call { callee := .builtin .append, args := #[x, y], argTypes := #[t', t2] }) ty (.s (.one (.sl us.length (us.flatMap f)))) := by
  refine opD_appz si ei h2 hx hy rfl (.sl _ _ _ (flat_len hf us)) hb ?_ rfl
  have : us.length ≤ us.length * bytes := Nat.le_mul_of_pos_right _ hbp
  simp only [maxLen]; omega
end
end Go.Proofs.YtljkjkkpogkgbaaDoor.Abs

/-
  A field of a struct that is no variable.
-/
namespace Go.Proofs.YtljkjkkpogkgbaaDoor.Abs
open Go.RowKit
structure FT (P : Program) (s : TypeId) (f off : Nat) (ft : TypeId) : Prop where
  h : ∃ fs fld, P.underlying s = some (.struct fs) ∧ fs[f]? = some fld ∧ fld.offset = off ∧ fld.type = ft
section
variable {P : Program} {c : Ctx} {st : AS} {ty : TypeId}
theorem opv_field1 {s f off ft : Nat} {x : Operand} {ls : List Lf} {y : Lf} (h : FT P s f off ft) (ti : TI P ft false 1) (hx : opnd st x = .s (.agg ls)) (hy : ls[off]? = some y) : OpV P c st (.field s x f) ty (.s (.one y)) := by
  intro a w S H r
  have h1 := opnd_rel r x
  rw [hx] at h1
  obtain ⟨cs, hv, hl, hr⟩ := h1
  obtain ⟨fs, fld, hu, hf, ho, ht⟩ := h.h
  have hj : off < cs.size := by
    have := (List.getElem?_eq_some_iff.1 hy).1
    rw [hl] at this
    simpa using this
  have hg : cs[off]? = some cs[off] := Array.getElem?_eq_getElem hj
  refine ⟨cs[off], hr off y _ hy (by simp), fun _ _ _ _ => ?_⟩
  subst ho ht
  simp [execOp, hv, Instr.field, run_underlying hu, hf, part, asAgg, ti.run_isAgg, hg]
theorem opv_fieldN {s f off ft sz : Nat} {x : Operand} {ls : List Lf} (h : FT P s f off ft) (ti : TI P ft true sz) (hx : opnd st x = .s (.agg ls)) (hb : off + sz ≤ ls.length) : OpV P c st (.field s x f) ty (.s (.agg ((ls.drop off).take sz))) := by
  intro a w S H r
  have h1 := opnd_rel r x
  rw [hx] at h1
  obtain ⟨cs, hv, hl, hr⟩ := h1
  obtain ⟨fs, fld, hu, hf, ho, ht⟩ := h.h
  have hsz : cs.size = ls.length := by rw [hl]; simp
  subst ho ht
  refine ⟨.agg (cs.extract fld.offset (fld.offset + sz)), ⟨_, rfl, by simp [hsz], fun j l u hj hu => ?_⟩, fun _ _ _ _ => by simp [execOp, hv, Instr.field, run_underlying hu, hf, part, asAgg, ti.run_isAgg, run_sizeOf' ti.i]⟩
  rw [List.getElem?_take] at hj
  split at hj
  · rw [List.getElem?_drop] at hj
    refine hr _ l u hj ?_
    rw [Array.toList_extract, List.extract_eq_take_drop, List.getElem?_take] at hu
    split at hu
    · rw [List.getElem?_drop] at hu; exact hu
    · cases hu
  · cases hj
end
end Go.Proofs.YtljkjkkpogkgbaaDoor.Abs

/-
  What arguments of each kind are.
-/
namespace Go.Proofs.YtljkjkkpogkgbaaDoor.Abs
open Go.RowKit

theorem ft_i64 {ls : List Lf} (h : Fits (.int .i64) ls) : ∃ n : Int, (-9223372036854775808 ≤ n ∧ n ≤ 9223372036854775807) ∧ ls = eI n := by
  obtain ⟨n, hw, rfl⟩ := h
  exact ⟨n, lit_i64 hw, rfl⟩
theorem lit_un {k : IntKind} {n : Int} (h : (Lit.int k n).wf = true) : k.min ≤ n ∧ n ≤ k.max := by
  simp only [Lit.wf, Bool.and_eq_true, decide_eq_true_eq] at h
  exact h
theorem ft_u8 {ls : List Lf} (h : Fits (.int .u8) ls) : ∃ a : UInt8, True ∧ ls = eU8 a := by
  obtain ⟨n, hw, rfl⟩ := h
  obtain ⟨h1, h2⟩ := lit_un hw
  simp [IntKind.min, IntKind.max, IntKind.bits, IntKind.signed] at h1 h2
  refine ⟨UInt8.ofNat n.toNat, trivial, ?_⟩
  show _ = [Lf.i .u8 _]
  rw [show ((UInt8.ofNat n.toNat).toNat : Int) = n by rw [UInt8.toNat_ofNat']; omega]
theorem ft_b8 {ls : List Lf} (h : Fits (.int .u8) ls) : ∃ a : BitVec 8, True ∧ ls = [.i .u8 (a.toNat : Int)] := by
  obtain ⟨a, _, rfl⟩ := ft_u8 h
  exact ⟨a.toBitVec, trivial, rfl⟩
theorem ft_u16 {ls : List Lf} (h : Fits (.int .u16) ls) : ∃ a : BitVec 16, True ∧ ls = eU16 a := by
  obtain ⟨n, hw, rfl⟩ := h
  obtain ⟨h1, h2⟩ := lit_un hw
  simp [IntKind.min, IntKind.max, IntKind.bits, IntKind.signed] at h1 h2
  refine ⟨BitVec.ofNat 16 n.toNat, trivial, ?_⟩
  show _ = [Lf.i .u16 _]
  rw [show ((BitVec.ofNat 16 n.toNat).toNat : Int) = n by rw [BitVec.toNat_ofNat]; omega]
theorem ft_u32 {ls : List Lf} (h : Fits (.int .u32) ls) : ∃ a : BitVec 32, True ∧ ls = eU32 a := by
  obtain ⟨n, hw, rfl⟩ := h
  obtain ⟨h1, h2⟩ := lit_un hw
  simp [IntKind.min, IntKind.max, IntKind.bits, IntKind.signed] at h1 h2
  refine ⟨BitVec.ofNat 32 n.toNat, trivial, ?_⟩
  show _ = [Lf.i .u32 _]
  rw [show ((BitVec.ofNat 32 n.toNat).toNat : Int) = n by rw [BitVec.toNat_ofNat]; omega]
theorem ft_u64 {ls : List Lf} (h : Fits (.int .u64) ls) : ∃ a : BitVec 64, True ∧ ls = eU64 a := by
  obtain ⟨n, hw, rfl⟩ := h
  obtain ⟨h1, h2⟩ := lit_un hw
  simp [IntKind.min, IntKind.max, IntKind.bits, IntKind.signed] at h1 h2
  refine ⟨BitVec.ofNat 64 n.toNat, trivial, ?_⟩
  show _ = [Lf.i .u64 _]
  rw [show ((BitVec.ofNat 64 n.toNat).toNat : Int) = n by rw [BitVec.toNat_ofNat]; omega]
theorem ft_bool {ls : List Lf} (h : Fits .bool ls) : ∃ b : Bool, True ∧ ls = eB b := by
  obtain ⟨b, rfl⟩ := h
  exact ⟨b, trivial, rfl⟩
theorem ft_str {ls : List Lf} (h : Fits .str ls) : ∃ s : List UInt8, s.length ≤ maxLen ∧ ls = eS s := by
  obtain ⟨s, hs, rfl⟩ := h
  exact ⟨s.data.toList, by simpa using hs, by simp [eS]⟩
theorem ft_sl {α : Type} {e : Sh} {f : α → List Lf} {Q : α → Prop} (he : ∀ {r}, Fits e r → ∃ x, Q x ∧ r = f x) {ls : List Lf} (h : Fits (.sl e) ls) : ∃ xs : List α, (xs.length ≤ maxLen ∧ ∀ x ∈ xs, Q x) ∧ ls = eL f xs := by
  obtain ⟨rows, hl, hr, rfl⟩ := h
  have : ∃ xs : List α, (∀ x ∈ xs, Q x) ∧ rows = xs.map f := by
    clear hl
    induction rows with
    | nil => exact ⟨[], fun _ h => by simp at h, rfl⟩
    | cons r rs ih =>
      obtain ⟨x, hq, hx⟩ := he (hr r (List.mem_cons_self ..))
      obtain ⟨xs, hqs, hxs⟩ := ih (fun r h => hr r (List.mem_cons_of_mem _ h))
      exact ⟨x :: xs, fun y hy => by rcases List.mem_cons.1 hy with rfl | hy; exact hq; exact hqs y hy, by rw [hx, hxs]; rfl⟩
  obtain ⟨xs, hq, rfl⟩ := this
  exact ⟨xs, ⟨by simpa using hl, hq⟩, by rw [eL, List.flatMap, List.length_map]⟩
end Go.Proofs.YtljkjkkpogkgbaaDoor.Abs

/-
  How rounds are reckoned with.
-/
namespace Go.Proofs.YtljkjkkpogkgbaaDoor.Abs

theorem wI_id {n : Int} (h1 : -9223372036854775808 ≤ n) (h2 : n ≤ 9223372036854775807) : wI n = n := by
  unfold wI IntKind.wrap
  simp [IntKind.bits, IntKind.signed]
  omega
theorem lt_fuel {n : Nat} (h : n ≤ 1000000000000000000) : n < fuel := by unfold fuel; omega
theorem idx_nat {α : Type} (xs : List α) (i : Nat) : idx xs (i : Int) = xs[i]? := by
  unfold idx
  rw [if_pos (Int.natCast_nonneg i), Int.toNat_natCast]
theorem idx_get {α : Type} {xs : List α} {j : Int} (h0 : 0 ≤ j) (h1 : j < xs.length) : ∃ x, idx xs j = some x ∧ xs[j.toNat]? = some x := by
  have h : j.toNat < xs.length := by omega
  exact ⟨xs[j.toNat], by unfold idx; rw [if_pos h0, List.getElem?_eq_getElem h], List.getElem?_eq_getElem h⟩
theorem idx_of {α : Type} {xs : List α} {j : Int} {x : α} (h0 : 0 ≤ j) (h : xs[j.toNat]? = some x) : idx xs j = some x := by
  unfold idx
  rw [if_pos h0, h]
theorem cut_of {α : Type} {xs : List α} {lo hi : Int} (h0 : 0 ≤ lo) (h1 : lo ≤ hi) (h2 : hi ≤ xs.length) : cut xs lo hi = some ((xs.drop lo.toNat).take (hi.toNat - lo.toNat)) := by
  unfold cut
  rw [if_pos ⟨h0, h1, h2⟩]

theorem iterB_inv {σ β : Type} {f : σ → Option (LB σ β)} {P : σ → Prop} {μ : σ → Nat} {R : β → Prop}
    (h : ∀ s, P s → (∃ s', f s = some (.cont s') ∧ P s' ∧ μ s' < μ s) ∨ ∃ b, f s = some (.brk b) ∧ R b) : ∀ (n : Nat) (s : σ), P s → μ s < n → ∃ b, iterB f n s = some b ∧ R b
  | 0, s, _, hm => by omega
  | n + 1, s, hp, hm => by
    rcases h s hp with ⟨s', hf, hp', hlt⟩ | ⟨b, hf, hr⟩
    · obtain ⟨b, hb, hr⟩ := iterB_inv h n s' hp' (by omega)
      exact ⟨b, by rw [iterB, hf]; exact hb, hr⟩
    · exact ⟨b, by rw [iterB, hf], hr⟩
theorem iter_inv {σ β ρ : Type} {f : σ → Option (LR σ β ρ)} {P : σ → Prop} {μ : σ → Nat} {R : Sum ρ β → Prop}
    (h : ∀ s, P s → (∃ s', f s = some (.cont s') ∧ P s' ∧ μ s' < μ s) ∨ (∃ b, f s = some (.brk b) ∧ R (.inr b)) ∨ ∃ r, f s = some (.ret r) ∧ R (.inl r)) : ∀ (n : Nat) (s : σ), P s → μ s < n → ∃ b, iter f n s = some b ∧ R b
  | 0, s, _, hm => by omega
  | n + 1, s, hp, hm => by
    rcases h s hp with ⟨s', hf, hp', hlt⟩ | ⟨b, hf, hr⟩ | ⟨b, hf, hr⟩
    · obtain ⟨b, hb, hr⟩ := iter_inv h n s' hp' (by omega)
      exact ⟨b, by rw [iter, hf]; exact hb, hr⟩
    · exact ⟨.inr b, by rw [iter, hf], hr⟩
    · exact ⟨.inl b, by rw [iter, hf], hr⟩

/-- A loop over a row, told as a fold. -/
theorem iterB_fold {α σ β τ : Type} {f : τ → Option (LB τ β)} (st : σ → Nat → τ) (xs : List α) (g : σ → α → σ) (out : σ → β) (hl : xs.length < 1000000000000000000000000)
    (h1 : ∀ acc i x, xs[i]? = some x → f (st acc i) = some (.cont (st (g acc x) (i + 1)))) (h2 : ∀ acc, f (st acc xs.length) = some (.brk (out acc))) (a0 : σ) : iterB f fuel (st a0 0) = some (out (xs.foldl g a0)) := by
  have key : ∀ (k i : Nat) (acc : σ) (n : Nat), k + i = xs.length → k < n → iterB f n (st acc i) = some (out ((xs.drop i).foldl g acc)) := by
    intro k
    induction k with
    | zero =>
      intro i acc n hi hn
      obtain ⟨m, rfl⟩ : ∃ m, n = m + 1 := ⟨n - 1, by omega⟩
      have : i = xs.length := by omega
      subst this
      rw [iterB, h2, List.drop_length]
      rfl
    | succ k ih =>
      intro i acc n hi hn
      obtain ⟨m, rfl⟩ : ∃ m, n = m + 1 := ⟨n - 1, by omega⟩
      have hlt : i < xs.length := by omega
      rw [iterB, h1 acc i xs[i] (List.getElem?_eq_getElem hlt), List.drop_eq_getElem_cons hlt, List.foldl_cons]
      exact ih (i + 1) _ m (by omega) (by omega)
  have := key xs.length 0 a0 fuel (by omega) hl
  rwa [List.drop_zero] at this
end Go.Proofs.YtljkjkkpogkgbaaDoor.Abs

