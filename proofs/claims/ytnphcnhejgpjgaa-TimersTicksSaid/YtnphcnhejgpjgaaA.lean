/-
  What stands beneath the four laws of the timers, part A.
-/
import Derived.Conc.Beside
import Derived.Conc.CrowdComm
import GoSem.Dispatch
import Derived.Laws.Sem
import Derived.Control
import Derived.Tactics
import Derived.Scope
import Derived.Orders
import Derived.Conc.CompanyDraw
import Derived.Conc.Own5
set_option linter.unusedVariables false
set_option linter.unusedSimpArgs false
section
namespace Go.Proofs.Ytnphcnhejgpjgaa.Co
open Go.Conc
open Go.ConcN (sumTo upd sumTo_upd upd_ne upd_same)

/-- An entry that is neither 'disable' nor 'enable'. -/
def EvN (e : Event) : Prop := e.loc ≠ .mark .disable ∧ e.loc ≠ .mark .enable

/-- g, in state s, is on its way to a stop: whatever the others do (R) ahead of each of its steps. Big: what is done in one stride. -/
inductive Tree {σ : Type} (P : Program) (main : Bool) (wd : σ → World) (R : σ → σ → Prop) (D : σ → Array Event → σ → Prop)
    (Big : Goroutine → σ → (Goroutine → σ → Prop) → Prop) (Stop : Goroutine → σ → Prop) : Goroutine → σ → Prop
  | stop {g : Goroutine} {s : σ} (h : ∀ s₁, R s s₁ → Stop g s₁) : Tree P main wd R D Big Stop g s
  | step {g : Goroutine} {s : σ} (hs : g.status = .running) (g' : σ → Goroutine) (s' : σ → σ) (es : σ → Array Event)
      (h : ∀ s₁, R s s₁ → stepG P main g (wd s₁) = .go (g' s₁) (wd (s' s₁)) (es s₁))
      (hd : ∀ s₁, R s s₁ → D s₁ (es s₁) (s' s₁))
      (k : ∀ s₁, R s s₁ → Tree P main wd R D Big Stop (g' s₁) (s' s₁)) : Tree P main wd R D Big Stop g s
  | big {g : Goroutine} {s : σ} (hs : g.status = .running) (K : Goroutine → σ → Prop) (h : ∀ s₁, R s s₁ → Big g s₁ K)
      (k : ∀ g' s', K g' s' → Tree P main wd R D Big Stop g' s') : Tree P main wd R D Big Stop g s

section
variable {σ : Type} {P : Program} {main : Bool} {wd : σ → World} {R : σ → σ → Prop} {D : σ → Array Event → σ → Prop}
  {Big : Goroutine → σ → (Goroutine → σ → Prop) → Prop} {Stop Stop' : Goroutine → σ → Prop}

theorem Tree.rely (tr : ∀ a b c, R a b → R b c → R a c) {g : Goroutine} {s s₁ : σ} (h : Tree P main wd R D Big Stop g s) (hr : R s s₁) : Tree P main wd R D Big Stop g s₁ := by
  cases h with
  | stop h => exact .stop fun s₂ h₂ => h s₂ (tr _ _ _ hr h₂)
  | step hs g' s' es h hd k => exact .step hs g' s' es (fun s₂ h₂ => h s₂ (tr _ _ _ hr h₂)) (fun s₂ h₂ => hd s₂ (tr _ _ _ hr h₂)) (fun s₂ h₂ => k s₂ (tr _ _ _ hr h₂))
  | big hs K h k => exact .big hs K (fun s₂ h₂ => h s₂ (tr _ _ _ hr h₂)) k

theorem Tree.one {g : Goroutine} {s : σ} (hs : g.status = .running)
    (h : ∀ s₁, R s s₁ → ∃ g' s' es, stepG P main g (wd s₁) = .go g' (wd s') es ∧ D s₁ es s' ∧ Tree P main wd R D Big Stop g' s') : Tree P main wd R D Big Stop g s := by
  classical
  have h' : ∀ s₁, ∃ x : Goroutine × σ × Array Event, R s s₁ → stepG P main g (wd s₁) = .go x.1 (wd x.2.1) x.2.2 ∧ D s₁ x.2.2 x.2.1 ∧ Tree P main wd R D Big Stop x.1 x.2.1 := by
    intro s₁
    by_cases hr : R s s₁
    · obtain ⟨g', s', es, a, b, c⟩ := h s₁ hr
      exact ⟨(g', s', es), fun _ => ⟨a, b, c⟩⟩
    · exact ⟨(g, s, #[]), fun x => absurd x hr⟩
  obtain ⟨f, hf⟩ := Classical.axiomOfChoice h'
  exact .step hs (fun s₁ => (f s₁).1) (fun s₁ => (f s₁).2.1) (fun s₁ => (f s₁).2.2) (fun s₁ hr => (hf s₁ hr).1) (fun s₁ hr => (hf s₁ hr).2.1) (fun s₁ hr => (hf s₁ hr).2.2)

theorem Tree.mono (hst : ∀ g s, Stop g s → Stop' g s) {g : Goroutine} {s : σ} (h : Tree P main wd R D Big Stop g s) : Tree P main wd R D Big Stop' g s := by
  induction h with
  | stop h => exact .stop fun s₁ h₁ => hst _ _ (h s₁ h₁)
  | step hs g' s' es h hd k ih => exact .step hs g' s' es h hd ih
  | big hs K h k ih => exact .big hs K h ih

/-- Behind a stop another tree. -/
theorem Tree.bind (tr : ∀ a b c, R a b → R b c → R a c) (rf : ∀ s, R s s) {g : Goroutine} {s : σ} (h : Tree P main wd R D Big Stop g s) (hk : ∀ g s, (∀ s₁, R s s₁ → Stop g s₁) → Tree P main wd R D Big Stop' g s) :
    Tree P main wd R D Big Stop' g s := by
  induction h with
  | stop h => exact hk _ _ h
  | step hs g' s' es h hd k ih => exact .step hs g' s' es h hd ih
  | big hs K h k ih => exact .big hs K h ih
end

/-! ### the trace -/

structure PastK (t : Trace) : Prop where
  plain : ∀ op ∈ t, op.act ≠ .mark .disable ∧ op.act ≠ .mark .enable
  clean : ∀ said, ¬ Race said t
  known : ∀ i a, touchAt t i = some a → a.loc.isMemory = true → Knows t 0 i
  over : t.HandedOver

theorem ofEvent_mark_ne {e : Event} (h : EvN e) : MemAct.ofEvent e ≠ .mark .disable ∧ MemAct.ofEvent e ≠ .mark .enable := by
  obtain ⟨loc, wr, sy⟩ := e
  obtain ⟨h1, h2⟩ := h
  cases loc <;> cases wr <;> cases sy <;> simp_all [MemAct.ofEvent]

theorem plain_app {t u : Trace} (h : ∀ op ∈ t, op.act ≠ .mark .disable ∧ op.act ≠ .mark .enable) (hu : ∀ op ∈ u, op.act ≠ .mark .disable ∧ op.act ≠ .mark .enable) : ∀ op ∈ t ++ u, op.act ≠ .mark .disable ∧ op.act ≠ .mark .enable :=
  fun op hop => (Array.mem_append.1 hop).elim (h op) (hu op)

theorem deaf_plain {t : Trace} (h : ∀ op ∈ t, op.act ≠ .mark .disable ∧ op.act ≠ .mark .enable) (g : Nat) : ∀ i, t.deaf g i = 0
  | 0 => rfl
  | i + 1 => by
    unfold Trace.deaf
    split
    · rename_i x heq
      exact absurd rfl (h _ (mem_of_getElem? heq)).1
    · rename_i x heq
      exact absurd rfl (h _ (mem_of_getElem? heq)).2
    · exact deaf_plain h g i

theorem heard_plain {t : Trace} (h : ∀ op ∈ t, op.act ≠ .mark .disable ∧ op.act ≠ .mark .enable) {i : Nat} {op : MemOp} (hi : t[i]? = some op) : t.heard i := ⟨op.g, by simp [Trace.g?, hi], deaf_plain h _ _⟩

theorem plain_events {g : Nat} {fn : FuncId} {pos : String} {es : Array Event} (h : ∀ e ∈ es, EvN e) : ∀ op ∈ MemOp.ofEvents g fn pos es, op.act ≠ .mark .disable ∧ op.act ≠ .mark .enable := by
  intro op hop
  obtain ⟨e, he, rfl⟩ := Go.Conc.mem_ofEvents hop
  exact ofEvent_mark_ne (h e he)

theorem PastK.own {t : Trace} (h : PastK t) {fn : FuncId} {pos : String} {es : Array Event} (hes : ∀ e ∈ es, EvN e) : PastK (t ++ MemOp.ofEvents 0 fn pos es) := by
  have hu : ∀ op ∈ MemOp.ofEvents 0 fn pos es, op.g = 0 := fun op hop => by obtain ⟨e, _, rfl⟩ := Go.Conc.mem_ofEvents hop; rfl
  refine ⟨plain_app h.plain (plain_events hes), fun said => noRace_append (h.clean said) hu fun i a ha op hop b hb hc => h.known i a ha hc.2.1, fun i a ha hm => ?_, handedOver_app h.over fun op hop => .inl (hu op hop)⟩
  obtain ⟨x, hx, hxa⟩ := touch_of ha
  rcases getElem?_append_cases hx with ⟨_, hx'⟩ | ⟨_, hxu⟩
  · exact (h.known i a (by rw [touchAt_of hx']; exact hxa) hm).app _
  · have := knows_own hx
    rwa [hu x hxu] at this

theorem PastK.nil : PastK #[] :=
  ⟨by simp, fun said => by rintro ⟨i, j, _, ⟨a, b, ha, _⟩, _⟩; simp [Trace.act?] at ha, fun i a ha => by simp [touchAt, Trace.act?] at ha, fun i g hg => by simp [Trace.g?] at hg⟩

/-- All but goroutine 0 only leave. -/
def Lvs (P : Program) (gs : Array Goroutine) (q : Nat → Nat) : Prop := ∀ i g, 0 < i → gs[i]? = some g → QuitsIn P (q i) g

theorem Lvs.awake {P : Program} {gs : Array Goroutine} {q : Nat → Nat} {a : Goroutine} (h : Lvs P gs q) (h0 : gs[0]? = some a) (hr : Go.Conc.awake a) : ∀ g ∈ gs, Go.Conc.awake g := by
  intro g hg
  obtain ⟨i, hi, rfl⟩ := Array.mem_iff_getElem.1 hg
  rcases Nat.eq_zero_or_pos i with rfl | hpos
  · have : gs[0] = a := by simpa [Array.getElem?_eq_getElem hi] using h0
    rw [this]; exact hr
  · exact awake_of ((h i _ hpos (Array.getElem?_eq_getElem hi)).status.elim .inl fun x => .inr (.inr x))

theorem woken_q {P : Program} {g g' b : Goroutine} {w' : World} {k : Nat} (hB : QuitsIn P k b) : woken P g g' w' b = b := by
  unfold woken
  split
  · exact again_running _ hB.status
  · rfl

/-- The leavers slip, till goroutine 0 takes a step. -/
theorem slip {P : Program} (M : Nat) : ∀ (gs : Array Goroutine) (a : Goroutine) (w : World) (sl : Option (Nat × Nat)) (t : Trace) (q : Nat → Nat), sumTo gs.size q = M → gs[0]? = some a → a.status = .running → Lvs P gs q →
    ∃ (N : Nat) (gs' : Array Goroutine) (d e : Nat) (sl' sl'' : Option (Nat × Nat)) (q' : Nat → Nat),
      runNT P N (crowd gs w sl) t = (.next (crowd gs' (w.at d) sl'), t) ∧ gs'.size = gs.size ∧ gs'[0]? = some a ∧ Lvs P gs' q' ∧ stepT P (crowd gs' (w.at d) sl') = runT P (crowd gs' (w.at e) sl'') 0 := by
  induction M using Nat.strongRecOn with
  | ind M ih =>
    intro gs a w sl t q hM h0 hrun hL
    obtain ⟨i, g, d, sl', hi, hg, hst⟩ := crowd_pick (P := P) (w := w) (sl := sl) (hL.awake h0 (awake_of (.inl hrun))) ⟨0, a, h0, hrun⟩
    rcases Nat.eq_zero_or_pos i with rfl | hpos
    · exact ⟨0, gs, w.drawn, d, sl, sl', q, rfl, rfl, h0, hL, hst⟩
    · have hq := hL i g hpos hi
      have hi0 : (i == 0) = false := by simp; omega
      have hlt : i < gs.size := (Array.getElem?_eq_some_iff.1 hi).1
      cases hqi : q i with
      | zero => rw [hqi] at hq; rw [show g.status = .finished from hq] at hg; cases hg
      | succ k =>
        rw [hqi] at hq
        rcases hq with hf | ⟨_, g', hstp, hq'⟩
        · rw [hf] at hg; cases hg
        have hrunT := runT_crowd_go (P := P) (sl := sl') (i := i) hi (by rw [hi0]; exact hstp (w.at d))
        have hsz : ((gs.map (woken P g g' (w.at d))).setIfInBounds i g').size = gs.size := by simp
        have hsum : sumTo gs.size (upd q i k) + (k + 1) = sumTo gs.size q + k := by
          have := sumTo_upd q k id hlt
          simpa [hqi] using this
        obtain ⟨N, gs', d', e, sl1, sl2, q', hr, hs', h0', hL', hst'⟩ := ih (sumTo gs.size (upd q i k)) (by omega) ((gs.map (woken P g g' (w.at d))).setIfInBounds i g') a (w.at d) sl' t (upd q i k) (by rw [hsz])
          (by
            have hne : i ≠ 0 := by omega
            rw [Array.getElem?_setIfInBounds_ne hne, Array.getElem?_map, h0]
            simp [woken_run hrun]) hrun
          (fun j x hj hx => by
            by_cases hji : i = j
            · subst hji
              rw [Array.getElem?_setIfInBounds_self_of_lt (by simpa using hlt)] at hx
              obtain rfl := Option.some.inj hx
              rw [upd_same]
              exact hq'
            · rw [Array.getElem?_setIfInBounds_ne hji, Array.getElem?_map] at hx
              obtain ⟨y, hy, rfl⟩ := Option.map_eq_some_iff.1 hx
              have hqj := hL j y hj hy
              rw [woken_q hqj, upd_ne q k (Ne.symm hji)]
              exact hqj)
        refine ⟨N + 1, gs', d', e, sl1, sl2, q', ?_, hs'.trans hsz, h0', hL', hst'⟩
        simp only [runNT, hst, hrunT, ofEvents_none, Array.append_empty]
        exact hr

/-- What stands between two of goroutine 0's steps: it is g, the world is w but for the count of draws; the others leave. -/
structure Sit (P : Program) (g : Goroutine) (w : World) (m : Machine) (t : Trace) : Prop where
  sit : ∃ (gs : Array Goroutine) (d : Nat) (sl : Option (Nat × Nat)) (q : Nat → Nat), m = crowd gs (w.at d) sl ∧ gs[0]? = some g ∧ Lvs P gs q
  past : PastK t

theorem at_at' (w : World) (d e : Nat) : (w.at d).at e = w.at e := rfl

theorem Sit.go {P : Program} {g : Goroutine} {w : World} {m : Machine} {t : Trace} (h : Sit P g w m t) (hrun : g.status = .running)
    {Q : Goroutine → World → Prop} (hst : ∀ d, ∃ g' w' es, stepG P true g (w.at d) = .go g' w' es ∧ (∀ e ∈ es, EvN e) ∧ Q g' w') :
    ∃ N m' t' g' w', runNT P N m t = (.next m', t') ∧ Sit P g' w' m' t' ∧ Q g' w' := by
  obtain ⟨⟨gs, d, sl, q, rfl, h0, hL⟩, hP⟩ := h
  obtain ⟨N, gs', d', e, sl', sl'', q', hr, hs', h0', hL', hstp⟩ := slip (P := P) _ gs g (w.at d) sl t q rfl h0 hrun hL
  rw [at_at'] at hstp
  obtain ⟨g', w', es, hgo, hes, hQ⟩ := hst e
  have hrunT := runT_crowd_go (P := P) (sl := sl'') (i := 0) h0' (show stepG P (0 == 0) g (w.at e) = _ from hgo)
  refine ⟨N + 1, _, _, g', w', ?_, ⟨⟨(gs'.map (woken P g g' w')).setIfInBounds 0 g', w'.drawn, sl'', q', rfl, ?_, ?_⟩, hP.own (fn := g.frame.fn) (pos := g.frame.place) hes⟩, hQ⟩
  · have := runNT_add P N 1 (crowd gs (w.at d) sl) t
    rw [hr] at this
    rw [this]
    simp only [runNT, at_at', hstp, hrunT]
    rfl
  · have hlt : 0 < gs'.size := (Array.getElem?_eq_some_iff.1 h0').1
    simp [hlt]
  · intro j x hj hx
    have hne : 0 ≠ j := by omega
    rw [Array.getElem?_setIfInBounds_ne hne, Array.getElem?_map] at hx
    obtain ⟨y, hy, rfl⟩ := Option.map_eq_some_iff.1 hx
    have hqj := hL' j y hj hy
    rw [woken_q hqj]
    exact hqj

/-- The others' doing, where all others leave: draws. -/
abbrev RL (w w₁ : World) : Prop := AtRel w w₁
/-- A step that leaves every channel as it is. -/
def KeepsC (w w' : World) : Prop := ∀ (c : Nat) (o : Obj), w.heap[c]? = some o → o.isChan = true → w'.heap[c]? = some o
def DN (w : World) (es : Array Event) (w' : World) : Prop := (∀ e ∈ es, EvN e) ∧ KeepsC w w'

/-- What goroutine 0's tree says is what the machine does. -/
theorem tree_run {P : Program} {Big : Goroutine → World → (Goroutine → World → Prop) → Prop} {Stop : Goroutine → World → Prop}
    (hBig : ∀ g w K, g.status = .running → Big g w K → ∀ m t, Sit P g w m t → ∃ N m' t' g' w', runNT P N m t = (.next m', t') ∧ Sit P g' w' m' t' ∧ K g' w')
    {g : Goroutine} {w : World} (h : Tree P true id AtRel DN Big Stop g w) : ∀ m t, Sit P g w m t → ∃ N m' t' g' w', runNT P N m t = (.next m', t') ∧ Sit P g' w' m' t' ∧ ∀ w₁, AtRel w' w₁ → Stop g' w₁ := by
  induction h with
  | stop h => exact fun m t hS => ⟨0, m, t, _, _, rfl, hS, h⟩
  | step hs g' s' es h hd k ih =>
    intro m t hS
    obtain ⟨N, m', t', g1, w1, hr, hS', w0, hw0, rfl, rfl⟩ := hS.go (Q := fun g1 w1 => ∃ w0, AtRel _ w0 ∧ g1 = g' w0 ∧ w1 = s' w0) hs fun d => ⟨_, _, _, h _ ⟨d, rfl⟩, (hd _ ⟨d, rfl⟩).1, _, ⟨d, rfl⟩, rfl, rfl⟩
    obtain ⟨N2, m2, t2, g2, w2, hr2, hS2, hst⟩ := ih w0 hw0 m' t' hS'
    exact ⟨N + N2, m2, t2, g2, w2, by rw [runNT_add, hr]; exact hr2, hS2, hst⟩
  | big hs K h k ih =>
    intro m t hS
    obtain ⟨N, m', t', g', w', hr, hS', hK⟩ := hBig _ _ K hs (h _ (atRel_refl _)) m t hS
    obtain ⟨N2, m2, t2, g2, w2, hr2, hS2, hst⟩ := ih g' w' hK m' t' hS'
    exact ⟨N + N2, m2, t2, g2, w2, by rw [runNT_add, hr]; exact hr2, hS2, hst⟩

/-- Goroutine 0 stands at the step that ends the run. -/
def EndsAt (P : Program) (Post : Value → World → Prop) (g : Goroutine) (w : World) : Prop :=
  g.status = .running ∧ ∃ v es, stepG P true g w = .ended (.done v) w es ∧ (∀ e ∈ es, EvN e) ∧ Post v w

theorem Sit.ends {P : Program} {Post : Value → World → Prop} {g : Goroutine} {w : World} {m : Machine} {t : Trace} (h : Sit P g w m t) (hE : ∀ w₁, AtRel w w₁ → EndsAt P Post g w₁) :
    ∃ N last o w' t', runNT P (N + 1) m t = (.ended o w', t') ∧ runN P N m = .next last ∧ step P last = .ended o w' ∧ Good P Post last o w' t' := by
  obtain ⟨⟨gs, d, sl, q, rfl, h0, hL⟩, hP⟩ := h
  have hrun := (hE w ⟨w.drawn, rfl⟩).1
  obtain ⟨N, gs', d', e, sl', sl'', q', hr, hs', h0', hL', hstp⟩ := slip (P := P) _ gs g (w.at d) sl t q rfl h0 hrun hL
  rw [at_at'] at hstp
  obtain ⟨_, v, es, hend, hes, hpost⟩ := hE (w.at e) ⟨e, rfl⟩
  have hrunT := runT_many_ended (P := P) (sl := sl'') (i := 0) h0' (show stepG P (0 == 0) g (w.at e) = _ from hend)
  have hP2 := hP.own (fn := g.frame.fn) (pos := g.frame.place) hes
  have hstT := hstp.trans hrunT
  refine ⟨N, crowd gs' ((w.at d).at d') sl', _, _, _, ?_, ?_, ?_, v, rfl, hpost, hP2.clean, hP2.over, ⟨fun x hx => ?_, rfl⟩, fun j x hx hj => ?_⟩
  · have := runNT_add P N 1 (crowd gs (w.at d) sl) t
    rw [hr] at this
    rw [this]
    simp only [runNT, at_at', hstT]
  · have := runNT_fst P N (crowd gs (w.at d) sl) t
    rw [hr] at this
    exact this.symm
  · have : (stepT P (crowd gs' ((w.at d).at d') sl')).1 = step P (crowd gs' ((w.at d).at d') sl') := rfl
    rw [← this, at_at', hstT]
  · obtain ⟨j, hj⟩ := List.mem_iff_getElem?.1 hx
    rw [List.getElem?_drop] at hj
    exact ⟨_, (hL' (1 + j) x (by omega) (by simpa [crowd] using hj)).leaves⟩
  · have hq := hL' j x (by omega) hx
    refine ⟨q' j, ?_⟩
    rw [deaf_plain hP2.plain]
    exact hq.hears _ _
end Go.Proofs.Ytnphcnhejgpjgaa.Co
end
section
namespace Go.Proofs.Ytnphcnhejgpjgaa.Co
open Go.Conc
open Go.ConcN (sumTo upd sumTo_upd upd_ne upd_same)

structure Two (P : Program) (k : Nat) (gs : Array Goroutine) (q : Nat → Nat) (a b : Goroutine) : Prop where
  h0 : gs[0]? = some a
  hk : gs[k]? = some b
  k0 : 0 < k
  ot : ∀ i g, 0 < i → i ≠ k → gs[i]? = some g → QuitsIn P (q i) g

section
variable {P : Program} {k : Nat} {gs : Array Goroutine} {q : Nat → Nat} {a b : Goroutine}

theorem Two.awake (h : Two P k gs q a b) (ha : Go.Conc.awake a) (hb : Go.Conc.awake b) : ∀ g ∈ gs, Go.Conc.awake g := by
  intro g hg
  obtain ⟨i, hi, rfl⟩ := Array.mem_iff_getElem.1 hg
  rcases Nat.eq_zero_or_pos i with rfl | hpos
  · have : gs[0] = a := by simpa [Array.getElem?_eq_getElem hi] using h.h0
    rw [this]; exact ha
  · by_cases hik : i = k
    · subst hik
      have : gs[i] = b := by simpa [Array.getElem?_eq_getElem hi] using h.hk
      rw [this]; exact hb
    · exact awake_of ((h.ot i _ hpos hik (Array.getElem?_eq_getElem hi)).status.elim .inl fun x => .inr (.inr x))

/-- Somebody's own step: his record is laid back, the others are as they were. -/
theorem Two.go0 (h : Two P k gs q a b) (g g' : Goroutine) (w' : World) (hb : woken P g g' w' b = b) : Two P k ((gs.map (woken P g g' w')).setIfInBounds 0 g') q g' b := by
  have hlt : 0 < gs.size := (Array.getElem?_eq_some_iff.1 h.h0).1
  have hk0 := h.k0
  refine ⟨by simp [hlt], ?_, h.k0, fun i x hi hik hx => ?_⟩
  · rw [Array.getElem?_setIfInBounds_ne (by omega), Array.getElem?_map, h.hk]; simp [hb]
  · rw [Array.getElem?_setIfInBounds_ne (by omega), Array.getElem?_map] at hx
    obtain ⟨y, hy, rfl⟩ := Option.map_eq_some_iff.1 hx
    have := h.ot i y hi hik hy
    rw [woken_q this]; exact this
theorem Two.gok (h : Two P k gs q a b) (g g' : Goroutine) (w' : World) {a' : Goroutine} (ha : woken P g g' w' a = a') : Two P k ((gs.map (woken P g g' w')).setIfInBounds k g') q a' g' := by
  have hlt : k < gs.size := (Array.getElem?_eq_some_iff.1 h.hk).1
  have hk0 := h.k0
  refine ⟨?_, by simp [hlt], h.k0, fun i x hi hik hx => ?_⟩
  · rw [Array.getElem?_setIfInBounds_ne (by omega), Array.getElem?_map, h.h0]; simp [ha]
  · rw [Array.getElem?_setIfInBounds_ne (Ne.symm hik), Array.getElem?_map] at hx
    obtain ⟨y, hy, rfl⟩ := Option.map_eq_some_iff.1 hx
    have := h.ot i y hi hik hy
    rw [woken_q this]; exact this
theorem Two.set0 (h : Two P k gs q a b) (a' : Goroutine) : Two P k (gs.setIfInBounds 0 a') q a' b := by
  have hlt : 0 < gs.size := (Array.getElem?_eq_some_iff.1 h.h0).1
  have hk0 := h.k0
  refine ⟨by simp [hlt], ?_, h.k0, fun i x hi hik hx => ?_⟩
  · rw [Array.getElem?_setIfInBounds_ne (by omega)]; exact h.hk
  · rw [Array.getElem?_setIfInBounds_ne (by omega)] at hx; exact h.ot i x hi hik hx
theorem Two.setk (h : Two P k gs q a b) (b' : Goroutine) : Two P k (gs.setIfInBounds k b') q a b' := by
  have hlt : k < gs.size := (Array.getElem?_eq_some_iff.1 h.hk).1
  have hk0 := h.k0
  refine ⟨?_, by simp [hlt], h.k0, fun i x hi hik hx => ?_⟩
  · rw [Array.getElem?_setIfInBounds_ne (by omega)]; exact h.h0
  · rw [Array.getElem?_setIfInBounds_ne (Ne.symm hik)] at hx; exact h.ot i x hi hik hx

/-- The others slip, till one of the two is picked. -/
theorem slip2 (M : Nat) : ∀ (gs : Array Goroutine) (w : World) (sl : Option (Nat × Nat)) (t : Trace) (q : Nat → Nat), sumTo gs.size q = M → Two P k gs q a b → awake a → awake b → (a.status = .running ∨ b.status = .running) →
    (∀ d g g', woken P g g' (w.at d) a = a) → (∀ d g g', woken P g g' (w.at d) b = b) →
    ∃ (N : Nat) (gs' : Array Goroutine) (d e : Nat) (sl' sl'' : Option (Nat × Nat)) (q' : Nat → Nat), runNT P N (crowd gs w sl) t = (.next (crowd gs' (w.at d) sl'), t) ∧ Two P k gs' q' a b ∧
      ((a.status = .running ∧ stepT P (crowd gs' (w.at d) sl') = runT P (crowd gs' (w.at e) sl'') 0) ∨ (b.status = .running ∧ stepT P (crowd gs' (w.at d) sl') = runT P (crowd gs' (w.at e) sl'') k)) := by
  induction M using Nat.strongRecOn with
  | ind M ih =>
    intro gs w sl t q hM h ha hb hr hwa hwb
    obtain ⟨i, g, d, sl', hi, hg, hst⟩ := crowd_pick (P := P) (w := w) (sl := sl) (h.awake ha hb) (by
      rcases hr with hr | hr
      · exact ⟨0, a, h.h0, hr⟩
      · exact ⟨k, b, h.hk, hr⟩)
    rcases Nat.eq_zero_or_pos i with rfl | hpos
    · obtain rfl : g = a := by rw [h.h0] at hi; exact (Option.some.inj hi).symm
      exact ⟨0, gs, w.drawn, d, sl, sl', q, rfl, h, .inl ⟨hg, hst⟩⟩
    by_cases hik : i = k
    · subst hik
      obtain rfl : g = b := by rw [h.hk] at hi; exact (Option.some.inj hi).symm
      exact ⟨0, gs, w.drawn, d, sl, sl', q, rfl, h, .inr ⟨hg, hst⟩⟩
    have hq := h.ot i g hpos hik hi
    have hi0 : (i == 0) = false := by simp; omega
    have hlt : i < gs.size := (Array.getElem?_eq_some_iff.1 hi).1
    cases hqi : q i with
    | zero => rw [hqi] at hq; rw [show g.status = .finished from hq] at hg; cases hg
    | succ m =>
      rw [hqi] at hq
      rcases hq with hf | ⟨_, g', hstp, hq'⟩
      · rw [hf] at hg; cases hg
      have hrunT := runT_crowd_go (P := P) (sl := sl') (i := i) hi (by rw [hi0]; exact hstp (w.at d))
      have hsz : ((gs.map (woken P g g' (w.at d))).setIfInBounds i g').size = gs.size := by simp
      have hsum : sumTo gs.size (upd q i m) + (m + 1) = sumTo gs.size q + m := by
        have := sumTo_upd q m id hlt
        simpa [hqi] using this
      have h' : Two P k ((gs.map (woken P g g' (w.at d))).setIfInBounds i g') (upd q i m) a b := by
        refine ⟨?_, ?_, h.k0, fun j x hj hjk hx => ?_⟩
        · rw [Array.getElem?_setIfInBounds_ne (by omega), Array.getElem?_map, h.h0]; simp [hwa]
        · rw [Array.getElem?_setIfInBounds_ne hik, Array.getElem?_map, h.hk]; simp [hwb]
        · by_cases hji : i = j
          · subst hji
            rw [Array.getElem?_setIfInBounds_self_of_lt (by simpa using hlt)] at hx
            obtain rfl := Option.some.inj hx
            rw [upd_same]; exact hq'
          · rw [Array.getElem?_setIfInBounds_ne hji, Array.getElem?_map] at hx
            obtain ⟨y, hy, rfl⟩ := Option.map_eq_some_iff.1 hx
            have hqj := h.ot j y hj hjk hy
            rw [woken_q hqj, upd_ne q m (Ne.symm hji)]; exact hqj
      obtain ⟨N, gs', d', e, sl1, sl2, q', hr', h2, hst'⟩ := ih (sumTo gs.size (upd q i m)) (by omega) _ (w.at d) sl' t (upd q i m) (by rw [hsz]) h' ha hb hr (fun d' => hwa d') (fun d' => hwb d')
      refine ⟨N + 1, gs', d', e, sl1, sl2, q', ?_, h2, hst'⟩
      simp only [runNT, hst, hrunT, ofEvents_none, Array.append_empty]
      exact hr'

end

/-- The channel's block, open, nobody ahead. -/
def OpenAt (c : Nat) (w : World) (n : Nat) (tm : Bool) : Prop := w.heap[c]? = some (.chan 0 #[] false n n tm)

/-- At the receive. -/
def AtR (P : Program) (c : Nat) (z : Value) (g : Goroutine) (w : World) : Prop := g.status = .running ∧ stepG P true g w = .comm (core g) #[rcase c z] true (.recv true) w #[]
/-- At a send of v; behind it: g₂. -/
def AtS (P : Program) (c : Nat) (v : Value) (g g₂ : Goroutine) (w : World) : Prop := g.status = .running ∧ ∃ z, stepG P false g w = .comm g₂ #[scase c v z] true .send w #[]
def closeEs (c : Nat) : Array Event := #[⟨.obj c, false, true⟩, ⟨.obj c, true, true⟩]
/-- At the close; behind it: g₂, which only leaves. -/
def AtC (P : Program) (c : Nat) (g g₂ : Goroutine) (w : World) : Prop :=
  g.status = .running ∧ mayWake P g = true ∧ (∀ n tm, OpenAt c w n tm → stepG P false g w = .go g₂ (w.shut c n n tm) (closeEs c)) ∧ ∃ n, QuitsIn P n g₂

structure Prot {σ : Type} (c k : Nat) (wd : σ → World) (RA RB : σ → σ → Prop) (DA DB : σ → Array Event → σ → Prop) (Inv : Trace → σ → Prop) : Prop where
  trA : ∀ a b c, RA a b → RA b c → RA a c
  trB : ∀ a b c, RB a b → RB b c → RB a c
  rfB : ∀ s, RB s s
  draw : ∀ s d, ∃ s', wd s' = (wd s).at d ∧ RA s s' ∧ RB s s' ∧ ∀ t, Inv t s → Inv t s'
  stepA : ∀ s es s' t fn pos, DA s es s' → Inv t s → RB s s' ∧ Inv (t ++ MemOp.ofEvents 0 fn pos es) s'
  stepB : ∀ s es s' t fn pos, DB s es s' → Inv t s → RA s s' ∧ Inv (t ++ MemOp.ofEvents k fn pos es) s'
  opA : ∀ s es s' n tm, DA s es s' → OpenAt c (wd s) n tm → OpenAt c (wd s') n tm
  opB : ∀ s es s' n tm, DB s es s' → OpenAt c (wd s) n tm → OpenAt c (wd s') n tm

abbrev noBig {σ : Type} : Goroutine → σ → (Goroutine → σ → Prop) → Prop := fun _ _ _ => False

/-- The four operations of a meeting. -/
def metOps (c k n : Nat) (x y x' y' : FuncId × String) : Trace :=
  #[{ g := k, fn := x.1, pos := x.2, act := .send c n }, { g := 0, fn := y.1, pos := y.2, act := .recv c n 0 }, { g := k, fn := x'.1, pos := x'.2, act := .sendDone c n }, { g := 0, fn := y'.1, pos := y'.2, act := .recvDone c n }]

section
variable {σ : Type} (P : Program) (c k : Nat) (z : Value) (wd : σ → World) (RA RB : σ → σ → Prop) (DA DB : σ → Array Event → σ → Prop) (Inv : Trace → σ → Prop) (SA SB : Goroutine → σ → Prop)

/-- Where the two come to. -/
inductive Out : Machine → Trace → Prop
  | met (s : σ) (ga gb g₂ : Goroutine) (v : Value) (n : Nat) (tm : Bool) (gs : Array Goroutine) (sl : Option (Nat × Nat)) (q : Nat → Nat) (t : Trace) (x y x' y' : FuncId × String)
      (hA : ∀ s₁, RA s s₁ → SA ga s₁) (hB : ∀ s₁, RB s s₁ → SB gb s₁) (hv : AtS P c v gb g₂ (wd s)) (ho : OpenAt c (wd s) n tm) (hI : Inv t s)
      (h2 : Two P k gs q (Go.Conc.served (core ga) (.tuple #[v, .bool true])) (Go.Conc.served g₂ undef)) :
      Out (crowd gs ((wd s).setChan c 0 #[] false (n + 1) (n + 1) tm) sl) (t ++ metOps c k n x y x' y')
  | shut (s : σ) (a gb g₂ : Goroutine) (n : Nat) (tm : Bool) (gs : Array Goroutine) (sl : Option (Nat × Nat)) (q : Nat → Nat) (t : Trace) (fn : FuncId) (pos : String)
      (hA : Tree P true wd RA DA noBig SA a s) (hB : ∀ s₁, RB s s₁ → SB gb s₁) (hc : AtC P c gb g₂ (wd s)) (ho : OpenAt c (wd s) n tm) (hI : Inv t s)
      (h2 : Two P k gs q a g₂) :
      Out (crowd gs ((wd s).shut c n n tm) sl) (t ++ MemOp.ofEvents k fn pos (closeEs c))
  | woke (s : σ) (ga gb g₂ : Goroutine) (n : Nat) (tm : Bool) (gs : Array Goroutine) (sl : Option (Nat × Nat)) (q : Nat → Nat) (t : Trace) (fn : FuncId) (pos : String)
      (hA : ∀ s₁, RA s s₁ → SA ga s₁) (hB : ∀ s₁, RB s s₁ → SB gb s₁) (hc : AtC P c gb g₂ (wd s)) (ho : OpenAt c (wd s) n tm) (hI : Inv t s)
      (h2 : Two P k gs q { parked (core ga) #[rcase c z] (.recv true) with status := .running } g₂) :
      Out (crowd gs ((wd s).shut c n n tm) sl) (t ++ MemOp.ofEvents k fn pos (closeEs c))

def Gets (gs : Array Goroutine) (w : World) (sl : Option (Nat × Nat)) (t : Trace) : Prop :=
  ∃ N m' t', runNT P N (crowd gs w sl) t = (.next m', t') ∧ Out P c k z wd RA RB DA Inv SA SB m' t'
end

section
variable {σ : Type} {P : Program} {c k : Nat} {z : Value} {wd : σ → World} {RA RB : σ → σ → Prop} {DA DB : σ → Array Event → σ → Prop} {Inv : Trace → σ → Prop} {SA SB : Goroutine → σ → Prop}

theorem Gets.of {gs gs' : Array Goroutine} {w w' : World} {sl sl' : Option (Nat × Nat)} {t t' : Trace} {N : Nat} (hr : runNT P N (crowd gs w sl) t = (.next (crowd gs' w' sl'), t')) (h : Gets P c k z wd RA RB DA Inv SA SB gs' w' sl' t') : Gets P c k z wd RA RB DA Inv SA SB gs w sl t := by
  obtain ⟨M, m', t2, h1, h2⟩ := h
  exact ⟨N + M, m', t2, by rw [runNT_add, hr]; exact h1, h2⟩
theorem Gets.one {gs gs' : Array Goroutine} {w w' : World} {sl sl' : Option (Nat × Nat)} {t : Trace} {ops : Array MemOp} (hr : stepT P (crowd gs w sl) = (.next (crowd gs' w' sl'), ops)) (h : Gets P c k z wd RA RB DA Inv SA SB gs' w' sl' (t ++ ops)) : Gets P c k z wd RA RB DA Inv SA SB gs w sl t :=
  Gets.of (N := 1) (by simp only [runNT, hr]) h
theorem Gets.end_ {gs : Array Goroutine} {w : World} {sl : Option (Nat × Nat)} {t : Trace} {m : Machine} {ops : Array MemOp} (hr : stepT P (crowd gs w sl) = (.next m, ops)) (h : Out P c k z wd RA RB DA Inv SA SB m (t ++ ops)) : Gets P c k z wd RA RB DA Inv SA SB gs w sl t :=
  ⟨1, m, t ++ ops, by simp only [runNT, hr], h⟩

theorem woken_run' {g g' b : Goroutine} {w' : World} (h : b.status = .running) : woken P g g' w' b = b := by
  unfold woken
  split
  · exact again_running _ (.inl h)
  · rfl
theorem awake_parked (g : Goroutine) (cs : Array CommCase) (sh : CommShape) : awake (parked g cs sh) := awake_of (.inr (.inl rfl))

theorem noOffer {gs : Array Goroutine} {q : Nat → Nat} {a b : Goroutine} (h : Two P k gs q a b) (send : Bool) (hb : offersAt b c send = []) : partners (gs.setIfInBounds 0 ph) c send = [] := by
  refine partners_nil fun j g hj => ?_
  rcases getElem?_stand gs 0 j g hj with ⟨_, rfl⟩ | ⟨h1, h2⟩
  · rfl
  · by_cases hjk : j = k
    · subst hjk
      obtain rfl : g = b := by rw [h.hk] at h2; exact (Option.some.inj h2).symm
      exact hb
    · have := (h.ot j g (by omega) hjk h2).status
      exact offersAt_of_not_blocked (by rcases this with e | e <;> rw [e] <;> simp) _ _
theorem noOfferK {gs : Array Goroutine} {q : Nat → Nat} {a b : Goroutine} (h : Two P k gs q a b) (send : Bool) (ha : offersAt a c send = []) : partners (gs.setIfInBounds k ph) c send = [] := by
  refine partners_nil fun j g hj => ?_
  rcases getElem?_stand gs k j g hj with ⟨_, rfl⟩ | ⟨h1, h2⟩
  · rfl
  · rcases Nat.eq_zero_or_pos j with rfl | hpos
    · obtain rfl : g = a := by rw [h.h0] at h2; exact (Option.some.inj h2).symm
      exact ha
    · have := (h.ot j g hpos h1 h2).status
      exact offersAt_of_not_blocked (by rcases this with e | e <;> rw [e] <;> simp) _ _
theorem oneOffer {gs : Array Goroutine} {q : Nat → Nat} {a g₂ : Goroutine} {v z' : Value} (h : Two P k gs q a (parked g₂ #[scase c v z'] .send)) : partners (gs.setIfInBounds 0 ph) c true = [(k, 0)] := by
  have hk0 := h.k0
  rw [partners_one (j := k) (g := parked g₂ #[scase c v z'] .send) (by rw [Array.getElem?_setIfInBounds_ne (by omega)]; exact h.hk) (fun j x hj hx => ?_), offersAt_parked_send]
  · simp
  · rcases getElem?_stand gs 0 j x hx with ⟨_, rfl⟩ | ⟨h1, h2⟩
    · rfl
    · have := (h.ot j x (by omega) hj h2).status
      exact offersAt_of_not_blocked (by rcases this with e | e <;> rw [e] <;> simp) _ _
theorem oneOfferK {gs : Array Goroutine} {q : Nat → Nat} {ga b : Goroutine} {sh : CommShape} (h : Two P k gs q (parked ga #[rcase c z] sh) b) : partners (gs.setIfInBounds k ph) c false = [(0, 0)] := by
  have hk0 := h.k0
  rw [partners_one (j := 0) (g := parked ga #[rcase c z] sh) (by rw [Array.getElem?_setIfInBounds_ne (by omega)]; exact h.h0) (fun j x hj hx => ?_), offersAt_parked_recv]
  · simp
  · rcases getElem?_stand gs k j x hx with ⟨_, rfl⟩ | ⟨h1, h2⟩
    · rfl
    · have := (h.ot j x (by omega) h1 h2).status
      exact offersAt_of_not_blocked (by rcases this with e | e <;> rw [e] <;> simp) _ _

theorem quits_status {g : Goroutine} {n : Nat} (h : QuitsIn P n g) : g.status ≠ .blocked ∧ g.status ≠ .waiting := by
  rcases h.status with e | e <;> rw [e] <;> simp

/-- The receiver waits; the sender is on its way. -/
theorem meetA (pr : Prot c k wd RA RB DA DB Inv) (hSB : ∀ g s, SB g s → (∃ v g₂, AtS P c v g g₂ (wd s)) ∨ ∃ g₂, AtC P c g g₂ (wd s))
    {b : Goroutine} {s : σ} (hB : Tree P false wd RB DB noBig SB b s) : ∀ ga, (∀ s₁, RA s s₁ → SA ga s₁) → ∀ n tm, OpenAt c (wd s) n tm → ∀ gs sl q t, Two P k gs q (parked (core ga) #[rcase c z] (.recv true)) b → Inv t s →
      Gets P c k z wd RA RB DA Inv SA SB gs (wd s) sl t := by
  induction hB with
  | @stop b s h =>
    intro ga hga n tm ho gs sl q t h2 hI
    have hrun : b.status = .running := by
      obtain ⟨s', _, _, hR, _⟩ := pr.draw s 0
      rcases hSB _ _ (h s' hR) with ⟨v, g₂, x, _⟩ | ⟨g₂, x, _⟩ <;> exact x
    obtain ⟨N, gs', d, e, sl', sl'', q', hr, h2', hst⟩ := slip2 (P := P) _ gs (wd s) sl t q rfl h2 (awake_parked _ _ _) (awake_of (.inl hrun)) (.inr hrun)
      (fun d g g' => woken_recv_open _ _ (show ((wd s).at d).heap[c]? = _ from ho)) (fun d g g' => woken_run' hrun)
    refine Gets.of hr ?_
    rcases hst with ⟨hx, _⟩ | ⟨_, hst⟩
    · cases hx
    obtain ⟨s', hs', hRA, hRB, hIn⟩ := pr.draw s e
    rw [← hs'] at hst
    have ho' : OpenAt c (wd s') n tm := by rw [hs']; exact ho
    have hk0 := h2'.k0
    have hkb : (k == 0) = false := by simp; omega
    rcases hSB _ _ (h s' hRB) with ⟨v, g₂, hr', z', hcomm⟩ | ⟨g₂, hr', hmw, hcl, m, hq⟩
    · have hm := crowd_send_meets (P := P) (sl := sl'') (i := k) (j := 0) h2'.hk (by rw [hkb]; exact hcomm) ho' (by omega) h2'.h0 (oneOfferK h2')
      rw [finishComm_recv, finishComm_send] at hm
      refine Gets.end_ (hst.trans hm) ?_
      rw [ofEvents_none, Array.empty_append]
      refine .met s' ga b g₂ v n tm _ sl'' q' t (_, _) (_, _) (_, _) (_, _) (fun s₁ x => hga s₁ (pr.trA _ _ _ hRA x)) (fun s₁ x => h s₁ (pr.trB _ _ _ hRB x)) ⟨hr', z', hcomm⟩ ho' (hIn t hI) ?_
      exact (h2'.set0 _).setk _
    · have hgo := hcl n tm ho'
      have hm := runT_crowd_go (P := P) (sl := sl'') (i := k) h2'.hk (by rw [hkb]; exact hgo)
      refine Gets.end_ (hst.trans hm) ?_
      refine .woke s' ga b g₂ n tm _ sl'' q' t _ _ (fun s₁ x => hga s₁ (pr.trA _ _ _ hRA x)) (fun s₁ x => h s₁ (pr.trB _ _ _ hRB x)) ⟨hr', hmw, hcl, m, hq⟩ ho' (hIn t hI) ?_
      refine h2'.gok _ _ _ ?_
      have hsh : ((wd s').shut c n n tm).heap[c]? = some (.chan 0 #[] true n n tm) := heap_put ho'
      unfold woken
      rw [if_pos (by simp [hmw, (quits_status hq).1, (quits_status hq).2])]
      exact again_recv_closed hsh
  | @step b s hs g' s' es h hd kk ih =>
    intro ga hga n tm ho gs sl q t h2 hI
    obtain ⟨N, gs', d, e, sl', sl'', q', hr, h2', hst⟩ := slip2 (P := P) _ gs (wd s) sl t q rfl h2 (awake_parked _ _ _) (awake_of (.inl hs)) (.inr hs)
      (fun d g g' => woken_recv_open _ _ (show ((wd s).at d).heap[c]? = _ from ho)) (fun d g g' => woken_run' hs)
    refine Gets.of hr ?_
    rcases hst with ⟨hx, _⟩ | ⟨_, hst⟩
    · cases hx
    obtain ⟨s1, hs1, hRA, hRB, hIn⟩ := pr.draw s e
    rw [← hs1] at hst
    have ho' : OpenAt c (wd s1) n tm := by rw [hs1]; exact ho
    have hk0 := h2'.k0
    have hkb : (k == 0) = false := by simp; omega
    have hm := runT_crowd_go (P := P) (sl := sl'') (i := k) h2'.hk (by rw [hkb]; exact h s1 hRB)
    have hdd := hd s1 hRB
    obtain ⟨hRA2, hI2⟩ := pr.stepB _ _ _ t b.frame.fn b.frame.place hdd (hIn t hI)
    have ho2 := pr.opB _ _ _ n tm hdd ho'
    refine Gets.one (hst.trans hm) ?_
    exact ih s1 hRB ga (fun s₁ x => hga s₁ (pr.trA _ _ _ (pr.trA _ _ _ hRA hRA2) x)) n tm ho2 _ _ q' _ (h2'.gok _ _ _ (woken_recv_open _ _ ho2)) hI2
  | big hs K h kk ih =>
    intro ga hga n tm ho gs sl q t h2 hI
    obtain ⟨s', _, _, hR, _⟩ := pr.draw _ 0
    exact (h s' hR).elim

/-- The sender waits; the receiver is on its way. -/
theorem meetB (pr : Prot c k wd RA RB DA DB Inv) (hSA : ∀ g s, SA g s → AtR P c z g (wd s))
    {a : Goroutine} {s : σ} (hA : Tree P true wd RA DA noBig SA a s) : ∀ gb g₂ v z', (∀ s₁, RB s s₁ → SB gb s₁) → (∀ s₁, RB s s₁ → AtS P c v gb g₂ (wd s₁)) → ∀ n tm, OpenAt c (wd s) n tm → ∀ gs sl q t, Two P k gs q a (parked g₂ #[scase c v z'] .send) → Inv t s →
      Gets P c k z wd RA RB DA Inv SA SB gs (wd s) sl t := by
  induction hA with
  | @stop a s h =>
    intro gb g₂ v z' hgb hat n tm ho gs sl q t h2 hI
    have hrun : a.status = .running := by
      obtain ⟨s', _, hR, _, _⟩ := pr.draw s 0
      exact (hSA _ _ (h s' hR)).1
    obtain ⟨N, gs', d, e, sl', sl'', q', hr, h2', hst⟩ := slip2 (P := P) _ gs (wd s) sl t q rfl h2 (awake_of (.inl hrun)) (awake_parked _ _ _) (.inl hrun)
      (fun d g g' => woken_run' hrun) (fun d g g' => woken_send_open _ _ (show ((wd s).at d).heap[c]? = _ from ho))
    refine Gets.of hr ?_
    replace hst := hst.elim And.right fun x => by cases x.1
    obtain ⟨s', hs', hRA, hRB, hIn⟩ := pr.draw s e
    rw [← hs'] at hst
    have ho' : OpenAt c (wd s') n tm := by rw [hs']; exact ho
    have hk0 := h2'.k0
    have hcomm := (hSA _ _ (h s' hRA)).2
    have hm := crowd_recv_meets (P := P) (sl := sl'') (i := 0) (j := k) h2'.h0 hcomm ho' (by omega) h2'.hk (oneOffer h2')
    rw [finishComm_recv, finishComm_send] at hm
    refine Gets.end_ (hst.trans hm) ?_
    rw [ofEvents_none, Array.empty_append]
    refine .met s' a gb g₂ v n tm _ sl'' q' t (_, _) (_, _) (_, _) (_, _) (fun s₁ x => h s₁ (pr.trA _ _ _ hRA x)) (fun s₁ x => hgb s₁ (pr.trB _ _ _ hRB x)) (hat s' hRB) ho' (hIn t hI) ?_
    exact (h2'.setk _).set0 _
  | @step a s hs g' s' es h hd kk ih =>
    intro gb g₂ v z' hgb hat n tm ho gs sl q t h2 hI
    obtain ⟨N, gs', d, e, sl', sl'', q', hr, h2', hst⟩ := slip2 (P := P) _ gs (wd s) sl t q rfl h2 (awake_of (.inl hs)) (awake_parked _ _ _) (.inl hs)
      (fun d g g' => woken_run' hs) (fun d g g' => woken_send_open _ _ (show ((wd s).at d).heap[c]? = _ from ho))
    refine Gets.of hr ?_
    replace hst := hst.elim And.right fun x => by cases x.1
    obtain ⟨s1, hs1, hRA, hRB, hIn⟩ := pr.draw s e
    rw [← hs1] at hst
    have ho' : OpenAt c (wd s1) n tm := by rw [hs1]; exact ho
    have hm := runT_crowd_go (P := P) (sl := sl'') (i := 0) h2'.h0 (show stepG P (0 == 0) a _ = _ from h s1 hRA)
    have hdd := hd s1 hRA
    obtain ⟨hRB2, hI2⟩ := pr.stepA _ _ _ t a.frame.fn a.frame.place hdd (hIn t hI)
    have ho2 := pr.opA _ _ _ n tm hdd ho'
    have hRB3 := pr.trB _ _ _ hRB hRB2
    refine Gets.one (hst.trans hm) ?_
    exact ih s1 hRA gb g₂ v z' (fun s₁ x => hgb s₁ (pr.trB _ _ _ hRB3 x)) (fun s₁ x => hat s₁ (pr.trB _ _ _ hRB3 x)) n tm ho2 _ _ q' _ (h2'.go0 _ _ _ (woken_send_open _ _ ho2)) hI2
  | big hs K h kk ih =>
    intro gb g₂ v z' hgb hat n tm ho gs sl q t h2 hI
    obtain ⟨s', _, hR, _, _⟩ := pr.draw _ 0
    exact (h s' hR).elim

/-- The sender is where it is; the receiver goes. -/
theorem meetC (pr : Prot c k wd RA RB DA DB Inv) (hSA : ∀ g s, SA g s → AtR P c z g (wd s)) (hSB : ∀ g s, SB g s → (∃ v g₂, AtS P c v g g₂ (wd s)) ∨ ∃ g₂, AtC P c g g₂ (wd s))
    {b : Goroutine} {s : σ} (hrb : b.status = .running) (hBt : Tree P false wd RB DB noBig SB b s)
    (Bp : ∀ s1, RB s s1 → ∀ a, a.status = .running → Tree P true wd RA DA noBig SA a s1 → ∀ n tm, OpenAt c (wd s1) n tm → ∀ gs sl q t, Two P k gs q a b → Inv t s1 →
      ∀ gs0 w0 sl0, stepT P (crowd gs0 w0 sl0) = runT P (crowd gs (wd s1) sl) k → Gets P c k z wd RA RB DA Inv SA SB gs0 w0 sl0 t)
    {a : Goroutine} {s0 : σ} (hA : Tree P true wd RA DA noBig SA a s0) : RB s s0 → ∀ n tm, OpenAt c (wd s0) n tm → ∀ gs sl q t, Two P k gs q a b → Inv t s0 →
      Gets P c k z wd RA RB DA Inv SA SB gs (wd s0) sl t := by
  induction hA with
  | @stop a s0 h =>
    intro hR0 n tm ho gs sl q t h2 hI
    have hra : a.status = .running := by
      obtain ⟨s', _, hR, _, _⟩ := pr.draw s0 0
      exact (hSA _ _ (h s' hR)).1
    obtain ⟨N, gs', d, e, sl', sl'', q', hr, h2', hst⟩ := slip2 (P := P) _ gs (wd s0) sl t q rfl h2 (awake_of (.inl hra)) (awake_of (.inl hrb)) (.inl hra)
      (fun d g g' => woken_run' hra) (fun d g g' => woken_run' hrb)
    refine Gets.of hr ?_
    obtain ⟨s1, hs1, hRA, hRB, hIn⟩ := pr.draw s0 e
    rw [← hs1] at hst
    have ho' : OpenAt c (wd s1) n tm := by rw [hs1]; exact ho
    rcases hst with ⟨_, hst⟩ | ⟨_, hst⟩
    · -- it waits
      have hcomm := (hSA _ _ (h s1 hRA)).2
      have hm := crowd_waits (P := P) (sl := sl'') (i := 0) h2'.h0 hcomm (fun cc hcc => by
        obtain rfl : cc = rcase c z := by simpa using hcc
        refine ⟨made_recv z ho', ?_⟩
        have hp := noOffer (c := c) h2' true (offersAt_of_not_blocked (by rw [hrb]; simp) _ _)
        simp [ways, rcase, show (wd s1).heap[c]? = _ from ho', hp])
      refine Gets.one (hst.trans hm) ?_
      rw [ofEvents_none, Array.append_empty]
      exact meetA pr hSB (hBt.rely pr.trB (pr.trB _ _ _ hR0 hRB)) a (fun s₁ x => h s₁ (pr.trA _ _ _ hRA x)) n tm ho' _ _ q' t (h2'.set0 _) (hIn t hI)
    · exact Bp s1 (pr.trB _ _ _ hR0 hRB) a hra (.stop fun s₁ x => h s₁ (pr.trA _ _ _ hRA x)) n tm ho' gs' sl'' q' t h2' (hIn t hI) _ _ _ hst
  | @step a s0 hs g' s' es h hd kk ih =>
    intro hR0 n tm ho gs sl q t h2 hI
    obtain ⟨N, gs', d, e, sl', sl'', q', hr, h2', hst⟩ := slip2 (P := P) _ gs (wd s0) sl t q rfl h2 (awake_of (.inl hs)) (awake_of (.inl hrb)) (.inl hs)
      (fun d g g' => woken_run' hs) (fun d g g' => woken_run' hrb)
    refine Gets.of hr ?_
    obtain ⟨s1, hs1, hRA, hRB, hIn⟩ := pr.draw s0 e
    rw [← hs1] at hst
    have ho' : OpenAt c (wd s1) n tm := by rw [hs1]; exact ho
    rcases hst with ⟨_, hst⟩ | ⟨_, hst⟩
    · have hm := runT_crowd_go (P := P) (sl := sl'') (i := 0) h2'.h0 (show stepG P (0 == 0) a _ = _ from h s1 hRA)
      have hdd := hd s1 hRA
      obtain ⟨hRB2, hI2⟩ := pr.stepA _ _ _ t a.frame.fn a.frame.place hdd (hIn t hI)
      have ho2 := pr.opA _ _ _ n tm hdd ho'
      refine Gets.one (hst.trans hm) ?_
      exact ih s1 hRA (pr.trB _ _ _ hR0 (pr.trB _ _ _ hRB hRB2)) n tm ho2 _ _ q' _ (h2'.go0 _ _ _ (woken_run' hrb)) hI2
    · exact Bp s1 (pr.trB _ _ _ hR0 hRB) a hs (.step hs g' s' es (fun s₁ x => h s₁ (pr.trA _ _ _ hRA x)) (fun s₁ x => hd s₁ (pr.trA _ _ _ hRA x)) (fun s₁ x => kk s₁ (pr.trA _ _ _ hRA x))) n tm ho' gs' sl'' q' t h2' (hIn t hI) _ _ _ hst
  | big hs K h kk ih =>
    intro hR0 n tm ho gs sl q t h2 hI
    obtain ⟨s', _, hR, _, _⟩ := pr.draw _ 0
    exact (h s' hR).elim

/-- Both are on their ways. (hS: at which send the sender stands does not turn with the world.) -/
theorem meet (pr : Prot c k wd RA RB DA DB Inv) (hSA : ∀ g s, SA g s → AtR P c z g (wd s)) (hSB : ∀ g s, SB g s → (∃ v g₂, AtS P c v g g₂ (wd s)) ∨ ∃ g₂, AtC P c g g₂ (wd s))
    (hS : ∀ g s v g₂ n tm, OpenAt c (wd s) n tm → (∀ s₁, RB s s₁ → SB g s₁) → AtS P c v g g₂ (wd s) → ∀ s₁, RB s s₁ → AtS P c v g g₂ (wd s₁))
    {b : Goroutine} {s : σ} (hB : Tree P false wd RB DB noBig SB b s) : ∀ a s0, Tree P true wd RA DA noBig SA a s0 → RB s s0 → ∀ n tm, OpenAt c (wd s0) n tm → ∀ gs sl q t, Two P k gs q a b → Inv t s0 →
      Gets P c k z wd RA RB DA Inv SA SB gs (wd s0) sl t := by
  induction hB with
  | @stop b s h =>
    intro a s0 hA hR0 n tm ho gs sl q t h2 hI
    have hrb : b.status = .running := by
      obtain ⟨s', _, _, hR, _⟩ := pr.draw s 0
      rcases hSB _ _ (h s' hR) with ⟨v, g₂, x, _⟩ | ⟨g₂, x, _⟩ <;> exact x
    refine meetC pr hSA hSB hrb (.stop h) (fun s1 hR1 a hra hA n tm ho gs sl q t h2 hI gs0 w0 sl0 hst => ?_) hA hR0 n tm ho gs sl q t h2 hI
    have hk0 := h2.k0
    have hkb : (k == 0) = false := by simp; omega
    have hsb : ∀ s₁, RB s1 s₁ → SB b s₁ := fun s₁ x => h s₁ (pr.trB _ _ _ hR1 x)
    rcases hSB _ _ (h s1 hR1) with ⟨v, g₂, hr', z', hcomm⟩ | ⟨g₂, hr', hmw, hcl, m, hq⟩
    · -- it waits
      have hm := crowd_waits (P := P) (sl := sl) (i := k) h2.hk (by rw [hkb]; exact hcomm) (fun cc hcc => by
        obtain rfl : cc = scase c v z' := by simpa using hcc
        refine ⟨made_send v z' ho, ?_⟩
        have hp := noOfferK (c := c) h2 false (offersAt_of_not_blocked (by rw [hra]; simp) _ _)
        simp [ways, scase, show (wd s1).heap[c]? = _ from ho, hp])
      refine Gets.one (hst.trans hm) ?_
      rw [ofEvents_none, Array.append_empty]
      exact meetB pr hSA hA b g₂ v z' hsb (hS b s1 v g₂ n tm ho hsb ⟨hr', z', hcomm⟩) n tm ho _ _ q t (h2.setk _) hI
    · have hgo := hcl n tm ho
      have hm := runT_crowd_go (P := P) (sl := sl) (i := k) h2.hk (by rw [hkb]; exact hgo)
      refine Gets.end_ (hst.trans hm) ?_
      exact .shut s1 a b g₂ n tm _ sl q t _ _ hA hsb ⟨hr', hmw, hcl, m, hq⟩ ho hI (h2.gok _ _ _ (woken_run' hra))
  | @step b s hs g' s' es h hd kk ih =>
    intro a s0 hA hR0 n tm ho gs sl q t h2 hI
    refine meetC pr hSA hSB hs (.step hs g' s' es h hd kk) (fun s1 hR1 a hra hA n tm ho gs sl q t h2 hI gs0 w0 sl0 hst => ?_) hA hR0 n tm ho gs sl q t h2 hI
    have hk0 := h2.k0
    have hkb : (k == 0) = false := by simp; omega
    have hm := runT_crowd_go (P := P) (sl := sl) (i := k) h2.hk (by rw [hkb]; exact h s1 hR1)
    have hdd := hd s1 hR1
    obtain ⟨hRA2, hI2⟩ := pr.stepB _ _ _ t b.frame.fn b.frame.place hdd hI
    have ho2 := pr.opB _ _ _ n tm hdd ho
    refine Gets.one (hst.trans hm) ?_
    exact ih s1 hR1 a (s' s1) (hA.rely pr.trA hRA2) (pr.rfB _) n tm ho2 _ _ q _ (h2.gok _ _ _ (woken_run' hra)) hI2
  | big hs K h kk ih =>
    intro a s0 hA hR0 n tm ho gs sl q t h2 hI
    exact (h s0 hR0).elim
end
end Go.Proofs.Ytnphcnhejgpjgaa.Co
end
section
namespace Go.Proofs.Ytnphcnhejgpjgaa.Co
open Go.Conc

/-- A world, and the blocks that the sender has made. -/
structure GW where
  w : World
  O : Nat → Prop

def Same3 (w w' : World) : Prop := w'.tape = w.tape ∧ w'.os = w.os ∧ w'.output = w.output
theorem Same3.refl (w : World) : Same3 w w := ⟨rfl, rfl, rfl⟩
theorem Same3.trans {a b c : World} (h : Same3 a b) (k : Same3 b c) : Same3 a c := ⟨k.1.trans h.1, k.2.1.trans h.2.1, k.2.2.trans h.2.2⟩

/-- What the sender's doing, a meeting and the draws turn. -/
def RA2 (c : Nat) (s s' : GW) : Prop := Same3 s.w s'.w ∧ s.w.heap.size ≤ s'.w.heap.size ∧ (∀ b, s'.O b ↔ s.O b ∨ (s.w.heap.size ≤ b ∧ b < s'.w.heap.size)) ∧ ∀ b, b < s.w.heap.size → ¬ s.O b → b ≠ c → s'.w.heap[b]? = s.w.heap[b]?
/-- What the receiver's doing, a meeting and the draws turn. -/
def RB2 (s s' : GW) : Prop := Same3 s.w s'.w ∧ s.w.heap.size ≤ s'.w.heap.size ∧ s'.O = s.O ∧ ∀ b, s.O b → b < s.w.heap.size → s'.w.heap[b]? = s.w.heap[b]?
/-- An entry that touches a cell of such a block alone, or is a mark that means nothing. -/
def EvT (Q : Nat → Prop) (e : Event) : Prop := (∃ a, e.loc = .cell a ∧ Q a.block) ∨ ∃ m, e = ⟨.mark m, false, true⟩ ∧ Neutral m
def DA2 (c : Nat) (s : GW) (es : Array Event) (s' : GW) : Prop := Same3 s.w s'.w ∧ s.w.heap.size ≤ s'.w.heap.size ∧ s'.O = s.O ∧ (∀ b, b < s.w.heap.size → s.O b ∨ b = c → s'.w.heap[b]? = s.w.heap[b]?) ∧ ∀ e ∈ es, EvT (fun b => ¬ s.O b ∧ b < s'.w.heap.size) e
def DB2 (c : Nat) (s : GW) (es : Array Event) (s' : GW) : Prop := Same3 s.w s'.w ∧ s.w.heap.size ≤ s'.w.heap.size ∧ (∀ b, s'.O b ↔ s.O b ∨ (s.w.heap.size ≤ b ∧ b < s'.w.heap.size)) ∧ (∀ b, b < s.w.heap.size → ¬ s.O b ∨ b = c → s'.w.heap[b]? = s.w.heap[b]?) ∧ ∀ e ∈ es, EvT s'.O e

theorem RA2.refl (c : Nat) (s : GW) : RA2 c s s := ⟨.refl _, Nat.le_refl _, fun b => ⟨.inl, fun h => h.elim id fun x => by omega⟩, fun _ _ _ _ => rfl⟩
theorem RA2.trans {c : Nat} {a b d : GW} (h : RA2 c a b) (k : RA2 c b d) : RA2 c a d := by
  obtain ⟨h1, h2, h3, h4⟩ := h
  obtain ⟨k1, k2, k3, k4⟩ := k
  refine ⟨h1.trans k1, by omega, fun x => ?_, fun x hx ho hc => ?_⟩
  · rw [k3, h3]
    constructor
    · rintro ((h | h) | h)
      · exact .inl h
      · exact .inr (by omega)
      · exact .inr (by omega)
    · rintro (h | h)
      · exact .inl (.inl h)
      · by_cases hb : x < b.w.heap.size
        · exact .inl (.inr (by omega))
        · exact .inr (by omega)
  · rw [k4 x (by omega) (fun hb => ((h3 x).1 hb).elim ho fun y => by omega) hc, h4 x hx ho hc]
theorem RB2.refl (s : GW) : RB2 s s := ⟨.refl _, Nat.le_refl _, rfl, fun _ _ _ => rfl⟩
theorem RB2.trans {a b d : GW} (h : RB2 a b) (k : RB2 b d) : RB2 a d := by
  obtain ⟨h1, h2, h3, h4⟩ := h
  obtain ⟨k1, k2, k3, k4⟩ := k
  refine ⟨h1.trans k1, by omega, k3.trans h3, fun x ho hx => ?_⟩
  rw [k4 x (by rw [h3]; exact ho) (by omega), h4 x ho hx]

theorem neutral_evN {m : Mark} (h : Neutral m) : EvN ⟨.mark m, false, true⟩ := ⟨fun e => h.ne_disable (Loc.mark.inj e), fun e => h.ne_enable (Loc.mark.inj e)⟩
theorem EvT.evN {Q : Nat → Prop} {e : Event} (h : EvT Q e) : EvN e := by
  rcases h with ⟨a, h, _⟩ | ⟨m, rfl, h⟩
  · exact ⟨by rw [h]; simp, by rw [h]; simp⟩
  · exact neutral_evN h
theorem EvT.touch {Q : Nat → Prop} {e : Event} (h : EvT Q e) {x : Touch} (hx : (MemAct.ofEvent e).touch? = some x) : ∃ a, x.loc = .cell a ∧ Q a.block := by
  rcases h with ⟨a, h, hq⟩ | ⟨m, rfl, h⟩
  · obtain ⟨loc, wr, sy⟩ := e
    simp only at h
    subst h
    refine ⟨a, ?_, hq⟩
    cases wr <;> cases sy <;> simp [MemAct.ofEvent, MemAct.touch?] at hx <;> subst hx <;> rfl
  · have : MemAct.ofEvent ⟨.mark m, false, true⟩ = .mark m := rfl
    rw [this, h.touch] at hx
    cases hx

/-! ### the traces -/

/-- What k has touched that goroutine 0 may not know of lies in Z; goroutine 0's that k may not know of, in Y. -/
structure Tr (k : Nat) (Z Y : Loc → Prop) (t : Trace) : Prop where
  plain : ∀ op ∈ t, op.act ≠ .mark .disable ∧ op.act ≠ .mark .enable
  clean : ∀ said, ¬ Race said t
  kA : ∀ i a, touchAt t i = some a → a.loc.isMemory = true → Knows t 0 i ∨ (t.g? i = some k ∧ Z a.loc)
  kB : ∀ i a, touchAt t i = some a → a.loc.isMemory = true → Knows t k i ∨ (t.g? i = some 0 ∧ Y a.loc)
  ov : ∀ i g, t.g? i = some g → g ≠ 0 → g ≠ k → t.counts i → ∃ j, t.g? j = some 0 ∧ HappensBefore t i j

section
variable {k : Nat} {Z Y Z' Y' : Loc → Prop} {t u : Trace}

theorem Tr.mono (h : Tr k Z Y t) (hZ : ∀ l, Z l → Z' l) (hY : ∀ l, Y l → Y' l) : Tr k Z' Y' t :=
  ⟨h.plain, h.clean, fun i a ha hm => (h.kA i a ha hm).imp id (And.imp_right (hZ _)), fun i a ha hm => (h.kB i a ha hm).imp id (And.imp_right (hY _)), h.ov⟩

theorem g?_app {i : Nat} {g : Nat} (h : t.g? i = some g) : (t ++ u).g? i = some g := by
  obtain ⟨op, ho, rfl⟩ := Option.map_eq_some_iff.1 h
  have := lt_size_of_getElem? ho
  simp [Trace.g?, getElem?_append_old this, ho]

theorem ov_app (h : ∀ i g, t.g? i = some g → g ≠ 0 → g ≠ k → t.counts i → ∃ j, t.g? j = some 0 ∧ HappensBefore t i j) (hu : ∀ op ∈ u, op.g = 0 ∨ op.g = k) :
    ∀ i g, (t ++ u).g? i = some g → g ≠ 0 → g ≠ k → (t ++ u).counts i → ∃ j, (t ++ u).g? j = some 0 ∧ HappensBefore (t ++ u) i j := by
  intro i g hg h0 hk hc
  obtain ⟨x, hx, _⟩ := hc
  obtain ⟨op, hop, hox⟩ := touch_of hx
  rcases getElem?_append_cases hop with ⟨hi, hop'⟩ | ⟨_, hopu⟩
  · obtain ⟨j, hj, hb⟩ := h i g (by simpa [Trace.g?, getElem?_append_old hi] using hg) h0 hk ((counts_old hi).1 ⟨x, hx, ‹_›⟩)
    exact ⟨j, g?_app hj, hb_app u hb⟩
  · have : op.g = g := by simpa [Trace.g?, hop] using hg
    rcases hu op hopu with e | e
    · exact absurd (this.symm.trans e) h0
    · exact absurd (this.symm.trans e) hk

/-- Goroutine 0's own operations: none touches what k has. -/
theorem Tr.own0 (h : Tr k Z Y t) {fn : FuncId} {pos : String} {es : Array Event} (hn : ∀ e ∈ es, EvN e)
    (hz : ∀ e ∈ es, ∀ x, (MemAct.ofEvent e).touch? = some x → ¬ Z x.loc ∧ Y x.loc) : Tr k Z Y (t ++ MemOp.ofEvents 0 fn pos es) := by
  have hu : ∀ op ∈ MemOp.ofEvents 0 fn pos es, op.g = 0 := fun op hop => by obtain ⟨e, _, rfl⟩ := Go.Conc.mem_ofEvents hop; rfl
  have ht : ∀ op ∈ MemOp.ofEvents 0 fn pos es, ∀ x, op.act.touch? = some x → ¬ Z x.loc ∧ Y x.loc := fun op hop => by obtain ⟨e, he, rfl⟩ := Go.Conc.mem_ofEvents hop; exact hz e he
  refine ⟨plain_app h.plain (plain_events hn), fun said => noRace_append (h.clean said) hu fun i a ha op hop b hb hc => ?_, fun i a ha hm => ?_, fun i a ha hm => ?_, ov_app h.ov fun op hop => .inl (hu op hop)⟩
  · rcases h.kA i a ha hc.2.1 with h1 | ⟨_, h2⟩
    · exact h1
    · exact absurd (hc.1 ▸ h2) (ht op hop b hb).1
  · obtain ⟨x, hx, hxa⟩ := touch_of ha
    rcases getElem?_append_cases hx with ⟨_, hx'⟩ | ⟨_, hxu⟩
    · exact (h.kA i a (by rw [touchAt_of hx']; exact hxa) hm).imp (·.app _) fun y => ⟨g?_app y.1, y.2⟩
    · have := knows_own hx
      rw [hu x hxu] at this
      exact .inl this
  · obtain ⟨x, hx, hxa⟩ := touch_of ha
    rcases getElem?_append_cases hx with ⟨_, hx'⟩ | ⟨_, hxu⟩
    · exact (h.kB i a (by rw [touchAt_of hx']; exact hxa) hm).imp (·.app _) fun y => ⟨g?_app y.1, y.2⟩
    · exact .inr ⟨by simp [Trace.g?, hx, hu x hxu], (ht x hxu a hxa).2⟩

/-- k's own operations. -/
theorem Tr.ownk (h : Tr k Z Y t) {fn : FuncId} {pos : String} {es : Array Event} (hn : ∀ e ∈ es, EvN e)
    (hz : ∀ e ∈ es, ∀ x, (MemAct.ofEvent e).touch? = some x → x.loc.isMemory = true → ¬ Y x.loc ∧ Z x.loc) : Tr k Z Y (t ++ MemOp.ofEvents k fn pos es) := by
  have hu : ∀ op ∈ MemOp.ofEvents k fn pos es, op.g = k := fun op hop => by obtain ⟨e, _, rfl⟩ := Go.Conc.mem_ofEvents hop; rfl
  have ht : ∀ op ∈ MemOp.ofEvents k fn pos es, ∀ x, op.act.touch? = some x → x.loc.isMemory = true → ¬ Y x.loc ∧ Z x.loc := fun op hop => by obtain ⟨e, he, rfl⟩ := Go.Conc.mem_ofEvents hop; exact hz e he
  refine ⟨plain_app h.plain (plain_events hn), fun said => noRace_append (h.clean said) hu fun i a ha op hop b hb hc => ?_, fun i a ha hm => ?_, fun i a ha hm => ?_, ov_app h.ov fun op hop => .inr (hu op hop)⟩
  · rcases h.kB i a ha hc.2.1 with h1 | ⟨_, h2⟩
    · exact h1
    · exact absurd (hc.1 ▸ h2) (ht op hop b hb (hc.1 ▸ hc.2.1)).1
  · obtain ⟨x, hx, hxa⟩ := touch_of ha
    rcases getElem?_append_cases hx with ⟨_, hx'⟩ | ⟨_, hxu⟩
    · exact (h.kA i a (by rw [touchAt_of hx']; exact hxa) hm).imp (·.app _) fun y => ⟨g?_app y.1, y.2⟩
    · exact .inr ⟨by simp [Trace.g?, hx, hu x hxu], (ht x hxu a hxa hm).2⟩
  · obtain ⟨x, hx, hxa⟩ := touch_of ha
    rcases getElem?_append_cases hx with ⟨_, hx'⟩ | ⟨_, hxu⟩
    · exact (h.kB i a (by rw [touchAt_of hx']; exact hxa) hm).imp (·.app _) fun y => ⟨g?_app y.1, y.2⟩
    · have := knows_own hx
      rw [hu x hxu] at this
      exact .inl this

theorem metOps_plain {c n : Nat} {x y x' y' : FuncId × String} : ∀ op ∈ metOps c k n x y x' y', (op.g = 0 ∨ op.g = k) ∧ op.act.touch? = none ∧ op.act ≠ .mark .disable ∧ op.act ≠ .mark .enable := by
  intro op hop
  simp [metOps] at hop
  rcases hop with rfl | rfl | rfl | rfl <;> simp [MemAct.touch?]

/-- Operations of the two that touch nothing. -/
theorem Tr.none (h : Tr k Z Y t) (hu : ∀ op ∈ u, (op.g = 0 ∨ op.g = k) ∧ op.act.touch? = none ∧ op.act ≠ .mark .disable ∧ op.act ≠ .mark .enable) : Tr k Z Y (t ++ u) := by
  have hold : ∀ i a, touchAt (t ++ u) i = some a → touchAt t i = some a := fun i a ha => by
    obtain ⟨x, hx, hxa⟩ := touch_of ha
    rcases getElem?_append_cases hx with ⟨_, hx'⟩ | ⟨_, hxu⟩
    · rw [touchAt_of hx']; exact hxa
    · rw [(hu x hxu).2.1] at hxa; cases hxa
  refine ⟨plain_app h.plain fun op hop => (hu op hop).2.2, fun said hr => ?_, fun i a ha hm => (h.kA i a (hold i a ha) hm).imp (·.app _) fun y => ⟨g?_app y.1, y.2⟩,
    fun i a ha hm => (h.kB i a (hold i a ha) hm).imp (·.app _) fun y => ⟨g?_app y.1, y.2⟩, ov_app h.ov fun op hop => (hu op hop).1⟩
  obtain ⟨i, j, hij, ⟨a, b, ha, hb, hc⟩, n1, n2⟩ := hr
  exact h.clean said ⟨i, j, hij, ⟨a, b, hold i a ha, hold j b hb, hc⟩, fun e => n1 (hb_app u e), fun e => n2 (hb_app u e)⟩

/-- At a meeting goroutine 0 comes to know all that k has done. -/
theorem Tr.met (h : Tr k Z Y t) (c n : Nat) (x y x' y' : FuncId × String) : Tr k Z' Y (t ++ metOps c k n x y x' y') := by
  have h1 := h.none (u := metOps c k n x y x' y') metOps_plain
  refine ⟨h1.plain, h1.clean, fun i a ha hm => .inl ?_, h1.kB, h1.ov⟩
  rcases h1.kA i a ha hm with h2 | ⟨hg, _⟩
  · exact h2
  · -- the send stands behind it; the receive notices the send
    obtain ⟨op, hop, hox⟩ := touch_of ha
    have hi : i < t.size := by
      rcases getElem?_append_cases hop with ⟨hi, _⟩ | ⟨_, hu⟩
      · exact hi
      · rw [(metOps_plain op hu).2.1] at hox; cases hox
    have hs : (t ++ metOps c k n x y x' y')[t.size]? = some { g := k, fn := x.1, pos := x.2, act := .send c n } := by rw [Array.getElem?_append_right (Nat.le_refl _)]; simp [metOps]
    have hr : (t ++ metOps c k n x y x' y')[t.size + 3]? = some { g := 0, fn := y'.1, pos := y'.2, act := .recvDone c n } := by rw [Array.getElem?_append_right (by omega)]; simp [metOps]
    refine ⟨t.size + 3, _, hr, rfl, .inr ?_⟩
    have e1 : HappensBefore (t ++ metOps c k n x y x' y') i t.size := hb_po hi hop hs (by
      have : op.g = k := by simpa [Trace.g?, hop] using hg
      exact this)
    have e2 : HappensBefore (t ++ metOps c k n x y x' y') t.size (t.size + 3) := .single (.inr ⟨.handOver (c := c) (k := n) (act?_of hs) (act?_of hr), heard_plain h1.plain hs, heard_plain h1.plain hr⟩)
    exact e1.trans e2
end
end Go.Proofs.Ytnphcnhejgpjgaa.Co
end
section
namespace Go.Proofs.Ytnphcnhejgpjgaa.Co
open Go.Conc

def ZO (s : GW) (l : Loc) : Prop := ∃ ad, l = .cell ad ∧ s.O ad.block
def YO (s : GW) (l : Loc) : Prop := ∃ ad, l = .cell ad ∧ ¬ s.O ad.block ∧ ad.block < s.w.heap.size
def Inv2 (c k : Nat) (t : Trace) (s : GW) : Prop := ¬ s.O c ∧ c < s.w.heap.size ∧ Tr k (ZO s) (YO s) t

theorem g?_eq {t : Trace} {i g : Nat} {op : MemOp} (hop : t[i]? = some op) (h : t.g? i = some g) : op.g = g := by
  rw [Trace.g?, hop] at h
  exact Option.some.inj h

theorem open_lt {c n : Nat} {tm : Bool} {w : World} (h : OpenAt c w n tm) : c < w.heap.size := by
  rcases Nat.lt_or_ge c w.heap.size with h' | h'
  · exact h'
  · rw [OpenAt, Array.getElem?_eq_none h'] at h; cases h

theorem da2_rb {c : Nat} {s s' : GW} {es : Array Event} (h : DA2 c s es s') : RB2 s s' := ⟨h.1, h.2.1, h.2.2.1, fun b ho hb => h.2.2.2.1 b hb (.inl ho)⟩
theorem db2_ra {c : Nat} {s s' : GW} {es : Array Event} (h : DB2 c s es s') : RA2 c s s' := ⟨h.1, h.2.1, h.2.2.1, fun b hb ho _ => h.2.2.2.1 b hb (.inl ho)⟩

theorem prot2 (c k : Nat) : Prot c k GW.w (RA2 c) RB2 (DA2 c) (DB2 c) (Inv2 c k) where
  trA := fun _ _ _ => RA2.trans
  trB := fun _ _ _ => RB2.trans
  rfB := RB2.refl
  draw := fun s d => ⟨⟨s.w.at d, s.O⟩, rfl, ⟨.refl _, Nat.le_refl _, fun b => ⟨.inl, fun h => h.elim id fun x => by have := x.1; have := x.2; simp only [World.at] at *; omega⟩, fun _ _ _ _ => rfl⟩, ⟨.refl _, Nat.le_refl _, rfl, fun _ _ _ => rfl⟩, fun _ h => h⟩
  stepA := fun s es s' t fn pos h hI => by
    refine ⟨da2_rb h, ?_⟩
    obtain ⟨hc, hcl, hT⟩ := hI
    obtain ⟨h1, h2, h3, h4, h5⟩ := h
    refine ⟨by rw [h3]; exact hc, by omega, ?_⟩
    have hT' : Tr k (ZO s') (YO s') t := hT.mono (fun l ⟨ad, e, ho⟩ => ⟨ad, e, by rw [h3]; exact ho⟩) (fun l ⟨ad, e, ho, hl⟩ => ⟨ad, e, by rw [h3]; exact ho, by omega⟩)
    refine hT'.own0 (fun e he => (h5 e he).evN) fun e he x hx => ?_
    obtain ⟨ad, e1, e2, e3⟩ := (h5 e he).touch hx
    exact ⟨fun ⟨ad', e', ho⟩ => by rw [e1] at e'; cases e'; exact e2 (by rw [← h3]; exact ho), ad, e1, by rw [h3]; exact e2, e3⟩
  stepB := fun s es s' t fn pos h hI => by
    refine ⟨db2_ra h, ?_⟩
    obtain ⟨hc, hcl, hT⟩ := hI
    obtain ⟨h1, h2, h3, h4, h5⟩ := h
    refine ⟨fun x => ((h3 c).1 x).elim hc fun y => by omega, by omega, ?_⟩
    have hT' : Tr k (ZO s') (YO s') t := hT.mono (fun l ⟨ad, e, ho⟩ => ⟨ad, e, (h3 _).2 (.inl ho)⟩) (fun l ⟨ad, e, ho, hl⟩ => ⟨ad, e, fun x => ((h3 _).1 x).elim ho fun y => by omega, by omega⟩)
    refine hT'.ownk (fun e he => (h5 e he).evN) fun e he x hx _ => ?_
    obtain ⟨ad, e1, e2⟩ := (h5 e he).touch hx
    exact ⟨fun ⟨ad', e', ho, _⟩ => by rw [e1] at e'; cases e'; exact ho e2, ad, e1, e2⟩
  opA := fun s es s' n tm h ho => (h.2.2.2.1 c (open_lt ho) (.inr rfl)).trans ho
  opB := fun s es s' n tm h ho => (h.2.2.2.1 c (open_lt ho) (.inr rfl)).trans ho

def DA1 (w : World) (es : Array Event) (w' : World) : Prop := w' = w ∧ es = #[]
def Inv1 (k : Nat) (t : Trace) (_ : World) : Prop := Tr k (fun _ => True) (fun _ => False) t

theorem prot1 (c k : Nat) : Prot c k id (fun _ _ => True) AtRel DA1 DN (Inv1 k) where
  trA := fun _ _ _ _ _ => trivial
  trB := atRel_trans
  rfB := atRel_refl
  draw := fun s d => ⟨s.at d, rfl, trivial, ⟨d, rfl⟩, fun _ h => h⟩
  stepA := fun s es s' t fn pos h hI => by
    obtain ⟨rfl, rfl⟩ := h
    exact ⟨atRel_refl _, by rw [ofEvents_none, Array.append_empty]; exact hI⟩
  stepB := fun s es s' t fn pos h hI => ⟨trivial, Tr.ownk hI h.1 fun e he x hx _ => ⟨id, trivial⟩⟩
  opA := fun s es s' n tm h ho => by obtain ⟨rfl, rfl⟩ := h; exact ho
  opB := fun s es s' n tm h ho => h.2 c _ ho rfl

/-! ### the channel is closed -/

/-- k's close stands in the trace, and nothing of k's behind it. -/
def Shutted (c k : Nat) (t : Trace) : Prop := ∃ pc, t.act? pc = some (.close c) ∧ t.g? pc = some k ∧ ∀ i, t.g? i = some k → i ≤ pc

theorem Shutted.app {c k : Nat} {t u : Trace} (h : Shutted c k t) (hk : k ≠ 0) (hu : ∀ op ∈ u, op.g = 0) : Shutted c k (t ++ u) := by
  obtain ⟨pc, h1, h2, h3⟩ := h
  have hl := lt_of_act? h1
  refine ⟨pc, by rw [act?_old hl]; exact h1, g?_app h2, fun i hi => ?_⟩
  obtain ⟨op, ho, hog⟩ := Option.map_eq_some_iff.1 hi
  rcases getElem?_append_cases ho with ⟨hlt, ho'⟩ | ⟨_, hou⟩
  · exact h3 i (by simp [Trace.g?, ho', hog])
  · rw [hu op hou] at hog; exact absurd hog.symm hk

theorem Shutted.new {c k : Nat} (t : Trace) (fn : FuncId) (pos : String) : Shutted c k (t ++ MemOp.ofEvents k fn pos (closeEs c)) := by
  have e : MemOp.ofEvents k fn pos (closeEs c) = #[{ g := k, fn, pos, act := .access ⟨.obj c, false, true⟩ }, { g := k, fn, pos, act := .close c }] := by rw [ofEvents_eq]; simp [closeEs, MemAct.ofEvent]
  rw [e]
  refine ⟨t.size + 1, ?_, ?_, fun i hi => ?_⟩
  · exact act?_of (op := { g := k, fn, pos, act := .close c }) (by rw [Array.getElem?_append_right (by omega)]; simp)
  · simp [Trace.g?]
  · obtain ⟨op, ho, _⟩ := Option.map_eq_some_iff.1 hi
    have := lt_size_of_getElem? ho
    simp at this
    omega

theorem past_of_shut {c k : Nat} {Z Y : Loc → Prop} {t : Trace} (h : Tr k Z Y t) (hs : Shutted c k t) (fn : FuncId) (pos : String) : PastK (t ++ #[{ g := 0, fn, pos, act := .recvClosed c }]) := by
  have hu : ∀ op ∈ (#[{ g := 0, fn, pos, act := .recvClosed c }] : Array MemOp), (op.g = 0 ∨ op.g = k) ∧ op.act.touch? = none ∧ op.act ≠ .mark .disable ∧ op.act ≠ .mark .enable := by
    intro op hop
    simp at hop
    subst hop
    simp [MemAct.touch?]
  have h1 := h.none hu
  obtain ⟨pc, hp1, hp2, hp3⟩ := hs
  have hpl := lt_of_act? hp1
  have hr : (t ++ #[({ g := 0, fn, pos, act := .recvClosed c } : MemOp)])[t.size]? = some { g := 0, fn, pos, act := .recvClosed c } := by simp
  obtain ⟨pop, hpo, hpa⟩ := Option.map_eq_some_iff.1 hp1
  have hpo' : (t ++ #[({ g := 0, fn, pos, act := .recvClosed c } : MemOp)])[pc]? = some pop := by rw [getElem?_append_old hpl]; exact hpo
  have e2 : HappensBefore (t ++ #[({ g := 0, fn, pos, act := .recvClosed c } : MemOp)]) pc t.size :=
    .single (.inr ⟨.closed (c := c) (by rw [act?_old hpl]; exact hp1) (act?_of hr), heard_plain h1.plain hpo', heard_plain h1.plain hr⟩)
  have key : ∀ i op, t[i]? = some op → op.g = k → HappensBefore (t ++ #[({ g := 0, fn, pos, act := .recvClosed c } : MemOp)]) i t.size := by
    intro i op ho hg
    have hi := lt_size_of_getElem? ho
    have hle := hp3 i (by simp [Trace.g?, ho, hg])
    rcases Nat.lt_or_ge i pc with hlt | hge
    · refine .trans (hb_po hlt (by rw [getElem?_append_old hi]; exact ho) hpo' ?_) e2
      have : pop.g = k := by simpa [Trace.g?, hpo] using hp2
      rw [hg, this]
    · obtain rfl : i = pc := by omega
      exact e2
  refine ⟨h1.plain, h1.clean, fun i a ha hm => ?_, fun i g hg h0 hc => ?_⟩
  · rcases h1.kA i a ha hm with h2 | ⟨hg, _⟩
    · exact h2
    · obtain ⟨op, hop, hox⟩ := touch_of ha
      rcases getElem?_append_cases hop with ⟨hi, hop'⟩ | ⟨_, hpu⟩
      · exact ⟨t.size, _, hr, rfl, .inr (key i op hop' (g?_eq hop hg))⟩
      · rw [(hu op hpu).2.1] at hox; cases hox
  · by_cases hgk : g = k
    · subst hgk
      obtain ⟨x, hx, _⟩ := hc
      obtain ⟨op, hop, hox⟩ := touch_of hx
      rcases getElem?_append_cases hop with ⟨hi, hop'⟩ | ⟨_, hpu⟩
      · exact ⟨t.size, by simp [Trace.g?], key i op hop' (g?_eq hop hg)⟩
      · rw [(hu op hpu).2.1] at hox; cases hox
    · exact h1.ov i g hg h0 hgk hc

/-- Goroutine 0 goes on to its receive, and finds the channel closed. -/
theorem shut_runs {σ : Type} {P : Program} {c : Nat} {z : Value} {wd : σ → World} {RA : σ → σ → Prop} {DA : σ → Array Event → σ → Prop} {SA : Goroutine → σ → Prop} {Inv : Trace → σ → Prop}
    (trA : ∀ a b c, RA a b → RA b c → RA a c) (draw : ∀ s d, ∃ s', wd s' = (wd s).at d ∧ RA s s' ∧ ∀ t, Inv t s → Inv t s')
    (stepA : ∀ s es s' t fn pos, DA s es s' → Inv t s → Inv (t ++ MemOp.ofEvents 0 fn pos es) s')
    (clA : ∀ s es s' n tm, DA s es s' → (wd s).heap[c]? = some (.chan 0 #[] true n n tm) → (wd s').heap[c]? = some (.chan 0 #[] true n n tm))
    (hSA : ∀ g s, SA g s → AtR P c z g (wd s)) {a : Goroutine} {s : σ} (hA : Tree P true wd RA DA noBig SA a s) :
    ∀ n tm, (wd s).heap[c]? = some (.chan 0 #[] true n n tm) → ∀ gs sl q t, gs[0]? = some a → Lvs P gs q → Inv t s →
      ∃ N gs' sl' q' t' s' ga fn pos, runNT P N (crowd gs (wd s) sl) t = (.next (crowd gs' (wd s') sl'), t' ++ #[{ g := 0, fn := fn, pos := pos, act := .recvClosed c }]) ∧
        gs'[0]? = some (Go.Conc.served (core ga) (.tuple #[z, .bool false])) ∧ Lvs P gs' q' ∧ Inv t' s' ∧ ∀ s₁, RA s' s₁ → SA ga s₁ := by
  induction hA with
  | @stop a s h =>
    intro n tm hc gs sl q t h0 hL hI
    have hra : a.status = .running := by
      obtain ⟨s', _, hR, _⟩ := draw s 0
      exact (hSA _ _ (h s' hR)).1
    obtain ⟨N, gs', d, e, sl', sl'', q', hr, hs', h0', hL', hst⟩ := slip (P := P) _ gs a (wd s) sl t q rfl h0 hra hL
    obtain ⟨s1, hs1, hRA, hIn⟩ := draw s e
    rw [← hs1] at hst
    have hc' : (wd s1).heap[c]? = some (.chan 0 #[] true n n tm) := by rw [hs1]; exact hc
    have hcomm := (hSA _ _ (h s1 hRA)).2
    have hp : partners (gs'.setIfInBounds 0 ph) c true = [] := partners_nil fun j g hj => by
      rcases getElem?_stand gs' 0 j g hj with ⟨_, rfl⟩ | ⟨h1, h2⟩
      · rfl
      · have := (hL' j g (by omega) h2).status
        exact offersAt_of_not_blocked (by rcases this with e | e <;> rw [e] <;> simp) _ _
    have hm := crowd_recv_closed (P := P) (sl := sl'') (i := 0) h0' hcomm hc' hp
    rw [finishComm_recv] at hm
    have hlt : 0 < gs'.size := (Array.getElem?_eq_some_iff.1 h0').1
    refine ⟨N + 1, gs'.setIfInBounds 0 (Go.Conc.served (core a) (.tuple #[z, .bool false])), sl'', q', t, s1, a, (core a).frame.fn, (core a).frame.place, ?_, by simp [hlt], fun j x hj hx => ?_, hIn t hI, fun s₁ x => h s₁ (trA _ _ _ hRA x)⟩
    · have := runNT_add P N 1 (crowd gs (wd s) sl) t
      rw [hr] at this
      rw [this]
      simp only [runNT, hst, hm, ofEvents_none, Array.empty_append]
      rfl
    · rw [Array.getElem?_setIfInBounds_ne (by omega)] at hx
      exact hL' j x hj hx
  | @step a s hs g' s' es h hd kk ih =>
    intro n tm hc gs sl q t h0 hL hI
    obtain ⟨N, gs', d, e, sl', sl'', q', hr, hs', h0', hL', hst⟩ := slip (P := P) _ gs a (wd s) sl t q rfl h0 hs hL
    obtain ⟨s1, hs1, hRA, hIn⟩ := draw s e
    rw [← hs1] at hst
    have hc' : (wd s1).heap[c]? = some (.chan 0 #[] true n n tm) := by rw [hs1]; exact hc
    have hm := runT_crowd_go (P := P) (sl := sl'') (i := 0) h0' (show stepG P (0 == 0) a _ = _ from h s1 hRA)
    have hdd := hd s1 hRA
    have hlt : 0 < gs'.size := (Array.getElem?_eq_some_iff.1 h0').1
    obtain ⟨M, gs2, sl2, q2, t2, s2, ga, fn, pos, r1, r2, r3, r4, r5⟩ := ih s1 hRA n tm (clA _ _ _ n tm hdd hc') ((gs'.map (woken P a (g' s1) (wd (s' s1)))).setIfInBounds 0 (g' s1)) sl'' q' (t ++ MemOp.ofEvents 0 a.frame.fn a.frame.place (es s1)) (by simp [hlt])
      (fun j x hj hx => by
        rw [Array.getElem?_setIfInBounds_ne (by omega), Array.getElem?_map] at hx
        obtain ⟨y, hy, rfl⟩ := Option.map_eq_some_iff.1 hx
        rw [woken_q (hL' j y hj hy)]
        exact hL' j y hj hy) (stepA _ _ _ t _ _ hdd (hIn t hI))
    refine ⟨N + (1 + M), gs2, sl2, q2, t2, s2, ga, fn, pos, ?_, r2, r3, r4, r5⟩
    rw [runNT_add, hr]
    show runNT P (1 + M) (crowd gs' ((wd s).at d) sl') t = _
    rw [runNT_add]
    have e1 : runNT P 1 (crowd gs' ((wd s).at d) sl') t = (.next (crowd ((gs'.map (woken P a (g' s1) (wd (s' s1)))).setIfInBounds 0 (g' s1)) (wd (s' s1)) sl''), t ++ MemOp.ofEvents 0 a.frame.fn a.frame.place (es s1)) := by
      simp only [runNT, hst, hm]
    rw [e1]
    exact r1
  | big hs K h kk ih =>
    intro n tm hc gs sl q t h0 hL hI
    obtain ⟨s', _, hR, _⟩ := draw _ 0
    exact (h s' hR).elim

/-! ### the scripts -/
section
variable (P : Program) (c : Nat) (z : Value) (Fin : Goroutine → GW → Prop)

def StA2 (Next : Goroutine → GW → Prop) (v : Value) (ok : Bool) (ga : Goroutine) (s : GW) : Prop := AtR P c z ga s.w ∧ ∀ s2, RA2 c s s2 → Next (Go.Conc.served (core ga) (.tuple #[v, .bool ok])) s2
def RecvsA : List Value → Goroutine → GW → Prop
  | [] => Tree P true GW.w (RA2 c) (DA2 c) noBig (StA2 P c z Fin z false)
  | v :: vs => Tree P true GW.w (RA2 c) (DA2 c) noBig (StA2 P c z (RecvsA vs) v true)
def StB0 (gb : Goroutine) (s : GW) : Prop := ∃ g₂, AtC P c gb g₂ s.w
def StB2 (Next : Goroutine → GW → Prop) (v : Value) (gb : Goroutine) (s : GW) : Prop := AtS P c v gb (core gb) s.w ∧ ∀ s2, RB2 s s2 → Next (Go.Conc.served (core gb) undef) s2
def SendsB : List Value → Goroutine → GW → Prop
  | [] => Tree P false GW.w RB2 (DB2 c) noBig (StB0 P c)
  | v :: vs => Tree P false GW.w RB2 (DB2 c) noBig (StB2 P c (SendsB vs) v)
end

section
variable {P : Program} {c k : Nat} {z : Value}

theorem core_woken (ga : Goroutine) (cs : Array CommCase) (sh : CommShape) : core { parked (core ga) cs sh with status := .running } = core ga := rfl
theorem AtR.woken {ga : Goroutine} {w : World} (h : AtR P c z ga w) (cs : Array CommCase) (sh : CommShape) : AtR P c z { parked (core ga) cs sh with status := .running } w :=
  ⟨rfl, by rw [core_woken, ← h.2]; exact stepG_same rfl rfl rfl w⟩
theorem AtS.inj {v v' : Value} {g g₂ g₂' : Goroutine} {w : World} (h : AtS P c v g g₂ w) (h' : AtS P c v' g g₂' w) : v = v' ∧ g₂ = g₂' := by
  obtain ⟨_, z1, e1⟩ := h
  obtain ⟨_, z2, e2⟩ := h'
  rw [e1] at e2
  simp only [GStep.comm.injEq, scase, Array.mk.injEq, List.cons.injEq, CommCase.mk.injEq, Option.some.injEq] at e2
  exact ⟨e2.2.1.1.2.1, e2.1⟩
theorem AtS.not_close {v : Value} {g g₂ g₃ : Goroutine} {w : World} {n : Nat} {tm : Bool} (h : AtS P c v g g₂ w) (h' : AtC P c g g₃ w) (ho : OpenAt c w n tm) : False := by
  obtain ⟨_, z1, e1⟩ := h
  have := h'.2.2.1 n tm ho
  rw [e1] at this
  cases this

/-- Behind the close. -/
def Inv3 (c k : Nat) (t : Trace) (s : GW) : Prop := (¬ s.O c ∧ c < s.w.heap.size) ∧ Tr k (fun l => ZO s l ∨ l = .obj c) (YO s) t ∧ Shutted c k t

theorem lvs_of_two {gs : Array Goroutine} {q : Nat → Nat} {a g₂ : Goroutine} {m : Nat} (h : Two P k gs q a g₂) (hq : QuitsIn P m g₂) : Lvs P gs (Go.ConcN.upd q k m) := by
  intro i g hi hg
  by_cases hik : i = k
  · subst hik
    obtain rfl : g = g₂ := by rw [h.hk] at hg; exact (Option.some.inj hg).symm
    rw [Go.ConcN.upd_same]; exact hq
  · rw [Go.ConcN.upd_ne q m hik]; exact h.ot i g hi hik hg

theorem closeEs_evN (c : Nat) : ∀ e ∈ closeEs c, EvN e := by
  intro e he
  simp [closeEs] at he
  rcases he with rfl | rfl <;> exact ⟨by simp, by simp⟩
theorem closeEs_touch {c : Nat} {e : Event} (he : e ∈ closeEs c) {x : Touch} (hx : (MemAct.ofEvent e).touch? = some x) : x.loc = .obj c := by
  simp [closeEs] at he
  rcases he with rfl | rfl
  · simp [MemAct.ofEvent, MemAct.touch?] at hx; subst hx; rfl
  · simp [MemAct.ofEvent, MemAct.touch?] at hx

variable {Fin : Goroutine → GW → Prop}

/-- From a closed channel, in the second mode, to the end. -/
theorem end2 (hk : k ≠ 0) {a : Goroutine} {s : GW} (hA : Tree P true GW.w (RA2 c) (DA2 c) noBig (StA2 P c z Fin z false) a s) {g₂ : Goroutine} {m n : Nat} {tm : Bool} (hq : QuitsIn P m g₂) {gs : Array Goroutine} {sl : Option (Nat × Nat)} {q : Nat → Nat} {t : Trace} {fn : FuncId} {pos : String}
    (ho : OpenAt c s.w n tm) (hI : Inv2 c k t s) (h2 : Two P k gs q a g₂) :
    ∃ N m' t' g' s', runNT P N (crowd gs (s.w.shut c n n tm) sl) (t ++ MemOp.ofEvents k fn pos (closeEs c)) = (.next m', t') ∧ Sit P g' s'.w m' t' ∧ Fin g' s' := by
  obtain ⟨hO, hcl, hT⟩ := hI
  have hra : RA2 c s ⟨s.w.shut c n n tm, s.O⟩ := ⟨⟨rfl, rfl, rfl⟩, by simp [World.shut], fun b => ⟨.inl, fun h => h.elim id fun x => by have h1 := x.1; have h2 := x.2; simp [World.shut] at h2; omega⟩, fun b _ _ hb => by simp [World.shut, Array.getElem?_setIfInBounds_ne (Ne.symm hb)]⟩
  have hI3 : Inv3 c k (t ++ MemOp.ofEvents k fn pos (closeEs c)) ⟨s.w.shut c n n tm, s.O⟩ := by
    refine ⟨⟨hO, by simpa [World.shut] using hcl⟩, ?_, .new _ _ _⟩
    have hT' : Tr k (fun l => ZO ⟨s.w.shut c n n tm, s.O⟩ l ∨ l = .obj c) (YO ⟨s.w.shut c n n tm, s.O⟩) t := hT.mono (fun l h => .inl h) (fun l ⟨ad, e, h1, h2⟩ => ⟨ad, e, h1, by simpa [World.shut] using h2⟩)
    refine hT'.ownk (closeEs_evN c) fun e he x hx _ => ?_
    have := closeEs_touch he hx
    refine ⟨?_, .inr this⟩
    rintro ⟨ad, e1, _⟩
    rw [this] at e1
    cases e1
  obtain ⟨N, gs', sl', q', t', s', ga, fn', pos', r1, r2, r3, r4, r5⟩ := shut_runs (P := P) (c := c) (z := z) (wd := GW.w) (RA := RA2 c) (DA := DA2 c) (SA := StA2 P c z Fin z false) (Inv := Inv3 c k) (fun _ _ _ => RA2.trans)
    (fun s d => ⟨⟨s.w.at d, s.O⟩, rfl, ((prot2 c k).draw s d).elim fun s1 h => ⟨.refl _, Nat.le_refl _, fun b => ⟨.inl, fun h => h.elim id fun x => by have := x.1; have := x.2; simp only [World.at] at *; omega⟩, fun _ _ _ _ => rfl⟩, fun _ h => h⟩)
    (fun s es s' t fn pos h hI => by
      obtain ⟨⟨hc, hcl⟩, hT, hS⟩ := hI
      have h0 := h
      obtain ⟨h1, h2, h3, h4, h5⟩ := h
      refine ⟨⟨by rw [h3]; exact hc, by omega⟩, ?_, hS.app hk fun op hop => by obtain ⟨e, _, rfl⟩ := Go.Conc.mem_ofEvents hop; rfl⟩
      have hT' : Tr k (fun l => ZO s' l ∨ l = .obj c) (YO s') t := hT.mono (fun l h => h.imp (fun ⟨ad, e, ho⟩ => ⟨ad, e, by rw [h3]; exact ho⟩) id) (fun l ⟨ad, e, ho, hl⟩ => ⟨ad, e, by rw [h3]; exact ho, by omega⟩)
      refine hT'.own0 (fun e he => (h5 e he).evN) fun e he x hx => ?_
      obtain ⟨ad, e1, e2, e3⟩ := (h5 e he).touch hx
      refine ⟨?_, ad, e1, by rw [h3]; exact e2, e3⟩
      rintro (⟨ad', e', ho⟩ | e')
      · rw [e1] at e'; cases e'; exact e2 (by rw [← h3]; exact ho)
      · rw [e1] at e'; cases e')
    (fun s es s' n tm h ho => (h.2.2.2.1 c (by
      rcases Nat.lt_or_ge c s.w.heap.size with h' | h'
      · exact h'
      · rw [Array.getElem?_eq_none h'] at ho; cases ho) (.inr rfl)).trans ho)
    (fun g s h => h.1) (hA.rely (prot2 c k).trA hra) n tm (heap_put ho) gs sl (Go.ConcN.upd q k m) _ h2.h0 (lvs_of_two h2 hq) hI3
  exact ⟨N, _, _, _, s', r1, ⟨⟨gs', s'.w.drawn, sl', q', rfl, r2, r3⟩, past_of_shut r4.2.1 r4.2.2 _ _⟩, (r5 s' (RA2.refl c s')).2 s' (RA2.refl c s')⟩

theorem stA2_woken {Next : Goroutine → GW → Prop} {v : Value} {ok : Bool} {ga : Goroutine} {s : GW} (h : StA2 P c z Next v ok ga s) (cs : Array CommCase) (sh : CommShape) : StA2 P c z Next v ok { parked (core ga) cs sh with status := .running } s :=
  ⟨h.1.woken cs sh, h.2⟩

theorem ra2_chan (s : GW) (c n : Nat) (tm : Bool) : RA2 c s ⟨s.w.setChan c 0 #[] false n n tm, s.O⟩ :=
  ⟨⟨rfl, rfl, rfl⟩, by simp [World.setChan], fun b => ⟨.inl, fun h => h.elim id fun x => by have h1 := x.1; have h2 := x.2; simp [World.setChan] at h2; omega⟩, fun b _ _ hb => by simp [World.setChan, Array.getElem?_setIfInBounds_ne (Ne.symm hb)]⟩
theorem rb2_chan (s : GW) (c n : Nat) (tm : Bool) (hc : ¬ s.O c) : RB2 s ⟨s.w.setChan c 0 #[] false n n tm, s.O⟩ :=
  ⟨⟨rfl, rfl, rfl⟩, by simp [World.setChan], rfl, fun b hb _ => by
    have : c ≠ b := fun e => hc (e ▸ hb)
    simp [World.setChan, Array.getElem?_setIfInBounds_ne this]⟩

/-- THE SECOND MODE: both at work. -/
theorem mode2 (hk : k ≠ 0) : ∀ (vs : List Value) (a b : Goroutine) (s : GW), RecvsA P c z Fin vs a s → SendsB P c vs b s → ∀ n tm, OpenAt c s.w n tm → ∀ gs sl q t, Two P k gs q a b → Inv2 c k t s →
    ∃ N m' t' g' s', runNT P N (crowd gs s.w sl) t = (.next m', t') ∧ Sit P g' s'.w m' t' ∧ Fin g' s'
  | [], a, b, s, hA, hB, n, tm, ho, gs, sl, q, t, h2, hI => by
    obtain ⟨N, m', t', hr, hout⟩ := meet (z := z) (SA := StA2 P c z Fin z false) (SB := StB0 P c) (prot2 c k) (fun g s h => h.1) (fun g s h => .inr h)
      (fun g s v g₂ n tm ho hsb hv => by obtain ⟨g₃, h3⟩ := hsb s (RB2.refl s); exact (hv.not_close h3 ho).elim) hB a s hA (RB2.refl s) n tm ho gs sl q t h2 hI
    cases hout with
    | met s ga gb g₂ v n tm gs sl q t x y x' y' hA hB hv ho hI h2 => obtain ⟨g₃, h3⟩ := hB s (RB2.refl s); exact (hv.not_close h3 ho).elim
    | shut s a gb g₂ n tm gs sl q t fn pos hA hB hc ho hI h2 =>
      obtain ⟨m, hq⟩ := hc.2.2.2
      obtain ⟨M, m2, t2, g', s', r1, r2, r3⟩ := end2 (sl := sl) (fn := fn) (pos := pos) hk hA hq ho hI h2
      exact ⟨N + M, m2, t2, g', s', by rw [runNT_add, hr]; exact r1, r2, r3⟩
    | woke s ga gb g₂ n tm gs sl q t fn pos hA hB hc ho hI h2 =>
      obtain ⟨m, hq⟩ := hc.2.2.2
      obtain ⟨M, m2, t2, g', s', r1, r2, r3⟩ := end2 (sl := sl) (fn := fn) (pos := pos) hk (.stop fun s₁ h => stA2_woken (hA s₁ h) _ _) hq ho hI h2
      exact ⟨N + M, m2, t2, g', s', by rw [runNT_add, hr]; exact r1, r2, r3⟩
  | v :: vs, a, b, s, hA, hB, n, tm, ho, gs, sl, q, t, h2, hI => by
    obtain ⟨N, m', t', hr, hout⟩ := meet (z := z) (SA := StA2 P c z (RecvsA P c z Fin vs) v true) (SB := StB2 P c (SendsB P c vs) v) (prot2 c k) (fun g s h => h.1) (fun g s h => .inl ⟨v, core g, h.1⟩)
      (fun g s v' g₂ n tm ho hsb hv s₁ hs => by
        obtain ⟨rfl, rfl⟩ := hv.inj (hsb s (RB2.refl s)).1
        exact (hsb s₁ hs).1) hB a s hA (RB2.refl s) n tm ho gs sl q t h2 hI
    cases hout with
    | met s ga gb g₂ v' n tm gs sl q t x y x' y' hA hB hv ho hI h2 =>
      obtain ⟨rfl, rfl⟩ := hv.inj (hB s (RB2.refl s)).1
      have hc := hI.1
      have ho' : OpenAt c (s.w.setChan c 0 #[] false (n + 1) (n + 1) tm) (n + 1) tm := by
        have := open_lt ho
        simp [OpenAt, World.setChan, this]
      obtain ⟨M, m2, t2, g', s', r1, r2, r3⟩ := mode2 hk vs _ _ ⟨s.w.setChan c 0 #[] false (n + 1) (n + 1) tm, s.O⟩ ((hA s (RA2.refl c s)).2 _ (ra2_chan s c (n + 1) tm)) ((hB s (RB2.refl s)).2 _ (rb2_chan s c (n + 1) tm hc)) (n + 1) tm ho' gs sl q (t ++ metOps c k n x y x' y') h2
        ⟨hc, by simpa [World.setChan] using hI.2.1, (hI.2.2.none metOps_plain).mono (fun l h => h) (fun l ⟨ad, e, h1, h2⟩ => ⟨ad, e, h1, by simpa [World.setChan] using h2⟩)⟩
      exact ⟨N + M, m2, t2, g', s', by rw [runNT_add, hr]; exact r1, r2, r3⟩
    | shut s a gb g₂ n tm gs sl q t fn pos hA hB hc ho hI h2 => exact ((hB s (RB2.refl s)).1.not_close hc ho).elim
    | woke s ga gb g₂ n tm gs sl q t fn pos hA hB hc ho hI h2 => exact ((hB s (RB2.refl s)).1.not_close hc ho).elim

/-! ### the beginning -/

/-- What the sender, and draws, have turned of W. -/
def FK (W : World) (c : Nat) (w : World) : Prop := Same3 W w ∧ W.heap.size ≤ w.heap.size ∧ ∀ b, b < W.heap.size → b ≠ c → w.heap[b]? = W.heap[b]?
def newO (W w : World) : Nat → Prop := fun b => W.heap.size ≤ b ∧ b < w.heap.size

/-- Goroutine 0 at its first receive: what comes then. -/
def NextA (P : Program) (c : Nat) (z : Value) (Fin : Goroutine → GW → Prop) (W : World) : List Value → Goroutine → Prop
  | [], ga => ∀ w, FK W c w → Fin (Go.Conc.served (core ga) (.tuple #[z, .bool false])) ⟨w, newO W w⟩
  | v :: vs, ga => ∀ w, FK W c w → RecvsA P c z Fin vs (Go.Conc.served (core ga) (.tuple #[v, .bool true])) ⟨w, newO W w⟩
def StA1 (P : Program) (c : Nat) (z : Value) (Fin : Goroutine → GW → Prop) (W : World) (vs : List Value) (ga : Goroutine) (w : World) : Prop := AtR P c z ga w ∧ NextA P c z Fin W vs ga
/-- The new goroutine at its first send, or at the close. -/
def StB1 (P : Program) (c : Nat) (W : World) : List Value → Goroutine → World → Prop
  | [], gb, w => FK W c w ∧ ∃ g₂, AtC P c gb g₂ w
  | v :: vs, gb, w => FK W c w ∧ AtS P c v gb (core gb) w ∧ ∀ s2, RB2 ⟨w, newO W w⟩ s2 → SendsB P c vs (Go.Conc.served (core gb) undef) s2

theorem FK.chan {W w : World} {c n : Nat} {tm : Bool} (h : FK W c w) : FK W c (w.setChan c 0 #[] false n n tm) :=
  ⟨h.1.trans ⟨rfl, rfl, rfl⟩, by simpa [World.setChan] using h.2.1, fun b hb hc => by simp [World.setChan, Array.getElem?_setIfInBounds_ne (Ne.symm hc)]; exact h.2.2 b hb hc⟩
theorem FK.shut {W w : World} {c n : Nat} {tm : Bool} (h : FK W c w) : FK W c (w.shut c n n tm) :=
  ⟨h.1.trans ⟨rfl, rfl, rfl⟩, by simpa [World.shut] using h.2.1, fun b hb hc => by simp [World.shut, Array.getElem?_setIfInBounds_ne (Ne.symm hc)]; exact h.2.2 b hb hc⟩

/-- From a closed channel, in the first mode, to the end. -/
theorem end1 (hk : k ≠ 0) {W : World} {a : Goroutine} {w : World} (hA : Tree P true id (fun _ _ => True) DA1 noBig (StA1 P c z Fin W []) a w) {g₂ : Goroutine} {m n : Nat} {tm : Bool} (hq : QuitsIn P m g₂) {gs : Array Goroutine} {sl : Option (Nat × Nat)} {q : Nat → Nat} {t : Trace} {fn : FuncId} {pos : String}
    (hF : FK W c w) (ho : OpenAt c w n tm) (hI : Inv1 k t w) (h2 : Two P k gs q a g₂) :
    ∃ N m' t' g' s', runNT P N (crowd gs (w.shut c n n tm) sl) (t ++ MemOp.ofEvents k fn pos (closeEs c)) = (.next m', t') ∧ Sit P g' s'.w m' t' ∧ Fin g' s' := by
  obtain ⟨N, gs', sl', q', t', w', ga, fn', pos', r1, r2, r3, r4, r5⟩ := shut_runs (P := P) (c := c) (z := z) (wd := id) (RA := fun x y => AtRel x y) (DA := DA1) (SA := StA1 P c z Fin W []) (Inv := fun t' w' => (Inv1 k t' w' ∧ Shutted c k t') ∧ FK W c w') atRel_trans
    (fun s d => ⟨s.at d, rfl, ⟨d, rfl⟩, fun t h => ⟨h.1, h.2⟩⟩)
    (fun s es s' t fn pos h hI => by
      obtain ⟨rfl, rfl⟩ := h
      rw [ofEvents_none, Array.append_empty]; exact hI)
    (fun s es s' n tm h ho => by obtain ⟨rfl, rfl⟩ := h; exact ho)
    (fun g s h => h.1) (s := w.shut c n n tm) (a := a) (by
      have : ∀ {a : Goroutine} {w : World}, Tree P true id (fun _ _ => True) DA1 noBig (StA1 P c z Fin W []) a w → ∀ w', Tree P true id (fun x y => AtRel x y) DA1 noBig (StA1 P c z Fin W []) a w' := by
        intro a w h
        induction h with
        | stop h => exact fun w' => .stop fun s₁ _ => h s₁ trivial
        | step hs g' s' es h hd kk ih => exact fun w' => .step hs g' s' es (fun s₁ _ => h s₁ trivial) (fun s₁ _ => hd s₁ trivial) (fun s₁ _ => ih s₁ trivial _)
        | big hs K h kk ih => exact fun w' => (h w' trivial).elim
      exact this hA _) n tm (heap_put ho) gs sl (Go.ConcN.upd q k m) (t ++ MemOp.ofEvents k fn pos (closeEs c)) h2.h0 (lvs_of_two h2 hq)
    ⟨⟨Tr.ownk hI (closeEs_evN c) fun e he x hx _ => ⟨id, trivial⟩, .new _ _ _⟩, hF.shut⟩
  obtain ⟨⟨hT, hS⟩, hF'⟩ := r4
  exact ⟨N, _, _, _, ⟨w', newO W w'⟩, r1, ⟨⟨gs', w'.drawn, sl', q', rfl, r2, r3⟩, past_of_shut hT hS _ _⟩, (r5 w' (atRel_refl _)).2 w' hF'⟩

theorem stA1_woken {W : World} {vs : List Value} {ga : Goroutine} {w : World} (h : StA1 P c z Fin W vs ga w) (cs : Array CommCase) (sh : CommShape) : StA1 P c z Fin W vs { parked (core ga) cs sh with status := .running } w :=
  ⟨h.1.woken cs sh, by cases vs <;> exact h.2⟩

/-- THE FIRST MODE: goroutine 0 goes to its receive, and does nothing else. -/
theorem mode1 (hk : k ≠ 0) {W : World} (hcW : c < W.heap.size) : ∀ (vs : List Value) (a b : Goroutine) (w : World), Tree P true id (fun _ _ => True) DA1 noBig (StA1 P c z Fin W vs) a w → Tree P false id AtRel DN noBig (StB1 P c W vs) b w → ∀ n tm, OpenAt c w n tm →
    ∀ gs sl q t, Two P k gs q a b → Inv1 k t w → ∃ N m' t' g' s', runNT P N (crowd gs w sl) t = (.next m', t') ∧ Sit P g' s'.w m' t' ∧ Fin g' s'
  | [], a, b, w, hA, hB, n, tm, ho, gs, sl, q, t, h2, hI => by
    obtain ⟨N, m', t', hr, hout⟩ := meet (z := z) (SA := StA1 P c z Fin W []) (SB := StB1 P c W []) (prot1 c k) (fun g s h => h.1) (fun g s h => .inr h.2)
      (fun g s v g₂ n tm ho hsb hv => by obtain ⟨_, g₃, h3⟩ := hsb s (atRel_refl s); exact (hv.not_close h3 ho).elim) hB a w hA (atRel_refl w) n tm ho gs sl q t h2 hI
    replace hr : runNT P N (crowd gs w sl) t = (.next m', t') := hr
    cases hout with
    | met s ga gb g₂ v n tm gs sl q t x y x' y' hA hB hv ho hI h2 => obtain ⟨_, g₃, h3⟩ := hB s (atRel_refl s); exact (hv.not_close h3 ho).elim
    | shut s a gb g₂ n tm gs sl q t fn pos hA hB hc ho hI h2 =>
      obtain ⟨m, hq⟩ := hc.2.2.2
      obtain ⟨M, m2, t2, g', s', r1, r2, r3⟩ := end1 (sl := sl) (fn := fn) (pos := pos) hk hA hq (hB s (atRel_refl s)).1 ho hI h2
      exact ⟨N + M, m2, t2, g', s', by rw [runNT_add, hr]; exact r1, r2, r3⟩
    | woke s ga gb g₂ n tm gs sl q t fn pos hA hB hc ho hI h2 =>
      obtain ⟨m, hq⟩ := hc.2.2.2
      obtain ⟨M, m2, t2, g', s', r1, r2, r3⟩ := end1 (sl := sl) (fn := fn) (pos := pos) (w := s) hk (.stop fun s₁ h => stA1_woken (hA s₁ h) _ _) hq (hB s (atRel_refl s)).1 ho hI h2
      exact ⟨N + M, m2, t2, g', s', by rw [runNT_add, hr]; exact r1, r2, r3⟩
  | v :: vs, a, b, w, hA, hB, n, tm, ho, gs, sl, q, t, h2, hI => by
    obtain ⟨N, m', t', hr, hout⟩ := meet (z := z) (SA := StA1 P c z Fin W (v :: vs)) (SB := StB1 P c W (v :: vs)) (prot1 c k) (fun g s h => h.1) (fun g s h => .inl ⟨v, core g, h.2.1⟩)
      (fun g s v' g₂ n tm ho hsb hv s₁ hs => by
        obtain ⟨rfl, rfl⟩ := hv.inj (hsb s (atRel_refl s)).2.1
        exact (hsb s₁ hs).2.1) hB a w hA (atRel_refl w) n tm ho gs sl q t h2 hI
    replace hr : runNT P N (crowd gs w sl) t = (.next m', t') := hr
    cases hout with
    | met s ga gb g₂ v' n tm gs sl q t x y x' y' hA hB hv ho hI h2 =>
      obtain ⟨rfl, rfl⟩ := hv.inj (hB s (atRel_refl s)).2.1
      obtain ⟨hF, _, hnx⟩ := hB s (atRel_refl s)
      have hna : ¬ newO W s c := fun x => by have := x.1; omega
      have hsz : (World.setChan s c 0 #[] false (n + 1) (n + 1) tm).heap.size = s.heap.size := by simp [World.setChan]
      have hO : newO W (World.setChan s c 0 #[] false (n + 1) (n + 1) tm) = newO W s := by funext b; simp [newO, hsz]
      have ho' : OpenAt c (World.setChan s c 0 #[] false (n + 1) (n + 1) tm) (n + 1) tm := by
        have := open_lt ho
        simp only [id] at this
        simp [OpenAt, World.setChan, this]
      obtain ⟨M, m2, t2, g', s', r1, r2, r3⟩ := mode2 hk vs _ _ ⟨World.setChan s c 0 #[] false (n + 1) (n + 1) tm, newO W s⟩
        (by have := (hA s trivial).2 _ (hF.chan (n := n + 1) (tm := tm)); rw [hO] at this; exact this)
        (hnx _ (rb2_chan ⟨s, newO W s⟩ c (n + 1) tm hna)) (n + 1) tm ho' gs sl q (t ++ metOps c k n x y x' y') h2
        ⟨hna, by show c < _; rw [hsz]; exact open_lt ho, (Tr.met hI c n x y x' y').mono (fun l h => h) (fun l h => h.elim)⟩
      exact ⟨N + M, m2, t2, g', s', by rw [runNT_add, hr]; exact r1, r2, r3⟩
    | shut s a gb g₂ n tm gs sl q t fn pos hA hB hc ho hI h2 => exact ((hB s (atRel_refl s)).2.1.not_close hc ho).elim
    | woke s ga gb g₂ n tm gs sl q t fn pos hA hB hc ho hI h2 => exact ((hB s (atRel_refl s)).2.1.not_close hc ho).elim

/-- THE WHOLE: from the go statement to where goroutine 0 has found the channel closed. -/
theorem fork_runs {g a child : Goroutine} {w : World} {vs : List Value} (hrun : g.status = .running) (hsp : ∀ d, stepG P true g (w.at d) = .spawn a child (w.at d) #[])
    {n : Nat} {tm : Bool} (ho : OpenAt c w n tm) (hA : Tree P true id (fun _ _ => True) DA1 noBig (StA1 P c z Fin w vs) a w) (hB : Tree P false id AtRel DN noBig (StB1 P c w vs) child w)
    {m : Machine} {t : Trace} (hS : Sit P g w m t) : ∃ N m' t' g' s', runNT P N m t = (.next m', t') ∧ Sit P g' s'.w m' t' ∧ Fin g' s' := by
  obtain ⟨⟨gs, d, sl, q, rfl, h0, hL⟩, hP⟩ := hS
  obtain ⟨N, gs', d', e, sl', sl'', q', hr, hs', h0', hL', hst⟩ := slip (P := P) _ gs g (w.at d) sl t q rfl h0 hrun hL
  rw [at_at'] at hst
  have hm := runT_crowd_spawn (P := P) (sl := sl'') (i := 0) h0' (show stepG P (0 == 0) g _ = _ from hsp e)
  have hlt : 0 < gs'.size := (Array.getElem?_eq_some_iff.1 h0').1
  rw [ofEvents_none] at hm
  generalize hops : ((#[] : Array MemOp).push { g := 0, fn := g.frame.fn, pos := g.frame.place, act := .go gs'.size } |>.push { g := gs'.size, fn := child.frame.fn, pos := g.frame.place, act := .start }) = ops at hm
  have hops' : ops = #[{ g := 0, fn := g.frame.fn, pos := g.frame.place, act := .go gs'.size }, { g := gs'.size, fn := child.frame.fn, pos := g.frame.place, act := .start }] := by rw [← hops]; rfl
  have hpl : ∀ op ∈ ops, op.act.touch? = none ∧ op.act ≠ .mark .disable ∧ op.act ≠ .mark .enable ∧ (op.g = 0 ∨ op.g = gs'.size) := by
    intro op hop
    rw [hops'] at hop
    simp at hop
    rcases hop with rfl | rfl <;> simp [MemAct.touch?]
  have hold : ∀ i x, touchAt (t ++ ops) i = some x → touchAt t i = some x ∧ i < t.size := fun i x hx => by
    obtain ⟨op, ho, hox⟩ := touch_of hx
    rcases getElem?_append_cases ho with ⟨hi, hx'⟩ | ⟨_, hxu⟩
    · exact ⟨by rw [touchAt_of hx']; exact hox, hi⟩
    · rw [(hpl op hxu).1] at hox; cases hox
  have hplain := plain_app hP.plain fun op hop => (hpl op hop).2.imp id And.left
  have hgo : (t ++ ops)[t.size]? = some { g := 0, fn := g.frame.fn, pos := g.frame.place, act := .go gs'.size } := by rw [hops', Array.getElem?_append_right (Nat.le_refl _)]; simp
  have hstt : (t ++ ops)[t.size + 1]? = some { g := gs'.size, fn := child.frame.fn, pos := g.frame.place, act := .start } := by rw [hops', Array.getElem?_append_right (by omega)]; simp
  have hI : Inv1 gs'.size (t ++ ops) (w.at e) := by
    refine ⟨hplain, fun said hr => ?_, fun i x hx hm => .inl ((hP.known i x (hold i x hx).1 hm).app _), fun i x hx hm => .inl ?_, ov_app (fun i g' hg h0 _ hc => hP.over i g' hg h0 hc) fun op hop => (hpl op hop).2.2.2⟩
    · obtain ⟨i, j, hij, ⟨x, y, hx, hy, hc⟩, n1, n2⟩ := hr
      exact hP.clean said ⟨i, j, hij, ⟨x, y, (hold i x hx).1, (hold j y hy).1, hc⟩, fun e => n1 (hb_app ops e), fun e => n2 (hb_app ops e)⟩
    · obtain ⟨hx', hi⟩ := hold i x hx
      have hk := hP.known i x hx' hm
      refine ⟨t.size + 1, _, hstt, rfl, .inr (.trans (hk.hb_new (u := ops) (Nat.le_refl _) hgo rfl) ?_)⟩
      exact .single (.inr ⟨.spawn (child := gs'.size) (act?_of hgo) (act?_of hstt) (by simp [Trace.g?, hstt]), heard_plain hplain hgo, heard_plain hplain hstt⟩)
  have h2 : Two P gs'.size ((gs'.setIfInBounds 0 a).push child) q' a child := by
    refine ⟨?_, ?_, hlt, fun i x hi hik hx => ?_⟩
    · rw [Array.getElem?_push_lt (by simpa using hlt)]; simp [hlt]
    · rw [Array.getElem?_push]; simp
    · rw [Array.getElem?_push] at hx
      split at hx
      · simp at *; omega
      · rw [Array.getElem?_setIfInBounds_ne (by omega)] at hx
        exact hL' i x hi hx
  obtain ⟨M, m2, t2, g', s', r1, r2, r3⟩ := mode1 (W := w) (by omega) (open_lt ho) vs a child (w.at e) (hA.rely (fun _ _ _ _ _ => trivial) trivial) (hB.rely atRel_trans ⟨e, rfl⟩) n tm ho ((gs'.setIfInBounds 0 a).push child) sl'' q' (t ++ ops) h2 hI
  refine ⟨N + (1 + M), m2, t2, g', s', ?_, r2, r3⟩
  rw [runNT_add, hr]
  show runNT P (1 + M) (crowd gs' ((w.at d).at d') sl') t = _
  rw [runNT_add]
  have e1 : runNT P 1 (crowd gs' ((w.at d).at d') sl') t = (.next (crowd ((gs'.setIfInBounds 0 a).push child) (w.at e) sl''), t ++ ops) := by
    simp only [runNT, at_at', hst, hm]
  rw [e1]
  exact r1
end
end Go.Proofs.Ytnphcnhejgpjgaa.Co
end
section
namespace Go.Proofs.Ytnphcnhejgpjgaa.Co
open Go.Conc

def Ok (P : Program) {α : Type} : Sem α → Prop
  | .pure _ => True
  | .load _ _ k => ∀ v, Ok P (k v)
  | .store _ _ _ k => Ok P k
  | .new _ k => ∀ r, Ok P (k r)
  | .shape _ k => ∀ s, Ok P (k s)
  | .freeze _ _ k => Ok P k
  | .frozen _ k => ∀ b, Ok P (k b)
  | .getObj _ k => ∀ o, Ok P (k o)
  | .setObj .. => False
  | .choose _ k => ∀ n, Ok P (k n)
  | .sys .. => False
  | .program k => Ok P (k P)
  | .mark m k => m ≠ .disable ∧ m ≠ .enable ∧ Ok P k
  | .halt (.panic _) | .halt (.stuck _) | .halt (.unsupported _) => True
  | .halt _ => False

theorem ok_bind {P : Program} {α β : Type} {s : Sem α} {f : α → Sem β} (hs : Ok P s) (hf : ∀ a, Ok P (f a)) : Ok P (s >>= f) := by
  show Ok P (s.bind f)
  induction s with
  | pure a => exact hf a
  | load m a k ih => exact fun v => ih v (hs v)
  | store m a v k ih => exact ih hs
  | new o k ih => exact fun v => ih v (hs v)
  | shape r k ih => exact fun v => ih v (hs v)
  | freeze a n k ih => exact ih hs
  | frozen a k ih => exact fun v => ih v (hs v)
  | getObj r k ih => exact fun v => ih v (hs v)
  | setObj r o k ih => exact hs.elim
  | choose q k ih => exact fun v => ih v (hs v)
  | sys c k ih => exact hs.elim
  | program k ih => exact ih P hs
  | mark m k ih => exact ⟨hs.1, hs.2.1, ih hs.2.2⟩
  | halt h => cases h <;> first | trivial | exact hs.elim

theorem keeps_trans {w1 w2 w3 : World} (h : KeepsC w1 w2) (h' : KeepsC w2 w3) : KeepsC w1 w3 := fun c o ho hc => h' c o (h c o ho hc) hc
theorem keeps_same {w w' : World} (h : w'.heap = w.heap) : KeepsC w w' := fun c o ho _ => by rw [h]; exact ho
theorem keeps_modify (w : World) (b : Nat) (f : Obj → Obj) (hf : ∀ o, o.isChan = true → f o = o) : KeepsC w { w with heap := w.heap.modify b f } := by
  intro c o ho hc
  show (w.heap.modify b f)[c]? = some o
  rw [Array.getElem?_modify]
  split
  · rw [ho]; simp [hf o hc]
  · exact ho
theorem keeps_setCell (w : World) (a : Addr) (v : Value) : KeepsC w (w.setCell a v) := by
  unfold World.setCell
  exact keeps_modify w _ _ fun o ho => by cases o <;> first | rfl | cases ho
theorem keeps_freeze (w : World) (a : Addr) (n : Nat) : KeepsC w (w.freeze a n) := by
  unfold World.freeze
  split
  · exact fun _ _ h _ => h
  · exact keeps_modify w _ _ fun o ho => by cases o <;> first | rfl | cases ho
theorem keeps_push (w : World) (o : Obj) : KeepsC w { w with heap := w.heap.push o } := by
  intro c o' ho _
  show (w.heap.push o)[c]? = some o'
  have := (Array.getElem?_eq_some_iff.1 ho).1
  rw [Array.getElem?_push, if_neg (by omega)]
  exact ho
theorem seen_cells {P : Program} {w : World} {at_ : Addr} {u : TypeId} {k : Addr} {at' : Bool} {r} (h : w.seen P at_ u k at' = .ok r) : ∃ c e z, w.heap[at_.block]? = some (.cells c e z) := by
  unfold World.seen at h
  cases hh : w.heap[at_.block]? with
  | some o =>
    cases o with
    | cells c e z => exact ⟨c, e, z, rfl⟩
    | _ =>
      exfalso
      simp only [hh, bind, Except.bind, throw, throwThe, MonadExceptOf.throw, pure, Except.pure] at h
      repeat' split at h
      all_goals first | cases h | skip
  | none =>
    exfalso
    simp only [hh, bind, Except.bind, throw, throwThe, MonadExceptOf.throw, pure, Except.pure] at h
    repeat' split at h
    all_goals first | cases h | skip
theorem viewStore_heap {P : Program} {w : World} {at_ : Addr} {u : TypeId} {k : Addr} {v : Value} {at' : Bool} {w' : World} {l : List Addr} (h : w.viewStore P at_ u k v at' = .ok (w', l)) :
    KeepsC w w' := by
  unfold World.viewStore at h
  simp only [bind, Except.bind, throw, throwThe, MonadExceptOf.throw, pure, Except.pure] at h
  split at h
  · cases h
  split at h
  · cases h
  rename_i r hr
  obtain ⟨c, e, z, hc⟩ := seen_cells hr
  split at h
  · split at h
    · cases h
    · split at h
      · cases h
      · cases h
        intro b o ho hch
        show (w.heap.setIfInBounds at_.block _)[b]? = some o
        rw [Array.getElem?_setIfInBounds]
        split
        · rename_i hb
          subst hb
          rw [hc] at ho
          cases ho
          cases hch
        · exact ho
  · cases h
theorem farStore_keeps {P : Program} {w : World} {a : Addr} {v : Value} {at' : Bool} {w' : World} {l : List Addr} (h : w.farStore P a v at' = .ok (w', l)) : KeepsC w w' := by
  unfold World.farStore at h
  split at h
  · split at h
    · rename_i hv
      cases h
      exact viewStore_heap hv
    · cases h
  · cases h

theorem ok_keeps {P : Program} {α : Type} {s : Sem α} (h : Ok P s) : ∀ {w : World} {x : α} {w' : World}, s.run P w = .ok x w' → KeepsC w w' := by
  induction s with
  | pure a => intro w x w' e; simp only [Sem.run] at e; cases e; exact fun _ _ h _ => h
  | load m a k ih =>
    intro w x w' e
    simp only [Sem.run] at e
    split at e
    · exact ih _ (h _) e
    · split at e
      · exact ih _ (h _) e
      · cases e
  | store m a v k ih =>
    intro w x w' e
    have key : (match w.cell? a with
        | some _ => if w.frozen? a then Result.halt (.unsupported (.unsafePointer "a write to bytes that a string shares")) w else k.run P (w.setCell a v)
        | none => match w.farStore P a v (m == Go.Mode.atomic) with
          | .ok (w, _) => k.run P w
          | .error h => .halt h w) = .ok x w' → KeepsC w w' := by
      intro e
      split at e
      · split at e
        · cases e
        · exact keeps_trans (keeps_setCell w a v) (ih h e)
      · split at e
        · rename_i hf
          exact keeps_trans (farStore_keeps hf) (ih h e)
        · cases e
    cases v <;> first | (simp only [Sem.run] at e; first | exact key e | cases e)
  | new o k ih => intro w x w' e; exact keeps_trans (keeps_push w o) (ih _ (h _) e)
  | shape r k ih => intro w x w' e; exact ih _ (h _) e
  | freeze a n k ih => intro w x w' e; exact keeps_trans (keeps_freeze w a n) (ih h e)
  | frozen a k ih => intro w x w' e; exact ih _ (h _) e
  | getObj r k ih =>
    intro w x w' e
    simp only [Sem.run] at e
    split at e
    · cases e
    · exact ih _ (h _) e
    · cases e
  | setObj r o k ih => exact h.elim
  | choose q k ih =>
    intro w x w' e
    simp only [Sem.run] at e
    split at e
    · exact ih _ (h _) e
    · have key := ih _ (h _) e
      exact fun c o ho hc => key c o ho hc
  | sys c k ih => exact h.elim
  | program k ih => intro w x w' e; exact ih _ h e
  | mark m k ih => intro w x w' e; exact ih h.2.2 e
  | halt hh => intro w x w' e; cases e

theorem evn_push {es : Array Event} {e : Event} (h : ∀ x ∈ es, EvN x) (he : EvN e) : ∀ x ∈ es.push e, EvN x := by
  intro x hx
  rcases Array.mem_push.1 hx with hx | rfl
  · exact h x hx
  · exact he
theorem evn_cells {es : Array Event} {l : List Addr} {b c : Bool} (h : ∀ x ∈ es, EvN x) : ∀ x ∈ es ++ l.toArray.map (⟨.cell ·, b, c⟩), EvN x := by
  intro x hx
  rcases Array.mem_append.1 hx with hx | hx
  · exact h x hx
  · obtain ⟨a, _, rfl⟩ := Array.mem_map.1 hx
    exact ⟨by simp, by simp⟩
theorem ok_events {P : Program} {α : Type} {s : Sem α} (h : Ok P s) : ∀ {w : World} {es : Array Event}, (∀ e ∈ es, EvN e) → ∀ e ∈ (s.runT P w es).2, EvN e := by
  induction s with
  | pure a => intro w es hes; exact hes
  | load m a k ih =>
    intro w es hes
    simp only [Sem.runT]
    split
    · exact ih _ (h _) (evn_push hes ⟨by simp, by simp⟩)
    · split
      · exact ih _ (h _) (evn_cells hes)
      · exact hes
  | store m a v k ih =>
    intro w es hes
    have key : ∀ e ∈ (match w.cell? a with
        | some _ =>
          if w.frozen? a then ((Result.halt (.unsupported (.unsafePointer "a write to bytes that a string shares")) w : Result _), es)
          else k.runT P (w.setCell a v) (es.push ⟨.cell a, true, m == Go.Mode.atomic⟩)
        | none => match w.farStore P a v (m == Go.Mode.atomic) with
          | .ok (w, touched) => k.runT P w (es ++ touched.toArray.map (fun a => (⟨.cell a, true, m == Go.Mode.atomic⟩ : Event)))
          | .error h => (.halt h w, es)).2, EvN e := by
      split
      · split
        · exact hes
        · exact ih h (evn_push hes ⟨by simp, by simp⟩)
      · split
        · exact ih h (evn_cells hes)
        · exact hes
    cases v <;> (simp only [Sem.runT]; first | exact key | exact hes)
  | new o k ih => intro w es hes; exact ih _ (h _) hes
  | shape r k ih => intro w es hes; exact ih _ (h _) hes
  | freeze a n k ih => intro w es hes; exact ih h hes
  | frozen a k ih => intro w es hes; exact ih _ (h _) hes
  | getObj r k ih =>
    intro w es hes
    simp only [Sem.runT]
    split
    · exact hes
    · exact ih _ (h _) (evn_push hes ⟨by simp, by simp⟩)
    · exact hes
  | setObj r o k ih => exact h.elim
  | choose q k ih =>
    intro w es hes
    simp only [Sem.runT]
    split
    · exact ih _ (h _) hes
    · exact ih _ (h _) hes
  | sys c k ih => exact h.elim
  | program k ih => intro w es hes; exact ih _ h hes
  | mark m k ih => intro w es hes; exact ih h.2.2 (evn_push hes ⟨by simpa using h.1, by simpa using h.2.1⟩)
  | halt hh => intro w es hes; exact hes
theorem ok_both {P : Program} {α : Type} {s : Sem α} (h : Ok P s) {w : World} {x : α} {w' : World} (e : s.run P w = .ok x w') : (∀ v ∈ s.events P w #[], EvN v) ∧ KeepsC w w' :=
  ⟨ok_events h (by simp), ok_keeps h e⟩

end Go.Proofs.Ytnphcnhejgpjgaa.Co
end
section
namespace Go.Proofs.Ytnphcnhejgpjgaa.Co
open Go.Conc
variable {P : Program}

class OkC (P : Program) {α : Type} (s : Sem α) : Prop where
  ok : Ok P s
theorem ok_pure {α : Type} (a : α) : Ok P (pure a : Sem α) := trivial
instance {α : Type} (a : α) : OkC P (pure a : Sem α) := ⟨ok_pure a⟩
theorem ok_pure' {α : Type} (a : α) : Ok P (Sem.pure a : Sem α) := trivial
instance {α : Type} (a : α) : OkC P (Sem.pure a : Sem α) := ⟨ok_pure' a⟩
theorem ok_stuck {α : Type} (s : String) : Ok P (stuck s : Sem α) := trivial
instance {α : Type} (s : String) : OkC P (stuck s : Sem α) := ⟨ok_stuck s⟩
theorem ok_unsup {α : Type} (u : Unsupported) : Ok P (unsupported u : Sem α) := trivial
instance {α : Type} (u : Unsupported) : OkC P (unsupported u : Sem α) := ⟨ok_unsup u⟩
theorem ok_panic {α : Type} (u : Value) : Ok P (goPanic u : Sem α) := trivial
instance {α : Type} (u : Value) : OkC P (goPanic u : Sem α) := ⟨ok_panic u⟩
theorem ok_load (a : Addr) (m : Go.Mode) : Ok P (load a m) := fun _ => trivial
instance (a : Addr) (m : Go.Mode) : OkC P (load a m) := ⟨ok_load a m⟩
theorem ok_store (a : Addr) (v : Value) (m : Go.Mode) : Ok P (store a v m) := trivial
instance (a : Addr) (v : Value) (m : Go.Mode) : OkC P (store a v m) := ⟨ok_store a v m⟩
theorem ok_new (o : Obj) : Ok P (newObj o) := fun _ => trivial
instance (o : Obj) : OkC P (newObj o) := ⟨ok_new o⟩
theorem ok_shape (r : Nat) : Ok P (shape r) := fun _ => trivial
instance (r : Nat) : OkC P (shape r) := ⟨ok_shape r⟩
theorem ok_freeze (a : Addr) (n : Nat) : Ok P (freeze a n) := trivial
instance (a : Addr) (n : Nat) : OkC P (freeze a n) := ⟨ok_freeze a n⟩
theorem ok_frozen (a : Addr) : Ok P (frozen a) := fun _ => trivial
instance (a : Addr) : OkC P (frozen a) := ⟨ok_frozen a⟩
theorem ok_getObj (r : Nat) : Ok P (getObj r) := fun _ => trivial
instance (r : Nat) : OkC P (getObj r) := ⟨ok_getObj r⟩
theorem ok_choose (q : Question) : Ok P (choose q) := fun _ => trivial
instance (q : Question) : OkC P (choose q) := ⟨ok_choose q⟩
theorem ok_program : Ok P program := trivial
instance : OkC P (program) := ⟨ok_program ⟩
theorem ok_noRoom : Ok P (mark .noRoom) := ⟨by simp, by simp, trivial⟩
instance : OkC P (mark .noRoom) := ⟨ok_noRoom ⟩
theorem ok_extern (f : FuncId) : Ok P (mark (.extern f)) := ⟨by simp, by simp, trivial⟩

theorem ok_map {α β : Type} {f : α → β} {s : Sem α} (h : Ok P s) : Ok P (f <$> s) := ok_bind h fun _ => trivial
theorem ok_ite {α : Type} {c : Prop} [Decidable c] {x y : Sem α} (h : Ok P x) (h' : Ok P y) : Ok P (if c then x else y) := by split <;> assumption
theorem ok_list {α β : Type} {f : α → β → Sem (ForInStep β)} (h : ∀ a b, Ok P (f a b)) : ∀ (l : List α) (b : β), Ok P (forIn l b f)
  | [], _ => trivial
  | a :: l, b => by
    rw [List.forIn_cons]
    refine ok_bind (h a b) fun r => ?_
    cases r with
    | done b => trivial
    | yield b => exact ok_list h l b
theorem ok_array {α β : Type} {f : α → β → Sem (ForInStep β)} (h : ∀ a b, Ok P (f a b)) (l : Array α) (b : β) : Ok P (forIn l b f) := by
  rw [← Array.forIn_toList]
  exact ok_list h _ _
theorem ok_range {β : Type} {f : Nat → β → Sem (ForInStep β)} (h : ∀ a b, Ok P (f a b)) (l : Std.Legacy.Range) (b : β) : Ok P (forIn l b f) := by
  rw [Std.Legacy.Range.forIn_eq_forIn_range']
  exact ok_list h _ _
theorem ok_mapMl {α β : Type} {f : α → Sem β} (h : ∀ a, Ok P (f a)) : ∀ (l : List α), Ok P (l.mapM f)
  | [] => by rw [List.mapM_nil]; trivial
  | a :: l => by
    rw [List.mapM_cons]
    exact ok_bind (h a) fun _ => ok_bind (ok_mapMl h l) fun _ => trivial
theorem ok_mapM {α β : Type} {f : α → Sem β} (h : ∀ a, Ok P (f a)) (l : Array α) : Ok P (l.mapM f) := by
  rw [Array.mapM_eq_mapM_toList]
  exact ok_map (ok_mapMl h _)
theorem ok_foldlM {α β : Type} {f : β → α → Sem β} (h : ∀ b a, Ok P (f b a)) : ∀ (l : List α) (b : β), Ok P (l.foldlM f b)
  | [], _ => trivial
  | a :: l, b => by
    rw [List.foldlM_cons]
    exact ok_bind (h b a) fun _ => ok_foldlM h l _


theorem ok_typeInfo (t : TypeId) : Ok P (typeInfo t) := by unfold typeInfo; repeat' (first | exact OkC.ok | assumption | exact True.intro | (refine ok_bind ?_ (fun _ => ?_)) | (intro _) | split | (dsimp only))
instance (t : TypeId) : OkC P (typeInfo t) := ⟨ok_typeInfo t⟩
theorem ok_underlying (t : TypeId) : Ok P (underlying t) := by unfold underlying; repeat' (first | exact OkC.ok | assumption | exact True.intro | (refine ok_bind ?_ (fun _ => ?_)) | (intro _) | split | (dsimp only))
instance (t : TypeId) : OkC P (underlying t) := ⟨ok_underlying t⟩
theorem ok_zeroValue (t : TypeId) : Ok P (zeroValue t) := by unfold zeroValue; repeat' (first | exact OkC.ok | assumption | exact True.intro | (refine ok_bind ?_ (fun _ => ?_)) | (intro _) | split | (dsimp only))
instance (t : TypeId) : OkC P (zeroValue t) := ⟨ok_zeroValue t⟩
theorem ok_sizeOf (t : TypeId) : Ok P (sizeOf t) := by unfold sizeOf; repeat' (first | exact OkC.ok | assumption | exact True.intro | (refine ok_bind ?_ (fun _ => ?_)) | (intro _) | split | (dsimp only))
instance (t : TypeId) : OkC P (sizeOf t) := ⟨ok_sizeOf t⟩
theorem ok_isAgg (t : TypeId) : Ok P (isAgg t) := by unfold isAgg; repeat' (first | exact OkC.ok | assumption | exact True.intro | (refine ok_bind ?_ (fun _ => ?_)) | (intro _) | split | (dsimp only))
instance (t : TypeId) : OkC P (isAgg t) := ⟨ok_isAgg t⟩
theorem ok_typeStr (t : TypeId) : Ok P (typeStr t) := by unfold typeStr; repeat' (first | exact OkC.ok | assumption | exact True.intro | (refine ok_bind ?_ (fun _ => ?_)) | (intro _) | split | (dsimp only))
instance (t : TypeId) : OkC P (typeStr t) := ⟨ok_typeStr t⟩
theorem ok_elemOf (t : TypeId) : Ok P (elemOf t) := by unfold elemOf; repeat' (first | exact OkC.ok | assumption | exact True.intro | (refine ok_bind ?_ (fun _ => ?_)) | (intro _) | split | (dsimp only))
instance (t : TypeId) : OkC P (elemOf t) := ⟨ok_elemOf t⟩
theorem ok_loadCellsFrom (a : Addr) : ∀ (n i : Nat) (acc : Array Value), Ok P (loadCellsFrom a i n acc)
  | 0, _, _ => trivial
  | n + 1, i, acc => by
    unfold loadCellsFrom
    exact ok_bind (ok_load _ _) fun _ => ok_loadCellsFrom a n _ _
theorem ok_loadCells (a : Addr) (n : Nat) : Ok P (loadCells a n) := ok_loadCellsFrom a n _ _
instance (a : Addr) (n : Nat) : OkC P (loadCells a n) := ⟨ok_loadCells a n⟩
theorem ok_storeCells (a : Addr) : ∀ (vs : List Value) (i : Nat), Ok P (storeCells a vs i)
  | [], _ => trivial
  | v :: vs, i => by
    unfold storeCells
    exact ok_bind (ok_store _ _ _) fun _ => ok_storeCells a vs _
instance (a : Addr) (vs : List Value) (i : Nat) : OkC P (storeCells a vs i) := ⟨ok_storeCells a vs i⟩
theorem ok_loadVar (t : TypeId) (a : Addr) : Ok P (loadVar t a) := by unfold loadVar; repeat' (first | exact OkC.ok | assumption | exact True.intro | (refine ok_bind ?_ (fun _ => ?_)) | (intro _) | split | (dsimp only))
instance (t : TypeId) (a : Addr) : OkC P (loadVar t a) := ⟨ok_loadVar t a⟩
theorem ok_storeVar (t : TypeId) (a : Addr) (v : Value) : Ok P (storeVar t a v) := by unfold storeVar; repeat' (first | exact OkC.ok | assumption | exact True.intro | (refine ok_bind ?_ (fun _ => ?_)) | (intro _) | split | (dsimp only))
instance (t : TypeId) (a : Addr) (v : Value) : OkC P (storeVar t a v) := ⟨ok_storeVar t a v⟩
theorem ok_newRow (t : TypeId) (c : Array Value) : Ok P (newRow t c) := by unfold newRow; repeat' (first | exact OkC.ok | assumption | exact True.intro | (refine ok_bind ?_ (fun _ => ?_)) | (intro _) | split | (dsimp only))
instance (t : TypeId) (c : Array Value) : OkC P (newRow t c) := ⟨ok_newRow t c⟩
theorem ok_newVar (t : TypeId) (c : Value) : Ok P (newVar t c) := ok_newRow _ _
instance (t : TypeId) (c : Value) : OkC P (newVar t c) := ⟨ok_newVar t c⟩
theorem ok_part (t : TypeId) (cs : Array Value) (off : Nat) : Ok P (part t cs off) := by unfold part; repeat' (first | exact OkC.ok | assumption | exact True.intro | (refine ok_bind ?_ (fun _ => ?_)) | (intro _) | split | (dsimp only))
instance (t : TypeId) (cs : Array Value) (off : Nat) : OkC P (part t cs off) := ⟨ok_part t cs off⟩
theorem ok_runtimePanic {α : Type} (e : RuntimeError) : Ok P (runtimePanic e : Sem α) := by unfold runtimePanic; repeat' (first | exact OkC.ok | assumption | exact True.intro | (refine ok_bind ?_ (fun _ => ?_)) | (intro _) | split | (dsimp only))
instance {α : Type} (e : RuntimeError) : OkC P (runtimePanic e : Sem α) := ⟨ok_runtimePanic e⟩
theorem ok_boundsPanic {α : Type} (k : IntKind) (x y : Int) (c : BoundsCode) : Ok P (boundsPanic k x y c : Sem α) := by unfold boundsPanic; repeat' (first | exact OkC.ok | assumption | exact True.intro | (refine ok_bind ?_ (fun _ => ?_)) | (intro _) | split | (dsimp only))
instance {α : Type} (k : IntKind) (x y : Int) (c : BoundsCode) : OkC P (boundsPanic k x y c : Sem α) := ⟨ok_boundsPanic k x y c⟩
theorem ok_asIntOf (v : Value) : Ok P (asIntOf v) := by unfold asIntOf; repeat' (first | exact OkC.ok | assumption | exact True.intro | (refine ok_bind ?_ (fun _ => ?_)) | (intro _) | split | (dsimp only))
instance (v : Value) : OkC P (asIntOf v) := ⟨ok_asIntOf v⟩
theorem ok_asInt (v : Value) : Ok P (asInt v) := by unfold asInt; repeat' (first | exact OkC.ok | assumption | exact True.intro | (refine ok_bind ?_ (fun _ => ?_)) | (intro _) | split | (dsimp only))
instance (v : Value) : OkC P (asInt v) := ⟨ok_asInt v⟩
theorem ok_asBool (v : Value) : Ok P (asBool v) := by unfold asBool; repeat' (first | exact OkC.ok | assumption | exact True.intro | (refine ok_bind ?_ (fun _ => ?_)) | (intro _) | split | (dsimp only))
instance (v : Value) : OkC P (asBool v) := ⟨ok_asBool v⟩
theorem ok_asString (v : Value) : Ok P (asString v) := by unfold asString; repeat' (first | exact OkC.ok | assumption | exact True.intro | (refine ok_bind ?_ (fun _ => ?_)) | (intro _) | split | (dsimp only))
instance (v : Value) : OkC P (asString v) := ⟨ok_asString v⟩
theorem ok_asAgg (v : Value) : Ok P (asAgg v) := by unfold asAgg; repeat' (first | exact OkC.ok | assumption | exact True.intro | (refine ok_bind ?_ (fun _ => ?_)) | (intro _) | split | (dsimp only))
instance (v : Value) : OkC P (asAgg v) := ⟨ok_asAgg v⟩
theorem ok_asAddr (v : Value) : Ok P (asAddr v) := by unfold asAddr; repeat' (first | exact OkC.ok | assumption | exact True.intro | (refine ok_bind ?_ (fun _ => ?_)) | (intro _) | split | (dsimp only))
instance (v : Value) : OkC P (asAddr v) := ⟨ok_asAddr v⟩
theorem ok_sureAddr (v : Value) : Ok P (Instr.sureAddr v) := by unfold Instr.sureAddr; repeat' (first | exact OkC.ok | assumption | exact True.intro | (refine ok_bind ?_ (fun _ => ?_)) | (intro _) | split | (dsimp only))
instance (v : Value) : OkC P (Instr.sureAddr v) := ⟨ok_sureAddr v⟩
theorem ok_viewAt (r : Nat) : Ok P (viewAt r) := by unfold viewAt; repeat' (first | exact OkC.ok | assumption | exact True.intro | (refine ok_bind ?_ (fun _ => ?_)) | (intro _) | split | (dsimp only))
instance (r : Nat) : OkC P (viewAt r) := ⟨ok_viewAt r⟩
theorem ok_numberAt (r : Nat) : Ok P (numberAt r) := by unfold numberAt; repeat' (first | exact OkC.ok | assumption | exact True.intro | (refine ok_bind ?_ (fun _ => ?_)) | (intro _) | split | (dsimp only))
instance (r : Nat) : OkC P (numberAt r) := ⟨ok_numberAt r⟩
theorem ok_cellsIn (r : Nat) : Ok P (cellsIn r) := by unfold cellsIn; repeat' (first | exact OkC.ok | assumption | exact True.intro | (refine ok_bind ?_ (fun _ => ?_)) | (intro _) | split | (dsimp only))
instance (r : Nat) : OkC P (cellsIn r) := ⟨ok_cellsIn r⟩
theorem ok_asNumber (a : Addr) (b : Bool) : Ok P (asNumber a b) := by unfold asNumber; repeat' (first | exact OkC.ok | assumption | exact True.intro | (refine ok_bind ?_ (fun _ => ?_)) | (intro _) | split | (dsimp only))
instance (a : Addr) (b : Bool) : OkC P (asNumber a b) := ⟨ok_asNumber a b⟩
theorem ok_behindNumber (a : Addr) : Ok P (behindNumber a) := by unfold behindNumber; repeat' (first | exact OkC.ok | assumption | exact True.intro | (refine ok_bind ?_ (fun _ => ?_)) | (intro _) | split | (dsimp only))
instance (a : Addr) : OkC P (behindNumber a) := ⟨ok_behindNumber a⟩
theorem ok_noView (a : Addr) : Ok P (noView a) := by unfold noView; repeat' (first | exact OkC.ok | assumption | exact True.intro | (refine ok_bind ?_ (fun _ => ?_)) | (intro _) | split | (dsimp only))
instance (a : Addr) : OkC P (noView a) := ⟨ok_noView a⟩
theorem ok_markStringish (a : Addr) : Ok P (markStringish a) := by unfold markStringish; repeat' (first | exact OkC.ok | assumption | exact True.intro | (refine ok_bind ?_ (fun _ => ?_)) | (intro _) | split | (dsimp only))
instance (a : Addr) : OkC P (markStringish a) := ⟨ok_markStringish a⟩
theorem ok_stringish (a : Addr) : Ok P (stringish a) := by unfold stringish; repeat' (first | exact OkC.ok | assumption | exact True.intro | (refine ok_bind ?_ (fun _ => ?_)) | (intro _) | split | (dsimp only))
instance (a : Addr) : OkC P (stringish a) := ⟨ok_stringish a⟩
theorem ok_mayBeOne (a b : Addr) : Ok P (mayBeOne a b) := by unfold mayBeOne; repeat' (first | exact OkC.ok | assumption | exact True.intro | (refine ok_bind ?_ (fun _ => ?_)) | (intro _) | split | (dsimp only))
instance (a b : Addr) : OkC P (mayBeOne a b) := ⟨ok_mayBeOne a b⟩
theorem ok_sameAddr (a b : Addr) : Ok P (sameAddr a b) := by unfold sameAddr; repeat' (first | exact OkC.ok | assumption | exact True.intro | (refine ok_bind ?_ (fun _ => ?_)) | (intro _) | split | (dsimp only))
instance (a b : Addr) : OkC P (sameAddr a b) := ⟨ok_sameAddr a b⟩
theorem ok_samePointer (a b : Option Addr) : Ok P (samePointer a b) := by unfold samePointer; repeat' (first | exact OkC.ok | assumption | exact True.intro | (refine ok_bind ?_ (fun _ => ?_)) | (intro _) | split | (dsimp only))
instance (a b : Option Addr) : OkC P (samePointer a b) := ⟨ok_samePointer a b⟩
theorem ok_byteOf (a : Addr) : Ok P (byteOf a) := by unfold byteOf; repeat' (first | exact OkC.ok | assumption | exact True.intro | (refine ok_bind ?_ (fun _ => ?_)) | (intro _) | split | (dsimp only))
instance (a : Addr) : OkC P (byteOf a) := ⟨ok_byteOf a⟩
theorem ok_partAt (a : Addr) (c b : Nat) : Ok P (partAt a c b) := by unfold partAt; repeat' (first | exact OkC.ok | assumption | exact True.intro | (refine ok_bind ?_ (fun _ => ?_)) | (intro _) | split | (dsimp only))
instance (a : Addr) (c b : Nat) : OkC P (partAt a c b) := ⟨ok_partAt a c b⟩
theorem ok_fieldPlace (a : Addr) (f : Field) : Ok P (fieldPlace a f) := by unfold fieldPlace; repeat' (first | exact OkC.ok | assumption | exact True.intro | (refine ok_bind ?_ (fun _ => ?_)) | (intro _) | split | (dsimp only))
instance (a : Addr) (f : Field) : OkC P (fieldPlace a f) := ⟨ok_fieldPlace a f⟩
theorem ok_variablesAt (a : Addr) (u : TypeId) (n : Nat) : Ok P (variablesAt a u n) := by unfold variablesAt; repeat' (first | exact OkC.ok | assumption | exact True.intro | (refine ok_bind ?_ (fun _ => ?_)) | (intro _) | split | (dsimp only))

instance (a : Addr) (u : TypeId) (n : Nat) : OkC P (variablesAt a u n) := ⟨ok_variablesAt a u n⟩
theorem ok_alloc (e : TypeId) (b : Bool) (o : Value) : Ok P (Instr.alloc e b o) := by unfold Instr.alloc; repeat' (first | exact OkC.ok | assumption | exact True.intro | (refine ok_bind ?_ (fun _ => ?_)) | (intro _) | split | (dsimp only))
theorem ok_box (e : TypeId) (o : Value) : Ok P (Instr.box e o) := by unfold Instr.box; repeat' (first | exact OkC.ok | assumption | exact True.intro | (refine ok_bind ?_ (fun _ => ?_)) | (intro _) | split | (dsimp only))
theorem ok_build (e : TypeId) (o : Array (Nat × Value)) : Ok P (Instr.build e o) := by unfold Instr.build; repeat' (first | exact OkC.ok | with_reducible refine ok_map ?_ | with_reducible refine ok_ite ?_ ?_ | with_reducible refine ok_array (fun _ _ => ?_) _ _ | with_reducible refine ok_range (fun _ _ => ?_) _ _ | with_reducible refine ok_list (fun _ _ => ?_) _ _ | with_reducible refine ok_mapM (fun _ => ?_) _ | with_reducible refine ok_foldlM (fun _ _ => ?_) _ _ | assumption | exact True.intro | (refine ok_bind ?_ (fun _ => ?_)) | (intro _) | split | (dsimp only))
theorem ok_buildSlice (e : TypeId) (n : Nat) (o : Array (Nat × Value)) : Ok P (Instr.buildSlice e n o) := by unfold Instr.buildSlice; repeat' (first | exact OkC.ok | assumption | exact True.intro | (refine ok_bind ?_ (fun _ => ?_)) | (intro _) | split | (dsimp only))
theorem ok_loadAt (e : TypeId) (o : Value) : Ok P (Instr.loadAt e o) := by unfold Instr.loadAt; repeat' (first | exact OkC.ok | assumption | exact True.intro | (refine ok_bind ?_ (fun _ => ?_)) | (intro _) | split | (dsimp only))
theorem ok_storeAt (e : TypeId) (o v : Value) : Ok P (Instr.storeAt e o v) := by unfold Instr.storeAt; repeat' (first | exact OkC.ok | assumption | exact True.intro | (refine ok_bind ?_ (fun _ => ?_)) | (intro _) | split | (dsimp only))
theorem ok_fieldAt (e : TypeId) (o : Value) (n : Nat) : Ok P (Instr.fieldAt e o n) := by unfold Instr.fieldAt; repeat' (first | exact OkC.ok | assumption | exact True.intro | (refine ok_bind ?_ (fun _ => ?_)) | (intro _) | split | (dsimp only))
theorem ok_indexAt (e : TypeId) (o v : Value) : Ok P (Instr.indexAt e o v) := by unfold Instr.indexAt; repeat' (first | exact OkC.ok | assumption | exact True.intro | (refine ok_bind ?_ (fun _ => ?_)) | (intro _) | split | (dsimp only))
theorem ok_field (e : TypeId) (o : Value) (n : Nat) : Ok P (Instr.field e o n) := by unfold Instr.field; repeat' (first | exact OkC.ok | assumption | exact True.intro | (refine ok_bind ?_ (fun _ => ?_)) | (intro _) | split | (dsimp only))
theorem ok_index (e : TypeId) (o v : Value) : Ok P (Instr.index e o v) := by unfold Instr.index; repeat' (first | exact OkC.ok | assumption | exact True.intro | (refine ok_bind ?_ (fun _ => ?_)) | (intro _) | split | (dsimp only))
theorem ok_extract (o : Value) (n : Nat) : Ok P (Instr.extract o n) := by unfold Instr.extract; repeat' (first | exact OkC.ok | assumption | exact True.intro | (refine ok_bind ?_ (fun _ => ?_)) | (intro _) | split | (dsimp only))
end Go.Proofs.Ytnphcnhejgpjgaa.Co
end
section
namespace Go.Proofs.Ytnphcnhejgpjgaa.Co
open Go.Conc
variable {P : Program}
theorem ok_makeInterface (e : TypeId) (o : Value) : Ok P (Instr.makeInterface e o) := by unfold Instr.makeInterface; repeat' (first | exact OkC.ok | assumption | exact True.intro | (refine ok_bind ?_ (fun _ => ?_)) | (intro _) | split | (dsimp only))

theorem ok_intArith (op : BinOp) (k : IntKind) (x y : Int) : Ok P (Op.intArith op k x y) := by unfold Op.intArith; repeat' (first | exact OkC.ok | assumption | exact True.intro | (refine ok_bind ?_ (fun _ => ?_)) | (intro _) | split | (dsimp only))
instance (op : BinOp) (k : IntKind) (x y : Int) : OkC P (Op.intArith op k x y) := ⟨ok_intArith op k x y⟩
theorem ok_intDiv (op : BinOp) (k : IntKind) (x y : Int) : Ok P (Op.intDiv op k x y) := by unfold Op.intDiv; repeat' (first | exact OkC.ok | assumption | exact True.intro | (refine ok_bind ?_ (fun _ => ?_)) | (intro _) | split | (dsimp only))
instance (op : BinOp) (k : IntKind) (x y : Int) : OkC P (Op.intDiv op k x y) := ⟨ok_intDiv op k x y⟩
theorem ok_intBits (op : BinOp) (k : IntKind) (x y : Int) : Ok P (Op.intBits op k x y) := by unfold Op.intBits; repeat' (first | exact OkC.ok | assumption | exact True.intro | (refine ok_bind ?_ (fun _ => ?_)) | (intro _) | split | (dsimp only))
instance (op : BinOp) (k : IntKind) (x y : Int) : OkC P (Op.intBits op k x y) := ⟨ok_intBits op k x y⟩
theorem ok_shift (op : BinOp) (k yk : IntKind) (x y : Int) : Ok P (Op.shift op k x yk y) := by unfold Op.shift; repeat' (first | exact OkC.ok | assumption | exact True.intro | (refine ok_bind ?_ (fun _ => ?_)) | (intro _) | split | (dsimp only))
instance (op : BinOp) (k yk : IntKind) (x y : Int) : OkC P (Op.shift op k x yk y) := ⟨ok_shift op k yk x y⟩
theorem ok_intCmp (op : BinOp) (x y : Int) : Ok P (Op.intCmp op x y) := by unfold Op.intCmp; repeat' (first | exact OkC.ok | assumption | exact True.intro | (refine ok_bind ?_ (fun _ => ?_)) | (intro _) | split | (dsimp only))
instance (op : BinOp) (x y : Int) : OkC P (Op.intCmp op x y) := ⟨ok_intCmp op x y⟩
theorem ok_floatArith (op : BinOp) (k : FloatKind) (x y : Nat) : Ok P (Op.floatArith op k x y) := by unfold Op.floatArith; repeat' (first | exact OkC.ok | assumption | exact True.intro | (refine ok_bind ?_ (fun _ => ?_)) | (intro _) | split | (dsimp only))
instance (op : BinOp) (k : FloatKind) (x y : Nat) : OkC P (Op.floatArith op k x y) := ⟨ok_floatArith op k x y⟩
theorem ok_floatCmp (op : BinOp) (k : FloatKind) (x y : Nat) : Ok P (Op.floatCmp op k x y) := by unfold Op.floatCmp; repeat' (first | exact OkC.ok | assumption | exact True.intro | (refine ok_bind ?_ (fun _ => ?_)) | (intro _) | split | (dsimp only))
instance (op : BinOp) (k : FloatKind) (x y : Nat) : OkC P (Op.floatCmp op k x y) := ⟨ok_floatCmp op k x y⟩
theorem ok_floatToFloat (k : FloatKind) (x : Nat) (k' : FloatKind) : Ok P (Conv.floatToFloat k x k') := by unfold Conv.floatToFloat; repeat' (first | exact OkC.ok | assumption | exact True.intro | (refine ok_bind ?_ (fun _ => ?_)) | (intro _) | split | (dsimp only))
instance (k : FloatKind) (x : Nat) (k' : FloatKind) : OkC P (Conv.floatToFloat k x k') := ⟨ok_floatToFloat k x k'⟩
theorem ok_arith (op : BinOp) (k : FloatKind) (x y : Nat) : Ok P (Op.Complex.arith op k x y) := by unfold Op.Complex.arith; repeat' (first | exact OkC.ok | assumption | exact True.intro | (refine ok_bind ?_ (fun _ => ?_)) | (intro _) | split | (dsimp only))
instance (op : BinOp) (k : FloatKind) (x y : Nat) : OkC P (Op.Complex.arith op k x y) := ⟨ok_arith op k x y⟩
theorem ok_cmp (op : BinOp) (k : FloatKind) (x y : Nat) : Ok P (Op.Complex.cmp op k x y) := by unfold Op.Complex.cmp; repeat' (first | exact OkC.ok | assumption | exact True.intro | (refine ok_bind ?_ (fun _ => ?_)) | (intro _) | split | (dsimp only))
instance (op : BinOp) (k : FloatKind) (x y : Nat) : OkC P (Op.Complex.cmp op k x y) := ⟨ok_cmp op k x y⟩
theorem ok_conv (k : FloatKind) (x : Nat) (k' : FloatKind) : Ok P (Op.Complex.conv k x k') := by unfold Op.Complex.conv; repeat' (first | exact OkC.ok | assumption | exact True.intro | (refine ok_bind ?_ (fun _ => ?_)) | (intro _) | split | (dsimp only))
instance (k : FloatKind) (x : Nat) (k' : FloatKind) : OkC P (Op.Complex.conv k x k') := ⟨ok_conv k x k'⟩
theorem ok_add (x y : Nat) : Ok P (Op.Complex.add x y) := ok_arith _ _ _ _
instance (x y : Nat) : OkC P (Op.Complex.add x y) := ⟨ok_add x y⟩
theorem ok_sub (x y : Nat) : Ok P (Op.Complex.sub x y) := ok_arith _ _ _ _
instance (x y : Nat) : OkC P (Op.Complex.sub x y) := ⟨ok_sub x y⟩
theorem ok_mul (x y : Nat) : Ok P (Op.Complex.mul x y) := ok_arith _ _ _ _
instance (x y : Nat) : OkC P (Op.Complex.mul x y) := ⟨ok_mul x y⟩
theorem ok_quo (x y : Nat) : Ok P (Op.Complex.quo x y) := ok_arith _ _ _ _
instance (x y : Nat) : OkC P (Op.Complex.quo x y) := ⟨ok_quo x y⟩
theorem ok_product (a b c d : Nat) : Ok P (Op.Complex.product a b c d) := by unfold Op.Complex.product; repeat' (first | exact OkC.ok | assumption | exact True.intro | (refine ok_bind ?_ (fun _ => ?_)) | (intro _) | split | (dsimp only))
instance (a b c d : Nat) : OkC P (Op.Complex.product a b c d) := ⟨ok_product a b c d⟩
theorem ok_corrected (s a b c d : Nat) : Ok P (Op.Complex.corrected s a b c d) := by unfold Op.Complex.corrected; repeat' (first | exact OkC.ok | assumption | exact True.intro | (refine ok_bind ?_ (fun _ => ?_)) | (intro _) | split | (dsimp only))
instance (s a b c d : Nat) : OkC P (Op.Complex.corrected s a b c d) := ⟨ok_corrected s a b c d⟩
theorem ok_quotient (a b c d : Nat) : Ok P (Op.Complex.quotient a b c d) := by unfold Op.Complex.quotient; repeat' (first | exact OkC.ok | assumption | exact True.intro | (refine ok_bind ?_ (fun _ => ?_)) | (intro _) | split | (dsimp only))
instance (a b c d : Nat) : OkC P (Op.Complex.quotient a b c d) := ⟨ok_quotient a b c d⟩
theorem ok_complexOp (op : BinOp) (k : FloatKind) (a b c d : Nat) : Ok P (Op.complexOp op k a b c d) := by unfold Op.complexOp; repeat' (first | exact OkC.ok | assumption | exact True.intro | (refine ok_bind ?_ (fun _ => ?_)) | (intro _) | split | (dsimp only))
instance (op : BinOp) (k : FloatKind) (a b c d : Nat) : OkC P (Op.complexOp op k a b c d) := ⟨ok_complexOp op k a b c d⟩
theorem ok_stringOp (op : BinOp) (a b : ByteArray) : Ok P (Op.stringOp op a b) := by unfold Op.stringOp; repeat' (first | exact OkC.ok | assumption | exact True.intro | (refine ok_bind ?_ (fun _ => ?_)) | (intro _) | split | (dsimp only))
instance (op : BinOp) (a b : ByteArray) : OkC P (Op.stringOp op a b) := ⟨ok_stringOp op a b⟩
theorem ok_equalIn : ∀ (d : Nat) (t : TypeId) (x y : Value), Ok P (Op.equalIn d t x y)
  | 0, _, _, _ => trivial
  | d + 1, t, x, y => by
    have ih : ∀ t x y, Ok P (Op.equalIn d t x y) := ok_equalIn d
    unfold Op.equalIn
    repeat' (first | exact OkC.ok | with_reducible refine ok_map ?_ | with_reducible refine ok_ite ?_ ?_ | with_reducible refine ok_array (fun _ _ => ?_) _ _ | with_reducible refine ok_range (fun _ _ => ?_) _ _ | with_reducible refine ok_list (fun _ _ => ?_) _ _ | with_reducible refine ok_mapM (fun _ => ?_) _ | with_reducible refine ok_foldlM (fun _ _ => ?_) _ _ | with_reducible exact ih _ _ _ | exact True.intro | (refine ok_bind ?_ (fun _ => ?_)) | (intro _) | split | (dsimp only))
theorem ok_eqGuardIn : ∀ (d : Nat) (t : TypeId) (x y : Value), Ok P (Op.eqGuardIn d t x y)
  | 0, _, _, _ => trivial
  | d + 1, t, x, y => by
    have ih : ∀ t x y, Ok P (Op.eqGuardIn d t x y) := ok_eqGuardIn d
    unfold Op.eqGuardIn
    repeat' (first | exact OkC.ok | with_reducible refine ok_map ?_ | with_reducible refine ok_ite ?_ ?_ | with_reducible refine ok_array (fun _ _ => ?_) _ _ | with_reducible refine ok_range (fun _ _ => ?_) _ _ | with_reducible refine ok_list (fun _ _ => ?_) _ _ | with_reducible refine ok_mapM (fun _ => ?_) _ | with_reducible refine ok_foldlM (fun _ _ => ?_) _ _ | with_reducible exact ih _ _ _ | exact True.intro | (refine ok_bind ?_ (fun _ => ?_)) | (intro _) | split | (dsimp only))
instance (d : Nat) (t : TypeId) (x y : Value) : OkC P (Op.eqGuardIn d t x y) := ⟨ok_eqGuardIn d t x y⟩
theorem ok_equal (t : TypeId) (x y : Value) : Ok P (Op.equal t x y) := ok_equalIn _ _ _ _
instance (t : TypeId) (x y : Value) : OkC P (Op.equal t x y) := ⟨ok_equal t x y⟩
theorem ok_eqGuard (op : BinOp) (t : TypeId) (x y : Operand) (a b : Value) : Ok P (eqGuard op t x y a b) := by unfold eqGuard; repeat' (first | exact OkC.ok | assumption | exact True.intro | (refine ok_bind ?_ (fun _ => ?_)) | (intro _) | split | (dsimp only))
instance (op : BinOp) (t : TypeId) (x y : Operand) (a b : Value) : OkC P (eqGuard op t x y a b) := ⟨ok_eqGuard op t x y a b⟩
theorem ok_unsafeAdd (a : Array TypeId) (t : TypeId) (b : Array Value) : Ok P (Builtin.unsafeAdd_ a t b) := by
  obtain ⟨l⟩ := b
  rcases l with _ | ⟨x, _ | ⟨y, _ | ⟨z, l⟩⟩⟩
  · trivial
  · trivial
  · cases x
    case pointer p => unfold Builtin.unsafeAdd_; dsimp only; repeat' (first | exact OkC.ok | assumption | exact True.intro | (refine ok_bind ?_ (fun _ => ?_)) | (intro _) | split | (dsimp only))
    all_goals trivial
  · trivial
instance (a : Array TypeId) (t : TypeId) (b : Array Value) : OkC P (Builtin.unsafeAdd_ a t b) := ⟨ok_unsafeAdd a t b⟩
theorem ok_twoPlaces (a b : Addr) : Ok P (Op.twoPlaces a b) := by unfold Op.twoPlaces; repeat' (first | exact OkC.ok | assumption | exact True.intro | (refine ok_bind ?_ (fun _ => ?_)) | (intro _) | split | (dsimp only))
instance (a b : Addr) : OkC P (Op.twoPlaces a b) := ⟨ok_twoPlaces a b⟩
theorem ok_addrSub (k : IntKind) (a b : Addr) : Ok P (Op.addrSub k a b) := by unfold Op.addrSub; repeat' (first | exact OkC.ok | assumption | exact True.intro | (refine ok_bind ?_ (fun _ => ?_)) | (intro _) | split | (dsimp only))
instance (k : IntKind) (a b : Addr) : OkC P (Op.addrSub k a b) := ⟨ok_addrSub k a b⟩
theorem ok_addrCmp (k : BinOp) (a b : Addr) : Ok P (Op.addrCmp k a b) := by unfold Op.addrCmp; repeat' (first | exact OkC.ok | assumption | exact True.intro | (refine ok_bind ?_ (fun _ => ?_)) | (intro _) | split | (dsimp only))
instance (k : BinOp) (a b : Addr) : OkC P (Op.addrCmp k a b) := ⟨ok_addrCmp k a b⟩
theorem ok_addrMod (k : IntKind) (a : Addr) (n : Int) : Ok P (Op.addrMod k a n) := by unfold Op.addrMod; repeat' (first | exact OkC.ok | assumption | exact True.intro | (refine ok_bind ?_ (fun _ => ?_)) | (intro _) | split | (dsimp only))
instance (k : IntKind) (a : Addr) (n : Int) : OkC P (Op.addrMod k a n) := ⟨ok_addrMod k a n⟩
theorem ok_movedNumber (t : TypeId) (x y : Value) : Ok P (movedNumber t x y) := by unfold movedNumber; repeat' (first | exact OkC.ok | assumption | exact True.intro | (refine ok_bind ?_ (fun _ => ?_)) | (intro _) | split | (dsimp only))
instance (t : TypeId) (x y : Value) : OkC P (movedNumber t x y) := ⟨ok_movedNumber t x y⟩
theorem ok_movedPointer (t : TypeId) (x y : Value) : Ok P (movedPointer t x y) := by unfold movedPointer; repeat' (first | exact OkC.ok | assumption | exact True.intro | (refine ok_bind ?_ (fun _ => ?_)) | (intro _) | split | (dsimp only))
instance (t : TypeId) (x y : Value) : OkC P (movedPointer t x y) := ⟨ok_movedPointer t x y⟩
theorem ok_binOp (op : BinOp) (t : TypeId) (x y : Value) : Ok P (binOp op t x y) := by unfold binOp; repeat' (first | exact OkC.ok | assumption | exact True.intro | (refine ok_bind ?_ (fun _ => ?_)) | (intro _) | split | (dsimp only))
theorem ok_unary (op : UnOp) (x : Value) : Ok P (Op.unary op x) := by unfold Op.unary; repeat' (first | exact OkC.ok | assumption | exact True.intro | (refine ok_bind ?_ (fun _ => ?_)) | (intro _) | split | (dsimp only))

theorem ok_complexToComplex (k : FloatKind) (x y : Nat) (k' : FloatKind) : Ok P (Conv.complexToComplex k x y k') := by unfold Conv.complexToComplex; repeat' (first | exact OkC.ok | assumption | exact True.intro | (refine ok_bind ?_ (fun _ => ?_)) | (intro _) | split | (dsimp only))
instance (k : FloatKind) (x y : Nat) (k' : FloatKind) : OkC P (Conv.complexToComplex k x y k') := ⟨ok_complexToComplex k x y k'⟩
theorem ok_floatToInt (k : FloatKind) (x : Nat) (k' : IntKind) : Ok P (Conv.floatToInt k x k') := by unfold Conv.floatToInt; repeat' (first | exact OkC.ok | assumption | exact True.intro | (refine ok_bind ?_ (fun _ => ?_)) | (intro _) | split | (dsimp only))
instance (k : FloatKind) (x : Nat) (k' : IntKind) : OkC P (Conv.floatToInt k x k') := ⟨ok_floatToInt k x k'⟩
theorem ok_intToFloat (k : FloatKind) (x : Int) : Ok P (Conv.intToFloat k x) := trivial
instance (k : FloatKind) (x : Int) : OkC P (Conv.intToFloat k x) := ⟨ok_intToFloat k x⟩
theorem ok_intToInt (k : IntKind) (x : Int) : Ok P (Conv.intToInt k x) := trivial
instance (k : IntKind) (x : Int) : OkC P (Conv.intToInt k x) := ⟨ok_intToInt k x⟩
theorem ok_intToString (x : Int) : Ok P (Conv.intToString x) := trivial
instance (x : Int) : OkC P (Conv.intToString x) := ⟨ok_intToString x⟩
theorem ok_bytesToString (x : Value) : Ok P (Conv.bytesToString x) := by unfold Conv.bytesToString; repeat' (first | exact OkC.ok | with_reducible refine ok_map ?_ | with_reducible refine ok_ite ?_ ?_ | with_reducible refine ok_array (fun _ _ => ?_) _ _ | with_reducible refine ok_range (fun _ _ => ?_) _ _ | with_reducible refine ok_list (fun _ _ => ?_) _ _ | with_reducible refine ok_mapM (fun _ => ?_) _ | with_reducible refine ok_foldlM (fun _ _ => ?_) _ _ | assumption | exact True.intro | (refine ok_bind ?_ (fun _ => ?_)) | (intro _) | split | (dsimp only))
instance (x : Value) : OkC P (Conv.bytesToString x) := ⟨ok_bytesToString x⟩
theorem ok_runesToString (x : Value) : Ok P (Conv.runesToString x) := by unfold Conv.runesToString; repeat' (first | exact OkC.ok | with_reducible refine ok_map ?_ | with_reducible refine ok_ite ?_ ?_ | with_reducible refine ok_array (fun _ _ => ?_) _ _ | with_reducible refine ok_range (fun _ _ => ?_) _ _ | with_reducible refine ok_list (fun _ _ => ?_) _ _ | with_reducible refine ok_mapM (fun _ => ?_) _ | with_reducible refine ok_foldlM (fun _ _ => ?_) _ _ | assumption | exact True.intro | (refine ok_bind ?_ (fun _ => ?_)) | (intro _) | split | (dsimp only))
instance (x : Value) : OkC P (Conv.runesToString x) := ⟨ok_runesToString x⟩
theorem ok_stringToBytes (e : TypeId) (x : ByteArray) : Ok P (Conv.stringToBytes e x) := by unfold Conv.stringToBytes; repeat' (first | exact OkC.ok | assumption | exact True.intro | (refine ok_bind ?_ (fun _ => ?_)) | (intro _) | split | (dsimp only))
instance (e : TypeId) (x : ByteArray) : OkC P (Conv.stringToBytes e x) := ⟨ok_stringToBytes e x⟩
theorem ok_stringToRunes (e : TypeId) (x : ByteArray) : Ok P (Conv.stringToRunes e x) := by unfold Conv.stringToRunes; repeat' (first | exact OkC.ok | assumption | exact True.intro | (refine ok_bind ?_ (fun _ => ?_)) | (intro _) | split | (dsimp only))
instance (e : TypeId) (x : ByteArray) : OkC P (Conv.stringToRunes e x) := ⟨ok_stringToRunes e x⟩
theorem ok_seenAt (a : Addr) : Ok P (Conv.seenAt a) := by unfold Conv.seenAt; repeat' (first | exact OkC.ok | assumption | exact True.intro | (refine ok_bind ?_ (fun _ => ?_)) | (intro _) | split | (dsimp only))
instance (a : Addr) : OkC P (Conv.seenAt a) := ⟨ok_seenAt a⟩
theorem ok_unsafePointer (s d : TypeId) (x : Value) : Ok P (Conv.unsafePointer s d x) := by unfold Conv.unsafePointer; repeat' (first | exact OkC.ok | assumption | exact True.intro | (refine ok_bind ?_ (fun _ => ?_)) | (intro _) | split | (dsimp only))
instance (s d : TypeId) (x : Value) : OkC P (Conv.unsafePointer s d x) := ⟨ok_unsafePointer s d x⟩
theorem ok_convert (s d : TypeId) (x : Value) : Ok P (convert s d x) := by unfold convert; repeat' (first | exact OkC.ok | assumption | exact True.intro | (refine ok_bind ?_ (fun _ => ?_)) | (intro _) | split | (dsimp only))

theorem ok_holdsCells (a : Addr) (n : Nat) : Ok P (Builtin.holdsCells a n) := by unfold Builtin.holdsCells; repeat' (first | exact OkC.ok | assumption | exact True.intro | (refine ok_bind ?_ (fun _ => ?_)) | (intro _) | split | (dsimp only))
instance (a : Addr) (n : Nat) : OkC P (Builtin.holdsCells a n) := ⟨ok_holdsCells a n⟩
theorem ok_lenOf (v : Value) : Ok P (Builtin.lenOf v) := by unfold Builtin.lenOf; repeat' (first | exact OkC.ok | assumption | exact True.intro | (refine ok_bind ?_ (fun _ => ?_)) | (intro _) | split | (dsimp only))
instance (v : Value) : OkC P (Builtin.lenOf v) := ⟨ok_lenOf v⟩
theorem ok_firstCells (a n : Nat) (v : Value) : Ok P (Builtin.firstCells a n v) := by unfold Builtin.firstCells; repeat' (first | exact OkC.ok | assumption | exact True.intro | (refine ok_bind ?_ (fun _ => ?_)) | (intro _) | split | (dsimp only))
instance (a n : Nat) (v : Value) : OkC P (Builtin.firstCells a n v) := ⟨ok_firstCells a n v⟩
theorem ok_askRoom (n : Nat) : Ok P (askRoom n) := by unfold askRoom; repeat' (first | exact OkC.ok | assumption | exact True.intro | (refine ok_bind ?_ (fun _ => ?_)) | (intro _) | split | (dsimp only))
instance (n : Nat) : OkC P (askRoom n) := ⟨ok_askRoom n⟩
theorem ok_mayShare (a b c : Nat) (d : Option Addr) (v : Value) : Ok P (Builtin.mayShare a b c d v) := by unfold Builtin.mayShare; repeat' (first | exact OkC.ok | assumption | exact True.intro | (refine ok_bind ?_ (fun _ => ?_)) | (intro _) | split | (dsimp only))
instance (a b c : Nat) (d : Option Addr) (v : Value) : OkC P (Builtin.mayShare a b c d v) := ⟨ok_mayShare a b c d v⟩
set_option maxHeartbeats 4000000 in
theorem ok_append (a : Array TypeId) (t : TypeId) (b : Array Value) : Ok P (Builtin.append_ a t b) := by unfold Builtin.append_; repeat' (first | exact OkC.ok | with_reducible refine ok_map ?_ | with_reducible refine ok_ite ?_ ?_ | with_reducible refine ok_array (fun _ _ => ?_) _ _ | with_reducible refine ok_range (fun _ _ => ?_) _ _ | with_reducible refine ok_list (fun _ _ => ?_) _ _ | with_reducible refine ok_mapM (fun _ => ?_) _ | with_reducible refine ok_foldlM (fun _ _ => ?_) _ _ | assumption | exact True.intro | (refine ok_bind ?_ (fun _ => ?_)) | (intro _) | split | (dsimp only))
theorem ok_len (a : Array TypeId) (t : TypeId) (b : Array Value) : Ok P (Builtin.len_ a t b) := by unfold Builtin.len_; repeat' (first | exact OkC.ok | assumption | exact True.intro | (refine ok_bind ?_ (fun _ => ?_)) | (intro _) | split | (dsimp only))
theorem ok_min2 (a b : Value) : Ok P (Builtin.min2 a b) := by unfold Builtin.min2; repeat' (first | exact OkC.ok | assumption | exact True.intro | (refine ok_bind ?_ (fun _ => ?_)) | (intro _) | split | (dsimp only))
instance (a b : Value) : OkC P (Builtin.min2 a b) := ⟨ok_min2 a b⟩
theorem ok_min (a : Array TypeId) (t : TypeId) (b : Array Value) : Ok P (Builtin.min_ a t b) := by unfold Builtin.min_; repeat' (first | exact OkC.ok | with_reducible refine ok_map ?_ | with_reducible refine ok_ite ?_ ?_ | with_reducible refine ok_array (fun _ _ => ?_) _ _ | with_reducible refine ok_range (fun _ _ => ?_) _ _ | with_reducible refine ok_list (fun _ _ => ?_) _ _ | with_reducible refine ok_mapM (fun _ => ?_) _ | with_reducible refine ok_foldlM (fun _ _ => ?_) _ _ | assumption | exact True.intro | (refine ok_bind ?_ (fun _ => ?_)) | (intro _) | split | (dsimp only))
theorem ok_followBlind : ∀ (l : List FieldStep) (t : TypeId) (x : Option Value), Ok P (followBlind l t x)
  | [], _, _ => trivial
  | s :: l, t, x => by
    have ih : ∀ t x, Ok P (followBlind l t x) := ok_followBlind l
    unfold followBlind
    repeat' (first | exact OkC.ok | with_reducible exact ih _ _ | exact True.intro | (refine ok_bind ?_ (fun _ => ?_)) | (intro _) | split | (dsimp only))
instance (l : List FieldStep) (t : TypeId) (x : Option Value) : OkC P (followBlind l t x) := ⟨ok_followBlind l t x⟩
theorem ok_nilAhead : ∀ (n : Nat) (t : TypeId) (v : Value) (s : String), Ok P (nilAhead n t v s)
  | 0, _, _, _ => trivial
  | n + 1, t, v, s => by
    have ih : ∀ t v s, Ok P (nilAhead n t v s) := ok_nilAhead n
    unfold nilAhead
    repeat' (first | exact OkC.ok | with_reducible exact ih _ _ _ | exact True.intro | (refine ok_bind ?_ (fun _ => ?_)) | (intro _) | split | (dsimp only))
instance (n : Nat) (t : TypeId) (v : Value) (s : String) : OkC P (nilAhead n t v s) := ⟨ok_nilAhead n t v s⟩
end Go.Proofs.Ytnphcnhejgpjgaa.Co
end
section
namespace Go.Proofs.Ytnphcnhejgpjgaa.Co
open Go.Conc
variable {P : Program}

/-- The operations that say nothing to the trace but what they touch, and leave channels alone. -/
def okOp : Op → Bool
  | .move _ | .assign _ | .pick .. | .alloc _ | .box .. | .build .. | .buildSlice .. | .load .. | .store .. | .nilCheck _ | .binOp .. | .unOp .. | .convert .. | .makeInterface ..
  | .fieldAddr .. | .field .. | .indexAddr .. | .index .. | .extract .. | .panic _ => true
  | .call { callee := .builtin .append, .. } | .call { callee := .builtin .len, .. } | .call { callee := .builtin .min, .. } | .call { callee := .value _, .. } => true
  | _ => false

class Nice (P : Program) : Prop where
  call : ∀ (f : FuncId) (args : Array Value), Ok P (callFunc f args)

theorem ok_ask {α : Type} {k : Program → Sem α} (h : Ok P (k P)) : Ok P (program >>= k) := h
theorem ok_call_none {f : FuncId} {args : Array Value} (hf : P.funcs[f]? = none) : Ok P (callFunc f args) := by
  unfold callFunc
  refine ok_ask ?_
  rw [hf]
  exact ok_stuck _
theorem ok_call {f : FuncId} {fn : Func} {args : Array Value} (hf : P.funcs[f]? = some fn) (hb : fn.body.isNone = false) : Ok P (callFunc f args) := by
  unfold callFunc
  refine ok_ask ?_
  rw [hf]
  dsimp only
  rw [if_neg (c := fn.body.isNone = true) (by rw [hb]; simp)]
  repeat' (first | exact OkC.ok | assumption | exact True.intro | (refine ok_bind ?_ (fun _ => ?_)) | (intro _) | split | (dsimp only))
theorem ok_call_ext {f : FuncId} {fn : Func} {args : Array Value} (hf : P.funcs[f]? = some fn) (h1 : Extern.findNext fn = none) (h2 : ∀ e, Extern.find fn = some e → Ok P (e args)) : Ok P (callFunc f args) := by
  unfold callFunc
  refine ok_ask ?_
  rw [hf]
  dsimp only
  rw [h1]
  split
  · repeat' (first | exact OkC.ok | assumption | exact True.intro | (refine ok_bind ?_ (fun _ => ?_)) | (intro _) | split | (dsimp only))
  split
  · refine ok_bind (ok_extern f) fun _ => ?_
    dsimp only
    split
    · rename_i e he
      exact ok_bind (h2 e he) fun _ => trivial
    · repeat' (first | exact OkC.ok | assumption | exact True.intro | (refine ok_bind ?_ (fun _ => ?_)) | (intro _) | split | (dsimp only))
  · repeat' (first | exact OkC.ok | assumption | exact True.intro | (refine ok_bind ?_ (fun _ => ?_)) | (intro _) | split | (dsimp only))
theorem ok_wrapnil (ats : Array TypeId) (t : TypeId) (ptr : Value) (x y : String) : Ok P (Builtin.ssaWrapNilChk_ ats t #[ptr, strVal x, strVal y]) := by
  unfold Builtin.ssaWrapNilChk_ strVal
  conv => arg 2; whnf
  repeat' (first | exact OkC.ok | assumption | exact True.intro | (refine ok_bind ?_ (fun _ => ?_)) | (intro _) | split | (dsimp only))
instance (ats : Array TypeId) (t : TypeId) (ptr : Value) (x y : String) : OkC P (Builtin.ssaWrapNilChk_ ats t #[ptr, strVal x, strVal y]) := ⟨ok_wrapnil ats t ptr x y⟩
theorem ok_get (t : TypeId) (x : Place) : Ok P (x.get t) := by cases x <;> (unfold Place.get; repeat' (first | exact OkC.ok | assumption | exact True.intro | (refine ok_bind ?_ (fun _ => ?_)) | (intro _) | split | (dsimp only)))
instance (t : TypeId) (x : Place) : OkC P (x.get t) := ⟨ok_get t x⟩
theorem ok_follow : ∀ (l : List FieldStep) (t : TypeId) (x : Place), Ok P (follow l t x)
  | [], _, _ => trivial
  | s :: l, t, x => by
    have ih : ∀ t x, Ok P (follow l t x) := ok_follow l
    unfold follow
    repeat' (first | exact OkC.ok | with_reducible exact ih _ _ | exact True.intro | (refine ok_bind ?_ (fun _ => ?_)) | (intro _) | split | (dsimp only))
instance (l : List FieldStep) (t : TypeId) (x : Place) : OkC P (follow l t x) := ⟨ok_follow l t x⟩
theorem ok_receiverAt (t : TypeId) (x : Place) (b : Bool) (s : Option String) : Ok P (receiverAt t x b s) := by unfold receiverAt; repeat' (first | exact OkC.ok | assumption | exact True.intro | (refine ok_bind ?_ (fun _ => ?_)) | (intro _) | split | (dsimp only))
instance (t : TypeId) (x : Place) (b : Bool) (s : Option String) : OkC P (receiverAt t x b s) := ⟨ok_receiverAt t x b s⟩
theorem ok_receiverVia (t : TypeId) (v : Value) (p : Array FieldStep) (b : Bool) : Ok P (receiverVia t v p b) := by unfold receiverVia; repeat' (first | exact OkC.ok | assumption | exact True.intro | (refine ok_bind ?_ (fun _ => ?_)) | (intro _) | split | (dsimp only))
instance (t : TypeId) (v : Value) (p : Array FieldStep) (b : Bool) : OkC P (receiverVia t v p b) := ⟨ok_receiverVia t v p b⟩
theorem ok_method : ∀ (n : Nat) (t : TypeId) (v : Value) (s : String), Ok P (method n t v s)
  | 0, _, _, _ => trivial
  | n + 1, t, v, s => by
    have ih : ∀ t v s, Ok P (method n t v s) := ok_method n
    unfold method
    repeat' (first | exact OkC.ok | with_reducible exact ih _ _ _ | exact True.intro | (refine ok_bind ?_ (fun _ => ?_)) | (intro _) | split | (dsimp only))
instance (n : Nat) (t : TypeId) (v : Value) (s : String) : OkC P (method n t v s) := ⟨ok_method n t v s⟩
theorem ok_getLoop (l : Nat) : Ok P (Instr.getLoop l) := by unfold Instr.getLoop; repeat' (first | exact OkC.ok | assumption | exact True.intro | (refine ok_bind ?_ (fun _ => ?_)) | (intro _) | split | (dsimp only))
instance (l : Nat) : OkC P (Instr.getLoop l) := ⟨ok_getLoop l⟩
theorem ok_yield (l : Nat) (args : Array Value) : Ok P (Instr.yield l args) := by unfold Instr.yield; repeat' (first | exact OkC.ok | assumption | exact True.intro | (refine ok_bind ?_ (fun _ => ?_)) | (intro _) | split | (dsimp only))
theorem ok_callMethod [Nice P] (r : Value) (n : String) (args : Array Value) : Ok P (callMethod r n args) := by
  unfold callMethod
  repeat' (first | exact OkC.ok | with_reducible exact Nice.call _ _ | exact True.intro | (refine ok_bind ?_ (fun _ => ?_)) | (intro _) | split | (dsimp only))
theorem ok_invoke_fn [Nice P] (g : Fn) (c args : Array Value) : Ok P (invoke (.fn g c) args) := by
  cases g <;> (unfold invoke; dsimp only)
  all_goals repeat' (first | exact OkC.ok | with_reducible exact Nice.call _ _ | with_reducible exact ok_callMethod _ _ _ | with_reducible exact ok_yield _ _ | exact True.intro | (refine ok_bind ?_ (fun _ => ?_)) | (intro _) | split | (dsimp only))
theorem ok_value [Nice P] (v : Value) (args : Array Value) : Ok P (do let d ← Deferred.ofValue v args; invoke d.target d.args : Sem Next) := by
  cases v
  case func g first c => exact ok_invoke_fn g c _
  all_goals first | trivial | exact ok_runtimePanic _
theorem ok_v {s : Sem Value} (h : Ok P s) : Ok P (do pure (Next.value (← s)) : Sem Next) := ok_bind h fun _ => trivial
theorem ok_u {s : Sem Unit} (h : Ok P s) : Ok P (do s; pure Next.skip : Sem Next) := ok_bind h fun _ => trivial
def Nev {α : Type} : Sem α → Prop
  | .pure _ => False
  | .load _ _ k => ∀ v, Nev (k v)
  | .store _ _ _ k => Nev k
  | .new _ k => ∀ r, Nev (k r)
  | .shape _ k => ∀ s, Nev (k s)
  | .freeze _ _ k => Nev k
  | .frozen _ k => ∀ b, Nev (k b)
  | .getObj _ k => ∀ o, Nev (k o)
  | .setObj _ _ k => Nev k
  | .choose _ k => ∀ n, Nev (k n)
  | .sys _ k => ∀ r, Nev (k r)
  | .program k => ∀ p, Nev (k p)
  | .mark _ k => Nev k
  | .halt _ => True
theorem nev_bind {α β : Type} {s : Sem α} {f : α → Sem β} (hf : ∀ a, Nev (f a)) : Nev (s >>= f) := by
  show Nev (s.bind f)
  induction s with
  | pure a => exact hf a
  | load m a k ih => exact fun v => ih v
  | store m a v k ih => exact ih
  | new o k ih => exact fun v => ih v
  | shape r k ih => exact fun v => ih v
  | freeze a n k ih => exact ih
  | frozen a k ih => exact fun v => ih v
  | getObj r k ih => exact fun v => ih v
  | setObj r o k ih => exact ih
  | choose q k ih => exact fun v => ih v
  | sys c k ih => exact fun v => ih v
  | program k ih => exact fun v => ih v
  | mark m k ih => exact ih
  | halt h => trivial
theorem nev_first {α β : Type} {s : Sem α} {f : α → Sem β} (hs : Nev s) : Nev (s >>= f) := by
  show Nev (s.bind f)
  induction s with
  | pure a => exact hs.elim
  | load m a k ih => exact fun v => ih v (hs v)
  | store m a v k ih => exact ih hs
  | new o k ih => exact fun v => ih v (hs v)
  | shape r k ih => exact fun v => ih v (hs v)
  | freeze a n k ih => exact ih hs
  | frozen a k ih => exact fun v => ih v (hs v)
  | getObj r k ih => exact fun v => ih v (hs v)
  | setObj r o k ih => exact ih hs
  | choose q k ih => exact fun v => ih v (hs v)
  | sys c k ih => exact fun v => ih v (hs v)
  | program k ih => exact fun v => ih v (hs v)
  | mark m k ih => exact ih hs
  | halt h => trivial
theorem nev_run {α : Type} {s : Sem α} (h : Nev s) : ∀ {w : World} {x : α} {w' : World}, s.run P w ≠ .ok x w' := by
  induction s with
  | pure a => exact h.elim
  | load m a k ih =>
    intro w x w' e
    simp only [Sem.run] at e
    split at e
    · exact ih _ (h _) e
    · split at e
      · exact ih _ (h _) e
      · cases e
  | store m a v k ih =>
    intro w x w' e
    cases v <;> (simp only [Sem.run] at e; first
      | cases e; done
      | (split at e
         · split at e
           · cases e
           · exact ih h e
         · split at e
           · exact ih h e
           · cases e))
  | new o k ih => intro w x w' e; exact ih _ (h _) e
  | shape r k ih => intro w x w' e; exact ih _ (h _) e
  | freeze a n k ih => intro w x w' e; exact ih h e
  | frozen a k ih => intro w x w' e; exact ih _ (h _) e
  | getObj r k ih =>
    intro w x w' e
    simp only [Sem.run] at e
    split at e
    · cases e
    · exact ih _ (h _) e
    · cases e
  | setObj r o k ih =>
    intro w x w' e
    simp only [Sem.run] at e
    split at e
    · cases e
    · exact ih h e
    · cases e
  | choose q k ih =>
    intro w x w' e
    simp only [Sem.run] at e
    split at e
    · exact ih _ (h _) e
    · exact ih _ (h _) e
  | sys c k ih => intro w x w' e; exact ih _ (h _) e
  | program k ih => intro w x w' e; exact ih _ (h _) e
  | mark m k ih => intro w x w' e; exact ih h e
  | halt hh => intro w x w' e; cases e
theorem nev_panic (v : Value) : Nev (Instr.panic v) := by
  cases v
  case iface t x => trivial
  case nilIface =>
    refine nev_bind fun n => ?_
    split
    · trivial
    · unfold runtimePanic
      exact nev_bind fun _ => nev_bind fun _ => nev_bind fun _ => trivial
  all_goals trivial
theorem ok_exec [Nice P] (o : Oper) (a : Act) (h : okOp o.op = true) : Ok P (execOp a.eval o) ∨ Nev (execOp a.eval o) := by
  obtain ⟨dst, op, ty, pos, edges, lhs⟩ := o
  cases op
  case panic x => exact .inr (nev_first (nev_panic _))
  case move x => exact .inl trivial
  case assign x => exact .inl trivial
  case pick c x y => exact .inl (ok_bind (ok_asBool _) fun _ => trivial)
  case alloc e => exact .inl (ok_v (ok_alloc _ _ _))
  case box e x => exact .inl (ok_v (ok_box _ _))
  case build t ps => exact .inl (ok_v (ok_build _ _))
  case buildSlice t n ps => exact .inl (ok_v (ok_buildSlice _ _ _))
  case load t x => exact .inl (ok_v (ok_loadAt _ _))
  case store t x y => exact .inl (ok_u (ok_storeAt _ _ _))
  case nilCheck x => refine .inl ?_; unfold execOp; dsimp only; repeat' (first | exact OkC.ok | assumption | exact True.intro | (refine ok_bind ?_ (fun _ => ?_)) | (intro _) | split | (dsimp only))
  case binOp b t x y yt => exact .inl (ok_v (ok_bind (ok_eqGuard _ _ _ _ _ _) fun _ => ok_binOp _ _ _ _))
  case unOp u t x => exact .inl (ok_v (ok_unary _ _))
  case convert s d x => exact .inl (ok_v (ok_convert _ _ _))
  case makeInterface t x => exact .inl (ok_v (ok_makeInterface _ _))
  case fieldAddr t x f => exact .inl (ok_v (ok_fieldAt _ _ _))
  case field t x f => exact .inl (ok_v (ok_field _ _ _))
  case indexAddr t x i => exact .inl (ok_v (ok_indexAt _ _ _))
  case index t x i => exact .inl (ok_v (ok_index _ _ _))
  case extract x i => exact .inl (ok_v (ok_extract _ _))
  case call c =>
    obtain ⟨cal, as, ats⟩ := c
    cases cal with
    | builtin b =>
      cases b
      case append => exact .inl (ok_v (ok_append _ _ _))
      case len => exact .inl (ok_v (ok_len _ _ _))
      case min => exact .inl (ok_v (ok_min _ _ _))
      all_goals cases h
    | value x => exact .inl (ok_value _ _)
    | invoke r n => cases h
  all_goals cases h

theorem ok_results (fn : Func) (tmps : Array Value) : Ok P (results fn tmps) := by unfold results; repeat' (first | exact OkC.ok | with_reducible refine ok_map ?_ | with_reducible refine ok_ite ?_ ?_ | with_reducible refine ok_array (fun _ _ => ?_) _ _ | with_reducible refine ok_range (fun _ _ => ?_) _ _ | with_reducible refine ok_list (fun _ _ => ?_) _ _ | with_reducible refine ok_mapM (fun _ => ?_) _ | with_reducible refine ok_foldlM (fun _ _ => ?_) _ _ | assumption | exact True.intro | (refine ok_bind ?_ (fun _ => ?_)) | (intro _) | split | (dsimp only))
theorem Nice.op' [Nice P] (o : Oper) (a : Act) (w : World) (x : Next) (w' : World) (h : okOp o.op = true) (e : (execOp a.eval o).run P w = .ok x w') : (∀ v ∈ (execOp a.eval o).events P w #[], EvN v) ∧ KeepsC w w' :=
  (ok_exec o a h).elim (fun h => ok_both h e) fun h => absurd e (nev_run h)
theorem Nice.res' (fn : Func) (tmps : Array Value) (w : World) : ∀ e ∈ (results fn tmps).events P w #[], EvN e := ok_events (ok_results fn tmps) (by simp)
end Go.Proofs.Ytnphcnhejgpjgaa.Co
end
section
namespace Go.Proofs.Ytnphcnhejgpjgaa.Co
open Go.Conc
open Classical in
/-- The world, the blocks of H put out of sight. -/
noncomputable def hide (H : Nat → Prop) (w : World) : World := { w with heap := w.heap.mapIdx fun i o => if H i then .number ⟨0, 0, none⟩ false else o }
/-- Nothing in sight is seen as another type. -/
def NV (H : Nat → Prop) (w : World) : Prop := ∀ b a t, ¬ H b → w.heap[b]? ≠ some (.view a t)
variable {P : Program} {H : Nat → Prop}

theorem hide_size (w : World) : (hide H w).heap.size = w.heap.size := by simp [hide]
theorem hide_hid {w : World} {b : Nat} (h : H b) : (hide H w).heap[b]? = (w.heap[b]?).map fun _ => .number ⟨0, 0, none⟩ false := by
  simp only [hide, Array.getElem?_mapIdx]
  cases w.heap[b]? with
  | none => rfl
  | some o => simp [h]
theorem hide_not {w : World} {b : Nat} (h : ¬ H b) : (hide H w).heap[b]? = w.heap[b]? := by
  simp only [hide, Array.getElem?_mapIdx]
  cases w.heap[b]? with
  | none => rfl
  | some o => simp only [Option.map_some, if_neg h]
theorem hide_cells {w : World} {b : Nat} {c : Array Value} {e : TypeId} {z : Nat × Nat} (hh : (hide H w).heap[b]? = some (.cells c e z)) : ¬ H b ∧ w.heap[b]? = some (.cells c e z) := by
  by_cases hb : H b
  · rw [hide_hid hb] at hh
    cases hw : w.heap[b]? with
    | none => rw [hw] at hh; cases hh
    | some o => rw [hw] at hh; cases hh
  · rw [hide_not hb] at hh
    exact ⟨hb, hh⟩
theorem hide_noview {w : World} (h : NV H w) {b : Nat} {a : Addr} {t : TypeId} : (hide H w).heap[b]? ≠ some (.view a t) := by
  by_cases hb : H b
  · rw [hide_hid hb]
    cases hw : w.heap[b]? with
    | none => simp
    | some o => simp
  · rw [hide_not hb]
    exact h b a t hb
theorem hide_cell {w : World} {a : Addr} {v : Value} (h : (hide H w).cell? a = some v) : ¬ H a.block ∧ w.cell? a = some v ∧ a.block < w.heap.size := by
  unfold World.cell? at h ⊢
  split at h
  · rename_i c e z hc
    obtain ⟨h1, h2⟩ := hide_cells hc
    rw [h2]
    exact ⟨h1, h, (Array.getElem?_eq_some_iff.1 h2).1⟩
  · cases h
theorem hide_frozen {w : World} {a : Addr} (h : ¬ H a.block) : (hide H w).frozen? a = w.frozen? a := by
  unfold World.frozen?
  rw [hide_not h]
theorem hide_set {w : World} {a : Addr} {v : Value} (h : ¬ H a.block) : (hide H w).setCell a v = hide H (w.setCell a v) := by
  unfold World.setCell
  simp only [hide]
  congr 1
  apply Array.ext_getElem?
  intro i
  rw [Array.getElem?_modify, Array.getElem?_mapIdx, Array.getElem?_mapIdx, Array.getElem?_modify]
  by_cases hi : a.block = i
  · subst hi
    simp only [if_true]
    cases w.heap[a.block]? with
    | none => rfl
    | some o => simp [h]
  · simp only [if_neg hi]
theorem nv_set {w : World} {a : Addr} {v : Value} (h : NV H w) : NV H (w.setCell a v) := by
  intro b x t hb e
  unfold World.setCell at e
  rw [Array.getElem?_modify] at e
  split at e
  · cases hw : w.heap[b]? with
    | none => rw [hw] at e; cases e
    | some o =>
      rw [hw] at e
      cases o <;> first | (cases e; done) | exact h b _ _ hb (hw.trans e)
  · exact h b x t hb e
theorem hide_push {w : World} {o : Obj} (hH : ∀ b, H b → b < w.heap.size) : ({ hide H w with heap := (hide H w).heap.push o } : World) = hide H { w with heap := w.heap.push o } := by
  simp only [hide]
  congr 1
  apply Array.ext_getElem?
  intro i
  rw [Array.getElem?_push, Array.getElem?_mapIdx, Array.getElem?_mapIdx, Array.getElem?_push, Array.size_mapIdx]
  split
  · rename_i e
    subst e
    simp only [Option.map_some]
    rw [if_neg fun h => absurd (hH _ h) (Nat.lt_irrefl _)]
  · rfl
theorem nv_push {w : World} {o : Obj} (h : NV H w) (ho : ¬ ∃ a t, o = .view a t) : NV H { w with heap := w.heap.push o } := by
  intro b x t hb e
  change (w.heap.push o)[b]? = _ at e
  rw [Array.getElem?_push] at e
  split at e
  · cases e
    exact ho ⟨_, _, rfl⟩
  · exact h b x t hb e

/-- What does not look at a block but by its cells. -/
def Fr (P : Program) {α : Type} : Sem α → Prop
  | .pure _ => True
  | .load _ _ k => ∀ v, Fr P (k v)
  | .store _ _ _ k => Fr P k
  | .new o k => ((¬ ∃ a t, o = .view a t) ∧ ∀ r, Fr P (k r)) ∨ Nev (.new o k)
  | .choose _ k => ∀ n, Fr P (k n)
  | .program k => Fr P (k P)
  | .mark m k => (Neutral m ∧ Fr P k) ∨ Nev (.mark m k)
  | .halt _ => True
  | .shape r k => Nev (.shape r k)
  | .freeze a n k => Nev (.freeze a n k)
  | .frozen a k => Nev (.frozen a k)
  | .getObj r k => Nev (.getObj r k)
  | .setObj r o k => Nev (.setObj r o k)
  | .sys c k => Nev (.sys c k)

theorem fr_bind {α β : Type} {s : Sem α} {f : α → Sem β} (hs : Fr P s) (hf : ∀ a, Fr P (f a)) : Fr P (s >>= f) := by
  show Fr P (s.bind f)
  induction s with
  | pure a => exact hf a
  | load m a k ih => exact fun v => ih v (hs v)
  | store m a v k ih => exact ih hs
  | new o k ih => exact hs.imp (fun hs => ⟨hs.1, fun v => ih v (hs.2 v)⟩) fun hs => nev_first (s := Sem.new o k) (f := f) hs
  | shape r k ih => exact nev_first (s := Sem.shape r k) (f := f) hs
  | freeze a n k ih => exact nev_first (s := Sem.freeze a n k) (f := f) hs
  | frozen a k ih => exact nev_first (s := Sem.frozen a k) (f := f) hs
  | getObj r k ih => exact nev_first (s := Sem.getObj r k) (f := f) hs
  | setObj r o k ih => exact nev_first (s := Sem.setObj r o k) (f := f) hs
  | choose q k ih => exact fun v => ih v (hs v)
  | sys c k ih => exact nev_first (s := Sem.sys c k) (f := f) hs
  | program k ih => exact ih P hs
  | mark m k ih => exact hs.imp (fun hs => ⟨hs.1, ih hs.2⟩) fun hs => nev_first (s := Sem.mark m k) (f := f) hs
  | halt h => trivial

theorem runT_run {α : Type} {s : Sem α} {w : World} {es : Array Event} : (s.runT P w es).1 = s.run P w := by rw [Sem.runT_eq]

theorem EvT.mono {Q Q' : Nat → Prop} (h : ∀ b, Q b → Q' b) {e : Event} (he : EvT Q e) : EvT Q' e := he.imp (fun ⟨a, x, y⟩ => ⟨a, x, h _ y⟩) id

theorem fr_hide {α : Type} {s : Sem α} (hs : Fr P s) : ∀ {w : World} {es : Array Event} {x : α} {w1 : World} {es1 : Array Event}, (∀ b, H b → b < w.heap.size) → NV H w → s.runT P (hide H w) es = (.ok x w1, es1) →
    ∃ w2, s.runT P w es = (.ok x w2, es1) ∧ NV H w2 ∧ w1 = hide H w2 ∧ Same3 w w2 ∧ w.heap.size ≤ w2.heap.size ∧ (∀ b, H b → w2.heap[b]? = w.heap[b]?) ∧ ∀ e ∈ es1, e ∈ es ∨ EvT (fun b => ¬ H b ∧ b < w2.heap.size) e := by
  have nev : ∀ {s : Sem α}, Nev s → ∀ {w : World} {es : Array Event} {x : α} {w1 : World} {es1 : Array Event}, s.runT P w es ≠ (.ok x w1, es1) := fun h w es x w1 es1 e => nev_run (P := P) h (w := w) (x := x) (w' := w1) (by rw [← runT_run (es := es), e])
  induction s with
  | pure a =>
    intro w es x w1 es1 hH hV e
    simp only [Sem.runT] at e
    cases e
    exact ⟨w, rfl, hV, rfl, .refl _, Nat.le_refl _, fun _ _ => rfl, fun e h => .inl h⟩
  | load m a k ih =>
    intro w es x w1 es1 hH hV e
    simp only [Sem.runT] at e
    split at e
    · rename_i v hv
      obtain ⟨h1, h2, h3⟩ := hide_cell hv
      obtain ⟨w2, r1, rv, r2, r3, r4, r5, r6⟩ := ih v (hs v) hH hV e
      refine ⟨w2, ?_, rv, r2, r3, r4, r5, fun e he => ?_⟩
      · simp only [Sem.runT, h2]; exact r1
      · rcases r6 e he with h | h
        · rcases Array.mem_push.1 h with h | rfl
          · exact .inl h
          · exact .inr (.inl ⟨a, rfl, h1, Nat.lt_of_lt_of_le h3 r4⟩)
        · exact .inr h
    · exfalso
      have : (hide H w).farLoad P a (m == Go.Mode.atomic) = .error ((hide H w).noCell a "load: no such cell") := by
        unfold World.farLoad
        split
        · rename_i h; exact absurd h (hide_noview hV)
        · rfl
      rw [this] at e
      cases e
  | store m a v k ih =>
    intro w es x w1 es1 hH hV e
    by_cases hv : (∃ x, v = .agg x) ∨ ∃ x, v = .tuple x
    · rcases hv with ⟨y, rfl⟩ | ⟨y, rfl⟩ <;> (simp only [Sem.runT] at e; cases e)
    have key : ∀ (w : World), (Sem.store m a v k).runT P w es = match w.cell? a with
        | some _ => if w.frozen? a then (.halt (.unsupported (.unsafePointer "a write to bytes that a string shares")) w, es) else k.runT P (w.setCell a v) (es.push ⟨.cell a, true, m == .atomic⟩)
        | none => match w.farStore P a v (m == Go.Mode.atomic) with
          | .ok (w, touched) => k.runT P w (es ++ touched.toArray.map (⟨.cell ·, true, m == .atomic⟩))
          | .error h => (.halt h w, es) := by
      intro w
      cases v <;> first | exact absurd (.inl ⟨_, rfl⟩) hv | exact absurd (.inr ⟨_, rfl⟩) hv | rfl
    rw [key] at e
    split at e
    · rename_i u hu
      obtain ⟨h1, h2, h3⟩ := hide_cell hu
      rw [hide_frozen h1] at e
      split at e
      · cases e
      · rename_i hf
        rw [hide_set h1] at e
        have hsz : (w.setCell a v).heap.size = w.heap.size := by simp [World.setCell]
        obtain ⟨w2, r1, rv, r2, r3, r4, r5, r6⟩ := ih hs (fun b hb => by rw [hsz]; exact hH b hb) (nv_set hV) e
        refine ⟨w2, ?_, rv, r2, ⟨r3.1, r3.2.1, r3.2.2⟩, by rw [hsz] at r4; exact r4, fun b hb => ?_, fun e he => ?_⟩
        · rw [key, h2]
          simp only [hf]
          exact r1
        · rw [r5 b hb]
          simp only [World.setCell, Array.getElem?_modify]
          rw [if_neg]
          rintro rfl
          exact h1 hb
        · rcases r6 e he with h | h
          · rcases Array.mem_push.1 h with h | rfl
            · exact .inl h
            · exact .inr (.inl ⟨a, rfl, h1, by rw [hsz] at r4; exact Nat.lt_of_lt_of_le h3 r4⟩)
          · exact .inr h
    · exfalso
      have : (hide H w).farStore P a v (m == Go.Mode.atomic) = .error ((hide H w).noCell a "store: no such cell") := by
        unfold World.farStore
        split
        · rename_i h; exact absurd h (hide_noview hV)
        · rfl
      rw [this] at e
      cases e
  | new o k ih =>
    intro w es x w1 es1 hH hV e
    rcases hs with hs | hs
    case inr => exact absurd e (nev hs)
    simp only [Sem.runT] at e
    rw [hide_push hH, hide_size] at e
    obtain ⟨w2, r1, rv, r2, r3, r4, r5, r6⟩ := ih _ (hs.2 _) (fun b hb => by simp; exact Nat.lt_succ_of_lt (hH b hb)) (nv_push hV hs.1) e
    refine ⟨w2, by simp only [Sem.runT]; exact r1, rv, r2, r3, by simp at r4; omega, fun b hb => ?_, r6⟩
    rw [r5 b hb]
    have := hH b hb
    show (w.heap.push o)[b]? = _
    rw [Array.getElem?_push, if_neg (by omega)]
  | shape r k ih => intro w es x w1 es1 hH hV e; exact absurd e (nev hs)
  | freeze a m k ih => intro w es x w1 es1 hH hV e; exact absurd e (nev hs)
  | frozen a k ih => intro w es x w1 es1 hH hV e; exact absurd e (nev hs)
  | getObj r k ih => intro w es x w1 es1 hH hV e; exact absurd e (nev hs)
  | setObj r o k ih => intro w es x w1 es1 hH hV e; exact absurd e (nev hs)
  | sys c k ih => intro w es x w1 es1 hH hV e; exact absurd e (nev hs)
  | choose q k ih =>
    intro w es x w1 es1 hH hV e
    simp only [Sem.runT] at e
    split at e
    · rename_i hq
      obtain ⟨w2, r⟩ := ih _ (hs _) hH hV e
      refine ⟨w2, ?_, r.2⟩
      simp only [Sem.runT, if_pos hq]
      exact r.1
    · rename_i hq
      obtain ⟨w2, r1, r2, r3, r4⟩ := ih _ (hs _) (w := { w with drawn := w.drawn + 1 }) hH hV e
      refine ⟨w2, ?_, r2, r3, r4⟩
      simp only [Sem.runT, if_neg hq]
      exact r1
  | program k ih => intro w es x w1 es1 hH hV e; exact ih P hs hH hV e
  | mark m k ih =>
    intro w es x w1 es1 hH hV e
    rcases hs with hs | hs
    case inr => exact absurd e (nev hs)
    simp only [Sem.runT] at e
    obtain ⟨w2, r1, rv, r2, r3, r4, r5, r6⟩ := ih hs.2 hH hV e
    refine ⟨w2, r1, rv, r2, r3, r4, r5, fun e he => ?_⟩
    rcases r6 e he with h | h
    · rcases Array.mem_push.1 h with h | rfl
      · exact .inl h
      · exact .inr (.inr ⟨m, rfl, hs.1⟩)
    · exact .inr h
  | halt h => intro w es x w1 es1 hH hV e; cases e
end Go.Proofs.Ytnphcnhejgpjgaa.Co
end
section
namespace Go.Proofs.Ytnphcnhejgpjgaa.Co
open Go.Conc
variable {P : Program}
class FrC (P : Program) {α : Type} (s : Sem α) : Prop where
  fr : Fr P s
class NeC {α : Type} (s : Sem α) : Prop where
  ne : Nev s
theorem nev_fr {α : Type} {s : Sem α} (h : Nev s) : Fr P s := by
  induction s with
  | pure a => exact h.elim
  | load m a k ih => exact fun v => ih v (h v)
  | store m a v k ih => exact ih h
  | new o k ih => exact .inr h
  | choose q k ih => exact fun v => ih v (h v)
  | program k ih => exact ih P (h P)
  | mark m k ih => exact .inr h
  | halt hh => trivial
  | _ => exact h
instance {α : Type} (a : α) : FrC P (pure a : Sem α) := ⟨trivial⟩
instance {α : Type} (a : α) : FrC P (Sem.pure a : Sem α) := ⟨trivial⟩
instance {α : Type} (s : String) : FrC P (stuck s : Sem α) := ⟨trivial⟩
instance {α : Type} (u : Unsupported) : FrC P (unsupported u : Sem α) := ⟨trivial⟩
instance {α : Type} (u : Unsupported) : NeC (unsupported u : Sem α) := ⟨trivial⟩
instance {α : Type} (s : String) : NeC (stuck s : Sem α) := ⟨trivial⟩
instance {α : Type} (v : Value) : FrC P (goPanic v : Sem α) := ⟨trivial⟩
instance (a : Addr) (m : Go.Mode) : FrC P (load a m) := ⟨fun _ => trivial⟩
instance (a : Addr) (v : Value) (m : Go.Mode) : FrC P (store a v m) := ⟨trivial⟩
instance (q : Question) : FrC P (choose q) := ⟨fun _ => trivial⟩
instance : FrC P program := ⟨trivial⟩
instance {c : Array Value} {e : TypeId} {z : Nat × Nat} : FrC P (newObj (.cells c e z)) := ⟨.inl ⟨by simp, fun _ => trivial⟩⟩
theorem fr_map {α β : Type} {f : α → β} {s : Sem α} (h : Fr P s) : Fr P (f <$> s) := fr_bind h fun _ => trivial
theorem fr_ite {α : Type} {c : Prop} [Decidable c] {x y : Sem α} (h : Fr P x) (h' : Fr P y) : Fr P (if c then x else y) := by split <;> assumption
theorem fr_list {α β : Type} {f : α → β → Sem (ForInStep β)} (h : ∀ a b, Fr P (f a b)) : ∀ (l : List α) (b : β), Fr P (forIn l b f)
  | [], _ => trivial
  | a :: l, b => by
    rw [List.forIn_cons]
    refine fr_bind (h a b) fun r => ?_
    cases r with
    | done b => trivial
    | yield b => exact fr_list h l b
theorem fr_array {α β : Type} {f : α → β → Sem (ForInStep β)} (h : ∀ a b, Fr P (f a b)) (l : Array α) (b : β) : Fr P (forIn l b f) := by
  rw [← Array.forIn_toList]
  exact fr_list h _ _
theorem fr_range {β : Type} {f : Nat → β → Sem (ForInStep β)} (h : ∀ a b, Fr P (f a b)) (l : Std.Legacy.Range) (b : β) : Fr P (forIn l b f) := by
  rw [Std.Legacy.Range.forIn_eq_forIn_range']
  exact fr_list h _ _
theorem fr_mapMl {α β : Type} {f : α → Sem β} (h : ∀ a, Fr P (f a)) : ∀ (l : List α), Fr P (l.mapM f)
  | [] => by rw [List.mapM_nil]; trivial
  | a :: l => by
    rw [List.mapM_cons]
    exact fr_bind (h a) fun _ => fr_bind (fr_mapMl h l) fun _ => trivial
theorem fr_mapM {α β : Type} {f : α → Sem β} (h : ∀ a, Fr P (f a)) (l : Array α) : Fr P (l.mapM f) := by
  rw [Array.mapM_eq_mapM_toList]
  exact fr_map (fr_mapMl h _)
theorem fr_foldlMl {α β : Type} {f : β → α → Sem β} (h : ∀ b a, Fr P (f b a)) : ∀ (l : List α) (b : β), Fr P (l.foldlM f b)
  | [], b => by rw [List.foldlM_nil]; trivial
  | a :: l, b => by
    rw [List.foldlM_cons]
    exact fr_bind (h b a) fun c => fr_foldlMl h l c
theorem fr_foldlM {α β : Type} {f : β → α → Sem β} (h : ∀ b a, Fr P (f b a)) (l : Array α) (b : β) : Fr P (l.foldlM f b) := by
  rw [← Array.foldlM_toList]
  exact fr_foldlMl h _ _
-- leaves
instance : FrC P (mark .noRoom) := ⟨.inl ⟨rfl, trivial⟩⟩
theorem nev_ite {α : Type} {c : Prop} [Decidable c] {x y : Sem α} (h : Nev x) (h' : Nev y) : Nev (if c then x else y) := by split <;> assumption
instance (n : Nat) : FrC P (askRoom n) := ⟨by unfold askRoom; repeat' (first | exact FrC.fr | assumption | exact True.intro | exact nev_fr NeC.ne | exact nev_fr (nev_bind fun _ => NeC.ne) | exact nev_fr (nev_bind fun _ => nev_bind fun _ => NeC.ne) | exact nev_fr (nev_bind fun _ => nev_ite (nev_bind fun _ => NeC.ne) NeC.ne) | (refine fr_bind ?_ (fun _ => ?_)) | (refine fr_map ?_) | (refine fr_ite ?_ ?_) | (refine fr_array (fun _ _ => ?_) _ _) | (refine fr_range (fun _ _ => ?_) _ _) | (refine fr_list (fun _ _ => ?_) _ _) | (refine fr_mapM (fun _ => ?_) _) | (refine fr_foldlM (fun _ _ => ?_) _ _) | (intro _) | split | (dsimp only))⟩
instance (t : TypeId) : FrC P (typeInfo t) := ⟨by unfold typeInfo; repeat' (first | exact FrC.fr | assumption | exact True.intro | exact nev_fr NeC.ne | exact nev_fr (nev_bind fun _ => NeC.ne) | exact nev_fr (nev_bind fun _ => nev_bind fun _ => NeC.ne) | exact nev_fr (nev_bind fun _ => nev_ite (nev_bind fun _ => NeC.ne) NeC.ne) | (refine fr_bind ?_ (fun _ => ?_)) | (refine fr_map ?_) | (refine fr_ite ?_ ?_) | (refine fr_array (fun _ _ => ?_) _ _) | (refine fr_range (fun _ _ => ?_) _ _) | (refine fr_list (fun _ _ => ?_) _ _) | (refine fr_mapM (fun _ => ?_) _) | (refine fr_foldlM (fun _ _ => ?_) _ _) | (intro _) | split | (dsimp only))⟩
instance (t : TypeId) : FrC P (underlying t) := ⟨by unfold underlying; repeat' (first | exact FrC.fr | assumption | exact True.intro | exact nev_fr NeC.ne | exact nev_fr (nev_bind fun _ => NeC.ne) | exact nev_fr (nev_bind fun _ => nev_bind fun _ => NeC.ne) | exact nev_fr (nev_bind fun _ => nev_ite (nev_bind fun _ => NeC.ne) NeC.ne) | (refine fr_bind ?_ (fun _ => ?_)) | (refine fr_map ?_) | (refine fr_ite ?_ ?_) | (refine fr_array (fun _ _ => ?_) _ _) | (refine fr_range (fun _ _ => ?_) _ _) | (refine fr_list (fun _ _ => ?_) _ _) | (refine fr_mapM (fun _ => ?_) _) | (refine fr_foldlM (fun _ _ => ?_) _ _) | (intro _) | split | (dsimp only))⟩
instance (t : TypeId) : FrC P (zeroValue t) := ⟨by unfold zeroValue; repeat' (first | exact FrC.fr | assumption | exact True.intro | exact nev_fr NeC.ne | exact nev_fr (nev_bind fun _ => NeC.ne) | exact nev_fr (nev_bind fun _ => nev_bind fun _ => NeC.ne) | exact nev_fr (nev_bind fun _ => nev_ite (nev_bind fun _ => NeC.ne) NeC.ne) | (refine fr_bind ?_ (fun _ => ?_)) | (refine fr_map ?_) | (refine fr_ite ?_ ?_) | (refine fr_array (fun _ _ => ?_) _ _) | (refine fr_range (fun _ _ => ?_) _ _) | (refine fr_list (fun _ _ => ?_) _ _) | (refine fr_mapM (fun _ => ?_) _) | (refine fr_foldlM (fun _ _ => ?_) _ _) | (intro _) | split | (dsimp only))⟩
instance (t : TypeId) : FrC P (sizeOf t) := ⟨by unfold sizeOf; repeat' (first | exact FrC.fr | assumption | exact True.intro | exact nev_fr NeC.ne | exact nev_fr (nev_bind fun _ => NeC.ne) | exact nev_fr (nev_bind fun _ => nev_bind fun _ => NeC.ne) | exact nev_fr (nev_bind fun _ => nev_ite (nev_bind fun _ => NeC.ne) NeC.ne) | (refine fr_bind ?_ (fun _ => ?_)) | (refine fr_map ?_) | (refine fr_ite ?_ ?_) | (refine fr_array (fun _ _ => ?_) _ _) | (refine fr_range (fun _ _ => ?_) _ _) | (refine fr_list (fun _ _ => ?_) _ _) | (refine fr_mapM (fun _ => ?_) _) | (refine fr_foldlM (fun _ _ => ?_) _ _) | (intro _) | split | (dsimp only))⟩
instance (t : TypeId) : FrC P (isAgg t) := ⟨by unfold isAgg; repeat' (first | exact FrC.fr | assumption | exact True.intro | exact nev_fr NeC.ne | exact nev_fr (nev_bind fun _ => NeC.ne) | exact nev_fr (nev_bind fun _ => nev_bind fun _ => NeC.ne) | exact nev_fr (nev_bind fun _ => nev_ite (nev_bind fun _ => NeC.ne) NeC.ne) | (refine fr_bind ?_ (fun _ => ?_)) | (refine fr_map ?_) | (refine fr_ite ?_ ?_) | (refine fr_array (fun _ _ => ?_) _ _) | (refine fr_range (fun _ _ => ?_) _ _) | (refine fr_list (fun _ _ => ?_) _ _) | (refine fr_mapM (fun _ => ?_) _) | (refine fr_foldlM (fun _ _ => ?_) _ _) | (intro _) | split | (dsimp only))⟩
theorem fr_loadCellsFrom (a : Addr) : ∀ (n i : Nat) (acc : Array Value), Fr P (loadCellsFrom a i n acc)
  | 0, _, _ => trivial
  | n + 1, i, acc => by
    unfold loadCellsFrom
    exact fr_bind FrC.fr fun _ => fr_loadCellsFrom a n _ _
instance (a : Addr) (n : Nat) : FrC P (loadCells a n) := ⟨fr_loadCellsFrom a n _ _⟩
theorem fr_storeCells (a : Addr) : ∀ (vs : List Value) (i : Nat), Fr P (storeCells a vs i)
  | [], _ => trivial
  | v :: vs, i => by
    unfold storeCells
    exact fr_bind FrC.fr fun _ => fr_storeCells a vs _
instance (a : Addr) (vs : List Value) (i : Nat) : FrC P (storeCells a vs i) := ⟨fr_storeCells a vs i⟩
instance (t : TypeId) (a : Addr) : FrC P (loadVar t a) := ⟨by unfold loadVar; repeat' (first | exact FrC.fr | assumption | exact True.intro | exact nev_fr NeC.ne | exact nev_fr (nev_bind fun _ => NeC.ne) | exact nev_fr (nev_bind fun _ => nev_bind fun _ => NeC.ne) | exact nev_fr (nev_bind fun _ => nev_ite (nev_bind fun _ => NeC.ne) NeC.ne) | (refine fr_bind ?_ (fun _ => ?_)) | (refine fr_map ?_) | (refine fr_ite ?_ ?_) | (refine fr_array (fun _ _ => ?_) _ _) | (refine fr_range (fun _ _ => ?_) _ _) | (refine fr_list (fun _ _ => ?_) _ _) | (refine fr_mapM (fun _ => ?_) _) | (refine fr_foldlM (fun _ _ => ?_) _ _) | (intro _) | split | (dsimp only))⟩
instance (t : TypeId) (a : Addr) (v : Value) : FrC P (storeVar t a v) := ⟨by unfold storeVar; repeat' (first | exact FrC.fr | assumption | exact True.intro | exact nev_fr NeC.ne | exact nev_fr (nev_bind fun _ => NeC.ne) | exact nev_fr (nev_bind fun _ => nev_bind fun _ => NeC.ne) | exact nev_fr (nev_bind fun _ => nev_ite (nev_bind fun _ => NeC.ne) NeC.ne) | (refine fr_bind ?_ (fun _ => ?_)) | (refine fr_map ?_) | (refine fr_ite ?_ ?_) | (refine fr_array (fun _ _ => ?_) _ _) | (refine fr_range (fun _ _ => ?_) _ _) | (refine fr_list (fun _ _ => ?_) _ _) | (refine fr_mapM (fun _ => ?_) _) | (refine fr_foldlM (fun _ _ => ?_) _ _) | (intro _) | split | (dsimp only))⟩
instance (t : TypeId) (c : Array Value) : FrC P (newRow t c) := ⟨by unfold newRow; repeat' (first | exact FrC.fr | assumption | exact True.intro | exact nev_fr NeC.ne | exact nev_fr (nev_bind fun _ => NeC.ne) | exact nev_fr (nev_bind fun _ => nev_bind fun _ => NeC.ne) | exact nev_fr (nev_bind fun _ => nev_ite (nev_bind fun _ => NeC.ne) NeC.ne) | (refine fr_bind ?_ (fun _ => ?_)) | (refine fr_map ?_) | (refine fr_ite ?_ ?_) | (refine fr_array (fun _ _ => ?_) _ _) | (refine fr_range (fun _ _ => ?_) _ _) | (refine fr_list (fun _ _ => ?_) _ _) | (refine fr_mapM (fun _ => ?_) _) | (refine fr_foldlM (fun _ _ => ?_) _ _) | (intro _) | split | (dsimp only))⟩
instance (t : TypeId) (c : Value) : FrC P (newVar t c) := ⟨by unfold newVar; repeat' (first | exact FrC.fr | assumption | exact True.intro | exact nev_fr NeC.ne | exact nev_fr (nev_bind fun _ => NeC.ne) | exact nev_fr (nev_bind fun _ => nev_bind fun _ => NeC.ne) | exact nev_fr (nev_bind fun _ => nev_ite (nev_bind fun _ => NeC.ne) NeC.ne) | (refine fr_bind ?_ (fun _ => ?_)) | (refine fr_map ?_) | (refine fr_ite ?_ ?_) | (refine fr_array (fun _ _ => ?_) _ _) | (refine fr_range (fun _ _ => ?_) _ _) | (refine fr_list (fun _ _ => ?_) _ _) | (refine fr_mapM (fun _ => ?_) _) | (refine fr_foldlM (fun _ _ => ?_) _ _) | (intro _) | split | (dsimp only))⟩
instance (t : TypeId) (cs : Array Value) (off : Nat) : FrC P (part t cs off) := ⟨by unfold part; repeat' (first | exact FrC.fr | assumption | exact True.intro | exact nev_fr NeC.ne | exact nev_fr (nev_bind fun _ => NeC.ne) | exact nev_fr (nev_bind fun _ => nev_bind fun _ => NeC.ne) | exact nev_fr (nev_bind fun _ => nev_ite (nev_bind fun _ => NeC.ne) NeC.ne) | (refine fr_bind ?_ (fun _ => ?_)) | (refine fr_map ?_) | (refine fr_ite ?_ ?_) | (refine fr_array (fun _ _ => ?_) _ _) | (refine fr_range (fun _ _ => ?_) _ _) | (refine fr_list (fun _ _ => ?_) _ _) | (refine fr_mapM (fun _ => ?_) _) | (refine fr_foldlM (fun _ _ => ?_) _ _) | (intro _) | split | (dsimp only))⟩
theorem nev_ask {α : Type} {k : Program → Sem α} (h : ∀ P, Nev (k P)) : Nev (program >>= k) := h
instance {α : Type} (e : RuntimeError) : NeC (runtimePanic e : Sem α) := ⟨by unfold runtimePanic; repeat' (first | exact trivial | exact NeC.ne | (refine nev_bind (fun _ => ?_)) | intro _ | split)⟩
instance {α : Type} (v : Value) : NeC (goPanic v : Sem α) := ⟨trivial⟩
instance {α : Type} (k : IntKind) (x y : Int) (c : BoundsCode) : NeC (boundsPanic k x y c : Sem α) := ⟨by unfold boundsPanic; repeat' (first | exact trivial | exact NeC.ne | (refine nev_bind (fun _ => ?_)) | intro _ | split)⟩
instance (v : Value) : FrC P (asIntOf v) := ⟨by unfold asIntOf; repeat' (first | exact FrC.fr | assumption | exact True.intro | exact nev_fr NeC.ne | exact nev_fr (nev_bind fun _ => NeC.ne) | exact nev_fr (nev_bind fun _ => nev_bind fun _ => NeC.ne) | exact nev_fr (nev_bind fun _ => nev_ite (nev_bind fun _ => NeC.ne) NeC.ne) | (refine fr_bind ?_ (fun _ => ?_)) | (refine fr_map ?_) | (refine fr_ite ?_ ?_) | (refine fr_array (fun _ _ => ?_) _ _) | (refine fr_range (fun _ _ => ?_) _ _) | (refine fr_list (fun _ _ => ?_) _ _) | (refine fr_mapM (fun _ => ?_) _) | (refine fr_foldlM (fun _ _ => ?_) _ _) | (intro _) | split | (dsimp only))⟩
instance (v : Value) : FrC P (asInt v) := ⟨by unfold asInt; repeat' (first | exact FrC.fr | assumption | exact True.intro | exact nev_fr NeC.ne | exact nev_fr (nev_bind fun _ => NeC.ne) | exact nev_fr (nev_bind fun _ => nev_bind fun _ => NeC.ne) | exact nev_fr (nev_bind fun _ => nev_ite (nev_bind fun _ => NeC.ne) NeC.ne) | (refine fr_bind ?_ (fun _ => ?_)) | (refine fr_map ?_) | (refine fr_ite ?_ ?_) | (refine fr_array (fun _ _ => ?_) _ _) | (refine fr_range (fun _ _ => ?_) _ _) | (refine fr_list (fun _ _ => ?_) _ _) | (refine fr_mapM (fun _ => ?_) _) | (refine fr_foldlM (fun _ _ => ?_) _ _) | (intro _) | split | (dsimp only))⟩
instance (v : Value) : FrC P (asBool v) := ⟨by unfold asBool; repeat' (first | exact FrC.fr | assumption | exact True.intro | exact nev_fr NeC.ne | exact nev_fr (nev_bind fun _ => NeC.ne) | exact nev_fr (nev_bind fun _ => nev_bind fun _ => NeC.ne) | exact nev_fr (nev_bind fun _ => nev_ite (nev_bind fun _ => NeC.ne) NeC.ne) | (refine fr_bind ?_ (fun _ => ?_)) | (refine fr_map ?_) | (refine fr_ite ?_ ?_) | (refine fr_array (fun _ _ => ?_) _ _) | (refine fr_range (fun _ _ => ?_) _ _) | (refine fr_list (fun _ _ => ?_) _ _) | (refine fr_mapM (fun _ => ?_) _) | (refine fr_foldlM (fun _ _ => ?_) _ _) | (intro _) | split | (dsimp only))⟩
instance (v : Value) : FrC P (asAgg v) := ⟨by unfold asAgg; repeat' (first | exact FrC.fr | assumption | exact True.intro | exact nev_fr NeC.ne | exact nev_fr (nev_bind fun _ => NeC.ne) | exact nev_fr (nev_bind fun _ => nev_bind fun _ => NeC.ne) | exact nev_fr (nev_bind fun _ => nev_ite (nev_bind fun _ => NeC.ne) NeC.ne) | (refine fr_bind ?_ (fun _ => ?_)) | (refine fr_map ?_) | (refine fr_ite ?_ ?_) | (refine fr_array (fun _ _ => ?_) _ _) | (refine fr_range (fun _ _ => ?_) _ _) | (refine fr_list (fun _ _ => ?_) _ _) | (refine fr_mapM (fun _ => ?_) _) | (refine fr_foldlM (fun _ _ => ?_) _ _) | (intro _) | split | (dsimp only))⟩
instance (v : Value) : FrC P (asAddr v) := ⟨by unfold asAddr; repeat' (first | exact FrC.fr | assumption | exact True.intro | exact nev_fr NeC.ne | exact nev_fr (nev_bind fun _ => NeC.ne) | exact nev_fr (nev_bind fun _ => nev_bind fun _ => NeC.ne) | exact nev_fr (nev_bind fun _ => nev_ite (nev_bind fun _ => NeC.ne) NeC.ne) | (refine fr_bind ?_ (fun _ => ?_)) | (refine fr_map ?_) | (refine fr_ite ?_ ?_) | (refine fr_array (fun _ _ => ?_) _ _) | (refine fr_range (fun _ _ => ?_) _ _) | (refine fr_list (fun _ _ => ?_) _ _) | (refine fr_mapM (fun _ => ?_) _) | (refine fr_foldlM (fun _ _ => ?_) _ _) | (intro _) | split | (dsimp only))⟩
instance (v : Value) : FrC P (Instr.sureAddr v) := ⟨by unfold Instr.sureAddr; repeat' (first | exact FrC.fr | assumption | exact True.intro | exact nev_fr NeC.ne | exact nev_fr (nev_bind fun _ => NeC.ne) | exact nev_fr (nev_bind fun _ => nev_bind fun _ => NeC.ne) | exact nev_fr (nev_bind fun _ => nev_ite (nev_bind fun _ => NeC.ne) NeC.ne) | (refine fr_bind ?_ (fun _ => ?_)) | (refine fr_map ?_) | (refine fr_ite ?_ ?_) | (refine fr_array (fun _ _ => ?_) _ _) | (refine fr_range (fun _ _ => ?_) _ _) | (refine fr_list (fun _ _ => ?_) _ _) | (refine fr_mapM (fun _ => ?_) _) | (refine fr_foldlM (fun _ _ => ?_) _ _) | (intro _) | split | (dsimp only))⟩
instance (e : TypeId) (b : Bool) (o : Value) : FrC P (Instr.alloc e b o) := ⟨by unfold Instr.alloc; repeat' (first | exact FrC.fr | assumption | exact True.intro | exact nev_fr NeC.ne | exact nev_fr (nev_bind fun _ => NeC.ne) | exact nev_fr (nev_bind fun _ => nev_bind fun _ => NeC.ne) | exact nev_fr (nev_bind fun _ => nev_ite (nev_bind fun _ => NeC.ne) NeC.ne) | (refine fr_bind ?_ (fun _ => ?_)) | (refine fr_map ?_) | (refine fr_ite ?_ ?_) | (refine fr_array (fun _ _ => ?_) _ _) | (refine fr_range (fun _ _ => ?_) _ _) | (refine fr_list (fun _ _ => ?_) _ _) | (refine fr_mapM (fun _ => ?_) _) | (refine fr_foldlM (fun _ _ => ?_) _ _) | (intro _) | split | (dsimp only))⟩
instance (e : TypeId) (o : Value) : FrC P (Instr.box e o) := ⟨by unfold Instr.box; repeat' (first | exact FrC.fr | assumption | exact True.intro | exact nev_fr NeC.ne | exact nev_fr (nev_bind fun _ => NeC.ne) | exact nev_fr (nev_bind fun _ => nev_bind fun _ => NeC.ne) | exact nev_fr (nev_bind fun _ => nev_ite (nev_bind fun _ => NeC.ne) NeC.ne) | (refine fr_bind ?_ (fun _ => ?_)) | (refine fr_map ?_) | (refine fr_ite ?_ ?_) | (refine fr_array (fun _ _ => ?_) _ _) | (refine fr_range (fun _ _ => ?_) _ _) | (refine fr_list (fun _ _ => ?_) _ _) | (refine fr_mapM (fun _ => ?_) _) | (refine fr_foldlM (fun _ _ => ?_) _ _) | (intro _) | split | (dsimp only))⟩
instance (e : TypeId) (o : Array (Nat × Value)) : FrC P (Instr.build e o) := ⟨by unfold Instr.build; repeat' (first | exact FrC.fr | assumption | exact True.intro | exact nev_fr NeC.ne | exact nev_fr (nev_bind fun _ => NeC.ne) | exact nev_fr (nev_bind fun _ => nev_bind fun _ => NeC.ne) | exact nev_fr (nev_bind fun _ => nev_ite (nev_bind fun _ => NeC.ne) NeC.ne) | (refine fr_bind ?_ (fun _ => ?_)) | (refine fr_map ?_) | (refine fr_ite ?_ ?_) | (refine fr_array (fun _ _ => ?_) _ _) | (refine fr_range (fun _ _ => ?_) _ _) | (refine fr_list (fun _ _ => ?_) _ _) | (refine fr_mapM (fun _ => ?_) _) | (refine fr_foldlM (fun _ _ => ?_) _ _) | (intro _) | split | (dsimp only))⟩
instance (e : TypeId) (n : Nat) (o : Array (Nat × Value)) : FrC P (Instr.buildSlice e n o) := ⟨by unfold Instr.buildSlice; repeat' (first | exact FrC.fr | assumption | exact True.intro | exact nev_fr NeC.ne | exact nev_fr (nev_bind fun _ => NeC.ne) | exact nev_fr (nev_bind fun _ => nev_bind fun _ => NeC.ne) | exact nev_fr (nev_bind fun _ => nev_ite (nev_bind fun _ => NeC.ne) NeC.ne) | (refine fr_bind ?_ (fun _ => ?_)) | (refine fr_map ?_) | (refine fr_ite ?_ ?_) | (refine fr_array (fun _ _ => ?_) _ _) | (refine fr_range (fun _ _ => ?_) _ _) | (refine fr_list (fun _ _ => ?_) _ _) | (refine fr_mapM (fun _ => ?_) _) | (refine fr_foldlM (fun _ _ => ?_) _ _) | (intro _) | split | (dsimp only))⟩
instance (t : TypeId) (v : Value) : FrC P (Instr.loadAt t v) := ⟨by unfold Instr.loadAt; repeat' (first | exact FrC.fr | assumption | exact True.intro | exact nev_fr NeC.ne | exact nev_fr (nev_bind fun _ => NeC.ne) | exact nev_fr (nev_bind fun _ => nev_bind fun _ => NeC.ne) | exact nev_fr (nev_bind fun _ => nev_ite (nev_bind fun _ => NeC.ne) NeC.ne) | (refine fr_bind ?_ (fun _ => ?_)) | (refine fr_map ?_) | (refine fr_ite ?_ ?_) | (refine fr_array (fun _ _ => ?_) _ _) | (refine fr_range (fun _ _ => ?_) _ _) | (refine fr_list (fun _ _ => ?_) _ _) | (refine fr_mapM (fun _ => ?_) _) | (refine fr_foldlM (fun _ _ => ?_) _ _) | (intro _) | split | (dsimp only))⟩
instance (t : TypeId) (v u : Value) : FrC P (Instr.storeAt t v u) := ⟨by unfold Instr.storeAt; repeat' (first | exact FrC.fr | assumption | exact True.intro | exact nev_fr NeC.ne | exact nev_fr (nev_bind fun _ => NeC.ne) | exact nev_fr (nev_bind fun _ => nev_bind fun _ => NeC.ne) | exact nev_fr (nev_bind fun _ => nev_ite (nev_bind fun _ => NeC.ne) NeC.ne) | (refine fr_bind ?_ (fun _ => ?_)) | (refine fr_map ?_) | (refine fr_ite ?_ ?_) | (refine fr_array (fun _ _ => ?_) _ _) | (refine fr_range (fun _ _ => ?_) _ _) | (refine fr_list (fun _ _ => ?_) _ _) | (refine fr_mapM (fun _ => ?_) _) | (refine fr_foldlM (fun _ _ => ?_) _ _) | (intro _) | split | (dsimp only))⟩
instance (t : TypeId) (v : Value) (f : Nat) : FrC P (Instr.field t v f) := ⟨by unfold Instr.field; repeat' (first | exact FrC.fr | assumption | exact True.intro | exact nev_fr NeC.ne | exact nev_fr (nev_bind fun _ => NeC.ne) | exact nev_fr (nev_bind fun _ => nev_bind fun _ => NeC.ne) | exact nev_fr (nev_bind fun _ => nev_ite (nev_bind fun _ => NeC.ne) NeC.ne) | (refine fr_bind ?_ (fun _ => ?_)) | (refine fr_map ?_) | (refine fr_ite ?_ ?_) | (refine fr_array (fun _ _ => ?_) _ _) | (refine fr_range (fun _ _ => ?_) _ _) | (refine fr_list (fun _ _ => ?_) _ _) | (refine fr_mapM (fun _ => ?_) _) | (refine fr_foldlM (fun _ _ => ?_) _ _) | (intro _) | split | (dsimp only))⟩
instance (t : TypeId) (v u : Value) : FrC P (Instr.indexAt t v u) := ⟨by unfold Instr.indexAt; repeat' (first | exact FrC.fr | assumption | exact True.intro | exact nev_fr NeC.ne | exact nev_fr (nev_bind fun _ => NeC.ne) | exact nev_fr (nev_bind fun _ => nev_bind fun _ => NeC.ne) | exact nev_fr (nev_bind fun _ => nev_ite (nev_bind fun _ => NeC.ne) NeC.ne) | (refine fr_bind ?_ (fun _ => ?_)) | (refine fr_map ?_) | (refine fr_ite ?_ ?_) | (refine fr_array (fun _ _ => ?_) _ _) | (refine fr_range (fun _ _ => ?_) _ _) | (refine fr_list (fun _ _ => ?_) _ _) | (refine fr_mapM (fun _ => ?_) _) | (refine fr_foldlM (fun _ _ => ?_) _ _) | (intro _) | split | (dsimp only))⟩
instance (v : Value) (f : Nat) : FrC P (Instr.extract v f) := ⟨by unfold Instr.extract; repeat' (first | exact FrC.fr | assumption | exact True.intro | exact nev_fr NeC.ne | exact nev_fr (nev_bind fun _ => NeC.ne) | exact nev_fr (nev_bind fun _ => nev_bind fun _ => NeC.ne) | exact nev_fr (nev_bind fun _ => nev_ite (nev_bind fun _ => NeC.ne) NeC.ne) | (refine fr_bind ?_ (fun _ => ?_)) | (refine fr_map ?_) | (refine fr_ite ?_ ?_) | (refine fr_array (fun _ _ => ?_) _ _) | (refine fr_range (fun _ _ => ?_) _ _) | (refine fr_list (fun _ _ => ?_) _ _) | (refine fr_mapM (fun _ => ?_) _) | (refine fr_foldlM (fun _ _ => ?_) _ _) | (intro _) | split | (dsimp only))⟩
instance (v : Value) : FrC P (Builtin.lenOf v) := ⟨by unfold Builtin.lenOf; repeat' (first | exact FrC.fr | assumption | exact True.intro | exact nev_fr NeC.ne | exact nev_fr (nev_bind fun _ => NeC.ne) | exact nev_fr (nev_bind fun _ => nev_bind fun _ => NeC.ne) | exact nev_fr (nev_bind fun _ => nev_ite (nev_bind fun _ => NeC.ne) NeC.ne) | (refine fr_bind ?_ (fun _ => ?_)) | (refine fr_map ?_) | (refine fr_ite ?_ ?_) | (refine fr_array (fun _ _ => ?_) _ _) | (refine fr_range (fun _ _ => ?_) _ _) | (refine fr_list (fun _ _ => ?_) _ _) | (refine fr_mapM (fun _ => ?_) _) | (refine fr_foldlM (fun _ _ => ?_) _ _) | (intro _) | split | (dsimp only))⟩
instance (a n : Nat) (v : Value) : FrC P (Builtin.firstCells a n v) := ⟨by unfold Builtin.firstCells; repeat' (first | exact FrC.fr | assumption | exact True.intro | exact nev_fr NeC.ne | exact nev_fr (nev_bind fun _ => NeC.ne) | exact nev_fr (nev_bind fun _ => nev_bind fun _ => NeC.ne) | exact nev_fr (nev_bind fun _ => nev_ite (nev_bind fun _ => NeC.ne) NeC.ne) | (refine fr_bind ?_ (fun _ => ?_)) | (refine fr_map ?_) | (refine fr_ite ?_ ?_) | (refine fr_array (fun _ _ => ?_) _ _) | (refine fr_range (fun _ _ => ?_) _ _) | (refine fr_list (fun _ _ => ?_) _ _) | (refine fr_mapM (fun _ => ?_) _) | (refine fr_foldlM (fun _ _ => ?_) _ _) | (intro _) | split | (dsimp only))⟩
set_option maxHeartbeats 4000000 in
instance (a : Array TypeId) (t : TypeId) (b : Array Value) : FrC P (Builtin.append_ a t b) := ⟨by unfold Builtin.append_; repeat' (first | exact FrC.fr | assumption | exact True.intro | exact nev_fr NeC.ne | exact nev_fr (nev_bind fun _ => NeC.ne) | exact nev_fr (nev_bind fun _ => nev_bind fun _ => NeC.ne) | exact nev_fr (nev_bind fun _ => nev_ite (nev_bind fun _ => NeC.ne) NeC.ne) | (refine fr_bind ?_ (fun _ => ?_)) | (refine fr_map ?_) | (refine fr_ite ?_ ?_) | (refine fr_array (fun _ _ => ?_) _ _) | (refine fr_range (fun _ _ => ?_) _ _) | (refine fr_list (fun _ _ => ?_) _ _) | (refine fr_mapM (fun _ => ?_) _) | (refine fr_foldlM (fun _ _ => ?_) _ _) | (intro _) | split | (dsimp only))⟩
instance (op : BinOp) (k : IntKind) (x y : Int) : FrC P (Op.intArith op k x y) := ⟨by unfold Op.intArith; repeat' (first | exact FrC.fr | assumption | exact True.intro | exact nev_fr NeC.ne | exact nev_fr (nev_bind fun _ => NeC.ne) | exact nev_fr (nev_bind fun _ => nev_bind fun _ => NeC.ne) | exact nev_fr (nev_bind fun _ => nev_ite (nev_bind fun _ => NeC.ne) NeC.ne) | (refine fr_bind ?_ (fun _ => ?_)) | (refine fr_map ?_) | (refine fr_ite ?_ ?_) | (refine fr_array (fun _ _ => ?_) _ _) | (refine fr_range (fun _ _ => ?_) _ _) | (refine fr_list (fun _ _ => ?_) _ _) | (refine fr_mapM (fun _ => ?_) _) | (refine fr_foldlM (fun _ _ => ?_) _ _) | (intro _) | split | (dsimp only))⟩
instance (op : BinOp) (k : IntKind) (x y : Int) : FrC P (Op.intDiv op k x y) := ⟨by unfold Op.intDiv; repeat' (first | exact FrC.fr | assumption | exact True.intro | exact nev_fr NeC.ne | exact nev_fr (nev_bind fun _ => NeC.ne) | exact nev_fr (nev_bind fun _ => nev_bind fun _ => NeC.ne) | exact nev_fr (nev_bind fun _ => nev_ite (nev_bind fun _ => NeC.ne) NeC.ne) | (refine fr_bind ?_ (fun _ => ?_)) | (refine fr_map ?_) | (refine fr_ite ?_ ?_) | (refine fr_array (fun _ _ => ?_) _ _) | (refine fr_range (fun _ _ => ?_) _ _) | (refine fr_list (fun _ _ => ?_) _ _) | (refine fr_mapM (fun _ => ?_) _) | (refine fr_foldlM (fun _ _ => ?_) _ _) | (intro _) | split | (dsimp only))⟩
instance (op : BinOp) (k : IntKind) (x y : Int) : FrC P (Op.intBits op k x y) := ⟨by unfold Op.intBits; repeat' (first | exact FrC.fr | assumption | exact True.intro | exact nev_fr NeC.ne | exact nev_fr (nev_bind fun _ => NeC.ne) | exact nev_fr (nev_bind fun _ => nev_bind fun _ => NeC.ne) | exact nev_fr (nev_bind fun _ => nev_ite (nev_bind fun _ => NeC.ne) NeC.ne) | (refine fr_bind ?_ (fun _ => ?_)) | (refine fr_map ?_) | (refine fr_ite ?_ ?_) | (refine fr_array (fun _ _ => ?_) _ _) | (refine fr_range (fun _ _ => ?_) _ _) | (refine fr_list (fun _ _ => ?_) _ _) | (refine fr_mapM (fun _ => ?_) _) | (refine fr_foldlM (fun _ _ => ?_) _ _) | (intro _) | split | (dsimp only))⟩
instance (op : BinOp) (k yk : IntKind) (x y : Int) : FrC P (Op.shift op k x yk y) := ⟨by unfold Op.shift; repeat' (first | exact FrC.fr | assumption | exact True.intro | exact nev_fr NeC.ne | exact nev_fr (nev_bind fun _ => NeC.ne) | exact nev_fr (nev_bind fun _ => nev_bind fun _ => NeC.ne) | exact nev_fr (nev_bind fun _ => nev_ite (nev_bind fun _ => NeC.ne) NeC.ne) | (refine fr_bind ?_ (fun _ => ?_)) | (refine fr_map ?_) | (refine fr_ite ?_ ?_) | (refine fr_array (fun _ _ => ?_) _ _) | (refine fr_range (fun _ _ => ?_) _ _) | (refine fr_list (fun _ _ => ?_) _ _) | (refine fr_mapM (fun _ => ?_) _) | (refine fr_foldlM (fun _ _ => ?_) _ _) | (intro _) | split | (dsimp only))⟩
instance (op : BinOp) (x y : Int) : FrC P (Op.intCmp op x y) := ⟨by unfold Op.intCmp; repeat' (first | exact FrC.fr | assumption | exact True.intro | exact nev_fr NeC.ne | exact nev_fr (nev_bind fun _ => NeC.ne) | exact nev_fr (nev_bind fun _ => nev_bind fun _ => NeC.ne) | exact nev_fr (nev_bind fun _ => nev_ite (nev_bind fun _ => NeC.ne) NeC.ne) | (refine fr_bind ?_ (fun _ => ?_)) | (refine fr_map ?_) | (refine fr_ite ?_ ?_) | (refine fr_array (fun _ _ => ?_) _ _) | (refine fr_range (fun _ _ => ?_) _ _) | (refine fr_list (fun _ _ => ?_) _ _) | (refine fr_mapM (fun _ => ?_) _) | (refine fr_foldlM (fun _ _ => ?_) _ _) | (intro _) | split | (dsimp only))⟩
theorem fr_und {α : Type} {t : TypeId} {d : TypeDesc} {f : TypeDesc → Sem α} (h : P.underlying t = some d) (k : Fr P (f d)) : Fr P (underlying t >>= f) := by
  have e : Fr P ((match P.underlying t with | some d => (pure d : Sem TypeDesc) | none => stuck "no such type") >>= f) := by rw [h]; exact k
  exact e
theorem fr_siz {α : Type} {t : TypeId} {i : TypeInfo} {f : Nat → Sem α} (h : P.info? t = some i) (k : Fr P (f i.size)) : Fr P (sizeOf t >>= f) := by
  have e : Fr P (((match P.info? t with | some d => (pure d : Sem TypeInfo) | none => stuck "no such type") >>= fun i => pure i.size) >>= f) := by rw [h]; exact k
  exact e
/-- Of no size is no field that is asked for. -/
def fldOk (P : Program) (s f : Nat) : Bool := match P.underlying s with
  | some (.struct fs) => match fs[f]? with
    | some fl => match P.info? fl.type with
      | some i => i.size != 0
      | none => false
    | none => false
  | _ => false
theorem fr_fieldAt {s f : Nat} (v : Value) (h : fldOk P s f = true) : Fr P (Instr.fieldAt s v f) := by
  unfold fldOk at h
  split at h
  · rename_i fs hu
    split at h
    · rename_i fl hf
      split at h
      · rename_i i hi
        unfold Instr.fieldAt
        refine fr_und hu ?_
        dsimp only
        rw [hf]
        dsimp only
        refine fr_bind FrC.fr fun a => ?_
        refine fr_bind ?_ fun _ => trivial
        unfold fieldPlace
        refine fr_siz hi ?_
        rw [if_neg (by simpa using h)]
        trivial
      · cases h
    · cases h
  · cases h
def lenOk (P : Program) (t : TypeId) : Bool := match P.underlying t with
  | some (.slice _) => true
  | _ => false
theorem fr_len {ats : Array TypeId} {t : TypeId} {b : Array Value} (h : lenOk P (ats.getD 0 0) = true) : Fr P (Builtin.len_ ats t b) := by
  unfold lenOk at h
  split at h
  · rename_i e hu
    unfold Builtin.len_
    cases h0 : ats[0]? with
    | none => trivial
    | some t0 =>
      cases h1 : b[0]? with
      | none => trivial
      | some x =>
        have : ats.getD 0 0 = t0 := by simp [Array.getD_eq_getD_getElem?, h0]
        rw [this] at hu
        dsimp only
        refine fr_und hu ?_
        cases x <;> trivial
  · cases h
def frOp (P : Program) : Op → Bool
  | .move _ | .assign _ | .alloc _ | .box .. | .build .. | .buildSlice .. | .load .. | .store .. | .indexAddr .. | .extract .. => true
  | .fieldAddr s _ f => fldOk P s f
  | .call { callee := .builtin .append, .. } => true
  | .call { callee := .builtin .len, argTypes := ats, .. } => lenOk P (ats.getD 0 0)
  | _ => false
/-- The operation looks at blocks but by their cells. -/
def Bq (P : Program) (op : Op) (a : Act) : Prop := frOp P op = true ∨ (∃ b t x y u k n m, op = .binOp b t x y u ∧ a.eval x = .int k n ∧ a.eval y = .int k m) ∨ (∃ f as ats fn, op = .call ⟨.value (.func f), as, ats⟩ ∧ P.funcs[f]? = some fn ∧ (fn.name == "runtime.NumGoroutine") = false ∧ fn.body.isNone = false)
theorem fr_ask {α : Type} {k : Program → Sem α} (h : Fr P (k P)) : Fr P (program >>= k) := h
theorem fr_v {s : Sem Value} (h : Fr P s) : Fr P (do pure (Next.value (← s)) : Sem Next) := fr_bind h fun _ => trivial
theorem fr_u {s : Sem Unit} (h : Fr P s) : Fr P (do s; pure Next.skip : Sem Next) := fr_bind h fun _ => trivial
theorem fr_exec {o : Oper} {a : Act} (h : Bq P o.op a) : Fr P (execOp a.eval o) := by
  obtain ⟨dst, op, ty, pos, edges, lhs⟩ := o
  rcases h with h | ⟨b, t, x, y, u, k, n, m, rfl, hx, hy⟩ | ⟨f, as, ats, fn, rfl, h1, h2, h3⟩
  · cases op
    case move x => exact trivial
    case assign x => exact trivial
    case alloc e => exact (fr_v FrC.fr)
    case box e x => exact (fr_v FrC.fr)
    case build t ps => exact (fr_v FrC.fr)
    case buildSlice t n ps => exact (fr_v FrC.fr)
    case load t x => exact (fr_v FrC.fr)
    case store t x y => exact (fr_u FrC.fr)
    case indexAddr t x i => exact (fr_v FrC.fr)
    case extract x i => exact (fr_v FrC.fr)
    case fieldAddr t x f => exact (fr_v (fr_fieldAt _ h))
    case call c =>
      obtain ⟨cal, as, ats⟩ := c
      cases cal with
      | builtin b =>
        cases b
        case append => exact fr_v FrC.fr
        case len => exact fr_v (fr_len h)
        all_goals cases h
      | value x => cases h
      | invoke r n => cases h
    all_goals cases h
  · unfold execOp
    dsimp only
    rw [hx, hy]
    refine fr_v (fr_bind ?_ fun _ => ?_)
    · unfold eqGuard
      split <;> trivial
    · unfold binOp
      cases b <;> (simp only [ne_eq, not_true_eq_false, if_false]; exact FrC.fr)
  · unfold execOp
    dsimp only
    have : Fr P (callFunc f (as.map a.eval)) := by
      unfold callFunc
      refine fr_ask ?_
      rw [h1]
      dsimp only
      rw [h2, h3]
      trivial
    simpa [resolve, Deferred.ofValue, invoke, Act.eval] using this
theorem fr_results (fn : Func) (tmps : Array Value) : Fr P (results fn tmps) := by unfold results; repeat' (first | exact FrC.fr | assumption | exact True.intro | exact nev_fr NeC.ne | exact nev_fr (nev_bind fun _ => NeC.ne) | exact nev_fr (nev_bind fun _ => nev_bind fun _ => NeC.ne) | exact nev_fr (nev_bind fun _ => nev_ite (nev_bind fun _ => NeC.ne) NeC.ne) | (refine fr_bind ?_ (fun _ => ?_)) | (refine fr_map ?_) | (refine fr_ite ?_ ?_) | (refine fr_array (fun _ _ => ?_) _ _) | (refine fr_range (fun _ _ => ?_) _ _) | (refine fr_list (fun _ _ => ?_) _ _) | (refine fr_mapM (fun _ => ?_) _) | (refine fr_foldlM (fun _ _ => ?_) _ _) | (intro _) | split | (dsimp only))
/-- What the step does is done just so where blocks that were hidden are not. -/
def Frames (P : Program) (main : Bool) (g : Goroutine) (w : World) (g' : Goroutine) (w' : World) (es : Array Event) : Prop :=
  ∀ (H : Nat → Prop) (w2 : World), (∀ b, H b → b < w2.heap.size) → NV H w2 → hide H w2 = w → ∃ w2', stepG P main g w2 = .go g' w2' es ∧ NV H w2' ∧ w' = hide H w2' ∧ Same3 w2 w2' ∧ w2.heap.size ≤ w2'.heap.size ∧ (∀ b, H b → w2'.heap[b]? = w2.heap[b]?) ∧ ∀ e ∈ es, EvT (fun b => ¬ H b ∧ b < w2'.heap.size) e
theorem frames_op {main : Bool} {g g' : Goroutine} {o : Oper} {a : Act} {f : FuncId} {w w' : World} {x : Next} (hq : Bq P o.op a) (hr : (execOp a.eval o).run P w = .ok x w')
    (hst : ∀ w2 w2', (execOp a.eval o).run P w2 = .ok x w2' → stepG P main g w2 = .go g' w2' (listed P f a o w2)) : Frames P main g w g' w' (listed P f a o w) := by
  intro H w2 hH hV e
  subst e
  obtain ⟨w2', r1, rv, r2, r3, r4, r5, r6⟩ := fr_hide (s := execOp a.eval o) (fr_exec hq) (es := #[]) (x := x) (w1 := w') (es1 := (execOp a.eval o).events P (hide H w2) #[]) hH hV (by rw [Sem.runT_eq, hr])
  have h1 : (execOp a.eval o).run P w2 = .ok x w2' := by rw [← runT_run (es := #[]), r1]
  have h2 : (execOp a.eval o).events P w2 #[] = (execOp a.eval o).events P (hide H w2) #[] := by
    show ((execOp a.eval o).runT P w2 #[]).2 = _
    rw [r1]
  have h3 : listed P f a o w2 = listed P f a o (hide H w2) := by unfold listed; rw [h2]
  refine ⟨w2', by rw [hst _ _ h1, h3], rv, r2, r3, r4, r5, fun e he => ?_⟩
  rcases r6 e (mem_listed he) with h | h
  · simp at h
  · exact h
end Go.Proofs.Ytnphcnhejgpjgaa.Co
end
section
namespace Go.Proofs.Ytnphcnhejgpjgaa.Co
open Go.Conc

/-- Which goroutine it is (the first, or another); whether blocks may be hidden; what the others may do; what is on its way. -/
class Env where
  main : Bool
  fr : Bool
  Rl : World → World → Prop
  Tr : Program → (Goroutine → World → Prop) → Goroutine → World → Prop
  rlR : ∀ w, Rl w w
  rlT : ∀ a b c, Rl a b → Rl b c → Rl a c
  rlE : ∀ w w', Rl w w' → Same3 w w' ∧ w.heap.size ≤ w'.heap.size ∧ ∀ b, b < w.heap.size → w'.heap[b]? = w.heap[b]?
  rely : ∀ {P Z g w w₁}, Tr P Z g w → Rl w w₁ → Tr P Z g w₁
  one : ∀ {P Z g w}, g.status = .running → (∀ w₁, Rl w w₁ → ∃ g' w' es, stepG P main g w₁ = .go g' w' es ∧ DN w₁ es w' ∧ (fr = true → Frames P main g w₁ g' w' es) ∧ Tr P Z g' w') → Tr P Z g w
/-- Nothing is hidden. -/
class NoFr [Env] : Prop where no : Env.fr = false
theorem noFr [Env] [NoFr] {p : Prop} (h : Env.fr = true) : p := by rw [NoFr.no] at h; cases h

def okc : Code → Bool
  | .seq a b | .cond _ a b => okc a && okc b
  | .block _ c | .loop c | .scope c => okc c
  | .region _ ops _ => ops.all fun o => okOp o.op
  | .rangeFunc .. => false
  | _ => true
def frc : Code → Bool
  | .seq a b | .cond _ a b => frc a && frc b
  | .block _ c | .loop c | .scope c => frc c
  | .region _ _ d => !d
  | .rangeFunc .. => false
  | _ => true
def OkE [Env] (c : Code) : Prop := okc c = true ∧ (Env.fr = true → frc c = true)

theorem keepsC_refl (w : World) : KeepsC w w := fun _ _ h _ => h
theorem dn_nil (w w' : World) (h : w'.heap = w.heap) : DN w #[] w' := ⟨by simp, fun c o hc _ => by rw [h]; exact hc⟩

section
variable [Env] (P : Program)

abbrev TrK (Z : Goroutine → World → Prop) : Goroutine → World → Prop := Env.Tr P Z

/-- Where an exit leads. -/
def ArrK (Z : Goroutine → World → Prop) (b : Frame) (k : List Item) (cs : List Frame) : Exit → Act → World → Prop
  | .normal, a, w => TrK P Z (G (b.at a k) cs) w
  | .exit id, a, w => ∃ k', exitTo id k = some k' ∧ TrK P Z (G (b.at a k') cs) w
  | .goto l, a, w => ∃ k', gotoIn l k = some k' ∧ TrK P Z (G (b.at a k') cs) w
  | .ret, a, w => ∀ todo, TrK P Z (G { b.at a todo with mode := .returning } cs) w
  | _, _, _ => False

def wpK (c : Code) (Q : Exit → Act → World → Prop) (a : Act) (w : World) : Prop :=
  OkE c → ∀ (b : Frame) (k : List Item) (cs : List Frame) (Z : Goroutine → World → Prop), b.kind ≠ .early → (∀ e a' w', Q e a' w' → ArrK P Z b k cs e a' w') → TrK P Z (G (b.at a (.code c :: k)) cs) w

/-- .. whatever the operations are. -/
def wpX (c : Code) (Q : Exit → Act → World → Prop) (a : Act) (w : World) : Prop :=
  ∀ (b : Frame) (k : List Item) (cs : List Frame) (Z : Goroutine → World → Prop), b.kind ≠ .early → (∀ e a' w', Q e a' w' → ArrK P Z b k cs e a' w') → TrK P Z (G (b.at a (.code c :: k)) cs) w

def CallsK (f : FuncId) (args : Array Value) (w : World) (R : Ending → World → Prop) : Prop :=
  ∀ (c : Frame) (cs : List Frame) (Z : Goroutine → World → Prop), (∀ e w', R e w' → ∃ v, e = .returned v ∧ TrK P Z (G (c.finish v) cs) w') → TrK P Z (G (Frame.enter P f args .normal) (c :: cs)) w

def uponK (o : Oper) (a : Act) (next : Act → World → Prop) : Result Next → Prop
  | .ok (.value v) w' => next (a.put o.dst v) w'
  | .ok .skip w' => next (a.put o.dst undef) w'
  | .ok (.enter f args) w' => CallsK P f args w' fun
      | .returned v, w'' => next (a.put o.dst v) w''
      | _, _ => False
  | _ => False
/-- The operation, in this very world. -/
def operK (o : Oper) (a : Act) (w : World) (next : Act → World → Prop) (_ : Exit → Act → World → Prop) : Prop := uponK P o a next ((execOp a.eval o).run P w)
end

section
variable [Env] {P : Program} {Q : Exit → Act → World → Prop} {a : Act} {w : World} {Z : Goroutine → World → Prop}

theorem TrK.at {g : Goroutine} {w w₁ : World} (h : TrK P Z g w) (hr : Env.Rl w w₁) : TrK P Z g w₁ := Env.rely h hr
omit [Env] in
theorem frames_ctl {main : Bool} {g g' : Goroutine} (h : ∀ w, stepG P main g w = .go g' w #[]) (w : World) : Frames P main g w g' w #[] :=
  fun H w2 _ hV e => ⟨w2, h w2, hV, e.symm, .refl _, Nat.le_refl _, fun _ _ => rfl, by simp⟩
/-- A move of control. -/
theorem TrK.ctl {g g' : Goroutine} (hs : g.status = .running) (h : ∀ w, stepG P Env.main g w = .go g' w #[]) (k : TrK P Z g' w) : TrK P Z g w :=
  Env.one hs fun s₁ hr => ⟨g', s₁, #[], h s₁, dn_nil _ _ rfl, fun _ => frames_ctl h s₁, TrK.at k hr⟩

theorem wpK_mono {c : Code} {Q' : Exit → Act → World → Prop} (h : wpK P c Q a w) (hq : ∀ e a w, Q e a w → Q' e a w) : wpK P c Q' a w :=
  fun ok b k cs Z hb hz => h ok b k cs Z hb fun e a' w' x => hz e a' w' (hq _ _ _ x)
theorem wpK_skip (h : Q .normal a w) : wpK P .skip Q a w := fun _ _ _ _ _ _ hz => .ctl rfl (fun _ => stepG_skip) (hz _ _ _ h)
theorem wpK_label {l : Nat} (h : Q .normal a w) : wpK P (.label l) Q a w := fun _ _ _ _ _ _ hz => .ctl rfl (fun _ => stepG_label) (hz _ _ _ h)
theorem wpK_exit {id : Nat} (h : Q (.exit id) a w) : wpK P (.exit id) Q a w := fun _ _ _ _ _ _ hz => by
  obtain ⟨k', hk, ht⟩ := hz _ _ _ h
  exact .ctl rfl (fun _ => stepG_exit hk) ht
theorem wpK_ret (h : Q .ret a w) : wpK P .ret Q a w := fun _ _ _ _ _ _ hz => .ctl rfl (fun _ => stepG_ret') (hz _ _ _ h _)

theorem wpK_seq {x y : Code} (h : wpK P x (Exit.then (wpK P y Q) Q) a w) : wpK P (.seq x y) Q a w := by
  intro ok b k cs Z hb hz
  replace ok : OkE x ∧ OkE y := by
    obtain ⟨o1, o2⟩ := ok
    simp only [okc, frc, Bool.and_eq_true] at o1 o2
    exact ⟨⟨o1.1, fun h => (o2 h).1⟩, ⟨o1.2, fun h => (o2 h).2⟩⟩
  refine .ctl rfl (fun _ => stepG_seq) (h ok.1 b (.code y :: k) cs Z hb fun e a' w' hq => ?_)
  cases e with
  | normal => exact hq ok.2 b k cs Z hb hz
  | exit id => obtain ⟨k', hk, ht⟩ := hz _ _ _ hq; exact ⟨k', by simpa [exitTo] using hk, ht⟩
  | goto l => obtain ⟨k', hk, ht⟩ := hz _ _ _ hq; exact ⟨k', by simpa [gotoIn] using hk, ht⟩
  | ret => exact hz _ _ _ hq
  | panic ch => exact (hz _ _ _ hq).elim
  | outgrown => exact (hz _ _ _ hq).elim

theorem wpK_cond {c : Operand} {x y : Code} {t : Bool} (hc : a.eval c = .bool t) (h : wpK P (if t then x else y) Q a w) : wpK P (.cond c x y) Q a w := by
  intro ok b k cs Z hb hz
  replace ok : OkE x ∧ OkE y := by
    obtain ⟨o1, o2⟩ := ok
    simp only [okc, frc, Bool.and_eq_true] at o1 o2
    exact ⟨⟨o1.1, fun h => (o2 h).1⟩, ⟨o1.2, fun h => (o2 h).2⟩⟩
  exact .ctl rfl (fun _ => stepG_cond hc) (h (by cases t; exact ok.2; exact ok.1) b k cs Z hb hz)
theorem wpK_cond_split {c : Operand} {x y : Code} {t : Bool} (hc : a.eval c = .bool t) (ht : t = true → wpK P x Q a w) (hf : t = false → wpK P y Q a w) : wpK P (.cond c x y) Q a w := by
  cases t
  · exact wpK_cond hc (hf rfl)
  · exact wpK_cond hc (ht rfl)

theorem wpK_block {id : Nat} {c : Code} (h : wpK P c (Exit.inBlock id Q) a w) : wpK P (.block id c) Q a w := by
  intro ok b k cs Z hb hz
  refine .ctl rfl (fun _ => stepG_block) (h ok b (.inBlock id :: k) cs Z hb fun e a' w' hq => ?_)
  cases e with
  | normal => exact .ctl rfl (fun _ => stepG_inBlock) (hz _ _ _ hq)
  | exit id' =>
    by_cases hid : id' = id
    · simp only [Exit.inBlock, hid, if_true] at hq
      exact ⟨k, by simp [exitTo, hid], hz _ _ _ hq⟩
    · simp only [Exit.inBlock, hid, if_false] at hq
      obtain ⟨k', hk, ht⟩ := hz _ _ _ hq
      have : (id == id') = false := by simp; exact fun h => hid h.symm
      exact ⟨k', by simp [exitTo, this, hk], ht⟩
  | goto l => obtain ⟨k', hk, ht⟩ := hz _ _ _ hq; exact ⟨k', by simpa [gotoIn] using hk, ht⟩
  | ret => exact hz _ _ _ hq
  | panic ch => exact (hz _ _ _ hq).elim
  | outgrown => exact (hz _ _ _ hq).elim

theorem wpK_loop {c : Code} (I : Act → World → Prop) (μ : Act → World → Nat) (h₀ : I a w)
    (round : ∀ a w, I a w → wpK P c (Exit.then (fun a' w' => I a' w' ∧ μ a' w' < μ a w) Q) a w) : wpK P (.loop c) Q a w := by
  intro ok b k cs Z hb hz
  refine .ctl rfl (fun _ => stepG_loop) ?_
  generalize hn : μ a w = n
  induction n using Nat.strongRecOn generalizing a w with
  | _ n ih =>
    refine round a w h₀ ok b (.inLoop c :: k) cs Z hb fun e a' w' hq => ?_
    cases e with
    | normal => exact .ctl rfl (fun _ => stepG_inLoop) (ih (μ a' w') (hn ▸ hq.2) hq.1 rfl)
    | exit id => obtain ⟨k', hk, ht⟩ := hz _ _ _ hq; exact ⟨k', by simpa [exitTo] using hk, ht⟩
    | goto l => obtain ⟨k', hk, ht⟩ := hz _ _ _ hq; exact ⟨k', by simpa [gotoIn] using hk, ht⟩
    | ret => exact hz _ _ _ hq
    | panic ch => exact (hz _ _ _ hq).elim
    | outgrown => exact (hz _ _ _ hq).elim

theorem CallsK.mono {f : FuncId} {args : Array Value} {R R' : Ending → World → Prop} (h : CallsK P f args w R) (hr : ∀ e w', R e w' → R' e w') : CallsK P f args w R' :=
  fun c cs Z hz => h c cs Z fun e w' x => hz e w' (hr _ _ x)

theorem uponK_mono {o : Oper} {K K' : Act → World → Prop} (h : ∀ a w, K a w → K' a w) {r : Result Next} (hh : uponK P o a K r) : uponK P o a K' r := by
  match r, hh with
  | .ok (.value v) w', hh => exact h _ _ hh
  | .ok .skip w', hh => exact h _ _ hh
  | .ok (.enter f args) w', hh => exact CallsK.mono hh fun e w'' he => by cases e <;> first | exact h _ _ he | exact he

theorem operK_mono {o : Oper} {K K' : Act → World → Prop} {Q' : Exit → Act → World → Prop} (h : ∀ a w, K a w → K' a w) (hh : operK P o a w K Q) : operK P o a w K' Q' := uponK_mono h hh

theorem operK_guard {o : Oper} {K : Act → World → Prop} (h : operK P { o with guard := none } a w K Q) : operK P o a w K Q := by
  unfold operK at *
  have e : (execOp a.eval { o with guard := none }).run P w = (execOp a.eval o).run P w := rfl
  rw [e] at h
  generalize (execOp a.eval o).run P w = r at *
  match r, h with
  | .ok (.value v) w', h => exact h
  | .ok .skip w', h => exact h
  | .ok (.enter f args) w', h => exact h

/-! ### operations -/

/-- One operation, and then what is asked; ahead of it the world may have been drawn from. -/
theorem oper_step [Nice P] {ops : Array Oper} {i : Nat} {rest : List Nat} {o : Oper} {b : Frame} {k : List Item} {cs : List Frame} {K : Act → World → Prop} (ho : ops[i]? = some o) (hok : okOp o.op = true) (hb : b.kind ≠ .early)
    (hK : ∀ a' w', K a' w' → TrK P Z (G (b.at a' (.inRegion ops rest :: k)) cs) w')
    (hq : Env.fr = true → Region.wanted o (yielded ops a.tmps) = true → Bq P o.op a)
    (h : ∀ w₁, Env.Rl w w₁ → if Region.wanted o (yielded ops a.tmps) = true then uponK P o a K ((execOp a.eval o).run P w₁) else K (a.put o.dst undef) w₁) : TrK P Z (G (b.at a (.inRegion ops (i :: rest) :: k)) cs) w := by
  refine Env.one rfl fun w₁ hr => ?_
  have hd := h w₁ hr
  by_cases hw : Region.wanted o (yielded ops a.tmps) = true
  · rw [if_pos hw] at hd
    generalize hrun : (execOp a.eval o).run P w₁ = r at hd
    match r, hd with
    | .ok (.value v) w', hd =>
      have hn := Nice.op' o a w₁ _ _ hok hrun
      exact ⟨_, w', _, stepG_value ho hw hb hrun, ⟨fun e he => hn.1 e (mem_listed he), hn.2⟩, fun hfr => frames_op (hq hfr hw) hrun fun w2 w2' h2 => stepG_value ho hw hb h2, hK _ _ hd⟩
    | .ok .skip w', hd =>
      have hn := Nice.op' o a w₁ _ _ hok hrun
      exact ⟨_, w', _, stepG_none ho hw hb hrun, ⟨fun e he => hn.1 e (mem_listed he), hn.2⟩, fun hfr => frames_op (hq hfr hw) hrun fun w2 w2' h2 => stepG_none ho hw hb h2, hK _ _ hd⟩
    | .ok (.enter f args) w', hd =>
      have hn := Nice.op' o a w₁ _ _ hok hrun
      refine ⟨_, w', _, stepG_enter ho hw hb hrun, ⟨fun e he => hn.1 e (mem_listed he), hn.2⟩, fun hfr => frames_op (hq hfr hw) hrun fun w2 w2' h2 => stepG_enter ho hw hb h2, hd _ _ Z fun e w'' he => ?_⟩
      cases e with
      | returned v =>
        refine ⟨v, rfl, ?_⟩
        rw [Frame.finish_at, ho]
        exact hK _ _ he
      | panicked ch => exact he.elim
      | outgrown => exact he.elim
  · rw [if_neg hw] at hd
    have hw' : Region.wanted o (yielded ops a.tmps) = false := by simpa using hw
    exact ⟨_, w₁, _, stepG_unwanted ho hw', dn_nil _ _ rfl, fun _ => frames_ctl (fun w => stepG_unwanted ho hw') w₁, hK _ _ hd⟩

variable (P) in
/-- A list of operations, the first of them in this very world. -/
def wpListP (ops : Array Oper) (Q : Exit → Act → World → Prop) : List Oper → Act → World → Prop
  | [], a, w => Q .normal a w
  | o :: rest, a, w => if Region.wanted o (yielded ops a.tmps) then operK P o a w (fun a' w' => ∀ w₁, Env.Rl w' w₁ → wpListP ops Q rest a' w₁) Q ∧ (Env.fr = true → Bq P o.op a) else ∀ w₁, Env.Rl w w₁ → wpListP ops Q rest (a.put o.dst undef) w₁
variable (P) in
def wpListK (ops : Array Oper) (Q : Exit → Act → World → Prop) (l : List Oper) (a : Act) (w : World) : Prop := ∀ w₁, Env.Rl w w₁ → wpListP P ops Q l a w₁

theorem wpListP_plain {ops : Array Oper} {rest : List Oper} {o : Oper} (hg : o.guard = none) (h : ∀ K : Act → World → Prop, (∀ a w, wpListK P ops Q rest a w → K a w) → operK P o a w K Q)
    (hb : Env.fr = true → Bq P o.op a := by first | exact fun h => noFr h | exact fun _ => .inl rfl) : wpListP P ops Q (o :: rest) a w := by
  unfold wpListP
  have : Region.wanted o (yielded ops a.tmps) = true := by simp only [Region.wanted, hg]
  rw [if_pos this]
  exact ⟨h _ fun _ _ x => x, hb⟩

theorem wpK_list [Nice P] {ops : Array Oper} (hQ : ∀ a w w₁, Env.Rl w w₁ → Q .normal a w → Q .normal a w₁) {b : Frame} {k : List Item} {cs : List Frame} (hb : b.kind ≠ .early) (hz : ∀ a' w', Q .normal a' w' → TrK P Z (G (b.at a' k) cs) w') :
    ∀ (l : List Oper) (j : Nat) (a : Act) (w : World), (∀ i, l[i]? = ops[j + i]?) → (l.all fun o => okOp o.op) = true → wpListK P ops Q l a w → TrK P Z (G (b.at a (.inRegion ops (List.range' j l.length) :: k)) cs) w
  | [], j, a, w, _, _, h => .ctl rfl (fun _ => stepG_region_end) (hz _ _ (h w (Env.rlR w)))
  | o :: rest, j, a, w, hl, hok, h => by
    simp only [List.all_cons, Bool.and_eq_true] at hok
    have h0 : ops[j]? = some o := by simpa using (hl 0).symm
    rw [List.length_cons, List.range'_succ]
    refine oper_step (K := fun a' w' => wpListK P ops Q rest a' w') h0 hok.1 hb (fun a' w' hk => wpK_list hQ hb hz rest (j + 1) a' w' (fun i => by have := hl (i + 1); simpa [Nat.add_assoc, Nat.add_comm 1 i] using this) hok.2 hk) (fun hfr hw => ?_) fun w₁ hr => ?_
    · have := h w (Env.rlR w)
      unfold wpListP at this
      rw [if_pos hw] at this
      exact this.2 hfr
    · have := h w₁ hr
      unfold wpListP at this
      split at this
      · rename_i hw; rw [if_pos hw]; exact this.1
      · rename_i hw; rw [if_neg hw]; exact this

theorem wpK_region_lit [Nice P] {id : Nat} {l : List Oper} (hQ : ∀ a w w₁, Env.Rl w w₁ → Q .normal a w → Q .normal a w₁) (h : wpListK P l.toArray Q l a w) : wpK P (.region id l.toArray false) Q a w := by
  intro ok b k cs Z hb hz
  refine .ctl rfl (fun _ => stepG_region) ?_
  have := wpK_list (ops := l.toArray) (k := k) (cs := cs) hQ hb (fun a' w' hq => hz .normal a' w' hq) l 0 a w (fun i => by simp) (by simpa [okc] using ok.1) h
  rw [List.range_eq_range']
  simpa using this

/-! ### regions that draw their order -/
variable (P) in
def wpOpK (ops : Array Oper) (Q : Exit → Act → World → Prop) (i : Nat) (K : Act → World → Prop) (a : Act) (w : World) : Prop :=
  match ops[i]? with
  | none => K a w
  | some o => if Region.wanted o (yielded ops a.tmps) then operK P o a w K Q else K (a.put o.dst undef) w
variable (P) in
def wpAnyP (md : Region.Mode) (ops : Array Oper) (Q : Exit → Act → World → Prop) : Nat → Array Bool → Act → World → Prop
  | 0, listed, a, w => Region.ready md ops listed = [] ∧ Q .normal a w
  | fuel + 1, listed, a, w =>
    (Region.ready md ops listed = [] → Q .normal a w) ∧
    ∀ i ∈ Region.ready md ops listed, wpOpK P ops Q i (fun a' w' => ∀ w₁, Env.Rl w' w₁ → wpAnyP md ops Q fuel (listed.setIfInBounds i true) a' w₁) a w
variable (P) in
def wpAnyK (md : Region.Mode) (ops : Array Oper) (Q : Exit → Act → World → Prop) (fuel : Nat) (listed : Array Bool) (a : Act) (w : World) : Prop := ∀ w₁, Env.Rl w w₁ → wpAnyP P md ops Q fuel listed a w₁

omit [Env] in
theorem ready_some {md : Region.Mode} {ops : Array Oper} {listed : Array Bool} {i : Nat} (h : i ∈ Region.ready md ops listed) : ∃ o, ops[i]? = some o := by
  simp only [Region.ready, List.mem_filter, List.mem_range] at h
  exact ⟨ops[i], Array.getElem?_eq_getElem h.1⟩

theorem wpAny_go [Nice P] (nf : Env.fr = false) {md : Region.Mode} {ops : Array Oper} (hok : (ops.all fun o => okOp o.op) = true) {b : Frame} {k : List Item} {cs : List Frame} (hb : b.kind ≠ .early) (hz : ∀ a' w', Q .normal a' w' → TrK P Z (G (b.at a' k) cs) w') :
    ∀ (fuel t : Nat) (listed : Array Bool) (a : Act) (w : World), wpAnyK P md ops Q fuel listed a w → TrK P Z (G (b.at a (.inRegion ops (Region.linearise.go md ops fuel t listed []) :: k)) cs) w := by
  intro fuel
  induction fuel with
  | zero =>
    intro t listed a w h
    simp only [Region.linearise.go, List.reverse_nil]
    exact .ctl rfl (fun _ => stepG_region_end) (hz _ _ (h w (Env.rlR w)).2)
  | succ fuel ih =>
    intro t listed a w h
    simp only [Region.linearise.go]
    change TrK P Z (G (b.at a (.inRegion ops (match (Region.ready md ops listed)[t % (Region.ready md ops listed).length]? with
      | some i => Region.linearise.go md ops fuel (t / (Region.ready md ops listed).length) (listed.setIfInBounds i true) [i]
      | none => [].reverse) :: k)) cs) w
    cases hi : (Region.ready md ops listed)[t % (Region.ready md ops listed).length]? with
    | none =>
      have hnil : Region.ready md ops listed = [] := by
        cases hr : Region.ready md ops listed with
        | nil => rfl
        | cons x xs =>
          rw [hr] at hi
          have hlt : t % (x :: xs).length < (x :: xs).length := Nat.mod_lt _ (by simp)
          simp at hi
          simp at hlt
          omega
      exact .ctl rfl (fun _ => stepG_region_end) (hz _ _ ((h w (Env.rlR w)).1 hnil))
    | some i =>
      simp only []
      rw [linearise_go_acc, List.reverse_singleton, List.singleton_append]
      have hm := List.mem_of_getElem? hi
      obtain ⟨o, ho⟩ := ready_some hm
      have hoo : okOp o.op = true := by
        rw [Array.all_eq_true'] at hok
        exact hok o (Array.mem_of_getElem? ho)
      refine oper_step (K := fun a' w' => wpAnyK P md ops Q fuel (listed.setIfInBounds i true) a' w') ho hoo hb (fun a' w' hk => ih _ _ _ _ hk) (fun hf => by rw [nf] at hf; cases hf) fun w₁ hr => ?_
      have := (h w₁ hr).2 i hm
      simp only [wpOpK, ho] at this
      exact this

theorem wpK_region_any [Nice P] {id : Nat} {ops : Array Oper} (hm : P.follows .mixedOrders = true) (h : ∀ w₁, Env.Rl w w₁ → wpAnyK P .any ops Q ops.size (Array.replicate ops.size false) a w₁.drew) : wpK P (.region id ops true) Q a w := by
  intro ok b k cs Z hb hz
  have nf : Env.fr = false := by
    cases hf : Env.fr with
    | false => rfl
    | true => cases ok.2 hf
  refine Env.one rfl fun w₁ hr => ?_
  refine ⟨_, _, _, stepG_region_draw, dn_nil _ _ rfl, fun hf => by (rw [nf] at hf; cases hf), ?_⟩
  simp only [Region.schedule, hm, Bool.true_or, if_true]
  exact wpAny_go nf (by simpa [okc] using ok.1) hb (fun a' w' hq => hz .normal a' w' hq) ops.size _ _ a _ fun w₂ h2 => h w₁ hr w₂ h2

/-! ### a function's body -/
theorem calls_of_wpX [Nice P] {f : FuncId} {fn : Func} {c : Code} {args : Array Value} {R : Ending → World → Prop} (hf : P.funcs[f]? = some fn) (hb : fn.body = some c)
    (h : wpX P c (fun e a w => ∀ w₁, Env.Rl w w₁ → bodyPost P fn (fun e w => ∃ v, e = .returned v ∧ R e w) e a w₁) { tmps := args ++ Array.replicate (fn.ntmps - args.size) undef, defers := [] } w) : CallsK P f args w R := by
  intro cl cs Z hz
  rw [enter_at args hf hb]
  have leave : ∀ (a : Act) (todo : List Item) (w : World), (∀ w₁, Env.Rl w w₁ → a.defers = [] ∧ ∃ v, (results fn a.tmps).run P w₁ = .ok v w₁ ∧ ∃ v', Ending.returned v = .returned v' ∧ R (.returned v) w₁) → TrK P Z (G { (base f).at a todo with mode := .returning } (cl :: cs)) w := by
    intro a todo w hall
    refine Env.one rfl fun w₁ hr => ?_
    obtain ⟨hd, v, hv, _, _, hRv⟩ := hall w₁ hr
    obtain ⟨v', e1, ht⟩ := hz _ _ hRv
    cases e1
    have hst : ∀ w w', (results fn a.tmps).run P w = .ok v w' → stepG P Env.main (G { (base f).at a todo with mode := .returning } (cl :: cs)) w = GStep.after (seen P f ((results fn a.tmps).events P w #[])) (.go (G (cl.finish v) cs) w') := by
      intro w w' hv
      simp [G, stepG, unwind, doReturn, Frame.at, base, hd, hf, Sem.runT_eq, hv]
    refine ⟨G (cl.finish v) cs, w₁, seen P f ((results fn a.tmps).events P w₁ #[]), ?_, ⟨fun e he => Nice.res' fn a.tmps w₁ e (mem_seen he), keepsC_refl _⟩, fun _ => ?_, ht⟩
    · simp only [hst _ _ hv, GStep.after, Array.append_empty]
    · intro H w2 hH hV e2
      subst e2
      obtain ⟨w2', r1, rv, r2, r3, r4, r5, r6⟩ := fr_hide (s := results fn a.tmps) (fr_results fn a.tmps) (es := #[]) (x := v) (w1 := hide H w2) (es1 := (results fn a.tmps).events P (hide H w2) #[]) hH hV (by
        rw [Sem.runT_eq, hv])
      refine ⟨w2', ?_, rv, r2, r3, r4, r5, fun e he => ?_⟩
      · have h1 : (results fn a.tmps).run P w2 = .ok v w2' := by rw [← runT_run (es := #[]), r1]
        have h2 : (results fn a.tmps).events P w2 #[] = (results fn a.tmps).events P (hide H w2) #[] := by
          show ((results fn a.tmps).runT P w2 #[]).2 = _
          rw [r1]
        simp only [hst _ _ h1, h2, GStep.after, Array.append_empty]
      · rcases r6 e (mem_seen he) with h | h
        · simp at h
        · exact h
  refine h (base f) [] (cl :: cs) Z (by simp [base]) fun e a' w' hq => ?_
  cases e with
  | normal => exact .ctl rfl (fun _ => stepG_end) (leave a' [] w' hq)
  | ret => exact fun todo => leave a' todo w' hq
  | exit id => exact (hq w' (Env.rlR w')).elim
  | goto l => exact (hq w' (Env.rlR w')).elim
  | panic ch => obtain ⟨_, _, e, _⟩ := hq w' (Env.rlR w'); cases e
  | outgrown => obtain ⟨_, e, _⟩ := hq w' (Env.rlR w'); cases e
theorem calls_of_wpK [Nice P] {f : FuncId} {fn : Func} {c : Code} {args : Array Value} {R : Ending → World → Prop} (hf : P.funcs[f]? = some fn) (hb : fn.body = some c) (hok : OkE c)
    (h : wpK P c (fun e a w => ∀ w₁, Env.Rl w w₁ → bodyPost P fn (fun e w => ∃ v, e = .returned v ∧ R e w) e a w₁) { tmps := args ++ Array.replicate (fn.ntmps - args.size) undef, defers := [] } w) : CallsK P f args w R :=
  calls_of_wpX hf hb (h hok)

/-- The first of a region's operations, and then the others. -/
theorem wpK_pre [Nice P] {ops : Array Oper} (rest : List Nat) (hQ : ∀ a w w₁, Env.Rl w w₁ → Q .normal a w → Q .normal a w₁) {b : Frame} {k : List Item} {cs : List Frame} (hb : b.kind ≠ .early) (hz : ∀ a' w', Q .normal a' w' → TrK P Z (G (b.at a' (.inRegion ops rest :: k)) cs) w') :
    ∀ (l : List Oper) (j : Nat) (a : Act) (w : World), (∀ i, i < l.length → l[i]? = ops[j + i]?) → (l.all fun o => okOp o.op) = true → wpListK P ops Q l a w → TrK P Z (G (b.at a (.inRegion ops (List.range' j l.length ++ rest) :: k)) cs) w
  | [], j, a, w, _, _, h => hz _ _ (h w (Env.rlR w))
  | o :: l, j, a, w, hl, hok, h => by
    simp only [List.all_cons, Bool.and_eq_true] at hok
    have h0 : ops[j]? = some o := by simpa using (hl 0 (by simp)).symm
    rw [List.length_cons, List.range'_succ, List.cons_append]
    refine oper_step (K := fun a' w' => wpListK P ops Q l a' w') h0 hok.1 hb (fun a' w' hk => wpK_pre rest hQ hb hz l (j + 1) a' w' (fun i hi => by have := hl (i + 1) (by simpa using hi); simpa [Nat.add_assoc, Nat.add_comm 1 i] using this) hok.2 hk) (fun hfr hw => ?_) fun w₁ hr => ?_
    · have := h w (Env.rlR w)
      unfold wpListP at this
      rw [if_pos hw] at this
      exact this.2 hfr
    · have := h w₁ hr
      unfold wpListP at this
      split at this
      · rename_i hw; rw [if_pos hw]; exact this.1
      · rename_i hw; rw [if_neg hw]; exact this
end
end Go.Proofs.Ytnphcnhejgpjgaa.Co
end
section
namespace Go.Proofs.Ytnphcnhejgpjgaa.Co
open Go.Conc
/-- Nothing is hidden, and the others only draw. -/
class AtEnv [Env] : Prop extends NoFr where rl : ∀ w w₁, Env.Rl w w₁ → AtRel w w₁
/-- The tree's own words: what g does under Rl, with strides. -/
abbrev envT (main : Bool) (Big : Goroutine → World → (Goroutine → World → Prop) → Prop) : Env where
  main := main
  fr := false
  Rl := AtRel
  Tr P Z := Tree P main id AtRel DN Big Z
  rlR := atRel_refl
  rlT := atRel_trans
  rlE w w' h := by obtain ⟨d, rfl⟩ := h; exact ⟨.refl _, Nat.le_refl _, fun _ _ => rfl⟩
  rely h hr := Tree.rely atRel_trans h hr
  one hs h := Tree.one hs fun s₁ hr => by
    obtain ⟨g', w', es, h1, h2, _, h4⟩ := h s₁ hr
    exact ⟨g', w', es, h1, h2, h4⟩
theorem envT_at (main : Bool) (Big : Goroutine → World → (Goroutine → World → Prop) → Prop) : @AtEnv (envT main Big) := @AtEnv.mk (envT main Big) (@NoFr.mk (envT main Big) rfl) fun _ _ h => h

end Go.Proofs.Ytnphcnhejgpjgaa.Co
end
