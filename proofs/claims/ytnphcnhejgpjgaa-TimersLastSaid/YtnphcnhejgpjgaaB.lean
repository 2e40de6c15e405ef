/-
  What stands beneath the four laws of the timers, part B.
-/
import Derived.Test.YtnphcnhejgpjgaaA
import Derived.Conc.Own3
import Derived.WalkKit
import Derived.Laws.CopyOwn
import Derived.Orders
set_option linter.unusedVariables false
set_option linter.unusedSimpArgs false
section
namespace Go.Proofs.Ytnphcnhejgpjgaa.Co
open Go.Conc

/-- What a goroutine that works in blocks of its own may lean on, and owes. -/
structure Own {σ : Type} (wd : σ → World) (R : σ → σ → Prop) (D : σ → Array Event → σ → Prop) where
  ok : σ → Prop
  mine : σ → Nat → Prop
  upd : σ → World → σ
  wd_upd : ∀ s w, wd (upd s w) = w
  refl : ∀ s, R s s
  same : ∀ s s', R s s' → Same3 (wd s) (wd s')
  size : ∀ s s', R s s' → (wd s).heap.size ≤ (wd s').heap.size
  stab : ∀ s s' b, R s s' → mine s b → b < (wd s).heap.size → (wd s').heap[b]? = (wd s).heap[b]?
  keep : ∀ s s' b, R s s' → mine s b → mine s' b
  okR : ∀ s s', R s s' → ok s → ok s'
  okU : ∀ s w, (wd s).heap.size ≤ w.heap.size → ok s → ok (upd s w)
  old : ∀ s w b, (wd s).heap.size ≤ w.heap.size → mine s b → mine (upd s w) b
  fresh : ∀ s w b, ok s → (wd s).heap.size ≤ b → b < w.heap.size → mine (upd s w) b
  owes : ∀ s es w, ok s → Same3 (wd s) w → (wd s).heap.size ≤ w.heap.size → KeepsC (wd s) w → (∀ b, b < (wd s).heap.size → ¬ mine s b → w.heap[b]? = (wd s).heap[b]?) → (∀ e ∈ es, EvT (mine (upd s w)) e) → D s es (upd s w)

theorem evT_evN {Q : Nat → Prop} {e : Event} (h : EvT Q e) : EvN e := by
  rcases h with ⟨a, h, _⟩ | ⟨m, rfl, hm⟩
  · exact ⟨by rw [h]; simp, by rw [h]; simp⟩
  · exact ⟨by simpa using hm.ne_disable, by simpa using hm.ne_enable⟩

/-- The first mode: its own is all that was made since W; nothing before is changed. -/
def own1 (W : World) : Own id AtRel DN where
  ok w := W.heap.size ≤ w.heap.size
  mine _ b := W.heap.size ≤ b
  upd _ w := w
  wd_upd _ _ := rfl
  refl w := ⟨w.drawn, rfl⟩
  same s s' h := by obtain ⟨d, rfl⟩ := h; exact ⟨rfl, rfl, rfl⟩
  size s s' h := by obtain ⟨d, rfl⟩ := h; exact Nat.le_refl _
  stab s s' b h _ _ := by obtain ⟨d, rfl⟩ := h; rfl
  keep s s' b _ h := h
  okR s s' h k := by obtain ⟨d, rfl⟩ := h; exact k
  okU s w h k := Nat.le_trans k h
  old s w b _ h := h
  fresh s w b k h _ := Nat.le_trans k h
  owes s es w _ _ _ h3 _ h5 := ⟨fun e he => evT_evN (h5 e he), h3⟩

/-- The second mode: its own are the blocks that it made. -/
def own2 (c : Nat) : Own GW.w RB2 (DB2 c) where
  ok s := ¬ s.O c ∧ c < s.w.heap.size
  mine s b := s.O b
  upd s w := ⟨w, fun b => s.O b ∨ (s.w.heap.size ≤ b ∧ b < w.heap.size)⟩
  wd_upd _ _ := rfl
  refl s := ⟨.refl _, Nat.le_refl _, rfl, fun _ _ _ => rfl⟩
  same s s' h := h.1
  size s s' h := h.2.1
  stab s s' b h hm hb := h.2.2.2 b hm hb
  keep s s' b h hm := by rw [h.2.2.1]; exact hm
  okR s s' h k := ⟨by rw [h.2.2.1]; exact k.1, Nat.lt_of_lt_of_le k.2 h.2.1⟩
  okU s w h k := ⟨fun hc => hc.elim k.1 fun hh => absurd k.2 (Nat.not_lt.2 hh.1), Nat.lt_of_lt_of_le k.2 h⟩
  old s w b _ h := .inl h
  fresh s w b _ h hb := .inr ⟨h, hb⟩
  owes s es w k h1 h2 _ h4 h5 := ⟨h1, h2, fun b => Iff.rfl, fun b hb hn => h4 b hb fun hm => hn.elim (fun x => x hm) fun x => k.1 (x ▸ hm), h5⟩

/-- Alone but for leavers: all is its own. -/
def own0 : Own id AtRel DN where
  ok _ := True
  mine _ _ := True
  upd _ w := w
  wd_upd _ _ := rfl
  refl w := ⟨w.drawn, rfl⟩
  same s s' h := by obtain ⟨d, rfl⟩ := h; exact ⟨rfl, rfl, rfl⟩
  size s s' h := by obtain ⟨d, rfl⟩ := h; exact Nat.le_refl _
  stab s s' b h _ _ := by obtain ⟨d, rfl⟩ := h; rfl
  keep s s' b _ h := h
  okR _ _ _ k := k
  okU _ _ _ k := k
  old _ _ _ _ h := h
  fresh _ _ _ _ _ _ := trivial
  owes s es w _ _ _ h3 _ h5 := ⟨fun e he => evT_evN (h5 e he), h3⟩

/-- The second mode, goroutine 0: its own are the blocks that are not the other's, nor the channel. -/
def own3 (c : Nat) : Own GW.w (RA2 c) (DA2 c) where
  ok s := ¬ s.O c ∧ c < s.w.heap.size ∧ ∀ b, s.O b → b < s.w.heap.size
  mine s b := ¬ s.O b ∧ b ≠ c ∧ b < s.w.heap.size
  upd s w := ⟨w, s.O⟩
  wd_upd _ _ := rfl
  refl s := RA2.refl c s
  same s s' h := h.1
  size s s' h := h.2.1
  stab s s' b h hm hb := h.2.2.2 b hb hm.1 hm.2.1
  keep s s' b h hm := ⟨fun ho => ((h.2.2.1 b).1 ho).elim hm.1 fun x => absurd hm.2.2 (Nat.not_lt.2 x.1), hm.2.1, Nat.lt_of_lt_of_le hm.2.2 h.2.1⟩
  okR s s' h k := ⟨fun ho => ((h.2.2.1 c).1 ho).elim k.1 fun x => absurd k.2.1 (Nat.not_lt.2 x.1), Nat.lt_of_lt_of_le k.2.1 h.2.1, fun b ho => ((h.2.2.1 b).1 ho).elim (fun x => Nat.lt_of_lt_of_le (k.2.2 b x) h.2.1) fun x => x.2⟩
  okU s w h k := ⟨k.1, Nat.lt_of_lt_of_le k.2.1 h, fun b ho => Nat.lt_of_lt_of_le (k.2.2 b ho) h⟩
  old s w b h hm := ⟨hm.1, hm.2.1, Nat.lt_of_lt_of_le hm.2.2 h⟩
  fresh s w b k h hb := ⟨fun ho => absurd (k.2.2 b ho) (Nat.not_lt.2 h), fun e => absurd k.2.1 (Nat.not_lt.2 (e ▸ h)), hb⟩
  owes s es w k h1 h2 _ h4 h5 := ⟨h1, h2, rfl, fun b hb ho => h4 b hb fun hm => ho.elim hm.1 hm.2.1, fun e he => by
    rcases h5 e he with ⟨a, ha, hm⟩ | hm
    · exact .inl ⟨a, ha, hm.1, hm.2.2⟩
    · exact .inr hm⟩

section
variable {σ : Type} {P : Program} {wd : σ → World} {R : σ → σ → Prop} {D : σ → Array Event → σ → Prop} (O : Own wd R D) {Stop : Goroutine → σ → Prop} {main : Bool}

theorem tree_rely (tr : ∀ a b c, R a b → R b c → R a c) {g : Goroutine} {s s' : σ} (h : Tree P main wd R D noBig Stop g s) (hr : R s s') : Tree P main wd R D noBig Stop g s' := Tree.rely tr h hr
/-- A step that leaves the world as it is. -/
theorem own_ctl {g g' : Goroutine} {s : σ} (hs : g.status = .running) (hk : O.ok s) (h : ∀ w, stepG P main g w = .go g' w #[]) (k : ∀ s', O.ok s' → R s s' → Tree P main wd R D noBig Stop g' (O.upd s' (wd s'))) :
    Tree P main wd R D noBig Stop g s :=
  Tree.one hs fun s₁ hr => by
    have hk1 := O.okR _ _ hr hk
    refine ⟨g', O.upd s₁ (wd s₁), #[], ?_, O.owes s₁ #[] (wd s₁) hk1 (.refl _) (Nat.le_refl _) (fun _ _ h _ => h) (fun _ _ _ => rfl) (by simp), k s₁ hk1 hr⟩
    rw [O.wd_upd]
    exact h _
/-- A step that turns the world into f w, touching its own blocks alone. -/
theorem own_act {g : Goroutine} {s : σ} (hs : g.status = .running) (hk : O.ok s) (g' : World → Goroutine) (f : World → World) (es : World → Array Event)
    (h : ∀ s', O.ok s' → R s s' → stepG P main g (wd s') = .go (g' (wd s')) (f (wd s')) (es (wd s')) ∧ Same3 (wd s') (f (wd s')) ∧ (wd s').heap.size ≤ (f (wd s')).heap.size ∧ KeepsC (wd s') (f (wd s')) ∧
      (∀ b, b < (wd s').heap.size → ¬ O.mine s' b → (f (wd s')).heap[b]? = (wd s').heap[b]?) ∧ (∀ e ∈ es (wd s'), EvT (O.mine (O.upd s' (f (wd s')))) e) ∧ Tree P main wd R D noBig Stop (g' (wd s')) (O.upd s' (f (wd s')))) :
    Tree P main wd R D noBig Stop g s :=
  Tree.one hs fun s₁ hr => by
    have hk1 := O.okR _ _ hr hk
    obtain ⟨h1, h2, h3, h4, h5, h6, h7⟩ := h s₁ hk1 hr
    refine ⟨g' (wd s₁), O.upd s₁ (f (wd s₁)), es (wd s₁), ?_, O.owes s₁ _ _ hk1 h2 h3 h4 h5 h6, h7⟩
    rw [O.wd_upd]
    exact h1
/-- An operation of a plain region: it gives a value, or nothing. -/
theorem own_op {b : Frame} {a : Act} {ops : Array Oper} {i : Nat} {rest : List Nat} {kk : List Item} {cs : List Frame} {o : Oper} {s : σ} (hk : O.ok s) (ho : ops[i]? = some o) (hw : Region.wanted o (yielded ops a.tmps) = true) (hb : b.kind ≠ .early)
    (h : ∀ s', O.ok s' → R s s' → ∃ v w', ((execOp a.eval o).run P (wd s') = .ok (.value v) w' ∨ (execOp a.eval o).run P (wd s') = .ok .skip w' ∧ v = undef) ∧ Same3 (wd s') w' ∧ (wd s').heap.size ≤ w'.heap.size ∧ KeepsC (wd s') w' ∧
      (∀ b, b < (wd s').heap.size → ¬ O.mine s' b → w'.heap[b]? = (wd s').heap[b]?) ∧ (∀ e ∈ (execOp a.eval o).events P (wd s') #[], EvT (O.mine (O.upd s' w')) e) ∧
      Tree P main wd R D noBig Stop (G (b.at (a.put o.dst v) (.inRegion ops rest :: kk)) cs) (O.upd s' w')) :
    Tree P main wd R D noBig Stop (G (b.at a (.inRegion ops (i :: rest) :: kk)) cs) s :=
  Tree.one rfl fun s₁ hr => by
    have hk1 := O.okR _ _ hr hk
    obtain ⟨v, w', h1, h2, h3, h4, h5, h6, h7⟩ := h s₁ hk1 hr
    refine ⟨_, O.upd s₁ w', listed P b.fn a o (wd s₁), ?_, O.owes s₁ _ _ hk1 h2 h3 h4 h5 (fun e he => h6 e (mem_listed he)), h7⟩
    rw [O.wd_upd]
    rcases h1 with h1 | ⟨h1, rfl⟩
    · exact stepG_value ho hw hb h1
    · exact stepG_none ho hw hb h1
/-- .. that looks at no memory. -/
theorem own_val {b : Frame} {a : Act} {ops : Array Oper} {i : Nat} {rest : List Nat} {kk : List Item} {cs : List Frame} {o : Oper} {s : σ} {v : Value} (hk : O.ok s) (ho : ops[i]? = some o) (hw : Region.wanted o (yielded ops a.tmps) = true) (hb : b.kind ≠ .early)
    (hv : ∀ w, (execOp a.eval o).run P w = .ok (.value v) w ∧ (execOp a.eval o).events P w #[] = #[])
    (h : ∀ s', O.ok s' → R s s' → Tree P main wd R D noBig Stop (G (b.at (a.put o.dst v) (.inRegion ops rest :: kk)) cs) (O.upd s' (wd s'))) :
    Tree P main wd R D noBig Stop (G (b.at a (.inRegion ops (i :: rest) :: kk)) cs) s :=
  own_op O hk ho hw hb fun s' hk' hr => ⟨v, wd s', .inl (hv _).1, .refl _, Nat.le_refl _, fun _ _ h _ => h, fun _ _ _ => rfl, fun e he => by rw [(hv _).2] at he; simp at he, h s' hk' hr⟩
/-- .. that reads its own blocks. -/
theorem own_read {b : Frame} {a : Act} {ops : Array Oper} {i : Nat} {rest : List Nat} {kk : List Item} {cs : List Frame} {o : Oper} {s : σ} {v : Value} (hk : O.ok s) (ho : ops[i]? = some o) (hw : Region.wanted o (yielded ops a.tmps) = true) (hb : b.kind ≠ .early)
    (hv : ∀ s', O.ok s' → R s s' → (execOp a.eval o).run P (wd s') = .ok (.value v) (wd s') ∧ ∀ e ∈ (execOp a.eval o).events P (wd s') #[], EvT (O.mine s') e)
    (h : ∀ s', O.ok s' → R s s' → Tree P main wd R D noBig Stop (G (b.at (a.put o.dst v) (.inRegion ops rest :: kk)) cs) (O.upd s' (wd s'))) :
    Tree P main wd R D noBig Stop (G (b.at a (.inRegion ops (i :: rest) :: kk)) cs) s :=
  own_op O hk ho hw hb fun s' hk' hr => ⟨v, wd s', .inl (hv s' hk' hr).1, .refl _, Nat.le_refl _, fun _ _ h _ => h, fun _ _ _ => rfl, fun e he => by
    rcases (hv s' hk' hr).2 e he with ⟨x, hx, hm⟩ | hm
    · exact .inl ⟨x, hx, O.old s' _ _ (Nat.le_refl _) hm⟩
    · exact .inr hm, h s' hk' hr⟩
end
end Go.Proofs.Ytnphcnhejgpjgaa.Co
end
section
namespace Go.Proofs.Ytnphcnhejgpjgaa.Co
open Go.Conc
def D1 (W : World) (c : Nat) (s : World) (es : Array Event) (s' : World) : Prop := DN s es s' ∧ (FK W c s → FK W c s')
def own1f (W : World) (c : Nat) : Own id AtRel (D1 W c) where
  ok w := W.heap.size ≤ w.heap.size
  mine _ b := W.heap.size ≤ b
  upd _ w := w
  wd_upd _ _ := rfl
  refl w := ⟨w.drawn, rfl⟩
  same s s' h := by obtain ⟨d, rfl⟩ := h; exact ⟨rfl, rfl, rfl⟩
  size s s' h := by obtain ⟨d, rfl⟩ := h; exact Nat.le_refl _
  stab s s' b h _ _ := by obtain ⟨d, rfl⟩ := h; rfl
  keep s s' b _ h := h
  okR s s' h k := by obtain ⟨d, rfl⟩ := h; exact k
  okU s w h k := Nat.le_trans k h
  old s w b _ h := h
  fresh s w b k h _ := Nat.le_trans k h
  owes s es w k h1 h2 h3 h4 h5 := ⟨⟨fun e he => evT_evN (h5 e he), h3⟩, fun hF => ⟨hF.1.trans h1, Nat.le_trans k h2, fun b hb hc => (h4 b (Nat.lt_of_lt_of_le hb k) (Nat.not_le.2 hb)).trans (hF.2.2 b hb hc)⟩⟩
theorem fk_at {W : World} {c : Nat} {w w₁ : World} (h : FK W c w) (hr : AtRel w w₁) : FK W c w₁ := by
  obtain ⟨d, rfl⟩ := hr
  exact h
theorem tree_fk {P : Program} {main : Bool} {W : World} {c : Nat} {Stop : Goroutine → World → Prop} {g : Goroutine} {w : World} (h : Tree P main id AtRel (D1 W c) noBig Stop g w) :
    FK W c w → Tree P main id AtRel DN noBig (fun g w => FK W c w ∧ Stop g w) g w := by
  induction h with
  | stop h => exact fun hF => .stop fun s₁ hr => ⟨fk_at hF hr, h s₁ hr⟩
  | step hs g' s' es h hd k ih => exact fun hF => .step hs g' s' es h (fun s₁ hr => (hd s₁ hr).1) fun s₁ hr => ih s₁ hr ((hd s₁ hr).2 (fk_at hF hr))
  | @big g s hs K h k ih => exact fun hF => (h s (atRel_refl s)).elim
end Go.Proofs.Ytnphcnhejgpjgaa.Co
end
section
namespace Go.Proofs.Ytnphcnhejgpjgaa.Co
open Go.Conc

/-- What was seen as another type. -/
def Vw (W : World) (b : Nat) : Prop := ∃ a t, W.heap[b]? = some (.view a t)
def Hid (c : Nat) (W : World) (s : GW) (b : Nat) : Prop := s.O b ∨ b = c ∨ Vw W b
noncomputable def view (c : Nat) (W : World) (s : GW) : World := hide (Hid c W s) s.w
structure Ok2 (c : Nat) (W : World) (s : GW) : Prop where
  oc : ¬ s.O c
  cW : c < W.heap.size
  vc : ¬ Vw W c
  big : W.heap.size ≤ s.w.heap.size
  ol : ∀ b, s.O b → W.heap.size ≤ b ∧ b < s.w.heap.size
  vs : ∀ b, Vw W b → s.w.heap[b]? = W.heap[b]?
  nv : NV (Hid c W s) s.w
theorem Vw.lt {W : World} {b : Nat} (h : Vw W b) : b < W.heap.size := by
  obtain ⟨a, t, h⟩ := h
  exact (Array.getElem?_eq_some_iff.1 h).1
theorem Ok2.lt {c : Nat} {W : World} {s : GW} (h : Ok2 c W s) {b : Nat} (hb : Hid c W s b) : b < s.w.heap.size := by
  rcases hb with hb | rfl | hb
  · exact (h.ol b hb).2
  · exact Nat.lt_of_lt_of_le h.cW h.big
  · exact Nat.lt_of_lt_of_le hb.lt h.big
def Rl2 (w w' : World) : Prop := Same3 w w' ∧ w.heap.size ≤ w'.heap.size ∧ ∀ b, b < w.heap.size → w'.heap[b]? = w.heap[b]?
theorem Rl2.refl (w : World) : Rl2 w w := ⟨.refl _, Nat.le_refl _, fun _ _ => rfl⟩
theorem Rl2.trans {a b d : World} (h : Rl2 a b) (k : Rl2 b d) : Rl2 a d :=
  ⟨h.1.trans k.1, Nat.le_trans h.2.1 k.2.1, fun x hx => (k.2.2 x (Nat.lt_of_lt_of_le hx h.2.1)).trans (h.2.2 x hx)⟩
theorem Ok2.rely {c : Nat} {W : World} {s s' : GW} (k : Ok2 c W s) (h : RA2 c s s') : Ok2 c W s' := by
  obtain ⟨h1, h2, h3, h4⟩ := h
  have hc := Nat.lt_of_lt_of_le k.cW k.big
  refine ⟨fun ho => ((h3 c).1 ho).elim k.oc fun x => by omega, k.cW, k.vc, Nat.le_trans k.big h2, fun b ho => ((h3 b).1 ho).elim (fun x => ⟨(k.ol b x).1, Nat.lt_of_lt_of_le (k.ol b x).2 h2⟩) fun x => ⟨Nat.le_trans k.big x.1, x.2⟩, fun b hv => ?_, fun b a t hn e => ?_⟩
  · rw [h4 b (Nat.lt_of_lt_of_le hv.lt k.big) (fun ho => absurd (k.ol b ho).1 (Nat.not_le.2 hv.lt)) (fun e => k.vc (e ▸ hv))]
    exact k.vs b hv
  · have hb : b < s'.w.heap.size := (Array.getElem?_eq_some_iff.1 e).1
    have hlt : b < s.w.heap.size := by
      rcases Nat.lt_or_ge b s.w.heap.size with x | x
      · exact x
      · exact absurd (.inl ((h3 b).2 (.inr ⟨x, hb⟩))) hn
    rw [h4 b hlt (fun ho => hn (.inl ((h3 b).2 (.inl ho)))) (fun e => hn (.inr (.inl e)))] at e
    refine k.nv b a t (fun hh => hn ?_) e
    rcases hh with hh | hh | hh
    · exact .inl ((h3 b).2 (.inl hh))
    · exact .inr (.inl hh)
    · exact .inr (.inr hh)

theorem hide_get {H H' : Nat → Prop} {w w' : World} {b : Nat} (h : H b ↔ H' b) (hw : ¬ H b → w'.heap[b]? = w.heap[b]?) (hl : b < w.heap.size) (hl' : b < w'.heap.size) : (hide H' w').heap[b]? = (hide H w).heap[b]? := by
  by_cases hb : H b
  · rw [hide_hid hb, hide_hid (h.1 hb), Array.getElem?_eq_getElem hl, Array.getElem?_eq_getElem hl']
    rfl
  · rw [hide_not hb, hide_not fun x => hb (h.2 x), hw hb]

theorem view_rl {c : Nat} {W : World} {s s' : GW} (h : RA2 c s s') : Rl2 (view c W s) (view c W s') := by
  obtain ⟨h1, h2, h3, h4⟩ := h
  refine ⟨h1, by simpa [view, hide_size] using h2, fun b hb => ?_⟩
  rw [view, hide_size] at hb
  refine hide_get ?_ (fun hn => h4 b hb (fun x => hn (.inl x)) fun x => hn (.inr (.inl x))) hb (Nat.lt_of_lt_of_le hb h2)
  unfold Hid
  rw [h3]
  constructor
  · exact fun x => x.elim (fun x => .inl (.inl x)) .inr
  · rintro ((x | x) | x)
    · exact .inl x
    · omega
    · exact .inr x

/-- Goroutine 0 in the second mode: worlds are what it sees. -/
abbrev env2 (c : Nat) (W : World) : Env where
  main := true
  fr := true
  Rl := Rl2
  Tr P Z g v := ∀ s, Ok2 c W s → Rl2 v (view c W s) → Tree P true GW.w (RA2 c) (DA2 c) noBig (fun g s => Ok2 c W s ∧ Z g (view c W s)) g s
  rlR := Rl2.refl
  rlT _ _ _ := Rl2.trans
  rlE _ _ h := h
  rely h hr := fun s k hv => h s k (hr.trans hv)
  one {P Z g v} hs h := fun s k hv => Tree.one hs fun s₁ hr => by
    have k1 := k.rely hr
    obtain ⟨g', w', es, _, _, h3, h4⟩ := h (view c W s₁) (hv.trans (view_rl hr))
    obtain ⟨w2', r1, rv, r2, r3, r4, r5, r6⟩ := h3 rfl (Hid c W s₁) s₁.w (fun b hb => k1.lt hb) k1.nv rfl
    refine ⟨g', ⟨w2', s₁.O⟩, es, r1, ⟨r3, r4, rfl, fun b _ hb => r5 b (hb.imp id .inl), fun e he => (r6 e he).mono fun b hb => ⟨fun x => hb.1 (.inl x), hb.2⟩⟩, h4 ⟨w2', s₁.O⟩ ⟨k1.oc, k1.cW, k1.vc, Nat.le_trans k1.big r4, fun b hb => ⟨(k1.ol b hb).1, Nat.lt_of_lt_of_le (k1.ol b hb).2 r4⟩, fun b hb => (r5 b (.inr (.inr hb))).trans (k1.vs b hb), rv⟩ ?_⟩
    show Rl2 w' (view c W ⟨w2', s₁.O⟩)
    rw [r2]
    exact Rl2.refl _
theorem stop2 {c : Nat} {W : World} {P : Program} {Z : Goroutine → World → Prop} {g : Goroutine} {v : World} (h : ∀ s, Ok2 c W s → Rl2 v (view c W s) → Z g (view c W s)) : @Env.Tr (env2 c W) P Z g v :=
  fun s k hv => .stop fun s₁ hr => ⟨k.rely hr, h s₁ (k.rely hr) (hv.trans (view_rl hr))⟩
/-- Where the second mode begins. -/
theorem ok2_new {c : Nat} {W w : World} (hc : c < W.heap.size) (hv : ¬ Vw W c) (h : FK W c w) : Ok2 c W ⟨w, newO W w⟩ := by
  refine ⟨fun x => absurd x.1 (Nat.not_le.2 hc), hc, hv, h.2.1, fun b hb => hb, fun b hb => h.2.2 b hb.lt fun e => hv (e ▸ hb), fun b a t hn e => ?_⟩
  have hb : b < w.heap.size := (Array.getElem?_eq_some_iff.1 e).1
  have hlt : b < W.heap.size := by
    rcases Nat.lt_or_ge b W.heap.size with x | x
    · exact x
    · exact absurd (.inl ⟨x, hb⟩) hn
  refine hn (.inr (.inr ⟨a, t, ?_⟩))
  rw [← h.2.2 b hlt fun e => hn (.inr (.inl e))]
  exact e
end Go.Proofs.Ytnphcnhejgpjgaa.Co
end
section
namespace Go.Proofs.Ytnphcnhejgpjgaa.Abs
open Go.Proofs.Ytnphcnhejgpjgaa.Co
variable [Env]
open Go.RowKit
abbrev Stab := Nat → Nat → Prop
inductive Lf where
  | i (k : IntKind) (n : Int)
  | b (x : Bool)
  | s (x : ByteArray)
  | raw (v : Value)
  | sl (n : Nat) (cs : List Lf)
  | cp (cs : List Lf)
  | lp (p off : Nat)
  | ls (p n : Nat)
  | ap (p n off : Nat)
  | mp (k p : Nat)
  | fn (f : FuncId) (a b : List Lf)
  | nix
  | jk (e sz n : Nat)
inductive SV where
  | one (l : Lf)
  | agg (ls : List Lf)
inductive AV where
  | s (x : SV)
  | tup (xs : List SV)
  | top
inductive Blk where
  | box (cs : List Lf)
  | arr (e sz k : Nat) (cs : List Lf)
  | dead
  | hole
  | obj (g : Nat) (mk : List (List Value) → Obj → Prop) (cs : List (List Lf))
  | tab (mk : List (List Value) → Obj → Prop) (cs : List (List Lf))
def tabVal : Nat → Nat → Value
  | 0, g => .map (some g)
  | _, g => .chan (some g)
omit [Env] in
theorem tabVal_one (k g : Nat) : (tabVal k g).oneCell' = true := by cases k <;> rfl
def isTab : Obj → Bool
  | .map .. | .chan .. | .mapIter .. => true
  | _ => false
def isOwn : Obj → Bool
  | .cells .. | .map .. | .chan .. | .mapIter .. => true
  | _ => false
structure AS where
  t : Nat → AV
  m : List Blk
def upd (t : Nat → AV) (d : Nat) (x : AV) : Nat → AV := fun j => cond (Nat.beq j d) x (t j)
omit [Env] in
theorem upd_def (t : Nat → AV) (d : Nat) (x : AV) (j : Nat) : upd t d x j = if j = d then x else t j := by
  unfold upd
  by_cases h : j = d
  · subst h; simp
  · have : Nat.beq j d = false := by
      cases hb : Nat.beq j d with
      | false => rfl
      | true => exact absurd (Nat.eq_of_beq_eq_true hb) h
    rw [this, if_neg h]; rfl
def AS.upd (st : AS) (d : Nat) (x : AV) : AS := ⟨Go.Proofs.Ytnphcnhejgpjgaa.Abs.upd st.t d x, st.m⟩
def markAt (n e : Nat) : Nat := (n + e) * (n + e) + n
inductive Rep (w : World) (S : Stab) : Lf → Value → Prop
  | i (k : IntKind) (n : Int) : Rep w S (.i k n) (.int k n)
  | b (x : Bool) : Rep w S (.b x) (.bool x)
  | s (x : ByteArray) : Rep w S (.s x) (.string x)
  | raw (v : Value) (h : v.oneCell' = true) : Rep w S (.raw v) v
  | sl0 (a : Option Addr) (cap : Nat) : Rep w S (.sl 0 []) (.slice a 0 cap)
  | sl (n : Nat) (cs : List Lf) (bk off cap : Nat) (vals : Nat → Value) (hc : n ≤ cap) (hm : cap ≤ maxLen)
      (hs : ∀ (j : Nat) (l : Lf), cs[j]? = some l → S bk (off + j) ∧ w.cell? ⟨bk, off + j, none⟩ = some (vals j))
      (hr : ∀ (j : Nat) (l : Lf), cs[j]? = some l → Rep w S l (vals j)) : Rep w S (.sl n cs) (.slice (some ⟨bk, off, none⟩) n cap)
  | cp (cs : List Lf) (bk off : Nat) (vals : Nat → Value)
      (hs : ∀ (j : Nat) (l : Lf), cs[j]? = some l → S bk (off + j) ∧ w.cell? ⟨bk, off + j, none⟩ = some (vals j))
      (hr : ∀ (j : Nat) (l : Lf), cs[j]? = some l → Rep w S l (vals j)) : Rep w S (.cp cs) (.pointer (some ⟨bk, off, none⟩))
  | fn (f : FuncId) (a b : List Lf) (va vb : Array Value) (ha : a.length = va.size) (hb : b.length = vb.size)
      (ra : ∀ (j : Nat) (l : Lf) (v : Value), a[j]? = some l → va[j]? = some v → Rep w S l v)
      (rb : ∀ (j : Nat) (l : Lf) (v : Value), b[j]? = some l → vb[j]? = some v → Rep w S l v) : Rep w S (.fn f a b) (.func (.func f) va vb)
  | nix (a : Option Addr) : Rep w S .nix (.slice a 0 0)
  | jk0 (e sz : Nat) : Rep w S (.jk e sz 0) (.slice none 0 0)
  | jk (e sz n g cap : Nat) (hn : n ≤ cap) (hm : cap ≤ maxLen) (hs : S g (markAt (cap * sz) e) ∧ w.cell? ⟨g, markAt (cap * sz) e, none⟩ = none) : Rep w S (.jk e sz n) (.slice (some ⟨g, 0, none⟩) n cap)
omit [Env] in
theorem Rep.mono {w w' : World} {S S' : Stab} (h : ∀ b i, S b i → S' b i ∧ w'.cell? ⟨b, i, none⟩ = w.cell? ⟨b, i, none⟩) {l : Lf} {v : Value} (r : Rep w S l v) : Rep w' S' l v := by
  induction r with
  | i k n => exact .i k n
  | b x => exact .b x
  | s x => exact .s x
  | raw v h => exact .raw v h
  | sl0 a cap => exact .sl0 a cap
  | sl n cs bk off cap vals hc hm hs _ ih =>
    exact .sl n cs bk off cap vals hc hm (fun j l hl => ⟨(h _ _ (hs j l hl).1).1, (h _ _ (hs j l hl).1).2.trans (hs j l hl).2⟩) ih
  | cp cs bk off vals hs _ ih =>
    exact .cp cs bk off vals (fun j l hl => ⟨(h _ _ (hs j l hl).1).1, (h _ _ (hs j l hl).1).2.trans (hs j l hl).2⟩) ih
  | fn f a b va vb ha hb _ _ iha ihb => exact .fn f a b va vb ha hb iha ihb
  | nix a => exact .nix a
  | jk0 e sz => exact .jk0 e sz
  | jk e sz n g cap hn hm hs => exact .jk e sz n g cap hn hm ⟨(h _ _ hs.1).1, (h _ _ hs.1).2.trans hs.2⟩
omit [Env] in
theorem Rep.oneCell {w : World} {S : Stab} {l : Lf} {v : Value} (r : Rep w S l v) : v.oneCell' = true := by
  cases r <;> first | rfl | assumption
structure Ext (w : World) (S : Stab) (w' : World) (S' : Stab) : Prop where
  os : w'.os = w.os
  tape : w'.tape = w.tape
  output : w'.output = w.output
  size : w.heap.size ≤ w'.heap.size
  blk : ∀ b, b < w.heap.size → w'.heap[b]? = w.heap[b]?
  sub : ∀ b i, S b i → S' b i
  back : ∀ b i, b < w.heap.size → S' b i → S b i
omit [Env] in
theorem Ext.refl (w : World) (S : Stab) : Ext w S w S := ⟨rfl, rfl, rfl, Nat.le_refl _, fun _ _ => rfl, fun _ _ h => h, fun _ _ _ h => h⟩
omit [Env] in
theorem Ext.trans {w w' w'' : World} {S S' S'' : Stab} (h : Ext w S w' S') (k : Ext w' S' w'' S'') : Ext w S w'' S'' :=
  ⟨k.os.trans h.os, k.tape.trans h.tape, k.output.trans h.output, Nat.le_trans h.size k.size,
   fun b hb => (k.blk b (Nat.lt_of_lt_of_le hb h.size)).trans (h.blk b hb), fun b i hs => k.sub b i (h.sub b i hs),
   fun b i hb hs => h.back b i hb (k.back b i (Nat.lt_of_lt_of_le hb h.size) hs)⟩
omit [Env] in
theorem Ext.drew (w : World) (S : Stab) : Ext w S w.drew S := ⟨rfl, rfl, rfl, Nat.le_refl _, fun _ _ => rfl, fun _ _ h => h, fun _ _ _ h => h⟩
omit [Env] in
theorem Ext.alloc (w : World) (S : Stab) (o : Obj) : Ext w S (w.alloc o) S :=
  ⟨rfl, rfl, rfl, by simp, fun b hb => Below.heap_alloc w o b hb, fun _ _ h => h, fun _ _ _ h => h⟩
omit [Env] in
theorem Ext.cell {w w' : World} {S S' : Stab} (h : Ext w S w' S') {a : Addr} (ha : a.block < w.heap.size) : w'.cell? a = w.cell? a :=
  World.cell?_of_block (w := w) (h.blk _ ha)
omit [Env] in
theorem Ext.below {w w' : World} {S S' : Stab} (h : Ext w S w' S') : Below w.heap.size w w' := ⟨h.os, h.tape, h.output, h.size, h.blk⟩
def GL : List (Nat × List Lf) := []
def GLR (w : World) (S : Stab) : Prop := ∀ x ∈ GL, Rep w S (.cp x.2) (.pointer (some ⟨x.1, 0, none⟩))
omit [Env] in
theorem GLR.mono {w w' : World} {S S' : Stab} (h : ∀ b i, S b i → S' b i ∧ w'.cell? ⟨b, i, none⟩ = w.cell? ⟨b, i, none⟩) (r : GLR w S) : GLR w' S' := fun x hx => Rep.mono h (r x hx)
def Marks (w : World) (S : Stab) : Prop := ∀ g i, S g i → w.cell? ⟨g, i, none⟩ = none →
  (∃ cur e, w.heap[g]? = some (.cells cur e (0, 0)) ∧ i = markAt cur.size e) ∧ ∀ j, S g j → w.cell? ⟨g, j, none⟩ = none
def InH (w : World) (S : Stab) : Prop := (∀ b i, S b i → b < w.heap.size) ∧ GLR w S ∧ Marks w S
omit [Env] in
theorem Marks.ext {w w' : World} {S : Stab} (h : Ext w S w' S) (hl : ∀ b i, S b i → b < w.heap.size) (k : Marks w S) : Marks w' S := by
  intro g i hs hc
  have hb := h.blk g (hl g i hs)
  have hcc : ∀ j, w'.cell? ⟨g, j, none⟩ = w.cell? ⟨g, j, none⟩ := fun j => World.cell?_of_block (a := ⟨g, j, none⟩) hb
  rw [hcc] at hc
  obtain ⟨⟨cur, e, h1, h2⟩, h3⟩ := k g i hs hc
  exact ⟨⟨cur, e, hb.trans h1, h2⟩, fun j hj => (hcc j).trans (h3 j hj)⟩
omit [Env] in
theorem Ext.keeps {w w' : World} {S S' : Stab} (h : Ext w S w' S') (hS : InH w S) : ∀ b i, S b i → S' b i ∧ w'.cell? ⟨b, i, none⟩ = w.cell? ⟨b, i, none⟩ :=
  fun b i hs => ⟨h.sub b i hs, h.cell (hS.1 b i hs)⟩
omit [Env] in
theorem InH.ext {w w' : World} {S : Stab} (h : Ext w S w' S) (hS : InH w S) : InH w' S := ⟨fun b i hs => Nat.lt_of_lt_of_le (hS.1 b i hs) h.size, hS.2.1.mono (h.keeps hS), hS.2.2.ext h hS.1⟩
omit [Env] in
theorem InH.two {w : World} {S : Stab} (h : InH w S) : (∀ b i, S b i → b < w.heap.size) ∧ GLR w S := ⟨h.1, h.2.1⟩
omit [Env] in
theorem InH.turn2 {w w' : World} {S : Stab} (h : w.heap.size ≤ w'.heap.size) (hk : ∀ b i, S b i → w'.cell? ⟨b, i, none⟩ = w.cell? ⟨b, i, none⟩) (hS : InH w S) : (∀ b i, S b i → b < w'.heap.size) ∧ GLR w' S := ⟨fun b i hs => Nat.lt_of_lt_of_le (hS.1 b i hs) h, hS.2.1.mono fun b i hs => ⟨hs, hk b i hs⟩⟩
omit [Env] in
theorem Marks.add {w : World} {S S' : Stab} (k : Marks w S) (h : ∀ b i, S' b i → S b i ∨ (w.cell? ⟨b, i, none⟩ ≠ none ∧ ∀ j, ¬ S b j)) : Marks w S' := by
  intro g i hs hc
  rcases h g i hs with h1 | h1
  · obtain ⟨h2, h3⟩ := k g i h1 hc
    exact ⟨h2, fun j hj => by
      rcases h g j hj with h4 | h4
      · exact h3 j h4
      · exact absurd h1 (h4.2 i)⟩
  · exact absurd hc h1.1
omit [Env] in
theorem Marks.turn {w w' : World} {S : Stab} (G : Nat → Prop) (hG : ∀ g i, G g → S g i → w.cell? ⟨g, i, none⟩ ≠ none) (hb : ∀ g, g < w.heap.size → ¬ G g → w'.heap[g]? = w.heap[g]?) (hk : ∀ b i, S b i → w'.cell? ⟨b, i, none⟩ = w.cell? ⟨b, i, none⟩) (hl : ∀ b i, S b i → b < w.heap.size) (k : Marks w S) : Marks w' S := by
  intro g i hs hc
  rw [hk g i hs] at hc
  obtain ⟨⟨cur, e, h1, h2⟩, h3⟩ := k g i hs hc
  refine ⟨⟨cur, e, (hb g (hl g i hs) fun hg => hG g i hg hs hc).trans h1, h2⟩, fun j hj => (hk g j hj).trans (h3 j hj)⟩
omit [Env] in
theorem InH.turn {w w' : World} {S : Stab} (G : Nat → Prop) (hG : ∀ g i, G g → S g i → w.cell? ⟨g, i, none⟩ ≠ none) (hb : ∀ g, g < w.heap.size → ¬ G g → w'.heap[g]? = w.heap[g]?) (h : w.heap.size ≤ w'.heap.size) (hk : ∀ b i, S b i → w'.cell? ⟨b, i, none⟩ = w.cell? ⟨b, i, none⟩) (hS : InH w S) : InH w' S := ⟨fun b i hs => Nat.lt_of_lt_of_le (hS.1 b i hs) h, hS.2.1.mono fun b i hs => ⟨hs, hk b i hs⟩, hS.2.2.turn G hG hb hk hS.1⟩
structure ExtX (X : Nat → Prop) (w : World) (S : Stab) (w' : World) (S' : Stab) : Prop where
  os : w'.os = w.os
  tape : w'.tape = w.tape
  output : w'.output = w.output
  size : w.heap.size ≤ w'.heap.size
  blk : ∀ b, b < w.heap.size → ¬ X b → w'.heap[b]? = w.heap[b]?
  sub : ∀ b i, S b i → S' b i
  stab : ∀ b i, S b i → w'.cell? ⟨b, i, none⟩ = w.cell? ⟨b, i, none⟩
  back : ∀ b i, b < w.heap.size → ¬ X b → S' b i → S b i
omit [Env] in
theorem ExtX.refl (X : Nat → Prop) (w : World) (S : Stab) : ExtX X w S w S := ⟨rfl, rfl, rfl, Nat.le_refl _, fun _ _ _ => rfl, fun _ _ h => h, fun _ _ _ => rfl, fun _ _ _ _ h => h⟩
omit [Env] in
theorem ExtX.ext {X : Nat → Prop} {w w' w'' : World} {S S' S'' : Stab} (h : ExtX X w S w' S') (hS : InH w' S') (k : Ext w' S' w'' S'') : ExtX X w S w'' S'' :=
  ⟨k.os.trans h.os, k.tape.trans h.tape, k.output.trans h.output, Nat.le_trans h.size k.size,
   fun b hb hx => (k.blk b (Nat.lt_of_lt_of_le hb h.size)).trans (h.blk b hb hx), fun b i hs => k.sub b i (h.sub b i hs),
   fun b i hs => (k.cell (a := ⟨b, i, none⟩) (hS.1 b i (h.sub b i hs))).trans (h.stab b i hs),
   fun b i hb hx hs => h.back b i hb hx (k.back b i (Nat.lt_of_lt_of_le hb h.size) hs)⟩
omit [Env] in
theorem ExtX.toExt {X : Nat → Prop} {w w' : World} {S S' : Stab} (hX : ∀ b, ¬ X b) (h : ExtX X w S w' S') : Ext w S w' S' :=
  ⟨h.os, h.tape, h.output, h.size, fun b hb => h.blk b hb (hX b), h.sub, fun b i hb => h.back b i hb (hX b)⟩
def LsR (R : Lf → Value → Prop) (ls : List Lf) (cs : List Value) : Prop := ls.length = cs.length ∧ ∀ (j : Nat) (l : Lf) (v : Value), ls[j]? = some l → cs[j]? = some v → R l v
omit [Env] in
theorem LsR.mono {R R' : Lf → Value → Prop} (h : ∀ l v, R l v → R' l v) {ls : List Lf} {cs : List Value} (r : LsR R ls cs) : LsR R' ls cs :=
  ⟨r.1, fun j l v h1 h2 => h _ _ (r.2 j l v h1 h2)⟩
omit [Env] in
theorem LsR.get {R : Lf → Value → Prop} {ls : List Lf} {cs : List Value} (r : LsR R ls cs) {j : Nat} {l : Lf} (h : ls[j]? = some l) : ∃ v, cs[j]? = some v ∧ R l v := by
  have hj : j < ls.length := (List.getElem?_eq_some_iff.1 h).1
  have hj' : j < cs.length := by rw [← r.1]; exact hj
  exact ⟨cs[j], List.getElem?_eq_getElem hj', r.2 j l _ h (List.getElem?_eq_getElem hj')⟩
def LsR2 (R : Lf → Value → Prop) (css : List (List Lf)) (vss : List (List Value)) : Prop := css.length = vss.length ∧ ∀ (j : Nat) (cs : List Lf) (vs : List Value), css[j]? = some cs → vss[j]? = some vs → LsR R cs vs
omit [Env] in
theorem LsR2.mono {R R' : Lf → Value → Prop} (h : ∀ l v, R l v → R' l v) {css : List (List Lf)} {vss : List (List Value)} (r : LsR2 R css vss) : LsR2 R' css vss :=
  ⟨r.1, fun j cs vs h1 h2 => (r.2 j cs vs h1 h2).mono h⟩
omit [Env] in
theorem ownsRow_one {w : World} {base e size n : Nat} {v : Value} {xs : List Value} (h : w.ownsRow base e size v n xs) : v.oneCell' = true ∧ v ≠ undef := by
  rcases h.2 with ⟨rfl, _⟩ | ⟨g, cap, cur, rfl, _⟩ <;> exact ⟨rfl, fun h => by cases h⟩
def GRep0 (w : World) (S : Stab) (m : List Blk) (H : Nat → Value) : Lf → Value → Prop
  | .lp p off, v => p < m.length ∧ ∃ g, H p = .pointer (some ⟨g, 0, none⟩) ∧ v = .pointer (some ⟨g, off, none⟩)
  | .ls p n, v => p < m.length ∧ (v.oneCell' = true ∧ H p ≠ undef) ∧ ∀ e sz k cs, m[p]? = some (.arr e sz k cs) → n * sz ≤ cs.length ∧ (n * sz = cs.length → v = H p)
  | .ap p n off, v => p < m.length ∧ (v.oneCell' = true ∧ H p ≠ undef) ∧ ∀ e sz k cs, m[p]? = some (.arr e sz k cs) → n * sz ≤ cs.length ∧ (n * sz = cs.length → ∃ g c, H p = .slice (some ⟨g, 0, none⟩) n c ∧ v = .pointer (some ⟨g, off, none⟩))
  | .mp k p, v => p < m.length ∧ ∃ g, H p = .pointer (some ⟨g, 0, none⟩) ∧ v = tabVal k g
  | l, v => Rep w S l v
def GRep (w : World) (S : Stab) (m : List Blk) (H : Nat → Value) : Lf → Value → Prop
  | .fn f a b, v => ∃ va vb, v = .func (.func f) va vb ∧ LsR (GRep0 w S m H) a va.toList ∧ LsR (GRep0 w S m H) b vb.toList
  | l, v => GRep0 w S m H l v
def Lf.pubd0 : Lf → Bool
  | .lp .. | .ls .. | .ap .. | .mp .. | .fn .. => false
  | _ => true
def Lf.pubd : Lf → Bool
  | .lp .. | .ls .. | .ap .. | .mp .. => false
  | .fn _ la lb => la.all Lf.pubd0 && lb.all Lf.pubd0
  | _ => true
omit [Env] in
theorem GRep0.of_rep {w : World} {S : Stab} {m : List Blk} {H : Nat → Value} {l : Lf} {v : Value} (h : Rep w S l v) : GRep0 w S m H l v := by
  cases h with
  | i k n => exact .i k n
  | b x => exact .b x
  | s x => exact .s x
  | raw v h => exact .raw v h
  | sl0 a cap => exact .sl0 a cap
  | sl n cs bk off cap vals hc hm hs hr => exact .sl n cs bk off cap vals hc hm hs hr
  | cp cs bk off vals hs hr => exact .cp cs bk off vals hs hr
  | nix a => exact .nix a
  | jk0 e sz => exact .jk0 e sz
  | jk e sz n g cap hn hm hs => exact .jk e sz n g cap hn hm hs
  | fn f a b va vb ha hb ra rb => exact .fn f a b va vb ha hb ra rb
omit [Env] in
theorem GRep.of_rep {w : World} {S : Stab} {m : List Blk} {H : Nat → Value} {l : Lf} {v : Value} (h : Rep w S l v) : GRep w S m H l v := by
  cases h with
  | i k n => exact .i k n
  | b x => exact .b x
  | s x => exact .s x
  | raw v h => exact .raw v h
  | sl0 a cap => exact .sl0 a cap
  | sl n cs bk off cap vals hc hm hs hr => exact .sl n cs bk off cap vals hc hm hs hr
  | cp cs bk off vals hs hr => exact .cp cs bk off vals hs hr
  | nix a => exact .nix a
  | jk0 e sz => exact .jk0 e sz
  | jk e sz n g cap hn hm hs => exact .jk e sz n g cap hn hm hs
  | fn f a b va vb ha hb ra rb => exact ⟨va, vb, rfl, ⟨by simpa using ha, fun j l v h1 h2 => GRep0.of_rep (ra j l v h1 (by simpa using h2))⟩, ⟨by simpa using hb, fun j l v h1 h2 => GRep0.of_rep (rb j l v h1 (by simpa using h2))⟩⟩
omit [Env] in
theorem GRep0.rep {w : World} {S : Stab} {m : List Blk} {H : Nat → Value} {l : Lf} {v : Value} (h : GRep0 w S m H l v) (hp : l.pubd0 = true) : Rep w S l v := by
  cases l <;> first | (simp [Lf.pubd0] at hp; done) | exact h
omit [Env] in
theorem GRep.rep {w : World} {S : Stab} {m : List Blk} {H : Nat → Value} {l : Lf} {v : Value} (h : GRep w S m H l v) (hp : l.pubd = true) : Rep w S l v := by
  cases l with
  | fn f a b =>
    obtain ⟨va, vb, rfl, h1, h2⟩ := h
    simp only [Lf.pubd, Bool.and_eq_true, List.all_eq_true] at hp
    refine .fn f a b va vb (by simpa using h1.1) (by simpa using h2.1) (fun j l v hl hv => ?_) (fun j l v hl hv => ?_)
    · exact GRep0.rep (h1.2 j l v hl (by simpa using hv)) (hp.1 l (List.mem_of_getElem? hl))
    · exact GRep0.rep (h2.2 j l v hl (by simpa using hv)) (hp.2 l (List.mem_of_getElem? hl))
  | lp _ _ => simp [Lf.pubd] at hp
  | ls _ _ => simp [Lf.pubd] at hp
  | ap _ _ _ => simp [Lf.pubd] at hp
  | mp _ _ => simp [Lf.pubd] at hp
  | i k n => exact h
  | b x => exact h
  | s x => exact h
  | raw v => exact h
  | sl n cs => exact h
  | cp cs => exact h
  | nix => exact h
  | jk e sz n => exact h
omit [Env] in
theorem GRep.oneCell {w : World} {S : Stab} {m : List Blk} {H : Nat → Value} {l : Lf} {v : Value} (h : GRep w S m H l v) : v.oneCell' = true := by
  cases l with
  | lp p off => obtain ⟨_, g, _, rfl⟩ := h; rfl
  | ls p n => exact h.2.1.1
  | ap p n off => exact h.2.1.1
  | mp k p => obtain ⟨_, g, _, rfl⟩ := h; exact tabVal_one k g
  | i k n => exact Rep.oneCell h
  | b x => exact Rep.oneCell h
  | s x => exact Rep.oneCell h
  | raw v => exact Rep.oneCell h
  | sl n cs => exact Rep.oneCell h
  | cp cs => exact Rep.oneCell h
  | nix => exact Rep.oneCell h
  | jk e sz n => exact Rep.oneCell h
  | fn f a b => obtain ⟨va, vb, rfl, _⟩ := h; rfl
omit [Env] in
theorem GRep0.mono3 {w w' : World} {S S' : Stab} {m m' : List Blk} {H H' : Nat → Value} (h : ∀ b i, S b i → S' b i ∧ w'.cell? ⟨b, i, none⟩ = w.cell? ⟨b, i, none⟩)
    (hl : m.length ≤ m'.length) (hH : ∀ p g, p < m.length → H p = .pointer (some ⟨g, 0, none⟩) → H' p = H p)
    (hu : ∀ p, p < m.length → H p ≠ undef → H' p ≠ undef)
    (hm : ∀ p e sz k cs, p < m.length → H p ≠ undef → m'[p]? = some (.arr e sz k cs) → ∃ k' cs', m[p]? = some (.arr e sz k' cs') ∧ ((cs'.length = cs.length ∧ H' p = H p) ∨ cs'.length < cs.length)) {l : Lf} {v : Value} (r : GRep0 w S m H l v) : GRep0 w' S' m' H' l v := by
  cases l with
  | lp p off =>
    obtain ⟨hp, g, hg, hv⟩ := r
    exact ⟨Nat.lt_of_lt_of_le hp hl, g, (hH p g hp hg).trans hg, hv⟩
  | mp k p =>
    obtain ⟨hp, g, hg, hv⟩ := r
    exact ⟨Nat.lt_of_lt_of_le hp hl, g, (hH p g hp hg).trans hg, hv⟩
  | ls p n =>
    obtain ⟨hp, ho, hr⟩ := r
    refine ⟨Nat.lt_of_lt_of_le hp hl, ⟨ho.1, hu p hp ho.2⟩, fun e sz k cs hm' => ?_⟩
    obtain ⟨k', cs', h1, h2⟩ := hm p e sz k cs hp ho.2 hm'
    have h3 := hr e sz k' cs' h1
    rcases h2 with ⟨h2, h4⟩ | h2
    · rw [h2] at h3
      exact ⟨h3.1, fun e => (h3.2 e).trans h4.symm⟩
    · exact ⟨by omega, fun e => by omega⟩
  | ap p n off =>
    obtain ⟨hp, ho, hr⟩ := r
    refine ⟨Nat.lt_of_lt_of_le hp hl, ⟨ho.1, hu p hp ho.2⟩, fun e sz k cs hm' => ?_⟩
    obtain ⟨k', cs', h1, h2⟩ := hm p e sz k cs hp ho.2 hm'
    have h3 := hr e sz k' cs' h1
    rcases h2 with ⟨h2, h4⟩ | h2
    · rw [h2] at h3
      refine ⟨h3.1, fun e => ?_⟩
      obtain ⟨g, c, h5, h6⟩ := h3.2 e
      exact ⟨g, c, h4.trans h5, h6⟩
    · exact ⟨by omega, fun e => by omega⟩
  | i k n => exact Rep.mono h r
  | b x => exact Rep.mono h r
  | s x => exact Rep.mono h r
  | raw v => exact Rep.mono h r
  | sl n cs => exact Rep.mono h r
  | cp cs => exact Rep.mono h r
  | nix => exact Rep.mono h r
  | jk e sz n => exact Rep.mono h r
  | fn f a b => exact Rep.mono h r
omit [Env] in
theorem GRep.mono3 {w w' : World} {S S' : Stab} {m m' : List Blk} {H H' : Nat → Value} (h : ∀ b i, S b i → S' b i ∧ w'.cell? ⟨b, i, none⟩ = w.cell? ⟨b, i, none⟩)
    (hl : m.length ≤ m'.length) (hH : ∀ p g, p < m.length → H p = .pointer (some ⟨g, 0, none⟩) → H' p = H p)
    (hu : ∀ p, p < m.length → H p ≠ undef → H' p ≠ undef)
    (hm : ∀ p e sz k cs, p < m.length → H p ≠ undef → m'[p]? = some (.arr e sz k cs) → ∃ k' cs', m[p]? = some (.arr e sz k' cs') ∧ ((cs'.length = cs.length ∧ H' p = H p) ∨ cs'.length < cs.length)) {l : Lf} {v : Value} (r : GRep w S m H l v) : GRep w' S' m' H' l v := by
  cases l with
  | fn f a b =>
    obtain ⟨va, vb, hv, h1, h2⟩ := r
    exact ⟨va, vb, hv, h1.mono fun l v => GRep0.mono3 h hl hH hu hm, h2.mono fun l v => GRep0.mono3 h hl hH hu hm⟩
  | lp p off => exact GRep0.mono3 (l := .lp p off) h hl hH hu hm r
  | mp k p => exact GRep0.mono3 (l := .mp k p) h hl hH hu hm r
  | ls p n => exact GRep0.mono3 (l := .ls p n) h hl hH hu hm r
  | ap p n off => exact GRep0.mono3 (l := .ap p n off) h hl hH hu hm r
  | i k n => exact Rep.mono h r
  | b x => exact Rep.mono h r
  | s x => exact Rep.mono h r
  | raw v => exact Rep.mono h r
  | sl n cs => exact Rep.mono h r
  | cp cs => exact Rep.mono h r
  | nix => exact Rep.mono h r
  | jk e sz n => exact Rep.mono h r
omit [Env] in
theorem GRep.mono2 {w w' : World} {S S' : Stab} {m m' : List Blk} {H H' : Nat → Value} (h : ∀ b i, S b i → S' b i ∧ w'.cell? ⟨b, i, none⟩ = w.cell? ⟨b, i, none⟩)
    (hl : m.length ≤ m'.length) (hH : ∀ p g, p < m.length → H p = .pointer (some ⟨g, 0, none⟩) → H' p = H p)
    (hu : ∀ p, p < m.length → H p ≠ undef → H' p ≠ undef)
    (hm : ∀ p e sz k cs, p < m.length → m'[p]? = some (.arr e sz k cs) → ∃ k' cs', m[p]? = some (.arr e sz k' cs') ∧ ((cs'.length = cs.length ∧ H' p = H p) ∨ cs'.length < cs.length)) {l : Lf} {v : Value} (r : GRep w S m H l v) : GRep w' S' m' H' l v :=
  GRep.mono3 h hl hH hu (fun p e sz k cs hp _ hm' => hm p e sz k cs hp hm') r
omit [Env] in
theorem GRep.mono {w w' : World} {S S' : Stab} {m m' : List Blk} {H H' : Nat → Value} (h : ∀ b i, S b i → S' b i ∧ w'.cell? ⟨b, i, none⟩ = w.cell? ⟨b, i, none⟩)
    (hl : m.length ≤ m'.length) (hH : ∀ p, p < m.length → H' p = H p)
    (hm : ∀ p e sz k cs, p < m.length → m'[p]? = some (.arr e sz k cs) → ∃ k' cs', m[p]? = some (.arr e sz k' cs') ∧ cs'.length = cs.length) {l : Lf} {v : Value} (r : GRep w S m H l v) : GRep w' S' m' H' l v :=
  GRep.mono2 h hl (fun p _ hp _ => hH p hp) (fun p hp hne => by rw [hH p hp]; exact hne) (fun p e sz k cs hp hm' => by
    obtain ⟨k', cs', h1, h2⟩ := hm p e sz k cs hp hm'
    exact ⟨k', cs', h1, .inl ⟨h2, hH p hp⟩⟩) r
def SVR (R : Lf → Value → Prop) : SV → Value → Prop
  | .one l, v => R l v
  | .agg ls, v => ∃ cs : Array Value, v = .agg cs ∧ LsR R ls cs.toList
def AVR (R : Lf → Value → Prop) : AV → Value → Prop
  | .s x, v => SVR R x v
  | .tup xs, v => ∃ vs : Array Value, v = .tuple vs ∧ xs.length = vs.size ∧ ∀ (j : Nat) (x : SV) (u : Value), xs[j]? = some x → vs[j]? = some u → SVR R x u
  | .top, _ => True
omit [Env] in
theorem SVR.mono {R R' : Lf → Value → Prop} (h : ∀ l v, R l v → R' l v) {x : SV} {v : Value} (r : SVR R x v) : SVR R' x v := by
  cases x with
  | one l => exact h _ _ r
  | agg ls => obtain ⟨cs, rfl, hl⟩ := r; exact ⟨cs, rfl, hl.mono h⟩
omit [Env] in
theorem AVR.mono {R R' : Lf → Value → Prop} (h : ∀ l v, R l v → R' l v) {x : AV} {v : Value} (r : AVR R x v) : AVR R' x v := by
  cases x with
  | s x => exact SVR.mono h r
  | tup xs => obtain ⟨vs, rfl, h1, h2⟩ := r; exact ⟨vs, rfl, h1, fun j x u hx hu => SVR.mono h (h2 j x u hx hu)⟩
  | top => trivial
omit [Env] in
theorem avr_undef {R : Lf → Value → Prop} : AVR R (.tup []) undef := ⟨#[], rfl, rfl, fun j x u h => by simp at h⟩
def ownOf : Value → Option Nat
  | .pointer (some a) => some a.block
  | .slice (some a) _ _ => some a.block
  | _ => none
def Blk.own (b : Blk) (h : Value) : Option Nat := match b with | .dead => none | .hole => none | _ => ownOf h
def Blk.stab : Blk → Nat
  | .arr _ _ k _ => k
  | _ => 0
def BlkR (base : Nat) (w : World) (S : Stab) (m : List Blk) (H : Nat → Value) : Blk → Value → Prop
  | .box cs, h => ∃ g e cur, h = .pointer (some ⟨g, 0, none⟩) ∧ w.heap[g]? = some (.cells cur e (0, 0)) ∧ LsR (GRep w S m H) cs cur.toList
  | .arr e sz k cs, h => 0 < sz ∧ k ≤ cs.length ∧ ∃ n vals, w.ownsRow base e sz h n vals ∧ LsR (Rep w S) cs vals ∧ ∀ g, ownOf h = some g → ∀ i, i < k → S g i
  | .dead, _ => True
  | .hole, h => h = undef
  | .tab mk cs, h => ∃ g, h = .pointer (some ⟨g, 0, none⟩) ∧ ∃ vs o, w.heap[g]? = some o ∧ isTab o = true ∧ mk vs o ∧ LsR2 (Rep w S) cs vs
  | .obj g mk cs, h => h = .pointer (some ⟨g, 0, none⟩) ∧ ∃ vs o, w.heap[g]? = some o ∧ isTab o = true ∧ mk vs o ∧ LsR2 (Rep w S) cs vs
structure Ctx where
  w0 : World
  S0 : Stab
  nt : Nat
  X : Nat → Prop
  m0 : List Blk
  H0 : Nat → Value
abbrev Ctx.of (w : World) (S : Stab) (nt : Nat) : Ctx := ⟨w, S, nt, fun _ => False, [], fun _ => undef⟩
structure Rel (c : Ctx) (st : AS) (a : Act) (w : World) (S : Stab) (H : Nat → Value) : Prop where
  nt : a.tmps.size = c.nt
  df : a.defers = []
  tm : ∀ i, AVR (GRep w S st.m H) (st.t i) (a.tmps.getD i undef)
  bl : ∀ (p : Nat) (b : Blk), st.m[p]? = some b → BlkR 0 w S st.m H b (H p)
  lo : ∀ (p : Nat) (b : Blk) (g : Nat), st.m[p]? = some b → b.own (H p) = some g → (c.w0.heap.size ≤ g ∨ c.X g) ∧ g < w.heap.size
  inj : ∀ (p q : Nat) (b b' : Blk) (g : Nat), st.m[p]? = some b → st.m[q]? = some b' → b.own (H p) = some g → b'.own (H q) = some g → p = q
  sb : ∀ (p : Nat) (b : Blk) (g i : Nat), st.m[p]? = some b → b.own (H p) = some g → S g i → i < b.stab
  sl : InH w S
  ex : ExtX c.X c.w0 c.S0 w S
  kl : c.m0.length ≤ st.m.length
  kh : ∀ p g, p < c.m0.length → c.H0 p = .pointer (some ⟨g, 0, none⟩) → H p = c.H0 p
  kr : ∀ p e sz k cs, p < c.m0.length → st.m[p]? = some (.arr e sz k cs) → ∃ k' cs', c.m0[p]? = some (.arr e sz k' cs') ∧ ((cs'.length = cs.length ∧ H p = c.H0 p) ∨ cs'.length < cs.length)
  ku : ∀ p, p < c.m0.length → c.H0 p ≠ undef → H p ≠ undef
omit [Env] in
theorem ownsRow_of_block {w w' : World} {base e size n : Nat} {v : Value} {xs : List Value} (h : w.ownsRow base e size v n xs) (hb : ∀ g, ownOf v = some g → w'.heap[g]? = w.heap[g]?) : w'.ownsRow base e size v n xs := by
  refine ⟨h.1, ?_⟩
  rcases h.2 with hn | ⟨g, cap, cur, rfl, hbg, hg, rest⟩
  · exact .inl hn
  · exact .inr ⟨g, cap, cur, rfl, hbg, (hb g rfl).trans hg, rest⟩
omit [Env] in
theorem Rel.ext {c : Ctx} {st : AS} {a : Act} {w w' : World} {S S' : Stab} {H : Nat → Value} (r : Rel c st a w S H) (h : Ext w S w' S') (hS : InH w' S') : Rel c st a w' S' H := by
  have hk := h.keeps r.sl
  have hg : ∀ l v, GRep w S st.m H l v → GRep w' S' st.m H l v := fun l v => GRep.mono hk (Nat.le_refl _) (fun _ _ => rfl) (fun p e sz k cs _ hm => ⟨k, cs, hm, rfl⟩)
  refine ⟨r.nt, r.df, fun i => AVR.mono hg (r.tm i), fun p b hb => ?_, fun p b g hb ho => ?_, r.inj, fun p b g i hb ho hs => ?_, hS, r.ex.ext r.sl h, r.kl, r.kh, r.kr, r.ku⟩
  · have hr := r.bl p b hb
    have hlo := r.lo p b
    cases b with
    | dead => trivial
    | hole => exact hr
    | obj g mk cs =>
      obtain ⟨h1, vs, o, h2, h3, h4, h5⟩ := hr
      exact ⟨h1, vs, o, (h.blk g (hlo g hb (by rw [h1]; rfl)).2).trans h2, h3, h4, h5.mono (fun l v => Rep.mono hk)⟩
    | tab mk cs =>
      obtain ⟨g, h1, vs, o, h2, h3, h4, h5⟩ := hr
      exact ⟨g, h1, vs, o, (h.blk g (hlo g hb (by rw [h1]; rfl)).2).trans h2, h3, h4, h5.mono (fun l v => Rep.mono hk)⟩
    | box cs =>
      obtain ⟨g, e, cur, h1, h2, h3⟩ := hr
      have := (hlo g hb (by rw [h1]; rfl)).2
      exact ⟨g, e, cur, h1, (h.blk g this).trans h2, h3.mono hg⟩
    | arr e sz k cs =>
      obtain ⟨h0, hk1, n, vals, h1, h2, h3⟩ := hr
      exact ⟨h0, hk1, n, vals, ownsRow_of_block h1 (fun g hgo => h.blk g (hlo g hb hgo).2), h2.mono (fun l v => Rep.mono hk), fun g hgo i hi => h.sub g i (h3 g hgo i hi)⟩
  · have := r.lo p b g hb ho
    exact ⟨this.1, Nat.lt_of_lt_of_le this.2 h.size⟩
  · exact r.sb p b g i hb ho (h.back g i (r.lo p b g hb ho).2 hs)
omit [Env] in
theorem getD_put {a : Act} {d : Nat} {v : Value} {i : Nat} (hd : d < a.tmps.size) : (a.put (some d) v).tmps.getD i undef = if i = d then v else a.tmps.getD i undef := by
  simp only [Act.put, Array.getD_eq_getD_getElem?, Array.getElem?_setIfInBounds]
  by_cases h : i = d
  · subst h; simp [hd]
  · have : ¬ d = i := fun e => h e.symm
    simp [h, this]
omit [Env] in
theorem Rel.put {c : Ctx} {st : AS} {a : Act} {w : World} {S : Stab} {H : Nat → Value} (r : Rel c st a w S H) {d : Nat} (hd : d < c.nt) {x : AV} {v : Value} (hx : AVR (GRep w S st.m H) x v) :
    Rel c (st.upd d x) (a.put (some d) v) w S H := by
  have hd' : d < a.tmps.size := by rw [r.nt]; exact hd
  refine ⟨by simp [Act.put, r.nt], r.df, fun i => ?_, r.bl, r.lo, r.inj, r.sb, r.sl, r.ex, r.kl, r.kh, r.kr, r.ku⟩
  rw [getD_put hd']
  show AVR _ (Go.Proofs.Ytnphcnhejgpjgaa.Abs.upd st.t d x i) _
  rw [upd_def]
  by_cases h : i = d
  · simp only [h, if_true]; exact hx
  · simp only [h, if_false]; exact r.tm i
omit [Env] in
theorem Rel.weak {c : Ctx} {st : AS} {a : Act} {w : World} {S : Stab} {H : Nat → Value} (r : Rel c st a w S H) {t : Nat → AV} (ht : ∀ i, t i = st.t i ∨ t i = .top) : Rel c ⟨t, st.m⟩ a w S H :=
  ⟨r.nt, r.df, fun i => by rcases ht i with h | h <;> simp only [h]; exact r.tm i; trivial, r.bl, r.lo, r.inj, r.sb, r.sl, r.ex, r.kl, r.kh, r.kr, r.ku⟩
end Go.Proofs.Ytnphcnhejgpjgaa.Abs
end
section
namespace Go.Proofs.Ytnphcnhejgpjgaa.Abs
open Go.Proofs.Ytnphcnhejgpjgaa.Co
variable [Env]
open Go.RowKit
def clf : Value → Lf
  | .int k n => .i k n
  | .bool x => .b x
  | .string x => .s x
  | v => .raw v
def cav : Value → AV
  | .tuple vs => if vs.size = 0 then .tup [] else .top
  | .agg cs => if cs.all (·.oneCell') then .s (.agg (cs.toList.map clf)) else .top
  | v => .s (.one (clf v))
def opnd (st : AS) : Operand → AV
  | .tmp i => st.t i
  | .const v => cav v
  | .global g => .s (.one (.raw (.pointer (some ⟨g, 0, none⟩))))
  | .func f => .s (.one (.raw (.func (.func f) #[] #[])))
omit [Env] in
theorem clf_rep {w : World} {S : Stab} {v : Value} (h : v.oneCell' = true) : Rep w S (clf v) v := by
  cases v <;> first | exact .i _ _ | exact .b _ | exact .s _ | exact .raw _ h
omit [Env] in
theorem avr_rep {w : World} {S : Stab} {m : List Blk} {H : Nat → Value} {l : Lf} {v : Value} (h : Rep w S l v) : AVR (GRep w S m H) (.s (.one l)) v := GRep.of_rep (m := m) (H := H) h
omit [Env] in
theorem cav_rel {w : World} {S : Stab} {m : List Blk} {H : Nat → Value} (v : Value) : AVR (GRep w S m H) (cav v) v := by
  cases v with
  | tuple vs =>
    show AVR _ (if vs.size = 0 then .tup [] else .top) _
    by_cases h : vs.size = 0
    · simp only [h, if_true]
      have : vs = #[] := Array.eq_empty_of_size_eq_zero h
      subst this
      exact avr_undef
    · simp only [h, if_false]; trivial
  | agg cs =>
    show AVR _ (if cs.all (·.oneCell') then .s (.agg (cs.toList.map clf)) else .top) _
    by_cases h : cs.all (·.oneCell') = true
    · rw [if_pos h]
      refine ⟨cs, rfl, by simp, fun j l u h1 h2 => ?_⟩
      rw [List.getElem?_map, h2] at h1
      simp only [Option.map_some, Option.some.injEq] at h1
      subst h1
      refine GRep.of_rep (clf_rep ?_)
      have hu : u ∈ cs := Array.mem_toList_iff.1 (List.mem_of_getElem? h2)
      rw [Array.all_eq_true'] at h
      exact h u hu
    · rw [if_neg h]; trivial
  | bool _ | int _ _ | float _ _ | complex _ _ _ | string _ | pointer _ | slice _ _ _ | map _ | chan _ | func _ _ _ | nilFunc | iface _ _ | nilIface => exact avr_rep (clf_rep rfl)
omit [Env] in
theorem opnd_rel {c : Ctx} {st : AS} {a : Act} {w : World} {S : Stab} {H : Nat → Value} (r : Rel c st a w S H) (x : Operand) : AVR (GRep w S st.m H) (opnd st x) (a.eval x) := by
  cases x with
  | tmp i => exact r.tm i
  | const v => exact cav_rel v
  | global g => exact avr_rep (.raw _ rfl)
  | func f => exact avr_rep (.raw _ rfl)
def AS.put (st : AS) (dst : Option Tmp) (x : AV) : AS := match dst with | some d => st.upd d x | none => st
def QR (c : Ctx) (Q : Exit → AS → Prop) : Exit → Act → World → Prop := fun e a w => ∃ st S H, Rel c st a w S H ∧ Q e st
def AWL (P : Program) (c : Ctx) (ops : Array Oper) (Q : Exit → AS → Prop) (l : List Oper) (st : AS) : Prop :=
  ∀ a w S H, Rel c st a w S H → wpListK P ops (QR c Q) l a w
theorem Rel.atw {c : Ctx} {st : AS} {a : Act} {w w' : World} {S : Stab} {H : Nat → Value} (r : Rel c st a w S H) (hr : Env.Rl w w') : Rel c st a w' S H := by
  obtain ⟨h1, h2, h3⟩ := Env.rlE _ _ hr
  have hx : Ext w S w' S := ⟨h1.2.1, h1.1, h1.2.2, h2, h3, fun _ _ h => h, fun _ _ _ h => h⟩
  exact r.ext hx (r.sl.ext hx)
omit [Env] in
theorem Rel.drew {c : Ctx} {st : AS} {a : Act} {w : World} {S : Stab} {H : Nat → Value} (r : Rel c st a w S H) : Rel c st a w.drew S H := r.ext (Ext.drew w S) (r.sl.ext (Ext.drew w S))
theorem QR.atw {c : Ctx} {Q : Exit → AS → Prop} {e : Exit} {a : Act} {w w' : World} (hr : Env.Rl w w') (h : QR c Q e a w) : QR c Q e a w' := by
  obtain ⟨st, S, H, r, q⟩ := h
  exact ⟨st, S, H, r.atw hr, q⟩
theorem awl_at {P : Program} {c : Ctx} {ops : Array Oper} {Q : Exit → AS → Prop} {l : List Oper} {st : AS} (h : ∀ a w S H, Rel c st a w S H → wpListP P ops (QR c Q) l a w) : AWL P c ops Q l st :=
  fun a _ S H r w' hr => h a w' S H (r.atw hr)
omit [Env] in
theorem bq_int {P : Program} {c : Ctx} {st : AS} {a : Act} {w : World} {S : Stab} {H : Nat → Value} {b : BinOp} {ty u : TypeId} {x y : Operand} {k : IntKind} {n m : Int} (r : Rel c st a w S H) (hx : opnd st x = .s (.one (.i k n))) (hy : opnd st y = .s (.one (.i k m))) : Bq P (.binOp b ty x y u) a := by
  have h1 := opnd_rel r x
  have h2 := opnd_rel r y
  rw [hx] at h1
  rw [hy] at h2
  have e1 : Rep w S (.i k n) (a.eval x) := h1
  have e2 : Rep w S (.i k m) (a.eval y) := h2
  refine .inr (.inl ⟨b, ty, x, y, u, k, n, m, rfl, ?_, ?_⟩)
  · generalize a.eval x = v at e1 ⊢; cases e1; rfl
  · generalize a.eval y = v at e2 ⊢; cases e2; rfl
def AWC (P : Program) (c : Ctx) (x : Code) (Q : Exit → AS → Prop) (st : AS) : Prop :=
  ∀ a w S H, Rel c st a w S H → wpK P x (QR c Q) a w
def OpV (P : Program) (c : Ctx) (st : AS) (op : Op) (ty : TypeId) (x : AV) : Prop :=
  ∀ a w S H, Rel c st a w S H → ∃ v, AVR (GRep w S st.m H) x v ∧ ∀ d pos af g, (execOp a.eval ⟨d, op, ty, pos, af, g⟩).run P w = .ok (.value v) w
section
variable {P : Program} [Nice P] {c : Ctx} {st : AS} {ops : Array Oper} {Q : Exit → AS → Prop} {rest : List Oper} {op : Op} {ty : TypeId} {pos : String} {af : Array Edge} {x : AV} {d : Tmp}
omit [Nice P] in
theorem awl_nil (h : Q .normal st) : AWL P c ops Q [] st := fun _ _ S H r _ hr => ⟨st, S, H, r.atw hr, h⟩
omit [Nice P] in
theorem awl_v (h : OpV P c st op ty x) (hd : d < c.nt) (hb : Env.fr = true → ∀ a w S H, Rel c st a w S H → Bq P op a) (k : AWL P c ops Q rest (st.upd d x)) : AWL P c ops Q (⟨some d, op, ty, pos, af, none⟩ :: rest) st := by
  refine awl_at fun a w S H r => ?_
  obtain ⟨v, hv, hrun⟩ := h a w S H r
  refine wpListP_plain rfl (hb := fun h => hb h a w S H r) fun K hK => ?_
  unfold operK
  rw [hrun]
  exact hK _ _ (k _ _ _ _ (r.put hd hv))
omit [Nice P] in
theorem awl_on {o : Oper} {j : Nat} {want : Bool} {dj : Tmp} (hj : (ops[j]?).bind (·.dst) = some dj) (ht : st.t dj = .s (.one (.b want)))
    (k : AWL P c ops Q ({ o with guard := none } :: rest) st) (hg : o.guard = some (j, want)) (hn : dj < c.nt) : AWL P c ops Q (o :: rest) st := by
  refine awl_at fun a w S H r => ?_
  have hk : wpListP P ops (QR c Q) ({ o with guard := none } :: rest) a w := k a w S H r w (Env.rlR w)
  have hr := r.tm dj
  rw [ht] at hr
  have hv : a.tmps.getD dj undef = .bool want := by
    have hr' : Rep w S (.b want) (a.tmps.getD dj undef) := hr
    generalize a.tmps.getD dj undef = u at hr'
    cases hr'
    rfl
  have hs : a.tmps[dj]? = some (.bool want) := by
    have hd' : dj < a.tmps.size := by rw [r.nt]; exact hn
    simp only [Array.getD_eq_getD_getElem?, Array.getElem?_eq_getElem hd', Option.getD_some] at hv
    rw [Array.getElem?_eq_getElem hd', hv]
  have hw : Region.wanted o (yielded ops a.tmps) = true := by
    simp only [Region.wanted, hg, yielded, hj, Option.bind_some, hs, beq_self_eq_true]
  unfold wpListP at hk ⊢
  rw [if_pos hw]
  rw [if_pos (by rfl)] at hk
  exact hk
omit [Nice P] in
theorem awl_off_of {o : Oper} {j : Nat} {want : Bool} (hg : o.guard = some (j, want)) (hw : ∀ a w S H, Rel c st a w S H → yielded ops a.tmps j ≠ some want)
    (hd : ∀ d, o.dst = some d → d < c.nt) (k : AWL P c ops Q rest (st.put o.dst (.tup []))) : AWL P c ops Q (o :: rest) st := by
  refine awl_at fun a w S H r => ?_
  have hww : Region.wanted o (yielded ops a.tmps) = false := by
    simp only [Region.wanted, hg]
    have := hw a w S H r
    simpa using this
  unfold wpListP
  rw [if_neg (by rw [hww]; simp)]
  cases hdst : o.dst with
  | none =>
    rw [hdst] at k
    exact k a w S H r
  | some d =>
    rw [hdst] at k
    exact k _ _ _ _ (r.put (hd d hdst) avr_undef)
omit [Nice P] in
theorem awl_off {dst : Option Tmp} {j : Nat} {want b : Bool} {dj : Tmp} (hj : (ops[j]?).bind (·.dst) = some dj) (ht : st.t dj = .s (.one (.b b))) (hb : (b == want) = false)
    (hd : ∀ d, dst = some d → d < c.nt)
    (k : AWL P c ops Q rest (st.put dst (.tup []))) : AWL P c ops Q (⟨dst, op, ty, pos, af, some (j, want)⟩ :: rest) st := by
  refine awl_off_of rfl (fun a w S H r => ?_) hd k
  have hr := r.tm dj
  rw [ht] at hr
  have hv : a.tmps.getD dj undef = .bool b := by
    have hr' : Rep w S (.b b) (a.tmps.getD dj undef) := hr
    generalize a.tmps.getD dj undef = u at hr'
    cases hr'
    rfl
  simp only [yielded, hj, Option.bind_some]
  simp only [Array.getD_eq_getD_getElem?] at hv
  cases hs : a.tmps[dj]? with
  | none => simp
  | some u =>
    rw [hs] at hv
    simp only [Option.getD_some] at hv
    subst hv
    simp only [ne_eq, Option.some.injEq]
    intro e
    subst e
    simp at hb
omit [Nice P] in
theorem awl_off' {dst : Option Tmp} {j : Nat} {want : Bool} {dj : Tmp} (hj : (ops[j]?).bind (·.dst) = some dj) (ht : st.t dj = .tup [])
    (hd : ∀ d, dst = some d → d < c.nt)
    (k : AWL P c ops Q rest (st.put dst (.tup []))) : AWL P c ops Q (⟨dst, op, ty, pos, af, some (j, want)⟩ :: rest) st := by
  refine awl_off_of rfl (fun a w S H r => ?_) hd k
  have hr := r.tm dj
  rw [ht] at hr
  obtain ⟨vs, hv, hl, _⟩ := hr
  simp only [yielded, hj, Option.bind_some]
  simp only [Array.getD_eq_getD_getElem?] at hv
  cases hs : a.tmps[dj]? with
  | none => simp
  | some u =>
    rw [hs] at hv
    simp only [Option.getD_some] at hv
    subst hv
    simp
omit [Nice P] in
theorem awl_retell {l : List Oper} {t' : Nat → AV} (h : t' = st.t) (k : AWL P c ops Q l ⟨t', st.m⟩) : AWL P c ops Q l st := by
  subst h; exact k
omit [Env] in
theorem upd_same {t : Nat → AV} {d : Nat} {x : AV} (h : t d = x) : upd t d x = t := by
  funext j
  rw [upd_def]
  split
  · rename_i e; rw [e, h]
  · rfl
omit [Nice P] in
theorem awl_split {l : List Oper} {dj : Tmp} {b : Bool} (ht : st.t dj = .s (.one (.b b))) (k1 : b = true → AWL P c ops Q l (st.upd dj (.s (.one (.b true))))) (k0 : b = false → AWL P c ops Q l (st.upd dj (.s (.one (.b false))))) : AWL P c ops Q l st := by
  cases b
  · have := k0 rfl
    unfold AS.upd at this
    rw [upd_same ht] at this
    exact this
  · have := k1 rfl
    unfold AS.upd at this
    rw [upd_same ht] at this
    exact this
end
omit [Env] in
theorem rep_i {w : World} {S : Stab} {k : IntKind} {n : Int} {v : Value} (h : Rep w S (.i k n) v) : v = .int k n := by cases h; rfl
omit [Env] in
theorem rep_b {w : World} {S : Stab} {x : Bool} {v : Value} (h : Rep w S (.b x) v) : v = .bool x := by cases h; rfl
omit [Env] in
theorem rep_s {w : World} {S : Stab} {x : ByteArray} {v : Value} (h : Rep w S (.s x) v) : v = .string x := by cases h; rfl
omit [Env] in
theorem rep_raw {w : World} {S : Stab} {u v : Value} (h : Rep w S (.raw u) v) : v = u := by cases h; rfl
omit [Env] in
theorem rep_sl {w : World} {S : Stab} {n : Nat} {cs : List Lf} {v : Value} (h : Rep w S (.sl n cs) v) : ∃ a cap, v = .slice a n cap := by cases h <;> exact ⟨_, _, rfl⟩
def Lf.val? : Lf → Option Value
  | .i k n => some (.int k n)
  | .b x => some (.bool x)
  | .s x => some (.string x)
  | .raw v => some v
  | _ => none
omit [Env] in
theorem rep_val {w : World} {S : Stab} {m : List Blk} {H : Nat → Value} {l : Lf} {u v : Value} (h : GRep w S m H l v) (hl : l.val? = some u) : v = u := by
  cases l <;> simp only [Lf.val?, Option.some.injEq, reduceCtorEq] at hl
  · subst hl; exact rep_i h
  · subst hl; exact rep_b h
  · subst hl; exact rep_s h
  · subst hl; exact rep_raw h
section ops
variable {P : Program} [Nice P] {c : Ctx} {st : AS} {ty : TypeId}
omit [Nice P] in
omit [Env] in
theorem opv_move {x : Operand} : OpV P c st (.move x) ty (opnd st x) := fun a _ _ _ r => ⟨a.eval x, opnd_rel r x, fun _ _ _ _ => rfl⟩
omit [Nice P] in
omit [Env] in
theorem opv_assign {x : Operand} : OpV P c st (.assign x) ty (opnd st x) := fun a _ _ _ r => ⟨a.eval x, opnd_rel r x, fun _ _ _ _ => rfl⟩
omit [Nice P] in
omit [Env] in
theorem opv_pick {b x y : Operand} {t : Bool} (hb : opnd st b = .s (.one (.b t))) : OpV P c st (.pick b x y) ty (if t then opnd st x else opnd st y) := by
  intro a w S H r
  have h := opnd_rel r b
  rw [hb] at h
  have hv : a.eval b = .bool t := rep_b (h : Rep w S (.b t) (a.eval b))
  refine ⟨if t then a.eval x else a.eval y, ?_, fun _ _ _ _ => ?_⟩
  · cases t
    · exact opnd_rel r y
    · exact opnd_rel r x
  · simp [execOp, hv, asBool]
omit [Nice P] in
omit [Env] in
theorem opv_bin {op : BinOp} {xt yt : TypeId} {x y : Operand} {l l' lz : Lf} {u u' z : Value} (hx : opnd st x = .s (.one l)) (hy : opnd st y = .s (.one l')) (vx : l.val? = some u) (vy : l'.val? = some u')
    (hr : ∀ w, (do eqGuard op xt x y u u'; binOp op xt u u' : Sem Value).run P w = .ok z w) (vz : lz.val? = some z) (hz : z.oneCell' = true) : OpV P c st (.binOp op xt x y yt) ty (.s (.one lz)) := by
  intro a w S H r
  have h1 := opnd_rel r x
  rw [hx] at h1
  have h2 := opnd_rel r y
  rw [hy] at h2
  have e1 : a.eval x = u := rep_val h1 vx
  have e2 : a.eval y = u' := rep_val h2 vy
  refine ⟨z, ?_, fun _ _ _ _ => ?_⟩
  · show GRep w S st.m H lz z
    cases lz <;> simp only [Lf.val?, Option.some.injEq, reduceCtorEq] at vz <;> subst vz
    · exact Rep.i _ _
    · exact Rep.b _
    · exact Rep.s _
    · exact Rep.raw _ hz
  · have := hr w
    simp only [execOp, e1, e2]
    simp only [Sem.run_bind] at this ⊢
    rw [this]
    rfl
omit [Env] in
theorem go_beq (n m : Int) : (n == m) = decide (n = m) := by
  by_cases h : n = m <;> simp [h]
section int
variable {xt yt : TypeId} {x y : Operand} {k k' : IntKind} {n m : Int}
omit [Nice P] in
omit [Env] in
theorem opv_lss (hx : opnd st x = .s (.one (.i k n))) (hy : opnd st y = .s (.one (.i k m))) : OpV P c st (.binOp .lss xt x y yt) ty (.s (.one (.b (decide (n < m))))) :=
  opv_bin hx hy rfl rfl (fun w => by simp [eqGuard_lss, binOp_lss]) rfl rfl
omit [Nice P] in
omit [Env] in
theorem opv_leq (hx : opnd st x = .s (.one (.i k n))) (hy : opnd st y = .s (.one (.i k m))) : OpV P c st (.binOp .leq xt x y yt) ty (.s (.one (.b (decide (n ≤ m))))) :=
  opv_bin hx hy rfl rfl (fun w => by simp [eqGuard_leq, binOp_leq]) rfl rfl
omit [Nice P] in
omit [Env] in
theorem opv_gtr (hx : opnd st x = .s (.one (.i k n))) (hy : opnd st y = .s (.one (.i k m))) : OpV P c st (.binOp .gtr xt x y yt) ty (.s (.one (.b (decide (m < n))))) :=
  opv_bin hx hy rfl rfl (fun w => by simp [eqGuard_gtr, binOp_gtr]) rfl rfl
omit [Nice P] in
omit [Env] in
theorem opv_geq (hx : opnd st x = .s (.one (.i k n))) (hy : opnd st y = .s (.one (.i k m))) : OpV P c st (.binOp .geq xt x y yt) ty (.s (.one (.b (decide (m ≤ n))))) :=
  opv_bin hx hy rfl rfl (fun w => by simp [eqGuard_geq, binOp_geq]) rfl rfl
omit [Nice P] in
omit [Env] in
theorem opv_ieql (hx : opnd st x = .s (.one (.i k n))) (hy : opnd st y = .s (.one (.i k m))) : OpV P c st (.binOp .eql xt x y yt) ty (.s (.one (.b (decide (n = m))))) :=
  opv_bin hx hy rfl rfl (fun w => by simp [eqGuard_at_int, binOp_eql, go_beq]) rfl rfl
omit [Nice P] in
omit [Env] in
theorem opv_ineq (hx : opnd st x = .s (.one (.i k n))) (hy : opnd st y = .s (.one (.i k m))) : OpV P c st (.binOp .neq xt x y yt) ty (.s (.one (.b (!decide (n = m))))) :=
  opv_bin hx hy rfl rfl (fun w => by simp [eqGuard_at_int, binOp_neq, bne, go_beq]) rfl rfl
omit [Nice P] in
omit [Env] in
theorem opv_add (hx : opnd st x = .s (.one (.i k n))) (hy : opnd st y = .s (.one (.i k m))) : OpV P c st (.binOp .add xt x y yt) ty (.s (.one (.i k (k.wrap (n + m))))) :=
  opv_bin hx hy rfl rfl (fun w => by simp [eqGuard_add, binOp_add, Op.intArith]) rfl rfl
omit [Nice P] in
omit [Env] in
theorem opv_sub (hx : opnd st x = .s (.one (.i k n))) (hy : opnd st y = .s (.one (.i k m))) : OpV P c st (.binOp .sub xt x y yt) ty (.s (.one (.i k (k.wrap (n - m))))) :=
  opv_bin hx hy rfl rfl (fun w => by simp [eqGuard_sub, binOp_sub, Op.intArith]) rfl rfl
end int
omit [Nice P] in
omit [Env] in
theorem opv_beql {xt yt : TypeId} {x y : Operand} {p q : Bool} (hu : P.underlying xt = some .bool) (hx : opnd st x = .s (.one (.b p))) (hy : opnd st y = .s (.one (.b q))) : OpV P c st (.binOp .eql xt x y yt) ty (.s (.one (.b (p == q)))) :=
  opv_bin hx hy rfl rfl (fun w => by simp [eqGuard_at_bool, run_eql_bool w xt p q hu]) rfl rfl
omit [Nice P] in
omit [Env] in
theorem opv_bneq {xt yt : TypeId} {x y : Operand} {p q : Bool} (hu : P.underlying xt = some .bool) (hx : opnd st x = .s (.one (.b p))) (hy : opnd st y = .s (.one (.b q))) : OpV P c st (.binOp .neq xt x y yt) ty (.s (.one (.b (!(p == q))))) :=
  opv_bin hx hy rfl rfl (fun w => by simp [eqGuard_at_bool, run_neq_bool w xt p q hu]) rfl rfl
omit [Nice P] in
omit [Env] in
theorem opv_not {xt : TypeId} {x : Operand} {p : Bool} (hx : opnd st x = .s (.one (.b p))) : OpV P c st (.unOp .not xt x) ty (.s (.one (.b (!p)))) := by
  intro a w S H r
  have h1 := opnd_rel r x
  rw [hx] at h1
  have e1 : a.eval x = .bool p := rep_b h1
  exact ⟨.bool (!p), avr_rep (.b _), fun _ _ _ _ => by simp [execOp, e1, Op.unary]⟩
end ops
end Go.Proofs.Ytnphcnhejgpjgaa.Abs
end
section
namespace Go.Proofs.Ytnphcnhejgpjgaa.Abs
open Go.Proofs.Ytnphcnhejgpjgaa.Co
variable [Env]
open Go.RowKit
structure TI (P : Program) (t : TypeId) (ag : Bool) (sz : Nat) : Prop where
  u : ∃ d, P.underlying t = some d ∧ (match d with | .struct _ | .array _ _ => true | _ => false) = ag
  i : (P.info? t).map (·.size) = some sz
structure FI (P : Program) (s : TypeId) (f off : Nat) : Prop where
  h : ∃ fs fld k, P.underlying s = some (.struct fs) ∧ fs[f]? = some fld ∧ fld.offset = off ∧ (P.info? fld.type).map (·.size) = some k ∧ k ≠ 0
structure SI (P : Program) (t e sz : Nat) : Prop where
  u : P.underlying t = some (.slice e)
  i : (P.info? e).map (·.size) = some sz
  p : 0 < sz
structure AI (P : Program) (t n e sz : Nat) : Prop where
  u : P.underlying t = some (.array n e)
  i : (P.info? e).map (·.size) = some sz
  p : 0 < sz
  n : 1 < n
omit [Env] in
theorem run_sizeOf' {P : Program} [Nice P] {e sz : Nat} (h : (P.info? e).map (·.size) = some sz) (w : World) : (sizeOf e).run P w = .ok sz w := by
  cases hq : P.info? e with
  | none => simp [hq] at h
  | some i =>
    simp only [hq, Option.map_some, Option.some.injEq] at h
    simp [sizeOf, typeInfo, hq, h]
omit [Env] in
theorem TI.run_isAgg {P : Program} [Nice P] {t : TypeId} {ag : Bool} {sz : Nat} (h : TI P t ag sz) (w : World) : (isAgg t).run P w = .ok ag w := by
  obtain ⟨d, hu, hd⟩ := h.u
  unfold isAgg
  rw [Sem.run_bind, run_underlying hu w]
  subst hd
  cases d <;> simp
omit [Env] in
theorem TI.run_load1 {P : Program} [Nice P] {t : TypeId} (h : TI P t false 1) {w : World} {a : Addr} {v : Value} (hc : w.cell? a = some v) : (loadVar t a).run P w = .ok v w := by
  simp [loadVar, h.run_isAgg, hc]
omit [Env] in
theorem TI.run_loadN {P : Program} [Nice P] {t : TypeId} {sz : Nat} (h : TI P t true sz) {w : World} {g off : Nat} {vs : List Value} (hl : vs.length = sz)
    (hc : ∀ (j : Nat) (v : Value), vs[j]? = some v → w.cell? ⟨g, off + j, none⟩ = some v) : (loadVar t ⟨g, off, none⟩).run P w = .ok (.agg vs.toArray) w := by
  have := run_loadCells_list (P := P) w ⟨g, off, none⟩ vs (fun j v hv => by rw [Addr.add_lit]; exact hc j v hv)
  rw [hl] at this
  simp [loadVar, h.run_isAgg, run_sizeOf' h.i, this]
inductive PtrTo (st : AS) : Lf → List Lf → Prop
  | lp (p off : Nat) (cs : List Lf) (h : st.m[p]? = some (.box cs)) : PtrTo st (.lp p off) (cs.drop off)
  | cp (cs : List Lf) : PtrTo st (.cp cs) cs
  | ap (p n off e sz k : Nat) (cs : List Lf) (h : st.m[p]? = some (.arr e sz k cs)) (hn : n * sz = cs.length) : PtrTo st (.ap p n off) (cs.drop off)
omit [Env] in
theorem ptrTo_cells {c : Ctx} {st : AS} {a : Act} {w : World} {S : Stab} {H : Nat → Value} (r : Rel c st a w S H) {l : Lf} {cs : List Lf} (hp : PtrTo st l cs) {v : Value} (hv : GRep w S st.m H l v) :
    ∃ g off, v = .pointer (some ⟨g, off, none⟩) ∧ ∀ (j : Nat) (x : Lf), cs[j]? = some x → ∃ u, w.cell? ⟨g, off + j, none⟩ = some u ∧ GRep w S st.m H x u := by
  cases hp with
  | lp p off cs h =>
    obtain ⟨_, g, hg, rfl⟩ := hv
    refine ⟨g, off, rfl, fun j x hx => ?_⟩
    obtain ⟨g', e, cur, h1, h2, h3⟩ := r.bl p _ h
    rw [hg] at h1
    cases h1
    rw [List.getElem?_drop] at hx
    obtain ⟨u, hu, hr⟩ := h3.get hx
    exact ⟨u, by rw [cell_of_row w _ _ cur e (0, 0) h2]; simpa using hu, hr⟩
  | cp =>
    cases hv with
    | cp cs bk off vals hs hr => exact ⟨bk, off, rfl, fun j x hx => ⟨vals j, (hs j x hx).2, GRep.of_rep (hr j x hx)⟩⟩
  | ap p n off e sz k cs h hn =>
    obtain ⟨_, _, hr⟩ := hv
    obtain ⟨g, cp, h1, rfl⟩ := (hr e sz k cs h).2 hn
    refine ⟨g, off, rfl, fun j x hx => ?_⟩
    obtain ⟨h0, hk, n', vals, hown, hls, _⟩ := r.bl p _ h
    rw [h1] at hown
    rw [List.getElem?_drop] at hx
    obtain ⟨u, hu, hru⟩ := hls.get hx
    have hc := hown.cells (g := g) rfl (off + j) u hu
    rw [Addr.add_lit, Nat.zero_add] at hc
    exact ⟨u, hc, GRep.of_rep hru⟩
section
variable {P : Program} [Nice P] {c : Ctx} {st : AS} {ty : TypeId}
omit [Env] in
theorem opv_load1 {t : TypeId} {x : Operand} {l y : Lf} {cs : List Lf} (ti : TI P t false 1) (hx : opnd st x = .s (.one l)) (hp : PtrTo st l cs) (hy : cs[0]? = some y) :
    OpV P c st (.load t x) ty (.s (.one y)) := by
  intro a w S H r
  have h1 := opnd_rel r x
  rw [hx] at h1
  obtain ⟨g, off, hv, hc⟩ := ptrTo_cells r hp h1
  obtain ⟨u, hu, hr⟩ := hc 0 y hy
  rw [Nat.add_zero] at hu
  refine ⟨u, hr, fun _ _ _ _ => ?_⟩
  simp [execOp, hv, Instr.loadAt, Instr.sureAddr, ti.run_load1 hu]
omit [Env] in
theorem opv_loadN {t : TypeId} {sz : Nat} {x : Operand} {l : Lf} {cs : List Lf} (ti : TI P t true sz) (hx : opnd st x = .s (.one l)) (hp : PtrTo st l cs) (hy : sz ≤ cs.length) :
    OpV P c st (.load t x) ty (.s (.agg (cs.take sz))) := by
  intro a w S H r
  have h1 := opnd_rel r x
  rw [hx] at h1
  obtain ⟨g, off, hv, hc⟩ := ptrTo_cells r hp h1
  have hall : ∃ vs : List Value, vs.length = sz ∧ ∀ (j : Nat) (u : Value), vs[j]? = some u → w.cell? ⟨g, off + j, none⟩ = some u ∧ ∃ y, cs[j]? = some y ∧ GRep w S st.m H y u := by
    refine ⟨(List.range sz).map fun j => (w.cell? ⟨g, off + j, none⟩).getD undef, by simp, fun j u hu => ?_⟩
    rw [List.getElem?_map] at hu
    have hj : j < sz := by
      rcases Nat.lt_or_ge j sz with h | h
      · exact h
      · rw [List.getElem?_eq_none (by simpa using h)] at hu; cases hu
    rw [List.getElem?_range hj] at hu
    simp only [Option.map_some, Option.some.injEq] at hu
    obtain ⟨u', hu', hr'⟩ := hc j _ (List.getElem?_eq_getElem (Nat.lt_of_lt_of_le hj hy))
    rw [hu'] at hu
    simp only [Option.getD_some] at hu
    subst hu
    exact ⟨hu', _, List.getElem?_eq_getElem (Nat.lt_of_lt_of_le hj hy), hr'⟩
  obtain ⟨vs, hl, hvs⟩ := hall
  refine ⟨.agg vs.toArray, ⟨vs.toArray, rfl, by simp [hl, Nat.min_eq_left hy], fun j y u h1 h2 => ?_⟩, fun _ _ _ _ => ?_⟩
  · obtain ⟨_, y', h3, h4⟩ := hvs j u (by simpa using h2)
    have : (cs.take sz)[j]? = some y := h1
    rw [List.getElem?_take] at this
    split at this
    · rw [h3] at this; cases this; exact h4
    · cases this
  · have := ti.run_loadN hl (fun j v hj => (hvs j v hj).1)
    simp [execOp, hv, Instr.loadAt, Instr.sureAddr, this]
def Lf.adv : Lf → Nat → Lf
  | .lp p off, n => .lp p (off + n)
  | .cp cs, n => .cp (cs.drop n)
  | .ap p m off, n => .ap p m (off + n)
  | l, _ => l
def Lf.isPtr : Lf → Bool
  | .lp .. | .cp _ | .ap .. => true
  | _ => false
omit [Env] in
theorem adv_rel {w : World} {S : Stab} {m : List Blk} {H : Nat → Value} {l : Lf} {v : Value} (hl : l.isPtr = true) (h : GRep w S m H l v) (hcur : ∀ p n off, l = .ap p n off → ∃ e sz k cs, m[p]? = some (.arr e sz k cs) ∧ n * sz = cs.length) :
    ∃ g off, v = .pointer (some ⟨g, off, none⟩) ∧ ∀ n, GRep w S m H (l.adv n) (.pointer (some ⟨g, off + n, none⟩)) := by
  cases l with
  | lp p off =>
    obtain ⟨hp, g, hg, rfl⟩ := h
    exact ⟨g, off, rfl, fun n => ⟨hp, g, hg, rfl⟩⟩
  | cp cs =>
    cases h with
    | cp cs bk off vals hs hr =>
      refine ⟨bk, off, rfl, fun n => ?_⟩
      refine Rep.cp (cs.drop n) bk (off + n) (fun j => vals (n + j)) (fun j x hx => ?_) (fun j x hx => ?_)
      · rw [List.getElem?_drop] at hx
        rw [Nat.add_assoc]
        exact hs _ _ hx
      · rw [List.getElem?_drop] at hx
        exact hr _ _ hx
  | ap p n off =>
    obtain ⟨hp, hoo, hr⟩ := h
    obtain ⟨e, sz, k, cs, hm, hn⟩ := hcur p n off rfl
    obtain ⟨g, c', h1, rfl⟩ := (hr e sz k cs hm).2 hn
    refine ⟨g, off, rfl, fun q => ⟨hp, ⟨rfl, hoo.2⟩, fun e' sz' k' cs' hm' => ?_⟩⟩
    rw [hm] at hm'
    cases hm'
    exact ⟨Nat.le_of_eq hn, fun _ => ⟨g, c', h1, rfl⟩⟩
  | _ => cases hl
omit [Env] in
theorem opv_fieldAddr_of {s f off : Nat} {x : Operand} {l : Lf} (fi : FI P s f off) (hx : opnd st x = .s (.one l)) (hl : l.isPtr = true)
    (hcur : ∀ p n o, l = .ap p n o → ∃ e sz k cs, st.m[p]? = some (.arr e sz k cs) ∧ n * sz = cs.length) : OpV P c st (.fieldAddr s x f) ty (.s (.one (l.adv off))) := by
  intro a w S H r
  have h1 := opnd_rel r x
  rw [hx] at h1
  obtain ⟨g, o, hv, hr⟩ := adv_rel hl h1 hcur
  obtain ⟨fs, fld, k, hu, hf, ho, hi, hk⟩ := fi.h
  refine ⟨_, hr off, fun _ _ _ _ => ?_⟩
  subst ho
  have hadd : (⟨g, o, none⟩ : Addr).add fld.offset = ⟨g, o + fld.offset, none⟩ := Addr.add_lit _ _ _
  simp [execOp, hv, Instr.fieldAt, Instr.sureAddr, run_underlying hu, hf, fieldPlace, run_sizeOf' hi, hk, hadd]
omit [Env] in
theorem opv_fieldAddr_lp {s f off : Nat} {x : Operand} {p o : Nat} (fi : FI P s f off) (hx : opnd st x = .s (.one (.lp p o))) : OpV P c st (.fieldAddr s x f) ty (.s (.one (.lp p (o + off)))) :=
  opv_fieldAddr_of fi hx rfl (fun _ _ _ h => by cases h)
omit [Env] in
theorem opv_fieldAddr_cp {s f off : Nat} {x : Operand} {cs : List Lf} (fi : FI P s f off) (hx : opnd st x = .s (.one (.cp cs))) : OpV P c st (.fieldAddr s x f) ty (.s (.one (.cp (cs.drop off)))) :=
  opv_fieldAddr_of fi hx rfl (fun _ _ _ h => by cases h)
omit [Env] in
theorem run_indexAt_slice {t e sz : Nat} (si : SI P t e sz) (w : World) (g off n cap : Nat) (k : IntKind) (j : Int) (h0 : 0 ≤ j) (h1 : j < n) :
    (Instr.indexAt t (.slice (some ⟨g, off, none⟩) n cap) (.int k j)).run P w = .ok (.pointer (some ⟨g, off + j.toNat * sz, none⟩)) w := by
  have hadd : (⟨g, off, none⟩ : Addr).add (j.toNat * sz) = ⟨g, off + j.toNat * sz, none⟩ := Addr.add_lit _ _ _
  simp [Instr.indexAt, asIntOf, run_underlying si.u, h0, h1, run_sizeOf' si.i, hadd]
omit [Env] in
theorem opv_indexAddr_sl {t e sz : Nat} {x y : Operand} {n : Nat} {cs : List Lf} {k : IntKind} {j : Int} (si : SI P t e sz) (hx : opnd st x = .s (.one (.sl n cs))) (hy : opnd st y = .s (.one (.i k j))) (h0 : 0 ≤ j) (h1 : j < n) :
    OpV P c st (.indexAddr t x y) ty (.s (.one (.cp (cs.drop (j.toNat * sz))))) := by
  intro a w S H r
  have hx' := opnd_rel r x
  rw [hx] at hx'
  have hy' := opnd_rel r y
  rw [hy] at hy'
  have ey : a.eval y = .int k j := rep_i hy'
  have hx'' : Rep w S (.sl n cs) (a.eval x) := hx'
  generalize hu : a.eval x = u at hx''
  cases hx'' with
  | sl0 a' cap => simp at h1; omega
  | sl n cs bk off cap vals hc hm hs hr =>
    refine ⟨.pointer (some ⟨bk, off + j.toNat * sz, none⟩), avr_rep ?_, fun _ _ _ _ => ?_⟩
    · refine Rep.cp _ bk _ (fun i => vals (j.toNat * sz + i)) (fun i l hl => ?_) (fun i l hl => ?_)
      · rw [List.getElem?_drop] at hl
        rw [Nat.add_assoc]
        exact hs _ _ hl
      · rw [List.getElem?_drop] at hl
        exact hr _ _ hl
    · simp [execOp, hu, ey, run_indexAt_slice si w bk off n cap k j h0 h1]
omit [Env] [Nice P] in
theorem opv_extract {x : Operand} {xs : List SV} {ix : Nat} {y : SV} (hx : opnd st x = .tup xs) (hy : xs[ix]? = some y) : OpV P c st (.extract x ix) ty (.s y) := by
  intro a w S H r
  have hx' := opnd_rel r x
  rw [hx] at hx'
  obtain ⟨vs, hv, hl, hr⟩ := hx'
  have hj : ix < vs.size := by rw [← hl]; exact (List.getElem?_eq_some_iff.1 hy).1
  have hg : vs[ix]? = some vs[ix] := Array.getElem?_eq_getElem hj
  refine ⟨vs[ix], hr ix y _ hy hg, fun _ _ _ _ => ?_⟩
  simp [execOp, hv, Instr.extract, hg]
omit [Env] [Nice P] in
theorem opv_len_sl {t : TypeId} {x : Operand} {n : Nat} {cs : List Lf} {e sz : Nat} (si : SI P t e sz) (hx : opnd st x = .s (.one (.sl n cs))) :
    OpV P c st (.call { callee := .builtin .len, args := #[x], argTypes := #[t] }) ty (.s (.one (.i .i64 n))) := by
  intro a w S H r
  have hx' := opnd_rel r x
  rw [hx] at hx'
  obtain ⟨ad, cap, hv⟩ := rep_sl (hx' : Rep w S (.sl n cs) (a.eval x))
  refine ⟨.int .i64 n, avr_rep (.i _ _), fun _ _ _ _ => ?_⟩
  simp [execOp, resolve, invoke, builtin, Builtin.len_, run_underlying si.u, hv, goInt]
omit [Env] [Nice P] in
theorem opv_len_ls {t : TypeId} {x : Operand} {p n e sz e' kk : Nat} {cs : List Lf} (si : SI P t e sz) (hx : opnd st x = .s (.one (.ls p n))) (hm : st.m[p]? = some (.arr e' sz kk cs)) (hn : n * sz = cs.length) :
    OpV P c st (.call { callee := .builtin .len, args := #[x], argTypes := #[t] }) ty (.s (.one (.i .i64 n))) := by
  intro a w S H r
  have hx' := opnd_rel r x
  rw [hx] at hx'
  obtain ⟨hp, _, hr⟩ := hx'
  have hH := (hr _ _ _ _ hm).2 hn
  obtain ⟨hsz, _, n', vals, hown, hls, _⟩ := r.bl p _ hm
  have hn' : n' = n := by
    have h3 := hown.1
    rw [← hls.1, ← hn] at h3
    exact (Nat.eq_of_mul_eq_mul_right hsz h3).symm
  subst hn'
  have hsh : ∃ g cap, H p = .slice g n' cap := by
    rcases hown.2 with ⟨hv, h0'⟩ | ⟨g, cap, cur, hv, _⟩
    · exact ⟨none, 0, by rw [hv, h0']⟩
    · exact ⟨_, cap, hv⟩
  obtain ⟨g, cap, hg⟩ := hsh
  refine ⟨.int .i64 n', avr_rep (.i _ _), fun _ _ _ _ => ?_⟩
  simp [execOp, resolve, invoke, builtin, Builtin.len_, run_underlying si.u, hH, hg, goInt]
omit [Env] [Nice P] in
theorem opv_min {ts : Array TypeId} {x y : Operand} {k k' : IntKind} {n m : Int} (hx : opnd st x = .s (.one (.i k n))) (hy : opnd st y = .s (.one (.i k' m))) :
    OpV P c st (.call { callee := .builtin .min, args := #[x, y], argTypes := ts }) ty (.s (.one (.i k (if m < n then m else n)))) := by
  intro a w S H r
  have hx' := opnd_rel r x
  rw [hx] at hx'
  have hy' := opnd_rel r y
  rw [hy] at hy'
  have ex : a.eval x = .int k n := rep_i hx'
  have ey : a.eval y = .int k' m := rep_i hy'
  refine ⟨.int k _, avr_rep (.i _ _), fun _ _ _ _ => ?_⟩
  simp [execOp, resolve, invoke, builtin, ex, ey, run_min_int2]
end
end Go.Proofs.Ytnphcnhejgpjgaa.Abs
end
section
namespace Go.Proofs.Ytnphcnhejgpjgaa.Abs
open Go.Proofs.Ytnphcnhejgpjgaa.Co
variable [Env]
open Go.RowKit
omit [Env] in
theorem Rel.newBox {c : Ctx} {st : AS} {a : Act} {w : World} {S : Stab} {H : Nat → Value} (r : Rel c st a w S H) {e : TypeId} {cells : Array Value} {ls : List Lf} (hls : LsR (GRep w S st.m H) ls cells.toList) :
    Rel c ⟨st.t, st.m ++ [.box ls]⟩ a (w.alloc (.cells cells e)) S (fun p => if p = st.m.length then .pointer (some ⟨w.heap.size, 0, none⟩) else H p) := by
  have hx : Ext w S (w.alloc (.cells cells e)) S := Ext.alloc w S _
  have hS : InH (w.alloc (.cells cells e)) S := r.sl.ext hx
  have r' := r.ext hx hS
  have hmm : ∀ (p : Nat) (b : Blk), (st.m ++ [Blk.box ls])[p]? = some b → (p < st.m.length ∧ st.m[p]? = some b) ∨ (p = st.m.length ∧ b = .box ls) := by
    intro p b h
    rcases Nat.lt_or_ge p st.m.length with hp | hp
    · rw [List.getElem?_append_left hp] at h; exact .inl ⟨hp, h⟩
    · rw [List.getElem?_append_right hp] at h
      rcases Nat.eq_or_lt_of_le hp with he | he
      · rw [← he] at h; simp at h; exact .inr ⟨he.symm, h.symm⟩
      · rw [List.getElem?_eq_none (by simp; omega)] at h; cases h
  have hg : ∀ l v, GRep (w.alloc (.cells cells e)) S st.m H l v → GRep (w.alloc (.cells cells e)) S (st.m ++ [.box ls]) (fun p => if p = st.m.length then .pointer (some ⟨w.heap.size, 0, none⟩) else H p) l v := by
    intro l v
    refine GRep.mono (fun b i h => ⟨h, rfl⟩) (by simp) (fun p hp => if_neg (Nat.ne_of_lt hp)) (fun p e sz k cs hp hm => ⟨k, cs, ?_, rfl⟩)
    rw [List.getElem?_append_left hp] at hm
    exact hm
  have hH : ∀ p, p < st.m.length → (fun p => if p = st.m.length then Value.pointer (some ⟨w.heap.size, 0, none⟩) else H p) p = H p := fun p hp => if_neg (Nat.ne_of_lt hp)
  have hHn : (fun p => if p = st.m.length then Value.pointer (some ⟨w.heap.size, 0, none⟩) else H p) st.m.length = .pointer (some ⟨w.heap.size, 0, none⟩) := if_pos rfl
  generalize hHH : (fun p => if p = st.m.length then Value.pointer (some ⟨w.heap.size, 0, none⟩) else H p) = H' at *
  refine ⟨r'.nt, r'.df, fun i => AVR.mono hg (r'.tm i), fun p b hb => ?_, fun p b g hb ho => ?_, fun p q b b' g hb hb' ho ho' => ?_, fun p b g i hb ho hs => ?_, hS, r'.ex, Nat.le_trans r'.kl (by simp), fun p g hp hh => ?_, fun p e' sz k cs hp hm => ?_, fun p hp hne => by rw [hH p (Nat.lt_of_lt_of_le hp r'.kl)]; exact r'.ku p hp hne⟩
  · rcases hmm p b hb with ⟨hp, hb'⟩ | ⟨rfl, rfl⟩
    · have hr := r'.bl p b hb'
      rw [hH p hp]
      cases b with
      | dead => trivial
      | hole => exact hr
      | obj g mk cs => exact hr
      | tab mk cs => exact hr
      | box cs =>
        obtain ⟨g, e, cur, h1, h2, h3⟩ := hr
        exact ⟨g, e, cur, h1, h2, h3.mono hg⟩
      | arr e sz k cs => exact hr
    · rw [hHn]
      exact ⟨w.heap.size, e, cells, rfl, heap_alloc_new w _, (hls.mono (fun l v h => GRep.mono (hx.keeps r.sl) (Nat.le_refl _) (fun _ _ => rfl) (fun p e sz k cs _ hm => ⟨k, cs, hm, rfl⟩) h)).mono hg⟩
  · rcases hmm p b hb with ⟨hp, hb'⟩ | ⟨rfl, rfl⟩
    · rw [hH p hp] at ho
      exact r'.lo p b g hb' ho
    · rw [hHn] at ho
      simp only [Blk.own, ownOf, Option.some.injEq] at ho
      subst ho
      exact ⟨.inl r.ex.size, by simp⟩
  · have old : ∀ p b, p < st.m.length → st.m[p]? = some b → b.own (H p) = some g → g < w.heap.size := fun p b _ hb ho => (r.lo p b g hb ho).2
    rcases hmm p b hb with ⟨hp, hb1⟩ | ⟨rfl, rfl⟩ <;> rcases hmm q b' hb' with ⟨hq, hb2⟩ | ⟨rfl, rfl⟩
    · rw [hH p hp] at ho; rw [hH q hq] at ho'
      exact r.inj p q b b' g hb1 hb2 ho ho'
    · rw [hH p hp] at ho; rw [hHn] at ho'
      simp only [Blk.own, ownOf, Option.some.injEq] at ho'
      have := old p b hp hb1 ho
      omega
    · rw [hH q hq] at ho'; rw [hHn] at ho
      simp only [Blk.own, ownOf, Option.some.injEq] at ho
      have := old q b' hq hb2 ho'
      omega
    · rfl
  · rcases hmm p b hb with ⟨hp, hb'⟩ | ⟨rfl, rfl⟩
    · rw [hH p hp] at ho
      exact r.sb p b g i hb' ho hs
    · rw [hHn] at ho
      simp only [Blk.own, ownOf, Option.some.injEq] at ho
      subst ho
      exact absurd (r.sl.1 _ i hs) (Nat.lt_irrefl _)
  · exact (hH p (Nat.lt_of_lt_of_le hp r'.kl)).trans (r'.kh p g hp hh)
  · have hp' := Nat.lt_of_lt_of_le hp r'.kl
    rw [hH p hp']
    refine r'.kr p e' sz k cs hp ?_
    rw [List.getElem?_append_left hp'] at hm
    exact hm
structure ZI (P : Program) (t : TypeId) (zl : List Lf) : Prop where
  h : ∃ i z, P.info? t = some i ∧ i.zero = some z ∧ z.cells.toList.map clf = zl ∧ z.cells.all (·.oneCell') = true
omit [Env] in
theorem clf_list {w : World} {S : Stab} {m : List Blk} {H : Nat → Value} {cs : Array Value} (h : cs.all (·.oneCell') = true) : LsR (GRep w S m H) (cs.toList.map clf) cs.toList := by
  refine ⟨by simp, fun j l u h1 h2 => ?_⟩
  rw [List.getElem?_map, h2] at h1
  simp only [Option.map_some, Option.some.injEq] at h1
  subst h1
  refine GRep.of_rep (clf_rep ?_)
  have hu : u ∈ cs := Array.mem_toList_iff.1 (List.mem_of_getElem? h2)
  rw [Array.all_eq_true'] at h
  exact h u hu
section
variable {P : Program} [Nice P] {c : Ctx} {st : AS} {ops : Array Oper} {Q : Exit → AS → Prop} {rest : List Oper} {ty : TypeId} {pos : String} {af : Array Edge} {d : Tmp}
omit [Nice P] in
theorem awl_newBox {op : Op} {ls : List Lf} (hd : d < c.nt) (hb : Env.fr = true → frOp P op = true)
    (h : ∀ a w S H, Rel c st a w S H → ∃ cells e, LsR (GRep w S st.m H) ls cells.toList ∧ (execOp a.eval ⟨some d, op, ty, pos, af, none⟩).run P w = .ok (.value (.pointer (some ⟨w.heap.size, 0, none⟩))) (w.alloc (.cells cells e)))
    (k : AWL P c ops Q rest ⟨Go.Proofs.Ytnphcnhejgpjgaa.Abs.upd st.t d (.s (.one (.lp st.m.length 0))), st.m ++ [.box ls]⟩) : AWL P c ops Q (⟨some d, op, ty, pos, af, none⟩ :: rest) st := by
  refine awl_at fun a w S H r => ?_
  obtain ⟨cells, e, hls, hrun⟩ := h a w S H r
  refine wpListP_plain rfl (hb := fun h => .inl (hb h)) fun K hK => ?_
  unfold operK
  rw [hrun]
  refine hK _ _ (k _ _ _ _ ((r.newBox (e := e) hls).put (d := d) (x := .s (.one (.lp st.m.length 0))) hd ?_))
  exact ⟨by simp, w.heap.size, by simp, rfl⟩
omit [Nice P] in
theorem awl_alloc {t : TypeId} {zl : List Lf} (zi : ZI P t zl) (hd : d < c.nt)
    (k : AWL P c ops Q rest ⟨Go.Proofs.Ytnphcnhejgpjgaa.Abs.upd st.t d (.s (.one (.lp st.m.length 0))), st.m ++ [.box zl]⟩) : AWL P c ops Q (⟨some d, .alloc t, ty, pos, af, none⟩ :: rest) st := by
  refine awl_newBox hd (fun _ => rfl) (fun a w S H r => ?_) k
  obtain ⟨i, z, hi, hz, hl, ho⟩ := zi.h
  subst hl
  exact ⟨z.cells, t, clf_list ho, by simp [execOp, Instr.alloc, zeroValue, typeInfo, hi, hz, newVar, newRow]⟩
def SV.cells : SV → List Lf
  | .one l => [l]
  | .agg ls => ls
omit [Env] in
theorem svr_cells {R : Lf → Value → Prop} {x : SV} {v : Value} (h : SVR R x v) (ho : ∀ l v, R l v → v.oneCell' = true) : LsR R x.cells v.cells.toList := by
  cases x with
  | one l =>
    have h' : R l v := h
    have hv : v.cells = #[v] := by
      have := ho l v h'
      cases v <;> first | rfl | cases this
    rw [hv]
    refine ⟨rfl, fun j l' u h1 h2 => ?_⟩
    cases j with
    | zero =>
      simp only [SV.cells, List.getElem?_cons_zero, Option.some.injEq] at h1 h2
      subst h1; subst h2
      exact h'
    | succ j => simp [SV.cells] at h1
  | agg ls =>
    obtain ⟨cs, rfl, hl⟩ := h
    exact hl
omit [Nice P] in
theorem awl_box {t : TypeId} {y : Operand} {x : SV} (hx : opnd st y = .s x) (hd : d < c.nt)
    (k : AWL P c ops Q rest ⟨Go.Proofs.Ytnphcnhejgpjgaa.Abs.upd st.t d (.s (.one (.lp st.m.length 0))), st.m ++ [.box x.cells]⟩) : AWL P c ops Q (⟨some d, .box t y, ty, pos, af, none⟩ :: rest) st := by
  refine awl_newBox hd (fun _ => rfl) (fun a w S H r => ?_) k
  have h := opnd_rel r y
  rw [hx] at h
  exact ⟨(a.eval y).cells, t, svr_cells h (fun l v => GRep.oneCell), by simp [execOp, Instr.box, newVar, newRow]⟩
def putAt (cs : List Lf) (off : Nat) (ls : List Lf) : List Lf := cs.take off ++ ls ++ cs.drop (off + ls.length)
omit [Env] in
theorem getElem?_putAt {α : Type} (cs ls : List α) (off j : Nat) (h : off + ls.length ≤ cs.length) :
    (cs.take off ++ ls ++ cs.drop (off + ls.length))[j]? = if j < off then cs[j]? else if j < off + ls.length then ls[j - off]? else cs[j]? := by
  have h1 : (cs.take off).length = off := by simp; omega
  by_cases a : j < off
  · rw [if_pos a, List.append_assoc, List.getElem?_append_left (by omega), List.getElem?_take, if_pos a]
  · rw [if_neg a]
    by_cases b : j < off + ls.length
    · rw [if_pos b, List.getElem?_append_left (by simp; omega), List.getElem?_append_right (by omega), h1]
    · rw [if_neg b, List.getElem?_append_right (by simp; omega), List.getElem?_drop]
      congr 1
      simp
      omega
omit [Env] in
theorem Rel.setBox {c : Ctx} {st : AS} {a : Act} {w : World} {S : Stab} {H : Nat → Value} (r : Rel c st a w S H) {p off g : Nat} {cs ls : List Lf} {e : TypeId} {cur : Array Value} {us : List Value}
    (hm : st.m[p]? = some (.box cs)) (hH : H p = .pointer (some ⟨g, 0, none⟩)) (hg : w.heap[g]? = some (.cells cur e (0, 0))) (hls : LsR (GRep w S st.m H) ls us) (hfit : off + ls.length ≤ cs.length) :
    Rel c ⟨st.t, st.m.set p (.box (putAt cs off ls))⟩ a (w.setRow g (cur.toList.take off ++ us ++ cur.toList.drop (off + us.length)).toArray) S H := by
  have hown : (Blk.box cs).own (H p) = some g := by rw [hH]; rfl
  have hlo := r.lo p _ g hm hown
  have hp : p < st.m.length := (List.getElem?_eq_some_iff.1 hm).1
  have hst : ∀ i, ¬ S g i := fun i hs => by have := r.sb p _ g i hm hown hs; simp [Blk.stab] at this
  have hkeep : ∀ b i, S b i → S b i ∧ (w.setRow g (cur.toList.take off ++ us ++ cur.toList.drop (off + us.length)).toArray).cell? ⟨b, i, none⟩ = w.cell? ⟨b, i, none⟩ := by
    intro b i hs
    refine ⟨hs, cell_setRow_other w g _ ⟨b, i, none⟩ (fun e => hst i ?_)⟩
    have e' : b = g := by first | exact e | exact e.symm
    subst e'
    exact hs
  have hgr : ∀ l v, GRep w S st.m H l v → GRep (w.setRow g (cur.toList.take off ++ us ++ cur.toList.drop (off + us.length)).toArray) S (st.m.set p (.box (putAt cs off ls))) H l v := by
    intro l v
    refine GRep.mono hkeep (by simp) (fun _ _ => rfl) (fun q e sz k cs' hq hm' => ⟨k, cs', ?_, rfl⟩)
    by_cases hqp : p = q
    · subst hqp; rw [List.getElem?_set_self hp] at hm'; cases hm'
    · rw [List.getElem?_set_ne hqp] at hm'; exact hm'
  have hoth : ∀ k, k ≠ g → (w.setRow g (cur.toList.take off ++ us ++ cur.toList.drop (off + us.length)).toArray).heap[k]? = w.heap[k]? := fun k hk => setRow_other w g k _ hk
  have hsame : (w.setRow g (cur.toList.take off ++ us ++ cur.toList.drop (off + us.length)).toArray).heap[g]? = some (.cells (cur.toList.take off ++ us ++ cur.toList.drop (off + us.length)).toArray e (0, 0)) := setRow_heap w g cur _ e _ hg
  have hcur : LsR (GRep w S st.m H) cs cur.toList := by
    obtain ⟨g', e', cur', h1, h2, h3⟩ := r.bl p _ hm
    rw [hH] at h1
    cases h1
    rw [hg] at h2
    cases h2
    exact h3
  have hmm : ∀ (q : Nat) (b : Blk), (st.m.set p (.box (putAt cs off ls)))[q]? = some b → (q = p ∧ b = .box (putAt cs off ls)) ∨ (q ≠ p ∧ st.m[q]? = some b) := by
    intro q b h
    by_cases hqp : p = q
    · subst hqp; rw [List.getElem?_set_self hp] at h; cases h; exact .inl ⟨rfl, rfl⟩
    · rw [List.getElem?_set_ne hqp] at h; exact .inr ⟨fun e => hqp e.symm, h⟩
  have hothb : ∀ (q : Nat) (b : Blk) (g' : Nat), q ≠ p → st.m[q]? = some b → b.own (H q) = some g' → g' ≠ g := fun q b g' hq hb ho e => by
    subst e
    exact hq (r.inj q p b _ g' hb hm ho hown)
  generalize hw' : w.setRow g (cur.toList.take off ++ us ++ cur.toList.drop (off + us.length)).toArray = w' at *
  have hsz : w'.heap.size = w.heap.size := by rw [← hw']; simp
  refine ⟨r.nt, r.df, fun i => AVR.mono hgr (r.tm i), fun q b hb => ?_, fun q b g' hb ho => ?_, fun q q' b b' g' hb hb' ho ho' => ?_, fun q b g' i hb ho hs => ?_, r.sl.turn (· = g) (fun g' i e' hs => absurd hs (by subst e'; exact hst i)) (fun q _ hne => hoth q hne) (Nat.le_of_eq hsz.symm) (fun b i hs => (hkeep b i hs).2), ?_, (by simpa using r.kl), r.kh, fun q e' sz k cs' hq hm' => ?_, r.ku⟩
  · rcases hmm q b hb with ⟨rfl, rfl⟩ | ⟨hq, hb'⟩
    · refine ⟨g, e, _, hH, hsame, ?_⟩
      have hll : us.length = ls.length := hls.1.symm
      refine ⟨by simp only [putAt, List.length_append, List.length_take, List.length_drop]; rw [hll, hcur.1], fun j l u h1 h2 => ?_⟩
      unfold putAt at h1
      rw [getElem?_putAt cs ls off j hfit] at h1
      simp only at h2
      rw [getElem?_putAt cur.toList us off j (by rw [hll, ← hcur.1]; exact hfit)] at h2
      rw [hll] at h2
      refine hgr _ _ ?_
      by_cases a : j < off
      · rw [if_pos a] at h1 h2; exact hcur.2 j l u h1 h2
      · rw [if_neg a] at h1 h2
        by_cases b : j < off + ls.length
        · rw [if_pos b] at h1 h2; exact hls.2 _ l u h1 h2
        · rw [if_neg b] at h1 h2; exact hcur.2 j l u h1 h2
    · have hr := r.bl q b hb'
      have ho := hothb q b
      cases b with
      | dead => trivial
      | hole => exact hr
      | obj g' mk cs' =>
        obtain ⟨h1, vs, o, h2, h3, h4, h5⟩ := hr
        exact ⟨h1, vs, o, (hoth g' (ho g' hq hb' (by rw [h1]; rfl))).trans h2, h3, h4, h5.mono (fun l v => Rep.mono hkeep)⟩
      | tab mk cs' =>
        obtain ⟨g', h1, vs, o, h2, h3, h4, h5⟩ := hr
        exact ⟨g', h1, vs, o, (hoth g' (ho g' hq hb' (by rw [h1]; rfl))).trans h2, h3, h4, h5.mono (fun l v => Rep.mono hkeep)⟩
      | box cs' =>
        obtain ⟨g', e', cur', h1, h2, h3⟩ := hr
        exact ⟨g', e', cur', h1, (hoth g' (ho g' hq hb' (by rw [h1]; rfl))).trans h2, h3.mono hgr⟩
      | arr e' sz k cs' =>
        obtain ⟨h0, hk1, n, vals, h1, h2, h3⟩ := hr
        exact ⟨h0, hk1, n, vals, ownsRow_of_block h1 (fun g' hgo => hoth g' (ho g' hq hb' hgo)), h2.mono (fun l v => Rep.mono hkeep), h3⟩
  · rw [hsz]
    rcases hmm q b hb with ⟨rfl, rfl⟩ | ⟨hq, hb'⟩
    · exact r.lo q _ g' hm ho
    · exact r.lo q b g' hb' ho
  · rcases hmm q b hb with ⟨rfl, rfl⟩ | ⟨hq, hb1⟩ <;> rcases hmm q' b' hb' with ⟨rfl, rfl⟩ | ⟨hq', hb2⟩
    · rfl
    · exact r.inj _ _ _ _ g' hm hb2 ho ho'
    · exact r.inj _ _ _ _ g' hb1 hm ho ho'
    · exact r.inj _ _ _ _ g' hb1 hb2 ho ho'
  · rcases hmm q b hb with ⟨rfl, rfl⟩ | ⟨hq, hb'⟩
    · exact absurd (r.sb q _ g' i hm ho hs) (by simp [Blk.stab])
    · exact r.sb q b g' i hb' ho hs
  · have hx := r.ex
    refine ⟨?_, ?_, ?_, by rw [hsz]; exact hx.size, fun b hb hX => ?_, hx.sub, fun b i hs => (hkeep b i (hx.sub b i hs)).2.trans (hx.stab b i hs), hx.back⟩
    · rw [← hx.os, ← hw']; rfl
    · rw [← hx.tape, ← hw']; rfl
    · rw [← hx.output, ← hw']; rfl
    · rw [hoth b (fun e => by subst e; exact hlo.1.elim (fun h => by omega) (fun h => hX h))]
      exact hx.blk b hb hX
  · rcases hmm q _ hm' with ⟨_, h⟩ | ⟨_, h⟩
    · cases h
    · exact r.kr q e' sz k cs' hq h
theorem awl_store {t : TypeId} {x y : Operand} {p off sz : Nat} {v : SV} {cs : List Lf} (hi : (P.info? t).map (·.size) = some sz) (hx : opnd st x = .s (.one (.lp p off))) (hy : opnd st y = .s v) (hm : st.m[p]? = some (.box cs))
    (hv : v.cells.length = sz) (hfit : off + sz ≤ cs.length)
    (k : AWL P c ops Q rest ⟨st.t, st.m.set p (.box (putAt cs off v.cells))⟩) : AWL P c ops Q (⟨none, .store t x y, ty, pos, af, none⟩ :: rest) st := by
  refine awl_at fun a w S H r => ?_
  have hx' := opnd_rel r x
  rw [hx] at hx'
  obtain ⟨_, g, hH, ex⟩ := hx'
  have hy' := opnd_rel r y
  rw [hy] at hy'
  have hls := svr_cells hy' (fun l v => GRep.oneCell)
  obtain ⟨g', e, cur, h1, hg, hcur⟩ := r.bl p _ hm
  rw [hH] at h1
  cases h1
  have hlen : (a.eval y).cells.toList.length = sz := by rw [← hls.1, hv]
  have hone : ∀ u ∈ (a.eval y).cells.toList, u.oneCell' = true := by
    intro u hu
    obtain ⟨j, hj, hju⟩ := List.getElem_of_mem hu
    have hj' : j < v.cells.length := by rw [hls.1]; exact hj
    exact GRep.oneCell (hls.2 j _ u (List.getElem?_eq_getElem hj') (by rw [List.getElem?_eq_getElem hj, hju]))
  have hst := run_storeCells_at P g off e (a.eval y).cells.toList 0 cur w hg (by rw [hlen, Nat.add_zero, ← Array.length_toList, ← hcur.1]; exact hfit) hone
  simp only [Nat.add_zero] at hst
  refine wpListP_plain rfl fun K hK => ?_
  unfold operK
  have hrun : (execOp a.eval ⟨none, .store t x y, ty, pos, af, none⟩).run P w = .ok .skip (w.setRow g (cur.toList.take off ++ (a.eval y).cells.toList ++ cur.toList.drop (off + (a.eval y).cells.toList.length)).toArray) := by
    have hszz : (a.eval y).cells.size = sz := by simpa using hlen
    simp only [execOp, ex, Instr.storeAt, Instr.sureAddr, storeVar, Sem.run_bind, Sem.run_pure, Result.andThen_ok, run_sizeOf' hi, hszz, ne_eq, not_true_eq_false, if_false, hst]
  rw [hrun]
  exact hK a _ (k a _ S H (r.setBox (off := off) hm hH hg hls (by rw [hv]; exact hfit)))
end
end Go.Proofs.Ytnphcnhejgpjgaa.Abs
end
section
namespace Go.Proofs.Ytnphcnhejgpjgaa.Abs
open Go.Proofs.Ytnphcnhejgpjgaa.Co
variable [Env]
open Go.RowKit
instance : Inhabited Lf := ⟨.b false⟩
def setH (H : Nat → Value) (p : Nat) (v : Value) : Nat → Value := fun q => if q = p then v else H q
omit [Env] in
theorem setH_same (H : Nat → Value) (p : Nat) (v : Value) : setH H p v p = v := if_pos rfl
omit [Env] in
theorem setH_other (H : Nat → Value) {p q : Nat} (v : Value) (h : q ≠ p) : setH H p v q = H q := if_neg h
omit [Env] in
theorem own_cell {base : Nat} {w : World} {S : Stab} {m : List Blk} {H : Nat → Value} {b : Blk} {h : Value} (hb : BlkR base w S m H b h) {g i : Nat} (ho : b.own h = some g) (hi : i < b.stab) : w.cell? ⟨g, i, none⟩ ≠ none := by
  cases b with
  | arr e sz k cs =>
    obtain ⟨_, hk, n, vals, h1, h2, _⟩ := hb
    have hj : i < vals.length := by rw [← h2.1]; exact Nat.lt_of_lt_of_le hi hk
    rcases h1.2 with ⟨hv, _⟩ | ⟨g', cap, cur, hv, _, hg, _, _, hcs, ht⟩
    · rw [hv] at ho; cases ho
    · rw [hv] at ho
      cases ho
      rw [cell_of_row w g' i cur e (0, 0) hg]
      rw [← ht, List.length_take] at hj
      intro hc
      rw [Array.getElem?_eq_none_iff] at hc
      rw [Array.length_toList] at hj
      omega
  | box cs => exact absurd hi (Nat.not_lt_zero _)
  | dead => exact absurd hi (Nat.not_lt_zero _)
  | hole => exact absurd hi (Nat.not_lt_zero _)
  | obj g mk cs => exact absurd hi (Nat.not_lt_zero _)
  | tab mk cs => exact absurd hi (Nat.not_lt_zero _)
omit [Env] in
theorem Rel.changeM {c : Ctx} {st : AS} {a : Act} {w w' : World} {S S' : Stab} {H : Nat → Value} (r : Rel c st a w S H) {m' : List Blk} {p : Nat} {b' : Blk} {v : Value}
    (hlen : st.m.length ≤ m'.length) (hpm : m'[p]? = some b') (hoth : ∀ q, q ≠ p → m'[q]? = st.m[q]?)
    (hkeep : ∀ b i, S b i → S' b i ∧ w'.cell? ⟨b, i, none⟩ = w.cell? ⟨b, i, none⟩)
    (hbox : ∀ g, p < st.m.length → H p = .pointer (some ⟨g, 0, none⟩) → v = H p)
    (harr : ∀ e sz k cs, p < st.m.length → (H p ≠ undef ∨ p < c.m0.length) → b' = .arr e sz k cs → ∃ k' cs', st.m[p]? = some (.arr e sz k' cs') ∧ ((cs'.length = cs.length ∧ v = H p) ∨ cs'.length < cs.length))
    (hblk : ∀ g, g < w.heap.size → (∀ b, st.m[p]? = some b → b.own (H p) ≠ some g) → w'.heap[g]? = w.heap[g]?)
    (hb' : BlkR 0 w' S' m' (setH H p v) b' v)
    (hown : ∀ g, b'.own v = some g → (c.w0.heap.size ≤ g ∨ c.X g) ∧ g < w'.heap.size ∧ (∀ q b, q ≠ p → st.m[q]? = some b → b.own (H q) ≠ some g) ∧ ∀ i, S' g i → i < b'.stab)
    (hS' : ∀ q b g i, q ≠ p → st.m[q]? = some b → b.own (H q) = some g → S' g i → S g i)
    (hS0 : ∀ g i, g < c.w0.heap.size → ¬ c.X g → S' g i → S g i)
    (hin : InH w' S') (hsz : w.heap.size ≤ w'.heap.size) (hos : w'.os = w.os) (htp : w'.tape = w.tape) (hou : w'.output = w.output)
    (hvd : (b' = .dead ∨ b' = .hole) → p < st.m.length → H p ≠ undef → v ≠ undef := by intro h; rcases h with h | h <;> cases h) :
    Rel c ⟨st.t, m'⟩ a w' S' (setH H p v) := by
  have hvu : p < st.m.length → H p ≠ undef → v ≠ undef := fun hp hne => by
    cases b' with
    | dead => exact hvd (.inl rfl) hp hne
    | hole => exact hvd (.inr rfl) hp hne
    | obj g mk cs => rw [hb'.1]; exact fun h => by cases h
    | tab mk cs => obtain ⟨g, h1, _⟩ := hb'; rw [h1]; exact fun h => by cases h
    | box cs => obtain ⟨g, e, cur, h1, _⟩ := hb'; rw [h1]; exact fun h => by cases h
    | arr e sz k cs => obtain ⟨_, _, n, vals, h1, _⟩ := hb'; rcases h1.2 with ⟨h2, _⟩ | ⟨g, cap, cur, h2, _⟩ <;> (rw [h2]; exact fun h => by cases h)
  have hgr : ∀ l u, GRep w S st.m H l u → GRep w' S' m' (setH H p v) l u := by
    intro l u
    refine GRep.mono3 hkeep hlen (fun q g hq hh => ?_) (fun q hq hne => ?_) (fun q e sz k cs hq hne hm => ?_)
    · by_cases e : q = p
      · subst e; rw [setH_same]; exact hbox g hq hh
      · exact setH_other H v e
    · by_cases e : q = p
      · subst e; rw [setH_same]; exact hvu hq hne
      · rw [setH_other H v e]; exact hne
    · by_cases e' : q = p
      · subst e'
        rw [hpm] at hm
        rw [setH_same]
        exact harr e sz k cs hq (.inl hne) (Option.some.inj hm)
      · rw [hoth q e'] at hm
        rw [setH_other H v e']
        exact ⟨k, cs, hm, .inl ⟨rfl, rfl⟩⟩
  have hown' : ∀ (q : Nat) (b : Blk), q ≠ p → st.m[q]? = some b → ∀ g, b.own (H q) = some g → w'.heap[g]? = w.heap[g]? := fun q b hq hb g ho =>
    hblk g (r.lo q b g hb ho).2 (fun b1 hb1 ho1 => hq (r.inj q p b b1 g hb hb1 ho ho1))
  refine ⟨r.nt, r.df, fun i => AVR.mono hgr (r.tm i), fun q b hb => ?_, fun q b g hb ho => ?_, fun q q' b b1 g hb hb1 ho ho1 => ?_, fun q b g i hb ho hs => ?_, hin, ?_, Nat.le_trans r.kl hlen, fun q g hq hh => ?_, fun q e sz k cs hq hm => ?_, fun q hq hne => ?_⟩
  rotate_right
  · by_cases e : q = p
    · subst e; rw [setH_same]; exact hvu (Nat.lt_of_lt_of_le hq r.kl) (r.ku q hq hne)
    · rw [setH_other H v e]; exact r.ku q hq hne
  · by_cases e : q = p
    · subst e
      rw [hpm] at hb
      cases hb
      rw [setH_same]
      exact hb'
    · rw [hoth q e] at hb
      rw [setH_other H v e]
      have hr := r.bl q b hb
      have ho := hown' q b e hb
      cases b with
      | dead => trivial
      | hole => exact hr
      | obj g mk cs =>
        obtain ⟨h1, vs, o, h2, h3, h4, h5⟩ := hr
        exact ⟨h1, vs, o, (ho g (by rw [h1]; rfl)).trans h2, h3, h4, h5.mono (fun l u => Rep.mono hkeep)⟩
      | tab mk cs =>
        obtain ⟨g, h1, vs, o, h2, h3, h4, h5⟩ := hr
        exact ⟨g, h1, vs, o, (ho g (by rw [h1]; rfl)).trans h2, h3, h4, h5.mono (fun l u => Rep.mono hkeep)⟩
      | box cs =>
        obtain ⟨g, ee, cur, h1, h2, h3⟩ := hr
        exact ⟨g, ee, cur, h1, (ho g (by rw [h1]; rfl)).trans h2, h3.mono hgr⟩
      | arr ee sz k cs =>
        obtain ⟨h0, hk1, n, vals, h1, h2, h3⟩ := hr
        exact ⟨h0, hk1, n, vals, ownsRow_of_block h1 (fun g hgo => ho g hgo), h2.mono (fun l u => Rep.mono hkeep), fun g hgo i hi => (hkeep g i (h3 g hgo i hi)).1⟩
  · by_cases e : q = p
    · subst e
      rw [hpm] at hb; cases hb
      rw [setH_same] at ho
      exact ⟨(hown g ho).1, (hown g ho).2.1⟩
    · rw [hoth q e] at hb
      rw [setH_other H v e] at ho
      have := r.lo q b g hb ho
      exact ⟨this.1, Nat.lt_of_lt_of_le this.2 hsz⟩
  · by_cases e : q = p <;> by_cases e1 : q' = p
    · rw [e, e1]
    · subst e
      rw [hpm] at hb; cases hb
      rw [setH_same] at ho
      rw [hoth q' e1] at hb1
      rw [setH_other H v e1] at ho1
      exact absurd ho1 ((hown g ho).2.2.1 q' b1 e1 hb1)
    · subst e1
      rw [hpm] at hb1; cases hb1
      rw [setH_same] at ho1
      rw [hoth q e] at hb
      rw [setH_other H v e] at ho
      exact absurd ho ((hown g ho1).2.2.1 q b e hb)
    · rw [hoth q e] at hb
      rw [setH_other H v e] at ho
      rw [hoth q' e1] at hb1
      rw [setH_other H v e1] at ho1
      exact r.inj q q' b b1 g hb hb1 ho ho1
  · by_cases e : q = p
    · subst e
      rw [hpm] at hb; cases hb
      rw [setH_same] at ho
      exact (hown g ho).2.2.2 i hs
    · rw [hoth q e] at hb
      rw [setH_other H v e] at ho
      exact r.sb q b g i hb ho (hS' q b g i e hb ho hs)
  · have hx := r.ex
    refine ⟨hos.trans hx.os, htp.trans hx.tape, hou.trans hx.output, Nat.le_trans hx.size hsz, fun b hb hX => ?_, fun b i hs => (hkeep b i (hx.sub b i hs)).1, fun b i hs => (hkeep b i (hx.sub b i hs)).2.trans (hx.stab b i hs), fun b i hb hX hs => hx.back b i hb hX (hS0 b i hb hX hs)⟩
    refine Eq.trans (hblk b (Nat.lt_of_lt_of_le hb hx.size) (fun b1 hb1 ho => ?_)) (hx.blk b hb hX)
    rcases (r.lo p b1 b hb1 ho).1 with h | h
    · omega
    · exact hX h
  · by_cases e : q = p
    · subst e
      have hq' := r.kh q g hq hh
      rw [setH_same, hbox g (Nat.lt_of_lt_of_le hq r.kl) (hq'.trans hh), hq']
    · rw [setH_other H v e]
      exact r.kh q g hq hh
  · by_cases e' : q = p
    · subst e'
      rw [hpm] at hm
      obtain ⟨k1, cs1, h1, h2⟩ := harr e sz k cs (Nat.lt_of_lt_of_le hq r.kl) (.inr hq) (Option.some.inj hm)
      obtain ⟨k2, cs2, h3, h4⟩ := r.kr q e sz k1 cs1 hq h1
      refine ⟨k2, cs2, h3, ?_⟩
      rw [setH_same]
      rcases h2 with ⟨h2, hv⟩ | h2 <;> rcases h4 with ⟨h4, hv4⟩ | h4
      · exact .inl ⟨h4.trans h2, hv.trans hv4⟩
      · exact .inr (by omega)
      · exact .inr (by omega)
      · exact .inr (by omega)
    · rw [hoth q e'] at hm
      rw [setH_other H v e']
      exact r.kr q e sz k cs hq hm
omit [Env] in
theorem Rel.changeH {c : Ctx} {st : AS} {a : Act} {w w' : World} {S S' : Stab} {H : Nat → Value} (r : Rel c st a w S H) {m' : List Blk} {p : Nat} {b' : Blk} {v : Value}
    (hlen : st.m.length ≤ m'.length) (hpm : m'[p]? = some b') (hoth : ∀ q, q ≠ p → m'[q]? = st.m[q]?)
    (hkeep : ∀ b i, S b i → S' b i ∧ w'.cell? ⟨b, i, none⟩ = w.cell? ⟨b, i, none⟩)
    (hbox : ∀ g, p < st.m.length → H p = .pointer (some ⟨g, 0, none⟩) → v = H p)
    (harr : ∀ e sz k cs, p < st.m.length → (H p ≠ undef ∨ p < c.m0.length) → b' = .arr e sz k cs → ∃ k' cs', st.m[p]? = some (.arr e sz k' cs') ∧ ((cs'.length = cs.length ∧ v = H p) ∨ cs'.length < cs.length))
    (hblk : ∀ g, g < w.heap.size → (∀ b, st.m[p]? = some b → b.own (H p) ≠ some g) → w'.heap[g]? = w.heap[g]?)
    (hb' : BlkR 0 w' S' m' (setH H p v) b' v)
    (hown : ∀ g, b'.own v = some g → (c.w0.heap.size ≤ g ∨ c.X g) ∧ g < w'.heap.size ∧ (∀ q b, q ≠ p → st.m[q]? = some b → b.own (H q) ≠ some g) ∧ ∀ i, S' g i → i < b'.stab)
    (hS' : ∀ q b g i, q ≠ p → st.m[q]? = some b → b.own (H q) = some g → S' g i → S g i)
    (hS0 : ∀ g i, g < c.w0.heap.size → ¬ c.X g → S' g i → S g i)
    (hin0 : (∀ b i, S' b i → b < w'.heap.size) ∧ GLR w' S') (hsz : w.heap.size ≤ w'.heap.size) (hos : w'.os = w.os) (htp : w'.tape = w.tape) (hou : w'.output = w.output)
    (hvd : (b' = .dead ∨ b' = .hole) → p < st.m.length → H p ≠ undef → v ≠ undef := by intro h; rcases h with h | h <;> cases h)
    (hbk : ∀ g i, S' g i → S g i ∨ b'.own v = some g := by first | exact fun _ _ h => Or.inl h | (intro g i h; rcases h with h | h; exact Or.inl h; exact Or.inr (by first | exact h.1 | (rw [h.1]; rfl)))) :
    Rel c ⟨st.t, m'⟩ a w' S' (setH H p v) := by
  have hin : InH w' S' := ⟨hin0.1, hin0.2, fun g i hs hc => by
    have hnew : b'.own v = some g → False := fun ho => own_cell hb' ho ((hown g ho).2.2.2 i hs) hc
    rcases hbk g i hs with h | h
    · rw [(hkeep g i h).2] at hc
      obtain ⟨⟨cur, e, h1, h2⟩, h3⟩ := r.sl.2.2 g i h hc
      refine ⟨⟨cur, e, (hblk g (r.sl.1 g i h) fun b hb ho => own_cell (r.bl p b hb) ho (r.sb p b g i hb ho h) hc).trans h1, h2⟩, fun j hj => ?_⟩
      rcases hbk g j hj with h4 | h4
      · exact (hkeep g j h4).2.trans (h3 j h4)
      · exact absurd h4 (fun h => hnew h)
    · exact absurd h (fun h => hnew h)⟩
  exact r.changeM hlen hpm hoth hkeep hbox harr hblk hb' hown hS' hS0 hin hsz hos htp hou hvd
omit [Env] in
theorem Rel.change {c : Ctx} {st : AS} {a : Act} {w w' : World} {S S' : Stab} {H : Nat → Value} (r : Rel c st a w S H) {m' : List Blk} {p : Nat} {b' : Blk} {v : Value}
    (hlen : st.m.length ≤ m'.length) (hpm : m'[p]? = some b') (hoth : ∀ q, q ≠ p → m'[q]? = st.m[q]?)
    (hkeep : ∀ b i, S b i → S' b i ∧ w'.cell? ⟨b, i, none⟩ = w.cell? ⟨b, i, none⟩)
    (hbox : ∀ g, p < st.m.length → H p = .pointer (some ⟨g, 0, none⟩) → v = H p)
    (harr : ∀ e sz k cs, p < st.m.length → b' = .arr e sz k cs → ∃ k' cs', st.m[p]? = some (.arr e sz k' cs') ∧ ((cs'.length = cs.length ∧ v = H p) ∨ cs'.length < cs.length))
    (hblk : ∀ g, g < w.heap.size → (∀ b, st.m[p]? = some b → b.own (H p) ≠ some g) → w'.heap[g]? = w.heap[g]?)
    (hb' : BlkR 0 w' S' m' (setH H p v) b' v)
    (hown : ∀ g, b'.own v = some g → (c.w0.heap.size ≤ g ∨ c.X g) ∧ g < w'.heap.size ∧ (∀ q b, q ≠ p → st.m[q]? = some b → b.own (H q) ≠ some g) ∧ ∀ i, S' g i → i < b'.stab)
    (hS' : ∀ q b g i, q ≠ p → st.m[q]? = some b → b.own (H q) = some g → S' g i → S g i)
    (hS0 : ∀ g i, g < c.w0.heap.size → ¬ c.X g → S' g i → S g i)
    (hin0 : (∀ b i, S' b i → b < w'.heap.size) ∧ GLR w' S') (hsz : w.heap.size ≤ w'.heap.size) (hos : w'.os = w.os) (htp : w'.tape = w.tape) (hou : w'.output = w.output)
    (hvd : (b' = .dead ∨ b' = .hole) → p < st.m.length → H p ≠ undef → v ≠ undef := by intro h; rcases h with h | h <;> cases h)
    (hbk : ∀ g i, S' g i → S g i ∨ b'.own v = some g := by first | exact fun _ _ h => Or.inl h | (intro g i h; rcases h with h | h; exact Or.inl h; exact Or.inr (by first | exact h.1 | (rw [h.1]; rfl)))) :
    Rel c ⟨st.t, m'⟩ a w' S' (setH H p v) :=
  r.changeH hlen hpm hoth hkeep hbox (fun e sz k cs h _ hb => harr e sz k cs h hb) hblk hb' hown hS' hS0 hin0 hsz hos htp hou hvd hbk
omit [Env] in
theorem ownsRow_mono {w : World} {base base' e sz n : Nat} {v : Value} {xs : List Value} (hb : base' ≤ base) (h : w.ownsRow base e sz v n xs) : w.ownsRow base' e sz v n xs := by
  refine ⟨h.1, ?_⟩
  rcases h.2 with hn | ⟨g, cap, cur, hv, h1, rest⟩
  · exact .inl hn
  · exact .inr ⟨g, cap, cur, hv, Nat.le_trans hb h1, rest⟩
omit [Env] in
theorem Rel.newArr {c : Ctx} {st : AS} {a : Act} {w : World} {S : Stab} {H : Nat → Value} (r : Rel c st a w S H) {e : TypeId} {sz n : Nat} {cs : List Lf} {v : Value} {vals : List Value} (hsz : 0 < sz)
    {base : Nat} (hown : w.ownsRow base e sz v n vals) (hbase : c.w0.heap.size ≤ base) (hls : LsR (Rep w S) cs vals) (hnew : ∀ g, ownOf v = some g → (∀ (q : Nat) (b : Blk), st.m[q]? = some b → b.own (H q) ≠ some g) ∧ ∀ i, ¬ S g i) :
    Rel c ⟨st.t, st.m ++ [.arr e sz 0 cs]⟩ a w S (setH H st.m.length v) := by
  refine r.change (b' := .arr e sz 0 cs) (by simp) (by simp) (fun q hq => ?_) (fun b i h => ⟨h, rfl⟩) (fun g h => absurd h (Nat.lt_irrefl _)) (fun e sz k cs h => absurd h (Nat.lt_irrefl _))
    (fun g _ _ => rfl) ⟨hsz, Nat.zero_le _, n, vals, ownsRow_mono (Nat.zero_le _) hown, hls, fun g _ i hi => absurd hi (Nat.not_lt_zero _)⟩ (fun g hg => ?_) (fun q b g i _ _ _ h => h) (fun g i _ _ h => h) r.sl.two (Nat.le_refl _) rfl rfl rfl
  · rcases Nat.lt_or_ge q st.m.length with h | h
    · rw [List.getElem?_append_left h]
    · rw [List.getElem?_eq_none (by simp; omega), List.getElem?_eq_none h]
  · have hg' : ownOf v = some g := hg
    have hlt : base ≤ g ∧ g < w.heap.size := by
      rcases hown.2 with ⟨hv, _⟩ | ⟨g', cap, cur, hv, hb, hgg, _⟩
      · rw [hv] at hg'; cases hg'
      · rw [hv] at hg'
        cases hg'
        exact ⟨hb, (Array.getElem?_eq_some_iff.1 hgg).1⟩
    exact ⟨.inl (Nat.le_trans hbase hlt.1), hlt.2, fun q b _ hb => (hnew g hg').1 q b hb, fun i hi => absurd hi ((hnew g hg').2 i)⟩
omit [Env] in
theorem Rel.fresh {c : Ctx} {st : AS} {a : Act} {w : World} {S : Stab} {H : Nat → Value} (r : Rel c st a w S H) {g : Nat} (h : w.heap.size ≤ g) : (∀ (q : Nat) (b : Blk), st.m[q]? = some b → b.own (H q) ≠ some g) ∧ ∀ i, ¬ S g i :=
  ⟨fun q b hb ho => by have := (r.lo q b g hb ho).2; omega, fun i hs => by have := r.sl.1 g i hs; omega⟩
section
variable {c : Ctx} {st : AS}
omit [Env] in
theorem adopt_rel {e sz : Nat} (i : Nat) (hsz : 0 < sz) (hi : st.t i = .s (.one (.raw (.slice none 0 0)))) {a : Act} {w : World} {S : Stab} {H : Nat → Value} (r : Rel c st a w S H) :
    Rel c ⟨Go.Proofs.Ytnphcnhejgpjgaa.Abs.upd st.t i (.s (.one (.ls st.m.length 0))), st.m ++ [.arr e sz 0 []]⟩ a w S (setH H st.m.length (.slice none 0 0)) := by
  have h := r.tm i
  rw [hi] at h
  have hv : a.tmps.getD i undef = .slice none 0 0 := rep_raw h
  have r' := r.newArr (e := e) (sz := sz) (cs := []) (v := .slice none 0 0) (vals := []) (n := 0) hsz (World.ownsRow_nil w _ e sz) (Nat.le_refl _) ⟨rfl, fun j l v h => by simp at h⟩ (fun g hg => by cases hg)
  refine ⟨r'.nt, r'.df, fun j => ?_, r'.bl, r'.lo, r'.inj, r'.sb, r'.sl, r'.ex, r'.kl, r'.kh, r'.kr, r'.ku⟩
  show AVR _ (Go.Proofs.Ytnphcnhejgpjgaa.Abs.upd st.t i _ j) _
  rw [upd_def]
  by_cases e' : j = i
  · subst e'
    rw [if_pos rfl, hv]
    refine ⟨by simp, ⟨rfl, by rw [setH_same]; exact fun h => by cases h⟩, fun e2 sz2 k2 cs2 hm => ?_⟩
    simp at hm
    obtain ⟨rfl, rfl, rfl, rfl⟩ := hm
    exact ⟨by simp, fun _ => by rw [setH_same]⟩
  · rw [if_neg e']
    exact r'.tm j
omit [Env] in
theorem adopt_box_rel {e sz p : Nat} {cs : List Lf} (i : Nat) (hsz : 0 < sz) (hm : st.m[p]? = some (.box cs)) (hi : cs[i]? = some (.raw (.slice none 0 0))) {a : Act} {w : World} {S : Stab} {H : Nat → Value} (r : Rel c st a w S H) :
    Rel c ⟨st.t, st.m.set p (.box (cs.set i (.ls st.m.length 0))) ++ [.arr e sz 0 []]⟩ a w S (setH H st.m.length (.slice none 0 0)) := by
  have r' := r.newArr (e := e) (sz := sz) (cs := []) (v := .slice none 0 0) (vals := []) (n := 0) hsz (World.ownsRow_nil w _ e sz) (Nat.le_refl _) ⟨rfl, fun j l v h => by simp at h⟩ (fun g hg => by cases hg)
  have hp : p < st.m.length := (List.getElem?_eq_some_iff.1 hm).1
  have hm' : (st.m ++ [Blk.arr e sz 0 []])[p]? = some (.box cs) := by rw [List.getElem?_append_left hp]; exact hm
  have hset : st.m.set p (.box (cs.set i (.ls st.m.length 0))) ++ [.arr e sz 0 []] = (st.m ++ [Blk.arr e sz 0 []]).set p (.box (cs.set i (.ls st.m.length 0))) := by
    rw [List.set_append_left _ _ hp]
  rw [hset]
  have hp' : p < (st.m ++ [Blk.arr e sz 0 []]).length := by simp; omega
  obtain ⟨g, ee, cur, h1, h2, h3⟩ := r'.bl p _ hm'
  have hHp : setH H st.m.length (.slice none 0 0) p = .pointer (some ⟨g, 0, none⟩) := h1
  have hgr : ∀ l v, GRep w S (st.m ++ [Blk.arr e sz 0 []]) (setH H st.m.length (.slice none 0 0)) l v → GRep w S ((st.m ++ [Blk.arr e sz 0 []]).set p (.box (cs.set i (.ls st.m.length 0)))) (setH H st.m.length (.slice none 0 0)) l v := by
    intro l v
    refine GRep.mono (fun b i h => ⟨h, rfl⟩) (by simp) (fun _ _ => rfl) (fun q e' sz' k' cs' hq hmm => ⟨k', cs', ?_, rfl⟩)
    by_cases hqp : p = q
    · subst hqp; rw [List.getElem?_set_self hp'] at hmm; cases hmm
    · rw [List.getElem?_set_ne hqp] at hmm; exact hmm
  have hmm : ∀ (q : Nat) (b : Blk), ((st.m ++ [Blk.arr e sz 0 []]).set p (.box (cs.set i (.ls st.m.length 0))))[q]? = some b → (q = p ∧ b = .box (cs.set i (.ls st.m.length 0))) ∨ (q ≠ p ∧ (st.m ++ [Blk.arr e sz 0 []])[q]? = some b) := by
    intro q b h
    by_cases hqp : p = q
    · subst hqp; rw [List.getElem?_set_self hp'] at h; cases h; exact .inl ⟨rfl, rfl⟩
    · rw [List.getElem?_set_ne hqp] at h; exact .inr ⟨fun e => hqp e.symm, h⟩
  refine ⟨r'.nt, r'.df, fun j => AVR.mono hgr (r'.tm j), fun q b hb => ?_, fun q b g' hb ho => ?_, fun q q' b b1 g' hb hb1 ho ho1 => ?_, fun q b g' i' hb ho hs => ?_, r'.sl, r'.ex, (by simpa using r'.kl), r'.kh, fun q e' sz k cs' hq hm2 => ?_, r'.ku⟩
  · rcases hmm q b hb with ⟨rfl, rfl⟩ | ⟨hq, hb'⟩
    · refine ⟨g, ee, cur, hHp, h2, by rw [List.length_set]; exact h3.1, fun j l v hj1 hj2 => ?_⟩
      rw [List.getElem?_set] at hj1
      by_cases hji : i = j
      · subst hji
        have hil : i < cs.length := (List.getElem?_eq_some_iff.1 hi).1
        simp only [if_true, hil] at hj1
        cases hj1
        have hv := h3.2 i _ v hi hj2
        have hv' : v = .slice none 0 0 := rep_raw hv
        subst hv'
        refine ⟨by simp, ⟨rfl, by rw [setH_same]; exact fun h => by cases h⟩, fun e2 sz2 k2 cs2 hm2 => ?_⟩
        have hne : q ≠ st.m.length := by omega
        rw [List.getElem?_set_ne hne, List.getElem?_append_right (Nat.le_refl _)] at hm2
        simp at hm2
        obtain ⟨rfl, rfl, rfl, rfl⟩ := hm2
        exact ⟨by simp, fun _ => by rw [setH_same]⟩
      · rw [if_neg hji] at hj1
        exact hgr _ _ (h3.2 j l v hj1 hj2)
    · have hr := r'.bl q b hb'
      cases b with
      | dead => trivial
      | hole => exact hr
      | obj g mk cs => exact hr
      | tab mk cs => exact hr
      | box cs' =>
        obtain ⟨g', e', cur', h1', h2', h3'⟩ := hr
        exact ⟨g', e', cur', h1', h2', h3'.mono hgr⟩
      | arr e' sz' k' cs' => exact hr
  · rcases hmm q b hb with ⟨rfl, rfl⟩ | ⟨hq, hb'⟩
    · exact r'.lo q _ g' hm' ho
    · exact r'.lo q b g' hb' ho
  · rcases hmm q b hb with ⟨rfl, rfl⟩ | ⟨hq, hb2⟩ <;> rcases hmm q' b1 hb1 with ⟨rfl, rfl⟩ | ⟨hq', hb3⟩
    · rfl
    · exact r'.inj _ _ _ _ g' hm' hb3 ho ho1
    · exact r'.inj _ _ _ _ g' hb2 hm' ho ho1
    · exact r'.inj _ _ _ _ g' hb2 hb3 ho ho1
  · rcases hmm q b hb with ⟨rfl, rfl⟩ | ⟨hq, hb'⟩
    · exact absurd (r'.sb q _ g' i' hm' ho hs) (by simp [Blk.stab])
    · exact r'.sb q b g' i' hb' ho hs
  · rcases hmm q _ hm2 with ⟨_, h⟩ | ⟨_, h⟩
    · cases h
    · exact r'.kr q e' sz k cs' hq h
end
end Go.Proofs.Ytnphcnhejgpjgaa.Abs
end
section
namespace Go.Proofs.Ytnphcnhejgpjgaa.Abs
open Go.Proofs.Ytnphcnhejgpjgaa.Co
variable [Env]
open Go.RowKit
omit [Env] in
theorem ownsRow_n {w : World} {base e sz n : Nat} {v : Value} {vals : List Value} (h : w.ownsRow base e sz v n vals) {k : Nat} (hsz : 0 < sz) (hk : k * sz = vals.length) : n = k := by
  have h3 := h.1
  rw [← hk] at h3
  exact (Nat.eq_of_mul_eq_mul_right hsz h3).symm
omit [Env] in
theorem Rel.pub {c : Ctx} {st : AS} {a : Act} {w : World} {S : Stab} {H : Nat → Value} (r : Rel c st a w S H) {p e sz k : Nat} {cs : List Lf} (hm : st.m[p]? = some (.arr e sz k cs)) :
    ∃ S', Rel c ⟨st.t, st.m.set p (.arr e sz cs.length cs)⟩ a w S' H ∧ (∀ b i, S b i → S' b i) ∧ ∀ n, n * sz = cs.length → Rep w S' (.sl n cs) (H p) := by
  have hp : p < st.m.length := (List.getElem?_eq_some_iff.1 hm).1
  obtain ⟨hsz, hk, n0, vals, hown, hls, hst⟩ := r.bl p _ hm
  let S' : Stab := fun b i => S b i ∨ (ownOf (H p) = some b ∧ i < cs.length)
  have hsub : ∀ b i, S b i → S' b i := fun b i h => .inl h
  have hset : setH H p (H p) = H := by
    funext q
    by_cases e' : q = p
    · subst e'; exact setH_same H q _
    · exact setH_other H _ e'
  have hlo : ∀ g, ownOf (H p) = some g → (c.w0.heap.size ≤ g ∨ c.X g) ∧ g < w.heap.size := fun g hg => r.lo p _ g hm hg
  have hr : Rel c ⟨st.t, st.m.set p (.arr e sz cs.length cs)⟩ a w S' (setH H p (H p)) := by
    refine r.change (b' := .arr e sz cs.length cs) (by simp) (by rw [List.getElem?_set_self hp]) (fun q hq => List.getElem?_set_ne (fun e => hq e.symm)) (fun b i h => ⟨hsub b i h, rfl⟩)
      (fun g _ _ => rfl) (fun e' sz' k' cs' _ h => by cases h; exact ⟨k, cs, hm, .inl ⟨rfl, rfl⟩⟩) (fun g _ _ => rfl) ?_ (fun g hg => ?_) (fun q b g i hq hb ho hs => ?_) (fun g i hg hX hs => ?_) ⟨fun b i hs => ?_, r.sl.2.1.mono fun b i h => ⟨hsub b i h, rfl⟩⟩ (Nat.le_refl _) rfl rfl rfl
    · exact ⟨hsz, Nat.le_refl _, n0, vals, hown, hls.mono (fun l v => Rep.mono (fun b i h => ⟨hsub b i h, rfl⟩)), fun g hg i hi => .inr ⟨hg, hi⟩⟩
    · have hg' : ownOf (H p) = some g := hg
      refine ⟨(hlo g hg').1, (hlo g hg').2, fun q b hq hb ho => hq (r.inj q p b _ g hb hm ho hg'), fun i hi => ?_⟩
      rcases hi with hi | hi
      · exact Nat.lt_of_lt_of_le (r.sb p _ g i hm hg' hi) hk
      · exact hi.2
    · rcases hs with hs | hs
      · exact hs
      · exact absurd (r.inj q p b _ g hb hm ho hs.1) hq
    · rcases hs with hs | hs
      · exact hs
      · rcases (hlo g hs.1).1 with h | h
        · omega
        · exact absurd h hX
    · rcases hs with hs | hs
      · exact r.sl.1 b i hs
      · exact (hlo b hs.1).2
  rw [hset] at hr
  refine ⟨S', hr, hsub, fun n hn => ?_⟩
  have hnn : n0 = n := ownsRow_n hown hsz (by rw [← hls.1]; exact hn)
  subst hnn
  rcases hown.2 with ⟨hv, h0⟩ | ⟨g, cap, cur, hv, hbg, hg, hnc, hcm, hcs, htake⟩
  · rw [hv, h0]
    have : cs = [] := List.eq_nil_of_length_eq_zero (by rw [← hn, h0, Nat.zero_mul])
    subst this
    exact .sl0 _ _
  · rw [hv]
    refine Rep.sl n0 cs g 0 cap (fun j => vals.getD j undef) hnc hcm (fun j l hl => ?_) (fun j l hl => ?_)
    · have hj : j < cs.length := (List.getElem?_eq_some_iff.1 hl).1
      obtain ⟨u, hu, _⟩ := hls.get hl
      refine ⟨.inr ⟨by rw [hv]; simp [ownOf], by omega⟩, ?_⟩
      have := hown.cells (g := g) (by rw [hv]; rfl) j u hu
      rw [Addr.add_lit] at this
      rw [this]
      simp [List.getD, hu]
    · obtain ⟨u, hu, hr⟩ := hls.get hl
      have : vals.getD j undef = u := by simp [List.getD, hu]
      rw [this]
      exact Rep.mono (fun b i h => ⟨hsub b i h, rfl⟩) hr
inductive PubL (m : List Blk) : Lf → Lf → List Blk → Prop
  | id (l : Lf) (h : l.pubd = true) : PubL m l l m
  | nil : PubL m (.raw (.slice none 0 0)) (.sl 0 []) m
  | nilj (e sz : Nat) : PubL m (.raw (.slice none 0 0)) (.jk e sz 0) m
  | ls (p n e sz k : Nat) (cs : List Lf) (hm : m[p]? = some (.arr e sz k cs)) (hn : n * sz = cs.length) : PubL m (.ls p n) (.sl n cs) (m.set p (.arr e sz cs.length cs))
inductive PubLs : List Blk → List Lf → List Lf → List Blk → Prop
  | nil (m : List Blk) : PubLs m [] [] m
  | cons (m m1 m2 : List Blk) (l l' : Lf) (ls ls' : List Lf) (h : PubL m l l' m1) (t : PubLs m1 ls ls' m2) : PubLs m (l :: ls) (l' :: ls') m2
  | all (m : List Blk) (ls : List Lf) (h : ∀ l ∈ ls, l.pubd = true) : PubLs m ls ls m
inductive PubV : List Blk → SV → SV → List Blk → Prop
  | one (m m' : List Blk) (l l' : Lf) (h : PubL m l l' m') : PubV m (.one l) (.one l') m'
  | agg (m m' : List Blk) (ls ls' : List Lf) (h : PubLs m ls ls' m') : PubV m (.agg ls) (.agg ls') m'
inductive PubA : List Blk → List SV → List SV → List Blk → Prop
  | nil (m : List Blk) : PubA m [] [] m
  | cons (m m1 m2 : List Blk) (x y : SV) (xs ys : List SV) (h : PubV m x y m1) (t : PubA m1 xs ys m2) : PubA m (x :: xs) (y :: ys) m2
structure Keeps (c : Ctx) (t : Nat → AV) (a : Act) (w : World) (H : Nat → Value) (m : List Blk) (S : Stab) (m' : List Blk) (S' : Stab) : Prop where
  rel : Rel c ⟨t, m'⟩ a w S' H
  sub : ∀ b i, S b i → S' b i
  gr : ∀ l v, GRep w S m H l v → GRep w S' m' H l v
omit [Env] in
theorem Keeps.trans {c : Ctx} {t : Nat → AV} {a : Act} {w : World} {H : Nat → Value} {m m1 m2 : List Blk} {S S1 S2 : Stab} (h : Keeps c t a w H m S m1 S1) (k : Keeps c t a w H m1 S1 m2 S2) : Keeps c t a w H m S m2 S2 :=
  ⟨k.rel, fun b i hs => k.sub b i (h.sub b i hs), fun l v hg => k.gr l v (h.gr l v hg)⟩
omit [Env] in
theorem Rep.sub {w : World} {S S' : Stab} (h : ∀ b i, S b i → S' b i) {l : Lf} {v : Value} (r : Rep w S l v) : Rep w S' l v := Rep.mono (fun b i hs => ⟨h b i hs, rfl⟩) r
omit [Env] in
theorem PubL.keeps {c : Ctx} {t : Nat → AV} {a : Act} {w : World} {H : Nat → Value} {m m' : List Blk} {S : Stab} {l l' : Lf} (hp : PubL m l l' m') (r : Rel c ⟨t, m⟩ a w S H) :
    ∃ S', Keeps c t a w H m S m' S' ∧ ∀ v, GRep w S m H l v → Rep w S' l' v := by
  cases hp with
  | id l h => exact ⟨S, ⟨r, fun _ _ h => h, fun _ _ h => h⟩, fun v hv => GRep.rep hv h⟩
  | nil => exact ⟨S, ⟨r, fun _ _ h => h, fun _ _ h => h⟩, fun v hv => by
      have : v = .slice none 0 0 := rep_raw hv
      subst this
      exact .sl0 _ _⟩
  | nilj e sz => exact ⟨S, ⟨r, fun _ _ h => h, fun _ _ h => h⟩, fun v hv => by
      have : v = .slice none 0 0 := rep_raw hv
      subst this
      exact .jk0 _ _⟩
  | ls p n e sz k cs hm hn =>
    obtain ⟨S', h1, h2, h3⟩ := r.pub hm
    have hp : p < m.length := (List.getElem?_eq_some_iff.1 hm).1
    refine ⟨S', ⟨h1, h2, fun l v => GRep.mono (fun b i h => ⟨h2 b i h, rfl⟩) (by simp) (fun _ _ => rfl) (fun q e' sz' k' cs' hq hmm => ?_)⟩, fun v hv => ?_⟩
    · by_cases e1 : p = q
      · subst e1
        have hmm' : (m.set p (.arr e sz cs.length cs))[p]? = some (.arr e' sz' k' cs') := hmm
        rw [List.getElem?_set_self hp] at hmm'
        cases hmm'
        exact ⟨k, cs, hm, rfl⟩
      · have hmm' : (m.set p (.arr e sz cs.length cs))[q]? = some (.arr e' sz' k' cs') := hmm
        rw [List.getElem?_set_ne e1] at hmm'
        exact ⟨k', cs', hmm', rfl⟩
    · obtain ⟨_, _, hr⟩ := hv
      rw [(hr e sz k cs hm).2 hn]
      exact h3 n hn
omit [Env] in
theorem PubLs.keeps {c : Ctx} {t : Nat → AV} {a : Act} {w : World} {H : Nat → Value} {m m' : List Blk} {ls ls' : List Lf} (hp : PubLs m ls ls' m') : ∀ {S : Stab}, Rel c ⟨t, m⟩ a w S H →
    ∃ S', Keeps c t a w H m S m' S' ∧ ∀ vs, LsR (GRep w S m H) ls vs → LsR (Rep w S') ls' vs := by
  induction hp with
  | nil m => exact fun r => ⟨_, ⟨r, fun _ _ h => h, fun _ _ h => h⟩, fun vs h => ⟨h.1, fun j l v h1 => by simp at h1⟩⟩
  | all m ls h =>
    exact fun r => ⟨_, ⟨r, fun _ _ h => h, fun _ _ h => h⟩, fun vs hv => ⟨hv.1, fun j l v h1 h2 => GRep.rep (hv.2 j l v h1 h2) (h l (List.mem_of_getElem? h1))⟩⟩
  | cons m m1 m2 l l' ls ls' h _ ih =>
    intro S r
    obtain ⟨S1, k1, g1⟩ := h.keeps r
    obtain ⟨S2, k2, g2⟩ := ih k1.rel
    refine ⟨S2, k1.trans k2, fun vs hv => ?_⟩
    cases vs with
    | nil => have := hv.1; simp at this
    | cons v vs =>
      have h0 : GRep w S m H l v := hv.2 0 l v rfl rfl
      have ht : LsR (GRep w S1 m1 H) ls vs := ⟨by have := hv.1; simpa using this, fun j l v h1 h2 => k1.gr _ _ (hv.2 (j + 1) l v (by simpa using h1) (by simpa using h2))⟩
      have h1' := Rep.sub k2.sub (g1 v h0)
      have ht' := g2 vs ht
      refine ⟨by simp [ht'.1], fun j x u hx hu => ?_⟩
      cases j with
      | zero => simp only [List.getElem?_cons_zero, Option.some.injEq] at hx hu; subst hx; subst hu; exact h1'
      | succ j => exact ht'.2 j x u (by simpa using hx) (by simpa using hu)
omit [Env] in
theorem PubV.keeps {c : Ctx} {t : Nat → AV} {a : Act} {w : World} {H : Nat → Value} {m m' : List Blk} {S : Stab} {x y : SV} (hp : PubV m x y m') (r : Rel c ⟨t, m⟩ a w S H) :
    ∃ S', Keeps c t a w H m S m' S' ∧ ∀ v, SVR (GRep w S m H) x v → SVR (Rep w S') y v := by
  cases hp with
  | one _ l l' h =>
    obtain ⟨S', k, g⟩ := h.keeps r
    exact ⟨S', k, fun v hv => g v hv⟩
  | agg _ ls ls' h =>
    obtain ⟨S', k, g⟩ := h.keeps r
    refine ⟨S', k, fun v hv => ?_⟩
    obtain ⟨cs, rfl, hl⟩ := hv
    exact ⟨cs, rfl, g _ hl⟩
def SvsR (R : Lf → Value → Prop) (xs : List SV) (vs : List Value) : Prop := xs.length = vs.length ∧ ∀ (j : Nat) (x : SV) (v : Value), xs[j]? = some x → vs[j]? = some v → SVR R x v
omit [Env] in
theorem PubA.keeps {c : Ctx} {t : Nat → AV} {a : Act} {w : World} {H : Nat → Value} {m m' : List Blk} {xs ys : List SV} (hp : PubA m xs ys m') : ∀ {S : Stab}, Rel c ⟨t, m⟩ a w S H →
    ∃ S', Keeps c t a w H m S m' S' ∧ ∀ vs, SvsR (GRep w S m H) xs vs → SvsR (Rep w S') ys vs := by
  induction hp with
  | nil m => exact fun r => ⟨_, ⟨r, fun _ _ h => h, fun _ _ h => h⟩, fun vs h => ⟨h.1, fun j l v h1 => by simp at h1⟩⟩
  | cons m m1 m2 x y xs ys h _ ih =>
    intro S r
    obtain ⟨S1, k1, g1⟩ := h.keeps r
    obtain ⟨S2, k2, g2⟩ := ih k1.rel
    refine ⟨S2, k1.trans k2, fun vs hv => ?_⟩
    cases vs with
    | nil => have := hv.1; simp at this
    | cons v vs =>
      have h0 : SVR (GRep w S m H) x v := hv.2 0 x v rfl rfl
      have ht : SvsR (GRep w S1 m1 H) xs vs := ⟨by have := hv.1; simpa using this, fun j l v h1 h2 => SVR.mono k1.gr (hv.2 (j + 1) l v (by simpa using h1) (by simpa using h2))⟩
      have h1' := SVR.mono (fun l v => Rep.sub k2.sub) (g1 v h0)
      have ht' := g2 vs ht
      refine ⟨by simp [ht'.1], fun j x u hx hu => ?_⟩
      cases j with
      | zero => simp only [List.getElem?_cons_zero, Option.some.injEq] at hx hu; subst hx; subst hu; exact h1'
      | succ j => exact ht'.2 j x u (by simpa using hx) (by simpa using hu)
def CallsA (P : Program) (f : FuncId) (args : List SV) (R : AV → Prop) : Prop :=
  ∀ (w : World) (S : Stab) (vs : Array Value), InH w S → SvsR (Rep w S) args vs.toList →
    CallsK P f vs w fun e w' => ∃ v x S', e = .returned v ∧ R x ∧ Ext w S w' S' ∧ InH w' S' ∧ AVR (Rep w' S') x v
theorem CallsA.mono {P : Program} [Nice P] {f : FuncId} {args : List SV} {R R' : AV → Prop} (h : CallsA P f args R) (hr : ∀ x, R x → R' x) : CallsA P f args R' :=
  fun w S vs hS hv => (h w S vs hS hv).mono fun _ _ ⟨v, x, S', h1, h2, h3⟩ => ⟨v, x, S', h1, hr x h2, h3⟩
structure FnI (P : Program) (f : FuncId) : Prop where
  h : ∃ fn, P.funcs[f]? = some fn ∧ (fn.name == "runtime.NumGoroutine") = false ∧ fn.body.isNone = false
omit [Env] in
theorem FnI.run {P : Program} [Nice P] {f : FuncId} (h : FnI P f) (args : Array Value) (w : World) : (callFunc f args).run P w = .ok (.enter f args) w := by
  obtain ⟨fn, h1, h2, h3⟩ := h.h
  simp only [callFunc, Sem.run_bind, run_program, Result.andThen_ok, h1, h2, h3, Bool.false_eq_true, if_false]
  rfl
def Opnds (st : AS) : List Operand → List SV → Prop
  | [], xs => xs = []
  | o :: os, xs => ∃ x r, opnd st o = .s x ∧ Opnds st os r ∧ xs = x :: r
omit [Env] in
theorem opnds_nil {st : AS} : Opnds st [] [] := rfl
omit [Env] in
theorem opnds_cons {st : AS} {o : Operand} {os : List Operand} {x : SV} {r : List SV} (h : opnd st o = .s x) (t : Opnds st os r) : Opnds st (o :: os) (x :: r) := ⟨x, r, h, t, rfl⟩
omit [Env] in
theorem opnds_rel {c : Ctx} {st : AS} {a : Act} {w : World} {S : Stab} {H : Nat → Value} (r : Rel c st a w S H) : ∀ {os : List Operand} {xs : List SV}, Opnds st os xs → SvsR (GRep w S st.m H) xs (os.map a.eval)
  | [], xs, h => by cases h; exact ⟨rfl, fun j x v h => by simp at h⟩
  | o :: os, xs, h => by
    obtain ⟨x, rr, h1, h2, rfl⟩ := h
    have ih := opnds_rel r h2
    have h0 := opnd_rel r o
    rw [h1] at h0
    refine ⟨by simp [ih.1], fun j y v hy hv => ?_⟩
    cases j with
    | zero => simp only [List.getElem?_cons_zero, List.map_cons, Option.some.injEq] at hy hv; subst hy; subst hv; exact h0
    | succ j => exact ih.2 j y v (by simpa using hy) (by simpa using hv)
omit [Env] in
theorem avr_of_rep {w : World} {S : Stab} {m : List Blk} {H : Nat → Value} {x : AV} {v : Value} (h : AVR (Rep w S) x v) : AVR (GRep w S m H) x v := AVR.mono (fun _ _ => GRep.of_rep) h
section
variable {P : Program} [Nice P] {c : Ctx} {st : AS} {ops : Array Oper} {Q : Exit → AS → Prop} {rest : List Oper} {ty : TypeId} {pos : String} {af : Array Edge} {d : Tmp}
theorem awl_call {f : FuncId} {args : Array Operand} {ats : Array TypeId} {xs ys : List SV} {m' : List Blk} {R : AV → Prop} (hf : FnI P f) (ho : Opnds st args.toList xs) (hp : PubA st.m xs ys m') (hc : CallsA P f ys R) (hd : d < c.nt)
    (k : ∀ x, R x → AWL P c ops Q rest ⟨Go.Proofs.Ytnphcnhejgpjgaa.Abs.upd st.t d x, m'⟩) : AWL P c ops Q (⟨some d, .call { callee := .value (.func f), args := args, argTypes := ats }, ty, pos, af, none⟩ :: rest) st := by
  refine awl_at fun a w S H r => ?_
  obtain ⟨S1, k1, g1⟩ := hp.keeps r
  have hv := g1 _ (opnds_rel r ho)
  refine wpListP_plain rfl (hb := fun _ => by obtain ⟨fn, h1, h2, h3⟩ := hf.h; exact .inr (.inr ⟨_, _, _, fn, rfl, h1, h2, h3⟩)) fun K hK => ?_
  unfold operK
  have hrun : (execOp a.eval ⟨some d, .call { callee := .value (.func f), args := args, argTypes := ats }, ty, pos, af, none⟩).run P w = .ok (.enter f (args.map a.eval)) w := by
    simp [execOp, resolve, Act.eval, Deferred.ofValue, invoke, hf.run]
  rw [hrun]
  refine (hc w S1 (args.map a.eval) k1.rel.sl (by simpa using hv)).mono ?_
  rintro e w' ⟨v, x, S', rfl, hx, hext, hin, hav⟩
  exact hK _ _ (k x hx _ _ _ _ ((k1.rel.ext hext hin).put hd (avr_of_rep hav)))
def thenA (n : AS → Prop) (Q : Exit → AS → Prop) : Exit → AS → Prop
  | .normal, st => n st
  | e, st => Q e st
omit [Env] in
theorem QR.then {n : AS → Prop} {N : Act → World → Prop} (hn : ∀ st a w S H, Rel c st a w S H → n st → N a w) : ∀ e a w, QR c (thenA n Q) e a w → Exit.then N (QR c Q) e a w := by
  rintro e a w ⟨st, S, H, r, hq⟩
  cases e with
  | normal => exact hn st a w S H r hq
  | _ => exact ⟨st, S, H, r, hq⟩
omit [Nice P] in
theorem awc_seq {x y : Code} (h : AWC P c x (thenA (AWC P c y Q) Q) st) : AWC P c (.seq x y) Q st := fun a w S H r =>
  wpK_seq (wpK_mono (h a w S H r) (QR.then fun _ a w S H r hk => hk a w S H r))
omit [Nice P] in
theorem awc_skip (h : Q .normal st) : AWC P c .skip Q st := fun _ _ S H r => wpK_skip ⟨st, S, H, r, h⟩
omit [Nice P] in
theorem awc_exit {id : Nat} (h : Q (.exit id) st) : AWC P c (.exit id) Q st := fun _ _ S H r => wpK_exit ⟨st, S, H, r, h⟩
omit [Nice P] in
theorem awc_ret (h : Q .ret st) : AWC P c .ret Q st := fun _ _ S H r => wpK_ret ⟨st, S, H, r, h⟩
def inBlockA (id : Nat) (Q : Exit → AS → Prop) : Exit → AS → Prop
  | .exit id', st => if id' = id then Q .normal st else Q (.exit id') st
  | e, st => Q e st
omit [Nice P] in
theorem awc_block {id : Nat} {x : Code} (h : AWC P c x (inBlockA id Q) st) : AWC P c (.block id x) Q st := fun a w S H r => by
  refine wpK_block (wpK_mono (h a w S H r) ?_)
  rintro e a w ⟨st, S, H, r, hq⟩
  cases e with
  | exit id' =>
    simp only [inBlockA] at hq
    simp only [Exit.inBlock]
    split
    · rename_i h; rw [if_pos h] at hq; exact ⟨st, S, H, r, hq⟩
    · rename_i h; rw [if_neg h] at hq; exact ⟨st, S, H, r, hq⟩
  | _ => exact ⟨st, S, H, r, hq⟩
omit [Nice P] in
theorem awc_cond {o : Operand} {x y : Code} {b : Bool} (ho : opnd st o = .s (.one (.b b))) (h1 : b = true → AWC P c x Q st) (h0 : b = false → AWC P c y Q st) : AWC P c (.cond o x y) Q st := fun a w S H r => by
  have h := opnd_rel r o
  rw [ho] at h
  have hv : a.eval o = .bool b := rep_b (h : Rep w S (.b b) (a.eval o))
  exact wpK_cond_split hv (fun hb => h1 hb a w S H r) (fun hb => h0 hb a w S H r)
theorem awc_region {id : Nat} {l : List Oper} (h : AWL P c l.toArray Q l st) : AWC P c (.region id l.toArray false) Q st := fun a w S H r => wpK_region_lit (fun _ _ _ hr q => q.atw hr) (h a w S H r)
omit [Nice P] in
theorem awc_of {x : Code} (st' : AS) (h : ∀ a w S H, Rel c st a w S H → ∃ S' H', Rel c st' a w S' H') (k : AWC P c x Q st') : AWC P c x Q st := fun a w S H r => by
  obtain ⟨S', H', r'⟩ := h a w S H r
  exact k a w S' H' r'
end
end Go.Proofs.Ytnphcnhejgpjgaa.Abs
end
section
namespace Go.Proofs.Ytnphcnhejgpjgaa.Abs
open Go.Proofs.Ytnphcnhejgpjgaa.Co
variable [Env]
open Go.RowKit
inductive ResV (P : Program) (st : AS) : ResultVar → SV → Prop
  | tmp (t : Tmp) (x : SV) (h : st.t t = .s x) : ResV P st (.tmp t) x
  | one (t : Tmp) (ty : TypeId) (l y : Lf) (cs : List Lf) (ti : TI P ty false 1) (h : st.t t = .s (.one l)) (hp : PtrTo st l cs) (hy : cs[0]? = some y) : ResV P st (.cell t ty) (.one y)
  | agg (t : Tmp) (ty : TypeId) (sz : Nat) (l : Lf) (cs : List Lf) (ti : TI P ty true sz) (h : st.t t = .s (.one l)) (hp : PtrTo st l cs) (hy : sz ≤ cs.length) : ResV P st (.cell t ty) (.agg (cs.take sz))
def ResVs (P : Program) (st : AS) : List ResultVar → List SV → Prop
  | [], xs => xs = []
  | v :: vs, xs => ∃ x r, ResV P st v x ∧ ResVs P st vs r ∧ xs = x :: r
omit [Env] in
theorem resVs_nil {P : Program} [Nice P] {st : AS} : ResVs P st [] [] := rfl
omit [Env] in
theorem resVs_cons {P : Program} [Nice P] {st : AS} {v : ResultVar} {vs : List ResultVar} {x : SV} {r : List SV} (h : ResV P st v x) (t : ResVs P st vs r) : ResVs P st (v :: vs) (x :: r) := ⟨x, r, h, t, rfl⟩
def rvSem (tmps : Array Value) : ResultVar → Sem Value
  | .tmp t => pure (tmps.getD t undef)
  | .cell b t => do loadVar t (← asAddr (tmps.getD b undef))
omit [Env] in
theorem results_eq (fn : Func) (tmps : Array Value) : results fn tmps = (fn.results.mapM (rvSem tmps)) >>= fun vs => pure (if h : vs.size = 1 then vs[0] else .tuple vs) := by
  unfold results
  have : (fun x => match x with | .tmp t => (pure (tmps.getD t undef) : Sem Value) | .cell b t => do loadVar t (← asAddr (tmps.getD b undef))) = rvSem tmps := by
    funext x
    cases x <;> rfl
  rw [← this]
  rfl
def resOf : List SV → AV
  | [x] => .s x
  | xs => .tup xs
omit [Env] in
theorem resV_run {P : Program} [Nice P] {c : Ctx} {st : AS} {a : Act} {w : World} {S : Stab} {H : Nat → Value} (r : Rel c st a w S H) {v : ResultVar} {x : SV} (h : ResV P st v x) :
    ∃ u, (rvSem a.tmps v).run P w = .ok u w ∧ SVR (GRep w S st.m H) x u := by
  cases h with
  | tmp t x h =>
    have := r.tm t
    rw [h] at this
    exact ⟨_, rfl, this⟩
  | one t ty l y cs ti h hp hy =>
    have h1 := r.tm t
    rw [h] at h1
    obtain ⟨g, off, hv, hc⟩ := ptrTo_cells r hp h1
    obtain ⟨u, hu, hr⟩ := hc 0 y hy
    rw [Nat.add_zero] at hu
    refine ⟨u, ?_, hr⟩
    show Sem.run P (do let x ← asAddr (a.tmps.getD t undef); loadVar ty x) w = .ok u w
    rw [hv]
    simp [asAddr, ti.run_load1 hu]
  | agg t ty sz l cs ti h hp hy =>
    have h1 := r.tm t
    rw [h] at h1
    have := opv_loadN (P := P) (c := c) (ty := 0) (x := .tmp t) ti h hp hy a w S H r
    obtain ⟨u, hu, hrun⟩ := this
    refine ⟨u, ?_, hu⟩
    obtain ⟨g, off, hv, hc⟩ := ptrTo_cells r hp h1
    have h2 := hrun none "" #[] none
    have hv' : a.eval (.tmp t) = .pointer (some ⟨g, off, none⟩) := hv
    show Sem.run P (do let x ← asAddr (a.tmps.getD t undef); loadVar ty x) w = .ok u w
    rw [hv]
    simp only [execOp, hv', Instr.loadAt, Instr.sureAddr] at h2
    simp only [asAddr]
    cases hl : (loadVar ty ⟨g, off, none⟩).run P w with
    | ok z w2 => simp [hl] at h2; obtain ⟨rfl, rfl⟩ := h2; simp [hl]
    | halt z w2 => simp [hl] at h2
omit [Env] in
theorem run_mapM_list {P : Program} [Nice P] {α β : Type} (f : α → Sem β) (w : World) : ∀ (l : List α) (vs : List β), l.length = vs.length → (∀ (j : Nat) (x : α) (v : β), l[j]? = some x → vs[j]? = some v → (f x).run P w = .ok v w) → (l.mapM f).run P w = .ok vs w
  | [], vs, hl, _ => by
    have : vs = [] := List.eq_nil_of_length_eq_zero hl.symm
    subst this
    simp
  | x :: l, [], hl, _ => by simp at hl
  | x :: l, v :: vs, hl, h => by
    have h0 := h 0 x v rfl rfl
    have ih := run_mapM_list f w l vs (by simpa using hl) (fun j x v h1 h2 => h (j + 1) x v (by simpa using h1) (by simpa using h2))
    simp [List.mapM_cons, h0, ih]
omit [Env] in
theorem resVs_run {P : Program} [Nice P] {c : Ctx} {st : AS} {a : Act} {w : World} {S : Stab} {H : Nat → Value} (r : Rel c st a w S H) : ∀ {vs : List ResultVar} {xs : List SV}, ResVs P st vs xs →
    ∃ us : List Value, vs.length = us.length ∧ SvsR (GRep w S st.m H) xs us ∧ ∀ (j : Nat) (v : ResultVar) (u : Value), vs[j]? = some v → us[j]? = some u →
      (rvSem a.tmps v).run P w = .ok u w
  | [], xs, h => by cases h; exact ⟨[], rfl, ⟨rfl, fun j x v h => by simp at h⟩, fun j x v h => by simp at h⟩
  | v :: vs, xs, h => by
    obtain ⟨x, rr, h1, h2, rfl⟩ := h
    obtain ⟨u, hu, hx⟩ := resV_run r h1
    obtain ⟨us, hl, hs, hr⟩ := resVs_run r h2
    refine ⟨u :: us, by simp [hl], ⟨by simp [hs.1], fun j y z hy hz => ?_⟩, fun j y z hy hz => ?_⟩
    · cases j with
      | zero => simp only [List.getElem?_cons_zero, Option.some.injEq] at hy hz; subst hy; subst hz; exact hx
      | succ j => exact hs.2 j y z (by simpa using hy) (by simpa using hz)
    · cases j with
      | zero => simp only [List.getElem?_cons_zero, Option.some.injEq] at hy hz; subst hy; subst hz; exact hu
      | succ j => exact hr j y z (by simpa using hy) (by simpa using hz)
omit [Env] in
theorem results_run {P : Program} [Nice P] {c : Ctx} {st : AS} {a : Act} {w : World} {S : Stab} {H : Nat → Value} (r : Rel c st a w S H) {fn : Func} {xs : List SV} (h : ResVs P st fn.results.toList xs) :
    ∃ u, (results fn a.tmps).run P w = .ok u w ∧ ∀ (S' : Stab) (ys : List SV), (∀ vs, SvsR (GRep w S st.m H) xs vs → SvsR (Rep w S') ys vs) → AVR (Rep w S') (resOf ys) u := by
  obtain ⟨us, hl, hs, hr⟩ := resVs_run r h
  have hm : (fn.results.mapM (rvSem a.tmps)).run P w = .ok us.toArray w := by
    have := run_mapM_list (P := P) (rvSem a.tmps) w fn.results.toList us hl hr
    rw [Array.mapM_eq_mapM_toList]
    simp only [Sem.run_map, this, Result.andThen_ok]
  have hres : (results fn a.tmps).run P w = .ok (if h : us.toArray.size = 1 then us.toArray[0] else .tuple us.toArray) w := by
    rw [results_eq, Sem.run_bind, hm]
    rfl
  refine ⟨_, hres, fun S' ys hy => ?_⟩
  have h1 := hy us hs
  clear hres hm hl hs hr hy
  match us, ys, h1 with
  | [u], [y], h1 => exact h1.2 0 y u rfl rfl
  | [u], [], h1 => have := h1.1; simp at this
  | [u], _ :: _ :: _, h1 => have := h1.1; simp at this
  | [], [], h1 => exact ⟨#[], rfl, rfl, fun j x u hx => by simp at hx⟩
  | [], _ :: _, h1 => have := h1.1; simp at this
  | _ :: _ :: _, [], h1 => have := h1.1; simp at this
  | _ :: _ :: _, [y], h1 => have := h1.1; simp at this
  | u1 :: u2 :: us, y1 :: y2 :: ys, h1 => exact ⟨(u1 :: u2 :: us).toArray, by simp, by simpa using h1.1, fun j x u hx hu => h1.2 j x u hx (by simpa using hu)⟩
def Done (P : Program) (fn : Func) (R : AV → Prop) (e : Exit) (st : AS) : Prop :=
  (e = .normal ∨ e = .ret) ∧ ∃ xs ys m', ResVs P st fn.results.toList xs ∧ PubA st.m xs ys m' ∧ R (resOf ys)
def argT (args : List SV) (i : Nat) : AV := match args[i]? with
  | some x => .s x
  | none => .tup []
theorem callsA_of {P : Program} [Nice P] {f : FuncId} {fn : Func} {body : Code} {args : List SV} {R : AV → Prop} (hf : P.funcs[f]? = some fn) (hb : fn.body = some body) {nt : Nat} (hnt : fn.ntmps = nt) (hn : args.length ≤ nt)
    (h : ∀ w0 S0, AWC P (Ctx.of w0 S0 nt) body (Done P fn R) ⟨argT args, []⟩) (hok : OkE body := by first | exact ⟨by kernel_rfl, fun h => noFr h⟩ | exact ⟨by kernel_rfl, fun _ => by kernel_rfl⟩) : CallsA P f args R := by
  subst hnt
  intro w S vs hS hv
  refine calls_of_wpK hf hb hok ?_
  have hlen : vs.size = args.length := by have := hv.1; simp at this; omega
  have hget : ∀ i, (vs ++ Array.replicate (fn.ntmps - vs.size) undef).getD i undef = vs.getD i undef := by
    intro i
    simp only [Array.getD_eq_getD_getElem?, Array.getElem?_append]
    split
    · rfl
    · rename_i hi
      rw [Array.getElem?_replicate]
      have : vs[i]? = none := Array.getElem?_eq_none (by omega)
      rw [this]
      split <;> rfl
  have r0 : Rel (Ctx.of w S fn.ntmps) ⟨argT args, []⟩ { tmps := vs ++ Array.replicate (fn.ntmps - vs.size) undef, defers := [] } w S (fun _ => undef) := by
    refine ⟨by simp; omega, rfl, fun i => ?_, fun p b h => by simp at h, fun p b g h => by simp at h, fun p q b b' g h => by simp at h, fun p b g i h => by simp at h, hS, ExtX.refl _ w S, Nat.zero_le _, fun p g h => absurd h (Nat.not_lt_zero _), fun p e sz k cs h => absurd h (Nat.not_lt_zero _), fun p h => absurd h (Nat.not_lt_zero _)⟩
    rw [hget]
    show AVR _ (match args[i]? with | some x => .s x | none => .tup []) _
    cases ha : args[i]? with
    | none =>
      have : vs[i]? = none := Array.getElem?_eq_none (by rw [hlen]; exact List.getElem?_eq_none_iff.1 ha)
      simp only [Array.getD_eq_getD_getElem?, this, Option.getD_none]
      exact avr_undef
    | some x =>
      have hi : i < args.length := (List.getElem?_eq_some_iff.1 ha).1
      have hi' : i < vs.size := by omega
      have : vs[i]? = some vs[i] := Array.getElem?_eq_getElem hi'
      simp only [Array.getD_eq_getD_getElem?, this, Option.getD_some]
      exact SVR.mono (fun _ _ => GRep.of_rep) (hv.2 i x _ ha (by simp))
  refine wpK_mono (h w S _ _ _ _ r0) ?_
  rintro e a w0 hq w1 d0
  replace hq := QR.atw d0 hq
  clear d0
  revert hq
  rintro ⟨st, S1, H, r, he, xs, ys, m', hx, hp, hR⟩
  obtain ⟨u, hu, hk⟩ := results_run r hx
  obtain ⟨S2, k2, g2⟩ := hp.keeps r
  have hav := hk S2 ys g2
  have hfin : ∃ v x S', Ending.returned u = .returned v ∧ R x ∧ Ext w S w1 S' ∧ InH w1 S' ∧ AVR (Rep w1 S') x v := ⟨u, resOf ys, S2, rfl, hR, k2.rel.ex.toExt (fun _ h => h), k2.rel.sl, hav⟩
  rcases he with rfl | rfl
  · exact ⟨r.df, u, hu, u, rfl, hfin⟩
  · exact ⟨r.df, u, hu, u, rfl, hfin⟩
def Lf.inb (n : Nat) : Lf → Bool
  | .lp p _ => decide (p < n)
  | .ls p _ => decide (p < n)
  | .ap p _ _ => decide (p < n)
  | .mp _ p => decide (p < n)
  | .fn _ la lb => la.all (fun l => match l with | .lp p _ => decide (p < n) | .ls p _ => decide (p < n) | .ap p _ _ => decide (p < n) | .mp _ p => decide (p < n) | _ => true) && lb.all (fun l => match l with | .lp p _ => decide (p < n) | .ls p _ => decide (p < n) | .ap p _ _ => decide (p < n) | .mp _ p => decide (p < n) | _ => true)
  | _ => true
def SV.inb (n : Nat) : SV → Prop
  | .one l => l.inb n = true
  | .agg ls => ∀ l ∈ ls, l.inb n = true
def AV.inb (n : Nat) : AV → Prop
  | .s x => x.inb n
  | .tup xs => ∀ x ∈ xs, x.inb n
  | .top => True
def Blk.inb (n : Nat) : Blk → Prop
  | .box cs => ∀ l ∈ cs, l.inb n = true
  | _ => True
omit [Env] in
theorem GRep0.trim {w : World} {S : Stab} {m ex : List Blk} {H : Nat → Value} {l : Lf} {v : Value} (hl : (match l with | .lp p _ => decide (p < m.length) | .ls p _ => decide (p < m.length) | .ap p _ _ => decide (p < m.length) | .mp _ p => decide (p < m.length) | _ => true) = true) (h : GRep0 w S (m ++ ex) H l v) : GRep0 w S m H l v := by
  cases l with
  | lp p off => exact ⟨by simpa using hl, h.2⟩
  | mp k p => exact ⟨by simpa using hl, h.2⟩
  | ls p n =>
    have hp : p < m.length := by simpa using hl
    exact ⟨hp, h.2.1, fun e sz k cs hm => h.2.2 e sz k cs (by rw [List.getElem?_append_left hp]; exact hm)⟩
  | ap p n off =>
    have hp : p < m.length := by simpa using hl
    exact ⟨hp, h.2.1, fun e sz k cs hm => h.2.2 e sz k cs (by rw [List.getElem?_append_left hp]; exact hm)⟩
  | _ => exact h
omit [Env] in
theorem GRep.trim {w : World} {S : Stab} {m ex : List Blk} {H : Nat → Value} {l : Lf} {v : Value} (hl : l.inb m.length = true) (h : GRep w S (m ++ ex) H l v) : GRep w S m H l v := by
  cases l with
  | fn f a b =>
    obtain ⟨va, vb, hv, h1, h2⟩ := h
    simp only [Lf.inb, Bool.and_eq_true, List.all_eq_true] at hl
    exact ⟨va, vb, hv, ⟨h1.1, fun j l v hj hu => GRep0.trim (hl.1 l (List.mem_of_getElem? hj)) (h1.2 j l v hj hu)⟩, ⟨h2.1, fun j l v hj hu => GRep0.trim (hl.2 l (List.mem_of_getElem? hj)) (h2.2 j l v hj hu)⟩⟩
  | lp p off => exact GRep0.trim (w := w) (S := S) (l := .lp p off) hl h
  | mp k p => exact GRep0.trim (w := w) (S := S) (l := .mp k p) hl h
  | ls p n => exact GRep0.trim (w := w) (S := S) (l := .ls p n) hl h
  | ap p n off => exact GRep0.trim (w := w) (S := S) (l := .ap p n off) hl h
  | i k n => exact h
  | b x => exact h
  | s x => exact h
  | raw v => exact h
  | sl n cs => exact h
  | cp cs => exact h
  | nix => exact h
  | jk e sz n => exact h
omit [Env] in
theorem SVR.trim {w : World} {S : Stab} {m ex : List Blk} {H : Nat → Value} {x : SV} {v : Value} (hx : x.inb m.length) (h : SVR (GRep w S (m ++ ex) H) x v) : SVR (GRep w S m H) x v := by
  cases x with
  | one l => exact GRep.trim hx h
  | agg ls =>
    obtain ⟨cs, rfl, h1, h2⟩ := h
    exact ⟨cs, rfl, h1, fun j l u hl hu => GRep.trim (hx l (List.mem_of_getElem? hl)) (h2 j l u hl hu)⟩
omit [Env] in
theorem AVR.trim {w : World} {S : Stab} {m ex : List Blk} {H : Nat → Value} {x : AV} {v : Value} (hx : x.inb m.length) (h : AVR (GRep w S (m ++ ex) H) x v) : AVR (GRep w S m H) x v := by
  cases x with
  | s x => exact SVR.trim hx h
  | tup xs =>
    obtain ⟨vs, rfl, h1, h2⟩ := h
    exact ⟨vs, rfl, h1, fun j x u hj hu => SVR.trim (hx x (List.mem_of_getElem? hj)) (h2 j x u hj hu)⟩
  | top => trivial
omit [Env] in
theorem Rel.trim {c : Ctx} {t : Nat → AV} {m ex : List Blk} {a : Act} {w : World} {S : Stab} {H : Nat → Value} (r : Rel c ⟨t, m ++ ex⟩ a w S H) {t' : Nat → AV} (ht : ∀ i, t' i = .top ∨ (t' i = t i ∧ (t i).inb m.length)) (hm : ∀ b ∈ m, b.inb m.length) (hk : c.m0.length ≤ m.length) : Rel c ⟨t', m⟩ a w S H := by
  have hget : ∀ {p : Nat} {b : Blk}, m[p]? = some b → (m ++ ex)[p]? = some b := fun {p b} h => by rw [List.getElem?_append_left (List.getElem?_eq_some_iff.1 h).1]; exact h
  refine ⟨r.nt, r.df, fun i => ?_, fun p b hb => ?_, fun p b g hb ho => r.lo p b g (hget hb) ho, fun p q b b' g hb hb' => r.inj p q b b' g (hget hb) (hget hb'), fun p b g i hb => r.sb p b g i (hget hb), r.sl, r.ex, hk, r.kh, fun p e sz k cs hp hm' => r.kr p e sz k cs hp (hget hm'), r.ku⟩
  · rcases ht i with h | ⟨h1, h2⟩
    · show AVR _ (t' i) _
      rw [h]; trivial
    · show AVR _ (t' i) _
      rw [h1]
      exact AVR.trim h2 (r.tm i)
  · have hr := r.bl p b (hget hb)
    cases b with
    | dead => trivial
    | hole => exact hr
    | obj g mk cs => exact hr
    | tab mk cs => exact hr
    | arr e sz k cs => exact hr
    | box cs =>
      obtain ⟨g, e, cur, h1, h2, h3⟩ := hr
      have hin := hm _ (List.mem_of_getElem? hb)
      exact ⟨g, e, cur, h1, h2, h3.1, fun j l v hl hv => GRep.trim (hin l (List.mem_of_getElem? hl)) (h3.2 j l v hl hv)⟩
def updL (t : Nat → AV) : List (Nat × AV) → Nat → AV
  | [] => t
  | (i, x) :: r => upd (updL t r) i x
def MatchL (t : Nat → AV) : List (Nat × AV) → Prop
  | [] => True
  | (i, x) :: r => t i = x ∧ MatchL t r
def InbL (n : Nat) : List (Nat × AV) → Prop
  | [] => True
  | (_, x) :: r => x.inb n ∧ InbL n r
omit [Env] in
theorem updL_match {t : Nat → AV} : ∀ {l : List (Nat × AV)} {n : Nat}, MatchL t l → InbL n l → ∀ i, updL (fun _ => .top) l i = .top ∨ (updL (fun _ => .top) l i = t i ∧ (t i).inb n)
  | [], _, _, _, i => .inl rfl
  | (j, x) :: r, n, h, hn, i => by
    show upd (updL (fun _ => .top) r) j x i = .top ∨ (upd (updL (fun _ => .top) r) j x i = t i ∧ _)
    rw [upd_def]
    by_cases e : i = j
    · subst e
      simp only [if_true]
      exact .inr ⟨h.1.symm, by rw [h.1]; exact hn.1⟩
    · simp only [if_neg e]
      exact updL_match h.2 hn.2 i
section
variable {P : Program} [Nice P] {c : Ctx} {st : AS} {Q : Exit → AS → Prop}
omit [Nice P] in
theorem awc_loop {body : Code} {G : Type} (sl : G → List (Nat × AV)) (mm : G → List Blk) (pre : G → Prop) (μ : G → Nat) (g0 : G) (p0 : pre g0) (s0 : MatchL st.t (sl g0)) (ex : List Blk) (m0 : st.m = mm g0 ++ ex)
    (hin : ∀ g, pre g → InbL (mm g).length (sl g)) (hmin : ∀ g, pre g → ∀ b ∈ mm g, b.inb (mm g).length) (hk : ∀ g, pre g → c.m0.length ≤ (mm g).length)
    (round : ∀ g, pre g → AWC P c body (thenA (fun st' => ∃ g' ex', pre g' ∧ MatchL st'.t (sl g') ∧ st'.m = mm g' ++ ex' ∧ μ g' < μ g) Q) ⟨updL (fun _ => .top) (sl g), mm g⟩) : AWC P c (.loop body) Q st := by
  intro a w S H r
  intro ok b k cs Z hb hz
  have key : ∀ n, ∀ g a w S H, pre g → μ g = n → Rel c ⟨updL (fun _ => .top) (sl g), mm g⟩ a w S H → TrK P Z (Go.Conc.G (b.at a (.code body :: .inLoop body :: k)) cs) w := by
    intro n
    induction n using Nat.strongRecOn with
    | _ n ih =>
      intro g a w S H hp hn r
      refine round g hp a w S H r ok b (.inLoop body :: k) cs Z hb fun e a₁ w₁ hq => ?_
      obtain ⟨st', S', H', r', hq⟩ := hq
      cases e with
      | normal =>
        obtain ⟨g', ex', hp', hs', hm', hlt⟩ := hq
        have r'' : Rel c ⟨st'.t, mm g' ++ ex'⟩ a₁ w₁ S' H' := by rw [← hm']; exact r'
        have rt := r''.trim (updL_match hs' (hin g' hp')) (hmin g' hp') (hk g' hp')
        exact .ctl rfl (fun _ => Go.Conc.stepG_inLoop) (ih (μ g') (hn ▸ hlt) g' a₁ w₁ S' H' hp' rfl rt)
      | exit id => obtain ⟨k', h1, h2⟩ := hz _ _ _ ⟨st', S', H', r', hq⟩; exact ⟨k', by simpa [exitTo] using h1, h2⟩
      | goto l => obtain ⟨k', h1, h2⟩ := hz _ _ _ ⟨st', S', H', r', hq⟩; exact ⟨k', by simpa [gotoIn] using h1, h2⟩
      | ret => exact hz _ _ _ ⟨st', S', H', r', hq⟩
      | panic ch => exact (hz _ _ _ ⟨st', S', H', r', hq⟩).elim
      | outgrown => exact (hz _ _ _ ⟨st', S', H', r', hq⟩).elim
  have r0 : Rel c ⟨st.t, mm g0 ++ ex⟩ a w S H := by rw [← m0]; exact r
  have rt := r0.trim (updL_match s0 (hin g0 p0)) (hmin g0 p0) (hk g0 p0)
  exact .ctl rfl (fun _ => Go.Conc.stepG_loop) (key _ g0 a w S H p0 rfl rt)
end
end Go.Proofs.Ytnphcnhejgpjgaa.Abs
end
section
namespace Go.Proofs.Ytnphcnhejgpjgaa.Abs
open Go.Proofs.Ytnphcnhejgpjgaa.Co
variable [Env]
open Go.RowKit
structure EI (P : Program) (e sz bytes : Nat) (zl : List Lf) : Prop where
  h : ∃ i z, P.info? e = some i ∧ i.zero = some z ∧ i.size = sz ∧ i.bytes = bytes ∧ z.cells.size = sz ∧ z.cells.toList.map clf = zl ∧ z.cells.all (·.oneCell') = true
  p : 0 < sz
structure NI (P : Program) (t : TypeId) : Prop where
  h : (∃ e, P.underlying t = some (.slice e)) ∨ P.underlying t = some .string
structure Src (P : Program) (w : World) (y : Value) (size m : Nat) (news : List Value) : Prop where
  len : ∀ w1, (Builtin.lenOf y).run P w1 = .ok m w1
  cells : ∀ w1 : World, (∀ a, w1.cell? a = w.cell? a) → (Builtin.firstCells size m y).run P w1 = .ok news.toArray w1
section run
variable {P : Program} [Nice P] {w : World} {t t2 ty e : TypeId} {i : TypeInfo} {z y : Value} {n cap m : Nat} {news : List Value}
omit [Env] [Nice P] in
theorem run_app_zero {base : Option Addr} {size : Nat} (ht : P.underlying t = some (.slice e)) (hi : P.info? e = some i) (hz : i.size = size) (h2 : NI P t2) (hs : Src P w y size 0 []) (hc : n ≤ cap) :
    (Builtin.append_ #[t, t2] ty #[.slice base n cap, y]).run P w = .ok (.slice base n cap) w := by
  subst hz
  have h1 := hs.len w
  have h3 := hs.cells w (fun _ => rfl)
  rcases h2.h with ⟨e2, hu2⟩ | hu2
  · cases base with
    | none => simp [Builtin.append_, run_underlying ht, run_underlying hu2, sizeOf, typeInfo, hi, h1, h3, hc]
    | some a => simp [Builtin.append_, run_underlying ht, run_underlying hu2, sizeOf, typeInfo, hi, h1, h3, hc, storeCells]
  · cases base with
    | none => simp [Builtin.append_, run_underlying ht, run_underlying hu2, sizeOf, typeInfo, hi, h1, h3, hc]
    | some a => simp [Builtin.append_, run_underlying ht, run_underlying hu2, sizeOf, typeInfo, hi, h1, h3, hc, storeCells]
omit [Env] [Nice P] in
theorem run_app_room {g : Nat} {cur : Array Value} (ht : P.underlying t = some (.slice e)) (hi : P.info? e = some i) (h2 : NI P t2) (hs : Src P w y i.size m news) (hg : w.heap[g]? = some (.cells cur e (0, 0)))
    (h1 : ∀ u ∈ news, u.oneCell' = true) (hroom : n + m ≤ cap) (hfit : n * i.size + news.length ≤ cur.size) :
    (Builtin.append_ #[t, t2] ty #[.slice (some ⟨g, 0, none⟩) n cap, y]).run P w =
      .ok (.slice (some ⟨g, 0, none⟩) (n + m) cap) (w.setRow g (cur.toList.take (n * i.size) ++ news ++ cur.toList.drop (n * i.size + news.length)).toArray) := by
  have hl := hs.len w
  have hf := hs.cells w (fun _ => rfl)
  have hst := run_storeCells_at P g (n * i.size) e news 0 cur w hg (by simpa using hfit) h1
  simp only [Nat.add_zero] at hst
  rcases h2.h with ⟨e2, hu2⟩ | hu2
  · simp [Builtin.append_, run_underlying ht, run_underlying hu2, sizeOf, typeInfo, hi, hl, hroom, hf, Addr.add_lit, hst]
  · simp [Builtin.append_, run_underlying ht, run_underlying hu2, sizeOf, typeInfo, hi, hl, hroom, hf, Addr.add_lit, hst]
omit [Env] [Nice P] in
theorem run_app_grow {base : Option Addr} {olds : List Value} (ht : P.underlying t = some (.slice e)) (hi : P.info? e = some i) (hz : i.zero = some z) (h2 : NI P t2) (hs : Src P w y i.size m news)
    (ho : ∀ w1 : World, (∀ a, w1.cell? a = w.cell? a) → (Builtin.firstCells i.size n (.slice base n cap)).run P w1 = .ok olds.toArray w1)
    (hg : cap < n + m) (h63 : ((n + m : Nat) : Int) ≤ 9223372036854775807) (hfit : Builtin.nextslicecap (n + m) cap * i.bytes ≤ 281474976710656) :
    (Builtin.append_ #[t, t2] ty #[.slice base n cap, y]).run P w =
      .ok (.slice (some ⟨w.heap.size, 0, none⟩) (n + m) (grownCap w (n + m) cap e)) (w.drew.alloc (.cells (olds.toArray ++ news.toArray ++ Builtin.zeroCells z.cells (grownCap w (n + m) cap e - (n + m))) e)) := by
  have hl := hs.len w
  have hn : ¬ (n + m ≤ cap) := by omega
  have h63' : ¬ (9223372036854775807 < ((n : Int) + (m : Int))) := by omega
  have h48' : ¬ (281474976710656 < Builtin.nextslicecap (n + m) cap * i.bytes) := by omega
  have hf := hs.cells w.drew (fun _ => rfl)
  have hfo := ho w.drew (fun _ => rfl)
  rcases h2.h with ⟨e2, hu2⟩ | hu2
  · simp [Builtin.append_, run_underlying ht, run_underlying hu2, sizeOf, typeInfo, zeroValue, hi, hz, hl, hn, h63', h48', Question.forced, hf, hfo, newRow, grownCap]
    congr 2
    apply Array.ext'
    simp [List.append_assoc]
  · simp [Builtin.append_, run_underlying ht, run_underlying hu2, sizeOf, typeInfo, zeroValue, hi, hz, hl, hn, h63', h48', Question.forced, hf, hfo, newRow, grownCap]
    congr 2
    apply Array.ext'
    simp [List.append_assoc]
end run
omit [Env] in
theorem LsR.append {R : Lf → Value → Prop} {a b : List Lf} {x y : List Value} (h : LsR R a x) (k : LsR R b y) : LsR R (a ++ b) (x ++ y) := by
  refine ⟨by simp [h.1, k.1], fun j l v h1 h2 => ?_⟩
  by_cases hj : j < a.length
  · rw [List.getElem?_append_left hj] at h1
    rw [List.getElem?_append_left (by rw [← h.1]; exact hj)] at h2
    exact h.2 j l v h1 h2
  · rw [List.getElem?_append_right (by omega)] at h1
    rw [List.getElem?_append_right (by rw [← h.1]; omega), ← h.1] at h2
    exact k.2 _ l v h1 h2
omit [Env] in
theorem Rel.append {P : Program} [Nice P] {c : Ctx} {st : AS} {a : Act} {w : World} {S : Stab} {H : Nat → Value} (r : Rel c st a w S H) {t t2 ty e : TypeId} {sz bytes : Nat} {zl : List Lf} {p n m k : Nat} {cs ys : List Lf} {y : Value} {news : List Value}
    (ht : P.underlying t = some (.slice e)) (ei : EI P e sz bytes zl) (h2 : NI P t2) (hm : st.m[p]? = some (.arr e sz k cs)) (hn : n * sz = cs.length) (hs : Src P w y sz m news) (hy : ys.length = m * sz) (hls : LsR (Rep w S) ys news)
    (h63 : n + m ≤ maxLen) (hb : (n + m) * bytes ≤ 140737488355328) :
    ∃ v' w' S' H', (Builtin.append_ #[t, t2] ty #[H p, y]).run P w = .ok v' w' ∧ Rel c ⟨st.t, st.m.set p (.arr e sz k (cs ++ ys))⟩ a w' S' H' ∧ H' p = v' := by
  obtain ⟨i, z, hi, hz, hsize, hbytes, hzs, hzl, hzo⟩ := ei.h
  have hp : p < st.m.length := (List.getElem?_eq_some_iff.1 hm).1
  obtain ⟨hsz, hk, n0, vals, hown, hcs, hstb⟩ := r.bl p _ hm
  have hnn : n0 = n := ownsRow_n hown hsz (by rw [← hcs.1]; exact hn)
  subst hnn
  have hnl : news.length = m * sz := by rw [← hls.1, hy]
  have hone : ∀ u ∈ news, u.oneCell' = true := by
    intro u hu
    obtain ⟨j, hj, hju⟩ := List.getElem_of_mem hu
    have hj' : j < ys.length := by rw [hls.1]; exact hj
    exact Rep.oneCell (hls.2 j _ u (List.getElem?_eq_getElem hj') (by rw [List.getElem?_eq_getElem hj, hju]))
  subst hsize
  subst hbytes
  have hset : ∀ v, (v = H p) → setH H p v = H := fun v hv => by
    funext q
    by_cases e' : q = p
    · rw [e', setH_same]; exact hv
    · exact setH_other H _ e'
  by_cases hm0 : m = 0
  · subst hm0
    have h1 : news = [] := List.eq_nil_of_length_eq_zero (by rw [hnl, Nat.zero_mul])
    have h1' : ys = [] := List.eq_nil_of_length_eq_zero (by rw [hy, Nat.zero_mul])
    subst h1; subst h1'
    have hsame : st.m.set p (.arr e i.size k (cs ++ [])) = st.m := by
      rw [List.append_nil]
      apply List.ext_getElem?
      intro q
      by_cases e' : p = q
      · subst e'; rw [List.getElem?_set_self hp, hm]
      · rw [List.getElem?_set_ne e']
    refine ⟨H p, w, S, H, ?_, by rw [hsame]; exact r, rfl⟩
    rcases hown.2 with ⟨hv, h0⟩ | ⟨g, cap, cur, hv, _, _, hnc, _, _, _⟩
    · rw [hv]; exact run_app_zero (n := 0) ht hi rfl h2 hs (Nat.le_refl _)
    · rw [hv]; exact run_app_zero ht hi rfl h2 hs hnc
  have hmpos : 0 < m := Nat.pos_of_ne_zero hm0
  have hyspos : 0 < ys.length := by rw [hy]; exact Nat.mul_pos hmpos hsz
  -- what a new block, behind the old ones, makes of it
  have grow : ∀ (olds : List Value) (old : Nat), olds = vals → old < n0 + m → ownOf (H p) ≠ some w.heap.size →
      ∃ S' H', Rel c ⟨st.t, st.m.set p (.arr e i.size k (cs ++ ys))⟩ a (w.drew.alloc (.cells (olds.toArray ++ news.toArray ++ Builtin.zeroCells z.cells (grownCap w (n0 + m) old e - (n0 + m))) e)) S' H' ∧
        H' p = .slice (some ⟨w.heap.size, 0, none⟩) (n0 + m) (grownCap w (n0 + m) old e) := by
    intro olds old ho hold _
    subst ho
    have hge := grownCap_ge w (n0 + m) old e
    have hcm : grownCap w (n0 + m) old e ≤ maxLen := grownCap_le_maxLen w (n0 + m) old e h63
    generalize hcap : grownCap w (n0 + m) old e = cap' at *
    have hlen : (olds ++ news).length = (n0 + m) * i.size := by rw [List.length_append, hown.1, hnl, Nat.add_mul]
    have hfr := r.fresh (g := w.heap.size) (Nat.le_refl _)
    let S' : Stab := fun b j => S b j ∨ (b = w.heap.size ∧ j < k)
    have hkeep : ∀ b j, S b j → S' b j ∧ (w.drew.alloc (.cells (olds.toArray ++ news.toArray ++ Builtin.zeroCells z.cells (cap' - (n0 + m))) e)).cell? ⟨b, j, none⟩ = w.cell? ⟨b, j, none⟩ :=
      fun b j h => ⟨.inl h, World.cell?_alloc_lt w.drew _ ⟨b, j, none⟩ (r.sl.1 b j h)⟩
    have hown' : (w.drew.alloc (.cells (olds.toArray ++ news.toArray ++ Builtin.zeroCells z.cells (cap' - (n0 + m))) e)).ownsRow 0 e i.size (.slice (some ⟨w.heap.size, 0, none⟩) (n0 + m) cap') (n0 + m) (olds ++ news) := by
      refine ⟨hlen, .inr ⟨w.heap.size, cap', _, rfl, Nat.zero_le _, heap_alloc_new w.drew _, hge, hcm, ?_, ?_⟩⟩
      · simp only [Array.size_append, List.size_toArray, size_zeroCells, hzs, hown.1, hnl, ← Nat.add_mul]
        congr 1
        omega
      · simp only [Array.toList_append, List.append_assoc]
        rw [← List.append_assoc, ← hlen]
        exact List.take_left
    refine ⟨S', setH H p (.slice (some ⟨w.heap.size, 0, none⟩) (n0 + m) cap'), ?_, setH_same H p _⟩
    refine r.change (b' := .arr e i.size k (cs ++ ys)) (by simp) (by rw [List.getElem?_set_self hp]) (fun q hq => List.getElem?_set_ne (fun e => hq e.symm)) hkeep (fun g _ hg => ?_)
      (fun e' sz' k' cs' _ h => by cases h; exact ⟨k, cs, hm, .inr (by simp; omega)⟩) (fun g hg _ => Below.heap_alloc w.drew _ g hg) ?_ (fun g hg => ?_) (fun q b g j hq hb ho hs => ?_) (fun g j hg _ hs => ?_) ⟨fun b j hs => ?_, r.sl.2.1.mono hkeep⟩ (by simp) rfl rfl rfl
    · rcases hown.2 with ⟨hv, _⟩ | ⟨g', cap, cur, hv, _⟩
      · rw [hv] at hg; cases hg
      · rw [hv] at hg; cases hg
    · refine ⟨hsz, by simp; omega, n0 + m, olds ++ news, hown', (LsR.append hcs hls).mono (fun l v => Rep.mono hkeep), fun g hg j hj => ?_⟩
      simp only [ownOf, Option.some.injEq] at hg
      exact .inr ⟨hg.symm, hj⟩
    · simp only [Blk.own, ownOf, Option.some.injEq] at hg
      subst hg
      refine ⟨.inl r.ex.size, by simp, fun q b _ hb => hfr.1 q b hb, fun j hj => ?_⟩
      rcases hj with hj | hj
      · exact absurd hj (hfr.2 j)
      · exact hj.2
    · rcases hs with hs | hs
      · exact hs
      · have := (r.lo q b g hb ho).2; omega
    · rcases hs with hs | hs
      · exact hs
      · have := r.ex.size; omega
    · rcases hs with hs | hs
      · have := r.sl.1 b j hs; simp; omega
      · rw [hs.1]; simp
  have h63' : ((n0 + m : Nat) : Int) ≤ 9223372036854775807 := by simp only [maxLen] at h63; omega
  rcases hown.2 with ⟨hv, h0⟩ | ⟨g, cap, cur, hv, hbg, hg, hnc, hcm, hcsz, htake⟩
  · subst h0
    have hvals : vals = [] := List.eq_nil_of_length_eq_zero (by simpa using hown.1)
    obtain ⟨S', H', hr, hH⟩ := grow [] 0 hvals.symm (by omega) (by rw [hv]; simp [ownOf])
    refine ⟨_, _, S', H', ?_, hr, hH⟩
    rw [hv]
    exact run_app_grow (n := 0) (cap := 0) ht hi hz h2 hs (fun w1 _ => by simp [Builtin.firstCells]) (by omega) h63' (growslice_fits (by omega) hb)
  · by_cases hroom : n0 + m ≤ cap
    · have hfit : n0 * i.size + news.length ≤ cur.size := by rw [hnl, hcsz, ← Nat.add_mul]; exact Nat.mul_le_mul_right _ hroom
      have hrun := run_app_room (ty := ty) (n := n0) (cap := cap) ht hi h2 hs hg hone hroom hfit
      have hrow := setRow_heap w g cur (cur.toList.take (n0 * i.size) ++ news ++ cur.toList.drop (n0 * i.size + news.length)).toArray e _ hg
      have hoth : ∀ q, q ≠ g → (w.setRow g (cur.toList.take (n0 * i.size) ++ news ++ cur.toList.drop (n0 * i.size + news.length)).toArray).heap[q]? = w.heap[q]? := fun q hq => setRow_other w g q _ hq
      have hownp : (Blk.arr e i.size k cs).own (H p) = some g := by rw [hv]; rfl
      have hcl : cs.length = n0 * i.size := hn.symm
      have hkeep : ∀ b j, S b j → S b j ∧ (w.setRow g (cur.toList.take (n0 * i.size) ++ news ++ cur.toList.drop (n0 * i.size + news.length)).toArray).cell? ⟨b, j, none⟩ = w.cell? ⟨b, j, none⟩ := by
        intro b j hS
        refine ⟨hS, ?_⟩
        by_cases hbg' : b = g
        · subst hbg'
          have hj : j < cs.length := Nat.lt_of_lt_of_le (r.sb p _ b j hm hownp hS) hk
          rw [cell_of_row _ b j _ e (0, 0) hrow, cell_of_row w b j cur e (0, 0) hg]
          have := getElem?_putAt cur.toList news (n0 * i.size) j hfit
          rw [if_pos (by omega)] at this
          simpa using this
        · exact World.cell?_of_block (w := w) (hoth b hbg')
      refine ⟨_, _, S, setH H p (.slice (some ⟨g, 0, none⟩) (n0 + m) cap), by rw [hv]; exact hrun, ?_, setH_same H p _⟩
      have hlen : (vals ++ news).length = (n0 + m) * i.size := by rw [List.length_append, hown.1, hnl, Nat.add_mul]
      have hown' : (w.setRow g (cur.toList.take (n0 * i.size) ++ news ++ cur.toList.drop (n0 * i.size + news.length)).toArray).ownsRow 0 e i.size (.slice (some ⟨g, 0, none⟩) (n0 + m) cap) (n0 + m) (vals ++ news) := by
        refine ⟨hlen, .inr ⟨g, cap, _, rfl, hbg, hrow, hroom, hcm, ?_, ?_⟩⟩
        · simp only [List.size_toArray, List.length_append, List.length_take, List.length_drop, Array.length_toList]; omega
        · rw [htake, ← hlen]; exact List.take_left
      refine r.change (b' := .arr e i.size k (cs ++ ys)) (by simp) (by rw [List.getElem?_set_self hp]) (fun q hq => List.getElem?_set_ne (fun e => hq e.symm)) hkeep (fun g' _ hg' => by rw [hv] at hg'; cases hg')
        (fun e' sz' k' cs' _ h => by cases h; exact ⟨k, cs, hm, .inr (by simp; omega)⟩) (fun g' _ hne => hoth g' (fun e' => hne _ hm (by rw [e']; exact hownp))) ?_ (fun g' hg' => ?_) (fun q b g' j _ _ _ hs => hs) (fun g' j _ _ hs => hs) ⟨fun b j hs => by simp; exact r.sl.1 b j hs, r.sl.2.1.mono hkeep⟩ (by simp) rfl rfl rfl
      · refine ⟨hsz, by simp; omega, n0 + m, vals ++ news, hown', (LsR.append hcs hls).mono (fun l v => Rep.mono hkeep), fun g' hg' j hj => ?_⟩
        simp only [ownOf, Option.some.injEq] at hg'
        subst hg'
        exact hstb _ hownp j hj
      · simp only [Blk.own, ownOf, Option.some.injEq] at hg'
        subst hg'
        refine ⟨(r.lo p _ g hm hownp).1, by simp; exact (r.lo p _ g hm hownp).2, fun q b hq hb ho => hq (r.inj q p b _ g hb hm ho hownp), fun j hj => (r.sb p _ g j hm hownp hj : j < k)⟩
    · have hne : ownOf (H p) ≠ some w.heap.size := by
        rw [hv]
        simp only [ownOf, ne_eq, Option.some.injEq]
        have := (Array.getElem?_eq_some_iff.1 hg).1
        omega
      obtain ⟨S', H', hr, hH⟩ := grow vals cap rfl (by omega) hne
      refine ⟨_, _, S', H', ?_, hr, hH⟩
      rw [hv]
      refine run_app_grow ht hi hz h2 hs (fun w1 hw1 => ?_) (by omega) h63' (growslice_fits (by omega) hb)
      exact run_firstCells_some w1 i.size n0 ⟨g, 0, none⟩ n0 cap vals hown.1 (fun j v hv' => by rw [hw1]; exact hown.cells (g := g) (by rw [hv]; rfl) j v hv')
inductive SrcOf (P : Program) : SV → Nat → Nat → List Lf → Prop
  | sl (sz n : Nat) (cs : List Lf) (h : cs.length = n * sz) : SrcOf P (.one (.sl n cs)) sz n cs
  | nil (sz : Nat) : SrcOf P (.one (.raw (.slice none 0 0))) sz 0 []
  | str (x : ByteArray) : SrcOf P (.one (.s x)) 1 x.size (x.data.toList.map fun b => .i .u8 b.toNat)
omit [Env] in
theorem SrcOf.src {P : Program} [Nice P] {w : World} {S : Stab} {x : SV} {sz m : Nat} {ys : List Lf} (h : SrcOf P x sz m ys) {v : Value} (hv : SVR (Rep w S) x v) : ∃ news, Src P w v sz m news ∧ ys.length = m * sz ∧ LsR (Rep w S) ys news := by
  match x, sz, m, ys, h with
  | _, _, _, _, .sl sz n cs h =>
    have hv' : Rep w S (.sl n cs) v := hv
    cases hv' with
    | sl0 a cap =>
      refine ⟨[], ⟨fun w1 => by simp [Builtin.lenOf], fun w1 _ => ?_⟩, h, rfl, fun j l v h => by simp at h⟩
      cases a <;> simp [Builtin.firstCells, loadCells, loadCellsFrom]
    | sl n cs bk off cap vals hc hm hs hr =>
      refine ⟨(List.range cs.length).map vals, ⟨fun w1 => by simp [Builtin.lenOf], fun w1 hw1 => ?_⟩, h, by simp, fun j l u h1 h2 => ?_⟩
      · refine run_firstCells_some w1 sz n ⟨bk, off, none⟩ n cap _ (by simpa using h) (fun j v hj => ?_)
        rw [List.getElem?_map] at hj
        have hjl : j < cs.length := by
          rcases Nat.lt_or_ge j cs.length with h | h
          · exact h
          · rw [List.getElem?_eq_none (by simpa using h)] at hj; cases hj
        rw [List.getElem?_range hjl] at hj
        cases hj
        rw [Addr.add_lit, hw1]
        exact (hs j _ (List.getElem?_eq_getElem hjl)).2
      · have hjl : j < cs.length := (List.getElem?_eq_some_iff.1 h1).1
        rw [List.getElem?_map, List.getElem?_range hjl] at h2
        cases h2
        exact hr j l h1
  | _, _, _, _, .nil sz =>
    have hv' : v = .slice none 0 0 := rep_raw hv
    subst hv'
    exact ⟨[], ⟨fun w1 => by simp [Builtin.lenOf], fun w1 _ => by simp [Builtin.firstCells]⟩, by simp, rfl, fun j l v h => by simp at h⟩
  | _, _, _, _, .str x =>
    have hv' : v = .string x := rep_s hv
    subst hv'
    refine ⟨x.data.toList.map fun b => .int .u8 b.toNat, ⟨fun w1 => by simp [Builtin.lenOf], fun w1 _ => ?_⟩, by simp, by simp, fun j l u h1 h2 => ?_⟩
    · have hx2 : (x.extract 0 x.size) = x := by simp
      simp only [Builtin.firstCells, Sem.run_pure, hx2]
      congr 1
      apply Array.ext'
      simp
    · rw [List.getElem?_map] at h1 h2
      cases hb : x.data.toList[j]? with
      | none => rw [hb] at h1; cases h1
      | some b =>
        rw [hb] at h1 h2
        cases h1; cases h2
        exact .i _ _
section
variable {P : Program} [Nice P] {c : Ctx} {st : AS} {ops : Array Oper} {Q : Exit → AS → Prop} {rest : List Oper} {ty : TypeId} {pos : String} {af : Array Edge} {d : Tmp}
theorem awl_append {x y : Operand} {t t2 e sz bytes p n m k : Nat} {zl cs ys : List Lf} {yv yv' : SV} {m' : List Blk} (si : P.underlying t = some (.slice e)) (ei : EI P e sz bytes zl) (h2 : NI P t2) (hx : opnd st x = .s (.one (.ls p n))) (hy : opnd st y = .s yv)
    (hp : PubV st.m yv yv' m') (hm : m'[p]? = some (.arr e sz k cs)) (hn : n * sz = cs.length) (hsrc : SrcOf P yv' sz m ys) (h63 : n + m ≤ maxLen) (hb : (n + m) * bytes ≤ 140737488355328) (hd : d < c.nt)
    (kk : AWL P c ops Q rest ⟨Go.Proofs.Ytnphcnhejgpjgaa.Abs.upd st.t d (.s (.one (.ls p (n + m)))), m'.set p (.arr e sz k (cs ++ ys))⟩) :
    AWL P c ops Q (⟨some d, .call { callee := .builtin .append, args := #[x, y], argTypes := #[t, t2] }, ty, pos, af, none⟩ :: rest) st := by
  refine awl_at fun a w S H r => ?_
  have hy' := opnd_rel r y
  rw [hy] at hy'
  obtain ⟨S1, k1, g1⟩ := hp.keeps r
  have hyr := g1 _ hy'
  obtain ⟨news, hs, hyl, hls⟩ := hsrc.src hyr
  have hx' := opnd_rel r x
  rw [hx] at hx'
  have hx2 : GRep w S1 m' H (.ls p n) (a.eval x) := k1.gr _ _ hx'
  obtain ⟨hpl, _, hr⟩ := hx2
  have hH := (hr _ _ _ _ hm).2 hn
  obtain ⟨v', w', S', H', hrun, hrel, hHp⟩ := k1.rel.append (P := P) (ty := ty) si ei h2 hm hn hs hyl hls h63 hb
  refine wpListP_plain rfl fun K hK => ?_
  unfold operK
  have hrun' : (execOp a.eval ⟨some d, .call { callee := .builtin .append, args := #[x, y], argTypes := #[t, t2] }, ty, pos, af, none⟩).run P w = .ok (.value v') w' := by
    simp [execOp, resolve, invoke, builtin, hH, hrun]
  rw [hrun']
  refine hK _ _ (kk _ _ _ _ (hrel.put (d := d) (x := .s (.one (.ls p (n + m)))) hd ?_))
  refine ⟨by simpa using hpl, ?_, fun e2 sz2 k2 cs2 hm2 => ?_⟩
  · rw [← hHp]
    obtain ⟨_, _, n', vals, hown, _⟩ := hrel.bl p _ (by show (m'.set p _)[p]? = some (.arr e sz k (cs ++ ys)); rw [List.getElem?_set_self hpl])
    exact ownsRow_one hown
  · have : (m'.set p (.arr e sz k (cs ++ ys)))[p]? = some (.arr e2 sz2 k2 cs2) := hm2
    rw [List.getElem?_set_self hpl] at this
    cases this
    exact ⟨by rw [List.length_append, hyl, Nat.add_mul, hn]; exact Nat.le_refl _, fun _ => hHp.symm⟩
end
end Go.Proofs.Ytnphcnhejgpjgaa.Abs
end
section
namespace Go.Proofs.Ytnphcnhejgpjgaa.Abs
open Go.Proofs.Ytnphcnhejgpjgaa.Co
variable [Env]
open Go.RowKit
def mkLs (zl : List Lf) (n : Nat) : List Lf := (List.range n).map fun j => zl.getD (j % zl.length) default
omit [Env] in
theorem mkLs_length (zl : List Lf) (n : Nat) : (mkLs zl n).length = n := by simp [mkLs]
omit [Env] in
theorem made_rep {w : World} {S : Stab} {z : Value} (hz : 0 < z.cells.size) (hzo : z.cells.all (·.oneCell') = true) (a b : Nat) (h : a ≤ b) : LsR (Rep w S) (mkLs (z.cells.toList.map clf) a) ((madeCells z.cells b).toList.take a) := by
  refine ⟨by simp [mkLs, size_madeCells]; omega, fun j l v h1 h2 => ?_⟩
  have hj : j < a := by
    have := (List.getElem?_eq_some_iff.1 h1).1
    rwa [mkLs_length] at this
  have hm : j % z.cells.size < z.cells.size := Nat.mod_lt _ hz
  have e1 : l = clf z.cells[j % z.cells.size] := by
    simp [mkLs, hj, List.getD, hm] at h1
    exact h1.symm
  have e2 : v = z.cells[j % z.cells.size] := by
    rw [List.getElem?_take, if_pos hj] at h2
    have hjb : j < b := Nat.lt_of_lt_of_le hj h
    simp [madeCells, hjb] at h2
    rw [← h2]
    rw [getElem!_pos z.cells _ hm]
  subst e1; subst e2
  refine clf_rep ?_
  rw [Array.all_eq_true'] at hzo
  exact hzo _ (Array.getElem_mem hm)
section
variable {P : Program} [Nice P] {c : Ctx} {st : AS} {ops : Array Oper} {Q : Exit → AS → Prop} {rest : List Oper} {ty : TypeId} {pos : String} {af : Array Edge} {d : Tmp}
def NewArr (P : Program) (c : Ctx) (st : AS) (op : Op) (ty : TypeId) (e sz n : Nat) (cs : List Lf) : Prop :=
  ∀ a w S H, Rel c st a w S H → ∃ v w' vals, (∀ d pos af g, (execOp a.eval ⟨d, op, ty, pos, af, g⟩).run P w = .ok (.value v) w') ∧ Ext w S w' S ∧ InH w' S ∧ w'.ownsRow w.heap.size e sz v n vals ∧ LsR (Rep w' S) cs vals
omit [Nice P] in
theorem awl_newArr {op : Op} {e sz : Nat} {cs : List Lf} {n : Nat} (hsz : 0 < sz) (hd : d < c.nt) (hb : Env.fr = true → frOp P op = true)
    (h : NewArr P c st op ty e sz n cs)
    (k : AWL P c ops Q rest ⟨Go.Proofs.Ytnphcnhejgpjgaa.Abs.upd st.t d (.s (.one (.ls st.m.length n))), st.m ++ [.arr e sz 0 cs]⟩) : AWL P c ops Q (⟨some d, op, ty, pos, af, none⟩ :: rest) st := by
  refine awl_at fun a w S H r => ?_
  obtain ⟨v, w', vals, hrun, hext, hin, hown, hls⟩ := h a w S H r
  refine wpListP_plain rfl (hb := fun h => .inl (hb h)) fun K hK => ?_
  unfold operK
  rw [hrun]
  have r' := r.ext hext hin
  have hown' : w'.ownsRow c.w0.heap.size e sz v n vals := by
    refine ⟨hown.1, ?_⟩
    rcases hown.2 with h | ⟨g, cap, cur, hv, hb, rest⟩
    · exact .inl h
    · exact .inr ⟨g, cap, cur, hv, Nat.le_trans r.ex.size hb, rest⟩
  have hv1 := ownsRow_one hown
  have hr2 := r'.newArr hsz hown' (Nat.le_refl _) hls (fun g hg => by
    have hge : w.heap.size ≤ g := by
      rcases hown.2 with ⟨hv, _⟩ | ⟨g', cap, cur, hv, hb, _⟩
      · rw [hv] at hg; cases hg
      · rw [hv] at hg; cases hg; exact hb
    exact ⟨fun q b hb ho => by have := (r.lo q b g hb ho).2; omega, fun i hs => by have := r.sl.1 g i hs; omega⟩)
  refine hK _ _ (k _ _ _ _ (hr2.put (d := d) (x := .s (.one (.ls st.m.length n))) hd ?_))
  refine ⟨by simp, ⟨hv1.1, by rw [setH_same]; exact hv1.2⟩, fun e2 sz2 k2 cs2 hm2 => ?_⟩
  simp at hm2
  obtain ⟨rfl, rfl, rfl, rfl⟩ := hm2
  have hn : n * sz = cs.length := by rw [← hown.1, hls.1]
  exact ⟨Nat.le_of_eq hn, fun _ => by rw [setH_same]⟩
omit [Env] in
theorem foldl_put (cur : Array Value) (off : Nat) : ∀ (vs : List Value) (j : Nat) (cs : Array Value), off + j + vs.length ≤ cs.size →
    ((vs.zipIdx j).foldl (fun (cs : Array Value) (x : Value × Nat) => cs.setIfInBounds (off + x.2) x.1) cs).toList = cs.toList.take (off + j) ++ vs ++ cs.toList.drop (off + j + vs.length)
  | [], j, cs, _ => by simp
  | v :: vs, j, cs, h => by
    simp only [List.length_cons] at h
    rw [List.zipIdx_cons, List.foldl_cons, foldl_put cur off vs (j + 1) _ (by simp; omega)]
    have hlt : off + j < cs.toList.length := by simp; omega
    apply List.ext_getElem?
    intro i
    have hlen : off + (j + 1) + vs.length ≤ (cs.setIfInBounds (off + j) v).toList.length := by simp; omega
    have hlen2 : off + j + (v :: vs).length ≤ cs.toList.length := by simp; omega
    rw [getElem?_putAt _ vs (off + (j + 1)) i hlen, getElem?_putAt _ (v :: vs) (off + j) i hlen2]
    simp only [Array.toList_setIfInBounds, List.length_cons]
    by_cases h1 : i < off + j
    · rw [if_pos (by omega), if_pos h1, List.getElem?_set_ne (by omega)]
    · by_cases h2 : i = off + j
      · subst h2
        rw [if_pos (by omega), if_neg (by omega), if_pos (by omega), List.getElem?_set_self hlt]
        simp
      · by_cases h3 : i < off + j + (vs.length + 1)
        · rw [if_neg (by omega), if_pos (by omega), if_neg h1, if_pos h3]
          rw [show i - (off + j) = (i - (off + (j + 1))) + 1 by omega, List.getElem?_cons_succ]
        · rw [if_neg (by omega), if_neg (by omega), if_neg h1, if_neg h3, List.getElem?_set_ne (by omega)]
omit [Env] in
theorem foldl_put0 (off : Nat) (vs cs : Array Value) (h : off + vs.size ≤ cs.size) :
    (vs.zipIdx.foldl (fun (cs : Array Value) (x : Value × Nat) => cs.setIfInBounds (off + x.2) x.1) cs).toList = cs.toList.take off ++ vs.toList ++ cs.toList.drop (off + vs.toList.length) := by
  have := foldl_put cs off vs.toList 0 cs (by simpa using h)
  simp only [Nat.add_zero] at this
  rw [← this, ← Array.foldl_toList, Array.toList_zipIdx]
inductive Built (place : Nat → Option (Nat × Nat)) : List Lf → List (Nat × SV) → List Lf → Prop
  | nil (cs : List Lf) : Built place cs [] cs
  | cons (cs out : List Lf) (i off s : Nat) (x : SV) (rest : List (Nat × SV)) (hp : place i = some (off, s)) (hl : x.cells.length = s) (hb : off + s ≤ cs.length) (t : Built place (putAt cs off x.cells) rest out) : Built place cs ((i, x) :: rest) out
def Parts (st : AS) : List (Nat × Operand) → List (Nat × SV) → Prop
  | [], xs => xs = []
  | (i, o) :: os, xs => ∃ x r, opnd st o = .s x ∧ Parts st os r ∧ xs = (i, x) :: r
omit [Env] in
theorem parts_nil : Parts st [] [] := rfl
omit [Env] in
theorem parts_cons {i : Nat} {o : Operand} {os : List (Nat × Operand)} {x : SV} {r : List (Nat × SV)} (h : opnd st o = .s x) (t : Parts st os r) : Parts st ((i, o) :: os) ((i, x) :: r) := ⟨x, r, h, t, rfl⟩
omit [Env] in
theorem built_run {R : Lf → Value → Prop} (hone : ∀ l v, R l v → v.oneCell' = true) {place : Nat → Option (Nat × Nat)} {cs out : List Lf} {xs : List (Nat × SV)} (hb : Built place cs xs out) :
    ∀ (cells : Array Value) (ps : List (Nat × Value)), LsR R cs cells.toList → xs.length = ps.length → (∀ (j : Nat) (x : Nat × SV) (p : Nat × Value), xs[j]? = some x → ps[j]? = some p → x.1 = p.1 ∧ SVR R x.2 p.2) →
      ∃ cells', Instr.fill place cells ps = some cells' ∧ LsR R out cells'.toList := by
  induction hb with
  | nil cs =>
    intro cells ps h hl _
    have : ps = [] := List.eq_nil_of_length_eq_zero hl.symm
    subst this
    exact ⟨cells, rfl, h⟩
  | cons cs out i off s x rest hp hl hbd _ ih =>
    intro cells ps h hlen hps
    cases ps with
    | nil => simp at hlen
    | cons p ps =>
      obtain ⟨e1, e2⟩ := hps 0 _ p rfl rfl
      have hx := svr_cells e2 hone
      have hsz : p.2.cells.size = s := by rw [← hl, hx.1]; simp
      have hcs : cells.size = cs.length := by rw [h.1]; simp
      have hput := foldl_put0 off p.2.cells cells (by rw [hsz, hcs]; exact hbd)
      have hnew : LsR R (putAt cs off x.cells) (p.2.cells.zipIdx.foldl (fun (cs : Array Value) (x : Value × Nat) => cs.setIfInBounds (off + x.2) x.1) cells).toList := by
        rw [hput]
        refine ⟨?_, fun j l v h1 h2 => ?_⟩
        · simp only [putAt, List.length_append, List.length_take, List.length_drop]
          rw [← hx.1, ← h.1]
        · unfold putAt at h1
          rw [getElem?_putAt cs x.cells off j (by rw [hl]; exact hbd)] at h1
          rw [getElem?_putAt cells.toList p.2.cells.toList off j (by rw [← hx.1, hl, ← h.1]; exact hbd)] at h2
          rw [← hx.1] at h2
          by_cases a1 : j < off
          · rw [if_pos a1] at h1 h2; exact h.2 j l v h1 h2
          · rw [if_neg a1] at h1 h2
            by_cases a2 : j < off + x.cells.length
            · rw [if_pos a2] at h1 h2; exact hx.2 _ l v h1 h2
            · rw [if_neg a2] at h1 h2; exact h.2 j l v h1 h2
      obtain ⟨cells', hf, hr⟩ := ih _ ps hnew (by simpa using hlen) (fun j y q h1 h2 => hps (j + 1) y q (by simpa using h1) (by simpa using h2))
      refine ⟨cells', ?_, hr⟩
      obtain ⟨pi, pv⟩ := p
      simp only at e1
      subst e1
      unfold Instr.fill
      simp only [hp]
      rw [if_neg (by simp only at hsz; rw [hsz, hcs]; simp; omega)]
      exact hf
omit [Env] in
theorem parts_rel {a : Act} {w : World} {S : Stab} {H : Nat → Value} (r : Rel c st a w S H) : ∀ {os : List (Nat × Operand)} {xs : List (Nat × SV)}, Parts st os xs →
    xs.length = (os.map fun x => (x.1, a.eval x.2)).length ∧ ∀ (j : Nat) (x : Nat × SV) (p : Nat × Value), xs[j]? = some x → (os.map fun x => (x.1, a.eval x.2))[j]? = some p → x.1 = p.1 ∧ SVR (GRep w S st.m H) x.2 p.2
  | [], xs, h => by cases h; exact ⟨rfl, fun j x p h => by simp at h⟩
  | (i, o) :: os, xs, h => by
    obtain ⟨x, rr, h1, h2, rfl⟩ := h
    have ih := parts_rel r h2
    have h0 := opnd_rel r o
    rw [h1] at h0
    refine ⟨by simp [ih.1], fun j y p hy hp => ?_⟩
    cases j with
    | zero => simp only [List.getElem?_cons_zero, List.map_cons, Option.some.injEq] at hy hp; subst hy; subst hp; exact ⟨rfl, h0⟩
    | succ j => exact ih.2 j y p (by simpa using hy) (by simpa using hp)
structure PI (P : Program) (t : TypeId) (pl : List (Nat × Nat)) : Prop where
  h : ∃ fs, P.underlying t = some (.struct fs) ∧ fs.size = pl.length ∧ ∀ (j : Nat) (f : Field) (q : Nat × Nat), fs[j]? = some f → pl[j]? = some q → f.offset = q.1 ∧ (P.info? f.type).map (·.size) = some q.2
omit [Env] in
theorem run_mapM_arr {P : Program} [Nice P] {α β : Type} (f : α → Sem β) (w : World) (l : Array α) (vs : List β) (hl : l.size = vs.length) (h : ∀ (j : Nat) (x : α) (v : β), l[j]? = some x → vs[j]? = some v → (f x).run P w = .ok v w) : (l.mapM f).run P w = .ok vs.toArray w := by
  have := run_mapM_list (P := P) f w l.toList vs (by simpa using hl) (fun j x v h1 h2 => h j x v (by simpa using h1) h2)
  rw [Array.mapM_eq_mapM_toList]
  simp only [Sem.run_map, this, Result.andThen_ok]
omit [Env] in
theorem opv_build {t : TypeId} {zl out : List Lf} {pl : List (Nat × Nat)} {parts : Array (Nat × Operand)} {xs : List (Nat × SV)} (zi : ZI P t zl) (pi : PI P t pl) (hp : Parts st parts.toList xs) (hb : Built (fun i : Nat => pl[i]?) zl xs out) :
    OpV P c st (.build t parts) ty (.s (.agg out)) := by
  intro a w S H r
  obtain ⟨i, z, hi, hz, hl, ho⟩ := zi.h
  obtain ⟨fs, hu, hfl, hfs⟩ := pi.h
  have hpr := parts_rel r hp
  have hz0 : LsR (GRep w S st.m H) zl z.cells.toList := by rw [← hl]; exact clf_list ho
  obtain ⟨cells', hf, hr⟩ := built_run (fun l v => GRep.oneCell) hb z.cells _ hz0 hpr.1 hpr.2
  refine ⟨.agg cells', ⟨cells', rfl, hr⟩, fun _ _ _ _ => ?_⟩
  have hmap : (fs.mapM (fun f => do pure (f.offset, ← sizeOf f.type) : Field → Sem (Nat × Nat))).run P w = .ok pl.toArray w :=
    run_mapM_arr _ w fs pl hfl (fun j f q h1 h2 => by
      obtain ⟨e1, e2⟩ := hfs j f q h1 h2
      simp [run_sizeOf' e2, e1])
  have hfill : Instr.fill (fun j : Nat => pl.toArray[j]?) z.cells ((parts.map fun x => (x.1, a.eval x.2)).toList) = some cells' := by
    rw [Array.toList_map]
    have : (fun j : Nat => pl.toArray[j]?) = fun j : Nat => pl[j]? := by funext j; simp
    rw [this]
    exact hf
  simp only [execOp, Instr.build, Sem.run_bind, zeroValue, typeInfo, run_program, Result.andThen_ok, hi, hz, Sem.run_pure, run_underlying hu, hmap]
  rw [show (fun x : Nat × Operand => (x.1, a.eval x.2)) = (fun x => match x with | (i, x) => (i, a.eval x)) from rfl] at hfill
  simp only [hfill, Sem.run_pure, Result.andThen_ok]
end
end Go.Proofs.Ytnphcnhejgpjgaa.Abs
end
section
namespace Go.Proofs.Ytnphcnhejgpjgaa.Abs
open Go.Proofs.Ytnphcnhejgpjgaa.Co
variable [Env]
open Go.RowKit
section
variable {P : Program} [Nice P] {c : Ctx} {st : AS} {ops : Array Oper} {Q : Exit → AS → Prop} {rest : List Oper} {ty : TypeId} {pos : String} {af : Array Edge} {d : Tmp}
omit [Env] in
theorem built_length {place : Nat → Option (Nat × Nat)} {cs out : List Lf} {xs : List (Nat × SV)} (hb : Built place cs xs out) : out.length = cs.length := by
  induction hb with
  | nil cs => rfl
  | cons cs out i off s x rest hp hl hbd _ ih =>
    rw [ih]
    simp only [putAt, List.length_append, List.length_take, List.length_drop]
    omega
omit [Env] in
theorem newArr_build {t e sz bytes len : Nat} {zl out : List Lf} {parts : Array (Nat × Operand)} {xs : List (Nat × SV)} (si : P.underlying t = some (.slice e)) (ei : EI P e sz bytes zl) (hp : Parts st parts.toList xs)
    (hb : Built (fun i : Nat => some (i * sz, sz)) (mkLs zl (len * sz)) xs out) (hout : ∀ l ∈ out, l.pubd = true) (hlen : len * sz ≤ 16777216) : NewArr P c st (.buildSlice t len parts) ty e sz len out := by
  intro a w S H r
  obtain ⟨i, z, hi, hz, hsize, hbytes, hzs, hzl, hzo⟩ := ei.h
  have hpr := parts_rel r hp
  have hz0 : LsR (GRep w S st.m H) (mkLs zl (len * sz)) (madeCells z.cells (len * sz)).toList := by
    have := made_rep (w := w) (S := S) (z := z) (by rw [hzs]; exact ei.p) hzo (len * sz) (len * sz) (Nat.le_refl _)
    rw [hzl, List.take_of_length_le (by rw [Array.length_toList, size_madeCells]; exact Nat.le_refl _)] at this
    exact this.mono (fun _ _ => GRep.of_rep)
  obtain ⟨cells', hf, hr⟩ := built_run (fun l v => GRep.oneCell) hb _ _ hz0 hpr.1 hpr.2
  have hfill : Instr.fill (fun i => some (i * sz, sz)) (madeCells z.cells (len * sz)) ((parts.map fun x => (x.1, a.eval x.2)).toList) = some cells' := by
    rw [Array.toList_map]; exact hf
  have hsz' : cells'.size = len * sz := by
    have h1 := hr.1
    have h2 : out.length = (mkLs zl (len * sz)).length := built_length hb
    rw [mkLs_length] at h2
    rw [h2] at h1
    simpa using h1.symm
  refine ⟨.slice (some ⟨w.heap.size, 0, none⟩) len len, w.alloc (.cells cells' e), cells'.toList, fun _ _ _ _ => ?_, Ext.alloc w S _, r.sl.ext (Ext.alloc w S _), ?_, ?_⟩
  · have hsi : (P.info? e).map (·.size) = some sz := by rw [hi]; simp [hsize]
    have hnle : ¬ (16777216 < len * sz) := by omega
    have hfill' : Instr.fill (fun i => some (i * sz, sz)) (madeCells z.cells (len * sz)) (Array.map (fun x => match x with | (i, x) => (i, a.eval x)) parts).toList = some cells' := hfill
    by_cases h0 : len * sz = 0
    · have hm0 : madeCells z.cells (len * sz) = madeCells #[] (len * sz) := by rw [h0]; simp [madeCells, Array.range_zero']
      rw [hm0] at hfill'
      unfold madeCells at hfill'
      simp only [execOp, Instr.buildSlice, Sem.run_bind, run_underlying si, Result.andThen_ok, run_sizeOf' hsi]
      simp only [gt_iff_lt, show (2 : Nat) ^ 24 = 16777216 from rfl, show ¬ (16777216 < 0) from by decide, if_false, h0, if_true, Sem.run_pure]
      rw [h0] at hfill'
      simp only [Sem.run_bind, Sem.run_pure, Result.andThen_ok, hfill', newRow, run_newObj]
      rfl
    · unfold madeCells at hfill'
      simp only [execOp, Instr.buildSlice, Sem.run_bind, run_underlying si, Result.andThen_ok, run_sizeOf' hsi]
      simp only [gt_iff_lt, show (2 : Nat) ^ 24 = 16777216 from rfl, hnle, if_false, h0, zeroValue, typeInfo, Sem.run_bind, run_program, hi, hz, Sem.run_pure, Result.andThen_ok]
      simp only [hfill', Sem.run_bind, Sem.run_pure, Result.andThen_ok, newRow, run_newObj]
      rfl
  · exact ⟨by rw [Array.length_toList, hsz'], .inr ⟨w.heap.size, len, cells', rfl, Nat.le_refl _, heap_alloc_new w _, Nat.le_refl _, by
      have : len ≤ len * sz := Nat.le_mul_of_pos_right len ei.p
      simp only [maxLen]; omega, hsz', List.take_of_length_le (by rw [Array.length_toList, hsz']; exact Nat.le_refl _)⟩⟩
  · refine ⟨hr.1, fun j l v h1 h2 => ?_⟩
    exact Rep.mono ((Ext.alloc w S _).keeps r.sl) (GRep.rep (hr.2 j l v h1 h2) (hout l (List.mem_of_getElem? h1)))
theorem awl_buildSlice {t e sz bytes len : Nat} {zl out : List Lf} {parts : Array (Nat × Operand)} {xs : List (Nat × SV)} (si : P.underlying t = some (.slice e)) (ei : EI P e sz bytes zl) (hp : Parts st parts.toList xs)
    (_hpub : ∀ x ∈ xs, ∀ l ∈ x.2.cells, l.pubd = true) (hb : Built (fun i : Nat => some (i * sz, sz)) (mkLs zl (len * sz)) xs out) (hout : ∀ l ∈ out, l.pubd = true) (hlen : len * sz ≤ 16777216) (hd : d < c.nt)
    (k : AWL P c ops Q rest ⟨Go.Proofs.Ytnphcnhejgpjgaa.Abs.upd st.t d (.s (.one (.ls st.m.length len))), st.m ++ [.arr e sz 0 out]⟩) : AWL P c ops Q (⟨some d, .buildSlice t len parts, ty, pos, af, none⟩ :: rest) st :=
  awl_newArr ei.p hd (fun _ => rfl) (newArr_build si ei hp hb hout hlen) k
def bl (l : List UInt8) : List Lf := l.map fun b => .i .u8 b.toNat
end
end Go.Proofs.Ytnphcnhejgpjgaa.Abs
end
section
namespace Go.Proofs.Ytnphcnhejgpjgaa.Abs
open Go.Proofs.Ytnphcnhejgpjgaa.Co
variable [Env]
open Go.RowKit
section
variable {P : Program} [Nice P] {c : Ctx} {t : Nat → AV} {m : List Blk} {ops : Array Oper} {Q : Exit → AS → Prop} {rest : List Oper} {op : Op} {ty : TypeId} {pos : String} {af : Array Edge} {d : Tmp} {x : AV}
omit [Nice P] in
theorem sv (hd : decide (d < c.nt) = true) (h : OpV P c ⟨t, m⟩ op ty x) (k : AWL P c ops Q rest ⟨upd t d x, m⟩)
    (hb : Env.fr = true → ∀ a w S H, Rel c ⟨t, m⟩ a w S H → Bq P op a := by first | exact fun h => noFr h | exact fun _ _ _ _ _ _ => .inl rfl | exact fun _ _ _ _ _ r => bq_int r rfl rfl | exact fun _ _ _ _ _ _ => .inl (by kernel_rfl)) : AWL P c ops Q (⟨some d, op, ty, pos, af, none⟩ :: rest) ⟨t, m⟩ :=
  awl_v h (of_decide_eq_true hd) hb k
omit [Nice P] in
theorem son {dst : Option Tmp} {j : Nat} {want : Bool} {dj : Tmp} (hn : decide (dj < c.nt) = true) (hj : (ops[j]?).bind (·.dst) = some dj) (ht : t dj = .s (.one (.b want)))
    (k : AWL P c ops Q (⟨dst, op, ty, pos, af, none⟩ :: rest) ⟨t, m⟩) : AWL P c ops Q (⟨dst, op, ty, pos, af, some (j, want)⟩ :: rest) ⟨t, m⟩ :=
  awl_on hj ht k rfl (of_decide_eq_true hn)
omit [Nice P] in
theorem soff {j : Nat} {want b : Bool} {dj : Tmp} (hd : decide (d < c.nt) = true) (hj : (ops[j]?).bind (·.dst) = some dj) (ht : t dj = .s (.one (.b b))) (hb : (b == want) = false)
    (k : AWL P c ops Q rest ⟨upd t d (.tup []), m⟩) : AWL P c ops Q (⟨some d, op, ty, pos, af, some (j, want)⟩ :: rest) ⟨t, m⟩ :=
  awl_off hj ht hb (fun d' h => by cases h; exact of_decide_eq_true hd) k
omit [Nice P] in
theorem soffu {j : Nat} {want : Bool} {dj : Tmp} (hd : decide (d < c.nt) = true) (hj : (ops[j]?).bind (·.dst) = some dj) (ht : t dj = .tup [])
    (k : AWL P c ops Q rest ⟨upd t d (.tup []), m⟩) : AWL P c ops Q (⟨some d, op, ty, pos, af, some (j, want)⟩ :: rest) ⟨t, m⟩ :=
  awl_off' hj ht (fun d' h => by cases h; exact of_decide_eq_true hd) k
omit [Nice P] in
theorem ssplit {l : List Oper} (dj : Tmp) {b : Bool} (ht : t dj = .s (.one (.b b))) (k1 : b = true → AWL P c ops Q l ⟨upd t dj (.s (.one (.b true))), m⟩) (k0 : b = false → AWL P c ops Q l ⟨upd t dj (.s (.one (.b false))), m⟩) : AWL P c ops Q l ⟨t, m⟩ :=
  awl_split ht k1 k0
omit [Nice P] in
theorem stell {l : List Oper} (dj : Tmp) {y : AV} (z : AV) (ht : t dj = y) (e : y = z) (k : AWL P c ops Q l ⟨upd t dj z, m⟩) : AWL P c ops Q l ⟨t, m⟩ := by
  subst e
  exact awl_retell (upd_same ht) k
omit [Nice P] in
theorem snil {n : AS → Prop} (h : n ⟨t, m⟩) : AWL P c ops (thenA n Q) [] ⟨t, m⟩ := awl_nil h
omit [Nice P] in
theorem snil0 (h : Q .normal ⟨t, m⟩) : AWL P c ops Q [] ⟨t, m⟩ := awl_nil h
omit [Nice P] in
theorem salloc {t' : TypeId} {zl : List Lf} (hd : decide (d < c.nt) = true) (zi : ZI P t' zl)
    (k : AWL P c ops Q rest ⟨upd t d (.s (.one (.lp m.length 0))), m ++ [.box zl]⟩) : AWL P c ops Q (⟨some d, .alloc t', ty, pos, af, none⟩ :: rest) ⟨t, m⟩ :=
  awl_alloc zi (of_decide_eq_true hd) k
omit [Nice P] in
theorem sbox {t' : TypeId} {y : Operand} {x : SV} (hd : decide (d < c.nt) = true) (hx : opnd ⟨t, m⟩ y = .s x)
    (k : AWL P c ops Q rest ⟨upd t d (.s (.one (.lp m.length 0))), m ++ [.box x.cells]⟩) : AWL P c ops Q (⟨some d, .box t' y, ty, pos, af, none⟩ :: rest) ⟨t, m⟩ :=
  awl_box hx (of_decide_eq_true hd) k
theorem sstore {t' : TypeId} {x y : Operand} {p off sz : Nat} {v : SV} {cs : List Lf} (hi : (P.info? t').map (·.size) = some sz) (hx : opnd ⟨t, m⟩ x = .s (.one (.lp p off))) (hy : opnd ⟨t, m⟩ y = .s v) (hm : m[p]? = some (.box cs))
    (hv : v.cells.length = sz) (hfit : off + sz ≤ cs.length)
    (k : AWL P c ops Q rest ⟨t, m.set p (.box (putAt cs off v.cells))⟩) : AWL P c ops Q (⟨none, .store t' x y, ty, pos, af, none⟩ :: rest) ⟨t, m⟩ :=
  awl_store hi hx hy hm hv hfit k
theorem scall1 {f : FuncId} {args : Array Operand} {ats : Array TypeId} {xs ys : List SV} {m' : List Blk} {r : AV} (hd : decide (d < c.nt) = true) (hf : FnI P f) (ho : Opnds ⟨t, m⟩ args.toList xs) (hp : PubA m xs ys m') (hc : CallsA P f ys (· = r))
    (k : AWL P c ops Q rest ⟨upd t d r, m'⟩) : AWL P c ops Q (⟨some d, .call { callee := .value (.func f), args := args, argTypes := ats }, ty, pos, af, none⟩ :: rest) ⟨t, m⟩ :=
  awl_call hf ho hp hc (of_decide_eq_true hd) (fun _ h => h ▸ k)
theorem sbuild0 {t' e sz bytes : Nat} {zl : List Lf} (hd : decide (d < c.nt) = true) (si : P.underlying t' = some (.slice e)) (ei : EI P e sz bytes zl)
    (k : AWL P c ops Q rest ⟨upd t d (.s (.one (.ls m.length 0))), m ++ [.arr e sz 0 []]⟩) : AWL P c ops Q (⟨some d, .buildSlice t' 0 #[], ty, pos, af, none⟩ :: rest) ⟨t, m⟩ :=
  awl_buildSlice si ei parts_nil (fun x h => by cases h) (by rw [Nat.zero_mul]; exact .nil _) (fun l h => by cases h) (by omega) (of_decide_eq_true hd) k
theorem sbuild1 {t' e sz bytes : Nat} {zl : List Lf} {o : Operand} {x : SV} (hd : decide (d < c.nt) = true) (si : P.underlying t' = some (.slice e)) (ei : EI P e sz bytes zl) (ho : opnd ⟨t, m⟩ o = .s x) (hx : x.cells.length = sz) (hp : ∀ l ∈ x.cells, l.pubd = true) (hsz : sz ≤ 16777216)
    (k : AWL P c ops Q rest ⟨upd t d (.s (.one (.ls m.length 1))), m ++ [.arr e sz 0 x.cells]⟩) : AWL P c ops Q (⟨some d, .buildSlice t' 1 #[(0, o)], ty, pos, af, none⟩ :: rest) ⟨t, m⟩ := by
  have hput : putAt (mkLs zl (1 * sz)) (0 * sz) x.cells = x.cells := by
    unfold putAt
    rw [Nat.zero_mul, Nat.zero_add, List.take_zero, List.nil_append, List.drop_of_length_le (by rw [mkLs_length, hx, Nat.one_mul]; exact Nat.le_refl _), List.append_nil]
  refine awl_buildSlice (xs := [(0, x)]) si ei (parts_cons ho parts_nil) (fun y h => ?_) ?_ (fun l h => hp l h) (by omega) (of_decide_eq_true hd) k
  · simp at h; subst h; exact hp
  · refine Built.cons _ _ 0 (0 * sz) sz x [] rfl hx (by rw [mkLs_length]; omega) ?_
    rw [hput]
    exact .nil _
theorem sappend {x y : Operand} {t' t2 e sz bytes p n mm k : Nat} {zl cs ys : List Lf} {yv yv' : SV} {m' : List Blk} (hd : decide (d < c.nt) = true) (si : P.underlying t' = some (.slice e)) (ei : EI P e sz bytes zl) (h2 : NI P t2) (hx : opnd ⟨t, m⟩ x = .s (.one (.ls p n))) (hy : opnd ⟨t, m⟩ y = .s yv)
    (hp : PubV m yv yv' m') (hm : m'[p]? = some (.arr e sz k cs)) (hn : n * sz = cs.length) (hsrc : SrcOf P yv' sz mm ys) (h63 : n + mm ≤ maxLen) (hb : (n + mm) * bytes ≤ 140737488355328)
    (kk : AWL P c ops Q rest ⟨upd t d (.s (.one (.ls p (n + mm)))), m'.set p (.arr e sz k (cs ++ ys))⟩) :
    AWL P c ops Q (⟨some d, .call { callee := .builtin .append, args := #[x, y], argTypes := #[t', t2] }, ty, pos, af, none⟩ :: rest) ⟨t, m⟩ :=
  awl_append si ei h2 hx hy hp hm hn hsrc h63 hb (of_decide_eq_true hd) kk
omit [Nice P] in
theorem sadopt_c {x : Code} (e sz : Nat) (i : Nat) (hsz : 0 < sz) (hi : t i = .s (.one (.raw (.slice none 0 0)))) (k : AWC P c x Q ⟨upd t i (.s (.one (.ls m.length 0))), m ++ [.arr e sz 0 []]⟩) : AWC P c x Q ⟨t, m⟩ :=
  awc_of _ (fun _ _ S H r => ⟨S, setH H m.length (.slice none 0 0), adopt_rel (st := ⟨t, m⟩) i hsz hi r⟩) k
omit [Nice P] in
theorem sadopt_box_c {x : Code} (e sz p : Nat) {cs : List Lf} (i : Nat) (hsz : 0 < sz) (hm : m[p]? = some (.box cs)) (hi : cs[i]? = some (.raw (.slice none 0 0))) (k : AWC P c x Q ⟨t, m.set p (.box (cs.set i (.ls m.length 0))) ++ [.arr e sz 0 []]⟩) : AWC P c x Q ⟨t, m⟩ :=
  awc_of _ (fun _ _ S H r => ⟨S, setH H m.length (.slice none 0 0), adopt_box_rel (st := ⟨t, m⟩) i hsz hm hi r⟩) k
omit [Nice P] in
theorem cseq {x y : Code} (h : AWC P c x (thenA (AWC P c y Q) Q) ⟨t, m⟩) : AWC P c (.seq x y) Q ⟨t, m⟩ := awc_seq h
theorem cregion {id : Nat} {l : List Oper} (h : AWL P c l.toArray Q l ⟨t, m⟩) : AWC P c (.region id l.toArray false) Q ⟨t, m⟩ := awc_region h
omit [Nice P] in
theorem ccond {o : Operand} {x y : Code} {b : Bool} (ho : opnd ⟨t, m⟩ o = .s (.one (.b b))) (h1 : b = true → AWC P c x Q ⟨t, m⟩) (h0 : b = false → AWC P c y Q ⟨t, m⟩) : AWC P c (.cond o x y) Q ⟨t, m⟩ := awc_cond ho h1 h0
omit [Nice P] in
theorem cblock {id : Nat} {x : Code} (h : AWC P c x (inBlockA id Q) ⟨t, m⟩) : AWC P c (.block id x) Q ⟨t, m⟩ := awc_block h
omit [Nice P] in
theorem cskip (h : Q .normal ⟨t, m⟩) : AWC P c .skip Q ⟨t, m⟩ := awc_skip h
omit [Nice P] in
theorem cexit {id : Nat} (h : Q (.exit id) ⟨t, m⟩) : AWC P c (.exit id) Q ⟨t, m⟩ := awc_exit h
omit [Nice P] in
theorem cret (h : Q .ret ⟨t, m⟩) : AWC P c .ret Q ⟨t, m⟩ := awc_ret h
omit [Env] in
theorem then_normal {n : AS → Prop} {st : AS} (h : n st) : thenA n Q .normal st := h
omit [Env] in
theorem then_exit {n : AS → Prop} {st : AS} {id : Nat} (h : Q (.exit id) st) : thenA n Q (.exit id) st := h
omit [Env] in
theorem then_ret {n : AS → Prop} {st : AS} (h : Q .ret st) : thenA n Q .ret st := h
omit [Env] in
theorem block_normal {id : Nat} {st : AS} (h : Q .normal st) : inBlockA id Q .normal st := h
omit [Env] in
theorem block_ret {id : Nat} {st : AS} (h : Q .ret st) : inBlockA id Q .ret st := h
omit [Env] in
theorem block_hit {id : Nat} {st : AS} (h : Q .normal st) : inBlockA id Q (.exit id) st := by
  show (if id = id then Q .normal st else Q (.exit id) st)
  rw [if_pos rfl]; exact h
end
end Go.Proofs.Ytnphcnhejgpjgaa.Abs
end
section
namespace Go.Proofs.Ytnphcnhejgpjgaa.Abs
open Go.Proofs.Ytnphcnhejgpjgaa.Co
variable [Env]
open Go.RowKit
def OpD (P : Program) (c : Ctx) (st : AS) (op : Op) (ty : TypeId) (x : AV) : Prop :=
  ∀ a w S H, Rel c st a w S H → ∀ (dst : Option Tmp) (pos : String) (af : Array Edge) (g : Option (Nat × Bool)) (K : Act → World → Prop) (Q : Exit → Act → World → Prop),
    (∀ v w' S', Ext w S w' S' → InH w' S' → AVR (GRep w' S' st.m H) x v → K (a.put dst v) w') → operK P ⟨dst, op, ty, pos, af, g⟩ a w K Q
theorem OpV.opD {P : Program} [Nice P] {c : Ctx} {st : AS} {op : Op} {ty : TypeId} {x : AV} (h : OpV P c st op ty x) : OpD P c st op ty x := by
  intro a w S H r dst pos af g K Q hK
  obtain ⟨v, hv, hrun⟩ := h a w S H r
  unfold operK
  rw [hrun]
  exact hK v w S (Ext.refl w S) r.sl hv
omit [Env] in
theorem svr_pub {w : World} {S : Stab} {m : List Blk} {H : Nat → Value} {x : SV} {v : Value} (h : SVR (GRep w S m H) x v) (hp : x.cells.all Lf.pubd = true) : SVR (Rep w S) x v := by
  cases x with
  | one l => exact GRep.rep h (by simpa [SV.cells] using hp)
  | agg ls =>
    obtain ⟨cs, rfl, h1, h2⟩ := h
    exact ⟨cs, rfl, h1, fun j l u hl hu => GRep.rep (h2 j l u hl hu) (List.all_eq_true.1 hp l (List.mem_of_getElem? hl))⟩
theorem opD_call {P : Program} [Nice P] {c : Ctx} {st : AS} {ty : TypeId} {f : FuncId} {args : Array Operand} {ats : Array TypeId} {xs : List SV} {r : AV} (hf : FnI P f) (ho : Opnds st args.toList xs) (hp : xs.all (fun x => x.cells.all Lf.pubd) = true) (hc : CallsA P f xs (· = r)) :
    OpD P c st (.call { callee := .value (.func f), args := args, argTypes := ats }) ty r := by
  intro a w S H rr dst pos af g K Q hK
  have hv := opnds_rel rr ho
  unfold operK
  have hrun : (execOp a.eval ⟨dst, .call { callee := .value (.func f), args := args, argTypes := ats }, ty, pos, af, g⟩).run P w = .ok (.enter f (args.map a.eval)) w := by
    simp [execOp, resolve, Act.eval, Deferred.ofValue, invoke, hf.run]
  rw [hrun]
  refine (hc w S (args.map a.eval) rr.sl ⟨by simpa using hv.1, fun j x v h1 h2 => ?_⟩).mono ?_
  · exact svr_pub (hv.2 j x v h1 (by simpa using h2)) (List.all_eq_true.1 hp x (List.mem_of_getElem? h1))
  · rintro e w' ⟨v, x, S', rfl, rfl, hext, hin, hav⟩
    exact hK v w' S' hext hin (avr_of_rep hav)
def restr (t : Nat → AV) (L : List Nat) : Nat → AV := fun j => cond (L.contains j) (t j) .top
def GYes (ops : Array Oper) (t : Nat → AV) (o : Oper) : Prop := o.guard = none ∨ ∃ j want dj, o.guard = some (j, want) ∧ (ops[j]?).bind (·.dst) = some dj ∧ t dj = .s (.one (.b want))
def GNo (ops : Array Oper) (t : Nat → AV) (o : Oper) : Prop := ∃ j want dj, o.guard = some (j, want) ∧ (ops[j]?).bind (·.dst) = some dj ∧ (t dj = .tup [] ∨ ∃ b, t dj = .s (.one (.b b)) ∧ (b == want) = false)
def Good1 (P : Program) (c : Ctx) (m : List Blk) (ops : Array Oper) (t : Nat → AV) (o : Oper) (x : AV) : Prop :=
  (GYes ops t o ∧ OpD P c ⟨restr t (o.looksAt ops), m⟩ o.op o.type x) ∨ (GNo ops t o ∧ x = .tup [])
def DR (P : Program) (c : Ctx) (m : List Blk) (ops : Array Oper) (k : (Nat → AV) → Prop) : List Oper → (Nat → AV) → Prop
  | [], t => k t
  | o :: rest, t => ∃ x d, o.dst = some d ∧ d < c.nt ∧ Good1 P c m ops t o x ∧ DR P c m ops k rest (upd t d x)
def dsts (l : List Oper) : List Tmp := l.filterMap (·.dst)
omit [Env] in
theorem restr_congr {t t' : Nat → AV} {L : List Nat} (h : ∀ x ∈ L, t x = t' x) : restr t L = restr t' L := by
  funext j
  unfold restr
  cases hc : L.contains j with
  | false => rfl
  | true => simp only [cond_true]; exact h j (by simpa using hc)
omit [Env] in
theorem mem_looks_guard {ops : Array Oper} {o : Oper} {j : Nat} {want : Bool} {dj : Tmp} (hg : o.guard = some (j, want)) (hd : (ops[j]?).bind (·.dst) = some dj) : dj ∈ o.looksAt ops := by
  unfold Oper.looksAt
  rw [hg]
  refine List.mem_append_right _ ?_
  simp [hd]
theorem Good1.congr {P : Program} [Nice P] {c : Ctx} {m : List Blk} {ops : Array Oper} {t t' : Nat → AV} {o : Oper} {x : AV} (h : Good1 P c m ops t o x) (ht : ∀ y ∈ o.looksAt ops, t y = t' y) : Good1 P c m ops t' o x := by
  rcases h with ⟨hg, ho⟩ | ⟨hg, hx⟩
  · refine .inl ⟨?_, by rw [← restr_congr ht]; exact ho⟩
    rcases hg with hg | ⟨j, want, dj, h1, h2, h3⟩
    · exact .inl hg
    · exact .inr ⟨j, want, dj, h1, h2, by rw [← ht dj (mem_looks_guard h1 h2)]; exact h3⟩
  · obtain ⟨j, want, dj, h1, h2, h3⟩ := hg
    exact .inr ⟨⟨j, want, dj, h1, h2, by rw [← ht dj (mem_looks_guard h1 h2)]; exact h3⟩, hx⟩
theorem DR.get {P : Program} [Nice P] {c : Ctx} {m : List Blk} {ops : Array Oper} {k : (Nat → AV) → Prop} : ∀ {l : List Oper} {t : Nat → AV}, DR P c m ops k l t → (dsts l).Nodup → (∀ (i : Nat) (o : Oper), l[i]? = some o → ∀ y ∈ o.looksAt ops, y ∉ dsts (l.drop i)) →
    ∃ T, k T ∧ (∀ y, y ∉ dsts l → T y = t y) ∧ ∀ (i : Nat) (o : Oper), l[i]? = some o → ∃ d, o.dst = some d ∧ d < c.nt ∧ Good1 P c m ops T o (T d)
  | [], t, h, _, _ => ⟨t, h, fun _ _ => rfl, fun i o h => by simp at h⟩
  | o :: rest, t, h, hnd, hl => by
    obtain ⟨x, d, hd, hlt, hg, hr⟩ := h
    have hds : dsts (o :: rest) = d :: dsts rest := by simp [dsts, hd]
    rw [hds] at hnd
    have hnd' := List.nodup_cons.1 hnd
    obtain ⟨T, hk, hT, hG⟩ := DR.get hr hnd'.2 (fun i o' h' y hy => by
      have := hl (i + 1) o' (by simpa using h') y hy
      simpa using this)
    refine ⟨T, hk, fun y hy => ?_, fun i o' h' => ?_⟩
    · rw [hds] at hy
      simp only [List.mem_cons, not_or] at hy
      rw [hT y hy.2, upd_def, if_neg hy.1]
    · cases i with
      | zero =>
        simp only [List.getElem?_cons_zero, Option.some.injEq] at h'
        subst h'
        have hTd : T d = x := by rw [hT d hnd'.1, upd_def, if_pos rfl]
        refine ⟨d, hd, hlt, ?_⟩
        rw [hTd]
        refine hg.congr (fun y hy => ?_)
        have := hl 0 o rfl y hy
        rw [List.drop_zero, hds] at this
        simp only [List.mem_cons, not_or] at this
        rw [hT y this.2, upd_def, if_neg this.1]
      | succ i => exact hG i o' (by simpa using h')
def okDraw (ops : Array Oper) : Bool :=
  (List.range ops.size).all fun i => match ops[i]? with
    | none => false
    | some o => o.dst.isSome && o.after.all (fun e => decide (e.on < i)) && (List.range ops.size).all (fun j => match ops[j]? with
        | none => false
        | some p => (decide (i = j) || !(o.dst == p.dst)) && (match p.dst with
            | none => false
            | some d => !(o.looksAt ops).contains d || o.after.any (fun e => e.on == j && Region.binds .any e)))
structure DrawOk (ops : Array Oper) : Prop where
  dst : ∀ (i : Nat) (o : Oper), ops[i]? = some o → ∃ d, o.dst = some d
  lt : ∀ (i : Nat) (o : Oper), ops[i]? = some o → ∀ e ∈ o.after, e.on < i
  ne : ∀ (i : Nat) (o : Oper) (j : Nat) (p : Oper), ops[i]? = some o → ops[j]? = some p → i ≠ j → o.dst ≠ p.dst
  ed : ∀ (i : Nat) (o : Oper) (j : Nat) (p : Oper) (d : Tmp), ops[i]? = some o → ops[j]? = some p → p.dst = some d → d ∈ o.looksAt ops → ∃ e ∈ o.after, e.on = j ∧ Region.binds .any e = true
omit [Env] in
theorem drawOk_of {ops : Array Oper} (h : okDraw ops = true) : DrawOk ops := by
  have key : ∀ (i : Nat) (o : Oper), ops[i]? = some o → o.dst.isSome = true ∧ o.after.all (fun e => decide (e.on < i)) = true ∧ ∀ (j : Nat) (p : Oper), ops[j]? = some p → (decide (i = j) || !(o.dst == p.dst)) = true ∧ (match p.dst with
            | none => false
            | some d => !(o.looksAt ops).contains d || o.after.any (fun e => e.on == j && Region.binds .any e)) = true := by
    intro i o hi
    have hil : i < ops.size := (Array.getElem?_eq_some_iff.1 hi).1
    have h1 := List.all_eq_true.1 h i (List.mem_range.2 hil)
    rw [hi] at h1
    simp only [Bool.and_eq_true] at h1
    refine ⟨h1.1.1, h1.1.2, fun j p hj => ?_⟩
    have hjl : j < ops.size := (Array.getElem?_eq_some_iff.1 hj).1
    have h2 := List.all_eq_true.1 h1.2 j (List.mem_range.2 hjl)
    rw [hj] at h2
    simp only [Bool.and_eq_true] at h2
    exact h2
  refine ⟨fun i o hi => Option.isSome_iff_exists.1 (key i o hi).1, fun i o hi e he => ?_, fun i o j p hi hj hne he => ?_, fun i o j p d hi hj hd hm => ?_⟩
  · have := (key i o hi).2.1
    rw [Array.all_eq_true'] at this
    exact of_decide_eq_true (this e he)
  · have := ((key i o hi).2.2 j p hj).1
    simp only [Bool.or_eq_true, decide_eq_true_eq, Bool.not_eq_true', beq_eq_false_iff_ne] at this
    rcases this with h | h
    · exact hne h
    · exact h he
  · have := ((key i o hi).2.2 j p hj).2
    rw [hd] at this
    simp only [Bool.or_eq_true, Bool.not_eq_true'] at this
    rcases this with h | h
    · rw [List.contains_eq_mem] at h
      simp [hm] at h
    · rw [Array.any_eq_true] at h
      obtain ⟨i', hi', h⟩ := h
      simp only [Bool.and_eq_true, beq_iff_eq] at h
      exact ⟨_, Array.getElem_mem hi', h.1, h.2⟩
omit [Env] in
theorem DrawOk.nodup {ops : Array Oper} (h : DrawOk ops) : (dsts ops.toList).Nodup := by
  have aux : ∀ (l : List Oper), (∀ (i : Nat) (o : Oper) (j : Nat) (p : Oper), l[i]? = some o → l[j]? = some p → i ≠ j → o.dst ≠ p.dst) → (dsts l).Nodup := by
    intro l
    induction l with
    | nil => intro _; exact List.nodup_nil
    | cons o l ih =>
      intro hne
      have ih' := ih (fun i o' j p hi hj hij => hne (i + 1) o' (j + 1) p (by simpa using hi) (by simpa using hj) (by omega))
      cases hd : o.dst with
      | none => simpa [dsts, hd] using ih'
      | some d =>
        have : dsts (o :: l) = d :: dsts l := by simp [dsts, hd]
        rw [this]
        refine List.nodup_cons.2 ⟨fun hm => ?_, ih'⟩
        unfold dsts at hm
        rw [List.mem_filterMap] at hm
        obtain ⟨p, hp, hpd⟩ := hm
        obtain ⟨j, hj, hjp⟩ := List.getElem_of_mem hp
        exact hne 0 o (j + 1) p rfl (by simp [List.getElem?_eq_getElem hj, hjp]) (by omega) (by rw [hd, hpd])
  exact aux ops.toList (fun i o j p hi hj => h.ne i o j p (by simpa using hi) (by simpa using hj))
omit [Env] in
theorem count_lt {α : Type} (p q : α → Bool) (l : List α) (h : ∀ x ∈ l, q x = true → p x = true) {x : α} (hx : x ∈ l) (hp : p x = true) (hq : q x = false) : l.countP q < l.countP p := by
  induction l with
  | nil => cases hx
  | cons y l ih =>
    simp only [List.countP_cons]
    rcases List.mem_cons.1 hx with rfl | hx'
    · have hle : l.countP q ≤ l.countP p := List.countP_mono_left (fun z hz => h z (List.mem_cons_of_mem _ hz))
      simp only [hp, hq, if_true]
      simp
      omega
    · have := ih (fun z hz => h z (List.mem_cons_of_mem _ hz)) hx'
      have hy := h y (List.mem_cons_self ..)
      by_cases a : q y = true
      · simp only [a, hy a, if_true]; omega
      · by_cases b : p y = true
        · simp only [a, b, if_true]; simp; omega
        · simp only [a, b]; simp; omega
section
variable {P : Program} [Nice P] {c : Ctx} {t : Nat → AV} {m : List Blk} {Q : Exit → AS → Prop}
open Classical in
noncomputable def TL (ops : Array Oper) (T : Nat → AV) (listed : Array Bool) : Nat → AV := fun x => if ∃ (i : Nat) (o : Oper), ops[i]? = some o ∧ o.dst = some x ∧ listed.getD i true = false then .top else T x
open Classical in
omit [Nice P] in
theorem draw_any {ops : Array Oper} (hok : DrawOk ops) {T : Nat → AV} (hT : ∀ (i : Nat) (o : Oper), ops[i]? = some o → ∃ d, o.dst = some d ∧ d < c.nt ∧ Good1 P c m ops T o (T d)) (hQ : Q .normal ⟨T, m⟩) :
    ∀ (fuel : Nat) (listed : Array Bool) (a : Act) (w : World) (S : Stab) (H : Nat → Value), listed.size = ops.size → (List.range ops.size).countP (fun i => !listed.getD i true) ≤ fuel →
      Rel c ⟨TL ops T listed, m⟩ a w S H → wpAnyP P .any ops (QR c Q) fuel listed a w := by
  have done : ∀ (listed : Array Bool) (a : Act) (w : World) (S : Stab) (H : Nat → Value), listed.size = ops.size → Region.ready .any ops listed = [] → Rel c ⟨TL ops T listed, m⟩ a w S H → QR c Q .normal a w := by
    intro listed a w S H hsz hr r
    have hall : ∀ n i, i < n → i < ops.size → listed.getD i true = true := by
      intro n
      induction n with
      | zero => intro i h; omega
      | succ n ih =>
        intro i hi hio
        by_cases hb : listed.getD i true = true
        · exact hb
        · exfalso
          have hmem : i ∈ Region.ready .any ops listed := by
            unfold Region.ready
            refine List.mem_filter.2 ⟨List.mem_range.2 hio, ?_⟩
            have hlt := hok.lt i ops[i] (Array.getElem?_eq_getElem hio)
            have hb' : listed.getD i true = false := by simpa using hb
            simp only [hb', Bool.not_false, Bool.true_and, Array.getElem?_eq_getElem hio, Option.map_some, Option.getD_some]
            rw [Array.all_eq_true']
            intro e he
            have hel := hlt e he
            have h1 := ih e.on (by omega) (by omega)
            have h2 : listed.getD e.on false = true := by
              simp only [Array.getD_eq_getD_getElem?] at h1 ⊢
              rw [Array.getElem?_eq_getElem (by omega)] at h1 ⊢
              exact h1
            simp [h2]
          rw [hr] at hmem
          cases hmem
    have hTL : TL ops T listed = T := by
      funext x
      unfold TL
      rw [if_neg]
      rintro ⟨i, o, hi, _, hl⟩
      have := hall (i + 1) i (by omega) (Array.getElem?_eq_some_iff.1 hi).1
      rw [this] at hl
      cases hl
    rw [hTL] at r
    exact ⟨_, S, H, r, hQ⟩
  intro fuel
  induction fuel with
  | zero =>
    intro listed a w S H hsz hc r
    have hr : Region.ready .any ops listed = [] := by
      unfold Region.ready
      rw [List.filter_eq_nil_iff]
      intro i hi hb
      simp only [Bool.and_eq_true] at hb
      have : 0 < (List.range ops.size).countP (fun i => !listed.getD i true) := List.countP_pos_iff.2 ⟨i, hi, hb.1⟩
      omega
    exact ⟨hr, done listed a w S H hsz hr r⟩
  | succ fuel ih =>
    intro listed a w S H hsz hc r
    refine ⟨fun hr => done listed a w S H hsz hr r, fun i hi => ?_⟩
    unfold Region.ready at hi
    rw [List.mem_filter] at hi
    obtain ⟨hi1, hi2⟩ := hi
    have hio : i < ops.size := List.mem_range.1 hi1
    have hget : ops[i]? = some ops[i] := Array.getElem?_eq_getElem hio
    simp only [Bool.and_eq_true, hget, Option.map_some, Option.getD_some] at hi2
    obtain ⟨hun, haf⟩ := hi2
    have hun' : listed.getD i true = false := by simpa using hun
    obtain ⟨d, hd, hdn, hgood⟩ := hT i _ hget
    generalize ho : ops[i] = o at *
    -- the operands are known
    have hlook : ∀ y ∈ o.looksAt ops, TL ops T listed y = T y := by
      intro y hy
      unfold TL
      rw [if_neg]
      rintro ⟨j, p, hj, hpd, hl⟩
      obtain ⟨e, he, heo, hbind⟩ := hok.ed i o j p y hget hj hpd hy
      rw [Array.all_eq_true'] at haf
      have h1 := haf e he
      rw [hbind, heo] at h1
      simp only [Bool.not_true, Bool.false_or] at h1
      have hjl : j < ops.size := (Array.getElem?_eq_some_iff.1 hj).1
      simp only [Array.getD_eq_getD_getElem?] at h1 hl
      rw [Array.getElem?_eq_getElem (by omega)] at h1 hl
      simp only [Option.getD_some] at h1 hl
      rw [h1] at hl
      cases hl
    have hTL' : upd (TL ops T listed) d (T d) = TL ops T (listed.setIfInBounds i true) := by
      funext x
      rw [upd_def]
      by_cases hx : x = d
      · subst hx
        rw [if_pos rfl]
        unfold TL
        rw [if_neg]
        rintro ⟨j, p, hj, hpd, hl⟩
        by_cases hij : i = j
        · subst hij
          simp only [Array.getD_eq_getD_getElem?, Array.getElem?_setIfInBounds_self_of_lt (by omega : i < listed.size), Option.getD_some] at hl
          cases hl
        · exact hok.ne i o j p hget hj hij (by rw [hd, hpd])
      · rw [if_neg hx]
        unfold TL
        by_cases hex : ∃ (j : Nat) (p : Oper), ops[j]? = some p ∧ p.dst = some x ∧ listed.getD j true = false
        · rw [if_pos hex]
          obtain ⟨j, p, hj, hpd, hl⟩ := hex
          rw [if_pos]
          refine ⟨j, p, hj, hpd, ?_⟩
          have hij : i ≠ j := by
            intro e; subst e
            rw [hget] at hj
            cases hj
            rw [hd] at hpd
            cases hpd
            exact hx rfl
          simp only [Array.getD_eq_getD_getElem?, Array.getElem?_setIfInBounds_ne hij]
          simpa [Array.getD_eq_getD_getElem?] using hl
        · rw [if_neg hex, if_neg]
          rintro ⟨j, p, hj, hpd, hl⟩
          refine hex ⟨j, p, hj, hpd, ?_⟩
          by_cases hij : i = j
          · subst hij; exact hun'
          · simp only [Array.getD_eq_getD_getElem?, Array.getElem?_setIfInBounds_ne hij] at hl
            simpa [Array.getD_eq_getD_getElem?] using hl
    have hcnt : (List.range ops.size).countP (fun j => !(listed.setIfInBounds i true).getD j true) ≤ fuel := by
      have := count_lt (fun j => !listed.getD j true) (fun j => !(listed.setIfInBounds i true).getD j true) (List.range ops.size) (fun j _ hj => by
        by_cases hij : i = j
        · subst hij
          simp only [Array.getD_eq_getD_getElem?, Array.getElem?_setIfInBounds_self_of_lt (by omega : i < listed.size), Option.getD_some] at hj
          cases hj
        · simp only [Array.getD_eq_getD_getElem?, Array.getElem?_setIfInBounds_ne hij] at hj
          simpa [Array.getD_eq_getD_getElem?] using hj) hi1 hun (by simp only [Array.getD_eq_getD_getElem?, Array.getElem?_setIfInBounds_self_of_lt (by omega : i < listed.size), Option.getD_some]; rfl)
      omega
    have next : ∀ v w' S', Ext w S w' S' → InH w' S' → AVR (GRep w' S' m H) (T d) v → ∀ w1, Env.Rl w' w1 → wpAnyP P .any ops (QR c Q) fuel (listed.setIfInBounds i true) (a.put o.dst v) w1 := by
      intro v w' S' hext hin hv w1 d0
      rw [hd]
      refine ih _ _ w1 S' H (by simpa using hsz) hcnt ?_
      rw [← hTL']
      exact ((r.ext hext hin).put hdn hv).atw d0
    have hw : wpOpK P ops (QR c Q) i (fun a' w' => ∀ w1, Env.Rl w' w1 → wpAnyP P .any ops (QR c Q) fuel (listed.setIfInBounds i true) a' w1) a w := by
      unfold wpOpK
      rw [hget]
      simp only
      have hrr : Rel c ⟨restr T (o.looksAt ops), m⟩ a w S H := by
        refine r.weak (fun y => ?_)
        unfold restr
        cases hc' : (o.looksAt ops).contains y with
        | false => exact .inr rfl
        | true => exact .inl (hlook y (by simpa using hc')).symm
      rcases hgood with ⟨hg, hop⟩ | ⟨hg, hx⟩
      · have hwant : Region.wanted o (yielded ops a.tmps) = true := by
          rcases hg with hg | ⟨j, want, dj, h1, h2, h3⟩
          · simp [Region.wanted, hg]
          · have h4 := r.tm dj
            have h5 : TL ops T listed dj = .s (.one (.b want)) := by rw [hlook dj (mem_looks_guard h1 h2)]; exact h3
            rw [show (⟨TL ops T listed, m⟩ : AS).t dj = .s (.one (.b want)) from h5] at h4
            have hv : a.tmps.getD dj undef = .bool want := rep_b (h4 : Rep w S (.b want) (a.tmps.getD dj undef))
            have hs : a.tmps[dj]? = some (.bool want) := by
              simp only [Array.getD_eq_getD_getElem?] at hv
              cases hq : a.tmps[dj]? with
              | none => rw [hq] at hv; cases hv
              | some u => rw [hq] at hv; simp only [Option.getD_some] at hv; rw [hv]
            simp only [Region.wanted, h1, yielded, h2, Option.bind_some, hs, beq_self_eq_true]
        rw [if_pos hwant]
        obtain ⟨odst, oop, oty, opos, oaf, og⟩ := o
        exact (hop a w S H hrr odst opos oaf og _ _ (fun v w' S' h1 h2 h3 => next v w' S' h1 h2 h3))
      · have hwant : Region.wanted o (yielded ops a.tmps) = false := by
          obtain ⟨j, want, dj, h1, h2, h3⟩ := hg
          have h4 := r.tm dj
          rw [show (⟨TL ops T listed, m⟩ : AS).t dj = T dj from hlook dj (mem_looks_guard h1 h2)] at h4
          simp only [Region.wanted, h1, yielded, h2, Option.bind_some]
          rcases h3 with h3 | ⟨b, h3, hb⟩
          · rw [h3] at h4
            obtain ⟨vs, hv, _⟩ := h4
            simp only [Array.getD_eq_getD_getElem?] at hv
            cases hq : a.tmps[dj]? with
            | none => rfl
            | some u => rw [hq] at hv; simp only [Option.getD_some] at hv; subst hv; rfl
          · rw [h3] at h4
            have hv : a.tmps.getD dj undef = .bool b := rep_b (h4 : Rep w S (.b b) (a.tmps.getD dj undef))
            simp only [Array.getD_eq_getD_getElem?] at hv
            cases hq : a.tmps[dj]? with
            | none => rfl
            | some u =>
              rw [hq] at hv; simp only [Option.getD_some] at hv; subst hv
              cases b <;> cases want <;> first | rfl | cases hb
        rw [if_neg (by rw [hwant]; simp)]
        have := next undef w S (Ext.refl w S) r.sl (by rw [hx]; exact avr_undef)
        exact this
    exact hw
theorem cdraw {id : Nat} {l : List Oper} (hm : P.follows .mixedOrders = true) (hok : okDraw l.toArray = true) (h : DR P c m l.toArray (fun T => Q .normal ⟨T, m⟩) l t) : AWC P c (.region id l.toArray true) Q ⟨t, m⟩ := by
  have ok := drawOk_of hok
  have hnd := ok.nodup
  obtain ⟨T, hQ, hTt, hG⟩ := DR.get h (by simpa using hnd) (fun i o hi y hy hm' => by
    unfold dsts at hm'
    rw [List.mem_filterMap] at hm'
    obtain ⟨p, hp, hpd⟩ := hm'
    obtain ⟨j, hj, hjp⟩ := List.getElem_of_mem hp
    have hjl : l[i + j]? = some p := by
      rw [List.getElem_drop] at hjp
      have : i + j < l.length := by simp at hj; omega
      rw [List.getElem?_eq_getElem this, hjp]
    obtain ⟨e, he, heo, _⟩ := ok.ed i o (i + j) p y (by simpa using hi) (by simpa using hjl) hpd hy
    have := ok.lt i o (by simpa using hi) e he
    omega)
  intro a w S H r
  refine wpK_region_any hm fun w1 h1 w2 h2 => ?_
  have hG' : ∀ (i : Nat) (o : Oper), (l.toArray)[i]? = some o → ∃ d, o.dst = some d ∧ d < c.nt ∧ Good1 P c m l.toArray T o (T d) := fun i o hi => hG i o (by simpa using hi)
  have hcnt : (List.range l.toArray.size).countP (fun i => !(Array.replicate l.toArray.size false).getD i true) ≤ l.toArray.size := by
    refine Nat.le_trans List.countP_le_length ?_
    simp
  refine draw_any ok hG' hQ l.toArray.size (Array.replicate l.toArray.size false) a _ S H (by simp) hcnt ?_
  have r' : Rel c ⟨t, m⟩ a w2 S H := (Rel.drew (r.atw h1)).atw h2
  refine r'.weak (fun x => ?_)
  unfold TL
  by_cases hx : x ∈ dsts l
  · right
    rw [if_pos]
    unfold dsts at hx
    rw [List.mem_filterMap] at hx
    obtain ⟨p, hp, hpd⟩ := hx
    obtain ⟨j, hj, hjp⟩ := List.getElem_of_mem hp
    refine ⟨j, p, by simp [hj, hjp], hpd, ?_⟩
    simp [Array.getD_eq_getD_getElem?, hj]
  · left
    rw [if_neg, hTt x hx]
    rintro ⟨i, o, hi, hod, _⟩
    refine hx ?_
    unfold dsts
    rw [List.mem_filterMap]
    have hi' : l[i]? = some o := by simpa using hi
    exact ⟨o, List.mem_of_getElem? hi', hod⟩
variable {ops : Array Oper} {k : (Nat → AV) → Prop} {rest : List Oper} {op : Op} {ty : TypeId} {pos : String} {af : Array Edge} {d : Tmp} {x : AV}
omit [Nice P] in
theorem dnil (h : k t) : DR P c m ops k [] t := h
theorem dv (hd : decide (d < c.nt) = true) (h : OpV P c ⟨restr t (Oper.looksAt ops ⟨some d, op, ty, pos, af, none⟩), m⟩ op ty x) (kk : DR P c m ops k rest (upd t d x)) : DR P c m ops k (⟨some d, op, ty, pos, af, none⟩ :: rest) t :=
  ⟨x, d, rfl, of_decide_eq_true hd, .inl ⟨.inl rfl, h.opD⟩, kk⟩
theorem dvg {j : Nat} {want : Bool} {dj : Tmp} (hd : decide (d < c.nt) = true) (hj : (ops[j]?).bind (·.dst) = some dj) (ht : t dj = .s (.one (.b want))) (h : OpV P c ⟨restr t (Oper.looksAt ops ⟨some d, op, ty, pos, af, some (j, want)⟩), m⟩ op ty x) (kk : DR P c m ops k rest (upd t d x)) : DR P c m ops k (⟨some d, op, ty, pos, af, some (j, want)⟩ :: rest) t :=
  ⟨x, d, rfl, of_decide_eq_true hd, .inl ⟨.inr ⟨j, want, dj, rfl, hj, ht⟩, h.opD⟩, kk⟩
omit [Nice P] in
theorem dd (hd : decide (d < c.nt) = true) (h : OpD P c ⟨restr t (Oper.looksAt ops ⟨some d, op, ty, pos, af, none⟩), m⟩ op ty x) (kk : DR P c m ops k rest (upd t d x)) : DR P c m ops k (⟨some d, op, ty, pos, af, none⟩ :: rest) t :=
  ⟨x, d, rfl, of_decide_eq_true hd, .inl ⟨.inl rfl, h⟩, kk⟩
omit [Nice P] in
theorem ddg {j : Nat} {want : Bool} {dj : Tmp} (hd : decide (d < c.nt) = true) (hj : (ops[j]?).bind (·.dst) = some dj) (ht : t dj = .s (.one (.b want))) (h : OpD P c ⟨restr t (Oper.looksAt ops ⟨some d, op, ty, pos, af, some (j, want)⟩), m⟩ op ty x) (kk : DR P c m ops k rest (upd t d x)) : DR P c m ops k (⟨some d, op, ty, pos, af, some (j, want)⟩ :: rest) t :=
  ⟨x, d, rfl, of_decide_eq_true hd, .inl ⟨.inr ⟨j, want, dj, rfl, hj, ht⟩, h⟩, kk⟩
omit [Nice P] in
theorem doff {j : Nat} {want b : Bool} {dj : Tmp} (hd : decide (d < c.nt) = true) (hj : (ops[j]?).bind (·.dst) = some dj) (ht : t dj = .s (.one (.b b))) (hb : (b == want) = false) (kk : DR P c m ops k rest (upd t d (.tup []))) : DR P c m ops k (⟨some d, op, ty, pos, af, some (j, want)⟩ :: rest) t :=
  ⟨.tup [], d, rfl, of_decide_eq_true hd, .inr ⟨⟨j, want, dj, rfl, hj, .inr ⟨b, ht, hb⟩⟩, rfl⟩, kk⟩
omit [Nice P] in
theorem doffu {j : Nat} {want : Bool} {dj : Tmp} (hd : decide (d < c.nt) = true) (hj : (ops[j]?).bind (·.dst) = some dj) (ht : t dj = .tup []) (kk : DR P c m ops k rest (upd t d (.tup []))) : DR P c m ops k (⟨some d, op, ty, pos, af, some (j, want)⟩ :: rest) t :=
  ⟨.tup [], d, rfl, of_decide_eq_true hd, .inr ⟨⟨j, want, dj, rfl, hj, .inl ht⟩, rfl⟩, kk⟩
omit [Nice P] in
theorem dsplit {l : List Oper} (dj : Tmp) {b : Bool} (ht : t dj = .s (.one (.b b))) (k1 : b = true → DR P c m ops k l (upd t dj (.s (.one (.b true))))) (k0 : b = false → DR P c m ops k l (upd t dj (.s (.one (.b false))))) : DR P c m ops k l t := by
  cases b
  · have := k0 rfl; rwa [upd_same ht] at this
  · have := k1 rfl; rwa [upd_same ht] at this
end
end Go.Proofs.Ytnphcnhejgpjgaa.Abs
end
section
namespace Go.Proofs.Ytnphcnhejgpjgaa.Abs
open Go.Proofs.Ytnphcnhejgpjgaa.Co
variable [Env]
open Go.RowKit
section
variable {P : Program} [Nice P] {c : Ctx} {st : AS} {k k2 : IntKind} {n m : Int} {x y : Operand} {xt yt ty : TypeId}
omit [Env] [Nice P] in
theorem opv_and (hx : opnd st x = .s (.one (.i k n))) (hy : opnd st y = .s (.one (.i k m))) : OpV P c st (.binOp .and xt x y yt) ty (.s (.one (.i k (k.wrap ((BitVec.ofInt k.bits n &&& BitVec.ofInt k.bits m).toNat : Int))))) :=
  opv_bin (u := .int k n) (u' := .int k m) (z := .int k (k.wrap ((BitVec.ofInt k.bits n &&& BitVec.ofInt k.bits m).toNat : Int))) hx hy rfl rfl (fun w => by
    simp [eqGuard, binOp, Op.intBits]) rfl rfl
section un
variable {a b : BitVec k.bits}
end un
end
end Go.Proofs.Ytnphcnhejgpjgaa.Abs
end
