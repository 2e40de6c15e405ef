/-
  As if one came behind the other: what stays true of all that is begun, read, done, let go and cleaned.
-/
import Derived.Test.YtbmciegldpeaiaaP11
import Derived.Test.YtbmciegldpeaiaaA11
namespace Go.Proofs.Ytbmciegldpeaiaa.Abs

/-- All that is told of what was done. -/
structure WL11 where
  c : GSsiCert
  now : Int
  begun : List Int
  did : List GR11Tx
  read : List GR10Read

def metV (r : GApiRange) (l : Keys) : Bool := l.any (hasV r)
theorem metV_iff {r : GApiRange} {l : Keys} : metV r l = true ↔ ∃ k ∈ l, hasV r k = true := List.any_eq_true
/-- One whose number is i has read one of some keys. -/
def Rd (rd : List GR10Read) (i : Int) (K : Keys) : Prop := ∃ r ∈ rd, r.Tx = i ∧ metV r.Rng K = true
theorem Rd.mono {rd rd' : List GR10Read} {i : Int} {K : Keys} (h : Rd rd i K) (hs : ∀ r ∈ rd, r ∈ rd') : Rd rd' i K := by
  obtain ⟨r, h1, h2⟩ := h; exact ⟨r, hs r h1, h2⟩
theorem Rd.append {rd : List GR10Read} {r : GR10Read} {i : Int} {K : Keys} (h : Rd (rd ++ [r]) i K) : Rd rd i K ∨ r.Tx = i ∧ metV r.Rng K = true := by
  obtain ⟨x, h1, h2⟩ := h
  rcases List.mem_append.1 h1 with h1 | h1
  · exact .inl ⟨x, h1, h2⟩
  · rw [List.mem_singleton.1 h1] at h2; exact .inr h2

def maxTs : Int := 1099511627776
structure SaneT (x : GSsiTx) (saneK : Keys → Prop) : Prop where
  id : 0 ≤ x.ID
  beg : 0 ≤ x.Begin ∧ x.Begin ≤ maxTs
  st : x.State = 1 ∧ x.End = 0 ∧ x.Keys = [] ∨ x.State = 2 ∧ x.Begin < x.End ∧ x.End ≤ maxTs ∧ saneK x.Keys ∧ ¬ (x.RO = true ∧ x.Keys ≠ [])

/-- Of two that were done, or that are to be, the first has read what the second wrote, and did not see it. -/
def RR (rd : List GR10Read) (x y : GR11Tx) : Prop := x.ID ≠ y.ID ∧ y.Begin < x.End ∧ x.Begin < y.End ∧ Rd rd x.ID y.Keys

structure Inv (saneK : Keys → Prop) (w : WL11) : Prop where
  gr : Good w.c.Reads.L
  ri : ∀ r ∈ w.c.Reads.L, ∃ x ∈ w.c.Txs, x.ID = r.Tx
  len : w.c.Txs.length ≤ 64
  each : ∀ x ∈ w.c.Txs, SaneT x saneK
  ids : w.c.Txs.Pairwise (fun x y => x.ID ≠ y.ID)
  now0 : 0 ≤ w.now
  beg : ∀ b ∈ w.begun, 0 ≤ b ∧ b ≤ w.now
  act : ∀ x ∈ w.c.Txs, idx w.begun x.ID = some x.Begin
  don : ∀ x ∈ w.c.Txs, x.State = 2 → ∃ d ∈ w.did, d.ID = x.ID ∧ d.Begin = x.Begin ∧ d.End = x.End ∧ d.Keys = x.Keys
  did0 : ∀ d ∈ w.did, 0 ≤ d.ID ∧ idx w.begun d.ID = some d.Begin ∧ d.Begin < d.End ∧ d.End ≤ w.now ∧ saneK d.Keys
  didE : w.did.Pairwise (fun a b => a.End < b.End)
  didI : w.did.Pairwise (fun a b => a.ID ≠ b.ID)
  didA : ∀ d ∈ w.did, ∀ x ∈ w.c.Txs, x.State = 1 → x.ID ≠ d.ID
  cov : ∀ d ∈ w.did, (∃ x ∈ w.c.Txs, x.ID = d.ID) ∨ ∀ a ∈ w.c.Txs, a.State = 1 → d.End ≤ a.Begin
  rdB : ∀ r ∈ w.read, 0 ≤ r.Tx ∧ r.Tx < w.begun.length
  rd : ∀ r ∈ w.read, ∀ x ∈ w.c.Txs, x.ID = r.Tx → (⟨r.Tx, r.Rng⟩ : GReadsRead) ∈ w.c.Reads.L
  out : ∀ x ∈ w.c.Txs, ∀ d ∈ w.did, x.ID ≠ d.ID → (x.State = 1 ∨ d.Begin < x.End) → x.Begin < d.End → Rd w.read x.ID d.Keys → x.Out = true
  inA : ∀ y ∈ w.c.Txs, y.State = 2 → ∀ x ∈ w.c.Txs, x.State = 1 → x.Begin < y.End → Rd w.read x.ID y.Keys → y.In = true
  inD : ∀ y ∈ w.c.Txs, y.State = 2 → ∀ d ∈ w.did, d.ID ≠ y.ID → y.Begin < d.End → d.Begin < y.End → Rd w.read d.ID y.Keys → y.In = true
  piv : ∀ x ∈ w.c.Txs, x.State = 2 → ¬ (x.In = true ∧ x.Out = true)
  nop : ∀ x ∈ w.did, ∀ y ∈ w.did, ∀ z ∈ w.did, RR w.read x y → RR w.read y z → False
  ww : ∀ a ∈ w.did, ∀ b ∈ w.did, a.End < b.End → (∃ k, k ∈ a.Keys ∧ k ∈ b.Keys) → a.End ≤ b.Begin

variable {saneK : Keys → Prop} {w : WL11}

theorem pw_eq {α : Type} {R : α → α → Prop} {l : List α} (h : l.Pairwise R) {x y : α} (hx : x ∈ l) (hy : y ∈ l) (h1 : ¬ R x y) (h2 : ¬ R y x) : x = y := by
  induction h with
  | nil => simp at hx
  | cons ha _ ih =>
    rcases List.mem_cons.1 hx with e1 | hx <;> rcases List.mem_cons.1 hy with e2 | hy
    · rw [e1, e2]
    · exact absurd (e1 ▸ ha _ hy) h1
    · exact absurd (e2 ▸ ha _ hx) h2
    · exact ih hx hy

theorem Inv.one (h : Inv saneK w) {x y : GSsiTx} (hx : x ∈ w.c.Txs) (hy : y ∈ w.c.Txs) (e : x.ID = y.ID) : x = y := pw_eq h.ids hx hy (fun n => n e) (fun n => n e.symm)
theorem Inv.oneD (h : Inv saneK w) {x y : GR11Tx} (hx : x ∈ w.did) (hy : y ∈ w.did) (e : x.ID = y.ID) : x = y := pw_eq h.didI hx hy (fun n => n e) (fun n => n e.symm)
theorem Inv.st (h : Inv saneK w) {x : GSsiTx} (hx : x ∈ w.c.Txs) : x.State = 1 ∨ x.State = 2 := by
  rcases (h.each x hx).st with h | h
  · exact .inl h.1
  · exact .inr h.1
theorem idx_ltm {α : Type} {xs : List α} {j : Int} {u : α} (h : idx xs j = some u) : 0 ≤ j ∧ j < xs.length ∧ u ∈ xs := by
  unfold idx at h
  by_cases h0 : 0 ≤ j
  · rw [if_pos h0] at h
    obtain ⟨h1, h2⟩ := List.getElem?_eq_some_iff.1 h
    exact ⟨h0, by omega, h2 ▸ List.getElem_mem _⟩
  · rw [if_neg h0] at h; cases h
theorem idx_app {α : Type} {xs : List α} {j : Int} {u v : α} (h : idx xs j = some u) : idx (xs ++ [v]) j = some u := by
  obtain ⟨h0, h1, _⟩ := idx_ltm h
  unfold idx at h ⊢
  rw [if_pos h0] at h ⊢
  rw [List.getElem?_append_left (by omega)]; exact h
theorem idx_last {α : Type} {xs : List α} {v : α} : idx (xs ++ [v]) (xs.length : Int) = some v := by
  unfold idx
  rw [if_pos (Int.natCast_nonneg _)]
  simp

/-- One of those that are done, as it stands in the table: one that lies beside one that is Active is there. -/
theorem Inv.there (h : Inv saneK w) {a : GSsiTx} (ha : a ∈ w.c.Txs) (h1 : a.State = 1) {d : GR11Tx} (hd : d ∈ w.did) (hb : a.Begin < d.End) :
    ∃ x ∈ w.c.Txs, x.State = 2 ∧ x.ID = d.ID ∧ x.Begin = d.Begin ∧ x.End = d.End ∧ x.Keys = d.Keys := by
  rcases h.cov d hd with ⟨x, hx, e⟩ | hc
  · rcases h.st hx with hs | hs
    · exact absurd e (h.didA d hd x hx hs)
    · obtain ⟨d', hd', e1, e2, e3, e4⟩ := h.don x hx hs
      have : d' = d := h.oneD hd' hd (e1.trans e)
      subst this
      exact ⟨x, hx, hs, e, e2.symm, e3.symm, e4.symm⟩
  · have := hc a ha h1; omega

theorem inv_nil : Inv saneK ⟨⟨[], ⟨[]⟩⟩, 0, [], [], []⟩ := by
  constructor <;> first | exact Good.mk (fun x h => by simp at h) (by decide) List.nodup_nil | simp

/-- One more is begun. -/
theorem inv_begin (h : Inv saneK w) (ro : Bool) (hn : w.now ≤ maxTs) (hl : w.c.Txs.length < 64) :
    Inv saneK ⟨⟨w.c.Txs ++ [⟨(w.begun.length : Int), w.now, 0, 1, false, false, ro, []⟩], w.c.Reads⟩, w.now, w.begun ++ [w.now], w.did, w.read⟩ := by
  have hid : ∀ x ∈ w.c.Txs, x.ID < w.begun.length := fun x hx => (idx_ltm (h.act x hx)).2.1
  have hdd : ∀ d ∈ w.did, d.ID < w.begun.length := fun x hx => (idx_ltm (h.did0 x hx).2.1).2.1
  have key : ∀ {P : GSsiTx → Prop}, (∀ x ∈ w.c.Txs, P x) → P ⟨(w.begun.length : Int), w.now, 0, 1, false, false, ro, []⟩ → ∀ x ∈ w.c.Txs ++ [⟨(w.begun.length : Int), w.now, 0, 1, false, false, ro, []⟩], P x := fun h1 h2 x hx => by
    rcases List.mem_append.1 hx with hx | hx
    · exact h1 x hx
    · rw [List.mem_singleton.1 hx]; exact h2
  constructor
  · exact h.gr
  · intro r hr
    obtain ⟨x, hx, e⟩ := h.ri r hr
    exact ⟨x, List.mem_append_left _ hx, e⟩
  · show (w.c.Txs ++ _).length ≤ 64
    rw [List.length_append, List.length_singleton]; omega
  · exact key h.each ⟨Int.natCast_nonneg _, ⟨h.now0, hn⟩, .inl ⟨rfl, rfl, rfl⟩⟩
  · refine List.pairwise_append.2 ⟨h.ids, List.pairwise_singleton .., fun a ha b hb => ?_⟩
    rw [List.mem_singleton.1 hb]
    have := hid a ha
    show a.ID ≠ w.begun.length
    omega
  · exact h.now0
  · intro b hb
    rcases List.mem_append.1 hb with hb | hb
    · exact h.beg b hb
    · rw [List.mem_singleton.1 hb]; exact ⟨h.now0, Int.le_refl _⟩
  · exact key (fun x hx => idx_app (h.act x hx)) idx_last
  · exact key h.don (fun e => by cases e)
  · intro d hd
    obtain ⟨h1, h2, h3⟩ := h.did0 d hd
    exact ⟨h1, idx_app h2, h3⟩
  · exact h.didE
  · exact h.didI
  · intro d hd
    refine key (h.didA d hd) fun _ => ?_
    have := hdd d hd
    show (w.begun.length : Int) ≠ d.ID
    omega
  · intro d hd
    rcases h.cov d hd with ⟨x, hx, e⟩ | hc
    · exact .inl ⟨x, List.mem_append_left _ hx, e⟩
    · exact .inr (key hc fun _ => (h.did0 d hd).2.2.2.1)
  · intro r hr
    have := h.rdB r hr
    refine ⟨this.1, ?_⟩
    show r.Tx < ((w.begun ++ [w.now]).length : Nat)
    rw [List.length_append, List.length_singleton]; omega
  · intro r hr
    refine key (h.rd r hr) fun e => ?_
    have := (h.rdB r hr).2
    have e : (w.begun.length : Int) = r.Tx := e
    omega
  · refine key h.out fun d hd _ _ hb => ?_
    have := (h.did0 d hd).2.2.2.1
    have hb : w.now < d.End := hb
    omega
  · refine key (fun y hy hs => key (h.inA y hy hs) fun _ hb => ?_) (fun e => by cases e)
    obtain ⟨d, hd, _, _, e, _⟩ := h.don y hy hs
    have := (h.did0 d hd).2.2.2.1
    have hb : w.now < y.End := hb
    omega
  · exact key h.inD (fun e => by cases e)
  · exact key h.piv (fun e => by cases e)
  · exact h.nop
  · exact h.ww

/-- What stays, and what goes: none that is Active comes to be beside one that is gone. -/
theorem inv_less (h : Inv saneK w) (p : GSsiTx → Bool) (rs : List GReadsRead) (hrs : rs.Sublist w.c.Reads.L) (hr : ∀ r ∈ rs, ∃ x ∈ w.c.Txs, p x = true ∧ x.ID = r.Tx)
    (hk : ∀ r ∈ w.c.Reads.L, ∀ x ∈ w.c.Txs, p x = true → x.ID = r.Tx → r ∈ rs) (hp : ∀ x ∈ w.c.Txs, p x = false → x.State = 2 → ∀ a ∈ w.c.Txs, p a = true → a.State = 1 → x.End ≤ a.Begin) :
    Inv saneK ⟨⟨w.c.Txs.filter p, ⟨rs⟩⟩, w.now, w.begun, w.did, w.read⟩ := by
  have hm : ∀ {x}, x ∈ w.c.Txs.filter p → x ∈ w.c.Txs := fun hx => (List.mem_filter.1 hx).1
  constructor
  · exact ⟨fun x hx => h.gr.sr x (hrs.subset hx), Nat.le_trans hrs.length_le h.gr.len, h.gr.nd.sublist hrs⟩
  · intro r hr'
    obtain ⟨x, hx, h1, h2⟩ := hr r hr'
    exact ⟨x, List.mem_filter.2 ⟨hx, h1⟩, h2⟩
  · exact Nat.le_trans (List.length_filter_le ..) h.len
  · exact fun x hx => h.each x (hm hx)
  · exact h.ids.sublist (List.filter_sublist ..)
  · exact h.now0
  · exact h.beg
  · exact fun x hx => h.act x (hm hx)
  · exact fun x hx => h.don x (hm hx)
  · exact h.did0
  · exact h.didE
  · exact h.didI
  · exact fun d hd x hx => h.didA d hd x (hm hx)
  · intro d hd
    rcases h.cov d hd with ⟨x, hx, e⟩ | hc
    · cases hpx : p x with
      | true => exact .inl ⟨x, List.mem_filter.2 ⟨hx, hpx⟩, e⟩
      | false =>
        refine .inr fun a ha h1 => ?_
        obtain ⟨ha', hpa⟩ := List.mem_filter.1 ha
        rcases h.st hx with hs | hs
        · exact absurd e (h.didA d hd x hx hs)
        · obtain ⟨d', hd', e1, e2, e3, e4⟩ := h.don x hx hs
          have : d' = d := h.oneD hd' hd (e1.trans e)
          subst this
          rw [e3]
          exact hp x hx hpx hs a ha' hpa h1
    · exact .inr fun a ha => hc a (hm ha)
  · exact h.rdB
  · intro r hr' x hx e
    exact hk _ (h.rd r hr' x (hm hx) e) x (hm hx) (List.mem_filter.1 hx).2 e
  · exact fun x hx => h.out x (hm hx)
  · exact fun y hy hs x hx => h.inA y (hm hy) hs x (hm hx)
  · exact fun y hy => h.inD y (hm hy)
  · exact fun x hx => h.piv x (hm hx)
  · exact h.nop
  · exact h.ww

/-- One Active has read a range. -/
def passT (a : GSsiTx) (r : GApiRange) (x : GSsiTx) : Bool := decide (x.State = 2) && !decide (x.End ≤ a.Begin) && metV r x.Keys
def readF (l : List GSsiTx) (a : GSsiTx) (r : GApiRange) (x : GSsiTx) : GSsiTx :=
  if x.ID = a.ID then { x with Out := x.Out || l.any (passT a r) } else if passT a r x then { x with In := true } else x
theorem readF_id (l : List GSsiTx) (a : GSsiTx) (r : GApiRange) (x : GSsiTx) : (readF l a r x).ID = x.ID ∧ (readF l a r x).Begin = x.Begin ∧ (readF l a r x).End = x.End ∧ (readF l a r x).State = x.State ∧ (readF l a r x).RO = x.RO ∧ (readF l a r x).Keys = x.Keys := by
  unfold readF
  split
  · exact ⟨rfl, rfl, rfl, rfl, rfl, rfl⟩
  · split <;> exact ⟨rfl, rfl, rfl, rfl, rfl, rfl⟩
theorem readF_in {l : List GSsiTx} {a : GSsiTx} {r : GApiRange} {x : GSsiTx} (h : x.In = true) : (readF l a r x).In = true := by
  unfold readF
  split
  · exact h
  · split
    · rfl
    · exact h
theorem readF_out {l : List GSsiTx} {a : GSsiTx} {r : GApiRange} {x : GSsiTx} (h : x.Out = true) : (readF l a r x).Out = true := by
  unfold readF
  split
  · show (x.Out || _) = true
    rw [h]; rfl
  · split <;> exact h
theorem passT_iff {a : GSsiTx} {r : GApiRange} {x : GSsiTx} : passT a r x = true ↔ x.State = 2 ∧ a.Begin < x.End ∧ metV r x.Keys = true := by
  unfold passT
  simp only [Bool.and_eq_true, decide_eq_true_eq, Bool.not_eq_true', decide_eq_false_iff_not]
  constructor
  · rintro ⟨⟨h1, h2⟩, h3⟩; exact ⟨h1, by omega, h3⟩
  · rintro ⟨h1, h2, h3⟩; exact ⟨⟨h1, by omega⟩, h3⟩

theorem inv_read (h : Inv saneK w) {a : GSsiTx} (ha : a ∈ w.c.Txs) (h1 : a.State = 1) (r : GApiRange) (rs : List GReadsRead) (hg : Good rs) (hsub : ∀ x ∈ w.c.Reads.L, x ∈ rs) (hin : (⟨a.ID, r⟩ : GReadsRead) ∈ rs) (hnew : ∀ x ∈ rs, x ∈ w.c.Reads.L ∨ x = ⟨a.ID, r⟩)
    (hno : ∀ x ∈ w.c.Txs, passT a r x = true → x.Out = false) : Inv saneK ⟨⟨w.c.Txs.map (readF w.c.Txs a r), ⟨rs⟩⟩, w.now, w.begun, w.did, w.read ++ [⟨a.ID, r⟩]⟩ := by
  have key : ∀ {P : GSsiTx → Prop}, (∀ x ∈ w.c.Txs, P (readF w.c.Txs a r x)) → ∀ x ∈ w.c.Txs.map (readF w.c.Txs a r), P x := fun h1 x hx => by
    obtain ⟨y, hy, rfl⟩ := List.mem_map.1 hx
    exact h1 y hy
  have F := readF_id w.c.Txs a r
  have hex : ∀ {x i}, x ∈ w.c.Txs → x.ID = i → ∃ y ∈ w.c.Txs.map (readF w.c.Txs a r), y.ID = i := fun {x i} hx e => ⟨_, List.mem_map.2 ⟨x, hx, rfl⟩, by rw [(F x).1, e]⟩
  have haid := h.act a ha
  have hda : ∀ d ∈ w.did, a.ID ≠ d.ID := fun d hd => h.didA d hd a ha h1
  constructor
  · exact hg
  · intro x hx
    rcases hnew x hx with hx | rfl
    · obtain ⟨y, hy, e⟩ := h.ri x hx
      exact hex hy e
    · exact hex ha rfl
  · show (w.c.Txs.map _).length ≤ 64
    rw [List.length_map]; exact h.len
  · refine key fun x hx => ?_
    obtain ⟨e1, e2, e3, e4, e5, e6⟩ := F x
    have := h.each x hx
    exact ⟨by rw [e1]; exact this.id, by rw [e2]; exact this.beg, by rw [e2, e3, e4, e5, e6]; exact this.st⟩
  · refine List.pairwise_map.2 (h.ids.imp fun {x y} hne => ?_)
    rw [(F x).1, (F y).1]; exact hne
  · exact h.now0
  · exact h.beg
  · refine key fun x hx => ?_
    rw [(F x).1, (F x).2.1]; exact h.act x hx
  · refine key fun x hx => ?_
    obtain ⟨e1, e2, e3, e4, e5, e6⟩ := F x
    rw [e1, e2, e3, e4, e6]; exact h.don x hx
  · exact h.did0
  · exact h.didE
  · exact h.didI
  · intro d hd
    refine key fun x hx => ?_
    rw [(F x).1, (F x).2.2.2.1]; exact h.didA d hd x hx
  · intro d hd
    rcases h.cov d hd with ⟨x, hx, e⟩ | hc
    · exact .inl (hex hx e)
    · refine .inr (key fun x hx => ?_)
      rw [(F x).2.1, (F x).2.2.2.1]; exact hc x hx
  · intro x hx
    rcases List.mem_append.1 hx with hx | hx
    · exact h.rdB x hx
    · rw [List.mem_singleton.1 hx]
      exact ⟨(idx_ltm haid).1, (idx_ltm haid).2.1⟩
  · intro x hx
    refine key fun y hy e => ?_
    rw [(F y).1] at e
    rcases List.mem_append.1 hx with hx | hx
    · exact hsub _ (h.rd x hx y hy e)
    · rw [List.mem_singleton.1 hx]; exact hin
  · refine key fun x hx d hd hne hc hb hr => ?_
    obtain ⟨e1, e2, e3, e4, e5, e6⟩ := F x
    rw [e1] at hne hr; rw [e3, e4] at hc; rw [e2] at hb
    rcases hr.append with hr | ⟨e, hm⟩
    · exact readF_out (h.out x hx d hd hne hc hb hr)
    · have e : a.ID = x.ID := e
      have : x = a := h.one hx ha e.symm
      subst this
      obtain ⟨y, hy, hs, _, _, ee, ek⟩ := h.there ha h1 hd hb
      unfold readF
      rw [if_pos rfl]
      show (x.Out || w.c.Txs.any (passT x r)) = true
      rw [List.any_eq_true.2 ⟨y, hy, passT_iff.2 ⟨hs, by rw [ee]; exact hb, by rw [ek]; exact hm⟩⟩, Bool.or_true]
  · refine key fun y hy hs => key fun x hx hx1 hb hr => ?_
    rw [(F y).2.2.2.1] at hs; rw [(F x).2.2.2.1] at hx1; rw [(F x).2.1, (F y).2.2.1] at hb; rw [(F x).1, (F y).2.2.2.2.2] at hr
    rcases hr.append with hr | ⟨e, hm⟩
    · exact readF_in (h.inA y hy hs x hx hx1 hb hr)
    · have e : a.ID = x.ID := e
      have : x = a := h.one hx ha e.symm
      subst this
      unfold readF
      by_cases he : y.ID = x.ID
      · have : y = x := h.one hy hx he
        rw [this, h1] at hs; cases hs
      · rw [if_neg he, if_pos (passT_iff.2 ⟨hs, hb, hm⟩)]
  · refine key fun y hy hs d hd hne hb1 hb2 hr => ?_
    rw [(F y).2.2.2.1] at hs; rw [(F y).1] at hne; rw [(F y).2.1] at hb1; rw [(F y).2.2.1] at hb2; rw [(F y).2.2.2.2.2] at hr
    rcases hr.append with hr | ⟨e, _⟩
    · exact readF_in (h.inD y hy hs d hd hne hb1 hb2 hr)
    · exact absurd e (hda d hd)
  · refine key fun x hx hs => ?_
    rw [(F x).2.2.2.1] at hs
    have hp := h.piv x hx hs
    unfold readF
    by_cases he : x.ID = a.ID
    · have : x = a := h.one hx ha he
      rw [this, h1] at hs; cases hs
    · rw [if_neg he]
      cases hps : passT a r x with
      | true =>
        rw [if_pos rfl]
        rintro ⟨_, h2⟩
        have h2 : x.Out = true := h2
        rw [hno x hx hps] at h2; cases h2
      | false => rw [if_neg (by decide)]; exact hp
  · intro x hx y hy z hz h1 h2
    refine h.nop x hx y hy z hz ⟨h1.1, h1.2.1, h1.2.2.1, ?_⟩ ⟨h2.1, h2.2.1, h2.2.2.1, ?_⟩
    · rcases h1.2.2.2.append with hr | ⟨e, _⟩
      · exact hr
      · exact absurd e (hda x hx)
    · rcases h2.2.2.2.append with hr | ⟨e, _⟩
      · exact hr
      · exact absurd e (hda y hy)
  · exact h.ww

/-- One Active is done. -/
def hitT (rs : List GReadsRead) (a : GSsiTx) (K : Keys) (x : GSsiTx) : Bool := !decide (x.ID = a.ID) && rs.any (fun r => decide (r.Tx = x.ID) && metV r.Rng K) && !(decide (x.State = 2) && decide (x.End ≤ a.Begin))
theorem hitT_iff {rs : List GReadsRead} {a x : GSsiTx} {K : Keys} : hitT rs a K x = true ↔ x.ID ≠ a.ID ∧ (∃ r ∈ rs, r.Tx = x.ID ∧ metV r.Rng K = true) ∧ (x.State = 2 → a.Begin < x.End) := by
  unfold hitT
  simp only [Bool.and_eq_true, List.any_eq_true, decide_eq_true_eq, Bool.not_eq_true', decide_eq_false_iff_not, Bool.and_eq_false_iff]
  constructor
  · rintro ⟨⟨h1, h2⟩, h3⟩
    refine ⟨h1, h2, fun hs => ?_⟩
    rcases h3 with h3 | h3
    · exact absurd hs h3
    · omega
  · rintro ⟨h1, h2, h3⟩
    refine ⟨⟨h1, h2⟩, ?_⟩
    by_cases hs : x.State = 2
    · exact .inr (by have := h3 hs; omega)
    · exact .inl hs
def doneF (l : List GSsiTx) (rs : List GReadsRead) (a : GSsiTx) (ts : Int) (K : Keys) (x : GSsiTx) : GSsiTx :=
  if x.ID = a.ID then { x with In := x.In || l.any (hitT rs a K), State := 2, End := ts, Keys := K } else if hitT rs a K x then { x with Out := true } else x

theorem inv_done (h : Inv saneK w) {a : GSsiTx} (ha : a ∈ w.c.Txs) (h1 : a.State = 1) (K : Keys) (hts : a.Begin < w.now + 1 ∧ w.now + 1 ≤ maxTs) (hK : saneK K) (hro : ¬ (a.RO = true ∧ K ≠ []))
    (hcf : ∀ x ∈ w.c.Txs, x.State = 2 → a.Begin < x.End → ∀ k ∈ K, k ∉ x.Keys) (hpass : ∀ x ∈ w.c.Txs, hitT w.c.Reads.L a K x = true → x.State = 2 → x.In = false)
    (hpiv : ¬ ((a.In || w.c.Txs.any (hitT w.c.Reads.L a K)) = true ∧ a.Out = true)) (d0 : GR11Tx) (e0 : d0.ID = a.ID ∧ d0.Begin = a.Begin ∧ d0.End = w.now + 1 ∧ d0.Keys = K) :
    Inv saneK ⟨⟨w.c.Txs.map (doneF w.c.Txs w.c.Reads.L a (w.now + 1) K), w.c.Reads⟩, w.now + 1, w.begun, w.did ++ [d0], w.read⟩ := by
  have key : ∀ {P : GSsiTx → Prop}, (∀ x ∈ w.c.Txs, P (doneF w.c.Txs w.c.Reads.L a (w.now + 1) K x)) → ∀ x ∈ w.c.Txs.map (doneF w.c.Txs w.c.Reads.L a (w.now + 1) K), P x := fun h1 x hx => by
    obtain ⟨y, hy, rfl⟩ := List.mem_map.1 hx
    exact h1 y hy
  have keyD : ∀ {P : GR11Tx → Prop}, (∀ x ∈ w.did, P x) → P d0 → ∀ x ∈ w.did ++ [d0], P x := fun h1 h2 x hx => by
    rcases List.mem_append.1 hx with hx | hx
    · exact h1 x hx
    · rw [List.mem_singleton.1 hx]; exact h2
  obtain ⟨q1, q2, q3, q4⟩ := e0
  have G : ∀ x, (doneF w.c.Txs w.c.Reads.L a (w.now + 1) K x).ID = x.ID ∧ (doneF w.c.Txs w.c.Reads.L a (w.now + 1) K x).Begin = x.Begin ∧ (doneF w.c.Txs w.c.Reads.L a (w.now + 1) K x).RO = x.RO := fun x => by
    unfold doneF
    split
    · exact ⟨rfl, rfl, rfl⟩
    · split <;> exact ⟨rfl, rfl, rfl⟩
  have N : ∀ x ∈ w.c.Txs, x ≠ a → (doneF w.c.Txs w.c.Reads.L a (w.now + 1) K x) = if hitT w.c.Reads.L a K x then { x with Out := true } else x := fun x hx hne => by
    unfold doneF
    rw [if_neg fun e => hne (h.one hx ha e)]
  have A : doneF w.c.Txs w.c.Reads.L a (w.now + 1) K a = { a with In := a.In || w.c.Txs.any (hitT w.c.Reads.L a K), State := 2, End := w.now + 1, Keys := K } := by
    unfold doneF
    rw [if_pos rfl]
  have F : ∀ x ∈ w.c.Txs, x ≠ a → (doneF w.c.Txs w.c.Reads.L a (w.now + 1) K x).End = x.End ∧ (doneF w.c.Txs w.c.Reads.L a (w.now + 1) K x).State = x.State ∧ (doneF w.c.Txs w.c.Reads.L a (w.now + 1) K x).Keys = x.Keys ∧ (doneF w.c.Txs w.c.Reads.L a (w.now + 1) K x).In = x.In ∧ (x.Out = true → (doneF w.c.Txs w.c.Reads.L a (w.now + 1) K x).Out = true) := fun x hx hne => by
    rw [N x hx hne]
    split
    · exact ⟨rfl, rfl, rfl, rfl, fun _ => rfl⟩
    · exact ⟨rfl, rfl, rfl, rfl, fun h => h⟩
  have hex : ∀ {x i}, x ∈ w.c.Txs → x.ID = i → ∃ y ∈ w.c.Txs.map (doneF w.c.Txs w.c.Reads.L a (w.now + 1) K), y.ID = i := fun {x i} hx e => ⟨_, List.mem_map.2 ⟨x, hx, rfl⟩, by rw [(G x).1, e]⟩
  have hda : ∀ d ∈ w.did, a.ID ≠ d.ID := fun d hd => h.didA d hd a ha h1
  have hend : ∀ d ∈ w.did, d.End ≤ w.now := fun d hd => (h.did0 d hd).2.2.2.1
  -- one that has read what a wrote is told
  have hhit : ∀ x ∈ w.c.Txs, x ≠ a → (x.State = 2 → a.Begin < x.End) → Rd w.read x.ID K → hitT w.c.Reads.L a K x = true := fun x hx hne hs hr => by
    obtain ⟨r, hr1, hr2, hr3⟩ := hr
    exact hitT_iff.2 ⟨fun e => hne (h.one hx ha e), ⟨_, h.rd r hr1 x hx hr2.symm, hr2, hr3⟩, hs⟩
  have hout : ∀ x ∈ w.c.Txs.map (doneF w.c.Txs w.c.Reads.L a (w.now + 1) K), ∀ d ∈ w.did ++ [d0], x.ID ≠ d.ID → (x.State = 1 ∨ d.Begin < x.End) → x.Begin < d.End → Rd w.read x.ID d.Keys → x.Out = true := by
    refine key fun x hx => keyD ?_ ?_
    · intro d hd hne hc hb hr
      rw [(G x).1] at hne hr; rw [(G x).2.1] at hb
      by_cases hxa : x = a
      · subst hxa
        rw [A]
        exact h.out x ha d hd hne (.inl h1) hb hr
      · obtain ⟨f1, f2, f3, f4, f5⟩ := F x hx hxa
        rw [f1, f2] at hc
        exact f5 (h.out x hx d hd hne hc hb hr)
    · intro hne hc hb hr
      rw [(G x).1] at hne hr; rw [q4] at hr; rw [q2] at hc
      have hxa : x ≠ a := fun e => hne (by rw [e, q1])
      obtain ⟨f1, f2, f3, f4, f5⟩ := F x hx hxa
      rw [f1, f2] at hc
      rw [N x hx hxa, if_pos (hhit x hx hxa (fun hs => by
        rcases hc with hc | hc
        · rw [hs] at hc; cases hc
        · exact hc) hr)]
  have hinD : ∀ y ∈ w.c.Txs.map (doneF w.c.Txs w.c.Reads.L a (w.now + 1) K), y.State = 2 → ∀ d ∈ w.did ++ [d0], d.ID ≠ y.ID → y.Begin < d.End → d.Begin < y.End → Rd w.read d.ID y.Keys → y.In = true := by
    refine key fun y hy hs => keyD ?_ ?_
    · intro d hd hne hb1 hb2 hr
      rw [(G y).1] at hne; rw [(G y).2.1] at hb1
      by_cases hya : y = a
      · subst hya
        rw [A] at hr ⊢
        obtain ⟨x, hx, s1, s2, s3, s4, s5⟩ := h.there ha h1 hd hb1
        show (y.In || w.c.Txs.any (hitT w.c.Reads.L y K)) = true
        rw [List.any_eq_true.2 ⟨x, hx, hhit x hx (fun e => hne (by rw [← s2, e])) (fun _ => by rw [s4]; exact hb1) (by rw [s2]; exact hr)⟩, Bool.or_true]
      · obtain ⟨f1, f2, f3, f4, f5⟩ := F y hy hya
        rw [f2] at hs; rw [f1] at hb2; rw [f3] at hr; rw [f4]
        exact h.inD y hy hs d hd hne hb1 hb2 hr
    · intro hne hb1 hb2 hr
      rw [(G y).1, q1] at hne; rw [(G y).2.1] at hb1; rw [q2] at hb2; rw [q1] at hr
      have hya : y ≠ a := fun e => hne (by rw [e])
      obtain ⟨f1, f2, f3, f4, f5⟩ := F y hy hya
      rw [f2] at hs; rw [f1] at hb2; rw [f3] at hr; rw [f4]
      exact h.inA y hy hs a ha h1 hb2 hr
  have hpv : ∀ x ∈ w.c.Txs.map (doneF w.c.Txs w.c.Reads.L a (w.now + 1) K), x.State = 2 → ¬ (x.In = true ∧ x.Out = true) := by
    refine key fun x hx hs => ?_
    by_cases hxa : x = a
    · subst hxa
      rw [A]; exact hpiv
    · obtain ⟨f1, f2, f3, f4, f5⟩ := F x hx hxa
      rw [f2] at hs
      rw [f4, N x hx hxa]
      cases hh : hitT w.c.Reads.L a K x with
      | true => rw [hpass x hx hh hs]; exact fun e => by cases e.1
      | false => rw [if_neg (by decide)]; exact h.piv x hx hs
  have hcov : ∀ d ∈ w.did ++ [d0], (∃ x ∈ w.c.Txs.map (doneF w.c.Txs w.c.Reads.L a (w.now + 1) K), x.ID = d.ID) ∨ (d ∈ w.did ∧ d.End ≤ a.Begin ∧ ∀ b ∈ w.c.Txs, b.State = 1 → d.End ≤ b.Begin) := by
    refine keyD (fun d hd => ?_) (.inl (hex ha q1.symm))
    rcases h.cov d hd with ⟨x, hx, e⟩ | hc
    · exact .inl (hex hx e)
    · exact .inr ⟨hd, hc a ha h1, hc⟩
  have hdon : ∀ x ∈ w.c.Txs.map (doneF w.c.Txs w.c.Reads.L a (w.now + 1) K), x.State = 2 → ∃ d ∈ w.did ++ [d0], d.ID = x.ID ∧ d.Begin = x.Begin ∧ d.End = x.End ∧ d.Keys = x.Keys := by
    refine key fun x hx hs => ?_
    by_cases hxa : x = a
    · subst hxa
      rw [A]
      exact ⟨d0, List.mem_append_right _ (List.mem_singleton_self _), q1, q2, q3, q4⟩
    · obtain ⟨f1, f2, f3, f4, f5⟩ := F x hx hxa
      rw [f2] at hs
      rw [(G x).1, (G x).2.1, f1, f3]
      obtain ⟨d, hd, e⟩ := h.don x hx hs
      exact ⟨d, List.mem_append_left _ hd, e⟩
  have hdI : (w.did ++ [d0]).Pairwise (fun a b => a.ID ≠ b.ID) := by
    refine List.pairwise_append.2 ⟨h.didI, List.pairwise_singleton .., fun x hx y hy => ?_⟩
    rw [List.mem_singleton.1 hy, q1]
    exact fun e => hda x hx e.symm
  constructor
  · exact h.gr
  · intro r hr
    obtain ⟨y, hy, e⟩ := h.ri r hr
    exact hex hy e
  · show (w.c.Txs.map _).length ≤ 64
    rw [List.length_map]; exact h.len
  · refine key fun x hx => ?_
    have he := h.each x hx
    by_cases hxa : x = a
    · subst hxa
      rw [A]
      exact ⟨he.id, he.beg, .inr ⟨rfl, hts.1, hts.2, hK, hro⟩⟩
    · obtain ⟨f1, f2, f3, f4, f5⟩ := F x hx hxa
      exact ⟨by rw [(G x).1]; exact he.id, by rw [(G x).2.1]; exact he.beg, by rw [(G x).2.1, (G x).2.2, f1, f2, f3]; exact he.st⟩
  · refine List.pairwise_map.2 (h.ids.imp fun {x y} hne => ?_)
    rw [(G x).1, (G y).1]; exact hne
  · show 0 ≤ w.now + 1
    have := h.now0; omega
  · intro b hb
    have := h.beg b hb
    show 0 ≤ b ∧ b ≤ w.now + 1
    omega
  · refine key fun x hx => ?_
    rw [(G x).1, (G x).2.1]; exact h.act x hx
  · exact hdon
  · refine keyD (fun d hd => ?_) ⟨by rw [q1]; exact (h.each a ha).id, by rw [q1, q2]; exact h.act a ha, by rw [q2, q3]; exact hts.1, by rw [q3]; exact Int.le_refl _, by rw [q4]; exact hK⟩
    obtain ⟨g1, g2, g3, g4, g5⟩ := h.did0 d hd
    exact ⟨g1, g2, g3, by show d.End ≤ w.now + 1; omega, g5⟩
  · refine List.pairwise_append.2 ⟨h.didE, List.pairwise_singleton .., fun x hx y hy => ?_⟩
    rw [List.mem_singleton.1 hy, q3]
    have := hend x hx; omega
  · exact hdI
  · refine keyD (fun d hd => key fun x hx hs => ?_) (key fun x hx hs => ?_)
    · rw [(G x).1]
      by_cases hxa : x = a
      · rw [hxa]; exact hda d hd
      · rw [(F x hx hxa).2.1] at hs
        exact h.didA d hd x hx hs
    · rw [(G x).1, q1]
      intro e
      have := h.one hx ha e
      subst this
      rw [A] at hs; cases hs
  · intro d hd
    rcases hcov d hd with hc | ⟨_, _, hc⟩
    · exact .inl hc
    · refine .inr (key fun x hx hs => ?_)
      rw [(G x).2.1]
      by_cases hxa : x = a
      · subst hxa
        rw [A] at hs; cases hs
      · rw [(F x hx hxa).2.1] at hs
        exact hc x hx hs
  · exact h.rdB
  · intro r hr
    refine key fun x hx e => ?_
    rw [(G x).1] at e
    exact h.rd r hr x hx e
  · exact hout
  · refine key fun y hy hs => key fun x hx hx1 hb hr => ?_
    have hxa : x ≠ a := fun e => by
      subst e
      rw [A] at hx1; cases hx1
    obtain ⟨f1, f2, f3, f4, f5⟩ := F x hx hxa
    rw [f2] at hx1; rw [(G x).2.1] at hb; rw [(G x).1] at hr
    by_cases hya : y = a
    · subst hya
      rw [A] at hr ⊢
      show (y.In || w.c.Txs.any (hitT w.c.Reads.L y K)) = true
      rw [List.any_eq_true.2 ⟨x, hx, hhit x hx hxa (fun e => by rw [hx1] at e; cases e) hr⟩, Bool.or_true]
    · obtain ⟨g1, g2, g3, g4, g5⟩ := F y hy hya
      rw [g2] at hs; rw [g1] at hb; rw [g3] at hr; rw [g4]
      exact h.inA y hy hs x hx hx1 hb hr
  · exact hinD
  · exact hpv
  · intro x hx y hy z hz r1 r2
    rcases hcov y hy with ⟨u, hu, eu⟩ | ⟨hy', hya, _⟩
    · have hus : u.State = 2 := by
        obtain ⟨v, hv, rfl⟩ := List.mem_map.1 hu
        by_cases hva : v = a
        · subst hva; rw [A]
        · rw [(F v hv hva).2.1]
          rw [(G v).1] at eu
          rcases h.st hv with hs | hs
          · rcases List.mem_append.1 hy with hy | hy
            · exact absurd eu (h.didA y hy v hv hs)
            · rw [List.mem_singleton.1 hy, q1] at eu
              exact absurd (h.one hv ha eu) hva
          · exact hs
      obtain ⟨y', hy', s1, s2, s3, s4⟩ := hdon u hu hus
      have : y' = y := pw_eq hdI hy' hy (fun n => n (s1.trans eu)) (fun n => n (s1.trans eu).symm)
      subst this
      refine hpv u hu hus ⟨hinD u hu hus x hx (by rw [eu]; exact r1.1) (by rw [← s2]; exact r1.2.1) (by rw [← s3]; exact r1.2.2.1) (by rw [← s4]; exact r1.2.2.2), hout u hu z hz (by rw [eu]; exact r2.1) (.inr (by rw [← s3]; exact r2.2.1)) (by rw [← s2]; exact r2.2.2.1) (by rw [eu]; exact r2.2.2.2)⟩
    · have hx' : x ∈ w.did := by
        rcases List.mem_append.1 hx with hx | hx
        · exact hx
        · have := r1.2.2.1
          rw [List.mem_singleton.1 hx, q2] at this; omega
      have hz' : z ∈ w.did := by
        rcases List.mem_append.1 hz with hz | hz
        · exact hz
        · have := r2.2.1
          rw [List.mem_singleton.1 hz, q2] at this; omega
      exact h.nop x hx' y hy' z hz' r1 r2
  · refine keyD (fun x hx => keyD (h.ww x hx) ?_) (keyD (fun y hy he => ?_) fun he => ?_)
    · rw [q2, q3, q4]
      rintro _ ⟨k, k1, k2⟩
      by_cases hc : x.End ≤ a.Begin
      · exact hc
      · obtain ⟨u, hu, s1, s2, s3, s4, s5⟩ := h.there ha h1 hx (by omega)
        exact absurd (s5 ▸ k1) (hcf u hu s1 (by omega) k k2)
    · rw [q3] at he
      have := hend y hy; omega
    · omega
end Go.Proofs.Ytbmciegldpeaiaa.Abs
