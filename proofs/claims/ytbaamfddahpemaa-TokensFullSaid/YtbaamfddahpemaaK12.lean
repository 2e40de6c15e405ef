/-
  Tables of tokens.
-/
import Derived.Test.YtbaamfddahpemaaS12
namespace Go.Proofs.Ytbaamfddahpemaa.Abs

abbrev E12 := GTokensEntry
def ix (l : List E12) (t : Int) : Nat := l.findIdx fun x => decide (x.Tok = t)
def fnd (l : List E12) (t : Int) : Option E12 := l[ix l t]?
def sN (t a : Int) : Bool := decide (0 ≤ t ∧ t ≤ 1099511627776 ∧ 0 ≤ a ∧ a ≤ 65535)
def sTs (t : Int) : Bool := decide (1 ≤ t ∧ t ≤ 1099511627776)
def sE (x : E12) : Bool := if x.State = 1 ∨ x.State = 3 then sN x.Tok x.Attempt && decide (x.Ts = 0) else if x.State = 2 then sN x.Tok x.Attempt && sTs x.Ts else false
structure OkT (l : List E12) : Prop where
  e : ∀ x ∈ l, sE x = true
  u : ∀ (i j : Nat) (x y : E12), l[i]? = some x → l[j]? = some y → x.Tok = y.Tok → i = j
  n : l.length ≤ 32

theorem saneName_m (t a : Int) : m17_tokens_saneName t a = some (sN t a) := by
  unfold m17_tokens_saneName sN
  by_cases h1 : 0 ≤ t <;> by_cases h2 : t ≤ 1099511627776 <;> by_cases h3 : 0 ≤ a <;> simp [h1, h2, h3]
theorem saneTs_m (t : Int) : m20_tokens_saneTs t = some (sTs t) := by
  unfold m20_tokens_saneTs sTs
  by_cases h1 : 1 ≤ t <;> simp [h1]
theorem saneEntry_m (x : E12) : m16_tokens_saneEntry x = some (sE x) := by
  unfold m16_tokens_saneEntry m16_tokens_saneEntry_k1 sE
  rw [saneName_m, saneTs_m]
  by_cases h1 : x.State = 1
  · simp [h1]; cases sN x.Tok x.Attempt <;> simp
  · by_cases h3 : x.State = 3
    · simp [h3]; cases sN x.Tok x.Attempt <;> simp
    · by_cases h2 : x.State = 2
      · simp [h2]; cases sN x.Tok x.Attempt <;> simp
      · simp [h1, h2, h3]

theorem ix_le (l : List E12) (t : Int) : ix l t ≤ l.length := List.findIdx_le_length
theorem ix_tok {l : List E12} {t : Int} (h : ix l t < l.length) : l[ix l t].Tok = t := by
  have := List.findIdx_getElem (xs := l) (p := fun (x : E12) => decide (x.Tok = t)) (w := h)
  exact of_decide_eq_true this
theorem ix_first {l : List E12} {t : Int} {i : Nat} {x : E12} (h : i < ix l t) (hx : l[i]? = some x) : x.Tok ≠ t := by
  have hi : i < l.length := (List.getElem?_eq_some_iff.1 hx).1
  have := List.not_of_lt_findIdx (xs := l) (p := fun (x : E12) => decide (x.Tok = t)) h
  have e := (List.getElem?_eq_some_iff.1 hx).2
  rw [e] at this
  simpa using this
theorem ix_eq {l : List E12} {t : Int} {i : Nat} {x : E12} (hx : l[i]? = some x) (ht : x.Tok = t) (hf : ∀ (j : Nat) (y : E12), j < i → l[j]? = some y → y.Tok ≠ t) : ix l t = i := by
  rcases Nat.lt_trichotomy (ix l t) i with h | h | h
  · have hi : i < l.length := (List.getElem?_eq_some_iff.1 hx).1
    have hl : ix l t < l.length := Nat.lt_trans h hi
    exact absurd (ix_tok hl) (hf _ _ h (List.getElem?_eq_getElem hl))
  · exact h
  · exact absurd ht (ix_first h hx)
theorem fnd_some {l : List E12} {t : Int} {x : E12} (h : fnd l t = some x) : x.Tok = t ∧ ix l t < l.length ∧ x ∈ l := by
  unfold fnd at h
  obtain ⟨h1, h2⟩ := List.getElem?_eq_some_iff.1 h
  exact ⟨by rw [← h2]; exact ix_tok h1, h1, List.mem_of_getElem? h⟩
theorem fnd_none {l : List E12} {t : Int} (h : fnd l t = none) : ix l t = l.length ∧ ∀ (i : Nat) (x : E12), l[i]? = some x → x.Tok ≠ t := by
  unfold fnd at h
  have h1 := List.getElem?_eq_none_iff.1 h
  have e : ix l t = l.length := Nat.le_antisymm (ix_le l t) h1
  exact ⟨e, fun i x hx => ix_first (by rw [e]; exact (List.getElem?_eq_some_iff.1 hx).1) hx⟩
theorem fnd_eq {l : List E12} (ok : OkT l) {t : Int} {i : Nat} {x : E12} (hx : l[i]? = some x) (ht : x.Tok = t) : ix l t = i ∧ fnd l t = some x := by
  have h := ix_eq hx ht (fun j y hj hy hc => Nat.lt_irrefl j (by have := ok.u j i y x hy hx (hc.trans ht.symm); omega))
  exact ⟨h, by unfold fnd; rw [h]; exact hx⟩

theorem place_m (l : List E12) (t : Int) (hl : l.length ≤ 1000000) : m15_tokens_place ⟨l⟩ t = some (ix l t : Int) := by
  unfold m15_tokens_place
  obtain ⟨x, hx, hm⟩ := iter_inv (f := m15_tokens_place_s2 ⟨l⟩ t) (P := fun s => ∃ i : Nat, i ≤ l.length ∧ s = (i : Int) ∧ ∀ (j : Nat) (y : E12), j < i → l[j]? = some y → y.Tok ≠ t) (μ := fun s => l.length - s.toNat)
    (R := fun x => match x with | .inl y => y = (ix l t : Int) | .inr _ => ix l t = l.length) (by
    rintro _ ⟨i, hi, rfl, hf⟩
    unfold m15_tokens_place_s2
    dsimp only
    rcases Nat.lt_or_ge i l.length with hlt | hge
    · have e := List.getElem?_eq_getElem hlt
      rw [if_pos (decide_eq_true (by omega)), idx_nat, e]
      simp only [Option.bind_some]
      by_cases ht : l[i].Tok = t
      · right; right
        rw [if_pos (decide_eq_true ht)]
        exact ⟨_, rfl, by rw [ix_eq e ht hf]⟩
      · left
        rw [if_neg (by simpa using ht), wI_id (by omega) (by omega)]
        refine ⟨_, rfl, ⟨i + 1, hlt, rfl, fun j y hj hy => ?_⟩, by omega⟩
        rcases Nat.lt_or_ge j i with h | h
        · exact hf j y h hy
        · have : j = i := by omega
          subst this
          rw [e] at hy; cases hy; exact ht
    · right; left
      rw [if_neg (by rw [decide_eq_true_eq]; omega)]
      refine ⟨_, rfl, ?_⟩
      refine Nat.le_antisymm (ix_le l t) (Nat.le_of_not_lt fun h => ?_)
      exact hf _ _ (by omega) (List.getElem?_eq_getElem h) (ix_tok h)) fuel 0 ⟨0, Nat.zero_le _, rfl, fun j y hj => absurd hj (Nat.not_lt_zero _)⟩ (lt_fuel (by show l.length - 0 ≤ _; omega))
  rw [hx]
  cases x with
  | inl y => show some y = _; rw [show y = _ from hm]
  | inr y => show some (l.length : Int) = _; rw [show ix l t = l.length from hm]
theorem Sane_m {l : List E12} (ok : OkT l) : m10_tokens_Sane ⟨l⟩ = some true := by
  have hn := ok.n
  unfold m10_tokens_Sane
  obtain ⟨x, hx, hm⟩ := iter_inv (f := m10_tokens_Sane_s2 ⟨l⟩) (P := fun s => ∃ i : Nat, i ≤ l.length ∧ s = (i : Int)) (μ := fun s => l.length - s.toNat)
    (R := fun x => match x with | .inl y => False | .inr _ => True) (by
    rintro _ ⟨i, hi, rfl⟩
    unfold m10_tokens_Sane_s2
    dsimp only
    rcases Nat.lt_or_ge i l.length with hlt | hge
    · have e := List.getElem?_eq_getElem hlt
      left
      rw [if_pos (decide_eq_true (by omega)), idx_nat, e]
      simp only [Option.bind_some]
      rw [saneEntry_m, ok.e _ (List.getElem_mem hlt)]
      simp only [Option.bind_some]
      rw [if_neg (by simp), place_m l _ (by omega), (fnd_eq ok e rfl).1]
      simp only [Option.bind_some]
      rw [if_neg (by simp), wI_id (by omega) (by omega)]
      exact ⟨_, rfl, ⟨i + 1, hlt, rfl⟩, by omega⟩
    · right; left
      rw [if_neg (by rw [decide_eq_true_eq]; omega)]
      exact ⟨_, rfl, trivial⟩) fuel 0 ⟨0, Nat.zero_le _, rfl⟩ (lt_fuel (by show l.length - 0 ≤ _; omega))
  rw [hx]
  cases x with
  | inl y => exact hm.elim
  | inr y => show some (decide ((l.length : Int) ≤ 32)) = _; rw [decide_eq_true (by omega)]
def e00 : E12 := ⟨0, 0, 0, 0⟩
theorem Find_m {l : List E12} (hl : l.length ≤ 1000000) (t : Int) : m9_tokens_Find ⟨l⟩ t = some (match fnd l t with | some x => (x, true) | none => (e00, false)) := by
  unfold m9_tokens_Find
  rw [place_m l t hl]
  simp only [Option.bind_some]
  cases h : fnd l t with
  | none =>
    rw [if_pos (decide_eq_true (by rw [(fnd_none h).1]))]
    rfl
  | some x =>
    have h1 := fnd_some h
    rw [if_neg (by rw [decide_eq_true_eq]; omega)]
    show (idx l (ix l t : Int)).bind _ = _
    rw [idx_nat, show l[ix l t]? = some x from h]
    rfl

def updT (l : List E12) (x : E12) : List E12 := if ix l x.Tok < l.length then l.set (ix l x.Tok) x else l ++ [x]
theorem upd_at (l : List E12) (x : E12) : (updT l x)[ix l x.Tok]? = some x := by
  unfold updT
  have := ix_le l x.Tok
  split
  · rw [List.getElem?_set_self (by assumption)]
  · have e : ix l x.Tok = l.length := by omega
    rw [e, List.getElem?_append_right (Nat.le_refl _), Nat.sub_self]; rfl
theorem upd_other (l : List E12) (x : E12) {j : Nat} (hj : j ≠ ix l x.Tok) : (updT l x)[j]? = l[j]? := by
  unfold updT
  have := ix_le l x.Tok
  split
  · rw [List.getElem?_set_ne (fun e => hj e.symm)]
  · have e : ix l x.Tok = l.length := by omega
    rcases Nat.lt_or_ge j l.length with h | h
    · rw [List.getElem?_append_left h]
    · rw [List.getElem?_eq_none (by simp; omega), List.getElem?_eq_none h]
theorem upd_tok {l : List E12} (ok : OkT l) {x y : E12} {j : Nat} (hj : j ≠ ix l x.Tok) (hy : l[j]? = some y) : y.Tok ≠ x.Tok := fun hc => hj (fnd_eq ok hy hc).1.symm
theorem upd_ok {l : List E12} (ok : OkT l) {x : E12} (hx : sE x = true) (h : ix l x.Tok < 32) : OkT (updT l x) := by
  refine ⟨fun y hy => ?_, fun i j y z hy hz hyz => ?_, ?_⟩
  · obtain ⟨j, hj⟩ := List.getElem?_of_mem hy
    by_cases e : j = ix l x.Tok
    · subst e; rw [upd_at] at hj; cases hj; exact hx
    · rw [upd_other l x e] at hj
      exact ok.e y (List.mem_of_getElem? hj)
  · by_cases e1 : i = ix l x.Tok <;> by_cases e2 : j = ix l x.Tok
    · rw [e1, e2]
    · rw [upd_other l x e2] at hz
      subst e1; rw [upd_at] at hy; cases hy
      exact absurd hyz.symm (upd_tok ok e2 hz)
    · rw [upd_other l x e1] at hy
      subst e2; rw [upd_at] at hz; cases hz
      exact absurd hyz (upd_tok ok e1 hy)
    · rw [upd_other l x e1] at hy
      rw [upd_other l x e2] at hz
      exact ok.u i j y z hy hz hyz
  · unfold updT
    have := ok.n
    have := ix_le l x.Tok
    split
    · rw [List.length_set]; omega
    · rw [List.length_append]; simp only [List.length_cons, List.length_nil]; omega
theorem fnd_upd {l : List E12} (ok : OkT l) {x : E12} (hx : sE x = true) (h : ix l x.Tok < 32) (t : Int) : fnd (updT l x) t = if t = x.Tok then some x else fnd l t := by
  have ok' := upd_ok ok hx h
  by_cases ht : t = x.Tok
  · rw [if_pos ht]
    exact (fnd_eq ok' (upd_at l x) ht.symm).2
  · rw [if_neg ht]
    cases hf : fnd l t with
    | some y =>
      have h1 := fnd_some hf
      have hj : ix l t ≠ ix l x.Tok := fun e => by
        have h2 : l[ix l t]? = some y := hf
        have h3 := ix_tok (l := l) (t := x.Tok) (by rw [← e]; exact h1.2.1)
        have h4 : l[ix l x.Tok]? = some y := by rw [← e]; exact h2
        rw [List.getElem?_eq_getElem (by rw [← e]; exact h1.2.1)] at h4
        have h5 : l[ix l x.Tok]'(by rw [← e]; exact h1.2.1) = y := Option.some.inj h4
        rw [h5] at h3
        exact ht (h1.1.symm.trans h3)
      exact (fnd_eq ok' (by rw [upd_other l x hj]; exact hf) h1.1).2
    | none =>
      have h1 := (fnd_none hf).2
      cases hf' : fnd (updT l x) t with
      | none => rfl
      | some y =>
        have h2 := fnd_some hf'
        have h3 : (updT l x)[ix (updT l x) t]? = some y := hf'
        by_cases e : ix (updT l x) t = ix l x.Tok
        · rw [e, upd_at] at h3
          cases h3
          exact absurd h2.1.symm ht
        · rw [upd_other l x e] at h3
          exact absurd h2.1 (h1 _ _ h3)
def delL (l : List E12) (t : Int) : List E12 := l.take (ix l t) ++ l.drop (ix l t + 1)
theorem del_get {l : List E12} {t : Int} (h : ix l t < l.length) (j : Nat) : (delL l t)[j]? = if j < ix l t then l[j]? else l[j + 1]? := by
  unfold delL
  have hl : (l.take (ix l t)).length = ix l t := by rw [List.length_take]; omega
  split
  · rw [List.getElem?_append_left (by rw [hl]; assumption), List.getElem?_take, if_pos (by assumption)]
  · rw [List.getElem?_append_right (by rw [hl]; omega), hl, List.getElem?_drop]
    congr 1; omega
theorem del_from {l : List E12} {t : Int} (h : ix l t < l.length) {j : Nat} {y : E12} (hy : (delL l t)[j]? = some y) : ∃ q, q ≠ ix l t ∧ l[q]? = some y ∧ (q = if j < ix l t then j else j + 1) := by
  rw [del_get h] at hy
  by_cases c : j < ix l t
  · rw [if_pos c] at hy ⊢; exact ⟨j, by omega, hy, rfl⟩
  · rw [if_neg c] at hy ⊢; exact ⟨j + 1, by omega, hy, rfl⟩
theorem del_ok {l : List E12} (ok : OkT l) {t : Int} (h : ix l t < l.length) : OkT (delL l t) := by
  refine ⟨fun y hy => ?_, fun i j y z hy hz hyz => ?_, ?_⟩
  · obtain ⟨j, hj⟩ := List.getElem?_of_mem hy
    obtain ⟨q, _, hq, _⟩ := del_from h hj
    exact ok.e y (List.mem_of_getElem? hq)
  · obtain ⟨q, h1, hq, e1⟩ := del_from h hy
    obtain ⟨q', h2, hq', e2⟩ := del_from h hz
    have := ok.u q q' y z hq hq' hyz
    by_cases c1 : i < ix l t <;> by_cases c2 : j < ix l t
    · rw [if_pos c1] at e1; rw [if_pos c2] at e2; omega
    · rw [if_pos c1] at e1; rw [if_neg c2] at e2; omega
    · rw [if_neg c1] at e1; rw [if_pos c2] at e2; omega
    · rw [if_neg c1] at e1; rw [if_neg c2] at e2; omega
  · unfold delL
    have := ok.n
    rw [List.length_append, List.length_take, List.length_drop]; omega
theorem del_len {l : List E12} {t : Int} (h : ix l t < l.length) : (delL l t).length = l.length - 1 := by
  unfold delL
  rw [List.length_append, List.length_take, List.length_drop]; omega
theorem fnd_del {l : List E12} (ok : OkT l) {t : Int} (h : ix l t < l.length) (s : Int) : fnd (delL l t) s = if s = t then none else fnd l s := by
  have ok' := del_ok ok h
  by_cases hs : s = t
  · rw [if_pos hs]
    cases hf : fnd (delL l t) s with
    | none => rfl
    | some y =>
      have h2 := fnd_some hf
      obtain ⟨q, h3, hq, _⟩ := del_from h (show (delL l t)[ix (delL l t) s]? = some y from hf)
      exact absurd (fnd_eq ok hq (h2.1.trans hs)).1.symm h3
  · rw [if_neg hs]
    cases hf : fnd l s with
    | some y =>
      have h1 := fnd_some hf
      have hne : ix l s ≠ ix l t := fun e => by
        have h3 := ix_tok h
        have h4 : l[ix l t]? = some y := by rw [← e]; exact hf
        rw [List.getElem?_eq_getElem h] at h4
        rw [Option.some.inj h4] at h3
        exact hs (h1.1.symm.trans h3)
      refine (fnd_eq ok' (i := if ix l s < ix l t then ix l s else ix l s - 1) ?_ h1.1).2
      rw [del_get h]
      by_cases c : ix l s < ix l t
      · rw [if_pos c, if_pos c]; exact hf
      · rw [if_neg c, if_neg (by omega), show ix l s - 1 + 1 = ix l s by omega]; exact hf
    | none =>
      have h1 := (fnd_none hf).2
      cases hf' : fnd (delL l t) s with
      | none => rfl
      | some y =>
        have h2 := fnd_some hf'
        obtain ⟨q, _, hq, _⟩ := del_from h (show (delL l t)[ix (delL l t) s]? = some y from hf')
        exact absurd h2.1 (h1 _ _ hq)

theorem put_m (l : List E12) (x : E12) (hl : l.length ≤ 1000000) : m21_tokens_put l (ix l x.Tok : Int) x = some (updT l x) := by
  unfold m21_tokens_put updT
  rw [m23_slices_Cloneo_m _ (by omega)]
  simp only [Option.bind_some]
  have := ix_le l x.Tok
  by_cases h : ix l x.Tok < l.length
  · rw [if_neg (by rw [decide_eq_true_eq]; omega), if_pos h, idx_nat, List.getElem?_eq_getElem h, Int.toNat_natCast]
    rfl
  · rw [if_pos (decide_eq_true (by omega)), if_neg h, if_pos (by simp only [List.length_cons, List.length_nil]; omega)]
theorem set_m {l : List E12} (ok : OkT l) (x : E12) : m18_tokens_set ⟨l⟩ x = some (if 32 ≤ ix l x.Tok then (⟨[]⟩, 8) else (⟨updT l x⟩, 0)) := by
  unfold m18_tokens_set
  have hn := ok.n
  rw [place_m l _ (by omega)]
  simp only [Option.bind_some]
  by_cases h : 32 ≤ ix l x.Tok
  · rw [if_pos (decide_eq_true (by omega)), if_pos h]
  · rw [if_neg (by rw [decide_eq_true_eq]; omega), if_neg h, put_m l x (by omega)]
    rfl

/-- What a start, a finish, a fence, a release makes of a table. -/
def OpR (l : List E12) (what tok att ts : Int) (l' : List E12) : Prop :=
  OkT l' ∧ (∀ t, t ≠ tok → fnd l' t = fnd l t) ∧ 0 ≤ att ∧ att ≤ 65535 ∧
    ((what = 0 ∧ (∀ x, fnd l tok = some x → x.State ≠ 2 ∧ x.Attempt < att) ∧ fnd l' tok = some ⟨tok, att, 1, 0⟩) ∨
     (what = 2 ∧ (∃ x, fnd l tok = some x ∧ x.State = 1 ∧ x.Attempt = att) ∧ fnd l' tok = some ⟨tok, att, 2, ts⟩) ∨
     (what = 4 ∧ (∃ x, fnd l tok = some x ∧ x.State = 2 ∧ l' = l)) ∨
     (what = 4 ∧ (∀ x, fnd l tok = some x → x.State ≠ 2) ∧ ∃ b, fnd l' tok = some ⟨tok, b, 3, 0⟩ ∧ b = (match fnd l tok with | some x => max x.Attempt att | none => att)))
theorem sE_att {x : E12} (h : sE x = true) : 0 ≤ x.Tok ∧ x.Tok ≤ 1099511627776 ∧ 0 ≤ x.Attempt ∧ x.Attempt ≤ 65535 ∧ (x.State = 1 ∨ x.State = 2 ∧ 1 ≤ x.Ts ∨ x.State = 3) := by
  unfold sE at h
  have hN : ∀ b : Bool, (sN x.Tok x.Attempt && b) = true → (0 ≤ x.Tok ∧ x.Tok ≤ 1099511627776 ∧ 0 ≤ x.Attempt ∧ x.Attempt ≤ 65535) ∧ b = true := fun b h => by
    rw [Bool.and_eq_true] at h; exact ⟨of_decide_eq_true h.1, h.2⟩
  by_cases h1 : x.State = 1 ∨ x.State = 3
  · rw [if_pos h1] at h
    obtain ⟨⟨a, b, c, d⟩, _⟩ := hN _ h
    exact ⟨a, b, c, d, h1.elim .inl (fun h => .inr (.inr h))⟩
  · rw [if_neg h1] at h
    by_cases h2 : x.State = 2
    · rw [if_pos h2] at h
      obtain ⟨⟨a, b, c, d⟩, h3⟩ := hN _ h
      exact ⟨a, b, c, d, .inr (.inl ⟨h2, (of_decide_eq_true h3).1⟩)⟩
    · rw [if_neg h2] at h; cases h
theorem Start_m {l : List E12} (ok : OkT l) (tok att : Int) : ∃ l' e, m12_tokens_Start ⟨l⟩ tok att = some (⟨l'⟩, e) ∧ (e = 0 → OpR l 0 tok att 0 l') ∧
    (fnd l tok = none → sN tok att = true → e = if l.length = 32 then 8 else 0) := by
  unfold m12_tokens_Start
  show ∃ l' e, (m10_tokens_Sane ⟨l⟩).bind _ = _ ∧ _
  rw [Sane_m ok, saneName_m]
  simp only [Option.bind_some]
  rw [if_neg (by simp)]
  cases hN : sN tok att with
  | false => exact ⟨[], 1, rfl, (fun h => by cases h), fun _ h => by cases h⟩
  | true =>
  rw [if_neg (by simp)]
  have hN' : 0 ≤ tok ∧ tok ≤ 1099511627776 ∧ 0 ≤ att ∧ att ≤ 65535 := of_decide_eq_true hN
  have hsE : sE (⟨tok, att, 1, 0⟩ : E12) = true := by unfold sE; rw [if_pos (.inl rfl)]; show (sN tok att && _) = true; rw [hN]; rfl
  unfold m12_tokens_Start_k1
  have hn := ok.n
  rw [Find_m (by omega)]
  simp only [Option.bind_some]
  have hset : ∃ l' e, (m18_tokens_set ⟨l⟩ ⟨tok, att, 1, 0⟩).bind (fun v => some (v.1, v.2)) = some (⟨l'⟩, e) ∧ ((∀ x, fnd l tok = some x → x.State ≠ 2 ∧ x.Attempt < att) → e = 0 → OpR l 0 tok att 0 l') ∧ (fnd l tok = none → e = if l.length = 32 then 8 else 0) := by
    rw [set_m ok]
    simp only [Option.bind_some]
    by_cases h : 32 ≤ ix l tok
    · rw [if_pos (show 32 ≤ ix l (⟨tok, att, 1, 0⟩ : E12).Tok from h)]
      exact ⟨[], 8, rfl, (fun _ h => by cases h), (fun _ => by rw [if_pos (by have := ix_le l tok; omega)])⟩
    · rw [if_neg (show ¬ 32 ≤ ix l (⟨tok, att, 1, 0⟩ : E12).Tok from h)]
      have hf := fnd_upd ok hsE (show ix l (⟨tok, att, 1, 0⟩ : E12).Tok < 32 by show ix l tok < 32; omega)
      refine ⟨_, 0, rfl, fun hx _ => ⟨upd_ok ok hsE (by show ix l tok < 32; omega), (fun t ht => by rw [hf t, if_neg ht]), hN'.2.2.1, hN'.2.2.2, .inl ⟨rfl, hx, by rw [hf tok, if_pos rfl]⟩⟩, fun hno => by rw [if_neg (by have := (fnd_none hno).1; omega)]⟩
  cases hf : fnd l tok with
  | none =>
    rw [if_neg (by simp), if_neg (by simp)]
    obtain ⟨l', e, h1, h2, h3⟩ := hset
    exact ⟨l', e, h1, h2 (by rw [hf]; intro x h; cases h), fun _ _ => h3 hf⟩
  | some x =>
    dsimp only
    rw [if_pos rfl]
    by_cases h2 : x.State = 2
    · rw [if_pos (decide_eq_true h2)]
      exact ⟨[], 7, rfl, (fun h => by cases h), fun h => by cases h⟩
    rw [if_neg (by simpa using h2), if_pos rfl]
    by_cases h3 : att ≤ x.Attempt
    · rw [if_pos (decide_eq_true h3)]
      exact ⟨[], 14, rfl, (fun h => by cases h), fun h => by cases h⟩
    · rw [if_neg (by simpa using h3)]
      obtain ⟨l', e, h4, h5, _⟩ := hset
      exact ⟨l', e, h4, h5 (by rw [hf]; rintro y h; cases h; exact ⟨h2, by omega⟩), fun h => by cases h⟩
theorem Finish_m {l : List E12} (ok : OkT l) (tok att ts : Int) : ∃ l' e, m14_tokens_Finish ⟨l⟩ tok att ts = some (⟨l'⟩, e) ∧ (e = 0 → OpR l 2 tok att ts l') ∧
    (fnd l tok = some ⟨tok, att, 1, 0⟩ → sTs ts = true → e = 0 ∧ ix l' tok < l'.length ∧ l'.length = l.length) := by
  unfold m14_tokens_Finish
  rw [Sane_m ok, saneName_m, saneTs_m]
  simp only [Option.bind_some]
  rw [if_neg (by simp)]
  have hn := ok.n
  cases hN : sN tok att with
  | false =>
    refine ⟨[], 1, rfl, (fun h => by cases h), fun h _ => ?_⟩
    have := sE_att (ok.e _ (fnd_some h).2.2)
    exfalso
    have h2 : sN tok att = true := decide_eq_true ⟨this.1, this.2.1, this.2.2.1, this.2.2.2.1⟩
    rw [hN] at h2; cases h2
  | true =>
  rw [if_neg (by simp)]
  have hN' : 0 ≤ tok ∧ tok ≤ 1099511627776 ∧ 0 ≤ att ∧ att ≤ 65535 := of_decide_eq_true hN
  cases hT : sTs ts with
  | false => exact ⟨[], 1, rfl, (fun h => by cases h), fun _ h => by cases h⟩
  | true =>
  rw [if_neg (by simp)]
  have hsE : sE (⟨tok, att, 2, ts⟩ : E12) = true := by
    unfold sE
    rw [if_neg (by rintro (h | h) <;> cases h), if_pos rfl]
    show (sN tok att && sTs ts) = true
    rw [hN, hT]; rfl
  unfold m14_tokens_Finish_k1
  rw [Find_m (by omega)]
  simp only [Option.bind_some]
  cases hf : fnd l tok with
  | none => exact ⟨[], 14, rfl, (fun h => by cases h), fun h => by cases h⟩
  | some x =>
    dsimp only
    have hx := fnd_some hf
    by_cases h2 : x.State = 2
    · rw [if_pos (decide_eq_true h2)]
      exact ⟨[], 7, rfl, (fun h => by cases h), fun h => by cases h; cases h2⟩
    rw [if_neg (by simpa using h2)]
    by_cases h1 : x.State = 1
    · rw [if_neg (by simp [h1])]
      by_cases h3 : x.Attempt = att
      · rw [if_neg (by simp [h3]), set_m ok]
        simp only [Option.bind_some]
        have hix : ix l tok < 32 := by omega
        rw [if_neg (show ¬ 32 ≤ ix l (⟨tok, att, 2, ts⟩ : E12).Tok by show ¬ 32 ≤ ix l tok; omega)]
        have hff := fnd_upd ok hsE (show ix l (⟨tok, att, 2, ts⟩ : E12).Tok < 32 from hix)
        refine ⟨_, 0, rfl, fun _ => ⟨upd_ok ok hsE hix, (fun t ht => by rw [hff t, if_neg ht]), hN'.2.2.1, hN'.2.2.2, .inr (.inl ⟨rfl, ⟨x, hf, h1, h3⟩, by rw [hff tok, if_pos rfl]⟩)⟩, fun _ _ => ⟨rfl, ?_, ?_⟩⟩
        · have h4 : fnd (updT l ⟨tok, att, 2, ts⟩) tok = some ⟨tok, att, 2, ts⟩ := by rw [hff tok, if_pos rfl]
          exact (fnd_some h4).2.1
        · unfold updT
          rw [if_pos (show ix l (⟨tok, att, 2, ts⟩ : E12).Tok < l.length from hx.2.1), List.length_set]
      · rw [if_pos (by simpa using h3)]
        exact ⟨[], 14, rfl, (fun h => by cases h), fun h => by cases h; exact absurd rfl h3⟩
    · rw [if_pos (by simpa using h1)]
      exact ⟨[], 14, rfl, (fun h => by cases h), fun h => by cases h; exact absurd rfl h1⟩
theorem Fence_m {l : List E12} (ok : OkT l) (tok att : Int) : ∃ l' n e, m11_tokens_Fence ⟨l⟩ tok att = some (⟨l'⟩, n, e) ∧ (e = 0 → OpR l 4 tok att 0 l') ∧
    (∀ x, fnd l tok = some x → x.State = 2 → (e = 0 ∧ n = x.Ts) ∨ e = 1) ∧ (e = 0 → n ≤ 0 → ∀ x, fnd l tok = some x → x.State ≠ 2) ∧ (fnd l tok = none → sN tok att = true → l.length = 32 → e = 8) := by
  unfold m11_tokens_Fence
  rw [Sane_m ok, saneName_m]
  simp only [Option.bind_some]
  rw [if_neg (by simp)]
  have hn := ok.n
  cases hN : sN tok att with
  | false => exact ⟨[], 0, 1, rfl, (fun h => by cases h), (fun _ _ _ => .inr rfl), (fun h => by cases h), fun _ h => by cases h⟩
  | true =>
  rw [if_neg (by simp)]
  have hN' : 0 ≤ tok ∧ tok ≤ 1099511627776 ∧ 0 ≤ att ∧ att ≤ 65535 := of_decide_eq_true hN
  unfold m11_tokens_Fence_k1
  rw [Find_m (by omega)]
  simp only [Option.bind_some]
  have hgo : ∀ b : Int, 0 ≤ b → b ≤ 65535 → ∃ l' e, (m18_tokens_set ⟨l⟩ ⟨tok, b, 3, 0⟩).bind (fun v => some (v.1, (0 : Int), v.2)) = some (⟨l'⟩, 0, e) ∧ (e = 0 → OkT l' ∧ (∀ t, t ≠ tok → fnd l' t = fnd l t) ∧ fnd l' tok = some ⟨tok, b, 3, 0⟩) ∧ (fnd l tok = none → l.length = 32 → e = 8) := by
    intro b h0 h1
    have hsE : sE (⟨tok, b, 3, 0⟩ : E12) = true := by
      unfold sE
      rw [if_pos (.inr rfl)]
      show (sN tok b && _) = true
      have : sN tok b = true := decide_eq_true ⟨hN'.1, hN'.2.1, h0, h1⟩
      rw [this]; rfl
    rw [set_m ok]
    simp only [Option.bind_some]
    by_cases h : 32 ≤ ix l tok
    · rw [if_pos (show 32 ≤ ix l (⟨tok, b, 3, 0⟩ : E12).Tok from h)]
      exact ⟨[], 8, rfl, (fun h => by cases h), fun _ _ => rfl⟩
    · rw [if_neg (show ¬ 32 ≤ ix l (⟨tok, b, 3, 0⟩ : E12).Tok from h)]
      have hff := fnd_upd ok hsE (show ix l (⟨tok, b, 3, 0⟩ : E12).Tok < 32 by show ix l tok < 32; omega)
      exact ⟨_, 0, rfl, fun _ => ⟨upd_ok ok hsE (by show ix l tok < 32; omega), (fun t ht => by rw [hff t, if_neg ht]), by rw [hff tok, if_pos rfl]⟩, fun hno h32 => by have := (fnd_none hno).1; omega⟩
  cases hf : fnd l tok with
  | none =>
    dsimp only
    rw [if_neg (by decide)]
    have he : (if att > e00.Attempt then att else e00.Attempt) = att := by show (if att > 0 then att else 0) = att; split <;> omega
    rw [he]
    obtain ⟨l', e, h1, h2, h3⟩ := hgo att hN'.2.2.1 hN'.2.2.2
    exact ⟨l', 0, e, h1, fun h => ⟨(h2 h).1, (h2 h).2.1, hN'.2.2.1, hN'.2.2.2, .inr (.inr (.inr ⟨rfl, (by rw [hf]; intro x h; cases h), att, (h2 h).2.2, by rw [hf]⟩))⟩, (fun x h => by cases h), (fun _ _ x h => by cases h), fun _ _ => h3 hf⟩
  | some x =>
    dsimp only
    have hx := fnd_some hf
    have hsx := sE_att (ok.e _ hx.2.2)
    by_cases h2 : x.State = 2
    · rw [if_pos (decide_eq_true h2)]
      refine ⟨l, x.Ts, 0, rfl, fun _ => ⟨ok, fun _ _ => rfl, hN'.2.2.1, hN'.2.2.2, .inr (.inr (.inl ⟨rfl, x, hf, h2, rfl⟩))⟩, (fun y h _ => by cases h; exact .inl ⟨rfl, rfl⟩), fun _ h0 y h => ?_, fun h => by cases h⟩
      rcases hsx.2.2.2.2 with h | h | h
      · rw [h] at h2; cases h2
      · omega
      · rw [h] at h2; cases h2
    · rw [if_neg (by simpa using h2)]
      have he : (if att > x.Attempt then att else x.Attempt) = max x.Attempt att := by split <;> omega
      rw [he]
      obtain ⟨l', e, h1, h3, _⟩ := hgo (max x.Attempt att) (by omega) (by omega)
      exact ⟨l', 0, e, h1, fun h => ⟨(h3 h).1, (h3 h).2.1, hN'.2.2.1, hN'.2.2.2, .inr (.inr (.inr ⟨rfl, (by rw [hf]; rintro y h; cases h; exact h2), _, (h3 h).2.2, by rw [hf]⟩))⟩, (fun y h hy => by cases h; exact absurd hy h2), (fun _ _ y h => by cases h; exact h2), fun h => by cases h⟩
theorem Release_m {l : List E12} (ok : OkT l) (tok : Int) : ∃ l' e, m13_tokens_Release ⟨l⟩ tok = some (⟨l'⟩, e) ∧ (e = 0 → OkT l' ∧ (∀ t, t ≠ tok → fnd l' t = fnd l t) ∧ fnd l' tok = none ∧ l'.length = l.length - 1 ∧ 1 ≤ l.length) ∧
    (∀ x, fnd l tok = some x → (x.State = 1 → e = 7) ∧ (x.State = 2 → e = 0)) := by
  unfold m13_tokens_Release
  show ∃ l' e, (m10_tokens_Sane ⟨l⟩).bind _ = _ ∧ _
  rw [Sane_m ok, saneName_m]
  simp only [Option.bind_some]
  rw [if_neg (by simp)]
  have hn := ok.n
  cases hN : sN tok 0 with
  | false =>
    refine ⟨[], 1, rfl, (fun h => by cases h), fun x h => ?_⟩
    have := sE_att (ok.e _ (fnd_some h).2.2)
    rw [(fnd_some h).1] at this
    exfalso
    have h2 : sN tok 0 = true := decide_eq_true ⟨this.1, this.2.1, Int.le_refl _, by decide⟩
    rw [hN] at h2; cases h2
  | true =>
  rw [if_neg (by simp)]
  unfold m13_tokens_Release_k1
  rw [Find_m (by omega)]
  simp only [Option.bind_some]
  cases hf : fnd l tok with
  | none => exact ⟨[], 6, rfl, (fun h => by cases h), fun x h => by cases h⟩
  | some x =>
    dsimp only
    have hx := fnd_some hf
    rw [if_neg (by simp)]
    by_cases h1 : x.State = 1
    · rw [if_pos (decide_eq_true h1)]
      exact ⟨[], 7, rfl, (fun h => by cases h), fun y h => by cases h; exact ⟨fun _ => rfl, fun h2 => by rw [h1] at h2; cases h2⟩⟩
    rw [if_neg (by simpa using h1), place_m l tok (by omega)]
    simp only [Option.bind_some]
    rw [cut_of (by omega) (by omega) (by omega)]
    simp only [Option.bind_some]
    rw [wI_id (by omega) (by omega), cut_of (by omega) (by omega) (by omega)]
    simp only [Option.bind_some]
    have e1 : (l.drop (0 : Int).toNat).take ((ix l tok : Int).toNat - (0 : Int).toNat) = l.take (ix l tok) := by simp
    have e2 : (l.drop ((ix l tok : Int) + 1).toNat).take ((l.length : Int).toNat - ((ix l tok : Int) + 1).toNat) = l.drop (ix l tok + 1) := by
      rw [show ((ix l tok : Int) + 1).toNat = ix l tok + 1 by omega, Int.toNat_natCast]
      exact List.take_of_length_le (by rw [List.length_drop]; exact Nat.le_refl _)
    rw [e1, e2]
    have e3 : [l.take (ix l tok), l.drop (ix l tok + 1)].flatten = delL l tok := by simp [delL]
    have hdl := del_len (l := l) (t := tok) hx.2.1
    rw [m19_slices_Concat_m _ (by rw [e3, hdl]; omega) (by simp), e3]
    simp only [Option.bind_some]
    have hff := fnd_del ok hx.2.1
    exact ⟨_, 0, rfl, fun _ => ⟨del_ok ok hx.2.1, (fun t ht => by rw [hff t, if_neg ht]), by rw [hff tok, if_pos rfl], hdl, by omega⟩, fun y h => by cases h; exact ⟨fun h => absurd h h1, fun _ => rfl⟩⟩

/-- One thing that is done. -/
def DidR (l : List E12) (o : GL12Act) (ts : Int) (l' : List E12) : Prop :=
  OkT l' ∧ (∀ t, t ≠ o.Tok → fnd l' t = fnd l t) ∧
    ((o.What = 0 ∨ o.What = 1) ∧ OpR l 0 o.Tok o.Attempt 0 l' ∨ (o.What = 2 ∨ o.What = 3) ∧ OpR l 2 o.Tok o.Attempt ts l' ∨ o.What = 4 ∧ OpR l 4 o.Tok o.Attempt 0 l' ∨ (o.What < 0 ∨ 4 < o.What))
theorem did_m {l : List E12} (ok : OkT l) (o : GL12Act) (ts : Int) : ∃ l' e, m8_l12_did ⟨l⟩ o ts = some (⟨l'⟩, e) ∧ (e = 0 → DidR l o ts l') := by
  obtain ⟨ls, es, h1, h2, _⟩ := Start_m ok o.Tok o.Attempt
  obtain ⟨lf, ef, h3, h4, _⟩ := Finish_m ok o.Tok o.Attempt ts
  obtain ⟨lc, nc, ec, h5, h6, _⟩ := Fence_m ok o.Tok o.Attempt
  obtain ⟨lr, er, h7, h8, _⟩ := Release_m ok o.Tok
  unfold m8_l12_did
  by_cases w0 : o.What = 0
  · rw [if_pos (decide_eq_true w0), decide_eq_true w0]
    unfold m8_l12_did_k3
    show ∃ l' e, (if true = true then (m12_tokens_Start ⟨l⟩ o.Tok o.Attempt).bind _ else _) = _ ∧ _
    rw [if_pos rfl, h1]
    exact ⟨ls, es, rfl, fun h => ⟨(h2 h).1, (h2 h).2.1, .inl ⟨.inl w0, h2 h⟩⟩⟩
  rw [if_neg (by simpa using w0)]
  by_cases w1 : o.What = 1
  · rw [decide_eq_true w1]
    unfold m8_l12_did_k3
    show ∃ l' e, (if true = true then (m12_tokens_Start ⟨l⟩ o.Tok o.Attempt).bind _ else _) = _ ∧ _
    rw [if_pos rfl, h1]
    exact ⟨ls, es, rfl, fun h => ⟨(h2 h).1, (h2 h).2.1, .inl ⟨.inr w1, h2 h⟩⟩⟩
  rw [decide_eq_false w1]
  unfold m8_l12_did_k3
  rw [if_neg (by simp)]
  by_cases w2 : o.What = 2
  · rw [if_pos (decide_eq_true w2), decide_eq_true w2]
    unfold m8_l12_did_k5
    show ∃ l' e, (if true = true then (m14_tokens_Finish ⟨l⟩ o.Tok o.Attempt ts).bind _ else _) = _ ∧ _
    rw [if_pos rfl, h3]
    exact ⟨lf, ef, rfl, fun h => ⟨(h4 h).1, (h4 h).2.1, .inr (.inl ⟨.inl w2, h4 h⟩)⟩⟩
  rw [if_neg (by simpa using w2)]
  by_cases w3 : o.What = 3
  · rw [decide_eq_true w3]
    unfold m8_l12_did_k5
    show ∃ l' e, (if true = true then (m14_tokens_Finish ⟨l⟩ o.Tok o.Attempt ts).bind _ else _) = _ ∧ _
    rw [if_pos rfl, h3]
    exact ⟨lf, ef, rfl, fun h => ⟨(h4 h).1, (h4 h).2.1, .inr (.inl ⟨.inr w3, h4 h⟩)⟩⟩
  rw [decide_eq_false w3]
  unfold m8_l12_did_k5
  rw [if_neg (by simp)]
  by_cases w4 : o.What = 4
  · rw [if_pos (decide_eq_true w4)]
    show ∃ l' e, (m11_tokens_Fence ⟨l⟩ o.Tok o.Attempt).bind _ = _ ∧ _
    rw [h5]
    exact ⟨lc, ec, rfl, fun h => ⟨(h6 h).1, (h6 h).2.1, .inr (.inr (.inl ⟨w4, h6 h⟩))⟩⟩
  rw [if_neg (by simpa using w4)]
  unfold m8_l12_did_k1
  show ∃ l' e, (m13_tokens_Release ⟨l⟩ o.Tok).bind _ = _ ∧ _
  rw [h7]
  exact ⟨lr, er, rfl, fun h => ⟨(h8 h).1, (h8 h).2.1, .inr (.inr (.inr (by omega)))⟩⟩
theorem ok_nil : OkT [] := ⟨fun x h => (by cases h), fun i j x y h => (by simp at h), by simp⟩
theorem awake12 : m7_l12_awake = some true := by decide +kernel
end Go.Proofs.Ytbaamfddahpemaa.Abs
