/-
 What a client keeps is what may be; bytes; time.
-/
import Derived.Test.YtbjckaahoacbfaaGreatDoorO21
set_option linter.unusedVariables false
set_option linter.unusedSimpArgs false
namespace Go.Proofs.YtbjckaahoacbfaaGreatDoor.Abs
open mg (F5 eR Pf)
theorem Tn (a b d : Int) : Bx a b d = some (decide (b ≤ a) && decide (a ≤ d)) := by
 unfold Bx
 cases decide (b ≤ a) <;> rfl
theorem wt {a b d : Int} (h1 : b ≤ a) (h2 : a ≤ d) : Bx a b d = some true := by
 rw [Tn, decide_eq_true h1, decide_eq_true h2]; rfl
theorem Akg : Gx pl = some true := by decide +kernel
theorem Ao5 {l : List Int} {n : Nat} {c : Cl} (h : Inv l n c) : Gb c = some true := by
 unfold Gb
 have hc : c.Cfg.Attempts = 3 := by rw [h.cfg]; rfl
 rw [wt h.ph.1 h.ph.2, Option.bind_some, if_pos rfl, wt h.ep.1 h.ep.2, Option.bind_some, if_pos rfl, wt h.sq.1 h.sq.2, Option.bind_some, if_pos rfl, hc, wt h.at_.1 h.at_.2, Option.bind_some, if_pos rfl,
  if_pos (decide_eq_true h.se), if_pos (decide_eq_true h.le), wt h.re.1 h.re.2]
 rfl
theorem Ym (xs : List Aw) (tok : Int) (hl : xs.length ≤ 1000) : Ff xs tok = some (if xs.findIdx (fun t => decide (t.Token = tok)) < xs.length then (xs.findIdx (fun t => decide (t.Token = tok)) : Int) else -1) := by
 unfold Ff
 obtain ⟨v, hv, hr⟩ := O1 (f := Hd xs tok) (P := fun s => ∃ i : Nat, s = (i : Int) ∧ i ≤ xs.length ∧ ∀ j (hj : j < xs.length), j < i → (xs[j]).Token ≠ tok) (μ := fun s => xs.length - s.toNat)
  (R := fun r => match r with
   | .inl k => ∃ i : Nat, k = (i : Int) ∧ ∃ hi : i < xs.length, (xs[i]).Token = tok ∧ ∀ j (hj : j < xs.length), j < i → (xs[j]).Token ≠ tok
   | .inr _ => ∀ j (hj : j < xs.length), (xs[j]).Token ≠ tok) (by
  rintro _ ⟨i, rfl, hi, hb⟩
  unfold Hd
  rcases Nat.lt_or_ge i xs.length with hlt | hge
  ·rw [if_pos (decide_eq_true (by omega)), F4, List.getElem?_eq_getElem hlt, Option.bind_some]
   by_cases he : (xs[i]).Token = tok
   ·right; right
    rw [if_pos (decide_eq_true he)]
    exact ⟨_, rfl, i, rfl, hlt, he, hb⟩
   ·left
    rw [if_neg (by rw [decide_eq_true_eq]; exact he), Dj (by omega) (by omega)]
    refine ⟨_, rfl, ⟨i + 1, rfl, hlt, fun j hj hji => ?_⟩, by omega⟩
    rcases Nat.lt_or_ge j i with h | h
    ·exact hb j hj h
    ·have : j = i := by omega
     subst this; exact he
  ·right; left
   rw [if_neg (by rw [decide_eq_true_eq]; omega)]
   exact ⟨_, rfl, fun j hj => hb j hj (by omega)⟩) Di 0 ⟨0, rfl, Nat.zero_le _, fun j hj h => by omega⟩ (Hh (by show xs.length - 0 ≤ _; omega))
 rw [hv, Option.bind_some]
 rcases v with k | u
 ·obtain ⟨i, rfl, hi, he, hb⟩ := hr
  have hf : xs.findIdx (fun t => decide (t.Token = tok)) = i := by
   rw [List.findIdx_eq hi]
   exact ⟨decide_eq_true he, fun j hj => decide_eq_false (hb j (by omega) hj)⟩
  rw [hf, if_pos hi]
 ·have hr : ∀ j (hj : j < xs.length), (xs[j]).Token ≠ tok := hr
  have hf : ¬ xs.findIdx (fun t => decide (t.Token = tok)) < xs.length := fun h => by
   have := List.findIdx_getElem (w := h)
   exact hr _ h (of_decide_eq_true this)
  rw [if_neg hf]
  rfl
theorem Aht {xs : List Aw} (hl : xs.length ≤ 1000) (hn : (xs.map (·.Token)).Nodup) {i : Nat} (hi : i < xs.length) : Ff xs (xs[i]).Token = some (i : Int) := by
 have hf : xs.findIdx (fun t => decide (t.Token = (xs[i]).Token)) = i := by
  rw [List.findIdx_eq hi]
  refine ⟨decide_eq_true rfl, fun j hj => decide_eq_false fun he => ?_⟩
  have := List.pairwise_iff_getElem.1 hn j i (by simp; omega) (by simpa using hi) hj
  simp at this
  exact this he
 rw [Ym _ _ hl, hf, if_pos hi]
theorem Z9 {xs : List Aw} (hl : xs.length ≤ 1000) {tok : Int} (hn : ∀ t ∈ xs, t.Token ≠ tok) : Ff xs tok = some (-1) := by
 rw [Ym _ _ hl, if_neg fun h => by
  have := List.findIdx_getElem (w := h)
  exact hn _ (List.getElem_mem h) (of_decide_eq_true this)]
theorem Alf {xs : List Aw} (hl : xs.length ≤ 8) (hn : (xs.map (·.Token)).Nodup) (ht : ∀ t ∈ xs, TS t) : Hg xs = some true := by
 unfold Hg
 obtain ⟨v, hv, hr⟩ := O1 (f := Fq xs) (P := fun s => ∃ i : Nat, s = (i : Int) ∧ i ≤ xs.length) (μ := fun s => xs.length - s.toNat)
  (R := fun r => match r with
   | .inl _ => False
   | .inr _ => True) (by
  rintro _ ⟨i, rfl, hi⟩
  unfold Fq
  rcases Nat.lt_or_ge i xs.length with hlt | hge
  ·left
   rw [if_pos (decide_eq_true (by omega)), F4, List.getElem?_eq_getElem hlt, Option.bind_some, (ht _ (List.getElem_mem hlt)).1, Option.bind_some, if_neg (by decide), Aht (by omega) hn hlt, Option.bind_some,
    decide_eq_true rfl, if_neg (by decide), Dj (by omega) (by omega)]
   exact ⟨_, rfl, ⟨i + 1, rfl, hlt⟩, by omega⟩
  ·right; left
   rw [if_neg (by rw [decide_eq_true_eq]; omega)]
   exact ⟨_, rfl, trivial⟩) Di 0 ⟨0, rfl, Nat.zero_le _⟩ (Hh (by show xs.length - 0 ≤ _; omega))
 rw [hv, Option.bind_some]
 rcases v with k | u
 ·exact hr.elim
 ·show some (decide _) = _
  rw [decide_eq_true (by omega)]
theorem Aoy {l : List Int} {n : Nat} {c : Cl} (h : Inv l n c) : Hv c = some true := by
 unfold Hv
 have hp := h.ph
 rw [Tn, Option.bind_some]
 by_cases h1 : 3 ≤ c.Phase ∧ c.Phase ≤ 10
 ·have hw := h.wk h1.1 h1.2
  have := List.length_pos_iff.2 hw.1
  rw [decide_eq_true h1.1, decide_eq_true h1.2, if_pos (by rfl), if_pos (decide_eq_true (by omega)), decide_eq_true hw.2]
 ·rw [if_neg (by simp; omega)]
  by_cases h0 : c.Phase = 0 ∨ c.Phase = 11
  ·rw [if_pos (decide_eq_true (by rw [h.wi h0]; rfl))]
  ·split
   ·rfl
   ·rw [decide_eq_false (p := c.Phase = 0) (by omega), if_pos (by rfl), decide_eq_false (p := c.Phase = 11) (by omega)]
    rfl
theorem Afm {b : List UInt8} {d : Int} (h : R8 b d = true) : b.length ≤ 600 := by
 unfold R8 at h
 split at h
 ·have := of_decide_eq_true h; omega
 split at h
 ·cases h
 ·have h := of_decide_eq_true h
  unfold opn at h
  split at h
  ·omega
  split at h
  ·exact absurd h (by decide)
  split at h
  ·omega
  split at h
  ·exact absurd h (by decide)
  ·exact absurd (show (0 : Int) = 2 from h) (by decide)
theorem Rb {l : List Int} {n : Nat} {c : Cl} (h : Inv l n c) : D6 c = some true := by
 unfold D6
 have ho := h.ou
 rw [h.cfg, Akg, Option.bind_some, if_pos rfl, Ao5 h, Option.bind_some, if_pos rfl, Alf h.tk.1 h.tk.2 (fun t ht => (h.ts t ht).1), Option.bind_some, if_pos rfl, Aoy h, Option.bind_some, if_pos rfl]
 have hs : G1 c.In = some true := by rw [Acu _ (by have := Afm h.st; omega), h.st]
 have ha : Cn c.Phase = some (decide ((2 ≤ c.Phase ∧ c.Phase ≤ 7) ∨ c.Phase = 9)) := by
  unfold Cn
  rw [Tn, Option.bind_some]
  by_cases h1 : 2 ≤ c.Phase <;> by_cases h2 : c.Phase ≤ 7 <;> simp [h1, h2]
 rw [ha, Option.bind_some]
 by_cases hp : (2 ≤ c.Phase ∧ c.Phase ≤ 7) ∨ c.Phase = 9
 ·rw [decide_eq_true hp, if_neg (by decide), mg.saneReq_m, h.rq hp, Option.bind_some, if_pos rfl, hs, Option.bind_some, if_pos rfl, decide_eq_true (by omega)]
 ·rw [decide_eq_false hp, if_pos (by rfl), hs, Option.bind_some, if_pos rfl, decide_eq_true (by omega)]
theorem Zc (p : Int) : Fu p = some (decide (p = 1 ∨ p = 11)) := by
 unfold Fu
 by_cases h : p = 1 <;> simp [h]
def W8 (s : Bm) (b : List UInt8) : Bm × List (List UInt8) × Int := (D7 s b).getD (s, [], 0)
theorem Ap4 {s : Bm} {b : List UInt8} (hs : R8 s.Buf s.Dead = true) (hb : b.length ≤ 1000) : D7 s b = some (W8 s b) ∧ R8 (W8 s b).1.Buf (W8 s b).1.Dead = true ∧ (W8 s b).2.1.length ≤ 2000 ∧ ∀ p ∈ (W8 s b).2.1, p.length ≤ 512 := by
 have hl := Afm hs
 unfold W8
 by_cases h0 : s.Dead = 0
 ·obtain ⟨l, r, e, ha⟩ := Anl (s.Buf ++ b) (by rw [List.length_append]; omega)
  rw [Apv s b hs h0 (by omega) ha]
  have hl2 := (Aga ha).1
  rw [List.length_append] at hl2
  exact ⟨rfl, Afs ha, by show l.length ≤ 2000; omega, ha.2.1⟩
 ·rw [Afk s b hs h0 (by omega)]
  exact ⟨rfl, hs, Nat.zero_le _, fun p hp => by cases hp⟩
def Akj (c : Cl) (p : List UInt8) : Cl := if c.Phase = 1 ∨ c.Phase = 11 then c else Af4 c p
def Atz (e : Int) (c : Cl) : Cl := if e ≠ 0 ∧ ¬ (c.Phase = 1 ∨ c.Phase = 11) then Yy c else c
def Agj (c : Cl) (b : List UInt8) : Cl := if c.Phase = 1 ∨ c.Phase = 11 then c else Atz (W8 c.In b).2.2 ((W8 c.In b).2.1.foldl Akj {c with In := (W8 c.In b).1})
theorem Inv.eat {l : List Int} {n : Nat} {c : Cl} (h : Inv l n c) (hn : n + 1 ≤ 1000000) (b : List UInt8) (hb : b.length ≤ 1000000) : Inv l (n + 1) (Akj c b) := by
 unfold Akj
 split
 ·exact h.up (by omega) hn
 ·exact h.take (by omega) hn b hb
theorem Inv.eats {l : List Int} : ∀ (ps : List (List UInt8)) {n : Nat} {c : Cl}, Inv l n c → n + ps.length ≤ 1000000 → (∀ p ∈ ps, p.length ≤ 512) → Inv l (n + ps.length) (ps.foldl Akj c)
 | [], _, _, h, _, _ => h
 | p :: ps, n, c, h, hn, hp => by
  have hn' : n + (ps.length + 1) ≤ 1000000 := hn
  have h1 := h.eat (by omega) p (by have := hp p (List.mem_cons_self ..); omega)
  have h2 := Inv.eats ps h1 (by omega) (fun q hq => hp q (List.mem_cons_of_mem _ hq))
  rw [show n + (p :: ps).length = n + 1 + ps.length from by simp; omega]
  exact h2
theorem Ak1 {v : Bm × List (List UInt8) × Int} {l : List Int} (hp : ∀ p ∈ v.2.1, p.length ≤ 512) (hl : v.2.1.length ≤ 2000) : ∀ (k i : Nat) (m n : Nat) (c : Cl), i + k = v.2.1.length → k < m → Inv l n c → n + k ≤ 1000000 →
  E4 (Ep v) m ((i : Int), c) = some ((v.2.1.drop i).foldl Akj c)
 | 0, i, m, n, c, hi, hm, h, hn => by
  obtain ⟨m, rfl⟩ : ∃ k, m = k + 1 := ⟨m - 1, by omega⟩
  rw [E4, show Ep v ((i : Int), c) = some (.brk c) from by
   unfold Ep
   dsimp only
   rw [if_neg (by rw [decide_eq_true_eq]; omega)], List.drop_of_length_le (by omega)]
  rfl
 | k + 1, i, m, n, c, hi, hm, h, hn => by
  obtain ⟨m, rfl⟩ : ∃ k, m = k + 1 := ⟨m - 1, by omega⟩
  have hlt : i < v.2.1.length := by omega
  have hpl := hp _ (List.getElem_mem hlt)
  rw [E4, show Ep v ((i : Int), c) = some (.cont (((i + 1 : Nat) : Int), Akj c (v.2.1[i]))) from by
   unfold Ep Akj
   dsimp only
   rw [if_pos (decide_eq_true (by omega)), F4, List.getElem?_eq_getElem hlt, Option.bind_some, Zc, Option.bind_some, Dj (by omega) (by omega)]
   by_cases hg : c.Phase = 1 ∨ c.Phase = 11
   ·rw [decide_eq_true hg, if_neg (by decide), if_pos hg]; rfl
   ·rw [decide_eq_false hg, if_pos (by rfl), if_neg hg, Al2 h _ (by omega), Option.bind_some]; rfl]
  dsimp only
  rw [Ak1 hp hl k (i + 1) m (n + 1) _ (by omega) (by omega) (h.eat (by omega) _ (by omega)) (by omega), List.drop_eq_getElem_cons hlt]
  rfl
theorem Inv.inS {l : List Int} {n : Nat} {c : Cl} (h : Inv l n c) {s : Bm} (hs : R8 s.Buf s.Dead = true) : Inv l n {c with In := s} :=
 ⟨⟨h.cfg, h.ep, h.sq, h.at_, h.se, h.le, h.re, h.tk, h.ts, hs, h.ou, h.ll, h.dc, h.tr, h.nb, h.lb⟩, h.ph, h.wk, h.wi, h.rq, h.du⟩
theorem Akc {l : List Int} {n : Nat} {c : Cl} (h : Inv l n c) (hn : n + 2000 ≤ 1000000) (b : List UInt8) (hb : b.length ≤ 1000) : Ht c b = some (Agj c b) ∧ Inv l (n + 2000) (Agj c b) := by
 unfold Ht Agj
 rw [Rb h, Option.bind_some, if_neg (by decide), Zc, Option.bind_some]
 by_cases hg : c.Phase = 1 ∨ c.Phase = 11
 ·rw [decide_eq_true hg, if_pos rfl, if_pos hg]
  exact ⟨rfl, h.up (by omega) hn⟩
 rw [decide_eq_false hg, if_neg (by decide), if_neg hg]
 obtain ⟨f1, f2, f3, f4⟩ := Ap4 h.st hb
 rw [f1, Option.bind_some]
 generalize W8 c.In b = v at f2 f3 f4 ⊢
 have hi := h.inS f2
 have he := Ak1 f4 f3 v.2.1.length 0 Di n {c with In := v.1} (by omega) (Hh (by omega)) hi (by omega)
 rw [show ((0 : Nat) : Int) = 0 from rfl, List.drop_zero] at he
 rw [he, Option.bind_some]
 have hk := Inv.eats v.2.1 hi (by omega) f4
 generalize v.2.1.foldl Akj {c with In := v.1} = d at hk ⊢
 unfold Kf Atz
 rw [nd]
 have hk2 := hk.up (m := n + 2000) (by omega) hn
 by_cases e0 : v.2.2 ≠ 0
 ·rw [if_pos (decide_eq_true e0), Zc, Option.bind_some]
  by_cases hg2 : d.Phase = 1 ∨ d.Phase = 11
  ·rw [decide_eq_true hg2, if_neg (by decide), if_neg (fun h => h.2 hg2)]
   exact ⟨rfl, hk2⟩
  ·rw [decide_eq_false hg2, if_pos (by rfl), if_pos ⟨e0, hg2⟩, Z5 hk.fit (fun h9 => (hk.wk (by omega) (by omega)).1), Option.bind_some]
   exact ⟨rfl, hk2.lose (by omega)⟩
 ·rw [if_neg (by rw [decide_eq_true_eq]; exact e0), if_neg (fun h => e0 h.1)]
  exact ⟨rfl, hk2⟩
end Go.Proofs.YtbjckaahoacbfaaGreatDoor.Abs
