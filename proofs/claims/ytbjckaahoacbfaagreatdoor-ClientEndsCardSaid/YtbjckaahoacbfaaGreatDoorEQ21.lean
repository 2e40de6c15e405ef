/-
 What a client keeps is what may be; bytes; time.
-/
import Derived.Test.YtbjckaahoacbfaaGreatDoorEO21
set_option linter.unusedVariables false
set_option linter.unusedSimpArgs false
namespace Go.Proofs.YtbjckaahoacbfaaGreatDoor.Abs
open mg (Fu eR Ow)
theorem Rb (a b d : Int) : Bx a b d = some (decide (b ≤ a) && decide (a ≤ d)) := by
 unfold Bx
 cases decide (b ≤ a) <;> rfl
theorem wt {a b d : Int} (h1 : b ≤ a) (h2 : a ≤ d) : Bx a b d = some true := by
 rw [Rb, decide_eq_true h1, decide_eq_true h2]; rfl
theorem Akh : Gq pl = some true := by decide +kernel
theorem Aqe {l : List Int} {n : Nat} {c : Cl} (h : Inv l n c) : F8 c = some true := by
 unfold F8
 have hc : c.Cfg.Attempts = 3 := by rw [h.cfg]; rfl
 rw [wt h.ph.1 h.ph.2, Option.bind_some, if_pos rfl, wt h.ep.1 h.ep.2, Option.bind_some, if_pos rfl, wt h.sq.1 h.sq.2, Option.bind_some, if_pos rfl, hc, wt h.at_.1 h.at_.2, Option.bind_some, if_pos rfl,
  if_pos (decide_eq_true h.se.1), if_pos (decide_eq_true h.le.1), wt h.re.1 h.re.2]
 rfl
theorem Yk (xs : List Av) (tok : Int) (hl : xs.length ≤ 1000) : Ff xs tok = some (if xs.findIdx (fun t => decide (t.Token = tok)) < xs.length then (xs.findIdx (fun t => decide (t.Token = tok)) : Int) else -1) := by
 unfold Ff
 obtain ⟨v, hv, hr⟩ := Oq (f := G9 xs tok) (P := fun s => ∃ i : Nat, s = (i : Int) ∧ i ≤ xs.length ∧ ∀ j (hj : j < xs.length), j < i → (xs[j]).Token ≠ tok) (μ := fun s => xs.length - s.toNat)
  (R := fun r => match r with
   | .inl k => ∃ i : Nat, k = (i : Int) ∧ ∃ hi : i < xs.length, (xs[i]).Token = tok ∧ ∀ j (hj : j < xs.length), j < i → (xs[j]).Token ≠ tok
   | .inr _ => ∀ j (hj : j < xs.length), (xs[j]).Token ≠ tok) (by
  rintro _ ⟨i, rfl, hi, hb⟩
  unfold G9
  rcases Nat.lt_or_ge i xs.length with hlt | hge
  ·rw [if_pos (decide_eq_true (by omega)), Gy, List.getElem?_eq_getElem hlt, Option.bind_some]
   by_cases he : (xs[i]).Token = tok
   ·right; right
    rw [if_pos (decide_eq_true he)]
    exact ⟨_, rfl, i, rfl, hlt, he, hb⟩
   ·left
    rw [if_neg (by rw [decide_eq_true_eq]; exact he), Dx (by omega) (by omega)]
    refine ⟨_, rfl, ⟨i + 1, rfl, hlt, fun j hj hji => ?_⟩, by omega⟩
    rcases Nat.lt_or_ge j i with h | h
    ·exact hb j hj h
    ·have : j = i := by omega
     subst this; exact he
  ·right; left
   rw [if_neg (by rw [decide_eq_true_eq]; omega)]
   exact ⟨_, rfl, fun j hj => hb j hj (by omega)⟩) fuel 0 ⟨0, rfl, Nat.zero_le _, fun j hj h => by omega⟩ (Hj (by show xs.length - 0 ≤ _; omega))
 rw [hv, Option.bind_some]
 rcases v with k | u
 ·obtain ⟨i, rfl, hi, he, hb⟩ := hr
  have hf : xs.findIdx (fun t => decide (t.Token = tok)) = i := by
   rw [List.findIdx_eq hi]
   exact ⟨decide_eq_true he, fun j hj => decide_eq_false (hb j (by omega) hj)⟩
  rw [hf, if_pos hi]
 ·have hr : ∀ j (hj : j < xs.length), (xs[j]).Token ≠ tok := hr
  have hf : ¬ xs.findIdx (fun t => decide (t.Token = tok)) < xs.length := fun h => by
   have := List.findIdx_getElem (w := h)
   exact hr _ h (of_decide_eq_true this)
  rw [if_neg hf]
  rfl
theorem Ahr {xs : List Av} (hl : xs.length ≤ 1000) (hn : (xs.map (·.Token)).Nodup) {i : Nat} (hi : i < xs.length) : Ff xs (xs[i]).Token = some (i : Int) := by
 have hf : xs.findIdx (fun t => decide (t.Token = (xs[i]).Token)) = i := by
  rw [List.findIdx_eq hi]
  refine ⟨decide_eq_true rfl, fun j hj => decide_eq_false fun he => ?_⟩
  have := List.pairwise_iff_getElem.1 hn j i (by simp; omega) (by simpa using hi) hj
  simp at this
  exact this he
 rw [Yk _ _ hl, hf, if_pos hi]
theorem Zw {xs : List Av} (hl : xs.length ≤ 1000) {tok : Int} (hn : ∀ t ∈ xs, t.Token ≠ tok) : Ff xs tok = some (-1) := by
 rw [Yk _ _ hl, if_neg fun h => by
  have := List.findIdx_getElem (w := h)
  exact hn _ (List.getElem_mem h) (of_decide_eq_true this)]
theorem Amy {xs : List Av} (hl : xs.length ≤ 8) (hn : (xs.map (·.Token)).Nodup) (ht : ∀ t ∈ xs, TS t) : Hg xs = some true := by
 unfold Hg
 obtain ⟨v, hv, hr⟩ := Oq (f := Fl xs) (P := fun s => ∃ i : Nat, s = (i : Int) ∧ i ≤ xs.length) (μ := fun s => xs.length - s.toNat)
  (R := fun r => match r with
   | .inl _ => False
   | .inr _ => True) (by
  rintro _ ⟨i, rfl, hi⟩
  unfold Fl
  rcases Nat.lt_or_ge i xs.length with hlt | hge
  ·left
   rw [if_pos (decide_eq_true (by omega)), Gy, List.getElem?_eq_getElem hlt, Option.bind_some, (ht _ (List.getElem_mem hlt)).1, Option.bind_some, if_neg (by decide), Ahr (by omega) hn hlt, Option.bind_some,
    decide_eq_true rfl, if_neg (by decide), Dx (by omega) (by omega)]
   exact ⟨_, rfl, ⟨i + 1, rfl, hlt⟩, by omega⟩
  ·right; left
   rw [if_neg (by rw [decide_eq_true_eq]; omega)]
   exact ⟨_, rfl, trivial⟩) fuel 0 ⟨0, rfl, Nat.zero_le _⟩ (Hj (by show xs.length - 0 ≤ _; omega))
 rw [hv, Option.bind_some]
 rcases v with k | u
 ·exact hr.elim
 ·show some (decide _) = _
  rw [decide_eq_true (by omega)]
theorem Aop {l : List Int} {n : Nat} {c : Cl} (h : Inv l n c) : Hv c = some true := by
 unfold Hv
 have hp := h.ph
 rw [Rb, Option.bind_some]
 by_cases h1 : 3 ≤ c.Phase ∧ c.Phase ≤ 10
 ·have hw := h.wk h1.1 h1.2
  have := List.length_pos_iff.2 hw.1
  rw [decide_eq_true h1.1, decide_eq_true h1.2, if_pos (by rfl), if_pos (decide_eq_true (by omega)), decide_eq_true hw.2]
 ·rw [if_neg (by simp; omega)]
  by_cases h0 : c.Phase = 0 ∨ c.Phase = 11
  ·rw [if_pos (decide_eq_true (by rw [h.wi h0]; rfl))]
  ·split
   ·rfl
   ·rw [decide_eq_false (p := c.Phase = 0) (by omega), if_pos (by rfl), decide_eq_false (p := c.Phase = 11) (by omega)]
    rfl
theorem Agi {b : List UInt8} {d : Int} (h : Rj b d = true) : b.length ≤ 600 := by
 unfold Rj at h
 split at h
 ·have := of_decide_eq_true h; omega
 split at h
 ·cases h
 ·have h := of_decide_eq_true h
  unfold opn at h
  split at h
  ·omega
  split at h
  ·exact absurd h (by decide)
  split at h
  ·omega
  split at h
  ·exact absurd h (by decide)
  ·exact absurd (show (0 : Int) = 2 from h) (by decide)
theorem Qw {l : List Int} {n : Nat} {c : Cl} (h : Inv l n c) : Ex c = some true := by
 unfold Ex
 have ho := h.ou
 rw [h.cfg, Akh, Option.bind_some, if_pos rfl, Aqe h, Option.bind_some, if_pos rfl, Amy h.tk.1 h.tk.2 (fun t ht => (h.ts t ht).1), Option.bind_some, if_pos rfl, Aop h, Option.bind_some, if_pos rfl]
 have hs : Gv c.In = some true := by rw [Aco _ (by have := Agi h.st; omega), h.st]
 have ha : Cn c.Phase = some (decide ((2 ≤ c.Phase ∧ c.Phase ≤ 7) ∨ c.Phase = 9)) := by
  unfold Cn
  rw [Rb, Option.bind_some]
  by_cases h1 : 2 ≤ c.Phase <;> by_cases h2 : c.Phase ≤ 7 <;> simp [h1, h2]
 rw [ha, Option.bind_some]
 by_cases hp : (2 ≤ c.Phase ∧ c.Phase ≤ 7) ∨ c.Phase = 9
 ·rw [decide_eq_true hp, if_neg (by decide), mg.saneReq_m, h.rq hp, Option.bind_some, if_pos rfl, hs, Option.bind_some, if_pos rfl, decide_eq_true (by omega)]
 ·rw [decide_eq_false hp, if_pos (by rfl), hs, Option.bind_some, if_pos rfl, decide_eq_true (by omega)]
theorem Zz (p : Int) : Fp p = some (decide (p = 1 ∨ p = 11)) := by
 unfold Fp
 by_cases h : p = 1 <;> simp [h]
def W4 (s : Bn) (b : List UInt8) : Bn × List (List UInt8) × Int := (D7 s b).getD (s, [], 0)
theorem An9 {s : Bn} {b : List UInt8} (hs : Rj s.Buf s.Dead = true) (hb : b.length ≤ 1000) : D7 s b = some (W4 s b) ∧ Rj (W4 s b).1.Buf (W4 s b).1.Dead = true ∧ (W4 s b).2.1.length ≤ 2000 ∧ ∀ p ∈ (W4 s b).2.1, p.length ≤ 512 := by
 have hl := Agi hs
 unfold W4
 by_cases h0 : s.Dead = 0
 ·obtain ⟨l, r, e, ha⟩ := Ams (s.Buf ++ b) (by rw [List.length_append]; omega)
  rw [Ap9 s b hs h0 (by omega) ha]
  have hl2 := (Aft ha).1
  rw [List.length_append] at hl2
  exact ⟨rfl, Ag2 ha, by show l.length ≤ 2000; omega, ha.2.1⟩
 ·rw [Afd s b hs h0 (by omega)]
  exact ⟨rfl, hs, Nat.zero_le _, fun p hp => by cases hp⟩
def Akj (c : Cl) (p : List UInt8) : Cl := if c.Phase = 1 ∨ c.Phase = 11 then c else Ahe c p
def Atj (e : Int) (c : Cl) : Cl := if e ≠ 0 ∧ ¬ (c.Phase = 1 ∨ c.Phase = 11) then Wa c else c
def Ae7 (c : Cl) (b : List UInt8) : Cl := if c.Phase = 1 ∨ c.Phase = 11 then c else Atj (W4 c.In b).2.2 ((W4 c.In b).2.1.foldl Akj {c with In := (W4 c.In b).1})
theorem Inv.eat {l : List Int} {n : Nat} {c : Cl} (h : Inv l n c) (hn : n + 1 ≤ 1000000) (b : List UInt8) (hb : b.length ≤ 1000000) : Inv l (n + 1) (Akj c b) := by
 unfold Akj
 split
 ·exact h.up (by omega) hn
 ·exact h.take (by omega) hn b hb
theorem Inv.eats {l : List Int} : ∀ (ps : List (List UInt8)) {n : Nat} {c : Cl}, Inv l n c → n + ps.length ≤ 1000000 → (∀ p ∈ ps, p.length ≤ 512) → Inv l (n + ps.length) (ps.foldl Akj c)
 | [], _, _, h, _, _ => h
 | p :: ps, n, c, h, hn, hp => by
  have hn' : n + (ps.length + 1) ≤ 1000000 := hn
  have h1 := h.eat (by omega) p (by have := hp p (List.mem_cons_self ..); omega)
  have h2 := Inv.eats ps h1 (by omega) (fun q hq => hp q (List.mem_cons_of_mem _ hq))
  rw [show n + (p :: ps).length = n + 1 + ps.length from by simp; omega]
  exact h2
theorem Akw {v : Bn × List (List UInt8) × Int} {l : List Int} (hp : ∀ p ∈ v.2.1, p.length ≤ 512) (hl : v.2.1.length ≤ 2000) : ∀ (k i : Nat) (m n : Nat) (c : Cl), i + k = v.2.1.length → k < m → Inv l n c → n + k ≤ 1000000 →
  Ez (El v) m ((i : Int), c) = some ((v.2.1.drop i).foldl Akj c)
 | 0, i, m, n, c, hi, hm, h, hn => by
  obtain ⟨m, rfl⟩ : ∃ k, m = k + 1 := ⟨m - 1, by omega⟩
  rw [Ez, show El v ((i : Int), c) = some (.brk c) from by
   unfold El
   dsimp only
   rw [if_neg (by rw [decide_eq_true_eq]; omega)], List.drop_of_length_le (by omega)]
  rfl
 | k + 1, i, m, n, c, hi, hm, h, hn => by
  obtain ⟨m, rfl⟩ : ∃ k, m = k + 1 := ⟨m - 1, by omega⟩
  have hlt : i < v.2.1.length := by omega
  have hpl := hp _ (List.getElem_mem hlt)
  rw [Ez, show El v ((i : Int), c) = some (.cont (((i + 1 : Nat) : Int), Akj c (v.2.1[i]))) from by
   unfold El Akj
   dsimp only
   rw [if_pos (decide_eq_true (by omega)), Gy, List.getElem?_eq_getElem hlt, Option.bind_some, Zz, Option.bind_some, Dx (by omega) (by omega)]
   by_cases hg : c.Phase = 1 ∨ c.Phase = 11
   ·rw [decide_eq_true hg, if_neg (by decide), if_pos hg]; rfl
   ·rw [decide_eq_false hg, if_pos (by rfl), if_neg hg, Am8 h _ (by omega), Option.bind_some]; rfl]
  dsimp only
  rw [Akw hp hl k (i + 1) m (n + 1) _ (by omega) (by omega) (h.eat (by omega) _ (by omega)) (by omega), List.drop_eq_getElem_cons hlt]
  rfl
theorem Inv.inS {l : List Int} {n : Nat} {c : Cl} (h : Inv l n c) {s : Bn} (hs : Rj s.Buf s.Dead = true) : Inv l n {c with In := s} :=
 ⟨⟨h.cfg, h.ep, h.sq, h.at_, h.se, h.le, h.re, h.tk, h.ts, hs, h.ou, h.ll, h.dc, h.tr, h.nb, h.lb⟩, h.ph, h.wk, h.wi, h.rq, h.du⟩
theorem Aj6 {l : List Int} {n : Nat} {c : Cl} (h : Inv l n c) (hn : n + 2000 ≤ 1000000) (b : List UInt8) (hb : b.length ≤ 1000) : Ht c b = some (Ae7 c b) ∧ Inv l (n + 2000) (Ae7 c b) := by
 unfold Ht Ae7
 rw [Qw h, Option.bind_some, if_neg (by decide), Zz, Option.bind_some]
 by_cases hg : c.Phase = 1 ∨ c.Phase = 11
 ·rw [decide_eq_true hg, if_pos rfl, if_pos hg]
  exact ⟨rfl, h.up (by omega) hn⟩
 rw [decide_eq_false hg, if_neg (by decide), if_neg hg]
 obtain ⟨f1, f2, f3, f4⟩ := An9 h.st hb
 rw [f1, Option.bind_some]
 generalize W4 c.In b = v at f2 f3 f4 ⊢
 have hi := h.inS f2
 have he := Akw f4 f3 v.2.1.length 0 fuel n {c with In := v.1} (by omega) (Hj (by omega)) hi (by omega)
 rw [show ((0 : Nat) : Int) = 0 from rfl, List.drop_zero] at he
 rw [he, Option.bind_some]
 have hk := Inv.eats v.2.1 hi (by omega) f4
 generalize v.2.1.foldl Akj {c with In := v.1} = d at hk ⊢
 unfold Kg Atj
 rw [nd]
 have hk2 := hk.up (m := n + 2000) (by omega) hn
 by_cases e0 : v.2.2 ≠ 0
 ·rw [if_pos (decide_eq_true e0), Zz, Option.bind_some]
  by_cases hg2 : d.Phase = 1 ∨ d.Phase = 11
  ·rw [decide_eq_true hg2, if_neg (by decide), if_neg (fun h => h.2 hg2)]
   exact ⟨rfl, hk2⟩
  ·rw [decide_eq_false hg2, if_pos (by rfl), if_pos ⟨e0, hg2⟩, Aau hk.fit (fun h9 => (hk.wk (by omega) (by omega)).1), Option.bind_some]
   exact ⟨rfl, hk2.lose (by omega)⟩
 ·rw [if_neg (by rw [decide_eq_true_eq]; exact e0), if_neg (fun h => e0 h.1)]
  exact ⟨rfl, hk2⟩
end Go.Proofs.YtbjckaahoacbfaaGreatDoor.Abs
