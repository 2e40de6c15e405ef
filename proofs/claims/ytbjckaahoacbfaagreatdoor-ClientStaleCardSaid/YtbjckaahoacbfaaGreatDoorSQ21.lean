/- . -/
import Derived.Test.YtbjckaahoacbfaaGreatDoorSO21
namespace Go.Proofs.YtbjckaahoacbfaaGreatDoor.Abs
open mg (F2 eR Qf)
theorem Tx (a b d : Int) : B1 a b d = some (decide (b ≤ a) && decide (a ≤ d)) := by
 unfold B1
 cases decide (b ≤ a) <;> rfl
theorem wt {a b d : Int} (h1 : b ≤ a) (h2 : a ≤ d) : B1 a b d = some true := by
 rw [Tx, decide_eq_true h1, decide_eq_true h2]; rfl
theorem Ao1 : Hl pl = some true := by decide +kernel
theorem Aux {l : List Int} {n : Nat} {c : Cl} (h : Inv l n c) : Gw c = some true := by
 unfold Gw
 have hc : c.Cfg.Attempts = 3 := by rw [h.cfg]; rfl
 rw [wt h.ph.1 h.ph.2, Option.bind_some, if_pos rfl, wt h.ep.1 h.ep.2, Option.bind_some, if_pos rfl, wt h.sq.1 h.sq.2, Option.bind_some, if_pos rfl, hc, wt h.at_.1 h.at_.2, Option.bind_some, if_pos rfl,
  if_pos (decide_eq_true h.se.1), if_pos (decide_eq_true h.le.1), wt h.re.1 h.re.2]
 rfl
theorem Aba (xs : List Am) (tok : Int) (hl : xs.length ≤ 1000) : F0 xs tok = some (if xs.findIdx (fun t => decide (t.Token = tok)) < xs.length then (xs.findIdx (fun t => decide (t.Token = tok)) : Int) else -1) := by
 unfold F0
 obtain ⟨v, hv, hr⟩ := Rx (f := Hw xs tok) (P := fun s => ∃ i : Nat, s = (i : Int) ∧ i ≤ xs.length ∧ ∀ j (hj : j < xs.length), j < i → (xs[j]).Token ≠ tok) (μ := fun s => xs.length - s.toNat)
  (R := fun r => match r with
   | .inl k => ∃ i : Nat, k = (i : Int) ∧ ∃ hi : i < xs.length, (xs[i]).Token = tok ∧ ∀ j (hj : j < xs.length), j < i → (xs[j]).Token ≠ tok
   | .inr _ => ∀ j (hj : j < xs.length), (xs[j]).Token ≠ tok) (by
  rintro _ ⟨i, rfl, hi, hb⟩
  unfold Hw
  rcases Nat.lt_or_ge i xs.length with hlt | hge
  ·rw [if_pos (decide_eq_true (by omega)), Ed, List.getElem?_eq_getElem hlt, Option.bind_some]
   by_cases he : (xs[i]).Token = tok
   ·right; right
    rw [if_pos (decide_eq_true he)]
    exact ⟨_, rfl, i, rfl, hlt, he, hb⟩
   ·left
    rw [if_neg (by rw [decide_eq_true_eq]; exact he), Dl (by omega) (by omega)]
    refine ⟨_, rfl, ⟨i + 1, rfl, hlt, fun j hj hji => ?_⟩, by omega⟩
    rcases Nat.lt_or_ge j i with h | h
    ·exact hb j hj h
    ·have : j = i := by omega
     subst this; exact he
  ·right; left
   rw [if_neg (by rw [decide_eq_true_eq]; omega)]
   exact ⟨_, rfl, fun j hj => hb j hj (by omega)⟩) fuel 0 ⟨0, rfl, Nat.zero_le _, fun j hj h => by omega⟩ (Gz (by show xs.length - 0 ≤ _; omega))
 rw [hv, Option.bind_some]
 rcases v with k | u
 ·obtain ⟨i, rfl, hi, he, hb⟩ := hr
  have hf : xs.findIdx (fun t => decide (t.Token = tok)) = i := by
   rw [List.findIdx_eq hi]
   exact ⟨decide_eq_true he, fun j hj => decide_eq_false (hb j (by omega) hj)⟩
  rw [hf, if_pos hi]
 ·have hr : ∀ j (hj : j < xs.length), (xs[j]).Token ≠ tok := hr
  have hf : ¬ xs.findIdx (fun t => decide (t.Token = tok)) < xs.length := fun h => by
   have := List.findIdx_getElem (w := h)
   exact hr _ h (of_decide_eq_true this)
  rw [if_neg hf]
  rfl
theorem Alh {xs : List Am} (hl : xs.length ≤ 1000) (hn : (xs.map (·.Token)).Nodup) {i : Nat} (hi : i < xs.length) : F0 xs (xs[i]).Token = some (i : Int) := by
 have hf : xs.findIdx (fun t => decide (t.Token = (xs[i]).Token)) = i := by
  rw [List.findIdx_eq hi]
  refine ⟨decide_eq_true rfl, fun j hj => decide_eq_false fun he => ?_⟩
  have := List.pairwise_iff_getElem.1 hn j i (by simp; omega) (by simpa using hi) hj
  simp at this
  exact this he
 rw [Aba _ _ hl, hf, if_pos hi]
theorem Acx {xs : List Am} (hl : xs.length ≤ 1000) {tok : Int} (hn : ∀ t ∈ xs, t.Token ≠ tok) : F0 xs tok = some (-1) := by
 rw [Aba _ _ hl, if_neg fun h => by
  have := List.findIdx_getElem (w := h)
  exact hn _ (List.getElem_mem h) (of_decide_eq_true this)]
theorem Arf {xs : List Am} (hl : xs.length ≤ 8) (hn : (xs.map (·.Token)).Nodup) (ht : ∀ t ∈ xs, TS t) : Hv xs = some true := by
 unfold Hv
 obtain ⟨v, hv, hr⟩ := Rx (f := F8 xs) (P := fun s => ∃ i : Nat, s = (i : Int) ∧ i ≤ xs.length) (μ := fun s => xs.length - s.toNat)
  (R := fun r => match r with
   | .inl _ => False
   | .inr _ => True) (by
  rintro _ ⟨i, rfl, hi⟩
  unfold F8
  rcases Nat.lt_or_ge i xs.length with hlt | hge
  ·left
   rw [if_pos (decide_eq_true (by omega)), Ed, List.getElem?_eq_getElem hlt, Option.bind_some, (ht _ (List.getElem_mem hlt)).1, Option.bind_some, if_neg (by decide), Alh (by omega) hn hlt, Option.bind_some,
    decide_eq_true rfl, if_neg (by decide), Dl (by omega) (by omega)]
   exact ⟨_, rfl, ⟨i + 1, rfl, hlt⟩, by omega⟩
  ·right; left
   rw [if_neg (by rw [decide_eq_true_eq]; omega)]
   exact ⟨_, rfl, trivial⟩) fuel 0 ⟨0, rfl, Nat.zero_le _⟩ (Gz (by show xs.length - 0 ≤ _; omega))
 rw [hv, Option.bind_some]
 rcases v with k | u
 ·exact hr.elim
 ·show some (decide _) = _
  rw [decide_eq_true (by omega)]
theorem Auv {l : List Int} {n : Nat} {c : Cl} (h : Inv l n c) : Im c = some true := by
 unfold Im
 have hp := h.ph
 rw [Tx, Option.bind_some]
 by_cases h1 : 3 ≤ c.Phase ∧ c.Phase ≤ 10
 ·have hw := h.wk h1.1 h1.2
  have := List.length_pos_iff.2 hw.1
  rw [decide_eq_true h1.1, decide_eq_true h1.2, if_pos (by rfl), if_pos (decide_eq_true (by omega)), decide_eq_true hw.2]
 ·rw [if_neg (by simp; omega)]
  by_cases h0 : c.Phase = 0 ∨ c.Phase = 11
  ·rw [if_pos (decide_eq_true (by rw [h.wi h0]; rfl))]
  ·split
   ·rfl
   ·rw [decide_eq_false (p := c.Phase = 0) (by omega), if_pos (by rfl), decide_eq_false (p := c.Phase = 11) (by omega)]
    rfl
theorem Afg {b : List UInt8} {d : Int} (h : Sw b d = true) : b.length ≤ 600 := by
 unfold Sw at h
 split at h
 ·have := of_decide_eq_true h; omega
 split at h
 ·cases h
 ·have h := of_decide_eq_true h
  unfold opn at h
  split at h
  ·omega
  split at h
  ·exact absurd h (by decide)
  split at h
  ·omega
  split at h
  ·exact absurd h (by decide)
  ·exact absurd (show (0 : Int) = 2 from h) (by decide)
theorem Ti {l : List Int} {n : Nat} {c : Cl} (h : Inv l n c) : E9 c = some true := by
 unfold E9
 have ho := h.ou
 rw [h.cfg, Ao1, Option.bind_some, if_pos rfl, Aux h, Option.bind_some, if_pos rfl, Arf h.tk.1 h.tk.2 (fun t ht => (h.ts t ht).1), Option.bind_some, if_pos rfl, Auv h, Option.bind_some, if_pos rfl]
 have hs : Hj c.In = some true := by rw [Aga _ (by have := Afg h.st; omega), h.st]
 have ha : Cs c.Phase = some (decide ((2 ≤ c.Phase ∧ c.Phase ≤ 7) ∨ c.Phase = 9)) := by
  unfold Cs
  rw [Tx, Option.bind_some]
  by_cases h1 : 2 ≤ c.Phase <;> by_cases h2 : c.Phase ≤ 7 <;> simp [h1, h2]
 rw [ha, Option.bind_some]
 by_cases hp : (2 ≤ c.Phase ∧ c.Phase ≤ 7) ∨ c.Phase = 9
 ·rw [decide_eq_true hp, if_neg (by decide), mg.saneReq_m, h.rq hp, Option.bind_some, if_pos rfl, hs, Option.bind_some, if_pos rfl, decide_eq_true (by omega)]
 ·rw [decide_eq_false hp, if_pos (by rfl), hs, Option.bind_some, if_pos rfl, decide_eq_true (by omega)]
theorem Ac6 (p : Int) : F7 p = some (decide (p = 1 ∨ p = 11)) := by
 unfold F7
 by_cases h : p = 1 <;> simp [h]
def P3 (s : A0) (b : List UInt8) : A0 × List (List UInt8) × Int := (Ek s b).getD (s, [], 0)
theorem Asw {s : A0} {b : List UInt8} (hs : Sw s.Buf s.Dead = true) (hb : b.length ≤ 1000) : Ek s b = some (P3 s b) ∧ Sw (P3 s b).1.Buf (P3 s b).1.Dead = true ∧ (P3 s b).2.1.length ≤ 2000 ∧ ∀ p ∈ (P3 s b).2.1, p.length ≤ 512 := by
 have hl := Afg hs
 unfold P3
 by_cases h0 : s.Dead = 0
 ·obtain ⟨l, r, e, ha⟩ := Ajk (s.Buf ++ b) (by rw [List.length_append]; omega)
  rw [Alo s b hs h0 (by omega) ha]
  have hl2 := (Ajt ha).1
  rw [List.length_append] at hl2
  exact ⟨rfl, Ai3 ha, by show l.length ≤ 2000; omega, ha.2.1⟩
 ·rw [Akg s b hs h0 (by omega)]
  exact ⟨rfl, hs, Nat.zero_le _, fun p hp => by cases hp⟩
def Afr (c : Cl) (p : List UInt8) : Cl := if c.Phase = 1 ∨ c.Phase = 11 then c else Zv c p
def Avg (e : Int) (c : Cl) : Cl := if e ≠ 0 ∧ ¬ (c.Phase = 1 ∨ c.Phase = 11) then Zk c else c
def Tp (c : Cl) (b : List UInt8) : Cl := if c.Phase = 1 ∨ c.Phase = 11 then c else Avg (P3 c.In b).2.2 ((P3 c.In b).2.1.foldl Afr {c with In := (P3 c.In b).1})
theorem Inv.eat {l : List Int} {n : Nat} {c : Cl} (h : Inv l n c) (hn : n + 1 ≤ 1000000) (b : List UInt8) (hb : b.length ≤ 1000000) : Inv l (n + 1) (Afr c b) := by
 unfold Afr
 split
 ·exact h.up (by omega) hn
 ·exact h.take (by omega) hn b hb
theorem Inv.eats {l : List Int} : ∀ (ps : List (List UInt8)) {n : Nat} {c : Cl}, Inv l n c → n + ps.length ≤ 1000000 → (∀ p ∈ ps, p.length ≤ 512) → Inv l (n + ps.length) (ps.foldl Afr c)
 | [], _, _, h, _, _ => h
 | p :: ps, n, c, h, hn, hp => by
  have hn' : n + (ps.length + 1) ≤ 1000000 := hn
  have h1 := h.eat (by omega) p (by have := hp p (List.mem_cons_self ..); omega)
  have h2 := Inv.eats ps h1 (by omega) (fun q hq => hp q (List.mem_cons_of_mem _ hq))
  rw [show n + (p :: ps).length = n + 1 + ps.length from by simp; omega]
  exact h2
theorem Apf {v : A0 × List (List UInt8) × Int} {l : List Int} (hp : ∀ p ∈ v.2.1, p.length ≤ 512) (hl : v.2.1.length ≤ 2000) : ∀ (k i : Nat) (m n : Nat) (c : Cl), i + k = v.2.1.length → k < m → Inv l n c → n + k ≤ 1000000 →
  Ec (E0 v) m ((i : Int), c) = some ((v.2.1.drop i).foldl Afr c)
 | 0, i, m, n, c, hi, hm, h, hn => by
  obtain ⟨m, rfl⟩ : ∃ k, m = k + 1 := ⟨m - 1, by omega⟩
  rw [Ec, show E0 v ((i : Int), c) = some (.brk c) from by
   unfold E0
   dsimp only
   rw [if_neg (by rw [decide_eq_true_eq]; omega)], List.drop_of_length_le (by omega)]
  rfl
 | k + 1, i, m, n, c, hi, hm, h, hn => by
  obtain ⟨m, rfl⟩ : ∃ k, m = k + 1 := ⟨m - 1, by omega⟩
  have hlt : i < v.2.1.length := by omega
  have hpl := hp _ (List.getElem_mem hlt)
  rw [Ec, show E0 v ((i : Int), c) = some (.cont (((i + 1 : Nat) : Int), Afr c (v.2.1[i]))) from by
   unfold E0 Afr
   dsimp only
   rw [if_pos (decide_eq_true (by omega)), Ed, List.getElem?_eq_getElem hlt, Option.bind_some, Ac6, Option.bind_some, Dl (by omega) (by omega)]
   by_cases hg : c.Phase = 1 ∨ c.Phase = 11
   ·rw [decide_eq_true hg, if_neg (by decide), if_pos hg]; rfl
   ·rw [decide_eq_false hg, if_pos (by rfl), if_neg hg, Aqt h _ (by omega), Option.bind_some]; rfl]
  dsimp only
  rw [Apf hp hl k (i + 1) m (n + 1) _ (by omega) (by omega) (h.eat (by omega) _ (by omega)) (by omega), List.drop_eq_getElem_cons hlt]
  rfl
theorem Inv.inS {l : List Int} {n : Nat} {c : Cl} (h : Inv l n c) {s : A0} (hs : Sw s.Buf s.Dead = true) : Inv l n {c with In := s} :=
 ⟨⟨h.cfg, h.ep, h.sq, h.at_, h.se, h.le, h.re, h.tk, h.ts, hs, h.ou, h.ll, h.dc, h.tr, h.nb, h.lb⟩, h.ph, h.wk, h.wi, h.rq, h.du⟩
theorem Agq {l : List Int} {n : Nat} {c : Cl} (h : Inv l n c) (hn : n + 2000 ≤ 1000000) (b : List UInt8) (hb : b.length ≤ 1000) : F4 c b = some (Tp c b) ∧ Inv l (n + 2000) (Tp c b) := by
 unfold F4 Tp
 rw [Ti h, Option.bind_some, if_neg (by decide), Ac6, Option.bind_some]
 by_cases hg : c.Phase = 1 ∨ c.Phase = 11
 ·rw [decide_eq_true hg, if_pos rfl, if_pos hg]
  exact ⟨rfl, h.up (by omega) hn⟩
 rw [decide_eq_false hg, if_neg (by decide), if_neg hg]
 obtain ⟨f1, f2, f3, f4⟩ := Asw h.st hb
 rw [f1, Option.bind_some]
 generalize P3 c.In b = v at f2 f3 f4 ⊢
 have hi := h.inS f2
 have he := Apf f4 f3 v.2.1.length 0 fuel n {c with In := v.1} (by omega) (Gz (by omega)) hi (by omega)
 rw [show ((0 : Nat) : Int) = 0 from rfl, List.drop_zero] at he
 rw [he, Option.bind_some]
 have hk := Inv.eats v.2.1 hi (by omega) f4
 generalize v.2.1.foldl Afr {c with In := v.1} = d at hk ⊢
 unfold Lg Avg
 rw [nd]
 have hk2 := hk.up (m := n + 2000) (by omega) hn
 by_cases e0 : v.2.2 ≠ 0
 ·rw [if_pos (decide_eq_true e0), Ac6, Option.bind_some]
  by_cases hg2 : d.Phase = 1 ∨ d.Phase = 11
  ·rw [decide_eq_true hg2, if_neg (by decide), if_neg (fun h => h.2 hg2)]
   exact ⟨rfl, hk2⟩
  ·rw [decide_eq_false hg2, if_pos (by rfl), if_pos ⟨e0, hg2⟩, Ac9 hk.fit (fun h9 => (hk.wk (by omega) (by omega)).1), Option.bind_some]
   exact ⟨rfl, hk2.lose (by omega)⟩
 ·rw [if_neg (by rw [decide_eq_true_eq]; exact e0), if_neg (fun h => e0 h.1)]
  exact ⟨rfl, hk2⟩
end Go.Proofs.YtbjckaahoacbfaaGreatDoor.Abs
