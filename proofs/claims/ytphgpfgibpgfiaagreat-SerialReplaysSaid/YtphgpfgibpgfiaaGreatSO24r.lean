/-
 SerialReplays.
-/
import Derived.Test.YtphgpfgibpgfiaaGreatSN24r
set_option linter.unusedVariables false
set_option linter.unusedSimpArgs false
namespace Go.Proofs.YtphgpfgibpgfiaaGreat.Abs
def toI (x : Ep) : B0 := ⟨toS x.Tx, oG x.Prog, x.Regs⟩
theorem Apl (l : List Ep) (hl : l.length ≤ 30) : Jk (l.map toI) = some ((l.map (·.Tx)).map toS) := by
 have hml : (l.map toI).length = l.length := List.length_map _
 unfold Jk
 obtain ⟨v, hv, hr⟩ := Eg (f := Gr (l.map toI)) (P := fun s => ∃ j : Nat, j ≤ l.length ∧ s = ((j : Int), ((l.take j).map (·.Tx)).map toS)) (μ := fun s => l.length - s.1.toNat)
  (R := fun v => v = (l.map (·.Tx)).map toS) (by
   rintro _ ⟨j, hj, rfl⟩
   unfold Gr
   dsimp only
   rcases Nat.lt_or_ge j l.length with hlt | hge
   ·left
    have hx : (l.map toI)[j]? = some (toI l[j]) := by rw [List.getElem?_map, List.getElem?_eq_getElem hlt]; rfl
    rw [if_pos (decide_eq_true (by omega)), Bv, hx, Option.bind_some, if_pos (by rw [List.length_map, List.length_map, List.length_take, List.length_singleton]; omega), Ch (by omega) (by omega)]
    refine ⟨_, rfl, ⟨j + 1, hlt, ?_⟩, by dsimp only; omega⟩
    rw [List.take_succ_eq_append_getElem hlt, List.map_append, List.map_append]; rfl
   ·right
    have e : j = l.length := by omega
    subst e
    rw [if_neg (by rw [decide_eq_true_eq]; omega)]
    exact ⟨_, rfl, by rw [List.take_length]⟩) fuel (0, []) ⟨0, Nat.zero_le _, by simp⟩ (Dh (by show l.length - 0 ≤ _; omega))
 rw [hv, Option.bind_some, hr]
 rfl
theorem Aml (l : List Ep) (hl : l.length ≤ 30) : Cw (Gc l) fuel (0, ([] : List Ca)) = some (l.map (·.Tx)) := by
 obtain ⟨v, hv, hr⟩ := Eg (f := Gc l) (P := fun s => ∃ j : Nat, j ≤ l.length ∧ s = ((j : Int), (l.take j).map (·.Tx))) (μ := fun s => l.length - s.1.toNat)
  (R := fun v => v = l.map (·.Tx)) (by
   rintro _ ⟨j, hj, rfl⟩
   unfold Gc
   dsimp only
   rcases Nat.lt_or_ge j l.length with hlt | hge
   ·left
    rw [if_pos (decide_eq_true (by omega)), Bv, List.getElem?_eq_getElem hlt, Option.bind_some, if_pos (by rw [List.length_map, List.length_take, List.length_singleton]; omega), Ch (by omega) (by omega)]
    refine ⟨_, rfl, ⟨j + 1, hlt, ?_⟩, by dsimp only; omega⟩
    rw [List.take_succ_eq_append_getElem hlt, List.map_append]; rfl
   ·right
    have e : j = l.length := by omega
    subst e
    rw [if_neg (by rw [decide_eq_true_eq]; omega)]
    exact ⟨_, rfl, by rw [List.take_length]⟩) fuel (0, []) ⟨0, Nat.zero_le _, by simp⟩ (Dh (by show l.length - 0 ≤ _; omega))
 rw [hv, hr]
theorem Aem (p : Cb) (h : p.Ops.length ≤ 1000000) : Kl p = some (oG p) := by
 unfold Kl
 obtain ⟨v, hv, hr⟩ := Eg (f := He p) (P := fun s => ∃ j : Nat, j ≤ p.Ops.length ∧ s = ((j : Int), (p.Ops.take j).map oO)) (μ := fun s => p.Ops.length - s.1.toNat)
  (R := fun v => v = p.Ops.map oO) (by
   rintro _ ⟨j, hj, rfl⟩
   unfold He
   dsimp only
   rcases Nat.lt_or_ge j p.Ops.length with hlt | hge
   ·left
    rw [if_pos (decide_eq_true (by omega)), Bv, List.getElem?_eq_getElem hlt, Option.bind_some, if_pos (by rw [List.length_map, List.length_take, List.length_singleton]; omega), Ch (by omega) (by omega)]
    refine ⟨_, rfl, ⟨j + 1, hlt, ?_⟩, by dsimp only; omega⟩
    rw [List.take_succ_eq_append_getElem hlt, List.map_append]; rfl
   ·right
    have e : j = p.Ops.length := by omega
    subst e
    rw [if_neg (by rw [decide_eq_true_eq]; omega)]
    exact ⟨_, rfl, by rw [List.take_length]⟩) fuel (0, []) ⟨0, Nat.zero_le _, by simp⟩ (Dh (by show p.Ops.length - 0 ≤ _; omega))
 rw [hv, Option.bind_some, hr]
 rfl
theorem Akx (l : List Ep) (hl : l.length ≤ 30) (ho : ∀ x ∈ l, x.Prog.Ops.length ≤ 40) : Nf l = some (l.map toI) := by
 unfold Nf
 obtain ⟨v, hv, hr⟩ := Eg (f := Kh l) (P := fun s => ∃ j : Nat, j ≤ l.length ∧ s = ((j : Int), (l.take j).map toI)) (μ := fun s => l.length - s.1.toNat)
  (R := fun v => v = l.map toI) (by
   rintro _ ⟨j, hj, rfl⟩
   unfold Kh
   dsimp only
   rcases Nat.lt_or_ge j l.length with hlt | hge
   ·left
    rw [if_pos (decide_eq_true (by omega)), Bv, List.getElem?_eq_getElem hlt, Option.bind_some, Option.bind_some, Aem _ (by have := ho _ (List.getElem_mem hlt); omega), Option.bind_some, Option.bind_some, if_pos (by rw [List.length_map, List.length_take, List.length_singleton]; omega), Ch (by omega) (by omega)]
    refine ⟨_, rfl, ⟨j + 1, hlt, ?_⟩, by dsimp only; omega⟩
    rw [List.take_succ_eq_append_getElem hlt, List.map_append]; rfl
   ·right
    have e : j = l.length := by omega
    subst e
    rw [if_neg (by rw [decide_eq_true_eq]; omega)]
    exact ⟨_, rfl, by rw [List.take_length]⟩) fuel (0, []) ⟨0, Nat.zero_le _, by simp⟩ (Dh (by show l.length - 0 ≤ _; omega))
 rw [hv, Option.bind_some, hr]
 rfl
theorem Aeq {l : List Ep} (hl : l.length ≤ 30) (hL : ∀ x ∈ l, Aha x.Tx) (hR : ∀ x ∈ l, Rg x.Prog) (ho : ∀ x ∈ l, x.Prog.Ops.length ≤ 40 ∧ ∀ o ∈ x.Prog.Ops, o.Key.length ≤ 50) :
  ∃ r, Jg (l.map toI) = some r ∧ Mn l = some r ∧ r.1.length ≤ 1000000 := by
 have hml : (l.map (·.Tx)).length = l.length := List.length_map _
 obtain ⟨o, h1, h2, told, ht, hin, htl⟩ := Aew (l := l.map (·.Tx)) (fun x hx => by
  obtain ⟨y, hy, rfl⟩ := List.mem_map.1 hx
  exact hL y hy) (by omega)
 unfold Jg Mn
 rw [Apl l hl, Option.bind_some, h1, Option.bind_some, Aml l hl, Option.bind_some]
 unfold Ln
 rw [h2, Option.bind_some]
 obtain ⟨o1, o2⟩ := o
 dsimp only at ht hin htl ⊢
 subst ht
 cases o2 with
 | false => exact ⟨([], false), rfl, rfl, Nat.zero_le _⟩
 | true =>
 have hin := hin rfl
 have htl := htl rfl
 rw [if_neg (c := (!true) = true) (by decide), if_neg (c := (!true) = true) (by decide)]
 obtain ⟨r, r', e1, e2, e3, e4⟩ := Aak (f := Gm (l.map toI) (nat told, true)) (g := Jh l (nat told, true))
  (P := fun s s' => ∃ (j : Nat) (now : List Aw) (ok : Bool), j ≤ told.length ∧ s = (now, ok, (j : Int)) ∧ s' = (ok, now, (j : Int)) ∧ Fq kvk now ∧ now.length ≤ 16 * j ∧ ∀ x ∈ now, x.Key.length ≤ 1000000) (μ := fun s => told.length - s.2.2.toNat)
  (R := fun r r' => r' = (r.2, r.1) ∧ r.1.length ≤ 1000000) (by
   rintro _ _ ⟨j, now, ok, hj, rfl, rfl, hri, hlen, hk⟩
   unfold Gm Jh
   dsimp only
   rcases Nat.lt_or_ge j told.length with hlt | hge
   ·left
    have hx : (nat told)[j]? = some ((told[j] : Nat) : Int) := by rw [List.getElem?_map, List.getElem?_eq_getElem hlt]; rfl
    have hi : told[j] < l.length := by have := hin _ (List.getElem_mem hlt); omega
    have hm := List.getElem_mem hi
    have hI : (l.map toI)[told[j]]? = some (toI l[told[j]]) := by rw [List.getElem?_map, List.getElem?_eq_getElem hi]; rfl
    obtain ⟨l', t, r1, r2, r3, r4, r5⟩ := Am7 (hR _ hm) (ho _ hm).1 (ho _ hm).2 hri (by omega) hk
    rw [if_pos (decide_eq_true (by rw [List.length_map]; omega)), if_pos (decide_eq_true (by rw [List.length_map]; omega)), Bv, hx, Option.bind_some, Option.bind_some, Bv, hI, Option.bind_some, Bv, List.getElem?_eq_getElem hi, Option.bind_some, show (toI l[told[j]]).Prog = oG l[told[j]].Prog from rfl, r1, r2, Option.bind_some, Option.bind_some, Ch (by omega) (by omega)]
    unfold Jn
    dsimp only
    rw [Ch (by omega) (by omega)]
    cases ok with
    | true =>
     refine ⟨_, _, rfl, by rw [Option.bind_some, if_pos rfl, Option.bind_some, Bv, List.getElem?_eq_getElem hi]; rfl, ⟨j + 1, l', _, hlt, rfl, rfl, r3, by omega, r5⟩, by dsimp only; omega⟩
    | false =>
     refine ⟨_, _, rfl, rfl, ⟨j + 1, l', false, hlt, rfl, rfl, r3, by omega, r5⟩, by dsimp only; omega⟩
   ·right
    rw [if_neg (by rw [decide_eq_true_eq, List.length_map]; omega), if_neg (by rw [decide_eq_true_eq, List.length_map]; omega)]
    exact ⟨_, _, rfl, rfl, rfl, by dsimp only; omega⟩) fuel ([], true, 0) (true, [], 0) ⟨0, [], true, Nat.zero_le _, rfl, rfl, List.Pairwise.nil, Nat.zero_le _, by simp⟩ (Dh (by show told.length - 0 ≤ _; omega))
 rw [e1, e2, Option.bind_some, Option.bind_some, e3]
 exact ⟨r, rfl, rfl, e4⟩
theorem Ti (a0 : List Ep) (hR : ∀ x ∈ a0, Rg x.Prog) : H2 a0 = some true := by
 unfold H2
 rw [Al7, Option.bind_some]
 by_cases h30 : 30 < (a0.length : Int)
 ·rw [if_pos (decide_eq_true h30)]
 rw [if_neg (by rw [decide_eq_true_eq]; exact h30)]
 obtain ⟨v, hv, hr⟩ := H4 (f := Ex a0 true) (P := fun s => ∃ j : Nat, j ≤ a0.length ∧ s = ((j : Int), (a0.take j).map (·.Tx)) ∧ ∀ x ∈ a0.take j, x.Prog.Ops.length ≤ 40 ∧ ∀ o ∈ x.Prog.Ops, o.Key.length ≤ 50) (μ := fun s => a0.length - s.1.toNat)
  (R := fun v => v = .inl true ∨ (v = .inr (a0.map (·.Tx)) ∧ ∀ x ∈ a0, x.Prog.Ops.length ≤ 40 ∧ ∀ o ∈ x.Prog.Ops, o.Key.length ≤ 50)) (by
   rintro _ ⟨j, hj, rfl, hf⟩
   unfold Ex
   dsimp only
   rcases Nat.lt_or_ge j a0.length with hlt | hge
   ·obtain ⟨b, hb, hb2⟩ := Ap7 a0[j].Prog
    rw [if_pos (decide_eq_true (by omega)), Bv, List.getElem?_eq_getElem hlt, Option.bind_some, if_pos (by rw [List.length_map, List.length_take, List.length_singleton]; omega), Option.bind_some, hb, Option.bind_some, Ch (by omega) (by omega)]
    cases b with
    | false => exact .inr (.inr ⟨true, rfl, .inl rfl⟩)
    | true =>
     left
     refine ⟨_, rfl, ⟨j + 1, hlt, ?_, fun x hx => ?_⟩, by dsimp only; omega⟩
     ·rw [List.take_succ_eq_append_getElem hlt, List.map_append]; rfl
     ·rw [List.take_succ_eq_append_getElem hlt] at hx
      rcases List.mem_append.1 hx with hx | hx
      ·exact hf x hx
      ·rw [List.mem_singleton.1 hx]; exact hb2 rfl
   ·right; left
    have e : j = a0.length := by omega
    subst e
    rw [List.take_length] at hf ⊢
    rw [if_neg (by rw [decide_eq_true_eq]; omega)]
    exact ⟨_, rfl, .inr ⟨rfl, hf⟩⟩) fuel (0, []) ⟨0, Nat.zero_le _, rfl, by simp⟩ (Dh (by show a0.length - 0 ≤ _; omega))
 rw [hv]
 rcases hr with rfl | ⟨rfl, ho⟩
 ·rfl
 show Es a0 true (a0.map (·.Tx)) = some true
 unfold Es
 obtain ⟨b, hb, hb2⟩ := Apf (a0.map (·.Tx))
 rw [hb, Option.bind_some]
 cases b with
 | false => rfl
 | true =>
 obtain ⟨-, hL⟩ := hb2 rfl
 obtain ⟨r, r1, r2, r3⟩ := Aeq (l := a0) (by omega) (fun x hx => hL x.Tx (List.mem_map.2 ⟨x, hx, rfl⟩)) hR ho
 rw [if_neg (by decide), Akx a0 (by omega) (fun x hx => (ho x hx).1), Option.bind_some, r1, Option.bind_some, r2, Option.bind_some, if_pos rfl, Aqs r3, Option.bind_some, if_pos rfl]
 cases r.2 <;> rfl
end Go.Proofs.YtphgpfgibpgfiaaGreat.Abs
