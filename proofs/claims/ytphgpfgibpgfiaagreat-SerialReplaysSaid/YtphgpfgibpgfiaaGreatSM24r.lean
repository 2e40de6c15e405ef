/-
 What there is with writes laid over, as the document says it.
-/
import Derived.Test.YtphgpfgibpgfiaaGreatSL24r
set_option linter.unusedVariables false
set_option linter.unusedSimpArgs false
namespace Go.Proofs.YtphgpfgibpgfiaaGreat.Abs
theorem Anu {b : List Af} {x : Aw} {l : List Aw} (hb : Fq wk b) (hl : Fq kvk (x :: l)) (h : ∀ w ∈ b, Dq x.Key w.Key < 0) : ovL b (x :: l) rO = x :: ovL b l rO := by
 have hl' := (List.pairwise_cons.1 hl).2
 have hx := (List.pairwise_cons.1 hl).1
 have hnb : ∀ w ∈ b, x.Key ≠ wk w := fun w hw e => by
  have := h w hw
  rw [show w.Key = x.Key from e.symm, Kk] at this
  omega
 refine Vp (Q2 rO hb hl) (List.pairwise_cons.2 ⟨fun y hy => ?_, Q2 rO hb hl'⟩) fun y => ?_
 ·rcases (Tk hb hl').1 hy with ⟨-, hy, -⟩ | ⟨w, hw, -, -, rfl⟩
  ·exact hx y hy
  ·exact h w hw
 ·rw [Tk hb hl, show (y ∈ x :: ovL b l rO) ↔ y = x ∨ y ∈ ovL b l rO from List.mem_cons, Tk hb hl']
  simp only [Aop, true_and, List.mem_cons, List.mem_map, not_exists, not_and]
  constructor
  ·rintro (⟨rfl | h1, h2⟩ | h1)
   ·exact .inl rfl
   ·exact .inr (.inl ⟨h1, h2⟩)
   ·exact .inr (.inr h1)
  ·rintro (rfl | ⟨h1, h2⟩ | h1)
   ·exact .inl ⟨.inl rfl, fun w hw e => hnb w hw e.symm⟩
   ·exact .inl ⟨.inr h1, h2⟩
   ·exact .inr h1
theorem Akv {b : List Af} {w : Af} {m l : List Aw} (hb : Fq wk (w :: b)) (hl : Fq kvk (m ++ l)) (hm : ∀ x ∈ m, x.Key = w.Key) (h : ∀ x ∈ l, Dq w.Key x.Key < 0) : ovL (w :: b) (m ++ l) rO = (if w.Del then [] else [kvw w]) ++ ovL b l rO := by
 have hl' := (List.pairwise_append.1 hl).2.1
 have hb' := (List.pairwise_cons.1 hb).2
 have hw := (List.pairwise_cons.1 hb).1
 have hnw : ∀ v ∈ b, wk v ≠ w.Key := fun v hv e => by
  have h1 : Dq w.Key v.Key < 0 := hw v hv
  rw [show v.Key = w.Key from e, Kk] at h1
  omega
 have hnl : ∀ x ∈ l, x.Key ≠ w.Key := fun x hx e => by
  have h1 := h x hx
  rw [e, Kk] at h1
  omega
 have hml : ∀ y, y ∈ (if w.Del then [] else [kvw w]) ↔ w.Del = false ∧ y = kvw w := fun y => by
  cases w.Del <;> simp
 refine Vp (Q2 rO hb hl) (List.pairwise_append.2 ⟨by cases w.Del <;> simp, Q2 rO hb' hl', fun x hx y hy => ?_⟩) fun y => ?_
 ·obtain ⟨-, rfl⟩ := (hml x).1 hx
  rcases (Tk hb' hl').1 hy with ⟨-, hy, -⟩ | ⟨v, hv, -, -, rfl⟩
  ·exact h y hy
  ·exact hw v hv
 ·rw [Tk hb hl, show (y ∈ (if w.Del then [] else [kvw w]) ++ ovL b l rO) ↔ y ∈ (if w.Del then [] else [kvw w]) ∨ y ∈ ovL b l rO from List.mem_append, hml, Tk hb' hl']
  simp only [Aop, true_and, List.mem_append, List.map_cons, List.mem_cons, not_or]
  constructor
  ·rintro (⟨h1 | h1, h2, h3⟩ | ⟨v, rfl | hv, h1, h2⟩)
   ·exact absurd (hm y h1) h2
   ·exact .inr (.inl ⟨h1, h3⟩)
   ·exact .inl ⟨h1, h2⟩
   ·exact .inr (.inr ⟨v, hv, h1, h2⟩)
  ·rintro (⟨h1, h2⟩ | ⟨h1, h3⟩ | ⟨v, hv, h1, h2⟩)
   ·exact .inr ⟨w, .inl rfl, h1, h2⟩
   ·exact .inl ⟨.inr h1, hnl y h1, h3⟩
   ·exact .inr ⟨v, .inr hv, h1, h2⟩
theorem Alk {b : List Af} (h : X2 b) {l : List Aw} (hl : Fq kvk l) (hn : l.length ≤ 900) (hk : ∀ x ∈ l, x.Key.length ≤ 1000000) :
  Lz ⟨b⟩ l rO 1000 = some (ovL b l rO) := by
 have hbl := h.len
 have hkb := Te h
 unfold Lz
 rw [Anp h, Option.bind_some, if_neg (by decide)]
 obtain ⟨v, hv, hvi⟩ := Add hk (by omega)
 rw [hv, hvi.2 hl, Option.bind_some, if_neg (by decide)]
 unfold L3
 have hlb : ∀ (i j : Nat) (hi : i < b.length) (hj : j < b.length), i < j → Dq b[i].Key b[j].Key < 0 := fun i j hi hj hij => List.pairwise_iff_getElem.1 h.rise i j hi hj hij
 have hll : ∀ (i j : Nat) (hi : i < l.length) (hj : j < l.length), i < j → Dq l[i].Key l[j].Key < 0 := fun i j hi hj hij => List.pairwise_iff_getElem.1 hl i j hi hj hij
 have hbd : ∀ k, Fq wk (b.drop k) := fun k => List.Pairwise.sublist (List.drop_sublist ..) h.rise
 have hld : ∀ i, Fq kvk (l.drop i) := fun i => List.Pairwise.sublist (List.drop_sublist ..) hl
 have hollen := Zw b l rO
 obtain ⟨v, hv, hr⟩ := Eg (f := Kj ⟨b⟩ l rO 1000) (P := fun s => ∃ i k : Nat, i ≤ l.length ∧ k ≤ b.length ∧ s.1 = (i : Int) ∧ s.2.1 = (k : Int) ∧ s.2.2 ++ ovL (b.drop k) (l.drop i) rO = ovL b l rO)
  (μ := fun s => (l.length - s.1.toNat) + (b.length - s.2.1.toNat)) (R := fun v => v = ovL b l rO) (by
  rintro ⟨_, _, out⟩ ⟨i, k, hi, hk', rfl, rfl, hout⟩
  dsimp only at hout
  have hol : out.length ≤ 916 := by
   have e := congrArg List.length hout
   rw [List.length_append] at e
   omega
  have hk8 : ∀ (x : Aw) (d : Bool) (a c : Int), x.Key.length ≤ 1000000 → Ig rO ((i : Int), (k : Int), out) (d, x.Key, x.Val) a c = some (.cont (a, c, out ++ (if d then [] else [x]))) := fun x d a c hx => by
   unfold Ig
   dsimp only
   cases d with
   | true => rw [if_neg (by decide), if_pos rfl, List.append_nil]
   | false =>
    rw [if_pos (by rfl), Afo _ _ (by omega), Option.bind_some, Aop, if_pos rfl, if_pos (by rw [List.length_singleton]; omega), if_neg (by decide)]
  have hA : ∀ c : Int, c < 0 → ∀ hil : i < l.length, Er ⟨b⟩ l rO ((i : Int), (k : Int), out) c = some (.cont (((i + 1 : Nat) : Int), (k : Int), out ++ [l[i]])) := fun c hc hil => by
   unfold Er
   rw [if_pos (decide_eq_true hc)]
   dsimp only
   rw [Bv, List.getElem?_eq_getElem hil, Option.bind_some]
   unfold Ii Ij
   dsimp only
   rw [if_pos (decide_eq_true (by omega)), if_neg (by rw [decide_eq_true_eq]; omega), Ch (by omega) (by omega), hk8 l[i] false _ _ (hk _ (List.getElem_mem hil)), if_neg (by decide)]
   rfl
  have hB : ∀ c : Int, 0 ≤ c → ∀ hkl : k < b.length, Er ⟨b⟩ l rO ((i : Int), (k : Int), out) c = some (.cont (((i + (if c = 0 then 1 else 0) : Nat) : Int), ((k + 1 : Nat) : Int), out ++ (if b[k].Del then [] else [kvw b[k]]))) := fun c hc hkl => by
   unfold Er
   rw [if_neg (by rw [decide_eq_true_eq]; omega)]
   dsimp only
   rw [Bv, List.getElem?_eq_getElem hkl, Option.bind_some, Option.bind_some, Option.bind_some]
   unfold Ii Ij
   dsimp only
   have hkk : (kvw b[k]).Key.length ≤ 1000000 := by have := hkb _ (List.getElem_mem hkl); show b[k].Key.length ≤ _; omega
   by_cases hc0 : c = 0
   ·rw [if_pos (decide_eq_true (by omega)), if_pos (decide_eq_true hc), Ch (by omega) (by omega), Ch (by omega) (by omega), if_pos hc0]
    exact hk8 (kvw b[k]) b[k].Del _ _ hkk
   ·rw [if_neg (by rw [decide_eq_true_eq]; omega), if_pos (decide_eq_true hc), Ch (by omega) (by omega), if_neg hc0]
    exact hk8 (kvw b[k]) b[k].Del _ _ hkk
  have hbr : ∀ (X : Option (LB (Int × Int × List Aw) (List Aw))), (i < l.length ∨ k < b.length) → (if (decide ((i : Int) < (l.length : Int))) = true then (if (decide ((out.length : Int) < 1000)) = true then X else (some (.brk out))) else (if (decide ((k : Int) < (b.length : Int))) = true then (if (decide ((out.length : Int) < 1000)) = true then X else (some (.brk out))) else (some (.brk out)))) = X := fun X hor => by
   rw [if_pos (c := decide ((out.length : Int) < 1000) = true) (decide_eq_true (by omega))]
   by_cases h1 : (i : Int) < (l.length : Int)
   ·rw [if_pos (decide_eq_true h1)]
   ·rw [if_neg (by rw [decide_eq_true_eq]; exact h1), if_pos (decide_eq_true (by omega))]
  unfold Kj
  dsimp only
  by_cases hor : i < l.length ∨ k < b.length
  ·left
   rw [hbr _ hor]
   unfold J0
   dsimp only
   by_cases hil : i < l.length
   ·have hdl : l.drop i = l[i] :: l.drop (i + 1) := List.drop_eq_getElem_cons hil
    have hupl : ∀ x ∈ l.drop (i + 1), Dq l[i].Key x.Key < 0 := fun x hx => by
     obtain ⟨j, hj, e⟩ := List.getElem_of_mem hx
     rw [List.getElem_drop] at e
     rw [List.length_drop] at hj
     rw [← e]
     exact hll i (i + 1 + j) hil (by omega) (by omega)
    rw [if_neg (by rw [decide_eq_true_eq]; omega)]
    by_cases hkl : k < b.length
    ·have hdb : b.drop k = b[k] :: b.drop (k + 1) := List.drop_eq_getElem_cons hkl
     have hupb : ∀ x ∈ b.drop (k + 1), Dq b[k].Key x.Key < 0 := fun x hx => by
      obtain ⟨j, hj, e⟩ := List.getElem_of_mem hx
      rw [List.getElem_drop] at e
      rw [List.length_drop] at hj
      rw [← e]
      exact hlb k (k + 1 + j) hkl (by omega) (by omega)
     rw [if_pos (decide_eq_true (by omega)), Bv, List.getElem?_eq_getElem hil, Option.bind_some, Bv, List.getElem?_eq_getElem hkl, Option.bind_some, X1 _ _ (by have := hk _ (List.getElem_mem hil); omega), Option.bind_some]
     by_cases hc : Dq l[i].Key b[k].Key < 0
     ·rw [hA _ hc hil]
      refine ⟨_, rfl, ⟨i + 1, k, hil, hk', rfl, rfl, ?_⟩, by dsimp only; omega⟩
      dsimp only
      rw [← hout, hdl, Anu (hbd k) (by rw [← hdl]; exact hld i) (fun w hw => ?_), List.append_assoc]; rfl
      rw [hdb] at hw
      rcases List.mem_cons.1 hw with rfl | hw
      ·exact hc
      ·exact (Jq (Int.le_of_lt hc) (Int.le_of_lt (hupb w hw))).2 (.inl hc)
     ·rw [hB _ (by omega) hkl]
      by_cases hc0 : Dq l[i].Key b[k].Key = 0
      ·refine ⟨_, rfl, ⟨i + 1, k + 1, hil, hkl, by rw [if_pos hc0], rfl, ?_⟩, by dsimp only; rw [if_pos hc0]; omega⟩
       dsimp only
       have hkeq := N8 hc0
       have hm := Akv (b := b.drop (k + 1)) (w := b[k]) (m := [l[i]]) (l := l.drop (i + 1)) (by rw [← hdb]; exact hbd k) (by rw [List.singleton_append, ← hdl]; exact hld i) (fun x hx => by rw [List.mem_singleton.1 hx]; exact hkeq) (fun x hx => by rw [← hkeq]; exact hupl x hx)
       rw [List.singleton_append, ← hdl, ← hdb] at hm
       rw [← hout, hm, List.append_assoc]
      ·refine ⟨_, rfl, ⟨i, k + 1, hi, hkl, by rw [if_neg hc0]; rfl, rfl, ?_⟩, by dsimp only; rw [if_neg hc0]; omega⟩
       dsimp only
       have hgt : Dq b[k].Key l[i].Key < 0 := by have := N1 l[i].Key b[k].Key; omega
       have hm := Akv (b := b.drop (k + 1)) (w := b[k]) (m := []) (l := l.drop i) (by rw [← hdb]; exact hbd k) (by rw [List.nil_append]; exact hld i) (by simp) (fun x hx => by
        rw [hdl] at hx
        rcases List.mem_cons.1 hx with rfl | hx
        ·exact hgt
        ·exact (Jq (Int.le_of_lt hgt) (Int.le_of_lt (hupl x hx))).2 (.inl hgt))
       rw [List.nil_append, ← hdb] at hm
       rw [← hout, hm, List.append_assoc]
    ·rw [if_neg (by rw [decide_eq_true_eq]; omega), hA _ (by decide) hil]
     refine ⟨_, rfl, ⟨i + 1, k, hil, hk', rfl, rfl, ?_⟩, by dsimp only; omega⟩
     dsimp only
     have hdb : b.drop k = [] := List.drop_of_length_le (by omega)
     rw [← hout, hdl, Anu (hbd k) (by rw [← hdl]; exact hld i) (fun w hw => by rw [hdb] at hw; simp at hw), List.append_assoc]; rfl
   ·have hkl : k < b.length := hor.resolve_left hil
    have hdb : b.drop k = b[k] :: b.drop (k + 1) := List.drop_eq_getElem_cons hkl
    have hdl : l.drop i = [] := List.drop_of_length_le (by omega)
    rw [if_pos (decide_eq_true (by omega)), hB _ (by decide) hkl]
    refine ⟨_, rfl, ⟨i, k + 1, hi, hkl, rfl, rfl, ?_⟩, by dsimp only; omega⟩
    dsimp only
    have hm := Akv (b := b.drop (k + 1)) (w := b[k]) (m := []) (l := l.drop i) (by rw [← hdb]; exact hbd k) (by rw [List.nil_append]; exact hld i) (by simp) (fun x hx => by rw [hdl] at hx; simp at hx)
    rw [List.nil_append, ← hdb] at hm
    rw [← hout, hm, List.append_assoc]
  ·right
   rw [if_neg (by rw [decide_eq_true_eq]; omega), if_neg (by rw [decide_eq_true_eq]; omega)]
   refine ⟨_, rfl, ?_⟩
   rw [List.drop_of_length_le (show b.length ≤ k by omega), List.drop_of_length_le (show l.length ≤ i by omega)] at hout
   rw [← hout]
   show out = out ++ ovL [] [] rO
   rw [show ovL [] [] rO = [] from List.eq_nil_of_length_eq_zero (by have := Zw [] [] rO; simpa using this), List.append_nil]) fuel (0, 0, []) ⟨0, 0, Nat.zero_le _, Nat.zero_le _, rfl, rfl, rfl⟩ (Dh (by show (l.length - 0) + (b.length - 0) ≤ _; omega))
 rw [hv, hr]; rfl
end Go.Proofs.YtphgpfgibpgfiaaGreat.Abs
