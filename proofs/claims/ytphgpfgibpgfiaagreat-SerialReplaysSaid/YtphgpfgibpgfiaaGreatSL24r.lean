/-
 What the document says of what was written.
-/
import Derived.Test.YtphgpfgibpgfiaaGreatSK24r
set_option linter.unusedVariables false
set_option linter.unusedSimpArgs false
namespace Go.Proofs.YtphgpfgibpgfiaaGreat.Abs
def rO : Ar := ⟨[], [], true⟩
theorem Aop (k : List UInt8) : Oq rO k = true := by
 unfold Oq rO
 have : 0 ≤ Dq k [] := by
  cases k with
  | nil => decide
  | cons x k => show (0 : Int) ≤ 1; decide
 simp [this]
def gv (l : List Aw) : Bool × List UInt8 := match l.getLast? with | none => (false, []) | some x => (true, x.Val)
theorem Ann (l : List Aw) (x : Aw) : gv (l ++ [x]) = (true, x.Val) := by
 unfold gv
 rw [List.getLast?_append]; rfl
def fv (q : Ej) (l : List Aw) : Bool × List UInt8 := if q.Kind = 3 then gv (l.filter fun x => x.Key == q.Key) else (false, [])
def lv (q : Ej) (l : List Aw) : List Aw := if q.Kind = 6 then (l.filter fun x => Oq q.Rng x.Key).take 8 else []
def Ac8 (q : Ej) (l : List Aw) : Fj := ⟨0, 0, 0, 0, (fv q l).1, (fv q l).2, lv q l⟩
theorem Aeo (q : Ej) (l : List Aw) (hn : l.length ≤ 1000000) (hk : ∀ x ∈ l, x.Key.length ≤ 1000000) : Cw (G8 q l) fuel (0, false, ([] : List UInt8), ([] : List Aw)) = some ((fv q l).1, (fv q l).2, lv q l) := by
 obtain ⟨v, hv, hr⟩ := Eg (f := G8 q l) (P := fun s => ∃ i : Nat, i ≤ l.length ∧ s = ((i : Int), (fv q (l.take i)).1, (fv q (l.take i)).2, lv q (l.take i))) (μ := fun s => l.length - s.1.toNat) (R := fun v => v = ((fv q l).1, (fv q l).2, lv q l)) (by
  rintro _ ⟨i, hi, rfl⟩
  unfold G8
  dsimp only
  rcases Nat.lt_or_ge i l.length with hlt | hge
  ·left
   have hx := List.getElem?_eq_getElem hlt
   have hxm := List.getElem_mem hlt
   have htk : l.take (i + 1) = l.take i ++ [l[i]] := List.take_succ_eq_append_getElem hlt
   generalize l[i] = x at hx hxm htk
   have hlv : (lv q (l.take i)).length ≤ 8 := by
    unfold lv
    split
    ·rw [List.length_take]; omega
    ·exact Nat.zero_le _
   have h5 : ∀ b : Bool × List UInt8, E4 q l ((i : Int), (fv q (l.take i)).1, (fv q (l.take i)).2, lv q (l.take i)) b = some (.cont (((i + 1 : Nat) : Int), b.1, b.2, lv q (l.take (i + 1)))) := fun b => by
    unfold E4
    dsimp only
    rw [Ch (by omega) (by omega)]
    by_cases h6 : q.Kind = 6
    ·rw [if_pos (decide_eq_true h6), Bv, hx, Option.bind_some, Afo _ _ (by have := hk x hxm; omega), Option.bind_some]
     have e1 : lv q (l.take i) = ((l.take i).filter fun x => Oq q.Rng x.Key).take 8 := by unfold lv; rw [if_pos h6]
     have e2 : lv q (l.take (i + 1)) = ((l.take i).filter (fun x => Oq q.Rng x.Key) ++ [x].filter (fun x => Oq q.Rng x.Key)).take 8 := by unfold lv; rw [if_pos h6, htk, List.filter_append]
     cases hh : Oq q.Rng x.Key with
     | true =>
      rw [if_pos rfl]
      have e3 : [x].filter (fun x => Oq q.Rng x.Key) = [x] := by rw [List.filter_cons, if_pos hh]; rfl
      rw [e3] at e2
      by_cases h8 : ((lv q (l.take i)).length : Int) < 8
      ·rw [if_pos (decide_eq_true h8), Option.bind_some, if_pos (by rw [List.length_singleton]; omega)]
       have hlt8 : ((l.take i).filter fun x => Oq q.Rng x.Key).length < 8 := by
        rw [e1, List.length_take] at h8; omega
       have e4 : lv q (l.take i) = (l.take i).filter fun x => Oq q.Rng x.Key := by rw [e1]; exact List.take_of_length_le (by omega)
       have e5 : lv q (l.take (i + 1)) = (l.take i).filter (fun x => Oq q.Rng x.Key) ++ [x] := by rw [e2]; exact List.take_of_length_le (by rw [List.length_append, List.length_singleton]; omega)
       rw [e5, e4]
       rfl
      ·rw [if_neg (by rw [decide_eq_true_eq]; exact h8)]
       have hge8 : 8 ≤ ((l.take i).filter fun x => Oq q.Rng x.Key).length := by
        rw [e1, List.length_take] at h8; omega
       rw [e2, List.take_append_of_le_length hge8, ← e1]
       rfl
     | false =>
      rw [if_neg (by decide)]
      have e3 : [x].filter (fun x => Oq q.Rng x.Key) = [] := by rw [List.filter_cons, if_neg (by rw [hh]; decide)]; rfl
      rw [e3, List.append_nil] at e2
      rw [e2, ← e1]; rfl
    ·rw [if_neg (by rw [decide_eq_true_eq]; exact h6)]
     have : ∀ l, lv q l = [] := fun l => by unfold lv; rw [if_neg h6]
     rw [this, this]; rfl
   rw [if_pos (decide_eq_true (by omega))]
   have hfin : ∀ b : Bool × List UInt8, b = fv q (l.take (i + 1)) → ∃ s', E4 q l ((i : Int), (fv q (l.take i)).1, (fv q (l.take i)).2, lv q (l.take i)) b = some (.cont s') ∧ (∃ i : Nat, i ≤ l.length ∧ s' = ((i : Int), (fv q (l.take i)).1, (fv q (l.take i)).2, lv q (l.take i))) ∧ l.length - s'.1.toNat < l.length - (i : Int).toNat := fun b hb => by
    rw [h5, hb]
    exact ⟨_, rfl, ⟨i + 1, hlt, rfl⟩, by dsimp only; omega⟩
   by_cases h3 : q.Kind = 3
   ·rw [if_pos (decide_eq_true h3), Bv, hx, Option.bind_some]
    have e2 : fv q (l.take (i + 1)) = gv ((l.take i).filter (fun x => x.Key == q.Key) ++ [x].filter (fun x => x.Key == q.Key)) := by unfold fv; rw [if_pos h3, htk, List.filter_append]
    cases hh : (x.Key == q.Key) with
    | true =>
     rw [if_pos rfl, Option.bind_some]
     refine hfin _ ?_
     have e3 : [x].filter (fun x => x.Key == q.Key) = [x] := by rw [List.filter_cons, if_pos hh]; rfl
     rw [e2, e3, Ann]
    | false =>
     rw [if_neg (by decide)]
     refine hfin _ ?_
     have e3 : [x].filter (fun x => x.Key == q.Key) = [] := by rw [List.filter_cons, if_neg (by rw [hh]; decide)]; rfl
     rw [e2, e3, List.append_nil]
     unfold fv
     rw [if_pos h3]
   ·rw [if_neg (by rw [decide_eq_true_eq]; exact h3)]
    refine hfin _ ?_
    unfold fv
    rw [if_neg h3, if_neg h3]
  ·have e : i = l.length := by omega
   subst e
   rw [if_neg (by rw [decide_eq_true_eq]; omega), List.take_length]
   exact .inr ⟨_, rfl, rfl⟩) fuel (0, false, ([] : List UInt8), ([] : List Aw)) ⟨0, Nat.zero_le _, by
    have f1 : fv q (l.take 0) = (false, []) := by unfold fv; split <;> rfl
    have f2 : lv q (l.take 0) = [] := by unfold lv; split <;> rfl
    rw [f1, f2]; rfl⟩ (Dh (by show l.length - 0 ≤ _; omega))
 rw [hv, hr]
theorem Aki (q : Ej) (l : List Aw) (hn : l.length ≤ 1000000) (hk : ∀ x ∈ l, x.Key.length ≤ 1000000) : Kz q l = some (Ac8 q l) := by
 unfold Kz
 rw [Aeo q l hn hk]; rfl
theorem Anp {b : List Af} (h : X2 b) : L1 ⟨b⟩ = some true := by
 have hl := h.len
 unfold L1
 obtain ⟨v, hv, hv2⟩ := Sq b (by omega) (Te h)
 rw [if_pos (decide_eq_true (by dsimp only; omega)), hv, hv2.2 ⟨h.sw, Ss.2 h.rise⟩]; rfl
theorem Ak5 {w : Af} (hk : w.Key.length ≤ 1000) : Gb [w] = some (swV w) := by
 obtain ⟨v, hv, hv2⟩ := Sq [w] (by simp) (by simpa using hk)
 rw [hv]
 congr 1
 rw [Bool.eq_iff_iff, hv2]
 simp only [List.mem_singleton, forall_eq]
 exact ⟨fun h => h.1, fun h => ⟨h, List.pairwise_singleton ..⟩⟩
theorem Wz {b l1 m l2 : List Af} {w : Af} (hr : Fq wk b) (e : b = l1 ++ (m ++ l2)) (hm : ∀ x ∈ m, wk x = wk w) (h1 : ∀ x ∈ l1, Dq x.Key w.Key < 0) (h2 : ∀ x ∈ l2, 0 < Dq x.Key w.Key) : Aax b w = l1 ++ w :: l2 := by
 have hsub : (l1 ++ l2).Sublist b := by rw [e]; exact List.Sublist.append (List.Sublist.refl _) (List.sublist_append_right _ _)
 have hp := List.pairwise_append.1 (List.Pairwise.sublist hsub hr)
 have hne1 : ∀ x ∈ l1, wk x ≠ wk w := fun x hx h => by
  have := h1 x hx
  rw [show x.Key = w.Key from h, Kk] at this
  omega
 have hne2 : ∀ x ∈ l2, wk x ≠ wk w := fun x hx h => by
  have := h2 x hx
  rw [show x.Key = w.Key from h, Kk] at this
  omega
 refine Vp (Tc hr w) (List.pairwise_append.2 ⟨hp.1, List.pairwise_cons.2 ⟨fun y hy => ?_, hp.2.1⟩, fun x hx y hy => ?_⟩) fun x => ?_
 ·have := h2 y hy
  have := N1 y.Key w.Key
  show Dq w.Key y.Key < 0
  omega
 ·rcases List.mem_cons.1 hy with rfl | hy
  ·exact h1 x hx
  ·exact hp.2.2 x hx y hy
 ·rw [Acx, e]
  simp only [List.mem_append, List.mem_cons]
  constructor
  ·rintro (h | ⟨h | h | h, hne⟩)
   ·exact .inr (.inl h)
   ·exact .inl h
   ·exact absurd (hm x h) hne
   ·exact .inr (.inr h)
  ·rintro (h | h | h)
   ·exact .inr ⟨.inl h, hne1 x h⟩
   ·exact .inl h
   ·exact .inr ⟨.inr (.inr h), hne2 x h⟩
theorem Ae6 {b : List Af} (h : X2 b) (w : Af) : (Cw (Hv ⟨b⟩ w) fuel (false, 0, ([] : List Af))).bind (Js w) = Hq (Aax b w) := by
 have hbl := h.len
 have hlt : ∀ (i j : Nat) (hi : i < b.length) (hj : j < b.length), i < j → Dq b[i].Key b[j].Key < 0 := fun i j hi hj hij => List.pairwise_iff_getElem.1 h.rise i j hi hj hij
 obtain ⟨v, hv, hr⟩ := Eg (f := Hv ⟨b⟩ w) (P := fun s => ∃ i : Nat, i ≤ b.length ∧ s.2.1 = (i : Int) ∧ s.2.2.length ≤ 20 ∧
   ((s.1 = false ∧ s.2.2 = b.take i ∧ ∀ x ∈ b.take i, Dq x.Key w.Key < 0) ∨ (s.1 = true ∧ (∀ x ∈ b.drop i, 0 < Dq x.Key w.Key) ∧ s.2.2 ++ b.drop i = Aax b w)))
  (μ := fun s => b.length - s.2.1.toNat) (R := fun v => (v.1 = false ∧ v.2 ++ [w] = Aax b w ∧ v.2.length ≤ 20) ∨ (v.1 = true ∧ v.2 = Aax b w)) (by
   rintro ⟨laid, _, out⟩ ⟨i, hi, rfl, hol, hcase⟩
   dsimp only at hcase hol
   unfold Hv
   dsimp only
   rcases Nat.lt_or_ge i b.length with hil | hge
   ·left
    have hdr : b.drop i = b[i] :: b.drop (i + 1) := List.drop_eq_getElem_cons hil
    have htk : b.take (i + 1) = b.take i ++ [b[i]] := List.take_succ_eq_append_getElem hil
    have htl : (b.take i).length = i := by rw [List.length_take]; omega
    have hk8 : ∀ (c : Int) (q : Bool × List Af), q.2.length ≤ 20 → Ht ⟨b⟩ (laid, (i : Int), out) c q = some (.cont (q.1, ((i + 1 : Nat) : Int), q.2 ++ (if c = 0 then [] else [b[i]]))) := fun c q hq => by
     unfold Ht
     dsimp only
     rw [Ch (by omega) (by omega)]
     by_cases hc : c = 0
     ·rw [if_neg (by rw [decide_eq_true hc]; decide), if_pos hc, List.append_nil]; rfl
     ·rw [if_pos (by rw [decide_eq_false hc]; rfl), Bv, List.getElem?_eq_getElem hil, Option.bind_some, if_pos (by rw [List.length_singleton]; omega), if_neg hc]; rfl
    rw [if_pos (decide_eq_true (by omega)), Bv, List.getElem?_eq_getElem hil, Option.bind_some, X1 _ _ (by have := Te h _ (List.getElem_mem hil); omega), Option.bind_some]
    have hout : out.length ≤ 17 := by
     rcases hcase with ⟨-, e, -⟩ | ⟨-, -, e⟩
     ·rw [e]; omega
     ·have e := congrArg List.length e
      rw [List.length_append, Zc h.rise] at e
      split at e <;> omega
    by_cases hc : 0 ≤ Dq b[i].Key w.Key
    ·rw [if_pos (decide_eq_true hc)]
     have hup : ∀ x ∈ b.drop (i + 1), 0 < Dq x.Key w.Key := fun x hx => by
      obtain ⟨j, hj, e⟩ := List.getElem_of_mem hx
      rw [List.getElem_drop] at e
      rw [List.length_drop] at hj
      have a1 := hlt i (i + 1 + j) hil (by omega) (by omega)
      rw [e] at a1
      have := (Jq (Uj.1 hc) (Int.le_of_lt a1)).2 (.inr a1)
      have := N1 x.Key w.Key
      omega
     rcases hcase with ⟨rfl, rfl, hlo⟩ | ⟨rfl, hhi, hins⟩
     ·rw [if_pos (by rfl), if_pos (by rw [List.length_singleton]; omega), hk8 _ _ (by rw [List.length_append, List.length_singleton]; omega)]
      dsimp only
      refine ⟨_, rfl, ⟨i + 1, hil, rfl, ?_, .inr ⟨rfl, hup, ?_⟩⟩, by dsimp only; omega⟩
      ·dsimp only; rw [List.length_append, List.length_append, List.length_singleton]; split <;> simp <;> omega
      ·dsimp only
       by_cases h0 : Dq b[i].Key w.Key = 0
       ·rw [if_pos h0, List.append_nil, List.append_assoc, List.singleton_append]
        refine (Wz (m := [b[i]]) h.rise ?_ (fun x hx => by rw [List.mem_singleton.1 hx]; exact N8 h0) hlo hup).symm
        rw [List.singleton_append, ← hdr, List.take_append_drop]
       ·rw [if_neg h0, List.append_assoc, List.append_assoc, List.singleton_append, List.singleton_append, ← hdr]
        refine (Wz (m := []) h.rise ?_ (by simp) hlo (fun x hx => ?_)).symm
        ·rw [List.nil_append, List.take_append_drop]
        ·rw [hdr] at hx
         rcases List.mem_cons.1 hx with rfl | hx
         ·omega
         ·exact hup x hx
     ·rw [if_neg (by decide), hk8 _ _ (by dsimp only; omega)]
      have h0 : ¬ Dq b[i].Key w.Key = 0 := by have := hhi b[i] (by rw [hdr]; exact List.mem_cons_self ..); omega
      rw [if_neg h0]
      refine ⟨_, rfl, ⟨i + 1, hil, rfl, ?_, .inr ⟨rfl, hup, ?_⟩⟩, by dsimp only; omega⟩
      ·dsimp only; rw [List.length_append, List.length_singleton]; omega
      ·dsimp only; rw [List.append_assoc, List.singleton_append, ← hdr, hins]
    ·rw [if_neg (by rw [decide_eq_true_eq]; exact hc), hk8 _ _ (by dsimp only; omega), if_neg (by omega)]
     rcases hcase with ⟨rfl, rfl, hlo⟩ | ⟨rfl, hhi, hins⟩
     ·refine ⟨_, rfl, ⟨i + 1, hil, rfl, ?_, .inl ⟨rfl, htk.symm, fun x hx => ?_⟩⟩, by dsimp only; omega⟩
      ·dsimp only; rw [List.length_append, List.length_singleton]; omega
      ·rw [htk] at hx
       rcases List.mem_append.1 hx with hx | hx
       ·exact hlo x hx
       ·rw [List.mem_singleton.1 hx]; omega
     ·exact absurd (hhi b[i] (by rw [hdr]; exact List.mem_cons_self ..)) (by omega)
   ·right
    have e : i = b.length := by omega
    subst e
    rw [if_neg (by rw [decide_eq_true_eq]; omega)]
    refine ⟨_, rfl, ?_⟩
    rcases hcase with ⟨rfl, rfl, hlo⟩ | ⟨rfl, -, hins⟩
    ·refine .inl ⟨rfl, ?_, hol⟩
     rw [List.take_length] at hlo ⊢
     exact (Wz (l2 := []) (m := []) h.rise (by simp) (by simp) hlo (by simp)).symm
    ·rw [List.drop_length, List.append_nil] at hins
     exact .inr ⟨rfl, hins⟩) fuel (false, 0, []) ⟨0, Nat.zero_le _, rfl, Nat.zero_le _, .inl ⟨rfl, rfl, by simp⟩⟩ (Dh (by show b.length - 0 ≤ _; omega))
 rw [hv, Option.bind_some]
 unfold Js
 rcases hr with ⟨e1, e2, e3⟩ | ⟨e1, e2⟩
 ·rw [e1, if_pos (by rfl), if_pos (by rw [List.length_singleton]; omega), e2]
 ·rw [e1, if_neg (by decide), e2]
theorem Ai3 {b : List Af} (h : X2 b) (w : Af) (hk : w.Key.length ≤ 1000) : (Hu ⟨b⟩ w = some (⟨Aax b w⟩, 0) ∧ D6 ⟨b⟩ w = some (⟨Aax b w⟩, 0) ∧ X2 (Aax b w)) ∨ ∃ e e' : Int, e ≠ 0 ∧ e' ≠ 0 ∧ Hu ⟨b⟩ w = some (⟨[]⟩, e) ∧ D6 ⟨b⟩ w = some (⟨[]⟩, e') := by
 have hsl := Zc h.rise w
 unfold Hu
 rw [Anp h, Option.bind_some, if_neg (by decide), Ak5 hk, Option.bind_some]
 by_cases hw : swV w = true
 ·rw [hw, if_neg (by decide)]
  unfold M8
  have hloop := Ae6 h w
  rw [show (Cw (Hv ⟨b⟩ w) fuel (false, 0, ([] : List Af))).bind (fun e12 => Js w e12) = Hq (Aax b w) from hloop]
  unfold Hq
  by_cases hr : wk w ∈ b.map wk ∨ b.length < 16
  ·left
   obtain ⟨s1, s2⟩ := Am3 h hw hr
   have := s2.len
   rw [if_neg (by rw [decide_eq_true_eq]; omega)]
   exact ⟨rfl, s1, s2⟩
  ·right
   obtain ⟨e, he, -, h2⟩ := Af1 h (w := w) (fun hh => hr hh.2)
   have hnh : ¬ hit (b.map wk) (wk w) = true := fun hh => hr (.inl ((Wq h.rise).1 hh))
   rw [if_neg hnh] at hsl
   have : 16 ≤ b.length := Nat.not_lt.1 fun hh => hr (.inr hh)
   rw [if_pos (decide_eq_true (by omega))]
   exact ⟨8, e, by decide, he, rfl, h2⟩
 ·have hw : swV w = false := by simpa using hw
  right
  obtain ⟨e, he, -, h2⟩ := Af1 h (w := w) (fun hh => by rw [hh.1] at hw; cases hw)
  rw [hw, if_pos (by rfl)]
  exact ⟨1, e, by decide, he, rfl, h2⟩
end Go.Proofs.YtphgpfgibpgfiaaGreat.Abs
