/-
 What a reply makes of a state, on both sides.
-/
import Derived.Test.YtphgpfgibpgfiaaGreatSJ24r
set_option linter.unusedVariables false
set_option linter.unusedSimpArgs false
namespace Go.Proofs.YtphgpfgibpgfiaaGreat.Abs
def oR (r : Fj) : Jb := ⟨r.Kind, r.Seq, r.Code, r.N, r.Found, r.Val, r.List⟩
theorem Vr {P : Int → Prop} {j : Int} (h : 0 ≤ j ∧ j < ((8 : Nat) : Int)) (h0 : P 0) (h1 : P 1) (h2 : P 2) (h3 : P 3) (h4 : P 4) (h5 : P 5) (h6 : P 6) (h7 : P 7) : P j := by
 rcases (by omega : j = 0 ∨ j = 1 ∨ j = 2 ∨ j = 3 ∨ j = 4 ∨ j = 5 ∨ j = 6 ∨ j = 7) with rfl | rfl | rfl | rfl | rfl | rfl | rfl | rfl <;> assumption
def Yb (a : C2) (j : Int) (v : Int) : C2 := (Ck a j v).getD a
theorem Ahv {a : C2} {j : Int} (v : Int) (h : 0 ≤ j ∧ j < ((8 : Nat) : Int)) : Ck a j v = some (Yb a j v) := by
 refine Vr (P := fun j => Ck a j v = some (Yb a j v)) h ?_ ?_ ?_ ?_ ?_ ?_ ?_ ?_ <;> rfl
theorem Aft {a : C2} {j : Int} (u v : Int) (h : 0 ≤ j ∧ j < ((8 : Nat) : Int)) : Yb (Yb a j u) j v = Yb a j v := by
 refine Vr (P := fun j => Yb (Yb a j u) j v = Yb a j v) h ?_ ?_ ?_ ?_ ?_ ?_ ?_ ?_ <;> rfl
theorem Aiu {a : C2} {j k : Int} (u v : Int) (h : 0 ≤ j ∧ j < ((8 : Nat) : Int)) (hk : 0 ≤ k ∧ k < ((8 : Nat) : Int)) (hne : j ≠ k) : Yb (Yb a j u) k v = Yb (Yb a k v) j u := by
 revert hne
 refine Vr (P := fun j => j ≠ k → Yb (Yb a j u) k v = Yb (Yb a k v) j u) h ?_ ?_ ?_ ?_ ?_ ?_ ?_ ?_ <;>
  refine Vr (P := fun k => _ ≠ k → Yb (Yb a _ u) k v = Yb (Yb a k v) _ u) hk ?_ ?_ ?_ ?_ ?_ ?_ ?_ ?_ <;>
  first | exact fun h => absurd rfl h | exact fun _ => rfl
theorem An3 (l : List Aw) (rep : Fj) (h : rep.List = l) : Cw (G9 rep) fuel (0, 0) = Kd l := by
 have hf : G9 rep = Fh l := by
  funext s
  unfold G9 Fh
  rw [h]
  simp only [Aka, Aic, Zv, Option.bind_some]
 unfold Kd
 rw [hf]
 cases Cw (Fh l) fuel (0, 0) <;> rfl
theorem Aky {p : Cb} (h : Rg p) (s : A7) (rep : Fj) {o : Na} (hs : Hd p = some true) (h0 : 0 ≤ s.PC) (h1 : s.PC < p.Ops.length) (hst : s.Stopped = false) (ho : idx p.Ops s.PC = some o) (hw : 1 ≤ o.What ∧ o.What ≤ 4)
  (hA : 0 ≤ o.A ∧ o.A < ((8 : Nat) : Int)) (hB : 0 ≤ o.B ∧ o.B < ((8 : Nat) : Int)) (hl : rep.List.length ≤ 1000000) (hn : p.Ops.length ≤ 1000) : I6 (oG p) (oS s) (oR rep) = (Lv p s rep).map fun r => (oS r.1, r.2) := by
 have hol : (oG p).Ops.length = p.Ops.length := List.length_map _
 have hoo : idx (oG p).Ops s.PC = some (oO o) := by rw [show (oG p).Ops = p.Ops.map oO from rfl, Y0, ho]; rfl
 unfold I6 Lv
 rw [Yl h, hs, Option.bind_some, Option.bind_some]
 show Option.bind (D4 s.PC _) _ = Option.map _ (if decide (s.PC < 0) = true then _ else _)
 rw [hol, Ch (by omega) (by omega), Mk, decide_eq_true h0, decide_eq_true (show s.PC ≤ (p.Ops.length : Int) - 1 by omega), Option.bind_some, if_neg (c := (!(true && true)) = true) (by decide), if_neg (c := decide (s.PC < 0) = true) (by rw [decide_eq_true_eq]; omega), if_neg (c := decide ((p.Ops.length : Int) ≤ s.PC) = true) (by rw [decide_eq_true_eq]; omega), show (oS s).Stopped = s.Stopped from rfl, show (oS s).PC = s.PC from rfl, hst, if_neg (c := false = true) (by decide), hoo, ho, Option.bind_some, Option.bind_some, Adf, Option.bind_some, show (oO o).What = o.What from rfl, decide_eq_true hw.1, decide_eq_true hw.2, if_neg (c := (!(true && true)) = true) (by decide), if_neg (c := decide (4 < o.What) = true) (by rw [decide_eq_true_eq]; omega), if_neg (c := false = true) (by decide)]
 unfold Je Mi
 rw [show (oS s).PC = s.PC from rfl, hoo, ho, Option.bind_some, Option.bind_some, show (oO o).What = o.What from rfl, show (oO o).A = o.A from rfl, show (oO o).B = o.B from rfl, show (oS s).Regs = s.Regs from rfl, show (oR rep).Found = rep.Found from rfl, show (oR rep).Val = rep.Val from rfl, show (oR rep).List = rep.List from rfl, show (oS s).Stopped = s.Stopped from rfl]
 have hk4 : o.What ≠ 4 → ∀ g : A7, Fo rep o g = some (⟨wI (g.PC + 1), g.Regs, g.Stopped⟩, 0) := fun h4 g => by
  unfold Fo Ih
  rw [if_neg (by rw [decide_eq_true_eq]; exact h4)]
 have hmk : ∀ (g : C2), (C2.mk g.R0 g.R1 g.R2 g.R3 g.R4 g.R5 g.R6 g.R7) = g := fun _ => rfl
 by_cases c1 : o.What = 1
 ·rw [if_pos (decide_eq_true c1), if_pos (decide_eq_true c1)]
  unfold Jd D8
  simp only [hmk, if_pos hA, if_pos hB, Ahv _ hA, Ahv _ hB, Option.bind_some, Aic, Aka, hk4 (by omega : o.What ≠ 4)]
  cases rep.Found with
  | false => rfl
  | true =>
   show some _ = Option.map _ (some _)
   rw [Option.map_some]
   congr 3
   by_cases hab : o.A = o.B
   ·rw [hab]
    simp only [Aft _ _ hB]
   ·rw [Aiu 0 1 hA hB hab]
    try rfl
 ·rw [if_neg (c := decide (o.What = 1) = true) (by rw [decide_eq_true_eq]; exact c1), if_neg (c := decide (o.What = 1) = true) (by rw [decide_eq_true_eq]; exact c1)]
  by_cases c4 : o.What = 4
  ·rw [if_pos (decide_eq_true c4)]
   unfold Fo Mg Ih D8
   rw [if_pos (decide_eq_true c4), An3 _ rep rfl]
   obtain ⟨v, hv⟩ := Amj rep.List (by omega)
   rw [hv]
   simp only [hmk, if_pos hA, if_pos hB, Ahv _ hA, Ahv _ hB, Option.bind_some]
   rfl
  ·rw [if_neg (by rw [decide_eq_true_eq]; exact c4), hk4 c4]
   rfl
end Go.Proofs.YtphgpfgibpgfiaaGreat.Abs
