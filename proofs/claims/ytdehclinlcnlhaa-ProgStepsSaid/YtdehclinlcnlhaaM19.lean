/-
  It ends.
-/
import Derived.Test.YtdehclinlcnlhaaL19
namespace Go.Proofs.Ytdehclinlcnlhaa.Abs


def oO (o : GR19Op) : GProgOp := ⟨o.What, o.A, o.B, o.N, o.Key, o.Rng⟩
def oG (p : GR19Prog) : GProgProg := ⟨p.RO, p.Ops.map oO⟩
theorem program_m (p : GR19Prog) (h : p.Ops.length ≤ 1000000) : m13_l19_program p = some (oG p) := by
  unfold m13_l19_program
  rw [collB p.Ops (fun x => [oO x]) (m13_l19_program_s2 p) 1 (fun x => by simp) (by omega) (fun i x acc hx hacc => by
    have hlt := (List.getElem?_eq_some_iff.1 hx).1
    unfold m13_l19_program_s2
    dsimp only
    rw [if_pos (decide_eq_true (by omega)), idx_nat, hx, Option.bind_some, if_pos (by rw [List.length_singleton]; omega), wI_id (by omega) (by omega)]
    rfl) (fun acc => by
    unfold m13_l19_program_s2
    dsimp only
    rw [if_neg (by rw [decide_eq_true_eq]; omega)]), Option.bind_some, flat_one]
  rfl
theorem few_m (p : GR19Prog) : ∃ v, m10_r19_Few p = some v ∧ (v = true → p.Ops.length ≤ 40 ∧ ∀ o ∈ p.Ops, o.Key.length ≤ 50) := by
  unfold m10_r19_Few
  by_cases h1 : (40 : Int) < p.Ops.length
  · rw [if_pos (decide_eq_true h1)]; exact ⟨_, rfl, fun h => by cases h⟩
  rw [if_neg (by rw [decide_eq_true_eq]; exact h1)]
  have hsh : ∀ r : GApiRange, ∃ v, m26_r06_Short r = some v := fun r => by
    unfold m26_r06_Short
    split <;> exact ⟨_, rfl⟩
  rw [allR p.Ops (fun x => !decide (50 < (x.Key.length : Int)) && (m26_r06_Short x.Rng).getD false) false (m10_r19_Few_s2 p) (by omega) (fun i x hx => by
    have hlt := (List.getElem?_eq_some_iff.1 hx).1
    unfold m10_r19_Few_s2
    obtain ⟨v, hv⟩ := hsh x.Rng
    rw [if_pos (decide_eq_true (by omega)), idx_nat, hx, Option.bind_some, Option.bind_some, show (⟨x.Rng.Lo, x.Rng.Hi, x.Rng.Open⟩ : GApiRange) = x.Rng from rfl, hv, Option.bind_some, wI_id (by omega) (by omega)]
    cases decide (50 < (x.Key.length : Int)) <;> cases v <;> rfl) (by
    unfold m10_r19_Few_s2
    rw [if_neg (by rw [decide_eq_true_eq]; omega)])]
  cases ha : p.Ops.all (fun x => !decide (50 < (x.Key.length : Int)) && (m26_r06_Short x.Rng).getD false) with
  | true => exact ⟨true, rfl, fun _ => ⟨by omega, fun o ho => by
      have := List.all_eq_true.1 ha o ho
      simp only [Bool.and_eq_true, Bool.not_eq_true', decide_eq_false_iff_not] at this
      omega⟩⟩
  | false => exact ⟨false, rfl, fun h => by cases h⟩
theorem next_no (p : GProgProg) (a : GProgState) (h : m15_prog_Sane p = some false ∨ (m15_prog_Sane p = some true ∧ a.PC < 0)) : m18_prog_Next p a = some (zq, a, false) := by
  unfold m18_prog_Next
  rw [show (⟨p.RO, p.Ops⟩ : GProgProg) = p from rfl]
  rcases h with h | ⟨h, h0⟩
  · rw [h]; rfl
  · rw [h, Option.bind_some, if_neg (nn (by rfl)), if_pos (decide_eq_true h0)]
    rfl
def oS (s : GR19State) : GProgState := ⟨s.PC, s.Regs, s.Stopped⟩
def tS (s : GProgState) : GR19State := ⟨s.PC, s.Regs, s.Stopped⟩
theorem eq8 (a b c d e f g h i : Int) (j : Bool) : ((decide (a = a)) && ((decide (b = b)) && ((decide (c = c)) && ((decide (d = d)) && ((decide (e = e)) && ((decide (f = f)) && ((decide (g = g)) && ((decide (h = h)) && ((decide (i = i)) && ((j == j) && true)))))))))) = true := by simp
end Go.Proofs.Ytdehclinlcnlhaa.Abs
