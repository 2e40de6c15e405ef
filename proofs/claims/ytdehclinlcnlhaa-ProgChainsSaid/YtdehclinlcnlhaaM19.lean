/-
  It ends.
-/
import Derived.Test.YtdehclinlcnlhaaL19
namespace Go.Proofs.Ytdehclinlcnlhaa.Abs

def oO (o : GR19Op) : GProgOp := ⟨o.What, o.A, o.B, o.N, o.Key, o.Rng⟩
def oG (p : GR19Prog) : GProgProg := ⟨p.RO, p.Ops.map oO⟩
theorem program_m (p : GR19Prog) (h : p.Ops.length ≤ 1000000) : m13_l19_program p = some (oG p) := by
  unfold m13_l19_program
  rw [collB p.Ops (fun x => [oO x]) (m13_l19_program_s2 p) 1 (fun x => by simp) (by omega) (fun i x acc hx hacc => by
    have hlt := (List.getElem?_eq_some_iff.1 hx).1
    unfold m13_l19_program_s2
    dsimp only
    rw [if_pos (decide_eq_true (by omega)), idx_nat, hx, Option.bind_some, if_pos (by rw [List.length_singleton]; omega), wI_id (by omega) (by omega)]
    rfl) (fun acc => by
    unfold m13_l19_program_s2
    dsimp only
    rw [if_neg (by rw [decide_eq_true_eq]; omega)]), Option.bind_some, flat_one]
  rfl
theorem few_m (p : GR19Prog) : ∃ v, m10_r19_Few p = some v ∧ (v = true → p.Ops.length ≤ 40 ∧ ∀ o ∈ p.Ops, o.Key.length ≤ 50) := by
  unfold m10_r19_Few
  by_cases h1 : (40 : Int) < p.Ops.length
  · rw [if_pos (decide_eq_true h1)]; exact ⟨_, rfl, fun h => by cases h⟩
  rw [if_neg (by rw [decide_eq_true_eq]; exact h1)]
  have hsh : ∀ r : GApiRange, ∃ v, m26_r06_Short r = some v := fun r => by
    unfold m26_r06_Short
    split <;> exact ⟨_, rfl⟩
  rw [allR p.Ops (fun x => !decide (50 < (x.Key.length : Int)) && (m26_r06_Short x.Rng).getD false) false (m10_r19_Few_s2 p) (by omega) (fun i x hx => by
    have hlt := (List.getElem?_eq_some_iff.1 hx).1
    unfold m10_r19_Few_s2
    obtain ⟨v, hv⟩ := hsh x.Rng
    rw [if_pos (decide_eq_true (by omega)), idx_nat, hx, Option.bind_some, Option.bind_some, show (⟨x.Rng.Lo, x.Rng.Hi, x.Rng.Open⟩ : GApiRange) = x.Rng from rfl, hv, Option.bind_some, wI_id (by omega) (by omega)]
    cases decide (50 < (x.Key.length : Int)) <;> cases v <;> rfl) (by
    unfold m10_r19_Few_s2
    rw [if_neg (by rw [decide_eq_true_eq]; omega)])]
  cases ha : p.Ops.all (fun x => !decide (50 < (x.Key.length : Int)) && (m26_r06_Short x.Rng).getD false) with
  | true => exact ⟨true, rfl, fun _ => ⟨by omega, fun o ho => by
      have := List.all_eq_true.1 ha o ho
      simp only [Bool.and_eq_true, Bool.not_eq_true', decide_eq_false_iff_not] at this
      omega⟩⟩
  | false => exact ⟨false, rfl, fun h => by cases h⟩
theorem next_no (p : GProgProg) (a : GProgState) (h : m15_prog_Sane p = some false ∨ (m15_prog_Sane p = some true ∧ a.PC < 0)) : m18_prog_Next p a = some (zq, a, false) := by
  unfold m18_prog_Next
  rw [show (⟨p.RO, p.Ops⟩ : GProgProg) = p from rfl]
  rcases h with h | ⟨h, h0⟩
  · rw [h]; rfl
  · rw [h, Option.bind_some, if_neg (nn (by rfl)), if_pos (decide_eq_true h0)]
    rfl
def oS (s : GR19State) : GProgState := ⟨s.PC, s.Regs, s.Stopped⟩
def tS (s : GProgState) : GR19State := ⟨s.PC, s.Regs, s.Stopped⟩
theorem eq8 (a b c d e f g h i : Int) (j : Bool) : ((decide (a = a)) && ((decide (b = b)) && ((decide (c = c)) && ((decide (d = d)) && ((decide (e = e)) && ((decide (f = f)) && ((decide (g = g)) && ((decide (h = h)) && ((decide (i = i)) && ((j == j) && true)))))))))) = true := by simp
theorem sameZ : m24_r05_SameReq ⟨0, 0, 0, 0, false, [], [], ⟨[], [], false⟩⟩ ⟨0, 0, 0, 0, false, [], [], ⟨[], [], false⟩⟩ = some true := by decide +kernel

theorem progStops_true (a0 : GR19Prog) (a1 : GR19State) : m7_l19_ProgStops a0 a1 = some true := by
  unfold m7_l19_ProgStops
  rw [awake19, Option.bind_some]
  obtain ⟨v, hv, hf⟩ := few_m a0
  rw [hv, Option.bind_some]
  cases v with
  | false => rfl
  | true =>
  have hl := (hf rfl).1
  rw [if_neg (nn (by rfl)), program_m a0 (by omega), Option.bind_some]
  have hol : (oG a0).Ops.length = a0.Ops.length := List.length_map _
  rw [show m21_l19_state ⟨a1.PC, ⟨a1.Regs.R0, a1.Regs.R1, a1.Regs.R2, a1.Regs.R3, a1.Regs.R4, a1.Regs.R5, a1.Regs.R6, a1.Regs.R7⟩, a1.Stopped⟩ = some (oS a1) from rfl, Option.bind_some,
    show (⟨(oS a1).PC, ⟨(oS a1).Regs.R0, (oS a1).Regs.R1, (oS a1).Regs.R2, (oS a1).Regs.R3, (oS a1).Regs.R4, (oS a1).Regs.R5, (oS a1).Regs.R6, (oS a1).Regs.R7⟩, (oS a1).Stopped⟩ : GProgState) = oS a1 from rfl]
  obtain ⟨b, hb, hg⟩ := psane_m (oG a0) (by omega)
  cases b with
  | false =>
    rw [next_no _ _ (.inl hb), Option.bind_some, hb, Option.bind_some]
    dsimp only
    rw [if_pos (by rfl), if_pos rfl, if_pos (by rfl)]
    unfold m17_l19_stated
    rw [Option.bind_some]
    exact congrArg some (eq8 ..)
  | true =>
  have hg := (hg rfl).1
  by_cases h0 : a1.PC < 0
  · rw [next_no _ _ (.inr ⟨hb, h0⟩), Option.bind_some, hb, Option.bind_some]
    dsimp only
    rw [if_neg (by decide), if_pos (decide_eq_true h0), if_pos rfl, if_pos (by rfl)]
    unfold m17_l19_stated
    rw [Option.bind_some]
    exact congrArg some (eq8 ..)
  have hops : ∀ (j : Int) u, idx (oG a0).Ops j = some u → ∃ w, idx a0.Ops j = some w ∧ oO w = u := fun j u hu => by
    obtain ⟨hj0, hj⟩ := idx_eq hu
    rw [show (oG a0).Ops = a0.Ops.map oO from rfl, List.getElem?_map, Option.map_eq_some_iff] at hj
    obtain ⟨w, hw, hw2⟩ := hj
    exact ⟨w, idx_of hj0 hw, hw2⟩
  rcases next_m (oG a0) (oS a1) (by omega) hb hg (by show 0 ≤ a1.PC; omega) with ⟨q, t, u, e1, e2, e3, e4, e5, e6, e7, e8, -⟩ | ⟨t, e1, e2, e3, e4, -⟩
  · rw [e1, Option.bind_some, hb, Option.bind_some]
    dsimp only
    rw [if_neg (by decide), if_neg (by rw [decide_eq_true_eq]; exact h0)]
    unfold m7_l19_ProgStops_k6
    dsimp only
    obtain ⟨w, hw, rfl⟩ := hops _ _ e6
    have e7' : 1 ≤ w.What ∧ w.What ≤ 4 := e7
    have e8' : q.Kind = w.What + 2 := e8
    have e4' : a1.PC ≤ t.PC := e4
    have e5' : a1.Stopped = false := e5
    rw [if_pos rfl, if_pos rfl, if_pos (decide_eq_true e2), if_pos (decide_eq_true (by rw [← hol]; exact e3)), hw, Option.bind_some, Option.bind_some, if_pos (decide_eq_true e7'.2), e5', if_pos (by rfl), if_pos (decide_eq_true e4'), wI_id (by omega) (by omega), decide_eq_true e8']
  · rw [e1, Option.bind_some, hb, Option.bind_some]
    dsimp only
    rw [if_neg (by decide), if_neg (by rw [decide_eq_true_eq]; exact h0)]
    unfold m7_l19_ProgStops_k6
    dsimp only
    rw [if_neg (by decide), show (⟨t.PC, ⟨t.Regs.R0, t.Regs.R1, t.Regs.R2, t.Regs.R3, t.Regs.R4, t.Regs.R5, t.Regs.R6, t.Regs.R7⟩, t.Stopped⟩ : GProgState) = t from rfl]
    rcases next_m (oG a0) t (by omega) hb hg e2 with ⟨q, t', u, f1, f2, f3, f4, f5, -⟩ | ⟨t', f1, f2, f3, f4, f5⟩
    · exfalso
      rcases e4 with e4 | e4
      · omega
      · rw [e4] at f5; cases f5
    · have ht : t' = t := f5 (by rcases e4 with e4 | e4; exact .inl (by omega); exact .inr e4) (by omega)
      subst ht
      rw [f1, Option.bind_some]
      dsimp only
      rw [if_pos rfl, if_pos (by rfl)]
      unfold m17_l19_stated
      rw [Option.bind_some, Option.bind_some]
      dsimp only
      rw [eq8, if_pos rfl]
      have hz : (m25_l19_asked (⟨zq.Kind, zq.Seq, zq.Token, zq.Attempt, zq.RO, zq.Key, zq.Val, ⟨zq.Rng.Lo, zq.Rng.Hi, zq.Rng.Open⟩⟩ : GMsgReq)) = some ⟨0, 0, 0, 0, false, [], [], ⟨[], [], false⟩⟩ := rfl
      simp only [hz, Option.bind_some]
      simp only [sameZ, Option.bind_some]
      rcases e4 with e4 | e4
      · rw [decide_eq_true (p := t'.PC = (a0.Ops.length : Int)) (by rw [e4, hol])]
        cases t'.Stopped <;> rfl
      · rw [e4]; rfl
end Go.Proofs.Ytdehclinlcnlhaa.Abs
