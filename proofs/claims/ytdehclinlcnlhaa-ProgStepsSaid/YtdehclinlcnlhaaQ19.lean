/-
  Programs that only read; one behind the other; what is not named.
-/
import Derived.Test.YtdehclinlcnlhaaO19
namespace Go.Proofs.Ytdehclinlcnlhaa.Abs


theorem shortL_m (l : List GApiKV) : ∃ v, m11_l19_short l = some v ∧ (v = true → l.length ≤ 60 ∧ ∀ x ∈ l, x.Key.length ≤ 50) := by
  unfold m11_l19_short
  by_cases h1 : (60 : Int) < l.length
  · rw [if_pos (decide_eq_true h1)]; exact ⟨_, rfl, fun h => by cases h⟩
  rw [if_neg (by rw [decide_eq_true_eq]; exact h1)]
  rw [allR l (fun x => !decide (50 < (x.Key.length : Int)) && !decide (100 < (x.Val.length : Int))) false (m11_l19_short_s2 l) (by omega) (fun i x hx => by
    have hlt := (List.getElem?_eq_some_iff.1 hx).1
    unfold m11_l19_short_s2
    rw [if_pos (decide_eq_true (by omega)), idx_nat, hx, Option.bind_some, Option.bind_some, wI_id (by omega) (by omega)]
    cases decide (50 < (x.Key.length : Int)) <;> cases decide (100 < (x.Val.length : Int)) <;> rfl) (by
    unfold m11_l19_short_s2
    rw [if_neg (by rw [decide_eq_true_eq]; omega)])]
  cases ha : l.all (fun x => !decide (50 < (x.Key.length : Int)) && !decide (100 < (x.Val.length : Int))) with
  | true => exact ⟨true, rfl, fun _ => ⟨by omega, fun o ho => by
      have := List.all_eq_true.1 ha o ho
      simp only [Bool.and_eq_true, Bool.not_eq_true', decide_eq_false_iff_not] at this
      omega⟩⟩
  | false => exact ⟨false, rfl, fun h => by cases h⟩
theorem oG_keys {p : GR19Prog} (h : ∀ o ∈ p.Ops, o.Key.length ≤ 50) : ∀ o ∈ (oG p).Ops, o.Key.length ≤ 50 := fun o ho => by
  obtain ⟨w, hw, rfl⟩ := List.mem_map.1 ho
  exact h w hw
theorem ov_keys {b : List GApiWrite} {l : List GApiKV} (hb : Good b) (hl : RiseK kvk l) (hk : ∀ x ∈ l, x.Key.length ≤ 1000000) : ∀ x ∈ ovL b l rO, x.Key.length ≤ 1000000 := fun x hx => by
  rcases (ov_mem hb.rise hl).1 hx with ⟨_, h, _⟩ | ⟨w, hw, _, _, rfl⟩
  · exact hk x h
  · have := key_small hb w hw
    show w.Key.length ≤ 1000000
    omega

end Go.Proofs.Ytdehclinlcnlhaa.Abs
