/-
 One step of an order.
-/
import Derived.Test.YtphgpfgibpgfiaaGreatSA24r
set_option linter.unusedVariables false
set_option linter.unusedSimpArgs false
namespace Go.Proofs.YtphgpfgibpgfiaaGreat.Abs
def ah (l : List As) (j i : Nat) : Bool := match l[j]?, l[i]? with
 | some a, some b => Zy a b
 | _, _ => false
abbrev nat (xs : List Nat) : List Int := xs.map (fun (n : Nat) => (n : Int))
theorem Aov {l : List As} (hL : ∀ x ∈ l, Lim x) {j i : Nat} (hj : j < l.length) (hi : i < l.length) : Fe (j : Int) l (i : Int) = some (ah l j i) := by
 unfold Fe ah
 rw [Bv, Bv, List.getElem?_eq_getElem hj, List.getElem?_eq_getElem hi, Option.bind_some, Option.bind_some, Alf (hL _ (List.getElem_mem hj)) (hL _ (List.getElem_mem hi)), Option.bind_some]
theorem An8 {l : List As} (hL : ∀ x ∈ l, Lim x) {left : List Nat} (hl : ∀ j ∈ left, j < l.length) (hn : left.length ≤ 1000) {i : Nat} (hi : i < l.length) : Kg (nat left) l (i : Int) = some (left.any fun j => ah l j i) := by
 unfold Kg Lk
 obtain ⟨n, hn', hd⟩ := X5 left (fun j => ah l j i) (C8 (nat left) l (i : Int)) (by omega) (fun k j hk => by
  have hlt := (List.getElem?_eq_some_iff.1 hk).1
  have hkn : (nat left)[k]? = some (j : Int) := by rw [List.getElem?_map, hk]; rfl
  unfold C8
  rw [if_pos (decide_eq_true (by rw [List.length_map]; omega)), Bv, hkn, Option.bind_some, Aov hL (hl j (List.mem_of_getElem? hk)) hi, Option.bind_some, Ch (by omega) (by omega)]
  cases ah l j i <;> rfl) (by
  unfold C8
  rw [if_neg (by rw [decide_eq_true_eq, List.length_map]; omega)])
 have e : Gy (nat left) l (i : Int) = some n := hn'
 rw [e, Option.bind_some, Option.bind_some, hd]
theorem Asm {l : List As} (hL : ∀ x ∈ l, Lim x) {left : List Nat} (hl : ∀ j ∈ left, j < l.length) (hn : left.length ≤ 1000) :
  (∃ k i : Nat, left[k]? = some i ∧ (∀ j ∈ left, ah l j i = false) ∧ Em (nat left) (nat left) l = some (k : Int)) ∨ ((∀ i ∈ left, ∃ j ∈ left, ah l j i = true) ∧ Em (nat left) (nat left) l = some (-1)) := by
 unfold Em Fp
 rcases Acj left (fun i => !(left.any fun j => ah l j i)) (B6 (nat left) (nat left) l) (by omega) (fun k i hk => by
  have hlt := (List.getElem?_eq_some_iff.1 hk).1
  have hkn : (nat left)[k]? = some (i : Int) := by rw [List.getElem?_map, hk]; rfl
  unfold B6 Gq
  rw [if_pos (decide_eq_true (by rw [List.length_map]; omega)), Bv, hkn, Option.bind_some, An8 hL hl hn (hl i (List.mem_of_getElem? hk)), Option.bind_some, Option.bind_some, Ch (by omega) (by omega)]
  cases (left.any fun j => ah l j i) <;> rfl) (by
  unfold B6
  rw [if_neg (by rw [decide_eq_true_eq, List.length_map]; omega)]) with ⟨k, hk, e, ⟨i, hi, hp⟩, _⟩ | ⟨hp, e⟩
 ·refine .inl ⟨k, i, hi, fun j hj => ?_, by rw [e]; rfl⟩
  rw [Bool.not_eq_true'] at hp
  have := List.any_eq_false.1 hp j hj
  simpa using this
 ·refine .inr ⟨fun i hi => ?_, by rw [e]; rfl⟩
  have := hp i hi
  rw [Bool.not_eq_false'] at this
  obtain ⟨j, hj, h⟩ := List.any_eq_true.1 this
  exact ⟨j, hj, h⟩
theorem Aqq {left : List Nat} (hn : left.length ≤ 1000) {k : Nat} (hk : k < left.length) : K6 (nat left) (k : Int) = some (nat (left.eraseIdx k)) := by
 unfold K6
 rw [Ch (by omega) (by omega), Se (by omega) (by omega) (by rw [List.length_map]; omega), Option.bind_some, Se (by omega) (by rw [List.length_map]; omega) (by omega), Option.bind_some]
 have e : ([((nat left).drop (0 : Int).toNat).take ((k : Int).toNat - (0 : Int).toNat), ((nat left).drop ((k : Int) + 1).toNat).take (((nat left).length : Int).toNat - ((k : Int) + 1).toNat)] : List (List Int)).flatten = nat (left.eraseIdx k) := by
  have h1 : ((k : Int) + 1).toNat = k + 1 := by omega
  have h2 : ((nat left).drop (k + 1)).take ((nat left).length - (k + 1)) = (nat left).drop (k + 1) := List.take_of_length_le (by rw [List.length_drop]; exact Nat.le_refl _)
  rw [h1, Int.toNat_natCast, Int.toNat_natCast, h2, show (0 : Int).toNat = 0 from rfl, List.drop_zero, Nat.sub_zero, List.eraseIdx_eq_take_drop_succ]
  simp [nat, List.map_take, List.map_drop]
 rw [Sy _ (by rw [e, List.length_map, List.length_eraseIdx_of_lt hk]; omega) (by simp), e, Option.bind_some]
end Go.Proofs.YtphgpfgibpgfiaaGreat.Abs
