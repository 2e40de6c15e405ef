/-
  Rows of bytes, compared.
-/
import Derived.Test.YtiadgkkebmclgaaAbsB
namespace Go.Proofs.Ytiadgkkebmclgaa.Abs
theorem u8_tri (x y : UInt8) : x < y ∨ x = y ∨ y < x := by
  rcases Nat.lt_trichotomy x.toNat y.toNat with h | h | h
  · exact .inl (UInt8.lt_iff_toNat_lt.2 h)
  · exact .inr (.inl (UInt8.toNat_inj.1 h))
  · exact .inr (.inr (UInt8.lt_iff_toNat_lt.2 h))
theorem u8_asymm {x y : UInt8} (h : x < y) : ¬ y < x := fun h' => by
  have := UInt8.lt_iff_toNat_lt.1 h
  have := UInt8.lt_iff_toNat_lt.1 h'
  omega
theorem u8_trans {x y z : UInt8} (h : x < y) (h' : y < z) : x < z := by
  have h1 := UInt8.lt_iff_toNat_lt.1 h
  have h2 := UInt8.lt_iff_toNat_lt.1 h'
  exact UInt8.lt_iff_toNat_lt.2 (by omega)

theorem cmpL_self : ∀ a : List UInt8, cmpL a a = 0
  | [] => rfl
  | x :: xs => by unfold cmpL; rw [if_neg (UInt8.lt_irrefl x), if_neg (UInt8.lt_irrefl x)]; exact cmpL_self xs
theorem cmpL_swap : ∀ a b : List UInt8, cmpL a b = -cmpL b a
  | [], [] => rfl
  | [], _ :: _ => rfl
  | _ :: _, [] => rfl
  | x :: xs, y :: ys => by
    unfold cmpL
    rcases u8_tri x y with h | h | h
    · rw [if_pos h, if_neg (u8_asymm h), if_pos h]
    · subst h
      rw [if_neg (UInt8.lt_irrefl x), if_neg (UInt8.lt_irrefl x), if_neg (UInt8.lt_irrefl x), if_neg (UInt8.lt_irrefl x)]; exact cmpL_swap xs ys
    · rw [if_neg (u8_asymm h), if_pos h, if_pos h]; rfl
theorem cmpL_range : ∀ a b : List UInt8, cmpL a b = -1 ∨ cmpL a b = 0 ∨ cmpL a b = 1
  | [], [] => .inr (.inl rfl)
  | [], _ :: _ => .inl rfl
  | _ :: _, [] => .inr (.inr rfl)
  | x :: xs, y :: ys => by
    unfold cmpL
    split
    · exact .inl rfl
    · split
      · exact .inr (.inr rfl)
      · exact cmpL_range xs ys
theorem cmpL_zero : ∀ {a b : List UInt8}, cmpL a b = 0 → a = b
  | [], [], _ => rfl
  | [], _ :: _, h => by cases h
  | _ :: _, [], h => by cases h
  | x :: xs, y :: ys, h => by
    unfold cmpL at h
    rcases u8_tri x y with h1 | h1 | h1
    · rw [if_pos h1] at h; cases h
    · subst h1
      rw [if_neg (UInt8.lt_irrefl x), if_neg (UInt8.lt_irrefl x)] at h
      rw [cmpL_zero h]
    · rw [if_neg (u8_asymm h1), if_pos h1] at h; cases h
theorem cmpL_trans : ∀ {a b c : List UInt8}, cmpL a b ≤ 0 → cmpL b c ≤ 0 → cmpL a c ≤ 0 ∧ (cmpL a b < 0 ∨ cmpL b c < 0 → cmpL a c < 0)
  | [], b, [], h1, h2 => ⟨Int.le_refl _, fun h => by
      cases b with
      | nil => rcases h with h | h <;> simp [cmpL] at h
      | cons y ys => simp [cmpL] at h2⟩
  | [], _, _ :: _, _, _ => ⟨by simp [cmpL], fun _ => by simp [cmpL]⟩
  | _ :: _, [], _, h1, _ => by simp [cmpL] at h1
  | _ :: _, _ :: _, [], _, h2 => by simp [cmpL] at h2
  | x :: xs, y :: ys, z :: zs, h1, h2 => by
    unfold cmpL at h1 h2 ⊢
    rcases u8_tri x y with e1 | e1 | e1
    · rcases u8_tri y z with e2 | e2 | e2
      · rw [if_pos (u8_trans e1 e2)]; exact ⟨by decide, fun _ => by decide⟩
      · subst e2; rw [if_pos e1]; exact ⟨by decide, fun _ => by decide⟩
      · rw [if_neg (u8_asymm e2), if_pos e2] at h2; exact absurd h2 (by decide)
    · subst e1
      rw [if_neg (UInt8.lt_irrefl x), if_neg (UInt8.lt_irrefl x)] at h1 ⊢
      rcases u8_tri x z with e2 | e2 | e2
      · rw [if_pos e2]; exact ⟨by decide, fun _ => by decide⟩
      · subst e2
        simp only [UInt8.lt_irrefl, if_false] at h2 ⊢
        exact cmpL_trans h1 h2
      · rw [if_neg (u8_asymm e2), if_pos e2] at h2; exact absurd h2 (by decide)
    · rw [if_neg (u8_asymm e1), if_pos e1] at h1; exact absurd h1 (by decide)
theorem cmpL_app0 : ∀ a : List UInt8, cmpL a (a ++ [0]) = -1
  | [] => rfl
  | x :: xs => by
    show (if x < x then (-1 : Int) else if x < x then 1 else cmpL xs (xs ++ [0])) = -1
    rw [if_neg (UInt8.lt_irrefl x), if_neg (UInt8.lt_irrefl x)]
    exact cmpL_app0 xs
theorem cmpL_ge {a b : List UInt8} : 0 ≤ cmpL a b ↔ cmpL b a ≤ 0 := by rw [cmpL_swap a b]; omega
theorem cmpL_nil {a : List UInt8} (h : cmpL a [] ≤ 0) : a = [] := by
  cases a with
  | nil => rfl
  | cons x xs => simp [cmpL] at h
theorem cmpL_one {a : List UInt8} (h : cmpL a [0] < 0) : a = [] := by
  cases a with
  | nil => rfl
  | cons x xs =>
    unfold cmpL at h
    have h0 : ¬ x < 0 := fun h => by have := UInt8.lt_iff_toNat_lt.1 h; rw [show (0 : UInt8).toNat = 0 from rfl] at this; omega
    rw [if_neg h0] at h
    split at h
    · exact absurd h (by decide)
    · cases xs <;> simp [cmpL] at h
end Go.Proofs.Ytiadgkkebmclgaa.Abs
