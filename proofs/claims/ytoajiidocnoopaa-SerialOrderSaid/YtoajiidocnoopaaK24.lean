/-
  What comes ahead of what.
-/
import Derived.Test.YtoajiidocnoopaaP24
namespace Go.Proofs.Ytoajiidocnoopaa.Abs

theorem first_m {α : Type} (xs : List α) (p : α → Bool) (f : Int → Option (LR Int Unit Int)) (hl : xs.length ≤ 1000000000000000000)
    (h : ∀ (i : Nat) x, xs[i]? = some x → f (i : Int) = some (if p x then .ret (i : Int) else .cont ((i + 1 : Nat) : Int))) (hend : f (xs.length : Int) = some (.brk ())) :
    (∃ i : Nat, i < xs.length ∧ iter f fuel 0 = some (.inl (i : Int)) ∧ (∃ x, xs[i]? = some x ∧ p x = true) ∧ ∀ j x, j < i → xs[j]? = some x → p x = false) ∨ ((∀ x ∈ xs, p x = false) ∧ iter f fuel 0 = some (.inr ())) := by
  obtain ⟨b, hb, hr⟩ := iter_inv (f := f) (P := fun s => ∃ i : Nat, i ≤ xs.length ∧ s = (i : Int) ∧ ∀ j x, j < i → xs[j]? = some x → p x = false) (μ := fun s => xs.length - s.toNat)
    (R := fun r => (∃ i : Nat, i < xs.length ∧ r = .inl (i : Int) ∧ (∃ x, xs[i]? = some x ∧ p x = true) ∧ ∀ j x, j < i → xs[j]? = some x → p x = false) ∨ (r = .inr () ∧ ∀ x ∈ xs, p x = false)) (by
      rintro _ ⟨i, hi, rfl, hp⟩
      rcases Nat.lt_or_ge i xs.length with hlt | hge
      · have hx := List.getElem?_eq_getElem hlt
        have hf := h i _ hx
        cases hpx : p xs[i] with
        | true =>
          rw [hpx, if_pos rfl] at hf
          exact .inr (.inr ⟨_, hf, .inl ⟨i, hlt, rfl, ⟨_, hx, hpx⟩, hp⟩⟩)
        | false =>
          rw [hpx, if_neg (by decide)] at hf
          refine .inl ⟨_, hf, ⟨i + 1, hlt, rfl, fun j x hj hx' => ?_⟩, by simp only [Int.toNat_natCast]; omega⟩
          rcases Nat.lt_succ_iff_lt_or_eq.1 hj with h' | rfl
          · exact hp j x h' hx'
          · rw [hx] at hx'; cases hx'; exact hpx
      · have e : i = xs.length := by omega
        subst e
        refine .inr (.inl ⟨(), hend, .inr ⟨rfl, fun x hx => ?_⟩⟩)
        obtain ⟨j, hj⟩ := List.mem_iff_getElem?.1 hx
        exact hp j x (List.getElem?_eq_some_iff.1 hj).1 hj) fuel 0 ⟨0, Nat.zero_le _, rfl, fun j x hj => absurd hj (Nat.not_lt_zero _)⟩ (lt_fuel (by show xs.length - 0 ≤ _; omega))
  rcases hr with ⟨i, h1, rfl, h2, h3⟩ | ⟨rfl, hp⟩
  · exact .inl ⟨i, h1, hb, h2, h3⟩
  · exact .inr ⟨hp, hb⟩

/-- Is there one? -/
theorem some_m {α : Type} (xs : List α) (p : α → Bool) (f : Int → Option (LR Int Unit Int)) (hl : xs.length ≤ 1000000000000000000)
    (h : ∀ (i : Nat) x, xs[i]? = some x → f (i : Int) = some (if p x then .ret (i : Int) else .cont ((i + 1 : Nat) : Int))) (hend : f (xs.length : Int) = some (.brk ())) :
    ∃ n : Int, ((iter f fuel 0).bind fun x => match x with | .inl r => some r | .inr _ => some (-1)) = some n ∧ decide (0 ≤ n) = xs.any p := by
  rcases first_m xs p f hl h hend with ⟨i, hi, e, ⟨x, hx, hp⟩, _⟩ | ⟨hp, e⟩
  · refine ⟨(i : Int), by rw [e]; rfl, ?_⟩
    rw [decide_eq_true (by omega)]
    exact (List.any_eq_true.2 ⟨x, List.mem_of_getElem? hx, hp⟩).symm
  · refine ⟨-1, by rw [e]; rfl, ?_⟩
    rw [decide_eq_false (by decide)]
    exact (List.any_eq_false.2 fun x hx => by rw [hp x hx]; decide).symm

def bothV (a b : GSerialTx) : Bool := a.Writes.any fun w => b.Writes.any fun v => w.Key == v.Key
def readV (r w : GSerialTx) : Bool := w.Writes.any fun w => r.Reads.any fun g => hasV g w.Key

theorem eqb_m (a b : List UInt8) : m35_bytes_Equal a b = some (a == b) := by
  unfold m35_bytes_Equal
  rfl

theorem rows32_1 (l : List GApiWrite) (k v : List UInt8) (d : Bool) (hl : l.length ≤ 1000000000000000000) : m32_serial_rows1 l k v d = some (l.any fun w => k == w.Key) := by
  unfold m32_serial_rows1 m44_serial_rows1
  obtain ⟨n, hn, hd⟩ := some_m l (fun w => k == w.Key) (m47_slices_IndexFuncs1_s2 l k v d) hl (fun i x hx => by
    have hlt := (List.getElem?_eq_some_iff.1 hx).1
    unfold m47_slices_IndexFuncs1_s2 m34_serial_bothWrite_1_1s
    rw [if_pos (decide_eq_true (by omega)), idx_nat, hx, Option.bind_some, eqb_m, Option.bind_some, Option.bind_some, wI_id (by omega) (by omega)]
    cases (k == x.Key) <;> rfl) (by
    unfold m47_slices_IndexFuncs1_s2
    rw [if_neg (by rw [decide_eq_true_eq]; omega)])
  have e : m47_slices_IndexFuncs1 l k v d = some n := hn
  rw [e, Option.bind_some, Option.bind_some, hd]

theorem both_m (a b : GSerialTx) (ha : a.Writes.length ≤ 1000000000000000000) (hb : b.Writes.length ≤ 1000000000000000000) : m23_serial_bothWrite a b = some (bothV a b) := by
  unfold m23_serial_bothWrite m32_serial_rows m44_serial_rows
  obtain ⟨n, hn, hd⟩ := some_m a.Writes (fun w => b.Writes.any fun v => w.Key == v.Key) (m47_slices_IndexFuncs_s2 a.Writes b.Token b.Snap b.Ts b.Reads b.Writes) ha (fun i x hx => by
    have hlt := (List.getElem?_eq_some_iff.1 hx).1
    unfold m47_slices_IndexFuncs_s2 m33_serial_bothWrite_1s
    rw [if_pos (decide_eq_true (by omega)), idx_nat, hx, Option.bind_some, rows32_1 _ _ _ _ hb, Option.bind_some, Option.bind_some, wI_id (by omega) (by omega)]
    cases (b.Writes.any fun w => x.Key == w.Key) <;> rfl) (by
    unfold m47_slices_IndexFuncs_s2
    rw [if_neg (by rw [decide_eq_true_eq]; omega)])
  have e : m47_slices_IndexFuncs a.Writes b.Token b.Snap b.Ts b.Reads b.Writes = some n := hn
  rw [e, Option.bind_some, Option.bind_some, Option.bind_some, hd]
  rfl

theorem rows37 (l : List GApiRange) (k v : List UInt8) (d : Bool) (hl : l.length ≤ 1000000000000000000) : m37_serial_rows l k v d = some (l.any fun g => hasV g k) := by
  unfold m37_serial_rows m45_serial_rows
  obtain ⟨n, hn, hd⟩ := some_m l (fun g => hasV g k) (m48_slices_IndexFuncs_s2 l k v d) hl (fun i x hx => by
    have hlt := (List.getElem?_eq_some_iff.1 hx).1
    unfold m48_slices_IndexFuncs_s2 m38_serial_hasRead_1_1s
    rw [if_pos (decide_eq_true (by omega)), idx_nat, hx, Option.bind_some, has_m, Option.bind_some, Option.bind_some, wI_id (by omega) (by omega)]
    cases hasV x k <;> rfl) (by
    unfold m48_slices_IndexFuncs_s2
    rw [if_neg (by rw [decide_eq_true_eq]; omega)])
  have e : m48_slices_IndexFuncs l k v d = some n := hn
  rw [e, Option.bind_some, Option.bind_some, hd]

theorem read_m (r w : GSerialTx) (hr : r.Reads.length ≤ 1000000000000000000) (hw : w.Writes.length ≤ 1000000000000000000) : m24_serial_hasRead r w = some (readV r w) := by
  unfold m24_serial_hasRead m32_serial_rows2 m44_serial_rows2
  obtain ⟨n, hn, hd⟩ := some_m w.Writes (fun w => r.Reads.any fun g => hasV g w.Key) (m47_slices_IndexFuncs2_s2 w.Writes r.Token r.Snap r.Ts r.Reads r.Writes) hw (fun i x hx => by
    have hlt := (List.getElem?_eq_some_iff.1 hx).1
    unfold m47_slices_IndexFuncs2_s2 m36_serial_hasRead_1s
    rw [if_pos (decide_eq_true (by omega)), idx_nat, hx, Option.bind_some, rows37 _ _ _ _ hr, Option.bind_some, Option.bind_some, wI_id (by omega) (by omega)]
    cases (r.Reads.any fun g => hasV g x.Key) <;> rfl) (by
    unfold m47_slices_IndexFuncs2_s2
    rw [if_neg (by rw [decide_eq_true_eq]; omega)])
  have e : m47_slices_IndexFuncs2 w.Writes r.Token r.Snap r.Ts r.Reads r.Writes = some n := hn
  rw [e, Option.bind_some, Option.bind_some, Option.bind_some, hd]
  rfl

def aheadV (a b : GSerialTx) : Bool := !decide (a.Token = b.Token) && ((decide (a.Ts < b.Ts) && bothV a b) || (decide (a.Ts ≤ b.Snap) && readV b a) || (decide (a.Snap < b.Ts) && readV a b))
structure Lim (a : GSerialTx) : Prop where
  r : a.Reads.length ≤ 1000000000000000000
  w : a.Writes.length ≤ 1000000000000000000
theorem ahead_m {a b : GSerialTx} (ha : Lim a) (hb : Lim b) : m11_serial_Ahead a b = some (aheadV a b) := by
  have h1 := both_m a b ha.w hb.w
  have h2 := read_m b a hb.r ha.w
  have h3 := read_m a b ha.r hb.w
  unfold m11_serial_Ahead aheadV
  simp only [h1, h2, h3, Option.bind_some]
  generalize bothV a b = x
  generalize readV b a = y
  generalize readV a b = z
  generalize decide (a.Token = b.Token) = p
  generalize decide (a.Ts < b.Ts) = q
  generalize decide (a.Ts ≤ b.Snap) = s
  generalize decide (a.Snap < b.Ts) = u
  cases p <;> cases q <;> cases s <;> cases u <;> cases x <;> cases y <;> cases z <;> rfl
end Go.Proofs.Ytoajiidocnoopaa.Abs
