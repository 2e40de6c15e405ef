/-
  Which transactions may be, and their order.
-/
import Derived.Test.YtoajiidocnoopaaK24b
namespace Go.Proofs.Ytoajiidocnoopaa.Abs

theorem saneW24 (w : GApiWrite) : ∃ b, m26_serial_saneWrite w = some b := by
  unfold m26_serial_saneWrite m40_keys_Sane
  repeat' (first | exact ⟨_, rfl⟩ | split | dsimp only [Option.bind_some])
theorem saneR24 (w : GApiRange) : ∃ b, m27_keys_SaneRange w = some b := by
  unfold m27_keys_SaneRange
  repeat' (first | exact ⟨_, rfl⟩ | split | dsimp only [Option.bind_some])

structure Lim2 (a : GSerialTx) : Prop where
  r : a.Reads.length ≤ 20
  w : a.Writes.length ≤ 20
theorem Lim2.l {a : GSerialTx} (h : Lim2 a) : Lim a := ⟨by have := h.r; omega, by have := h.w; omega⟩
theorem saneTx24 {x : GSerialTx} (h : Lim2 x) : ∃ b, m16_serial_saneTx x = some b := by
  have hr := h.r
  have hw := h.w
  have k2 : ∀ ks : List (List UInt8), ks.length ≤ 1000000000000000000 → ∃ b, m16_serial_saneTx_k2 x ks () = some b := fun ks hk => by
    obtain ⟨v, hv⟩ := sorted_some ks hk
    unfold m16_serial_saneTx_k2
    rw [hv]
    repeat' (first | exact ⟨_, rfl⟩ | split | dsimp only [Option.bind_some])
  have k1 : ∀ ks : List (List UInt8), ks.length ≤ 1000000000000000000 → ∃ b, m16_serial_saneTx_k1 x ks = some b := fun ks hk => by
    unfold m16_serial_saneTx_k1
    rcases scan24 x.Reads (fun g => !(m27_keys_SaneRange g).getD false) (m16_serial_saneTx_s4 x) (by omega) (fun i g hg => by
      have hlt := (List.getElem?_eq_some_iff.1 hg).1
      unfold m16_serial_saneTx_s4
      obtain ⟨b, hb⟩ := saneR24 g
      rw [if_pos (decide_eq_true (by omega)), idx_nat, hg, Option.bind_some, hb, Option.bind_some, wI_id (by omega) (by omega)]
      cases b <;> rfl) (by
      unfold m16_serial_saneTx_s4
      rw [if_neg (by rw [decide_eq_true_eq]; omega)]) with ⟨_, e⟩ | ⟨_, e⟩
    · rw [e]; exact ⟨_, rfl⟩
    · rw [e]; exact k2 ks hk
  unfold m16_serial_saneTx
  obtain ⟨v, hv, hr'⟩ := iter_inv (f := m16_serial_saneTx_s8 x) (P := fun s => ∃ j : Nat, j ≤ x.Writes.length ∧ s.1 = (j : Int) ∧ s.2.length = j) (μ := fun s => x.Writes.length - s.1.toNat)
    (R := fun v => (∃ b, v = .inl b) ∨ ∃ ks, v = .inr ks ∧ ks.length ≤ 1000000000000000000) (by
      rintro ⟨_, ks⟩ ⟨j, hj, rfl, hk⟩
      dsimp only at hk
      unfold m16_serial_saneTx_s8
      dsimp only
      rcases Nat.lt_or_ge j x.Writes.length with hlt | hge
      · obtain ⟨b, hb⟩ := saneW24 x.Writes[j]
        rw [if_pos (decide_eq_true (by omega)), idx_nat, List.getElem?_eq_getElem hlt, Option.bind_some, hb, Option.bind_some]
        cases b with
        | false => exact .inr (.inr ⟨false, rfl, .inl ⟨_, rfl⟩⟩)
        | true =>
          by_cases hfit : (ks.length + [x.Writes[j].Key].length) * 24 ≤ 140737488355328
          · left
            rw [if_neg (by decide), if_pos hfit, wI_id (by omega) (by omega)]
            exact ⟨_, rfl, ⟨j + 1, hlt, rfl, by rw [List.length_append, hk]; rfl⟩, by simp only [Int.toNat_natCast]; omega⟩
          · exact absurd (show (ks.length + 1) * 24 ≤ 140737488355328 by omega) hfit
      · right; left
        rw [if_neg (by rw [decide_eq_true_eq]; omega)]
        exact ⟨_, rfl, .inr ⟨ks, rfl, by omega⟩⟩) fuel (0, []) ⟨0, Nat.zero_le _, rfl, rfl⟩ (lt_fuel (by show x.Writes.length - 0 ≤ _; omega))
  rw [hv]
  rcases hr' with ⟨b, rfl⟩ | ⟨ks, rfl, hk⟩
  · exact ⟨_, rfl⟩
  · exact k1 ks hk

def clash (a b : GSerialTx) : Prop := a.Token = b.Token ∨ a.Ts = b.Ts
instance (a b : GSerialTx) : Decidable (clash a b) := inferInstanceAs (Decidable (_ ∨ _))

theorem rows17 (l : List GSerialTx) (x : GSerialTx) (hl : l.length ≤ 1000000000000000000) : m17_serial_rows l x.Token x.Snap x.Ts x.Reads x.Writes = some (l.any fun y => decide (clash y x)) := by
  unfold m17_serial_rows m29_serial_rows
  obtain ⟨n, hn, hd⟩ := some_m l (fun y => decide (clash y x)) (m42_slices_IndexFuncs_s2 l x.Token x.Snap x.Ts x.Reads x.Writes) hl (fun i y hy => by
    have hlt := (List.getElem?_eq_some_iff.1 hy).1
    unfold m42_slices_IndexFuncs_s2 m15_serial_Sane_1s clash
    rw [if_pos (decide_eq_true (by omega)), idx_nat, hy, Option.bind_some, wI_id (by omega) (by omega)]
    by_cases h1 : y.Token = x.Token
    · simp [h1]
    · by_cases h2 : y.Ts = x.Ts <;> simp [h1, h2]) (by
    unfold m42_slices_IndexFuncs_s2
    rw [if_neg (by rw [decide_eq_true_eq]; omega)])
  have e : m42_slices_IndexFuncs l x.Token x.Snap x.Ts x.Reads x.Writes = some n := hn
  rw [e, Option.bind_some, Option.bind_some, hd]

def SaneP (l : List GSerialTx) : Prop := (∀ x ∈ l, m16_serial_saneTx x = some true) ∧ l.Pairwise (fun a b => ¬ clash a b) ∧ l.length ≤ 64

def badV (l : List GSerialTx) (i : Nat) : Bool := match l[i]? with | some x => !(m16_serial_saneTx x).getD false || (l.take i).any fun y => decide (clash y x) | none => false
theorem badV_eq {l : List GSerialTx} {i : Nat} (h : i < l.length) : badV l i = (!(m16_serial_saneTx l[i]).getD false || (l.take i).any fun y => decide (clash y l[i])) := by
  unfold badV
  rw [List.getElem?_eq_getElem h]
theorem sane24 {l : List GSerialTx} (hL : ∀ x ∈ l, Lim2 x) (hl : l.length ≤ 1000) : ∃ b, m8_serial_Sane l = some b ∧ (b = true ↔ SaneP l) := by
  have hlen : (List.range l.length).length = l.length := List.length_range
  unfold m8_serial_Sane
  rcases scan24 (List.range l.length) (badV l) (m8_serial_Sane_s2 l) (by omega) (fun i i' hx => by
    have hlt := (List.getElem?_eq_some_iff.1 hx).1
    rw [hlen] at hlt
    obtain rfl : i = i' := by rw [List.getElem?_range hlt] at hx; exact Option.some.inj hx
    have hxi := List.getElem?_eq_getElem hlt
    unfold m8_serial_Sane_s2
    obtain ⟨b, hb⟩ := saneTx24 (hL _ (List.getElem_mem hlt))
    rw [if_pos (decide_eq_true (by omega)), idx_nat, hxi, Option.bind_some]
    rw [badV_eq hlt, hb, Option.bind_some]
    cases b with
    | false => rfl
    | true =>
      rw [if_neg (by decide), cut_of (by omega) (by omega) (by omega), Option.bind_some]
      have e : ((l.drop (0 : Int).toNat).take ((i : Int).toNat - (0 : Int).toNat)) = l.take i := by simp
      rw [e, rows17 _ _ (by rw [List.length_take]; omega), Option.bind_some, wI_id (by omega) (by omega)]
      cases ((l.take i).any fun y => decide (clash y l[i])) <;> rfl) (by
    unfold m8_serial_Sane_s2
    rw [hlen, if_neg (by rw [decide_eq_true_eq]; omega)]) with ⟨⟨i, hi, hp⟩, e⟩ | ⟨hp, e⟩
  · rw [e]
    refine ⟨false, rfl, fun h => (by cases h), fun ⟨h1, h2, _⟩ => ?_⟩
    exfalso
    have hlt := List.mem_range.1 hi
    rw [badV_eq hlt] at hp
    rw [h1 _ (List.getElem_mem hlt)] at hp
    obtain ⟨y, hy, hc⟩ := List.any_eq_true.1 (show ((l.take i).any fun y => decide (clash y l[i])) = true from hp)
    obtain ⟨j, hj, rfl⟩ := List.mem_iff_getElem.1 hy
    rw [List.length_take] at hj
    rw [List.getElem_take] at hc
    exact (List.pairwise_iff_getElem.1 h2) j i (by omega) hlt (by omega) (of_decide_eq_true hc)
  · rw [e]
    refine ⟨_, rfl, fun h => ⟨fun x hx => ?_, List.pairwise_iff_getElem.2 fun i j hi hj hij hc => ?_, by have := of_decide_eq_true h; omega⟩, fun ⟨_, _, h⟩ => decide_eq_true (by omega)⟩
    · obtain ⟨i, hi, rfl⟩ := List.mem_iff_getElem.1 hx
      have := hp i (List.mem_range.2 hi)
      rw [badV_eq hi] at this
      obtain ⟨b, hb⟩ := saneTx24 (hL _ (List.getElem_mem hi))
      rw [hb] at this ⊢
      cases b with
      | true => rfl
      | false => cases this
    · have := hp j (List.mem_range.2 hj)
      rw [badV_eq hj] at this
      have hany : ((l.take j).any fun y => decide (clash y l[j])) = true := List.any_eq_true.2 ⟨l[i], List.mem_take_iff_getElem.2 ⟨i, by omega, rfl⟩, decide_eq_true hc⟩
      rw [hany, Bool.or_true] at this
      cases this
end Go.Proofs.Ytoajiidocnoopaa.Abs
