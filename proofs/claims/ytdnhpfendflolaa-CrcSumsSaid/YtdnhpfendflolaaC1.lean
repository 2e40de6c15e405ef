/-
  The statements of the sums, over what their texts compute.
-/
import Derived.Test.YtdnhpfendflolaaC0
namespace Go.Proofs.Ytdnhpfendflolaa.Abs

theorem dec_eq (a b : W32) : decide ((a.toNat : Int) = (b.toNat : Int)) = decide (a = b) := by
  rw [decide_eq_decide]
  constructor
  · intro h; exact BitVec.eq_of_toNat_eq (by omega)
  · rintro rfl; rfl
theorem dec_zero (a : W32) : decide ((a.toNat : Int) = (0 : Int)) = decide (a = 0#32) := by
  rw [← dec_eq]; rfl
theorem len_ok {b : List UInt8} (h : (b.length : Int) ≤ 2000) : b.length ≤ 100000 := by omega

theorem crcJoins_true (a b : List UInt8) (s : W32) : m4_l02_CrcJoins a b s = some true := by
  unfold m4_l02_CrcJoins
  rw [awake_m]
  simp only [Option.bind_some]
  by_cases h1 : (2000 : Int) < a.length
  · rw [if_pos (decide_eq_true h1)]
  rw [if_neg (by rw [decide_eq_true_eq]; exact h1)]
  by_cases h2 : (2000 : Int) < b.length
  · rw [if_pos (decide_eq_true h2)]
  rw [if_neg (by rw [decide_eq_true_eq]; exact h2)]
  unfold m4_l02_CrcJoins_k2
  rw [if_pos (by simp; omega), if_pos (by simp; omega), more_m _ a (by omega)]
  simp only [Option.bind_some, if_true]
  have hab : ([] ++ a ++ b).length ≤ 100000 := by simp; omega
  rw [of_m _ hab, of_m a (by omega)]
  simp only [Option.bind_some]
  rw [more_m _ b (by omega)]
  simp only [Option.bind_some]
  rw [dec_eq, of_m b (by omega)]
  simp only [Option.bind_some]
  rw [join_m]
  simp only [Option.bind_some]
  rw [dec_eq, more_m _ _ hab]
  simp only [Option.bind_some]
  rw [more_m _ b (by omega)]
  simp only [Option.bind_some]
  rw [dec_eq, List.nil_append]
  simp only [BitVec.not_not]
  rw [fold8_app, fold8_app]
  rw [if_pos (decide_eq_true rfl)]
  have hcap : cap16 (b.length : Int) = b.length := by unfold cap16; omega
  have key : ~~~ fold8 (fold8 (~~~ 0#32) a) b = e8n (cap16 (b.length : Int)) (~~~ fold8 (~~~ 0#32) a) ^^^ ~~~ fold8 (~~~ 0#32) b := by
    rw [hcap]
    have hz := fold8_xor b (List.replicate b.length 0) b (~~~ 0#32) (~~~ fold8 (~~~ 0#32) a) (by simp) (by
      have : (b.zip (List.replicate b.length (0 : UInt8))).map (fun p => p.1 ^^^ p.2) = b := by
        apply List.ext_getElem
        · simp
        · intro i h1 h2
          simp
      exact this.symm)
    rw [fold8_zeros] at hz
    have e1 : (~~~ 0#32 : W32) ^^^ ~~~ fold8 (~~~ 0#32) a = fold8 (~~~ 0#32) a := by
      rw [show (~~~ 0#32 : W32) = BitVec.allOnes 32 from by decide, BitVec.allOnes_xor, BitVec.not_not]
    rw [e1] at hz
    rw [hz]
    rw [BitVec.xor_comm (e8n _ _)]
    apply BitVec.eq_of_getLsbD_eq
    intro i hi
    simp [hi]
  rw [if_pos (decide_eq_true key)]
  rw [decide_eq_true rfl]

theorem in256 (a : BitVec 8) : (0 ≤ (a.toNat : Int) ∧ (a.toNat : Int) < ((256 : Nat) : Int)) = True := eq_true ⟨by omega, by have := a.isLt; omega⟩
theorem rep256 : ((List.replicate 256 (0#32 : W32)).length = 256) = True := eq_true List.length_replicate
theorem tabl : (tab.length = 256) = True := eq_true tab_len
theorem e8_inj {a b : W32} (h : e8 a = e8 b) : a = b := e8n_inj (n := 1) h
theorem sw_inj {a b : BitVec 8} (h : (a.setWidth 32 : W32) = b.setWidth 32) : a = b := by
  have := congrArg (BitVec.setWidth 8) h
  simpa using this
theorem crcEach_true (a b : BitVec 8) : m8_l02_CrcEach a b = some true := by
  unfold m8_l02_CrcEach
  simp only [awake_m, table_m, Option.bind_some, rep256, tabl, if_true, in256, tab_idx, dec_eq, shift_m]
  have h1 : (e8 (a.setWidth 32) ^^^ e8 (b.setWidth 32) : W32) = e8 ((a ^^^ b).setWidth 32) := by rw [← e8_xor, BitVec.setWidth_xor]
  have h2 : (decide (e8 (a.setWidth 32 : W32) = e8 (b.setWidth 32)) == decide ((a.toNat : Int) = (b.toNat : Int))) = true := by
    rw [beq_iff_eq, decide_eq_decide]
    constructor
    · intro h; rw [sw_inj (e8_inj h)]
    · intro h; rw [BitVec.eq_of_toNat_eq (by omega : a.toNat = b.toNat)]
  rw [decide_eq_true h1, if_pos rfl, h2, if_pos rfl]
  rw [decide_eq_true]
  rfl

theorem mask_range (n : Int) : 0 ≤ wI ((BitVec.ofInt 64 n &&& BitVec.ofInt 64 255).toNat : Int) ∧ wI ((BitVec.ofInt 64 n &&& BitVec.ofInt 64 255).toNat : Int) ≤ 255 := by
  have h : (BitVec.ofInt 64 n &&& BitVec.ofInt 64 255).toNat ≤ 255 := by
    rw [BitVec.toNat_and]
    exact Nat.and_le_right
  rw [wI_id (by omega) (by omega)]
  omega
theorem crcShifts_true (a b : W32) (n m : Int) : m7_l02_CrcShifts a b n m = some true := by
  unfold m7_l02_CrcShifts
  obtain ⟨x1, x2⟩ := mask_range n
  obtain ⟨y1, y2⟩ := mask_range m
  generalize wI ((BitVec.ofInt 64 n &&& BitVec.ofInt 64 255).toNat : Int) = x at *
  generalize wI ((BitVec.ofInt 64 m &&& BitVec.ofInt 64 255).toNat : Int) = y at *
  have hxy : wI (x + y) = x + y := wI_id (by omega) (by omega)
  simp only [awake_m, Option.bind_some, if_true, shift_m, dec_eq, dec_zero, hxy, e8n_zero, e8n_add]
  have c : cap16 (x + y) = cap16 x + cap16 y := by unfold cap16; omega
  have c0 : cap16 0 = 0 := by decide
  rw [c, c0]
  simp only [e8n, decide_true, if_true]
  congr 1
  rw [beq_iff_eq, decide_eq_decide]
  exact ⟨fun h => e8n_inj h, fun h => by rw [h]⟩

theorem crcIs_true (b : List UInt8) (s a : W32) (n : Int) : m3_l02_CrcIs b s a n = some true := by
  unfold m3_l02_CrcIs
  simp only [awake_m, table_m, table_r, Option.bind_some, rep256, tabl, if_true]
  by_cases h1 : (2000 : Int) < b.length
  · rw [if_pos (decide_eq_true h1)]
  rw [if_neg (by rw [decide_eq_true_eq]; exact h1)]
  obtain ⟨x, hx, hr⟩ := iter_inv (f := m3_l02_CrcIs_s17 tab tab) (P := fun s => ∃ k : Nat, k ≤ 256 ∧ s = (k : Int)) (μ := fun s => 256 - s.toNat) (R := fun x => x = .inr ()) (by
    rintro s ⟨k, hk, rfl⟩
    unfold m3_l02_CrcIs_s17
    by_cases h8 : k = 256
    · refine .inr (.inl ⟨(), ?_, rfl⟩)
      rw [if_neg (by rw [decide_eq_true_eq]; omega)]
    · refine .inl ⟨((k + 1 : Nat) : Int), ?_, ⟨k + 1, by omega, rfl⟩, by omega⟩
      rw [if_pos (decide_eq_true (by omega)), if_pos ⟨by omega, by omega⟩, idx_nat, tab_get (by omega)]
      simp only [Option.bind_some]
      rw [if_pos ⟨by omega, by omega⟩]
      simp only [decide_true, Bool.not_true, Bool.false_eq_true, if_false]
      rw [wI_id (by omega) (by omega)]
      rfl) fuel 0 ⟨0, by omega, rfl⟩ (lt_fuel (by first | omega | (simp only; omega)))
  rw [hx, hr]
  simp only [Option.bind_some]
  unfold m3_l02_CrcIs_k8
  have hb : b.length ≤ 100000 := by omega
  simp only [if_true, of_m b hb, of_r b hb, more_m _ b hb, more_r _ b hb, shift_m, shift_r, join_m, join_r, Option.bind_some, decide_true]

theorem set_take {α : Type} {xs : List α} {i : Nat} {u : α} : (xs.set i u).length = xs.length := List.length_set

theorem crcSums_true (a b : List UInt8) : m6_l02_CrcSums a b = some true := by
  unfold m6_l02_CrcSums
  simp only [awake_m, Option.bind_some]
  by_cases h1 : (2000 : Int) < a.length
  · rw [if_pos (decide_eq_true h1)]
  rw [if_neg (by rw [decide_eq_true_eq]; exact h1)]
  by_cases h2 : (a.length : Int) = b.length
  case neg => rw [if_pos (by rw [decide_eq_false h2]; rfl)]
  rw [if_neg (by rw [decide_eq_true h2]; simp)]
  unfold m6_l02_CrcSums_k2
  rw [if_pos ⟨by omega, by omega, by omega⟩, Int.toNat_natCast]
  have hl : a.length = b.length := by omega
  let z : List UInt8 := (a.zip b).map fun p => p.1 ^^^ p.2
  have hz : z.length = a.length := by simp [z, hl]
  obtain ⟨x, hx, hr⟩ := iterB_inv (f := m6_l02_CrcSums_s10 a b) (P := fun s => ∃ k : Nat, k ≤ a.length ∧ s.1 = (k : Int) ∧ s.2 = z.take k ++ List.replicate (a.length - k) 0) (μ := fun s => a.length - s.1.toNat) (R := fun x => x = z) (by
    rintro ⟨i, l⟩ ⟨k, hk, hi, hs⟩
    simp only at hi hs
    subst hi
    unfold m6_l02_CrcSums_s10
    simp only
    by_cases h8 : k = a.length
    · refine .inr ⟨l, ?_, ?_⟩
      · rw [if_neg (by rw [decide_eq_true_eq]; omega)]
      · rw [hs, h8, Nat.sub_self, ← hz, List.take_length]; simp
    · have ha : a[k]? = some (a[k]'(by omega)) := List.getElem?_eq_getElem _
      have hb : b[k]? = some (b[k]'(by omega)) := List.getElem?_eq_getElem _
      have hzk : z[k]? = some (a[k]'(by omega) ^^^ b[k]'(by omega)) := by
        simp only [z, List.getElem?_map, Option.map_eq_some_iff]
        exact ⟨(_, _), List.getElem?_zip_eq_some.2 ⟨ha, hb⟩, rfl⟩
      have htl : (z.take k).length = k := by rw [List.length_take]; omega
      have hlk : l[k]? = some 0 := by
        rw [hs, List.getElem?_append_right (by omega), htl, Nat.sub_self, List.getElem?_replicate, if_pos (by omega)]
      refine .inl ⟨(((k + 1 : Nat) : Int), z.take (k + 1) ++ List.replicate (a.length - (k + 1)) 0), ?_, ⟨k + 1, by omega, rfl, rfl⟩, by simp only; omega⟩
      rw [if_pos (decide_eq_true (by omega)), idx_nat, idx_nat, idx_nat, ha, hb, hlk]
      simp only [Option.bind_some]
      rw [wI_id (by omega) (by omega), Int.toNat_natCast]
      congr 3
      rw [hs, List.set_append_right _ _ (by omega), htl, Nat.sub_self, List.take_add_one, hzk]
      obtain ⟨q, hq⟩ : ∃ q, a.length - k = q + 1 := ⟨a.length - k - 1, by omega⟩
      rw [hq, List.replicate_succ, List.set_cons_zero, show a.length - (k + 1) = q by omega]
      simp only [Option.toList_some, List.append_assoc, List.singleton_append]
      rfl) fuel (0, List.replicate a.length 0) ⟨0, by omega, rfl, by simp⟩ (lt_fuel (by first | omega | (simp only; omega)))
  rw [hx, hr]
  simp only [Option.bind_some]
  unfold m6_l02_CrcSums_k4
  have hzr : (List.replicate a.length (0 : UInt8)).length ≤ 100000 := by simp; omega
  simp only [if_true, of_m a (by omega), of_m b (by omega), of_m z (by omega), Option.bind_some, Int.toNat_natCast]
  rw [if_pos ⟨by omega, by omega, by omega⟩, of_m _ hzr]
  simp only [Option.bind_some, dec_eq]
  congr 1
  refine decide_eq_true ?_
  have h3 := fold8_xor a b z (~~~ 0#32) (~~~ 0#32) hl rfl
  have h4 := fold8_xor z (List.replicate a.length 0) z 0#32 (~~~ 0#32) (by simp [hz]) (by
    have : (z.zip (List.replicate a.length (0 : UInt8))).map (fun p => p.1 ^^^ p.2) = z := by
      apply List.ext_getElem
      · simp [hz]
      · intro i h1 h2
        simp
    exact this.symm)
  rw [BitVec.xor_self] at h3
  rw [BitVec.zero_xor] at h4
  rw [h4, h3]
  generalize fold8 (~~~ 0#32) a = A
  generalize fold8 (~~~ 0#32) b = B
  generalize fold8 (~~~ 0#32) (List.replicate a.length 0) = C
  apply BitVec.eq_of_getLsbD_eq
  intro i hi
  simp only [BitVec.getLsbD_xor, BitVec.getLsbD_not, hi, decide_true, Bool.true_and]
  cases A.getLsbD i <;> cases B.getLsbD i <;> cases C.getLsbD i <;> rfl

/-- A row with a number's four bytes turned from k on. -/
def turnB (t : W32) (i : Nat) : UInt8 := UInt8.ofBitVec ((t >>> (8 * i)).setWidth 8)
def turned (b : List UInt8) (k : Nat) (t : W32) : Nat → List UInt8
  | 0 => b
  | i + 1 => (turned b k t i).set (k + i) ((turned b k t i).getD (k + i) 0 ^^^ turnB t i)
theorem turned_len (b : List UInt8) (k : Nat) (t : W32) : ∀ i, (turned b k t i).length = b.length
  | 0 => rfl
  | i + 1 => by rw [turned, List.length_set, turned_len]
theorem turned_get (b : List UInt8) (k : Nat) (t : W32) : ∀ (i j : Nat), j < b.length → (turned b k t i).getD j 0 = b.getD j 0 ^^^ (if k ≤ j ∧ j < k + i then turnB t (j - k) else 0)
  | 0, j, _ => by rw [if_neg (by omega)]; show b.getD j 0 = _; simp
  | i + 1, j, hj => by
    rw [turned]
    by_cases e : j = k + i
    · subst e
      rw [List.getD, List.getElem?_set_self (by rw [turned_len]; exact hj), Option.getD_some, turned_get b k t i _ hj, if_neg (by omega), if_pos (by omega), Nat.add_sub_cancel_left]
      simp
    · rw [List.getD, List.getElem?_set_ne (fun h => e h.symm), ← List.getD, turned_get b k t i j hj]
      congr 1
      by_cases h : k ≤ j ∧ j < k + i
      · rw [if_pos h, if_pos (by omega)]
      · rw [if_neg h, if_neg (by omega)]

theorem byte_low (t : W32) (i : Nat) : (turnB t i).toBitVec.setWidth 32 = lo8 (t >>> (8 * i)) := rfl
theorem four (t : W32) : fold8 0#32 [turnB t 0, turnB t 1, turnB t 2, turnB t 3] = e8n 4 t := by
  show fb (fb (fb (fb 0#32 (turnB t 0)) (turnB t 1)) (turnB t 2)) (turnB t 3) = e8 (e8 (e8 (e8 t)))
  have h : ∀ (v : W32) (j : Nat), fb (v ^^^ (t >>> (8 * j))) 0 = fb (v ^^^ (t >>> (8 * j))) 0 := fun _ _ => rfl
  -- what is left of t behind j bytes
  have step : ∀ (v : W32) (j : Nat), e8 (v ^^^ (t >>> (8 * j))) = fb v (turnB t j) ^^^ (t >>> (8 * (j + 1))) := by
    intro v j
    unfold fb
    rw [byte_low, e8_xor, e8_split (t >>> (8 * j)), e8_xor, ← BitVec.shiftRight_add, show 8 * j + 8 = 8 * (j + 1) by omega, BitVec.xor_comm (t >>> _), ← BitVec.xor_assoc]
  have s0 := step 0#32 0
  have s1 := step (fb 0#32 (turnB t 0)) 1
  have s2 := step (fb (fb 0#32 (turnB t 0)) (turnB t 1)) 2
  have s3 := step (fb (fb (fb 0#32 (turnB t 0)) (turnB t 1)) (turnB t 2)) 3
  have t4 : t >>> (8 * (3 + 1)) = 0#32 := by
    apply BitVec.eq_of_getLsbD_eq
    intro i hi
    rw [BitVec.getLsbD_ushiftRight, BitVec.getLsbD_of_ge _ _ (by omega)]
    simp
  rw [t4, BitVec.xor_zero] at s3
  have t0 : (0#32 : W32) ^^^ t >>> (8 * 0) = t := by simp
  rw [t0] at s0
  rw [s0, s1, s2, s3]

theorem fold8_turned (b : List UInt8) (k : Nat) (t : W32) (hk : k + 4 ≤ b.length) (v : W32) : fold8 v b ^^^ fold8 v (turned b k t 4) = e8n (b.length - (k + 4)) (e8n 4 t) := by
  have hx := fold8_xor b (turned b k t 4) (List.replicate k 0 ++ ([turnB t 0, turnB t 1, turnB t 2, turnB t 3] ++ List.replicate (b.length - (k + 4)) 0)) v v (turned_len b k t 4).symm (by
    apply List.ext_getElem
    · simp [turned_len]; omega
    · intro i h1 h2
      have hi : i < b.length := by simp at h2; omega
      have hg : (turned b k t 4)[i]'(by rw [turned_len]; exact hi) = b[i] ^^^ (if k ≤ i ∧ i < k + 4 then turnB t (i - k) else 0) := by
        have := turned_get b k t 4 i hi
        simp only [List.getD, List.getElem?_eq_getElem (show i < (turned b k t 4).length by rw [turned_len]; exact hi), List.getElem?_eq_getElem hi, Option.getD_some] at this
        exact this
      have hr : ((b.zip (turned b k t 4)).map fun p => p.1 ^^^ p.2)[i]'h2 = (if k ≤ i ∧ i < k + 4 then turnB t (i - k) else 0) := by
        simp only [List.getElem_map, List.getElem_zip, hg]
        rw [← UInt8.xor_assoc, UInt8.xor_self, UInt8.zero_xor]
      rw [hr]
      by_cases c1 : i < k
      · rw [if_neg (by omega), List.getElem_append_left (by simpa using c1), List.getElem_replicate]
      · rw [List.getElem_append_right (by simpa using Nat.le_of_not_lt c1)]
        simp only [List.length_replicate]
        by_cases c2 : i - k < 4
        · rw [if_pos (by omega), List.getElem_append_left (by simpa using c2)]
          obtain ⟨q, hq⟩ : ∃ q, i - k = q := ⟨_, rfl⟩
          simp only [hq] at c2 ⊢
          rcases q with _ | _ | _ | _ | q
          · rfl
          · rfl
          · rfl
          · rfl
          · omega
        · rw [if_neg (by omega), List.getElem_append_right (by simpa using Nat.le_of_not_lt c2), List.getElem_replicate])
  rw [← hx, BitVec.xor_self, fold8_app, fold8_zeros, e8n_zero, fold8_app, four, fold8_zeros]

theorem crcTurns_true (b : List UInt8) (n : Int) (t : W32) : m5_l02_CrcTurns b n t = some true := by
  unfold m5_l02_CrcTurns
  simp only [awake_m, Option.bind_some]
  by_cases h1 : (2000 : Int) < b.length
  · rw [if_pos (decide_eq_true h1)]
  rw [if_neg (by rw [decide_eq_true_eq]; exact h1)]
  by_cases h2 : (b.length : Int) < 4
  · rw [if_pos (decide_eq_true h2)]
  rw [if_neg (by rw [decide_eq_true_eq]; exact h2)]
  unfold m5_l02_CrcTurns_k2
  have hw : wI ((b.length : Int) - 3) = (b.length : Int) - 3 := wI_id (by omega) (by omega)
  rw [if_pos (by rw [hw]; omega), if_pos (by simp; omega)]
  have hm : (BitVec.ofInt 64 n &&& BitVec.ofInt 64 65535).toNat ≤ 65535 := by rw [BitVec.toNat_and]; exact Nat.and_le_right
  obtain ⟨k, hk, hkl⟩ : ∃ k : Nat, (wI ((BitVec.ofInt 64 n &&& BitVec.ofInt 64 65535).toNat : Int)).tmod (wI ((b.length : Int) - 3)) = (k : Int) ∧ k + 4 ≤ b.length := by
    rw [wI_id (by omega) (by omega), hw]
    generalize (BitVec.ofInt 64 n &&& BitVec.ofInt 64 65535).toNat = N
    refine ⟨N % (b.length - 3), ?_, ?_⟩
    · rw [Int.tmod_eq_emod_of_nonneg (Int.natCast_nonneg N), Int.natCast_emod, show ((b.length - 3 : Nat) : Int) = (b.length : Int) - 3 by omega]
    · have := Nat.mod_lt N (show 0 < b.length - 3 by omega)
      omega
  obtain ⟨x, hx, hr⟩ := iterB_inv (f := m5_l02_CrcTurns_s8 b n t) (P := fun s => ∃ i : Nat, i ≤ 4 ∧ s = ((i : Int), turned b k t i)) (μ := fun s => 4 - s.1.toNat) (R := fun x => x = turned b k t 4) (by
    rintro s ⟨i, hi, rfl⟩
    unfold m5_l02_CrcTurns_s8
    simp only [hk]
    by_cases h8 : i = 4
    · refine .inr ⟨turned b k t 4, ?_, rfl⟩
      rw [if_neg (by rw [decide_eq_true_eq]; omega), h8]
    · refine .inl ⟨(((i + 1 : Nat) : Int), turned b k t (i + 1)), ?_, ⟨i + 1, by omega, rfl⟩, by simp only; omega⟩
      have e1 : wI ((k : Int) + (i : Int)) = ((k + i : Nat) : Int) := by rw [wI_id (by omega) (by omega)]; rfl
      have e2 : wI (8 * (i : Int)) = ((8 * i : Nat) : Int) := by rw [wI_id (by omega) (by omega)]; rfl
      have hlt : k + i < (turned b k t i).length := by rw [turned_len]; omega
      have hgt : (turned b k t i)[k + i]? = some ((turned b k t i).getD (k + i) 0) := by rw [List.getElem?_eq_getElem hlt]; simp [List.getD, List.getElem?_eq_getElem hlt]
      rw [if_pos (decide_eq_true (by omega)), e1, e2, idx_nat, hgt]
      simp only [Option.bind_some]
      rw [wI_id (by omega) (by omega), Int.toNat_natCast]
      have e3 : ((BitVec.ofInt 64 ((8 * i : Nat) : Int)).toNat : Int).toNat = 8 * i := by
        rw [Int.toNat_natCast, BitVec.ofInt_natCast, BitVec.toNat_ofNat]
        omega
      rw [e3]
      rfl) fuel (0, [] ++ b) ⟨0, by omega, rfl⟩ (lt_fuel (by simp only; omega))
  rw [hx, hr]
  simp only [Option.bind_some]
  unfold m5_l02_CrcTurns_k5
  simp only [if_true, of_m b (by omega), of_m (turned b k t 4) (by rw [turned_len]; omega), Option.bind_some, dec_eq, dec_zero]
  congr 1
  rw [beq_iff_eq, decide_eq_decide]
  have hf := fold8_turned b k t hkl (~~~ 0#32)
  constructor
  · intro h
    have h' : fold8 (~~~ 0#32) b = fold8 (~~~ 0#32) (turned b k t 4) := by
      have := congrArg (fun w => ~~~ w) h
      simpa using this
    rw [h', BitVec.xor_self] at hf
    exact e8n_inj0 4 (e8n_inj0 _ hf.symm)
  · rintro rfl
    rw [e8n_zero, e8n_zero, xor_self_iff] at hf
    rw [hf]
end Go.Proofs.Ytdnhpfendflolaa.Abs
