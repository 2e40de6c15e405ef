/-
  What the library's functions compute.
-/
import Derived.Test.YtlnpkincpgbmcaaDoorPe17
namespace Go.Proofs.YtlnpkincpgbmcaaDoor.Abs.Crc



abbrev W32 := BitVec 32
def pol : W32 := 3988292384#32
/-- One step. -/
def stp (v : W32) : W32 := (v >>> 1) ^^^ (if v.getLsbD 0 then pol else 0#32)
def stps : Nat → W32 → W32
  | 0, v => v
  | n + 1, v => stps n (stp v)
def e8 (v : W32) : W32 := stps 8 v
def fb (v : W32) (x : UInt8) : W32 := e8 (v ^^^ x.toBitVec.setWidth 32)
def fold8 (v : W32) (b : List UInt8) : W32 := b.foldl fb v
def e8n : Nat → W32 → W32
  | 0, v => v
  | n + 1, v => e8n n (e8 v)

theorem xor4 (a b c d : W32) : a ^^^ b ^^^ (c ^^^ d) = (a ^^^ c) ^^^ (b ^^^ d) := by
  rw [BitVec.xor_assoc, BitVec.xor_assoc]; congr 1
  rw [← BitVec.xor_assoc, ← BitVec.xor_assoc, BitVec.xor_comm b c]
theorem stp_xor (a b : W32) : stp (a ^^^ b) = stp a ^^^ stp b := by
  unfold stp
  rw [BitVec.ushiftRight_xor_distrib, BitVec.getLsbD_xor, xor4]
  congr 1
  cases a.getLsbD 0 <;> cases b.getLsbD 0 <;> simp
theorem stp_zero : stp 0#32 = 0#32 := by decide
theorem stps_xor : ∀ (n : Nat) (a b : W32), stps n (a ^^^ b) = stps n a ^^^ stps n b
  | 0, _, _ => rfl
  | n + 1, a, b => by rw [stps, stp_xor, stps_xor n]; rfl
theorem e8_xor (a b : W32) : e8 (a ^^^ b) = e8 a ^^^ e8 b := stps_xor 8 a b
theorem e8_zero : e8 0#32 = 0#32 := by decide
theorem e8n_xor : ∀ (n : Nat) (a b : W32), e8n n (a ^^^ b) = e8n n a ^^^ e8n n b
  | 0, _, _ => rfl
  | n + 1, a, b => by rw [e8n, e8_xor, e8n_xor n]; rfl
theorem e8n_zero : ∀ n, e8n n 0#32 = 0#32
  | 0 => rfl
  | n + 1 => by rw [e8n, e8_zero, e8n_zero n]
theorem e8n_add : ∀ (n m : Nat) (v : W32), e8n m (e8n n v) = e8n (n + m) v
  | 0, m, v => by rw [Nat.zero_add]; rfl
  | n + 1, m, v => by rw [e8n, e8n_add n m, show n + 1 + m = (n + m) + 1 by omega, e8n]

theorem xor_self_iff {a b : W32} : a ^^^ b = 0#32 ↔ a = b := by
  constructor
  · intro h
    have : a ^^^ b ^^^ b = 0#32 ^^^ b := by rw [h]
    rwa [BitVec.xor_assoc, BitVec.xor_self, BitVec.xor_zero, BitVec.zero_xor] at this
  · rintro rfl; exact BitVec.xor_self

theorem stp_top (v : W32) : (stp v).getLsbD 31 = v.getLsbD 0 := by
  unfold stp
  rw [BitVec.getLsbD_xor, BitVec.getLsbD_ushiftRight, BitVec.getLsbD_of_ge v (1 + 31) (by omega), Bool.false_xor]
  cases v.getLsbD 0 <;> decide
theorem stp_inj0 {v : W32} (h : stp v = 0#32) : v = 0#32 := by
  have h0 : v.getLsbD 0 = false := by rw [← stp_top, h]; decide
  have h1 : v >>> 1 = 0#32 := by
    unfold stp at h
    rw [h0] at h
    simpa using h
  apply BitVec.eq_of_getLsbD_eq
  intro i hi
  cases i with
  | zero => rw [h0]; simp
  | succ i =>
    have := congrArg (fun w => BitVec.getLsbD w i) h1
    simp only [BitVec.getLsbD_ushiftRight, BitVec.getLsbD_zero] at this
    rw [Nat.add_comm 1 i] at this
    rw [this]; simp
theorem stps_inj0 : ∀ (n : Nat) {v : W32}, stps n v = 0#32 → v = 0#32
  | 0, _, h => h
  | n + 1, v, h => stp_inj0 (stps_inj0 n h)
theorem e8_inj0 {v : W32} (h : e8 v = 0#32) : v = 0#32 := stps_inj0 8 h
theorem e8n_inj0 : ∀ (n : Nat) {v : W32}, e8n n v = 0#32 → v = 0#32
  | 0, _, h => h
  | n + 1, v, h => e8_inj0 (e8n_inj0 n h)
theorem e8n_inj {n : Nat} {a b : W32} (h : e8n n a = e8n n b) : a = b := by
  refine xor_self_iff.1 (e8n_inj0 n ?_)
  rw [e8n_xor, h, BitVec.xor_self]

/-- Digits that are nothing are shifted out. -/
theorem stps_low : ∀ (n : Nat) (v : W32), (∀ i, i < n → v.getLsbD i = false) → stps n v = v >>> n
  | 0, v, _ => by simp [stps]
  | n + 1, v, h => by
    have h1 : stp v = v >>> 1 := by unfold stp; rw [h 0 (by omega)]; simp
    rw [stps, h1, stps_low n _ (fun i hi => by rw [BitVec.getLsbD_ushiftRight]; exact h (1 + i) (by omega)), ← BitVec.shiftRight_add, Nat.add_comm]
def lo8 (v : W32) : W32 := (v.setWidth 8).setWidth 32
theorem lo8_get (v : W32) (i : Nat) : (lo8 v).getLsbD i = (decide (i < 8) && v.getLsbD i) := by
  unfold lo8
  rw [BitVec.getLsbD_setWidth, BitVec.getLsbD_setWidth]
  by_cases h : i < 8
  · have : i < 32 := by omega
    simp [h, this]
  · simp [h]
theorem lo8_shift (v : W32) : lo8 v >>> 8 = 0#32 := by
  apply BitVec.eq_of_getLsbD_eq
  intro i hi
  rw [BitVec.getLsbD_ushiftRight, lo8_get]
  simp; omega
theorem e8_split (v : W32) : e8 v = (v >>> 8) ^^^ e8 (lo8 v) := by
  have h1 : v = (v ^^^ lo8 v) ^^^ lo8 v := by rw [BitVec.xor_assoc, BitVec.xor_self, BitVec.xor_zero]
  conv => lhs; rw [h1]
  rw [e8_xor]
  congr 1
  show stps 8 _ = _
  rw [stps_low 8 _ (fun i hi => by rw [BitVec.getLsbD_xor, lo8_get]; simp [hi]), BitVec.ushiftRight_xor_distrib, lo8_shift, BitVec.xor_zero]

theorem fold8_xor : ∀ (a b x : List UInt8) (v w : W32), a.length = b.length → x = (a.zip b).map (fun p => p.1 ^^^ p.2) → fold8 (v ^^^ w) x = fold8 v a ^^^ fold8 w b
  | [], [], x, v, w, _, hx => by subst hx; rfl
  | a :: s, b :: u, x, v, w, hl, hx => by
    subst hx
    have : fb (v ^^^ w) (a ^^^ b) = fb v a ^^^ fb w b := by
      unfold fb
      rw [← e8_xor]
      congr 1
      rw [show (a ^^^ b).toBitVec = a.toBitVec ^^^ b.toBitVec from rfl, BitVec.setWidth_xor, xor4]
    show fold8 (fb (v ^^^ w) (a ^^^ b)) _ = fold8 (fb v a) s ^^^ fold8 (fb w b) u
    rw [this]
    exact fold8_xor s u _ _ _ (by simpa using hl) rfl
  | [], _ :: _, _, _, _, h, _ => by simp at h
  | _ :: _, [], _, _, _, h, _ => by simp at h
theorem fold8_app (v : W32) (a b : List UInt8) : fold8 v (a ++ b) = fold8 (fold8 v a) b := List.foldl_append ..
theorem fold8_zeros : ∀ (n : Nat) (v : W32), fold8 v (List.replicate n 0) = e8n n v
  | 0, _ => rfl
  | n + 1, v => by
    rw [List.replicate_succ]
    show fold8 (fb v 0) _ = _
    rw [fold8_zeros n, e8n]
    congr 1
    unfold fb
    rw [show (0 : UInt8).toBitVec.setWidth 32 = 0#32 from by decide, BitVec.xor_zero]

/-! What the program's and the document's texts compute -/
theorem lsb_eq (v : W32) : decide (((v &&& (1#32)).toNat : Int) = (1 : Int)) = v.getLsbD 0 := by
  have h : (v &&& 1#32).toNat = v.toNat % 2 := by rw [BitVec.toNat_and]; exact Nat.and_one_is_mod _
  rw [h]
  have h2 : v.getLsbD 0 = decide (v.toNat % 2 = 1) := by rw [BitVec.getLsbD, Nat.testBit_zero]
  rw [h2]
  rw [decide_eq_decide]; omega
theorem step_m (v : W32) : m82_crc_step v = some (stp v) := by
  unfold m82_crc_step stp
  rw [lsb_eq]
  cases v.getLsbD 0
  · simp
  · rfl
theorem lsb2_eq (v : W32) : decide (((v % (2#32)).toNat : Int) = (1 : Int)) = v.getLsbD 0 := by
  have h : (v % 2#32).toNat = v.toNat % 2 := by rw [BitVec.toNat_umod]; rfl
  rw [h]
  have h2 : v.getLsbD 0 = decide (v.toNat % 2 = 1) := by rw [BitVec.getLsbD, Nat.testBit_zero]
  rw [h2, decide_eq_decide]; omega
theorem half_eq (v : W32) : v / 2#32 = v >>> 1 := by
  apply BitVec.eq_of_toNat_eq
  rw [BitVec.toNat_udiv, BitVec.toNat_ushiftRight, Nat.shiftRight_eq_div_pow]
  rfl
theorem stps_succ : ∀ (n : Nat) (v : W32), stps (n + 1) v = stp (stps n v)
  | 0, _ => rfl
  | n + 1, v => by rw [stps, stps_succ n]; rfl
def tab : List W32 := (List.range 256).map fun i => e8 (BitVec.ofNat 32 i)
theorem table_m : m80_crc_Table = some tab := by decide +kernel
theorem tab_len : tab.length = 256 := by simp [tab]
theorem tab_get {i : Nat} (h : i < 256) : tab[i]? = some (e8 (BitVec.ofNat 32 i)) := by
  unfold tab
  rw [List.getElem?_map, List.getElem?_range h]; rfl
theorem tab_idx (x : BitVec 8) : idx tab (x.toNat : Int) = some (e8 (x.setWidth 32)) := by
  rw [idx_nat, tab_get (by have := x.isLt; omega)]
  congr 2
  apply BitVec.eq_of_toNat_eq
  rw [BitVec.toNat_ofNat, BitVec.toNat_setWidth]
theorem lo8_xor (v : W32) (x : UInt8) : (v.setWidth 8 ^^^ x.toBitVec).setWidth 32 = lo8 (v ^^^ x.toBitVec.setWidth 32) := by
  unfold lo8
  congr 1
  rw [BitVec.setWidth_xor]
  congr 1
  simp
theorem hi_xor (v : W32) (x : UInt8) : (v ^^^ x.toBitVec.setWidth 32) >>> 8 = v >>> 8 := by
  rw [BitVec.ushiftRight_xor_distrib]
  have : (x.toBitVec.setWidth 32 : W32) >>> 8 = 0#32 := by
    apply BitVec.eq_of_getLsbD_eq
    intro i hi
    rw [BitVec.getLsbD_ushiftRight, BitVec.getLsbD_setWidth, BitVec.getLsbD_of_ge x.toBitVec (8 + i) (by omega)]
    simp
  rw [this, BitVec.xor_zero]
theorem fb_tab (v : W32) (x : UInt8) : (v >>> 8) ^^^ e8 ((v.setWidth 8 ^^^ x.toBitVec).setWidth 32) = fb v x := by
  unfold fb
  rw [e8_split (v ^^^ _), hi_xor, lo8_xor]

theorem more_m (s : W32) (b : List UInt8) (hb : b.length ≤ 100000) : m76_crc_More s b = some (~~~ fold8 (~~~ s) b) := by
  unfold m76_crc_More
  rw [table_m]
  simp only [Option.bind_some]
  rw [if_pos List.length_replicate, if_pos tab_len]
  have := iterB_fold (f := m76_crc_More_s5 b tab) (fun (acc : W32) (i : Nat) => (acc, (i : Int))) b fb id (by omega) (fun acc i x hx => by
    have hi := (List.getElem?_eq_some_iff.1 hx).1
    unfold m76_crc_More_s5
    simp only
    have hlt := (acc.setWidth 8 ^^^ x.toBitVec).isLt
    rw [if_pos (decide_eq_true (by omega)), idx_nat, hx]
    simp only [Option.bind_some]
    rw [if_pos ⟨by omega, by omega⟩, tab_idx]
    simp only [Option.bind_some]
    rw [wI_id (by omega) (by omega)]
    rw [show (8 : Int).toNat = 8 from rfl, fb_tab]
    rfl) (fun acc => by
    unfold m76_crc_More_s5
    simp) (~~~ s)
  rw [show ((~~~ s, 0) : W32 × Int) = (~~~ s, ((0 : Nat) : Int)) from rfl, this]
  rfl
theorem of_m (b : List UInt8) (hb : b.length ≤ 100000) : m77_crc_Of b = some (~~~ fold8 (~~~ 0#32) b) := by
  unfold m77_crc_Of
  rw [more_m _ b hb]
  rfl
theorem e8n_succ : ∀ (n : Nat) (v : W32), e8n (n + 1) v = e8 (e8n n v)
  | 0, _ => rfl
  | n + 1, v => by rw [e8n, e8n_succ n]; rfl
def cap16 (n : Int) : Nat := (min n 65536).toNat


theorem dec_eq (a b : W32) : decide ((a.toNat : Int) = (b.toNat : Int)) = decide (a = b) := by
  rw [decide_eq_decide]
  constructor
  · intro h; exact BitVec.eq_of_toNat_eq (by omega)
  · rintro rfl; rfl
theorem dec_zero (a : W32) : decide ((a.toNat : Int) = (0 : Int)) = decide (a = 0#32) := by
  rw [← dec_eq]; rfl
theorem len_ok {b : List UInt8} (h : (b.length : Int) ≤ 2000) : b.length ≤ 100000 := by omega

theorem in256 (a : BitVec 8) : (0 ≤ (a.toNat : Int) ∧ (a.toNat : Int) < ((256 : Nat) : Int)) = True := eq_true ⟨by omega, by have := a.isLt; omega⟩
theorem rep256 : ((List.replicate 256 (0#32 : W32)).length = 256) = True := eq_true List.length_replicate
theorem tabl : (tab.length = 256) = True := eq_true tab_len
theorem e8_inj {a b : W32} (h : e8 a = e8 b) : a = b := e8n_inj (n := 1) h
theorem sw_inj {a b : BitVec 8} (h : (a.setWidth 32 : W32) = b.setWidth 32) : a = b := by
  have := congrArg (BitVec.setWidth 8) h
  simpa using this
theorem mask_range (n : Int) : 0 ≤ wI ((BitVec.ofInt 64 n &&& BitVec.ofInt 64 255).toNat : Int) ∧ wI ((BitVec.ofInt 64 n &&& BitVec.ofInt 64 255).toNat : Int) ≤ 255 := by
  have h : (BitVec.ofInt 64 n &&& BitVec.ofInt 64 255).toNat ≤ 255 := by
    rw [BitVec.toNat_and]
    exact Nat.and_le_right
  rw [wI_id (by omega) (by omega)]
  omega
theorem set_take {α : Type} {xs : List α} {i : Nat} {u : α} : (xs.set i u).length = xs.length := List.length_set

/-- A row with a number's four bytes turned from k on. -/
def turnB (t : W32) (i : Nat) : UInt8 := UInt8.ofBitVec ((t >>> (8 * i)).setWidth 8)
def turned (b : List UInt8) (k : Nat) (t : W32) : Nat → List UInt8
  | 0 => b
  | i + 1 => (turned b k t i).set (k + i) ((turned b k t i).getD (k + i) 0 ^^^ turnB t i)
theorem turned_len (b : List UInt8) (k : Nat) (t : W32) : ∀ i, (turned b k t i).length = b.length
  | 0 => rfl
  | i + 1 => by rw [turned, List.length_set, turned_len]
theorem turned_get (b : List UInt8) (k : Nat) (t : W32) : ∀ (i j : Nat), j < b.length → (turned b k t i).getD j 0 = b.getD j 0 ^^^ (if k ≤ j ∧ j < k + i then turnB t (j - k) else 0)
  | 0, j, _ => by rw [if_neg (by omega)]; show b.getD j 0 = _; simp
  | i + 1, j, hj => by
    rw [turned]
    by_cases e : j = k + i
    · subst e
      rw [List.getD, List.getElem?_set_self (by rw [turned_len]; exact hj), Option.getD_some, turned_get b k t i _ hj, if_neg (by omega), if_pos (by omega), Nat.add_sub_cancel_left]
      simp
    · rw [List.getD, List.getElem?_set_ne (fun h => e h.symm), ← List.getD, turned_get b k t i j hj]
      congr 1
      by_cases h : k ≤ j ∧ j < k + i
      · rw [if_pos h, if_pos (by omega)]
      · rw [if_neg h, if_neg (by omega)]

theorem byte_low (t : W32) (i : Nat) : (turnB t i).toBitVec.setWidth 32 = lo8 (t >>> (8 * i)) := rfl
theorem four (t : W32) : fold8 0#32 [turnB t 0, turnB t 1, turnB t 2, turnB t 3] = e8n 4 t := by
  show fb (fb (fb (fb 0#32 (turnB t 0)) (turnB t 1)) (turnB t 2)) (turnB t 3) = e8 (e8 (e8 (e8 t)))
  have h : ∀ (v : W32) (j : Nat), fb (v ^^^ (t >>> (8 * j))) 0 = fb (v ^^^ (t >>> (8 * j))) 0 := fun _ _ => rfl
  -- what is left of t behind j bytes
  have step : ∀ (v : W32) (j : Nat), e8 (v ^^^ (t >>> (8 * j))) = fb v (turnB t j) ^^^ (t >>> (8 * (j + 1))) := by
    intro v j
    unfold fb
    rw [byte_low, e8_xor, e8_split (t >>> (8 * j)), e8_xor, ← BitVec.shiftRight_add, show 8 * j + 8 = 8 * (j + 1) by omega, BitVec.xor_comm (t >>> _), ← BitVec.xor_assoc]
  have s0 := step 0#32 0
  have s1 := step (fb 0#32 (turnB t 0)) 1
  have s2 := step (fb (fb 0#32 (turnB t 0)) (turnB t 1)) 2
  have s3 := step (fb (fb (fb 0#32 (turnB t 0)) (turnB t 1)) (turnB t 2)) 3
  have t4 : t >>> (8 * (3 + 1)) = 0#32 := by
    apply BitVec.eq_of_getLsbD_eq
    intro i hi
    rw [BitVec.getLsbD_ushiftRight, BitVec.getLsbD_of_ge _ _ (by omega)]
    simp
  rw [t4, BitVec.xor_zero] at s3
  have t0 : (0#32 : W32) ^^^ t >>> (8 * 0) = t := by simp
  rw [t0] at s0
  rw [s0, s1, s2, s3]

theorem fold8_turned (b : List UInt8) (k : Nat) (t : W32) (hk : k + 4 ≤ b.length) (v : W32) : fold8 v b ^^^ fold8 v (turned b k t 4) = e8n (b.length - (k + 4)) (e8n 4 t) := by
  have hx := fold8_xor b (turned b k t 4) (List.replicate k 0 ++ ([turnB t 0, turnB t 1, turnB t 2, turnB t 3] ++ List.replicate (b.length - (k + 4)) 0)) v v (turned_len b k t 4).symm (by
    apply List.ext_getElem
    · simp [turned_len]; omega
    · intro i h1 h2
      have hi : i < b.length := by simp at h2; omega
      have hg : (turned b k t 4)[i]'(by rw [turned_len]; exact hi) = b[i] ^^^ (if k ≤ i ∧ i < k + 4 then turnB t (i - k) else 0) := by
        have := turned_get b k t 4 i hi
        simp only [List.getD, List.getElem?_eq_getElem (show i < (turned b k t 4).length by rw [turned_len]; exact hi), List.getElem?_eq_getElem hi, Option.getD_some] at this
        exact this
      have hr : ((b.zip (turned b k t 4)).map fun p => p.1 ^^^ p.2)[i]'h2 = (if k ≤ i ∧ i < k + 4 then turnB t (i - k) else 0) := by
        simp only [List.getElem_map, List.getElem_zip, hg]
        rw [← UInt8.xor_assoc, UInt8.xor_self, UInt8.zero_xor]
      rw [hr]
      by_cases c1 : i < k
      · rw [if_neg (by omega), List.getElem_append_left (by simpa using c1), List.getElem_replicate]
      · rw [List.getElem_append_right (by simpa using Nat.le_of_not_lt c1)]
        simp only [List.length_replicate]
        by_cases c2 : i - k < 4
        · rw [if_pos (by omega), List.getElem_append_left (by simpa using c2)]
          obtain ⟨q, hq⟩ : ∃ q, i - k = q := ⟨_, rfl⟩
          simp only [hq] at c2 ⊢
          rcases q with _ | _ | _ | _ | q
          · rfl
          · rfl
          · rfl
          · rfl
          · omega
        · rw [if_neg (by omega), List.getElem_append_right (by simpa using Nat.le_of_not_lt c2), List.getElem_replicate])
  rw [← hx, BitVec.xor_self, fold8_app, fold8_zeros, e8n_zero, fold8_app, four, fold8_zeros]

end Go.Proofs.YtlnpkincpgbmcaaDoor.Abs.Crc
