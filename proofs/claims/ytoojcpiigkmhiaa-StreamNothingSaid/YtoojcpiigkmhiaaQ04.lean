/-
  What the library's functions compute.
-/
import Derived.Test.YtoojcpiigkmhiaaS04
namespace Go.Proofs.Ytoojcpiigkmhiaa.Abs.Crc



abbrev W32 := BitVec 32
def pol : W32 := 3988292384#32
/-- One step. -/
def stp (v : W32) : W32 := (v >>> 1) ^^^ (if v.getLsbD 0 then pol else 0#32)
def stps : Nat → W32 → W32
  | 0, v => v
  | n + 1, v => stps n (stp v)
def e8 (v : W32) : W32 := stps 8 v
def fb (v : W32) (x : UInt8) : W32 := e8 (v ^^^ x.toBitVec.setWidth 32)
def fold8 (v : W32) (b : List UInt8) : W32 := b.foldl fb v
def e8n : Nat → W32 → W32
  | 0, v => v
  | n + 1, v => e8n n (e8 v)

theorem xor4 (a b c d : W32) : a ^^^ b ^^^ (c ^^^ d) = (a ^^^ c) ^^^ (b ^^^ d) := by
  rw [BitVec.xor_assoc, BitVec.xor_assoc]; congr 1
  rw [← BitVec.xor_assoc, ← BitVec.xor_assoc, BitVec.xor_comm b c]
theorem stp_xor (a b : W32) : stp (a ^^^ b) = stp a ^^^ stp b := by
  unfold stp
  rw [BitVec.ushiftRight_xor_distrib, BitVec.getLsbD_xor, xor4]
  congr 1
  cases a.getLsbD 0 <;> cases b.getLsbD 0 <;> simp
theorem stp_zero : stp 0#32 = 0#32 := by decide
theorem stps_xor : ∀ (n : Nat) (a b : W32), stps n (a ^^^ b) = stps n a ^^^ stps n b
  | 0, _, _ => rfl
  | n + 1, a, b => by rw [stps, stp_xor, stps_xor n]; rfl
theorem e8_xor (a b : W32) : e8 (a ^^^ b) = e8 a ^^^ e8 b := stps_xor 8 a b
theorem e8_zero : e8 0#32 = 0#32 := by decide
theorem e8n_xor : ∀ (n : Nat) (a b : W32), e8n n (a ^^^ b) = e8n n a ^^^ e8n n b
  | 0, _, _ => rfl
  | n + 1, a, b => by rw [e8n, e8_xor, e8n_xor n]; rfl
theorem e8n_zero : ∀ n, e8n n 0#32 = 0#32
  | 0 => rfl
  | n + 1 => by rw [e8n, e8_zero, e8n_zero n]
theorem e8n_add : ∀ (n m : Nat) (v : W32), e8n m (e8n n v) = e8n (n + m) v
  | 0, m, v => by rw [Nat.zero_add]; rfl
  | n + 1, m, v => by rw [e8n, e8n_add n m, show n + 1 + m = (n + m) + 1 by omega, e8n]

theorem xor_self_iff {a b : W32} : a ^^^ b = 0#32 ↔ a = b := by
  constructor
  · intro h
    have : a ^^^ b ^^^ b = 0#32 ^^^ b := by rw [h]
    rwa [BitVec.xor_assoc, BitVec.xor_self, BitVec.xor_zero, BitVec.zero_xor] at this
  · rintro rfl; exact BitVec.xor_self

theorem stp_top (v : W32) : (stp v).getLsbD 31 = v.getLsbD 0 := by
  unfold stp
  rw [BitVec.getLsbD_xor, BitVec.getLsbD_ushiftRight, BitVec.getLsbD_of_ge v (1 + 31) (by omega), Bool.false_xor]
  cases v.getLsbD 0 <;> decide
theorem stp_inj0 {v : W32} (h : stp v = 0#32) : v = 0#32 := by
  have h0 : v.getLsbD 0 = false := by rw [← stp_top, h]; decide
  have h1 : v >>> 1 = 0#32 := by
    unfold stp at h
    rw [h0] at h
    simpa using h
  apply BitVec.eq_of_getLsbD_eq
  intro i hi
  cases i with
  | zero => rw [h0]; simp
  | succ i =>
    have := congrArg (fun w => BitVec.getLsbD w i) h1
    simp only [BitVec.getLsbD_ushiftRight, BitVec.getLsbD_zero] at this
    rw [Nat.add_comm 1 i] at this
    rw [this]; simp
theorem stps_inj0 : ∀ (n : Nat) {v : W32}, stps n v = 0#32 → v = 0#32
  | 0, _, h => h
  | n + 1, v, h => stp_inj0 (stps_inj0 n h)
theorem e8_inj0 {v : W32} (h : e8 v = 0#32) : v = 0#32 := stps_inj0 8 h
theorem e8n_inj0 : ∀ (n : Nat) {v : W32}, e8n n v = 0#32 → v = 0#32
  | 0, _, h => h
  | n + 1, v, h => e8_inj0 (e8n_inj0 n h)
theorem e8n_inj {n : Nat} {a b : W32} (h : e8n n a = e8n n b) : a = b := by
  refine xor_self_iff.1 (e8n_inj0 n ?_)
  rw [e8n_xor, h, BitVec.xor_self]

/-- Digits that are nothing are shifted out. -/
theorem stps_low : ∀ (n : Nat) (v : W32), (∀ i, i < n → v.getLsbD i = false) → stps n v = v >>> n
  | 0, v, _ => by simp [stps]
  | n + 1, v, h => by
    have h1 : stp v = v >>> 1 := by unfold stp; rw [h 0 (by omega)]; simp
    rw [stps, h1, stps_low n _ (fun i hi => by rw [BitVec.getLsbD_ushiftRight]; exact h (1 + i) (by omega)), ← BitVec.shiftRight_add, Nat.add_comm]
def lo8 (v : W32) : W32 := (v.setWidth 8).setWidth 32
theorem lo8_get (v : W32) (i : Nat) : (lo8 v).getLsbD i = (decide (i < 8) && v.getLsbD i) := by
  unfold lo8
  rw [BitVec.getLsbD_setWidth, BitVec.getLsbD_setWidth]
  by_cases h : i < 8
  · have : i < 32 := by omega
    simp [h, this]
  · simp [h]
theorem lo8_shift (v : W32) : lo8 v >>> 8 = 0#32 := by
  apply BitVec.eq_of_getLsbD_eq
  intro i hi
  rw [BitVec.getLsbD_ushiftRight, lo8_get]
  simp; omega
theorem e8_split (v : W32) : e8 v = (v >>> 8) ^^^ e8 (lo8 v) := by
  have h1 : v = (v ^^^ lo8 v) ^^^ lo8 v := by rw [BitVec.xor_assoc, BitVec.xor_self, BitVec.xor_zero]
  conv => lhs; rw [h1]
  rw [e8_xor]
  congr 1
  show stps 8 _ = _
  rw [stps_low 8 _ (fun i hi => by rw [BitVec.getLsbD_xor, lo8_get]; simp [hi]), BitVec.ushiftRight_xor_distrib, lo8_shift, BitVec.xor_zero]

theorem fold8_xor : ∀ (a b x : List UInt8) (v w : W32), a.length = b.length → x = (a.zip b).map (fun p => p.1 ^^^ p.2) → fold8 (v ^^^ w) x = fold8 v a ^^^ fold8 w b
  | [], [], x, v, w, _, hx => by subst hx; rfl
  | a :: s, b :: u, x, v, w, hl, hx => by
    subst hx
    have : fb (v ^^^ w) (a ^^^ b) = fb v a ^^^ fb w b := by
      unfold fb
      rw [← e8_xor]
      congr 1
      rw [show (a ^^^ b).toBitVec = a.toBitVec ^^^ b.toBitVec from rfl, BitVec.setWidth_xor, xor4]
    show fold8 (fb (v ^^^ w) (a ^^^ b)) _ = fold8 (fb v a) s ^^^ fold8 (fb w b) u
    rw [this]
    exact fold8_xor s u _ _ _ (by simpa using hl) rfl
  | [], _ :: _, _, _, _, h, _ => by simp at h
  | _ :: _, [], _, _, _, h, _ => by simp at h
theorem fold8_app (v : W32) (a b : List UInt8) : fold8 v (a ++ b) = fold8 (fold8 v a) b := List.foldl_append ..
theorem fold8_zeros : ∀ (n : Nat) (v : W32), fold8 v (List.replicate n 0) = e8n n v
  | 0, _ => rfl
  | n + 1, v => by
    rw [List.replicate_succ]
    show fold8 (fb v 0) _ = _
    rw [fold8_zeros n, e8n]
    congr 1
    unfold fb
    rw [show (0 : UInt8).toBitVec.setWidth 32 = 0#32 from by decide, BitVec.xor_zero]

/-! What the program's and the document's texts compute -/
theorem lsb_eq (v : W32) : decide (((v &&& (1#32)).toNat : Int) = (1 : Int)) = v.getLsbD 0 := by
  have h : (v &&& 1#32).toNat = v.toNat % 2 := by rw [BitVec.toNat_and]; exact Nat.and_one_is_mod _
  rw [h]
  have h2 : v.getLsbD 0 = decide (v.toNat % 2 = 1) := by rw [BitVec.getLsbD, Nat.testBit_zero]
  rw [h2]
  rw [decide_eq_decide]; omega
theorem step_m (v : W32) : m52_crc_step v = some (stp v) := by
  unfold m52_crc_step stp
  rw [lsb_eq]
  cases v.getLsbD 0
  · simp
  · rfl
theorem lsb2_eq (v : W32) : decide (((v % (2#32)).toNat : Int) = (1 : Int)) = v.getLsbD 0 := by
  have h : (v % 2#32).toNat = v.toNat % 2 := by rw [BitVec.toNat_umod]; rfl
  rw [h]
  have h2 : v.getLsbD 0 = decide (v.toNat % 2 = 1) := by rw [BitVec.getLsbD, Nat.testBit_zero]
  rw [h2, decide_eq_decide]; omega
theorem half_eq (v : W32) : v / 2#32 = v >>> 1 := by
  apply BitVec.eq_of_toNat_eq
  rw [BitVec.toNat_udiv, BitVec.toNat_ushiftRight, Nat.shiftRight_eq_div_pow]
  rfl
theorem stps_succ : ∀ (n : Nat) (v : W32), stps (n + 1) v = stp (stps n v)
  | 0, _ => rfl
  | n + 1, v => by rw [stps, stps_succ n]; rfl
theorem eight_m (v : W32) : m50_r02_eight v = some (e8 v) := by
  unfold m50_r02_eight
  obtain ⟨b, hb, hr⟩ := iterB_inv (f := m50_r02_eight_s2) (P := fun s => ∃ k : Nat, k ≤ 8 ∧ s = (stps k v, (k : Int))) (μ := fun s => 8 - s.2.toNat) (R := fun b => b = e8 v) (by
    rintro s ⟨k, hk, rfl⟩
    by_cases h8 : k = 8
    · subst h8
      exact .inr ⟨_, rfl, rfl⟩
    · refine .inl ⟨(stps (k + 1) v, ((k + 1 : Nat) : Int)), ?_, ⟨k + 1, by omega, rfl⟩, by simp only; omega⟩
      unfold m50_r02_eight_s2
      have hw : wI ((k : Int) + 1) = ((k + 1 : Nat) : Int) := by rw [wI_id (by omega) (by omega)]; rfl
      simp only
      rw [if_pos (decide_eq_true (by omega : (k : Int) < 8)), lsb2_eq, half_eq, hw, stps_succ]
      unfold stp
      cases (stps k v).getLsbD 0
      · simp
      · rfl) fuel (v, 0) ⟨0, by omega, rfl⟩ (lt_fuel (by simp only; omega))
  rw [hb, hr]
  rfl

def tab : List W32 := (List.range 256).map fun i => e8 (BitVec.ofNat 32 i)
theorem table_m : m51_crc_Table = some tab := by decide +kernel
theorem tab_len : tab.length = 256 := by simp [tab]
theorem tab_get {i : Nat} (h : i < 256) : tab[i]? = some (e8 (BitVec.ofNat 32 i)) := by
  unfold tab
  rw [List.getElem?_map, List.getElem?_range h]; rfl
theorem tab_idx (x : BitVec 8) : idx tab (x.toNat : Int) = some (e8 (x.setWidth 32)) := by
  rw [idx_nat, tab_get (by have := x.isLt; omega)]
  congr 2
  apply BitVec.eq_of_toNat_eq
  rw [BitVec.toNat_ofNat, BitVec.toNat_setWidth]
theorem lo8_xor (v : W32) (x : UInt8) : (v.setWidth 8 ^^^ x.toBitVec).setWidth 32 = lo8 (v ^^^ x.toBitVec.setWidth 32) := by
  unfold lo8
  congr 1
  rw [BitVec.setWidth_xor]
  congr 1
  simp
theorem hi_xor (v : W32) (x : UInt8) : (v ^^^ x.toBitVec.setWidth 32) >>> 8 = v >>> 8 := by
  rw [BitVec.ushiftRight_xor_distrib]
  have : (x.toBitVec.setWidth 32 : W32) >>> 8 = 0#32 := by
    apply BitVec.eq_of_getLsbD_eq
    intro i hi
    rw [BitVec.getLsbD_ushiftRight, BitVec.getLsbD_setWidth, BitVec.getLsbD_of_ge x.toBitVec (8 + i) (by omega)]
    simp
  rw [this, BitVec.xor_zero]
theorem fb_tab (v : W32) (x : UInt8) : (v >>> 8) ^^^ e8 ((v.setWidth 8 ^^^ x.toBitVec).setWidth 32) = fb v x := by
  unfold fb
  rw [e8_split (v ^^^ _), hi_xor, lo8_xor]

theorem more_m (s : W32) (b : List UInt8) (hb : b.length ≤ 100000) : m48_crc_More s b = some (~~~ fold8 (~~~ s) b) := by
  unfold m48_crc_More
  rw [table_m]
  simp only [Option.bind_some]
  rw [if_pos List.length_replicate, if_pos tab_len]
  have := iterB_fold (f := m48_crc_More_s5 b tab) (fun (acc : W32) (i : Nat) => (acc, (i : Int))) b fb id (by omega) (fun acc i x hx => by
    have hi := (List.getElem?_eq_some_iff.1 hx).1
    unfold m48_crc_More_s5
    simp only
    have hlt := (acc.setWidth 8 ^^^ x.toBitVec).isLt
    rw [if_pos (decide_eq_true (by omega)), idx_nat, hx]
    simp only [Option.bind_some]
    rw [if_pos ⟨by omega, by omega⟩, tab_idx]
    simp only [Option.bind_some]
    rw [wI_id (by omega) (by omega)]
    rw [show (8 : Int).toNat = 8 from rfl, fb_tab]
    rfl) (fun acc => by
    unfold m48_crc_More_s5
    simp) (~~~ s)
  rw [show ((~~~ s, 0) : W32 × Int) = (~~~ s, ((0 : Nat) : Int)) from rfl, this]
  rfl
theorem of_m (b : List UInt8) (hb : b.length ≤ 100000) : m49_crc_Of b = some (~~~ fold8 (~~~ 0#32) b) := by
  unfold m49_crc_Of
  rw [more_m _ b hb]
  rfl
theorem more_r (s : W32) (b : List UInt8) (hb : b.length ≤ 100000) : m45_r02_More s b = some (~~~ fold8 (~~~ s) b) := by
  unfold m45_r02_More
  have hn : ∀ v : W32, 4294967295#32 - v = ~~~ v := fun v => by
    rw [show (4294967295#32 : W32) = BitVec.allOnes 32 from by decide]
    exact BitVec.allOnes_sub_eq_not v
  have := iterB_fold (f := m45_r02_More_s2 b) (fun (acc : W32) (i : Nat) => (acc, (i : Int))) b fb id (by omega) (fun acc i x hx => by
    have hi := (List.getElem?_eq_some_iff.1 hx).1
    unfold m45_r02_More_s2
    simp only
    rw [if_pos (decide_eq_true (by omega)), idx_nat, hx]
    simp only [Option.bind_some]
    rw [eight_m]
    simp only [Option.bind_some]
    rw [wI_id (by omega) (by omega)]
    rfl) (fun acc => by
    unfold m45_r02_More_s2
    simp) (4294967295#32 - s)
  rw [show ((4294967295#32 - s, 0) : W32 × Int) = (4294967295#32 - s, ((0 : Nat) : Int)) from rfl, this]
  simp only [Option.bind_some, m45_r02_More_k1, id]
  rw [hn, hn]
  rfl
theorem of_r (b : List UInt8) (hb : b.length ≤ 100000) : m46_r02_Of b = some (~~~ fold8 (~~~ 0#32) b) := by
  unfold m46_r02_Of
  rw [more_r _ b hb]
  rfl

theorem e8n_succ : ∀ (n : Nat) (v : W32), e8n (n + 1) v = e8 (e8n n v)
  | 0, _ => rfl
  | n + 1, v => by rw [e8n, e8n_succ n]; rfl
def cap16 (n : Int) : Nat := (min n 65536).toNat
end Go.Proofs.Ytoojcpiigkmhiaa.Abs.Crc
