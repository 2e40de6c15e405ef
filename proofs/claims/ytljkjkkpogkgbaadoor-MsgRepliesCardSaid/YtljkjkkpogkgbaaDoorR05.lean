/-
  Readers on any row: what they say of what was written.
-/
import Derived.Test.YtljkjkkpogkgbaaDoorP05
namespace Go.Proofs.YtljkjkkpogkgbaaDoor.Abs

theorem ns_at (l : List UInt8) : ∀ (n j : Nat), j < n → ns l n / 2 ^ (8 * j) % 256 = (l.getD j 0).toNat
  | n + 1, j, h => by
    rw [ns]
    have hb : (l.getD j 0).toNat < 256 := UInt8.toNat_lt _
    by_cases hj : j = n
    · subst hj
      have := ns_lt l j
      rw [Nat.mul_comm, Nat.add_mul_div_left _ _ (Nat.pow_pos (by decide)), Nat.div_eq_of_lt this, Nat.zero_add, Nat.mod_eq_of_lt hb]
    · have hjn : j < n := by omega
      have e : (2 : Nat) ^ (8 * n) = 2 ^ (8 * j) * (256 * 2 ^ (8 * (n - j - 1))) := by
        rw [show (256 : Nat) = 2 ^ 8 from rfl, ← Nat.pow_add, ← Nat.pow_add]
        congr 1; omega
      rw [e, show (l.getD n 0).toNat * (2 ^ (8 * j) * (256 * 2 ^ (8 * (n - j - 1)))) = 2 ^ (8 * j) * (256 * (2 ^ (8 * (n - j - 1)) * (l.getD n 0).toNat)) from by
        rw [Nat.mul_comm, Nat.mul_assoc, Nat.mul_assoc], Nat.add_mul_div_left _ _ (Nat.pow_pos (by decide)), Nat.add_mul_mod_self_left]
      exact ns_at l n j hjn

theorem le8_vn (l : List UInt8) (n : Nat) (hl : l.length = n) (h8 : n ≤ 8) : le8 (vn l n) n = l := by
  apply List.ext_getElem?
  intro i
  by_cases hi : i < n
  · have hi' : i < l.length := by omega
    rw [List.getElem?_eq_getElem (by rw [le8_len]; exact hi), List.getElem?_eq_getElem hi']
    congr 1
    simp only [le8, List.getElem_map, List.getElem_range]
    apply UInt8.toNat_inj.1
    show (((vn l n) >>> (8 * i)).setWidth 8).toNat = _
    rw [BitVec.toNat_setWidth, BitVec.toNat_ushiftRight, Nat.shiftRight_eq_div_pow, vn_ns _ _ h8]
    have := ns_at l n i hi
    rw [show (2 : Nat) ^ 8 = 256 from rfl, this, List.getD_eq_getElem?_getD, List.getElem?_eq_getElem hi', Option.getD_some]
  · rw [List.getElem?_eq_none (by rw [le8_len]; omega), List.getElem?_eq_none (by omega)]

theorem wI_nat (v : BitVec 64) : wI (v.toNat : Int) = v.toInt := by
  have h := v.isLt
  show IntKind.i64.wrap _ = _
  rw [BitVec.toInt_eq_toNat_cond]
  by_cases h2 : v.toNat < 9223372036854775808
  · rw [if_pos (by omega)]
    exact wI_id (by omega) (by omega)
  · rw [if_neg (by omega)]
    simp only [IntKind.wrap, IntKind.bits, IntKind.signed]
    simp
    omega
theorem ofInt_wI (v : BitVec 64) : BitVec.ofInt 64 (wI (v.toNat : Int)) = v := by
  rw [wI_nat, BitVec.ofInt_toInt]

abbrev Rdr (α : Type) := Int → Int → List UInt8 → Option (α × Int × Int)

/-- What a reader does on any row: an error stays; without one it has read what is written for its value; what is written it reads; where the row ends before it, it says so. -/
structure RS {α : Type} (R : Rdr α) (enc : α → List UInt8) (V : α → Prop) : Prop where
  run : ∀ (e : Int) (p : Nat) (d : List UInt8), p ≤ d.length → d.length ≤ 100000000 → ∃ v e' p', R e (p : Int) d = some (v, e', ((p' : Nat) : Int)) ∧ p' ≤ d.length ∧ (e ≠ 0 → e' = e) ∧
    (e' = 0 → V v ∧ d.drop p = enc v ++ d.drop p') ∧
    (e = 0 → ∀ u r, V u → d.drop p = enc u ++ r → v = u ∧ e' = 0 ∧ r = d.drop p') ∧
    (e = 0 → ∀ u x, V u → enc u = d.drop p ++ x → x ≠ [] → e' = 2)

def Rdr.seq {α β : Type} (R1 : Rdr α) (R2 : α → Rdr β) : Rdr (α × β) := fun e p d => (R1 e p d).bind fun x => (R2 x.1 x.2.1 x.2.2 d).bind fun y => some ((x.1, y.1), y.2.1, y.2.2)

theorem RS.seq {α β : Type} {R1 : Rdr α} {R2 : α → Rdr β} {enc1 : α → List UInt8} {enc2 : α → β → List UInt8} {V1 : α → Prop} {V2 : α → β → Prop} (h1 : RS R1 enc1 V1) (h2 : ∀ a, RS (R2 a) (enc2 a) (V2 a)) :
    RS (R1.seq R2) (fun x => enc1 x.1 ++ enc2 x.1 x.2) (fun x => V1 x.1 ∧ V2 x.1 x.2) := by
  constructor
  intro e p d hp hd
  obtain ⟨v1, e1, p1, r1, l1, k1, s1, c1, t1⟩ := h1.run e p d hp hd
  obtain ⟨v2, e2, p2, r2, l2, k2, s2, c2, t2⟩ := (h2 v1).run e1 p1 d l1 hd
  refine ⟨(v1, v2), e2, p2, ?_, l2, fun he => ?_, fun he => ?_, fun he u r hu hr => ?_, fun he u x hu hx hne => ?_⟩
  · unfold Rdr.seq
    rw [r1]; simp only [Option.bind_some]
    rw [r2]; rfl
  · have := k1 he
    rw [k2 (by rw [this]; exact he), this]
  · have he1 : e1 = 0 := by
      by_cases h : e1 = 0
      · exact h
      · rw [k2 h] at he; exact absurd he h
    obtain ⟨a1, b1⟩ := s1 he1
    obtain ⟨a2, b2⟩ := s2 he
    exact ⟨⟨a1, a2⟩, by rw [b1, b2, List.append_assoc]⟩
  · obtain ⟨u1, u2⟩ := u
    obtain ⟨rfl, rfl, h3⟩ := c1 he u1 (enc2 u1 u2 ++ r) hu.1 (by rw [hr, List.append_assoc])
    obtain ⟨rfl, rfl, h4⟩ := c2 rfl u2 r hu.2 h3.symm
    exact ⟨rfl, rfl, h4⟩
  · obtain ⟨u1, u2⟩ := u
    have hx' : enc1 u1 ++ enc2 u1 u2 = d.drop p ++ x := hx
    rcases List.append_eq_append_iff.1 hx' with ⟨y, h3, h4⟩ | ⟨y, h3, h4⟩
    · obtain ⟨rfl, rfl, h5⟩ := c1 he u1 y hu.1 h3
      exact t2 rfl u2 x hu.2 (by rw [h4, h5]) hne
    · by_cases hy : y = []
      · subst hy
        rw [List.append_nil] at h3
        obtain ⟨rfl, rfl, h5⟩ := c1 he u1 [] hu.1 (by rw [List.append_nil]; exact h3.symm)
        exact t2 rfl u2 x hu.2 (by rw [← h5]; exact h4.symm) hne
      · have h6 := t1 he u1 y hu.1 h3 hy
        rw [k2 (by rw [h6]; decide), h6]

/-- A number of n bytes, as an integer. -/
def RU (n : Nat) : Rdr Int := fun e p d => (m46_enc_Reader_Us n e p d).bind fun v => some (wI (v.1.toNat : Int), v.2.1, v.2.2)
def eU (n : Nat) (x : Int) : List UInt8 := le8 (BitVec.ofInt 64 x) n
def VU (n : Nat) (x : Int) : Prop := wI (((BitVec.ofInt 64 x).toNat % 2 ^ (8 * n) : Nat) : Int) = x

theorem RU_rs {n : Nat} (h1 : 1 ≤ n) (h8 : n ≤ 8) : RS (RU n) (eU n) (VU n) := by
  constructor
  intro e p d hp hd
  by_cases he : e = 0
  · subst he
    by_cases hl : p + n ≤ d.length
    · have hrun : RU n 0 p d = some (wI ((vn ((d.drop p).take n) n).toNat : Int), 0, ((p + n : Nat) : Int)) := by
        unfold RU; rw [U_read n p d h1 h8 hl hd]; rfl
      have hlen : ((d.drop p).take n).length = n := by rw [List.length_take, List.length_drop]; omega
      refine ⟨_, _, _, hrun, hl, fun h => absurd rfl h, fun _ => ⟨?_, ?_⟩, fun _ u r hu hr => ?_, fun _ u x hu hx hne => ?_⟩
      · unfold VU
        rw [ofInt_wI, Nat.mod_eq_of_lt]
        rw [vn_ns _ _ h8]
        exact ns_lt _ _
      · unfold eU
        rw [ofInt_wI, le8_vn _ _ hlen h8, ← List.drop_drop, List.take_append_drop]
      · have e1 : (d.drop p).take n = eU n u := by rw [hr, List.take_left' (by simp [eU, le8_len])]
        refine ⟨?_, rfl, ?_⟩
        · rw [e1]
          unfold eU
          rw [vn_le8 _ _ h8]
          exact hu
        · rw [← List.drop_drop, hr, List.drop_left' (by simp [eU, le8_len])]
      · have := congrArg List.length hx
        simp [eU, le8_len] at this
        have : 0 < x.length := List.length_pos_iff.2 hne
        omega
    · have hrun : RU n 0 p d = some (0, 2, (p : Int)) := by
        unfold RU m46_enc_Reader_Us m71_enc_Reader_Errs
        simp only [Option.bind_some]
        rw [if_neg (by simp), if_neg (by rw [decide_eq_true_eq]; omega), if_neg (by rw [decide_eq_true_eq]; omega)]
        unfold m46_enc_Reader_Us_k2
        rw [take_short _ _ _ hp (by omega) hd]
        rfl
      refine ⟨_, _, _, hrun, hp, fun h => absurd rfl h, fun h => absurd h (by decide), fun _ u r hu hr => ?_, fun _ u x hu hx hne => rfl⟩
      have := congrArg List.length hr
      simp [eU, le8_len] at this
      omega
  · have hrun : RU n e p d = some (0, e, (p : Int)) := by
      unfold RU m46_enc_Reader_Us m71_enc_Reader_Errs
      simp only [Option.bind_some]
      rw [if_pos (by simp [he])]
      rfl
    exact ⟨_, _, _, hrun, hp, fun _ => rfl, fun h => absurd h he, fun h => absurd h he, fun h => absurd h he⟩

theorem VU_of {n : Nat} {x : Int} (h0 : 0 ≤ x) (h1 : x < 2 ^ (8 * n)) (h2 : x ≤ 9223372036854775807) : VU n x := by
  unfold VU
  obtain ⟨m, rfl⟩ : ∃ m : Nat, x = m := ⟨x.toNat, by omega⟩
  rw [BitVec.ofInt_natCast, BitVec.toNat_ofNat, Nat.mod_eq_of_lt (show m < 2 ^ 64 by omega), Nat.mod_eq_of_lt (by exact_mod_cast h1), wI_id (by omega) h2]

/-- One where it is wanted. -/
def RO {α : Type} (b : Bool) (z : α) (R : Rdr α) : Rdr α := fun e p d => if b then R e p d else some (z, e, p)
def eO {α : Type} (b : Bool) (enc : α → List UInt8) (x : α) : List UInt8 := if b then enc x else []
def VO {α : Type} (b : Bool) (z : α) (V : α → Prop) (x : α) : Prop := if b then V x else x = z
theorem RO_rs {α : Type} {b : Bool} {z : α} {R : Rdr α} {enc : α → List UInt8} {V : α → Prop} (h : RS R enc V) : RS (RO b z R) (eO b enc) (VO b z V) := by
  cases b with
  | true => exact h
  | false =>
    constructor
    intro e p d hp hd
    refine ⟨z, e, p, rfl, hp, fun _ => rfl, fun _ => ⟨rfl, by simp [eO]⟩, fun he u r hu hr => ⟨?_, he, ?_⟩, fun he u x hu hx hne => ?_⟩
    · exact (show u = z from hu).symm
    · have : d.drop p = r := by simpa [eO] using hr
      exact this.symm
    · have hx' : ([] : List UInt8) = d.drop p ++ x := hx
      exact absurd (List.append_eq_nil_iff.1 hx'.symm).2 hne

/-- A truth value. -/
def RF : Rdr Bool := fun e p d => m65_enc_Reader_Flags e p d
def eF (b : Bool) : List UInt8 := le8 (if b then 1#64 else 0#64) 1
theorem RF_rs : RS RF eF (fun _ => True) := by
  constructor
  intro e p d hp hd
  obtain ⟨v, e1, p1, hr, hp1, k1, s1, c1, t1⟩ := (RU_rs (n := 1) (by decide) (by decide)).run e p d hp hd
  unfold RU at hr
  cases hu : m46_enc_Reader_Us (1 : Nat) e p d with
  | none => rw [hu] at hr; cases hr
  | some w =>
    rw [hu] at hr
    simp only [Option.bind_some, Option.some.injEq, Prod.mk.injEq] at hr
    obtain ⟨hv, he1, hpp⟩ := hr
    have hw : w = (w.1, e1, ((p1 : Nat) : Int)) := by rw [← he1, ← hpp]
    have hle : ∀ b : Bool, eF b = eU 1 (if b then 1 else 0) := fun b => by cases b <;> rfl
    have hvu : ∀ b : Bool, VU 1 (if b then 1 else 0) := fun b => by cases b <;> exact VU_of (by decide) (by decide) (by decide)
    have hrun : RF e p d = if (1 : Int) < (w.1.toNat : Int) then some (decide ((w.1.toNat : Int) = 1), (if e1 = 0 then 3 else e1), ((p1 : Nat) : Int)) else some (decide ((w.1.toNat : Int) = 1), e1, ((p1 : Nat) : Int)) := by
      unfold RF m65_enc_Reader_Flags m65_enc_Reader_Flags_k2 m48_enc_Reader_Fails
      rw [show (1 : Int) = ((1 : Nat) : Int) from rfl, hu, hw]
      simp only [Option.bind_some]
      by_cases hx : ((1 : Nat) : Int) < (w.1.toNat : Int)
      · rw [if_pos (decide_eq_true hx), if_pos hx]
        by_cases h1 : e1 = 0
        · rw [if_pos (decide_eq_true h1), if_pos h1]; rfl
        · rw [if_neg (by rw [decide_eq_true_eq]; exact h1), if_neg h1]; rfl
      · rw [if_neg (by rw [decide_eq_true_eq]; exact hx), if_neg hx]
    have hwlt := w.1.isLt
    have hbit : ∀ b : Bool, (v = (if b then 1 else 0)) → ¬ (1 : Int) < (w.1.toNat : Int) ∧ decide ((w.1.toNat : Int) = 1) = b := by
      intro b hb
      rw [← hv] at hb
      have h2 := congrArg (BitVec.ofInt 64) hb
      rw [ofInt_wI] at h2
      rw [h2]
      cases b <;> decide
    by_cases hx : (1 : Int) < (w.1.toNat : Int)
    · rw [if_pos hx] at hrun
      have hno : ∀ b : Bool, v ≠ (if b then 1 else 0) := fun b hb => (hbit b hb).1 hx
      refine ⟨_, _, p1, hrun, hp1, fun he => ?_, fun he => ?_, fun he u r _ hr => ?_, fun he u x _ hxx hne => ?_⟩
      · have := k1 he
        rw [if_neg (by rw [this]; exact he), this]
      · exfalso
        split at he
        · cases he
        · exact absurd he (by assumption)
      · exact absurd (c1 he _ r (hvu u) (by rw [hr, hle])).1 (hno u)
      · have := t1 he _ x (hvu u) (by rw [← hle]; exact hxx) hne
        rw [this, if_neg (by decide)]
    · rw [if_neg hx] at hrun
      refine ⟨_, _, p1, hrun, hp1, k1, fun he => ⟨trivial, ?_⟩, fun he u r _ hr => ?_, fun he u x _ hxx hne => t1 he _ x (hvu u) (by rw [← hle]; exact hxx) hne⟩
      · obtain ⟨_, h2⟩ := s1 he
        rw [h2, hle]
        congr 2
        rw [← hv]
        have h01 : w.1.toNat = 0 ∨ w.1.toNat = 1 := by omega
        rcases h01 with h | h <;> rw [h] <;> rfl
      · obtain ⟨h2, h3, h4⟩ := c1 he _ r (hvu u) (by rw [hr, hle])
        exact ⟨(hbit u h2).2, h3, h4⟩

/-- Bytes, n at most. -/
def RL (n : Nat) : Rdr (List UInt8) := fun e p d => m66_enc_Reader_Lists n e p d
theorem RL_rs {n : Nat} (hn : n ≤ 60000) : RS (RL n) ls2 (fun u => u.length ≤ n) := by
  constructor
  intro e p d hp hd
  obtain ⟨v, e1, p1, hr, hp1, k1, s1, c1, t1⟩ := (RU_rs (n := 2) (by decide) (by decide)).run e p d hp hd
  unfold RU at hr
  cases hu : m46_enc_Reader_Us (2 : Nat) e p d with
  | none => rw [hu] at hr; cases hr
  | some w =>
    rw [hu] at hr
    simp only [Option.bind_some, Option.some.injEq, Prod.mk.injEq] at hr
    obtain ⟨hv, he1, hpp⟩ := hr
    have hw : w = (w.1, e1, ((p1 : Nat) : Int)) := by rw [← he1, ← hpp]
    have hvu : ∀ u : List UInt8, u.length ≤ n → VU 2 (u.length : Int) := fun u hu => VU_of (by omega) (by simp; omega) (by omega)
    have hls : ∀ u : List UInt8, ls2 u = eU 2 (u.length : Int) ++ u := fun u => by unfold ls2 eU; rw [BitVec.ofInt_natCast]
    have hlen : ∀ u : List UInt8, u.length ≤ n → v = (u.length : Int) → (w.1.toNat = u.length) := by
      intro u hul hvu
      rw [← hv] at hvu
      have h2 := congrArg (BitVec.ofInt 64) hvu
      rw [ofInt_wI, BitVec.ofInt_natCast] at h2
      rw [h2, BitVec.toNat_ofNat]
      exact Nat.mod_eq_of_lt (by omega)
    have hpre : RL n e p d = if e1 ≠ 0 then some ([], e1, (p1 : Int)) else if (n : Int) < wI (w.1.toNat : Int) then some ([], 5, (p1 : Int)) else ((m72_enc_Reader_takes (wI (w.1.toNat : Int)) e1 p1 d).bind fun v4 => (m75_slices_Cloneo v4.1).bind fun v5 => some (v5, v4.2.1, v4.2.2)) := by
      unfold RL m66_enc_Reader_Lists m71_enc_Reader_Errs m48_enc_Reader_Fails
      rw [show (2 : Int) = ((2 : Nat) : Int) from rfl, hu, hw]
      simp only [Option.bind_some]
      by_cases h1 : e1 = 0
      · have hne : ¬ (e1 ≠ 0) := fun h => h h1
        rw [if_neg (show ¬ (!decide (e1 = 0)) = true by simp [h1]), if_neg hne]
        by_cases h5 : (n : Int) < wI (w.1.toNat : Int)
        · rw [if_pos (decide_eq_true h5), if_pos h5, if_pos (decide_eq_true h1)]; rfl
        · rw [if_neg (by rw [decide_eq_true_eq]; exact h5), if_neg h5]
      · rw [if_pos (by simp [h1]), if_pos h1]
    by_cases h1 : e1 = 0
    · subst h1
      rw [if_neg (by simp)] at hpre
      have he : e = 0 := by
        by_cases h : e = 0
        · exact h
        · exact absurd (k1 h).symm h
      obtain ⟨a1, b1⟩ := s1 rfl
      have hw16 : w.1.toNat < 65536 := by
        have h2 : VU 2 v := a1
        unfold VU at h2
        rw [← hv, ofInt_wI] at h2
        have h3 := congrArg (BitVec.ofInt 64) h2
        rw [ofInt_wI] at h3
        have h4 : w.1.toNat % 2 ^ (8 * 2) < 65536 := Nat.mod_lt _ (by decide)
        have h5 : (BitVec.ofInt 64 (wI ((w.1.toNat % 2 ^ (8 * 2) : Nat) : Int))).toNat = w.1.toNat % 2 ^ (8 * 2) := by
          rw [wI_id (by omega) (by omega), BitVec.ofInt_natCast, BitVec.toNat_ofNat, Nat.mod_eq_of_lt (by omega)]
        rw [h3] at h5
        omega
      have hv2 : v = (w.1.toNat : Int) := by rw [← hv]; exact wI_id (by omega) (by omega)
      rw [wI_id (by omega) (by omega)] at hpre
      by_cases h5 : (n : Int) < (w.1.toNat : Int)
      · rw [if_pos h5] at hpre
        have hno : ∀ u : List UInt8, u.length ≤ n → v ≠ (u.length : Int) := fun u hul hh => by have := hlen u hul hh; omega
        refine ⟨_, _, p1, hpre, hp1, fun h => absurd he h, fun h => absurd h (by decide), fun _ u r hul hr => ?_, fun _ u x hul hx hne => ?_⟩
        · exact absurd (c1 he _ (u ++ r) (hvu u hul) (by rw [hr, hls, List.append_assoc])).1 (hno u hul)
        · rw [hls] at hx
          rcases List.append_eq_append_iff.1 hx with ⟨y, h3, h4⟩ | ⟨y, h3, h4⟩
          · exact absurd (c1 he _ y (hvu u hul) h3).1 (hno u hul)
          · by_cases hy : y = []
            · subst hy
              rw [List.append_nil] at h3
              exact absurd (c1 he _ [] (hvu u hul) (by rw [List.append_nil]; exact h3.symm)).1 (hno u hul)
            · exact absurd (t1 he _ y (hvu u hul) h3 hy) (by decide)
      · rw [if_neg h5] at hpre
        by_cases hl : p1 + w.1.toNat ≤ d.length
        · rw [take_m _ _ _ hl hd] at hpre
          simp only [Option.bind_some] at hpre
          rw [m75_slices_Cloneo_m _ (by rw [List.length_take, List.length_drop]; omega)] at hpre
          simp only [Option.bind_some] at hpre
          have hlt : ((d.drop p1).take w.1.toNat).length = w.1.toNat := by rw [List.length_take, List.length_drop]; omega
          refine ⟨_, _, _, hpre, hl, fun h => absurd he h, fun _ => ⟨by rw [hlt]; omega, ?_⟩, fun _ u r hul hr => ?_, fun _ u x hul hx hne => ?_⟩
          · rw [hls, hlt, b1, ← hv2, List.append_assoc, ← List.drop_drop, List.take_append_drop]
          · obtain ⟨h2, _, h4⟩ := c1 he _ (u ++ r) (hvu u hul) (by rw [hr, hls, List.append_assoc])
            have h6 := hlen u hul h2
            refine ⟨?_, rfl, ?_⟩
            · rw [← h4, h6, List.take_left']; rfl
            · rw [← List.drop_drop, ← h4, h6, List.drop_left']; rfl
          · exfalso
            rw [hls] at hx
            rcases List.append_eq_append_iff.1 hx with ⟨y, h3, h4⟩ | ⟨y, h3, h4⟩
            · obtain ⟨h2, _, h7⟩ := c1 he _ y (hvu u hul) h3
              have h6 := hlen u hul h2
              have h8 := congrArg List.length h4
              have h9 := congrArg List.length h7
              simp at h8 h9
              have : 0 < x.length := List.length_pos_iff.2 hne
              omega
            · by_cases hy : y = []
              · subst hy
                rw [List.append_nil] at h3
                obtain ⟨h2, _, h7⟩ := c1 he _ [] (hvu u hul) (by rw [List.append_nil]; exact h3.symm)
                have h6 := hlen u hul h2
                have h8 := congrArg List.length h4
                have h9 := congrArg List.length h7
                simp at h8 h9
                have : 0 < x.length := List.length_pos_iff.2 hne
                omega
              · exact absurd (t1 he _ y (hvu u hul) h3 hy) (by decide)
        · rw [take_short _ _ _ hp1 (by omega) hd] at hpre
          simp only [Option.bind_some] at hpre
          rw [m75_slices_Cloneo_m _ (by simp)] at hpre
          simp only [Option.bind_some] at hpre
          refine ⟨_, _, _, hpre, hp1, fun h => absurd he h, fun h => absurd h (by decide), fun _ u r hul hr => ?_, fun _ u x hul hx hne => rfl⟩
          exfalso
          obtain ⟨h2, _, h4⟩ := c1 he _ (u ++ r) (hvu u hul) (by rw [hr, hls, List.append_assoc])
          have h6 := hlen u hul h2
          have h9 := congrArg List.length h4
          simp at h9
          omega
    · rw [if_pos h1] at hpre
      refine ⟨_, _, _, hpre, hp1, k1, fun h => absurd h h1, fun he u r hul hr => ?_, fun he u x hul hx hne => ?_⟩
      · exact absurd (c1 he _ (u ++ r) (hvu u hul) (by rw [hr, hls, List.append_assoc])).2.1 h1
      · rw [hls] at hx
        rcases List.append_eq_append_iff.1 hx with ⟨y, h3, h4⟩ | ⟨y, h3, h4⟩
        · exact absurd (c1 he _ y (hvu u hul) h3).2.1 h1
        · by_cases hy : y = []
          · subst hy
            rw [List.append_nil] at h3
            exact absurd (c1 he _ [] (hvu u hul) (by rw [List.append_nil]; exact h3.symm)).2.1 h1
          · exact t1 he _ y (hvu u hul) h3 hy
end Go.Proofs.YtljkjkkpogkgbaaDoor.Abs
