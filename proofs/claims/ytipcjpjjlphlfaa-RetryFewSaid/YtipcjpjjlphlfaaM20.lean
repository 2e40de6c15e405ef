/-
  Delays: what the program and the document reckon.
-/
import Derived.Test.YtipcjpjjlphlfaaT20
import Derived.Test.YtipcjpjjlphlfaaAbsC
namespace Go.Proofs.Ytipcjpjjlphlfaa.Abs

def dl (w m : Int) : Nat → Int
  | 0 => w
  | k + 1 => if m < 2 * dl w m k then m else 2 * dl w m k
def sm (w m : Int) : Nat → Int
  | 0 => 0
  | k + 1 => sm w m k + dl w m k
/-- How many tries are begun by t, k of them known to be, of n more at most. -/
def cnt (w m t : Int) : Nat → Nat → Nat
  | 0, k => k
  | n + 1, k => if t < sm w m (k + 1) then k else cnt w m t n (k + 1)

structure Sn (w m t : Int) : Prop where
  a : 1 ≤ w
  b : w ≤ 1048576
  c : w ≤ m
  d : m ≤ 1073741824
  e : 0 ≤ t
  f : t ≤ 100

theorem dl_b {w m : Int} (h1 : 1 ≤ w) (h2 : w ≤ m) : ∀ k, 1 ≤ dl w m k ∧ dl w m k ≤ m
  | 0 => ⟨h1, h2⟩
  | k + 1 => by
    have := dl_b h1 h2 k
    unfold dl
    split <;> omega
theorem sm_b {w m : Int} (h1 : 1 ≤ w) (h2 : w ≤ m) (h3 : m ≤ 1073741824) : ∀ k : Nat, 0 ≤ sm w m k ∧ sm w m k ≤ k * 1073741824
  | 0 => by simp [sm]
  | k + 1 => by
    have := sm_b h1 h2 h3 k
    have := dl_b h1 h2 k
    unfold sm
    omega
theorem sm_lt {w m : Int} (h1 : 1 ≤ w) (h2 : w ≤ m) (a : Nat) : ∀ b : Nat, sm w m a + b ≤ sm w m (a + b)
  | 0 => by simp
  | b + 1 => by
    have := sm_lt h1 h2 a b
    have := dl_b h1 h2 (a + b)
    rw [← Nat.add_assoc]
    show _ ≤ sm w m (a + b) + dl w m (a + b)
    omega
theorem sm_mono {w m : Int} (h1 : 1 ≤ w) (h2 : w ≤ m) {a b : Nat} (h : a ≤ b) : sm w m a ≤ sm w m b := by
  have := sm_lt h1 h2 a (b - a)
  rw [show a + (b - a) = b from by omega] at this
  omega

theorem sane_ex (p : GRetryPlan) : (Sn p.Wait p.Most p.Tries ∧ m15_retry_Sane p = some true) ∨ (¬ Sn p.Wait p.Most p.Tries ∧ m15_retry_Sane p = some false) := by
  by_cases h : Sn p.Wait p.Most p.Tries
  · left
    refine ⟨h, ?_⟩
    have := h.a; have := h.b; have := h.c; have := h.d; have := h.e; have := h.f
    unfold m15_retry_Sane
    simp [*]
  · right
    refine ⟨h, ?_⟩
    unfold m15_retry_Sane
    repeat' split
    all_goals first
      | rfl
      | (simp only [decide_eq_true_eq] at *
         refine congrArg some (decide_eq_false fun hf => h ⟨?_, ?_, ?_, ?_, ?_, hf⟩) <;> assumption)
theorem sane_ref (p : GR20Plan) : m16_r20_Sane p = m15_retry_Sane ⟨p.Wait, p.Most, p.Tries⟩ := rfl

/-- The pairs that are yielded. -/
def prs (w m : Int) (i n : Nat) : List (Int × Int) := (List.range' i n).map fun (k : Nat) => ((k : Int), dl w m k)
theorem prs_succ (w m : Int) (i n : Nat) : prs w m i (n + 1) = ((i : Int), dl w m i) :: prs w m (i + 1) n := by
  unfold prs; rw [List.range'_succ]; rfl

theorem it22d_eq {w m : Int} (h1 : 1 ≤ w) (h2 : w ≤ m) (h3 : m ≤ 1073741824) : ∀ n i : Nat, i + n ≤ 100 → it22d m n (i : Int) (dl w m i) = prs w m i n
  | 0, i, _ => rfl
  | n + 1, i, h => by
    have hb := dl_b h1 h2 i
    rw [prs_succ]
    unfold it22d
    rw [wI_id (by omega) (by omega), wI_id (by omega) (by omega)]
    have ih := it22d_eq h1 h2 h3 n (i + 1) (by omega)
    rw [← ih]
    rfl

theorem it_sane {p : GRetryPlan} (h : Sn p.Wait p.Most p.Tries) : it22 p = some (prs p.Wait p.Most 0 p.Tries.toNat) := by
  rcases sane_ex p with ⟨_, h1⟩ | ⟨h1, _⟩
  · unfold it22
    rw [h1, Option.bind_some, if_pos rfl]
    have := it22d_eq h.a h.c h.d p.Tries.toNat 0 (by have := h.e; have := h.f; omega)
    exact congrArg some this
  · exact absurd h h1
theorem it_not {p : GRetryPlan} (h : ¬ Sn p.Wait p.Most p.Tries) : it22 p = some [] := by
  rcases sane_ex p with ⟨h1, _⟩ | ⟨_, h1⟩
  · exact absurd h1 h
  · unfold it22
    rw [h1]
    rfl

/-! One delay -/
theorem del_go (w m a1 : Int) : ∀ n i : Nat, rangeL (m11_retry_Delay_r1 a1) (prs w m i n) (0, false) = some (if (i : Int) ≤ a1 ∧ a1 < (i + n : Nat) then .inr (0, (dl w m a1.toNat, true)) else .inl (0, false))
  | 0, i => by
    rw [if_neg (by omega)]
    rfl
  | n + 1, i => by
    rw [prs_succ]
    unfold rangeL
    unfold m11_retry_Delay_r1
    by_cases h : (i : Int) = a1
    · subst h
      rw [if_pos (decide_eq_true rfl), if_pos (by omega), Int.toNat_natCast]
    · rw [if_neg (by simpa using h)]
      have ih := del_go w m a1 n (i + 1)
      refine ih.trans ?_
      by_cases h2 : (i : Int) ≤ a1 ∧ a1 < (i + (n + 1) : Nat)
      · rw [if_pos h2, if_pos (by omega)]
      · rw [if_neg h2, if_neg (by omega)]

/-- What Delay gives. -/
def dvl (w m t n : Int) : Int × Bool := if 0 ≤ n ∧ n < t then (dl w m n.toNat, true) else (0, false)

theorem dvl_in {w m t : Int} {i : Nat} (h : (i : Int) < t) : dvl w m t (i : Int) = (dl w m i, true) := by
  unfold dvl
  rw [if_pos ⟨by omega, h⟩, Int.toNat_natCast]
theorem dvl_out {w m t : Int} {i : Int} (h : ¬ (0 ≤ i ∧ i < t)) : dvl w m t i = (0, false) := if_neg h

theorem delay_sane {p : GRetryPlan} (h : Sn p.Wait p.Most p.Tries) (n : Int) : m11_retry_Delay p n = some (dvl p.Wait p.Most p.Tries n) := by
  unfold m11_retry_Delay dvl
  rw [it_sane h, Option.bind_some, del_go, Option.bind_some]
  have he := h.e
  by_cases hn : 0 ≤ n ∧ n < p.Tries
  · rw [if_pos (by omega), if_pos hn]; rfl
  · rw [if_neg (by omega), if_neg hn]; rfl
theorem delay_not {p : GRetryPlan} (h : ¬ Sn p.Wait p.Most p.Tries) (n : Int) : m11_retry_Delay p n = some (0, false) := by
  unfold m11_retry_Delay
  rw [it_not h]
  rfl

theorem rdelay_loop {p : GR20Plan} (h : Sn p.Wait p.Most p.Tries) (n : Int) (h0 : 0 ≤ n) (h1 : n < p.Tries) : iterB (m12_r20_Delay_s3 p n) fuel (p.Wait, 0) = some (dl p.Wait p.Most n.toNat) := by
  have hf := h.f
  obtain ⟨b, hb, hR⟩ := iterB_inv (f := m12_r20_Delay_s3 p n) (P := fun s => ∃ i : Nat, (i : Int) ≤ n ∧ s = (dl p.Wait p.Most i, (i : Int))) (μ := fun s => n.toNat - s.2.toNat) (R := fun b => b = dl p.Wait p.Most n.toNat) (by
    rintro _ ⟨i, hi, rfl⟩
    have hb := dl_b h.a h.c i
    have hd := h.d
    unfold m12_r20_Delay_s3
    by_cases hlt : (i : Int) < n
    · left
      refine ⟨(dl p.Wait p.Most (i + 1), ((i + 1 : Nat) : Int)), ?_, ⟨i + 1, by omega, rfl⟩, by simp only [Int.toNat_natCast]; omega⟩
      rw [if_pos (decide_eq_true hlt)]
      dsimp only
      rw [wI_id (by omega) (by omega), wI_id (by omega) (by omega)]
      rfl
    · right
      refine ⟨_, if_neg (by simpa using hlt), ?_⟩
      show dl p.Wait p.Most i = _
      rw [show n.toNat = i from by omega]) fuel (p.Wait, 0) ⟨0, by simpa using h0, rfl⟩ (lt_fuel (by show n.toNat - 0 ≤ _; omega))
  rw [hb, hR]

theorem rdelay_sane {p : GR20Plan} (h : Sn p.Wait p.Most p.Tries) (n : Int) : m12_r20_Delay p n = some (dvl p.Wait p.Most p.Tries n) := by
  unfold m12_r20_Delay dvl
  rw [sane_ref]
  rcases sane_ex ⟨p.Wait, p.Most, p.Tries⟩ with ⟨_, h1⟩ | ⟨h1, _⟩
  · rw [h1]
    simp only [Option.bind_some, Bool.not_true, Bool.false_eq_true, if_false, decide_eq_true_eq]
    by_cases h0 : n < 0
    · rw [if_pos h0, if_neg (by omega)]
    rw [if_neg h0]
    by_cases ht : p.Tries ≤ n
    · rw [if_pos ht, if_neg (by omega)]
    rw [if_neg ht, if_pos (by omega)]
    unfold m12_r20_Delay_k1
    rw [rdelay_loop h n (by omega) (by omega)]
    rfl
  · exact absurd h h1
theorem rdelay_not {p : GR20Plan} (h : ¬ Sn p.Wait p.Most p.Tries) (n : Int) : m12_r20_Delay p n = some (0, false) := by
  unfold m12_r20_Delay
  rw [sane_ref]
  rcases sane_ex ⟨p.Wait, p.Most, p.Tries⟩ with ⟨h1, _⟩ | ⟨_, h1⟩
  · exact absurd h1 h
  · rw [h1]
    rfl

/-! All delays -/
theorem tot_go {w m : Int} (h1 : 1 ≤ w) (h2 : w ≤ m) (h3 : m ≤ 1073741824) : ∀ n i : Nat, i + n ≤ 100 → rangeL m17_retry_Total_r1 (prs w m i n) (sm w m i) = some (.inl (sm w m (i + n)))
  | 0, i, _ => rfl
  | n + 1, i, h => by
    rw [prs_succ]
    unfold rangeL
    unfold m17_retry_Total_r1
    have hb := dl_b h1 h2 i
    have hs := sm_b h1 h2 h3 i
    dsimp only
    rw [wI_id (by omega) (by omega)]
    have ih := tot_go h1 h2 h3 n (i + 1) (by omega)
    rw [show i + (n + 1) = i + 1 + n from by omega]
    exact ih
theorem total_sane {p : GRetryPlan} (h : Sn p.Wait p.Most p.Tries) : m17_retry_Total p = some (sm p.Wait p.Most p.Tries.toNat) := by
  unfold m17_retry_Total
  have h5 := h.e; have h6 := h.f
  have := tot_go h.a h.c h.d p.Tries.toNat 0 (by omega)
  rw [Nat.zero_add] at this
  rw [it_sane h, Option.bind_some, show (0 : Int) = sm p.Wait p.Most 0 from rfl, this, Option.bind_some]
  rfl
theorem total_not {p : GRetryPlan} (h : ¬ Sn p.Wait p.Most p.Tries) : m17_retry_Total p = some 0 := by
  unfold m17_retry_Total
  rw [it_not h]
  rfl

theorem rtotal_sane {p : GR20Plan} (h : Sn p.Wait p.Most p.Tries) : m18_r20_Total p = some (sm p.Wait p.Most p.Tries.toNat) := by
  have h5 := h.e; have h6 := h.f
  obtain ⟨b, hb, hR⟩ := iterB_inv (f := m18_r20_Total_s2 p) (P := fun s => ∃ i : Nat, i ≤ 100 ∧ s = (sm p.Wait p.Most (min i p.Tries.toNat), (i : Int))) (μ := fun s => 100 - s.2.toNat) (R := fun b => b = sm p.Wait p.Most p.Tries.toNat) (by
    rintro _ ⟨i, hi, rfl⟩
    unfold m18_r20_Total_s2
    by_cases hlt : (i : Int) < 100
    · left
      refine ⟨(sm p.Wait p.Most (min (i + 1) p.Tries.toNat), ((i + 1 : Nat) : Int)), ?_, ⟨i + 1, by omega, rfl⟩, by simp only [Int.toNat_natCast]; omega⟩
      rw [if_pos (decide_eq_true hlt)]
      dsimp only
      rw [rdelay_sane h, Option.bind_some, wI_id (n := (i : Int) + 1) (by omega) (by omega)]
      unfold dvl
      have hb := dl_b h.a h.c i
      have hd := h.d
      have hs := sm_b h.a h.c h.d (min i p.Tries.toNat)
      by_cases ht : (i : Int) < p.Tries
      · rw [if_pos ⟨by omega, ht⟩, Int.toNat_natCast]
        dsimp only
        rw [show min i p.Tries.toNat = i from by omega, show min (i + 1) p.Tries.toNat = i + 1 from by omega] at *
        rw [wI_id (by omega) (by omega)]
        rfl
      · rw [if_neg (by omega)]
        dsimp only
        rw [show min i p.Tries.toNat = p.Tries.toNat from by omega, show min (i + 1) p.Tries.toNat = p.Tries.toNat from by omega] at *
        rw [Int.add_zero, wI_id (by omega) (by omega)]
        rfl
    · right
      refine ⟨_, if_neg (by simpa using hlt), ?_⟩
      show sm p.Wait p.Most (min i p.Tries.toNat) = _
      rw [show min i p.Tries.toNat = p.Tries.toNat from by omega]) fuel (0, 0) ⟨0, by omega, by rw [Nat.zero_min]; rfl⟩ (lt_fuel (by show 100 - 0 ≤ _; omega))
  unfold m18_r20_Total
  rw [hb, hR]
  rfl
theorem rtotal_not {p : GR20Plan} (h : ¬ Sn p.Wait p.Most p.Tries) : m18_r20_Total p = some 0 := by
  obtain ⟨b, hb, hR⟩ := iterB_inv (f := m18_r20_Total_s2 p) (P := fun s => ∃ i : Nat, i ≤ 100 ∧ s = (0, (i : Int))) (μ := fun s => 100 - s.2.toNat) (R := fun b => b = 0) (by
    rintro _ ⟨i, hi, rfl⟩
    unfold m18_r20_Total_s2
    by_cases hlt : (i : Int) < 100
    · left
      refine ⟨(0, ((i + 1 : Nat) : Int)), ?_, ⟨i + 1, by omega, rfl⟩, by simp only [Int.toNat_natCast]; omega⟩
      rw [if_pos (decide_eq_true hlt)]
      dsimp only
      rw [rdelay_not h, Option.bind_some, wI_id (n := (i : Int) + 1) (by omega) (by omega)]
      rfl
    · right
      exact ⟨_, if_neg (by simpa using hlt), rfl⟩) fuel (0, 0) ⟨0, by omega, rfl⟩ (lt_fuel (by show 100 - 0 ≤ _; omega))
  unfold m18_r20_Total
  rw [hb, hR]
  rfl

/-! How many by a time -/
theorem by_go {w m : Int} (h1 : 1 ≤ w) (h2 : w ≤ m) (h3 : m ≤ 1073741824) (t : Int) : ∀ n i : Nat, i + n ≤ 100 →
    ∃ e, rangeL (m19_retry_By_r1 t) (prs w m i n) ((i : Int), sm w m i) = some e ∧ rangeK m19_retry_By_k2 (fun _ => none) (fun n s3 => if n = 0 then m19_retry_By_k3 s3 else none) e = some ((cnt w m t n i : Nat) : Int)
  | 0, i, _ => ⟨_, rfl, rfl⟩
  | n + 1, i, h => by
    rw [prs_succ]
    unfold rangeL
    unfold m19_retry_By_r1
    have hb := dl_b h1 h2 i
    have hs := sm_b h1 h2 h3 i
    dsimp only
    rw [wI_id (n := sm w m i + dl w m i) (by omega) (by omega), wI_id (n := (i : Int) + 1) (by omega) (by omega)]
    by_cases ht : t < sm w m i + dl w m i
    · rw [if_pos (decide_eq_true ht)]
      refine ⟨_, rfl, ?_⟩
      unfold cnt
      rw [if_pos (show t < sm w m (i + 1) from ht)]
      rfl
    · rw [if_neg (by simpa using ht)]
      have ih := by_go h1 h2 h3 t n (i + 1) (by omega)
      unfold cnt
      rw [if_neg (show ¬ t < sm w m (i + 1) from ht)]
      exact ih
theorem by_sane {p : GRetryPlan} (h : Sn p.Wait p.Most p.Tries) (t : Int) : m19_retry_By p t = some ((cnt p.Wait p.Most t p.Tries.toNat 0 : Nat) : Int) := by
  have h5 := h.e; have h6 := h.f
  obtain ⟨e, h1, h2⟩ := by_go h.a h.c h.d t p.Tries.toNat 0 (by omega)
  unfold m19_retry_By
  rw [it_sane h, Option.bind_some]
  have h1' : rangeL (m19_retry_By_r1 t) (prs p.Wait p.Most 0 p.Tries.toNat) (0, 0) = some e := h1
  rw [h1', Option.bind_some]
  exact h2
theorem by_not {p : GRetryPlan} (h : ¬ Sn p.Wait p.Most p.Tries) (t : Int) : m19_retry_By p t = some 0 := by
  unfold m19_retry_By
  rw [it_not h]
  rfl

/-- What cnt finds. -/
theorem cnt_spec (w m t : Int) : ∀ n k, k ≤ cnt w m t n k ∧ cnt w m t n k ≤ k + n ∧ (cnt w m t n k < k + n → t < sm w m (cnt w m t n k + 1)) ∧ ∀ j, k ≤ j → j < cnt w m t n k → ¬ t < sm w m (j + 1)
  | 0, k => ⟨Nat.le_refl _, Nat.le_refl _, fun h => absurd h (Nat.lt_irrefl _), fun j h1 h2 => absurd h2 (Nat.not_lt.2 h1)⟩
  | n + 1, k => by
    unfold cnt
    by_cases h : t < sm w m (k + 1)
    · rw [if_pos h]
      exact ⟨Nat.le_refl _, by omega, fun _ => h, fun j h1 h2 => by omega⟩
    · rw [if_neg h]
      obtain ⟨h1, h2, h3, h4⟩ := cnt_spec w m t n (k + 1)
      refine ⟨by omega, by omega, fun hh => h3 (by omega), fun j hj1 hj2 => ?_⟩
      by_cases e : j = k
      · subst e; exact h
      · exact h4 j (by omega) hj2
/-- It is the only one. -/
theorem cnt_eq {w m t : Int} {n c : Nat} (hc : c ≤ n) (ha : c < n → t < sm w m (c + 1)) (hb : ∀ j, j < c → ¬ t < sm w m (j + 1)) : cnt w m t n 0 = c := by
  obtain ⟨g1, g2, g3, g4⟩ := cnt_spec w m t n 0
  rw [Nat.zero_add] at g2 g3
  rcases Nat.lt_trichotomy (cnt w m t n 0) c with h | h | h
  · exact absurd (g3 (by omega)) (hb _ h)
  · exact h
  · exact absurd (ha (by omega)) (g4 c (Nat.zero_le _) h)

theorem rby_sane {p : GR20Plan} (h : Sn p.Wait p.Most p.Tries) (t : Int) : m20_r20_By p t = some ((cnt p.Wait p.Most t p.Tries.toNat 0 : Nat) : Int) := by
  have h5 := h.e; have h6 := h.f
  obtain ⟨b, hb, hR⟩ := iter_inv (f := m20_r20_By_s2 p t) (P := fun s => ∃ i : Nat, i ≤ p.Tries.toNat ∧ (∀ j, j < i → ¬ t < sm p.Wait p.Most (j + 1)) ∧ s = (sm p.Wait p.Most i, (i : Int))) (μ := fun s => 100 - s.2.toNat)
    (R := fun b => (match b with | .inl r => some r | .inr e4 => m20_r20_By_k1 e4) = some ((cnt p.Wait p.Most t p.Tries.toNat 0 : Nat) : Int)) (by
    rintro _ ⟨i, hi, hall, rfl⟩
    unfold m20_r20_By_s2
    dsimp only
    by_cases hlt : (i : Int) < 100
    · rw [if_pos (decide_eq_true hlt), rdelay_sane h, Option.bind_some, wI_id (n := (i : Int) + 1) (by omega) (by omega)]
      have hb := dl_b h.a h.c i
      have hd := h.d
      have hs := sm_b h.a h.c h.d i
      by_cases ht : (i : Int) < p.Tries
      · rw [dvl_in ht]
        dsimp only
        rw [wI_id (by omega) (by omega)]
        simp only [Bool.not_true, Bool.false_eq_true, if_false]
        by_cases hc : t < sm p.Wait p.Most i + dl p.Wait p.Most i
        · right; right
          rw [if_pos (decide_eq_true hc)]
          refine ⟨_, rfl, ?_⟩
          rw [cnt_eq (c := i) (by omega) (fun _ => hc) hall]
        · left
          rw [if_neg (by simpa using hc)]
          refine ⟨_, rfl, ⟨i + 1, by omega, fun j hj => ?_, rfl⟩, by simp only []; omega⟩
          by_cases e : j = i
          · subst e; exact hc
          · exact hall j (by omega)
      · right; right
        rw [dvl_out (by omega)]
        refine ⟨_, rfl, ?_⟩
        rw [cnt_eq (c := i) (by omega) (fun hh => by omega) hall]
    · right; left
      rw [if_neg (by simpa using hlt)]
      refine ⟨_, rfl, ?_⟩
      rw [cnt_eq (c := i) (by omega) (fun hh => by omega) hall]
      have : i = 100 := by omega
      subst this
      rfl) fuel (0, 0) ⟨0, by omega, fun j hj => by omega, rfl⟩ (lt_fuel (by show 100 - 0 ≤ _; omega))
  unfold m20_r20_By
  rw [hb]
  exact hR
theorem rby_not {p : GR20Plan} (h : ¬ Sn p.Wait p.Most p.Tries) (t : Int) : m20_r20_By p t = some 0 := by
  have h1 : m20_r20_By_s2 p t (0, 0) = some (.ret 0) := by
    unfold m20_r20_By_s2
    rw [if_pos (by decide), rdelay_not h]
    rfl
  unfold m20_r20_By
  rw [show fuel = (fuel - 1) + 1 from rfl, iter, h1]
  rfl
end Go.Proofs.Ytipcjpjjlphlfaa.Abs
