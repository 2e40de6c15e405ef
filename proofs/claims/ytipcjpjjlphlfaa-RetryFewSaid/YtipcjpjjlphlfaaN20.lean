/-
  The statements on delays.
-/
import Derived.Test.YtipcjpjjlphlfaaM20
namespace Go.Proofs.Ytipcjpjjlphlfaa.Abs

theorem awake20 : m9_l20_awake = some true := by decide +kernel

/-- A delay, and a part of it more. -/
def spf (v1 : Int × Bool) (a1 : Int) (a2 : BitVec 64) : Option (Int × Bool) :=
  if (!v1.2) then (some (0, false)) else (if (BitVec.ofInt 64 (wI ((wI (v1.1.tdiv 2)) + 1))) ≠ 0 then (some ((wI (v1.1 + (wI (((((a2 + (BitVec.ofInt 64 a1)) * (11400714819323198485#64)) ^^^ (((a2 + (BitVec.ofInt 64 a1)) * (11400714819323198485#64)) >>> (32 : Int).toNat)) % (BitVec.ofInt 64 (wI ((wI (v1.1.tdiv 2)) + 1)))).toNat : Int)))), true)) else none)
theorem spread_eq (p : GRetryPlan) (n : Int) (s : BitVec 64) : m13_retry_Spread p n s = (m11_retry_Delay p n).bind fun v => spf v n s := rfl
theorem rspread_eq (p : GR20Plan) (n : Int) (s : BitVec 64) : m14_r20_Spread p n s = (m12_r20_Delay p n).bind fun v => spf v n s := rfl

theorem spf_ok {d : Int} (h1 : 1 ≤ d) (h2 : d ≤ 1073741824) (a1 : Int) (a2 : BitVec 64) : ∃ r, 0 ≤ r ∧ r ≤ d / 2 ∧ spf (d, true) a1 a2 = some (d + r, true) := by
  unfold spf
  dsimp only
  rw [Int.tdiv_eq_ediv_of_nonneg (by omega), wI_id (n := d / 2) (by omega) (by omega), wI_id (n := d / 2 + 1) (by omega) (by omega)]
  have hq : (BitVec.ofInt 64 (d / 2 + 1)).toNat = (d / 2 + 1).toNat := by
    rw [BitVec.toNat_ofInt]
    congr 1
    omega
  have hne : BitVec.ofInt 64 (d / 2 + 1) ≠ 0 := fun e => by
    rw [e] at hq
    have : (0 : BitVec 64).toNat = 0 := rfl
    omega
  rw [if_pos hne]
  simp only [Bool.not_true, Bool.false_eq_true, if_false]
  generalize ((a2 + BitVec.ofInt 64 a1) * 11400714819323198485#64 ^^^ ((a2 + BitVec.ofInt 64 a1) * 11400714819323198485#64) >>> (32 : Int).toNat) = x
  have hm : (x % BitVec.ofInt 64 (d / 2 + 1)).toNat < (d / 2 + 1).toNat := by
    rw [BitVec.toNat_umod, hq]
    exact Nat.mod_lt _ (by omega)
  generalize (x % BitVec.ofInt 64 (d / 2 + 1)).toNat = y at hm
  refine ⟨(y : Int), by omega, by omega, ?_⟩
  rw [wI_id (n := (y : Int)) (by omega) (by omega), wI_id (by omega) (by omega)]

theorem spf_sane {w m t : Int} (h : Sn w m t) (n a1 : Int) (a2 : BitVec 64) : ∃ u, spf (dvl w m t n) a1 a2 = some u := by
  by_cases hn : 0 ≤ n ∧ n < t
  · unfold dvl
    rw [if_pos hn]
    have hb := dl_b h.a h.c n.toNat
    have hd := h.d
    obtain ⟨r, _, _, hr⟩ := spf_ok (d := dl w m n.toNat) (by omega) (by omega) a1 a2
    exact ⟨_, hr⟩
  · rw [dvl_out hn]
    exact ⟨_, rfl⟩

theorem retryIs_true (a0 : GR20Plan) (a1 a2 : Int) (a3 : BitVec 64) : m3_l20_RetryIs a0 a1 a2 a3 = some true := by
  unfold m3_l20_RetryIs m10_l20_ours
  rw [awake20]
  simp only [Option.bind_some]
  rw [spread_eq, rspread_eq, sane_ref]
  by_cases h : Sn a0.Wait a0.Most a0.Tries
  · obtain ⟨u, hu⟩ := spf_sane h a1 a1 a3
    have hs : m15_retry_Sane ⟨a0.Wait, a0.Most, a0.Tries⟩ = some true := (sane_ex ⟨a0.Wait, a0.Most, a0.Tries⟩).elim (fun h => h.2) (fun h' => absurd h h'.1)
    rw [delay_sane (p := ⟨a0.Wait, a0.Most, a0.Tries⟩) h, rdelay_sane h, total_sane (p := ⟨a0.Wait, a0.Most, a0.Tries⟩) h, rtotal_sane h, by_sane (p := ⟨a0.Wait, a0.Most, a0.Tries⟩) h, rby_sane h, hs]
    simp only [Option.bind_some, hu, decide_true, beq_self_eq_true, if_true]
  · have hs : m15_retry_Sane ⟨a0.Wait, a0.Most, a0.Tries⟩ = some false := (sane_ex ⟨a0.Wait, a0.Most, a0.Tries⟩).elim (fun h' => absurd h'.1 h) (fun h => h.2)
    rw [delay_not (p := ⟨a0.Wait, a0.Most, a0.Tries⟩) h, rdelay_not h, total_not (p := ⟨a0.Wait, a0.Most, a0.Tries⟩) h, rtotal_not h, by_not (p := ⟨a0.Wait, a0.Most, a0.Tries⟩) h, rby_not h, hs]
    rfl

theorem dl_mono {w m : Int} (h1 : 1 ≤ w) (h2 : w ≤ m) (k : Nat) : dl w m k ≤ dl w m (k + 1) := by
  have := dl_b h1 h2 k
  show _ ≤ (if m < 2 * dl w m k then m else 2 * dl w m k)
  split <;> omega

theorem retryRises_true (a0 : GR20Plan) : m4_l20_RetryRises a0 = some true := by
  unfold m4_l20_RetryRises m10_l20_ours
  rw [awake20]
  simp only [Option.bind_some]
  by_cases h : Sn a0.Wait a0.Most a0.Tries
  · have hs : m15_retry_Sane ⟨a0.Wait, a0.Most, a0.Tries⟩ = some true := (sane_ex ⟨a0.Wait, a0.Most, a0.Tries⟩).elim (fun h => h.2) (fun h' => absurd h h'.1)
    have h5 := h.e; have h6 := h.f
    obtain ⟨b, hb, hR⟩ := iter_inv (f := m4_l20_RetryRises_s5 a0 ⟨a0.Wait, a0.Most, a0.Tries⟩) (P := fun s => ∃ i : Nat, i ≤ 101 ∧ s = ((if min i a0.Tries.toNat = 0 then 0 else dl a0.Wait a0.Most (min i a0.Tries.toNat - 1)), sm a0.Wait a0.Most (min i a0.Tries.toNat), (i : Int))) (μ := fun s => 101 - s.2.2.toNat)
      (R := fun b => b = .inr (sm a0.Wait a0.Most a0.Tries.toNat)) (by
      rintro _ ⟨i, hi, rfl⟩
      unfold m4_l20_RetryRises_s5
      dsimp only
      have hb := dl_b h.a h.c i
      have hd := h.d
      have hsm := sm_b h.a h.c h.d i
      by_cases hlt : (i : Int) < 101
      · left
        rw [if_pos (decide_eq_true hlt), delay_sane (p := ⟨a0.Wait, a0.Most, a0.Tries⟩) h, Option.bind_some, hs, Option.bind_some, if_pos rfl]
        by_cases ht : (i : Int) < a0.Tries
        · rw [dvl_in ht]
          dsimp only
          rw [decide_eq_true ht]
          simp only [beq_self_eq_true, Bool.not_true, Bool.false_eq_true, if_false]
          have e1 : min i a0.Tries.toNat = i := by omega
          have e2 : min (i + 1) a0.Tries.toNat = i + 1 := by omega
          rw [e1]
          refine ⟨((if min (i + 1) a0.Tries.toNat = 0 then 0 else dl a0.Wait a0.Most (min (i + 1) a0.Tries.toNat - 1)), sm a0.Wait a0.Most (min (i + 1) a0.Tries.toNat), ((i + 1 : Nat) : Int)), ?_, ⟨i + 1, by omega, rfl⟩, by simp only []; omega⟩
          have e3 : ((if min (i + 1) a0.Tries.toNat = 0 then 0 else dl a0.Wait a0.Most (min (i + 1) a0.Tries.toNat - 1)), sm a0.Wait a0.Most (min (i + 1) a0.Tries.toNat), ((i + 1 : Nat) : Int)) = (dl a0.Wait a0.Most (i + 1 - 1), sm a0.Wait a0.Most (i + 1), ((i + 1 : Nat) : Int)) := by
            rw [e2, if_neg (Nat.succ_ne_zero i)]
          rw [e3]
          have k8 : ∀ last, m4_l20_RetryRises_k8 (last, sm a0.Wait a0.Most i, (i : Int)) (dl a0.Wait a0.Most i, true) () = some (.cont (dl a0.Wait a0.Most (i + 1 - 1), sm a0.Wait a0.Most (i + 1), ((i + 1 : Nat) : Int))) := fun last => by
            unfold m4_l20_RetryRises_k8
            dsimp only
            rw [wI_id (by omega) (by omega), wI_id (by omega) (by omega)]
            rfl
          unfold m4_l20_RetryRises_k7
          dsimp only
          simp only [Bool.not_true, Bool.false_eq_true, if_false]
          cases i with
          | zero =>
            rw [if_pos (show decide (((0 : Nat) : Int) = 0) = true from rfl)]
            have hw : dl a0.Wait a0.Most 0 = a0.Wait := rfl
            rw [if_neg (by rw [hw]; simp), if_neg (by simp), if_neg (by simp; omega)]
            exact k8 _
          | succ i =>
            have hmono := dl_mono h.a h.c i
            have hb' := dl_b h.a h.c i
            have hl : (if i + 1 = 0 then (0 : Int) else dl a0.Wait a0.Most (i + 1 - 1)) = dl a0.Wait a0.Most i := by
              rw [if_neg (Nat.succ_ne_zero i)]
              rfl
            rw [hl, if_neg (by simp; omega), if_pos (decide_eq_true (by omega))]
            have hw : dl a0.Wait a0.Most (i + 1) = (if a0.Most < wI (2 * dl a0.Wait a0.Most i) then a0.Most else wI (2 * dl a0.Wait a0.Most i)) := by
              rw [wI_id (by omega) (by omega)]
              rfl
            rw [if_neg (by rw [← hw]; simp), if_neg (by simp; omega)]
            exact k8 _
        · rw [dvl_out (w := a0.Wait) (m := a0.Most) (t := a0.Tries) (by omega)]
          dsimp only
          rw [decide_eq_false ht]
          simp only [beq_self_eq_true, Bool.not_true, Bool.false_eq_true, if_false]
          have e1 : min i a0.Tries.toNat = a0.Tries.toNat := by omega
          have e2 : min (i + 1) a0.Tries.toNat = a0.Tries.toNat := by omega
          unfold m4_l20_RetryRises_k7
          dsimp only
          rw [wI_id (by omega) (by omega), e1]
          refine ⟨_, rfl, ⟨i + 1, by omega, by rw [e2]; rfl⟩, by simp only []; omega⟩
      · right; left
        rw [if_neg (by simpa using hlt)]
        refine ⟨_, rfl, ?_⟩
        rw [show min i a0.Tries.toNat = a0.Tries.toNat from by omega]) fuel (0, 0, 0) ⟨0, by omega, by rw [Nat.zero_min]; rfl⟩ (lt_fuel (by show 101 - 0 ≤ _; omega))
    rw [hb, hR]
    dsimp only [Option.bind_some]
    unfold m4_l20_RetryRises_k3
    rw [total_sane (p := ⟨a0.Wait, a0.Most, a0.Tries⟩) h]
    simp
  · have hs : m15_retry_Sane ⟨a0.Wait, a0.Most, a0.Tries⟩ = some false := (sane_ex ⟨a0.Wait, a0.Most, a0.Tries⟩).elim (fun h' => absurd h'.1 h) (fun h => h.2)
    obtain ⟨b, hb, hR⟩ := iter_inv (f := m4_l20_RetryRises_s5 a0 ⟨a0.Wait, a0.Most, a0.Tries⟩) (P := fun s => ∃ i : Nat, i ≤ 101 ∧ s = (0, 0, (i : Int))) (μ := fun s => 101 - s.2.2.toNat) (R := fun b => b = .inr 0) (by
      rintro _ ⟨i, hi, rfl⟩
      unfold m4_l20_RetryRises_s5
      dsimp only
      by_cases hlt : (i : Int) < 101
      · left
        rw [if_pos (decide_eq_true hlt), delay_not (p := ⟨a0.Wait, a0.Most, a0.Tries⟩) h, Option.bind_some, hs, Option.bind_some]
        unfold m4_l20_RetryRises_k7
        simp only [beq_self_eq_true, Bool.not_true, Bool.false_eq_true, if_false, Bool.not_false, if_true]
        rw [wI_id (by omega) (by omega)]
        exact ⟨_, rfl, ⟨i + 1, by omega, rfl⟩, by simp only []; omega⟩
      · right; left
        rw [if_neg (by simpa using hlt)]
        exact ⟨_, rfl, rfl⟩) fuel (0, 0, 0) ⟨0, by omega, rfl⟩ (lt_fuel (by show 101 - 0 ≤ _; omega))
    rw [hb, hR]
    dsimp only [Option.bind_some]
    unfold m4_l20_RetryRises_k3
    rw [total_not (p := ⟨a0.Wait, a0.Most, a0.Tries⟩) h]
    simp

theorem cnt_mono {w m t1 t2 : Int} (h : t1 ≤ t2) (n : Nat) : cnt w m t1 n 0 ≤ cnt w m t2 n 0 := by
  obtain ⟨_, g2, g3, _⟩ := cnt_spec w m t2 n 0
  obtain ⟨_, f2, _, f4⟩ := cnt_spec w m t1 n 0
  rcases Nat.lt_or_ge (cnt w m t2 n 0) (cnt w m t1 n 0) with hl | hl
  · have h1 := g3 (by omega)
    have h2 := f4 _ (Nat.zero_le _) hl
    omega
  · exact hl

theorem retryBy_true (a0 : GR20Plan) (a1 a2 : Int) : m5_l20_RetryBy a0 a1 a2 = some true := by
  unfold m5_l20_RetryBy m10_l20_ours
  rw [awake20]
  simp only [Option.bind_some]
  by_cases h : Sn a0.Wait a0.Most a0.Tries
  · have hs : m15_retry_Sane ⟨a0.Wait, a0.Most, a0.Tries⟩ = some true := (sane_ex ⟨a0.Wait, a0.Most, a0.Tries⟩).elim (fun h => h.2) (fun h' => absurd h h'.1)
    have h5 := h.e; have h6 := h.f
    simp only [by_sane (p := ⟨a0.Wait, a0.Most, a0.Tries⟩) h, total_sane (p := ⟨a0.Wait, a0.Most, a0.Tries⟩) h, hs, Option.bind_some, if_true]
    unfold m5_l20_RetryBy_k8
    have hle : (if a2 < a1 then a2 else a1) ≤ (if a2 > a1 then a2 else a1) := by split <;> split <;> omega
    have e1 := cnt_mono (w := a0.Wait) (m := a0.Most) hle a0.Tries.toNat
    have e2 : cnt a0.Wait a0.Most (sm a0.Wait a0.Most a0.Tries.toNat) a0.Tries.toNat 0 = a0.Tries.toNat := cnt_eq (Nat.le_refl _) (fun h => absurd h (Nat.lt_irrefl _)) (fun j hj => by
      have := sm_mono h.a h.c (show j + 1 ≤ a0.Tries.toNat from hj)
      omega)
    obtain ⟨_, e3, _, _⟩ := cnt_spec a0.Wait a0.Most (if a2 > a1 then a2 else a1) a0.Tries.toNat 0
    simp only [if_true]
    rw [if_pos (decide_eq_true (by omega)), if_pos (decide_eq_true (by omega)), if_pos (decide_eq_true (by omega)), if_pos (decide_eq_true (by omega))]
    by_cases h0 : a0.Tries = 0
    · rw [if_pos (decide_eq_true h0)]
    rw [if_neg (by simpa using h0)]
    have hw := h.a; have hw2 := h.b
    have hs1 : sm a0.Wait a0.Most 1 = a0.Wait := by show (0 : Int) + a0.Wait = _; omega
    rw [wI_id (by omega) (by omega), by_sane (p := ⟨a0.Wait, a0.Most, a0.Tries⟩) h, Option.bind_some]
    have e4 : cnt a0.Wait a0.Most (a0.Wait - 1) a0.Tries.toNat 0 = 0 := cnt_eq (Nat.zero_le _) (fun _ => by show _ < sm a0.Wait a0.Most 1; omega) (fun j hj => by omega)
    dsimp only
    rw [e4, if_pos (by decide), by_sane (p := ⟨a0.Wait, a0.Most, a0.Tries⟩) h, Option.bind_some]
    obtain ⟨_, _, e5, _⟩ := cnt_spec a0.Wait a0.Most a0.Wait a0.Tries.toNat 0
    refine congrArg some (decide_eq_true ?_)
    dsimp only
    rcases Nat.eq_zero_or_pos (cnt a0.Wait a0.Most a0.Wait a0.Tries.toNat 0) with hz | hz
    · have := e5 (by omega)
      rw [hz, Nat.zero_add] at this
      omega
    · omega
  · have hs : m15_retry_Sane ⟨a0.Wait, a0.Most, a0.Tries⟩ = some false := (sane_ex ⟨a0.Wait, a0.Most, a0.Tries⟩).elim (fun h' => absurd h'.1 h) (fun h => h.2)
    simp only [by_not (p := ⟨a0.Wait, a0.Most, a0.Tries⟩) h, total_not (p := ⟨a0.Wait, a0.Most, a0.Tries⟩) h, hs, Option.bind_some]
    rfl

theorem retrySpread_true (a0 : GR20Plan) (a1 : Int) (a2 : BitVec 64) : m6_l20_RetrySpread a0 a1 a2 = some true := by
  unfold m6_l20_RetrySpread m10_l20_ours
  rw [awake20]
  simp only [Option.bind_some]
  rw [spread_eq]
  by_cases h : Sn a0.Wait a0.Most a0.Tries
  · rw [delay_sane (p := ⟨a0.Wait, a0.Most, a0.Tries⟩) h]
    simp only [Option.bind_some]
    by_cases hn : 0 ≤ a1 ∧ a1 < a0.Tries
    · have hb := dl_b h.a h.c a1.toNat
      have hd := h.d
      obtain ⟨r, hr0, hr1, hr⟩ := spf_ok (d := dl a0.Wait a0.Most a1.toNat) (by omega) (by omega) a1 a2
      have hdv : dvl a0.Wait a0.Most a0.Tries a1 = (dl a0.Wait a0.Most a1.toNat, true) := if_pos hn
      rw [hdv, hr]
      simp only [Option.bind_some, beq_self_eq_true, decide_true, if_true, Bool.not_true, Bool.false_eq_true, if_false]
      rw [Int.tdiv_eq_ediv_of_nonneg (by omega), Int.tdiv_eq_ediv_of_nonneg (by omega), wI_id (n := dl a0.Wait a0.Most a1.toNat / 2) (by omega) (by omega), wI_id (n := a0.Most / 2) (by omega) (by omega), wI_id (by omega) (by omega), wI_id (by omega) (by omega)]
      rw [if_pos (decide_eq_true (by omega)), if_pos (decide_eq_true (by omega))]
      exact congrArg some (decide_eq_true (by omega))
    · rw [dvl_out hn]
      rfl
  · rw [delay_not (p := ⟨a0.Wait, a0.Most, a0.Tries⟩) h]
    rfl

theorem dl_two (w m : Int) : ∀ k, dl (2 * w) (2 * m) k = 2 * dl w m k
  | 0 => rfl
  | k + 1 => by
    unfold dl
    rw [dl_two w m k]
    split <;> split <;> omega
theorem sm_two (w m : Int) : ∀ k, sm (2 * w) (2 * m) k = 2 * sm w m k
  | 0 => rfl
  | k + 1 => by
    unfold sm
    rw [sm_two w m k, dl_two]
    omega

theorem retryDoubles_true (a0 : GR20Plan) (a1 : Int) : m7_l20_RetryDoubles a0 a1 = some true := by
  unfold m7_l20_RetryDoubles
  rw [awake20, sane_ref]
  simp only [Option.bind_some]
  by_cases h : Sn a0.Wait a0.Most a0.Tries
  · have hs : m15_retry_Sane ⟨a0.Wait, a0.Most, a0.Tries⟩ = some true := (sane_ex ⟨a0.Wait, a0.Most, a0.Tries⟩).elim (fun h => h.2) (fun h' => absurd h h'.1)
    rw [hs]
    simp only [Option.bind_some, Bool.not_true, Bool.false_eq_true, if_false]
    by_cases hw : 524288 < a0.Wait
    · rw [if_pos (decide_eq_true hw)]
    rw [if_neg (by simpa using hw)]
    by_cases hm : 536870912 < a0.Most
    · rw [if_pos (decide_eq_true hm)]
    rw [if_neg (by simpa using hm)]
    unfold m7_l20_RetryDoubles_k2 m10_l20_ours
    simp only [Option.bind_some]
    have h1 := h.a; have h2 := h.b; have h3 := h.c; have h4 := h.d; have h5 := h.e; have h6 := h.f
    rw [wI_id (n := 2 * a0.Wait) (by omega) (by omega), wI_id (n := 2 * a0.Most) (by omega) (by omega)]
    have hq : Sn (2 * a0.Wait) (2 * a0.Most) a0.Tries := ⟨by omega, by omega, by omega, by omega, h5, h6⟩
    rw [delay_sane (p := ⟨a0.Wait, a0.Most, a0.Tries⟩) h, delay_sane (p := ⟨2 * a0.Wait, 2 * a0.Most, a0.Tries⟩) hq, total_sane (p := ⟨a0.Wait, a0.Most, a0.Tries⟩) h, total_sane (p := ⟨2 * a0.Wait, 2 * a0.Most, a0.Tries⟩) hq]
    simp only [Option.bind_some]
    have hsm := sm_b h1 h3 h4 a0.Tries.toNat
    rw [sm_two, wI_id (n := 2 * sm a0.Wait a0.Most a0.Tries.toNat) (by omega) (by omega)]
    by_cases hn : 0 ≤ a1 ∧ a1 < a0.Tries
    · have hb := dl_b h1 h3 a1.toNat
      have e1 : dvl a0.Wait a0.Most a0.Tries a1 = (dl a0.Wait a0.Most a1.toNat, true) := if_pos hn
      have e2 : dvl (2 * a0.Wait) (2 * a0.Most) a0.Tries a1 = (dl (2 * a0.Wait) (2 * a0.Most) a1.toNat, true) := if_pos hn
      rw [e1, e2, dl_two]
      dsimp only
      rw [wI_id (by omega) (by omega)]
      simp
    · rw [dvl_out hn, dvl_out hn]
      simp
      decide
  · have hs : m15_retry_Sane ⟨a0.Wait, a0.Most, a0.Tries⟩ = some false := (sane_ex ⟨a0.Wait, a0.Most, a0.Tries⟩).elim (fun h' => absurd h'.1 h) (fun h => h.2)
    rw [hs]
    rfl

theorem retryFew_true (a0 : GR20Plan) (a1 a2 : Int) : m8_l20_RetryFew a0 a1 a2 = some true := by
  unfold m8_l20_RetryFew
  rw [awake20, sane_ref]
  simp only [Option.bind_some]
  by_cases h : Sn a0.Wait a0.Most a0.Tries
  · have hs : m15_retry_Sane ⟨a0.Wait, a0.Most, a0.Tries⟩ = some true := (sane_ex ⟨a0.Wait, a0.Most, a0.Tries⟩).elim (fun h => h.2) (fun h' => absurd h h'.1)
    rw [hs]
    simp only [Option.bind_some, Bool.not_true, Bool.false_eq_true, if_false]
    have h1 := h.a; have h2 := h.b; have h3 := h.c; have h4 := h.d; have h5 := h.e; have h6 := h.f
    have hx : (BitVec.ofInt 64 a1 &&& BitVec.ofInt 64 255).toNat ≤ 255 := by
      rw [BitVec.toNat_and]
      exact Nat.and_le_right
    generalize (BitVec.ofInt 64 a1 &&& BitVec.ofInt 64 255).toNat = x at hx
    rw [wI_id (n := a0.Tries + 1) (by omega) (by omega), wI_id (n := (x : Int)) (by omega) (by omega), if_pos (by omega)]
    have ht0 : 0 ≤ (x : Int).tmod (a0.Tries + 1) := Int.tmod_nonneg _ (by omega)
    have ht1 : (x : Int).tmod (a0.Tries + 1) < a0.Tries + 1 := Int.tmod_lt_of_pos _ (by omega)
    generalize (x : Int).tmod (a0.Tries + 1) = t' at ht0 ht1
    have hq : Sn a0.Wait a0.Most t' := ⟨h1, h2, h3, h4, ht0, by omega⟩
    unfold m10_l20_ours
    simp only [Option.bind_some]
    rw [delay_sane (p := ⟨a0.Wait, a0.Most, a0.Tries⟩) h, delay_sane (p := ⟨a0.Wait, a0.Most, t'⟩) hq, total_sane (p := ⟨a0.Wait, a0.Most, a0.Tries⟩) h, total_sane (p := ⟨a0.Wait, a0.Most, t'⟩) hq, by_sane (p := ⟨a0.Wait, a0.Most, t'⟩) hq]
    simp only [Option.bind_some]
    have e1 : sm a0.Wait a0.Most t'.toNat ≤ sm a0.Wait a0.Most a0.Tries.toNat := sm_mono h1 h3 (by omega)
    have e2 : cnt a0.Wait a0.Most 1099511627776 t'.toNat 0 = t'.toNat := cnt_eq (Nat.le_refl _) (fun h => absurd h (Nat.lt_irrefl _)) (fun j hj => by
      have := sm_b h1 h3 h4 (j + 1)
      omega)
    rw [e2, Int.toNat_of_nonneg ht0]
    by_cases hn : 0 ≤ a2 ∧ a2 < a0.Tries
    · have d1 : dvl a0.Wait a0.Most a0.Tries a2 = (dl a0.Wait a0.Most a2.toNat, true) := if_pos hn
      rw [d1]
      by_cases hn' : a2 < t'
      · have d2 : dvl a0.Wait a0.Most t' a2 = (dl a0.Wait a0.Most a2.toNat, true) := if_pos ⟨hn.1, hn'⟩
        rw [d2]
        simp [hn', e1]
      · rw [dvl_out (by omega)]
        simp [hn', e1]
    · rw [dvl_out hn, dvl_out (by omega)]
      simp [e1]
  · have hs : m15_retry_Sane ⟨a0.Wait, a0.Most, a0.Tries⟩ = some false := (sane_ex ⟨a0.Wait, a0.Most, a0.Tries⟩).elim (fun h' => absurd h'.1 h) (fun h => h.2)
    rw [hs]
    rfl
end Go.Proofs.Ytipcjpjjlphlfaa.Abs
