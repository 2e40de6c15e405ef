/-
  The document's replies, read; the law of replies.
-/
import Derived.Test.YtljkjkkpogkgbaaDoorR05kB
namespace Go.Proofs.YtljkjkkpogkgbaaDoor.Abs

theorem RN_run (d : List UInt8) (hd : d.length ≤ 100000000) (j : Nat) (e : Int) (p : Nat) (hp : p ≤ d.length) : ∃ y e' p', RN RV j e p d = some (y, e', ((p' : Nat) : Int)) ∧ p' ≤ d.length ∧ (e ≠ 0 → e' = e) := by
  obtain ⟨v, e', p', r, l, k, _⟩ := (RN_rs (⟨[], []⟩ : GApiKV) RV_rs j).run e p d hp hd
  exact ⟨v, e', p', r, l, k⟩

/-- The document's loop stops where something is wrong; what it has said by then is the same. -/
theorem rvloop (d : List UInt8) (hd : d.length ≤ 100000000) (v1 : (List UInt8) × Int × Int) (hv1 : v1.1 = d) (v9 : (BitVec 64) × Int × Int) {k : Nat} (hk : wI (v9.1.toNat : Int) = k) (hk8 : k ≤ 255) : ∀ (j n i : Nat) (e : Int) (p : Nat) (acc : List GApiKV), i + j = k → j < n → acc.length = i → p ≤ d.length → (e = 0 → k ≤ 8) →
    ∀ y e' p', RN RV j e p d = some (y, e', p') → ∃ q l, iterB (m26_r05_ReadReply_s15 v1 v9) n ((i : Int), (p : Int), e, acc) = some (q, e', l) ∧ (e' = 0 → q = p' ∧ l = acc ++ y)
  | 0, n, i, e, p, acc, hij, hn, ha, hp, _, y, e', p', hr => by
    obtain ⟨m, rfl⟩ : ∃ m, n = m + 1 := ⟨n - 1, by omega⟩
    simp only [RN, Option.some.injEq, Prod.mk.injEq] at hr
    obtain ⟨rfl, rfl, rfl⟩ := hr
    have hf : m26_r05_ReadReply_s15 v1 v9 ((i : Int), (p : Int), e, acc) = some (.brk ((p : Int), e, acc)) := by
      unfold m26_r05_ReadReply_s15
      rw [hk, if_neg (by rw [decide_eq_true_eq]; simp only; omega)]
    exact ⟨p, acc, by rw [iterB, hf], fun _ => ⟨rfl, by simp⟩⟩
  | j + 1, n, i, e, p, acc, hij, hn, ha, hp, h8, y, e', p', hr => by
    obtain ⟨m, rfl⟩ : ∃ m, n = m + 1 := ⟨n - 1, by omega⟩
    by_cases he : e = 0
    · have hk8' := h8 he
      obtain ⟨x1, e1, p1, r1, l1, _⟩ := (RL_rs (n := 16) (by decide)).run e p d hp hd
      obtain ⟨x2, e2, p2, r2, l2, _⟩ := (RL_rs (n := 32) (by decide)).run e1 p1 d l1 hd
      have rv : RV e p d = some (⟨x1, x2⟩, e2, (p2 : Int)) := by
        unfold RV Rdr.seq
        rw [r1]
        simp only [Option.bind_some]
        rw [r2]
        rfl
      obtain ⟨y2, e3, p3, r3, l3, _⟩ := RN_run d hd j e2 p2 l2
      simp only [RN, rv, Option.bind_some, r3, Option.some.injEq, Prod.mk.injEq] at hr
      obtain ⟨rfl, rfl, rfl⟩ := hr
      have s1 : m56_r01_Reader_Lists 16 d p e = some (x1, (p1 : Int), e1) := by
        rw [show (16 : Int) = ((16 : Nat) : Int) from rfl, rL_eq (by decide) e p d hp hd, r1]; rfl
      have s2 : m56_r01_Reader_Lists 32 d p1 e1 = some (x2, (p2 : Int), e2) := by
        rw [show (32 : Int) = ((32 : Nat) : Int) from rfl, rL_eq (by decide) e1 p1 d l1 hd, r2]; rfl
      have hf : m26_r05_ReadReply_s15 v1 v9 ((i : Int), (p : Int), e, acc) = some (.cont (((i + 1 : Nat) : Int), (p2 : Int), e2, acc ++ [(⟨x1, x2⟩ : GApiKV)])) := by
        unfold m26_r05_ReadReply_s15 m26_r05_ReadReply_k16
        rw [hk, if_pos (by rw [decide_eq_true_eq]; simp only; omega), if_pos (decide_eq_true he), hv1]
        simp only
        rw [s1]
        simp only [Option.bind_some]
        rw [s2]
        simp only [Option.bind_some]
        rw [if_pos (by simp [ha]; omega), wI_id (by omega) (by omega)]
        rfl
      obtain ⟨q, l, h1, h2⟩ := rvloop d hd v1 hv1 v9 hk hk8 j m (i + 1) e2 p2 (acc ++ [(⟨x1, x2⟩ : GApiKV)]) (by omega) (by omega) (by simp [ha]) l2 (fun _ => hk8') y2 e3 p3 r3
      refine ⟨q, l, by rw [iterB, hf]; exact h1, fun h0 => ?_⟩
      obtain ⟨a1, a2⟩ := h2 h0
      exact ⟨a1, by rw [a2]; simp⟩
    · obtain ⟨y', e2, p2, r2, l2, k2⟩ := RN_run d hd (j + 1) e p hp
      rw [r2] at hr
      simp only [Option.some.injEq, Prod.mk.injEq] at hr
      obtain ⟨rfl, rfl, rfl⟩ := hr
      have hf : m26_r05_ReadReply_s15 v1 v9 ((i : Int), (p : Int), e, acc) = some (.brk ((p : Int), e, acc)) := by
        unfold m26_r05_ReadReply_s15
        rw [hk, if_pos (by rw [decide_eq_true_eq]; simp only; omega), if_neg (by rw [decide_eq_true_eq]; exact he)]
      rw [k2 he]
      exact ⟨p, acc, by rw [iterB, hf], fun h0 => absurd h0 he⟩

def repRef (x : RepT) : GR05Reply := ⟨x.1, x.2.1, x.2.2.2.1, cl x.2.2.2.2.1, x.2.2.2.2.2.1, x.2.2.2.2.2.2.1, x.2.2.2.2.2.2.2⟩
def zrefp : GR05Reply := GR05Reply.mk 0 0 0 0 false [] []
theorem u1_lt {e : Int} {p : Nat} {d : List UInt8} (hp : p ≤ d.length) (hd : d.length ≤ 100000000) {w : (BitVec 64) × Int × Int} (h : m46_enc_Reader_Us 1 e p d = some w) : w.1.toNat < 256 := by
  obtain ⟨v', e', p', hu', _, _, hlt, _⟩ := U_any 1 e p d hp hd
  rw [h] at hu'
  cases hu'
  exact hlt
theorem fix_val {e : Int} {α : Type} {a b : α} (h : a = b) : (e, a) = (e, b) := by rw [h]

theorem refRep_eq (d : List UInt8) (hd : d.length ≤ 100000000) : ∃ x e p, RRep 0 0 d = some (x, e, ((p : Nat) : Int)) ∧ p ≤ d.length ∧ (e = 0 → VS5 x) ∧
    m26_r05_ReadReply d = some (if (if e ≠ 0 then e else if p < d.length then 3 else 0) ≠ 0 then (zrefp, if e ≠ 0 then e else if p < d.length then 3 else 0) else if saneRep (rp (repRef x)) then (repRef x, 0) else (zrefp, 3)) := by
  obtain ⟨xx, ee, pp, rr, hpp, _, hss, _⟩ := RRep_rs.run 0 0 d (Nat.zero_le _) hd
  obtain ⟨x1, e1, p1, r1, l1, _⟩ := (RU_rs (n := 1) (by decide) (by decide)).run 0 0 d (Nat.zero_le _) hd
  obtain ⟨x2, e2, p2, r2, l2, _⟩ := (RU_rs (n := 4) (by decide) (by decide)).run e1 p1 d l1 hd
  obtain ⟨x3, e3, p3, r3, l3, _⟩ := (RB_rs (okRep x1)).run e2 p2 d l2 hd
  obtain ⟨x4, e4, p4, r4, l4, _⟩ := (RU_rs (n := 1) (by decide) (by decide)).run e3 p3 d l3 hd
  obtain ⟨x5, e5, p5, r5, l5, _⟩ := (RU_rs (n := 8) (by decide) (by decide)).run e4 p4 d l4 hd
  obtain ⟨x6, e6, p6, r6, l6, _⟩ := RF_rs.run e5 p5 d l5 hd
  obtain ⟨x7, e7, p7, r7, l7, _⟩ := (RL_rs (n := 32) (by decide)).run e6 p6 d l6 hd
  obtain ⟨x8, e8, p8, r8, l8, _⟩ := (RU_rs (n := 1) (by decide) (by decide)).run e7 p7 d l7 hd
  obtain ⟨x9, e9, p9, r9, l9, k9, s9, _⟩ := (RC_rs x8).run e8 p8 d l8 hd
  have hR : RRep 0 0 d = some ((x1, x2, x3, x4, x5, x6, x7, x9), e9, (p9 : Int)) := by
    unfold RRep RVs Rdr.seq
    have r1' : RU 1 0 0 d = some (x1, e1, (p1 : Int)) := r1
    simp only [r1', r2, r3, r4, r5, r6, r7, r8, r9, Option.bind_some]
  rw [show ((0 : Nat) : Int) = 0 from rfl, hR] at rr
  simp only [Option.some.injEq, Prod.mk.injEq] at rr
  obtain ⟨hxx, hee, _⟩ := rr
  refine ⟨_, _, p9, hR, l9, fun h0 => by rw [hxx]; exact (hss (hee ▸ h0)).1, ?_⟩
  have hp3 : (p3 : Int) = p2 := by
    unfold RB at r3
    simp only [Option.some.injEq, Prod.mk.injEq] at r3
    exact r3.2.2.symm
  have he3 : e3 = if okRep x1 then e2 else if e2 = 0 then 3 else e2 := by
    unfold RB at r3
    simp only [Option.some.injEq, Prod.mk.injEq] at r3
    exact r3.2.1.symm
  have hlen : e9 = 0 → x9.length ≤ 1000000 := fun h0 => by
    have := (s9 h0).1.1
    have h2 := (s9 h0).1.2.1
    omega
  have hk4 : ∀ (v1 : (List UInt8) × Int × Int) (v2 v3 : (BitVec 64) × Int × Int), v1.1 = d → wI (v2.1.toNat : Int) = x1 → wI (v3.1.toNat : Int) = x2 → v3.2.1 = (p2 : Int) → m26_r05_ReadReply_k4 v1 v2 v3 e3 =
      some (if (if e9 ≠ 0 then e9 else if p9 < d.length then 3 else 0) ≠ 0 then (zrefp, if e9 ≠ 0 then e9 else if p9 < d.length then 3 else 0) else if saneRep (rp (repRef (x1, x2, x3, x4, x5, x6, x7, x9))) then (repRef (x1, x2, x3, x4, x5, x6, x7, x9), 0) else (zrefp, 3)) := by
    intro v1 v2 v3 h1 h2 h3 h4
    unfold m26_r05_ReadReply_k4 m53_r01_Reader_Fails
    rw [h1, h4, ← hp3]
    have ru4 := rU_eq (n := 1) (by decide) (by decide) e3 p3 d l3 hd
    have ru8 := rU_eq (n := 1) (by decide) (by decide) e7 p7 d l7 hd
    have rt5 := fun (F : Int × Int × Int → Option (GR05Reply × Int)) => optT (b := true) l4 hd (x := x5) (e' := e5) (p' := (p5 : Int)) r5 F
    unfold RU at r4 r8
    cases u4 : m46_enc_Reader_Us (1 : Nat) e3 p3 d with
    | none => rw [u4] at r4; cases r4
    | some w4 =>
    rw [u4] at r4 ru4
    simp only [Option.bind_some, Option.some.injEq, Prod.mk.injEq] at r4 ru4
    obtain ⟨a4, b4, c4⟩ := r4
    cases u8 : m46_enc_Reader_Us (1 : Nat) e7 p7 d with
    | none => rw [u8] at r8; cases r8
    | some w8 =>
    have hw8 : w8.1.toNat < 256 := u1_lt l7 hd u8
    rw [u8] at r8 ru8
    simp only [Option.bind_some, Option.some.injEq, Prod.mk.injEq] at r8 ru8
    obtain ⟨a8, b8, c8⟩ := r8
    have ru4' : m52_r01_Reader_Us 1 d p3 e3 = some (w4.1, w4.2.2, w4.2.1) := ru4
    have ru8' : m52_r01_Reader_Us 1 d p7 e7 = some (w8.1, w8.2.2, w8.2.1) := ru8
    rw [ru4']
    simp only [Option.bind_some, b4, c4]
    have hnum : ∃ v6 : Int × Int × Int, m54_r05_numbers d p4 e4 = some v6 ∧ v6.1 = cl x5 ∧ v6.2.1 = (p5 : Int) ∧ v6.2.2 = e5 := by
      unfold m54_r05_numbers
      rw [show (8 : Int) = ((8 : Nat) : Int) from rfl, rU_eq (by decide) (by decide) e4 p4 d l4 hd]
      unfold RU at r5
      cases hm : m46_enc_Reader_Us (8 : Nat) e4 p4 d with
      | none => rw [hm] at r5; cases r5
      | some w =>
        rw [hm] at r5
        simp only [Option.bind_some, Option.some.injEq, Prod.mk.injEq] at r5
        obtain ⟨q1, q2, q3⟩ := r5
        refine ⟨_, rfl, ?_, q3, q2⟩
        rw [← q1]
        simp only [cl, ofInt_wI]
    obtain ⟨v6, hv6, n1, n2, n3⟩ := hnum
    rw [hv6]
    simp only [Option.bind_some]
    rw [n2, n3, rF_eq e5 p5 d l5 hd, r6]
    simp only [Option.bind_some]
    rw [show (32 : Int) = ((32 : Nat) : Int) from rfl, rL_eq (by decide) e6 p6 d l6 hd, r7]
    simp only [Option.bind_some]
    rw [ru8']
    simp only [Option.bind_some, b8, c8]
    have hx8 : x8 = (w8.1.toNat : Int) := by rw [← a8]; exact wI_id (by omega) (by omega)
    have hfin : ∀ (q : Int) (l : List GApiKV), (e9 = 0 → q = (p9 : Int) ∧ l = x9) → m26_r05_ReadReply_k11 v1 v2 v3 (w4.1, (p4 : Int), e4) v6 (x6, (p6 : Int), e6) (x7, (p7 : Int), e7) (q, e9, l) =
        some (if (if e9 ≠ 0 then e9 else if p9 < d.length then 3 else 0) ≠ 0 then (zrefp, if e9 ≠ 0 then e9 else if p9 < d.length then 3 else 0) else if saneRep (rp (repRef (x1, x2, x3, x4, x5, x6, x7, x9))) then (repRef (x1, x2, x3, x4, x5, x6, x7, x9), 0) else (zrefp, 3)) := by
      intro q l hq
      unfold m26_r05_ReadReply_k11 m26_r05_ReadReply_k13 m57_r01_Reader_Ends m57_r01_Reader_Ends_k1
      rw [h1, h2, h3, n1]
      simp only [a4]
      by_cases h0 : e9 = 0
      · obtain ⟨rfl, rfl⟩ := hq h0
        rw [if_pos (decide_eq_true h0), if_neg (show ¬ (e9 ≠ 0) from fun h => h h0)]
        by_cases hl : p9 < d.length
        · rw [if_pos (show decide ((p9 : Int) < (d.length : Int)) = true by rw [decide_eq_true_eq]; omega), if_pos hl]
          rfl
        · rw [if_neg (show ¬ decide ((p9 : Int) < (d.length : Int)) = true by rw [decide_eq_true_eq]; omega), if_neg hl, h0]
          simp only [Option.bind_some]
          rw [if_pos (by decide), show m30_r05_SaneReply (GR05Reply.mk x1 x2 x4 (cl x5) x6 x7 l) = some (saneRep (rp (repRef (x1, x2, x3, x4, x5, x6, x7, l)))) from saneRefRep_m (repRef (x1, x2, x3, x4, x5, x6, x7, l)) (hlen h0)]
          simp only [Option.bind_some]
          cases saneRep (rp (repRef (x1, x2, x3, x4, x5, x6, x7, l))) <;> rfl
      · rw [if_neg (by rw [decide_eq_true_eq]; exact h0), if_pos h0]
        simp only [Option.bind_some]
        rw [if_neg (by rw [decide_eq_true_eq]; exact h0), if_pos h0, if_pos (by simp [h0])]
        rfl
    have hkk : wI ((w8.1, (p8 : Int), e8).1.toNat : Int) = (w8.1.toNat : Nat) := by
      show wI (w8.1.toNat : Int) = (w8.1.toNat : Nat)
      exact wI_id (by omega) (by omega)
    unfold m26_r05_ReadReply_k10
    rw [a8]
    by_cases h8 : 8 < x8
    · rw [if_pos (decide_eq_true h8)]
      have he9 : e9 = if e8 = 0 then 5 else e8 := by
        unfold RC at r9
        rw [if_pos h8] at r9
        simp only [Option.some.injEq, Prod.mk.injEq] at r9
        exact r9.2.1.symm
      have he9' : (if decide (e8 = 0) = true then some (5 : Int) else some e8) = some e9 := by
        rw [he9]
        by_cases h0 : e8 = 0
        · rw [if_pos (decide_eq_true h0), if_pos h0]
        · rw [if_neg (by rw [decide_eq_true_eq]; exact h0), if_neg h0]
      rw [he9']
      simp only [Option.bind_some]
      have hne : e9 ≠ 0 := by
        rw [he9]; split
        · decide
        · assumption
      obtain ⟨y, e10, p10, r10, _, k10⟩ := RN_run d hd w8.1.toNat e9 p8 l8
      obtain ⟨q, l, hi, _⟩ := rvloop d hd v1 h1 (w8.1, (p8 : Int), e8) hkk (by omega) w8.1.toNat fuel 0 e9 p8 [] (by omega) (lt_fuel (by omega)) rfl l8 (fun h => absurd h hne) y e10 p10 r10
      rw [k10 hne] at hi
      rw [show ((0 : Nat) : Int) = 0 from rfl] at hi
      rw [hi]
      simp only [Option.bind_some]
      exact hfin q l (fun h => absurd h hne)
    · rw [if_neg (by rw [decide_eq_true_eq]; exact h8)]
      have hrn : RN RV w8.1.toNat e8 p8 d = some (x9, e9, (p9 : Int)) := by
        unfold RC at r9
        rw [if_neg h8, hx8, Int.toNat_natCast] at r9
        exact r9
      obtain ⟨q, l, hi, hq⟩ := rvloop d hd v1 h1 (w8.1, (p8 : Int), e8) hkk (by omega) w8.1.toNat fuel 0 e8 p8 [] (by omega) (lt_fuel (by omega)) rfl l8 (fun _ => by omega) x9 e9 p9 hrn
      rw [show ((0 : Nat) : Int) = 0 from rfl] at hi
      rw [hi]
      simp only [Option.bind_some]
      exact hfin q l (fun h => by
        obtain ⟨a, b⟩ := hq h
        exact ⟨a, by rw [b]; rfl⟩)
  unfold m26_r05_ReadReply m51_r01_News m53_r01_Reader_Fails
  simp only [Option.bind_some]
  have ru1 := rU_eq (n := 1) (by decide) (by decide) 0 0 d (Nat.zero_le _) hd
  have ru2 := rU_eq (n := 4) (by decide) (by decide) e1 p1 d l1 hd
  unfold RU at r1 r2
  cases u1 : m46_enc_Reader_Us (1 : Nat) 0 ((0 : Nat) : Int) d with
  | none => rw [u1] at r1; cases r1
  | some w1 =>
    have hw1 : w1.1.toNat < 256 := u1_lt (Nat.zero_le _) hd u1
    rw [u1] at r1 ru1
    simp only [Option.bind_some, Option.some.injEq, Prod.mk.injEq] at r1 ru1
    obtain ⟨a1, b1, c1⟩ := r1
    cases u2 : m46_enc_Reader_Us (4 : Nat) e1 p1 d with
    | none => rw [u2] at r2; cases r2
    | some w2 =>
      rw [u2] at r2 ru2
      simp only [Option.bind_some, Option.some.injEq, Prod.mk.injEq] at r2 ru2
      obtain ⟨a2, b2, c2⟩ := r2
      have ru1' : m52_r01_Reader_Us 1 d 0 0 = some (w1.1, w1.2.2, w1.2.1) := ru1
      have ru2' : m52_r01_Reader_Us 4 d p1 e1 = some (w2.1, w2.2.2, w2.2.1) := ru2
      have hx1 : x1 = (w1.1.toNat : Int) := by rw [← a1]; exact wI_id (by omega) (by omega)
      simp only [ru1', Option.bind_some, b1, c1, ru2', a1, b2]
      have k4 := hk4 (d, 0, 0) (w1.1, (p1 : Int), e1) (w2.1, (w2.2.2 : Int), e2) rfl a1 a2 c2
      by_cases h11 : 11 < x1
      · have hf : okRep x1 = false := by
          simp only [okRep, okKind, Bool.or_eq_false_iff, Bool.and_eq_false_iff, decide_eq_false_iff_not]; omega
        have hb : (if e2 = 0 then 3 else e2) = e3 := by rw [he3, hf]; rfl
        rw [if_pos (decide_eq_true h11), ← k4, ← hb]
        by_cases h2 : e2 = 0
        · rw [if_pos (decide_eq_true h2), if_pos h2]; rfl
        · rw [if_neg (by rw [decide_eq_true_eq]; exact h2), if_neg h2]; rfl
      · have ht : okRep x1 = true := by
          simp only [okRep, okKind, Bool.or_eq_true, Bool.and_eq_true, decide_eq_true_eq]; omega
        rw [if_neg (by rw [decide_eq_true_eq]; exact h11), ← k4, he3, ht]; rfl
end Go.Proofs.YtljkjkkpogkgbaaDoor.Abs
