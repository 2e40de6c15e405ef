/-
  The document's requests, read; the law of requests.
-/
import Derived.Test.YtljkjkkpogkgbaaDoorR05iA
namespace Go.Proofs.YtljkjkkpogkgbaaDoor.Abs

theorem refPut_m (g : GR05Req) : m13_r05_PutReq g = some (if saneReq (rq g) then (eR (tupOf (rq g)), 0) else ([], 1)) := by
  unfold m13_r05_PutReq
  rw [show m19_r05_SaneReq (GR05Req.mk g.Kind g.Seq g.Token g.Attempt g.RO g.Key g.Val (GApiRange.mk g.Rng.Lo g.Rng.Hi g.Rng.Open)) = some (saneReq (rq g)) from saneRef_m g]
  simp only [Option.bind_some, f37]
  cases hs : saneReq (rq g) with
  | false => rfl
  | true =>
    obtain ⟨_, _, _, ht, ha, hro, hk, hv, hr⟩ := sane_VR hs
    simp only [Bool.not_true, Bool.false_eq_true, if_false, if_true]
    rw [show (1 : Int) = ((1 : Nat) : Int) from rfl, show (4 : Int) = ((4 : Nat) : Int) from rfl, show (8 : Int) = ((8 : Nat) : Int) from rfl, rputU 1 (by decide) (by simp)]
    simp only [Option.bind_some]
    rw [rputU 4 (by decide) (by simp [eU_len])]
    simp only [Option.bind_some]
    have e : eR (tupOf (rq g)) = ([] ++ eU 1 g.Kind ++ eU 4 g.Seq) ++ (eO (parts g.Kind).token_ (eU 8) g.Token ++ (eO (parts g.Kind).attempt_ (eU 2) g.Attempt ++ (eO (parts g.Kind).ro_ eF g.RO ++ (eO (parts g.Kind).key_ ls2 g.Key ++ (eO (parts g.Kind).val_ ls2 g.Val ++ eO (parts g.Kind).rng_ eG (g.Rng.Lo, g.Rng.Open, g.Rng.Hi)))))) := by
      simp only [eR, tupOf, eP, rq, List.nil_append, List.append_assoc]
    rw [e, ← List.append_assoc ([] ++ eU 1 g.Kind ++ eU 4 g.Seq), eO_ite (parts g.Kind).token_]
    cases (parts g.Kind).token_
    · exact q5 (by simp [eU_len]) hk hv hr
    · simp only [if_true]
      rw [rputU 8 (by decide) (by simp [eU_len])]
      simp only [Option.bind_some]
      exact q5 (by simp [eU_len]) hk hv hr

/-! What is read -/
def cl (x : Int) : Int := wI ((if (4611686018427387904#64).toNat < (BitVec.ofInt 64 x).toNat then (4611686018427387904#64) else BitVec.ofInt 64 x).toNat : Int)
def tk (b : Bool) (x : Int) : Int := if b then cl x else x

section
variable {d : List UInt8} {e e' : Int} {p : Nat} {p' : Int} {b : Bool} {β : Type}
theorem optU {n : Nat} (h1 : 1 ≤ n) (h8 : n ≤ 8) (hp : p ≤ d.length) (hd : d.length ≤ 100000000) {x : Int} (h : RO b 0 (RU n) e p d = some (x, e', p')) (F : Int × Int × Int → Option β) :
    (if b = true then (m52_r01_Reader_Us n d p e).bind fun v => F (v.2.1, v.2.2, wI (v.1.toNat : Int)) else F (p, e, 0)) = F (p', e', x) := by
  unfold RO RU at h
  cases b with
  | false =>
    simp only [Bool.false_eq_true, if_false, Option.some.injEq, Prod.mk.injEq] at h ⊢
    obtain ⟨rfl, rfl, rfl⟩ := h
    rfl
  | true =>
    simp only [if_true] at h ⊢
    rw [rU_eq h1 h8 e p d hp hd]
    cases hm : m46_enc_Reader_Us n e p d with
    | none => rw [hm] at h; cases h
    | some w =>
      rw [hm] at h
      simp only [Option.bind_some, Option.some.injEq, Prod.mk.injEq] at h ⊢
      obtain ⟨rfl, rfl, rfl⟩ := h
      rfl
theorem optT (hp : p ≤ d.length) (hd : d.length ≤ 100000000) {x : Int} (h : RO b 0 (RU 8) e p d = some (x, e', p')) (F : Int × Int × Int → Option β) :
    (if b = true then (m54_r05_numbers d p e).bind fun v => F (v.2.1, v.2.2, v.1) else F (p, e, 0)) = F (p', e', tk b x) := by
  unfold RO RU at h
  cases b with
  | false =>
    simp only [Bool.false_eq_true, if_false, Option.some.injEq, Prod.mk.injEq] at h ⊢
    obtain ⟨rfl, rfl, rfl⟩ := h
    rfl
  | true =>
    simp only [if_true] at h ⊢
    unfold m54_r05_numbers
    rw [show (8 : Int) = ((8 : Nat) : Int) from rfl, rU_eq (by decide) (by decide) e p d hp hd]
    cases hm : m46_enc_Reader_Us (8 : Nat) e p d with
    | none => rw [hm] at h; cases h
    | some w =>
      rw [hm] at h
      simp only [Option.bind_some, Option.some.injEq, Prod.mk.injEq] at h ⊢
      obtain ⟨rfl, rfl, rfl⟩ := h
      simp only [tk, cl, ofInt_wI, if_true]
theorem optF (hp : p ≤ d.length) (hd : d.length ≤ 100000000) {x : Bool} (h : RO b false RF e p d = some (x, e', p')) (F : Int × Int × Bool → Option β) :
    (if b = true then (m55_r01_Reader_Flags d p e).bind fun v => F (v.2.1, v.2.2, v.1) else F (p, e, false)) = F (p', e', x) := by
  unfold RO at h
  cases b with
  | false =>
    simp only [Bool.false_eq_true, if_false, Option.some.injEq, Prod.mk.injEq] at h ⊢
    obtain ⟨rfl, rfl, rfl⟩ := h
    rfl
  | true =>
    simp only [if_true] at h ⊢
    rw [rF_eq e p d hp hd, h]
    rfl
theorem optL {n : Nat} (hn : n ≤ 60000) (hp : p ≤ d.length) (hd : d.length ≤ 100000000) {x : List UInt8} (h : RO b [] (RL n) e p d = some (x, e', p')) (F : Int × Int × List UInt8 → Option β) :
    (if b = true then (m56_r01_Reader_Lists n d p e).bind fun v => F (v.2.1, v.2.2, v.1) else F (p, e, [])) = F (p', e', x) := by
  unfold RO at h
  cases b with
  | false =>
    simp only [Bool.false_eq_true, if_false, Option.some.injEq, Prod.mk.injEq] at h ⊢
    obtain ⟨rfl, rfl, rfl⟩ := h
    rfl
  | true =>
    simp only [if_true] at h ⊢
    rw [rL_eq hn e p d hp hd, h]
    rfl
theorem optG (hp : p ≤ d.length) (hd : d.length ≤ 100000000) {x : List UInt8 × Bool × List UInt8} (h : RO b ([], false, []) RG e p d = some (x, e', p')) (F : Int × Int × List UInt8 × List UInt8 × Bool → Option β) :
    (if b = true then (m56_r01_Reader_Lists 16 d p e).bind fun v20 => (m55_r01_Reader_Flags d v20.2.1 v20.2.2).bind fun v21 => (m56_r01_Reader_Lists 16 d v21.2.1 v21.2.2).bind fun v22 => F (v22.2.1, v22.2.2, v20.1, v22.1, v21.1) else F (p, e, [], [], false)) = F (p', e', x.1, x.2.2, x.2.1) := by
  unfold RO at h
  cases b with
  | false =>
    simp only [Bool.false_eq_true, if_false, Option.some.injEq, Prod.mk.injEq] at h ⊢
    obtain ⟨rfl, rfl, rfl⟩ := h
    rfl
  | true =>
    simp only [if_true] at h ⊢
    obtain ⟨x1, e1, p1, r1, l1, _⟩ := (RL_rs (n := 16) (by decide)).run e p d hp hd
    obtain ⟨x2, e2, p2, r2, l2, _⟩ := RF_rs.run e1 p1 d l1 hd
    obtain ⟨x3, e3, p3, r3, l3, _⟩ := (RL_rs (n := 16) (by decide)).run e2 p2 d l2 hd
    unfold RG Rdr.seq at h
    rw [r1] at h
    simp only [Option.bind_some] at h
    rw [r2] at h
    simp only [Option.bind_some] at h
    rw [r3] at h
    simp only [Option.bind_some, Option.some.injEq, Prod.mk.injEq] at h
    obtain ⟨rfl, rfl, rfl⟩ := h
    rw [show (16 : Int) = ((16 : Nat) : Int) from rfl, rL_eq (by decide) e p d hp hd, r1]
    simp only [Option.bind_some]
    rw [rF_eq e1 p1 d l1 hd, r2]
    simp only [Option.bind_some]
    rw [rL_eq (by decide) e2 p2 d l2 hd, r3]
    rfl
end

def zref : GR05Req := GR05Req.mk 0 0 0 0 false [] [] (GApiRange.mk [] [] false)
def refOf (x : ReqT) : GR05Req := ⟨x.1, x.2.1, tk (parts x.1).token_ x.2.2.2.1, x.2.2.2.2.1, x.2.2.2.2.2.1, x.2.2.2.2.2.2.1, x.2.2.2.2.2.2.2.1, ⟨x.2.2.2.2.2.2.2.2.1, x.2.2.2.2.2.2.2.2.2.2, x.2.2.2.2.2.2.2.2.2.1⟩⟩
theorem refRead_eq (d : List UInt8) (hd : d.length ≤ 100000000) : ∃ x e p, RReq 0 0 d = some (x, e, ((p : Nat) : Int)) ∧ p ≤ d.length ∧ (e = 0 → VR x) ∧
    m15_r05_ReadReq d = some (if (if e ≠ 0 then e else if p < d.length then 3 else 0) ≠ 0 then (zref, if e ≠ 0 then e else if p < d.length then 3 else 0) else if saneReq (rq (refOf x)) then (refOf x, 0) else (zref, 3)) := by
  obtain ⟨xx, ee, pp, rr, hpp, _, hss, _⟩ := RReq_rs.run 0 0 d (Nat.zero_le _) hd
  obtain ⟨x1, e1, p1, r1, l1, _⟩ := (RU_rs (n := 1) (by decide) (by decide)).run 0 0 d (Nat.zero_le _) hd
  obtain ⟨x2, e2, p2, r2, l2, _⟩ := (RU_rs (n := 4) (by decide) (by decide)).run e1 p1 d l1 hd
  obtain ⟨x3, e3, p3, r3, l3, _⟩ := (RK_rs x1).run e2 p2 d l2 hd
  obtain ⟨x4, e4, p4, r4, l4, _⟩ := (RO_rs (b := (parts x1).token_) (z := 0) (RU_rs (n := 8) (by decide) (by decide))).run e3 p3 d l3 hd
  obtain ⟨x5, e5, p5, r5, l5, _⟩ := (RO_rs (b := (parts x1).attempt_) (z := 0) (RU_rs (n := 2) (by decide) (by decide))).run e4 p4 d l4 hd
  obtain ⟨x6, e6, p6, r6, l6, _⟩ := (RO_rs (b := (parts x1).ro_) (z := false) RF_rs).run e5 p5 d l5 hd
  obtain ⟨x7, e7, p7, r7, l7, _⟩ := (RO_rs (b := (parts x1).key_) (z := []) (RL_rs (n := 16) (by decide))).run e6 p6 d l6 hd
  obtain ⟨x8, e8, p8, r8, l8, _⟩ := (RO_rs (b := (parts x1).val_) (z := []) (RL_rs (n := 32) (by decide))).run e7 p7 d l7 hd
  obtain ⟨x9, e9, p9, r9, l9, _⟩ := (RO_rs (b := (parts x1).rng_) (z := ([], false, [])) RG_rs).run e8 p8 d l8 hd
  have hR : RReq 0 0 d = some ((x1, x2, x3, x4, x5, x6, x7, x8, x9), e9, (p9 : Int)) := by
    unfold RReq RP Rdr.seq
    have r1' : RU 1 0 0 d = some (x1, e1, (p1 : Int)) := r1
    simp only [r1', r2, r3, r4, r5, r6, r7, r8, r9, Option.bind_some]
  rw [show ((0 : Nat) : Int) = 0 from rfl, hR] at rr
  simp only [Option.some.injEq, Prod.mk.injEq] at rr
  obtain ⟨hxx, hee, _⟩ := rr
  refine ⟨_, _, p9, hR, l9, fun h0 => by rw [hxx]; exact (hss (hee ▸ h0)).1, ?_⟩
  have hp3 : (p3 : Int) = p2 := by
    unfold RK at r3
    simp only [Option.some.injEq, Prod.mk.injEq] at r3
    exact r3.2.2.symm
  have he3 : e3 = if okKind x1 then e2 else if e2 = 0 then 3 else e2 := by
    unfold RK at r3
    simp only [Option.some.injEq, Prod.mk.injEq] at r3
    exact r3.2.1.symm
  have hk16 : ∀ (v1 : (List UInt8) × Int × Int) (v2 v3 : (BitVec 64) × Int × Int), v1.1 = d → wI (v2.1.toNat : Int) = x1 → wI (v3.1.toNat : Int) = x2 → v3.2.1 = (p2 : Int) → m15_r05_ReadReq_k4 v1 v2 v3 e3 =
      some (if (if e9 ≠ 0 then e9 else if p9 < d.length then 3 else 0) ≠ 0 then (zref, if e9 ≠ 0 then e9 else if p9 < d.length then 3 else 0) else if saneReq (rq (refOf (x1, x2, x3, x4, x5, x6, x7, x8, x9))) then (refOf (x1, x2, x3, x4, x5, x6, x7, x8, x9), 0) else (zref, 3)) := by
    intro v1 v2 v3 h1 h2 h3 h4
    unfold m15_r05_ReadReq_k4
    rw [h1, h2, h4, ← hp3, f37]
    simp only [Option.bind_some]
    refine (optT l3 hd r4 (fun w => m15_r05_ReadReq_k6 v1 v2 v3 w)).trans ?_
    unfold m15_r05_ReadReq_k6
    rw [h1, h2, f38]
    simp only [Option.bind_some]
    refine (optU (n := 2) (by decide) (by decide) l4 hd r5 (fun w => m15_r05_ReadReq_k8 v1 v2 v3 (p4, e4, tk (parts x1).token_ x4) w)).trans ?_
    unfold m15_r05_ReadReq_k8
    rw [h1, h2, f39]
    simp only [Option.bind_some]
    refine (optF l5 hd r6 (fun w => m15_r05_ReadReq_k10 v1 v2 v3 (p4, e4, tk (parts x1).token_ x4) (p5, e5, x5) w)).trans ?_
    unfold m15_r05_ReadReq_k10
    rw [h1, h2, f41]
    simp only [Option.bind_some]
    refine (optL (n := 16) (by decide) l6 hd r7 (fun w => m15_r05_ReadReq_k12 v1 v2 v3 (p4, e4, tk (parts x1).token_ x4) (p5, e5, x5) (p6, e6, x6) w)).trans ?_
    unfold m15_r05_ReadReq_k12
    rw [h1, h2, f43]
    simp only [Option.bind_some]
    refine (optL (n := 32) (by decide) l7 hd r8 (fun w => m15_r05_ReadReq_k14 v1 v2 v3 (p4, e4, tk (parts x1).token_ x4) (p5, e5, x5) (p6, e6, x6) (p7, e7, x7) w)).trans ?_
    unfold m15_r05_ReadReq_k14
    rw [h1, h2, f44]
    simp only [Option.bind_some]
    refine (optG l8 hd r9 (fun w => m15_r05_ReadReq_k16 v1 v2 v3 (p4, e4, tk (parts x1).token_ x4) (p5, e5, x5) (p6, e6, x6) (p7, e7, x7) (p8, e8, x8) w)).trans ?_
    unfold m15_r05_ReadReq_k16 m15_r05_ReadReq_k18
    rw [h1, h2, h3]
    have hend : m57_r01_Reader_Ends d p9 e9 = some (if e9 ≠ 0 then e9 else if p9 < d.length then 3 else 0) := by
      unfold m57_r01_Reader_Ends m57_r01_Reader_Ends_k1
      by_cases h0 : e9 = 0
      · subst h0
        by_cases hl : p9 < d.length
        · rw [if_pos (by decide), if_pos (by rw [decide_eq_true_eq]; omega)]; simp [hl]
        · rw [if_pos (by decide), if_neg (by rw [decide_eq_true_eq]; omega)]; simp [hl]
      · rw [if_neg (by rw [decide_eq_true_eq]; exact h0), if_pos h0]
    rw [hend]
    simp only [Option.bind_some]
    generalize (if e9 ≠ 0 then e9 else if p9 < d.length then 3 else 0) = ev
    by_cases h0 : ev = 0
    · subst h0
      rw [if_pos (by decide), show m19_r05_SaneReq (GR05Req.mk x1 x2 (tk (parts x1).token_ x4) x5 x6 x7 x8 (GApiRange.mk x9.1 x9.2.2 x9.2.1)) = some (saneReq (rq (refOf (x1, x2, x3, x4, x5, x6, x7, x8, x9)))) from saneRef_m (refOf (x1, x2, x3, x4, x5, x6, x7, x8, x9))]
      simp only [Option.bind_some]
      cases saneReq (rq (refOf (x1, x2, x3, x4, x5, x6, x7, x8, x9))) <;> rfl
    · rw [if_neg (by rw [decide_eq_true_eq]; exact h0), if_pos h0, if_pos (by simp [h0])]; rfl
  unfold m15_r05_ReadReq m51_r01_News m53_r01_Reader_Fails
  simp only [Option.bind_some]
  have ru1 := rU_eq (n := 1) (by decide) (by decide) 0 0 d (Nat.zero_le _) hd
  have ru2 := rU_eq (n := 4) (by decide) (by decide) e1 p1 d l1 hd
  unfold RU at r1 r2
  cases u1 : m46_enc_Reader_Us (1 : Nat) 0 ((0 : Nat) : Int) d with
  | none => rw [u1] at r1; cases r1
  | some w1 =>
    rw [u1] at r1 ru1
    simp only [Option.bind_some, Option.some.injEq, Prod.mk.injEq] at r1 ru1
    obtain ⟨a1, b1, c1⟩ := r1
    cases u2 : m46_enc_Reader_Us (4 : Nat) e1 p1 d with
    | none => rw [u2] at r2; cases r2
    | some w2 =>
      rw [u2] at r2 ru2
      simp only [Option.bind_some, Option.some.injEq, Prod.mk.injEq] at r2 ru2
      obtain ⟨a2, b2, c2⟩ := r2
      have ru1' : m52_r01_Reader_Us 1 d 0 0 = some (w1.1, w1.2.2, w1.2.1) := ru1
      have ru2' : m52_r01_Reader_Us 4 d p1 e1 = some (w2.1, w2.2.2, w2.2.1) := ru2
      simp only [ru1', Option.bind_some, b1, c1, ru2', a1, b2]
      have k4 := hk16 (d, 0, 0) (w1.1, (p1 : Int), e1) (w2.1, (w2.2.2 : Int), e2) rfl a1 a2 c2
      have hok : okKind x1 = true ↔ (¬ x1 < 1 ∧ ¬ 11 < x1) := by
        simp only [okKind, Bool.and_eq_true, decide_eq_true_eq]; omega
      have hbad : okKind x1 = false → (if e2 = 0 then 3 else e2) = e3 := fun h => by rw [he3, h]; rfl
      by_cases h1 : x1 < 1
      · have hf : okKind x1 = false := by
          cases h : okKind x1 with
          | false => rfl
          | true => exact absurd h1 (hok.1 h).1
        rw [if_pos (decide_eq_true h1), ← k4, ← hbad hf]
        by_cases h2 : e2 = 0
        · rw [if_pos (decide_eq_true h2), if_pos h2]; rfl
        · rw [if_neg (by rw [decide_eq_true_eq]; exact h2), if_neg h2]; rfl
      · rw [if_neg (by rw [decide_eq_true_eq]; exact h1)]
        by_cases h11 : 11 < x1
        · have hf : okKind x1 = false := by
            cases h : okKind x1 with
            | false => rfl
            | true => exact absurd h11 (hok.1 h).2
          rw [if_pos (decide_eq_true h11), ← k4, ← hbad hf]
          by_cases h2 : e2 = 0
          · rw [if_pos (decide_eq_true h2), if_pos h2]; rfl
          · rw [if_neg (by rw [decide_eq_true_eq]; exact h2), if_neg h2]; rfl
        · have ht : okKind x1 = true := hok.2 ⟨h1, h11⟩
          rw [if_neg (by rw [decide_eq_true_eq]; exact h11), ← k4, he3, ht]; rfl

theorem tk_sane {x : ReqT} (hv : VR x) : saneReq (rq (refOf x)) = saneReq (reqOf x) ∧ (saneReq (reqOf x) = true → rq (refOf x) = reqOf x) := by
  obtain ⟨x1, x2, x3, x4, x5, x6, x7, x8, x9⟩ := x
  obtain ⟨_, _, _, ht, _⟩ := hv
  have key : saneNum (parts x1).token_ (tk (parts x1).token_ x4) 1099511627776 = saneNum (parts x1).token_ x4 1099511627776 ∧ (saneNum (parts x1).token_ x4 1099511627776 = true → tk (parts x1).token_ x4 = x4) := by
    cases hb : (parts x1).token_ with
    | false => exact ⟨rfl, fun _ => rfl⟩
    | true =>
      simp only at ht
      rw [hb] at ht
      have hx : VU 8 x4 := ht
      unfold VU at hx
      have hlt := (BitVec.ofInt 64 x4).isLt
      rw [Nat.mod_eq_of_lt (by exact hlt)] at hx
      simp only [saneNum, tk, cl, if_true, within]
      have e62 : (4611686018427387904#64).toNat = 4611686018427387904 := by decide
      rw [e62]
      generalize hn : (BitVec.ofInt 64 x4).toNat = n at *
      by_cases hc : 4611686018427387904 < n
      · rw [if_pos hc, e62, wI_id (by decide) (by decide)]
        have hno : ¬ (0 ≤ x4 ∧ x4 ≤ 1099511627776) := by
          intro h
          have : BitVec.ofInt 64 x4 = BitVec.ofNat 64 x4.toNat := by
            rw [← BitVec.ofInt_natCast, Int.toNat_of_nonneg h.1]
          rw [this, BitVec.toNat_ofNat, Nat.mod_eq_of_lt (by omega)] at hn
          omega
        have e1 : (decide (0 ≤ x4) && decide (x4 ≤ 1099511627776)) = false := by
          cases h : (decide (0 ≤ x4) && decide (x4 ≤ 1099511627776)) with
          | false => rfl
          | true =>
            simp only [Bool.and_eq_true, decide_eq_true_eq] at h
            exact absurd h hno
        rw [e1]
        exact ⟨by decide, fun h => by cases h⟩
      · rw [if_neg hc, hn]
        have : wI (n : Int) = x4 := hx
        rw [this]
        exact ⟨rfl, fun _ => rfl⟩
  constructor
  · show (okKind x1 && (within x2 4294967295 && (saneNum (parts x1).token_ (tk (parts x1).token_ x4) 1099511627776 && _))) = (okKind x1 && (within x2 4294967295 && (saneNum (parts x1).token_ x4 1099511627776 && _)))
    rw [key.1]; rfl
  · intro h
    have h3 : saneNum (parts x1).token_ x4 1099511627776 = true := by
      unfold saneReq at h
      simp only [Bool.and_eq_true] at h
      exact h.2.2.1
    have := key.2 h3
    simp only [rq, refOf, reqOf, this]

theorem refSame_m (a b : GR05Req) : ∃ r, m16_r05_SameReq a b = some r ∧ (r = true ↔ rq a = rq b) := by
  obtain ⟨k, s, t, at_, ro, ke, va, lo, hi, op⟩ := a
  obtain ⟨k', s', t', at', ro', ke', va', lo', hi', op'⟩ := b
  unfold m16_r05_SameReq
  by_cases h1 : k = k'
  · by_cases h2 : s = s'
    · by_cases h3 : t = t'
      · by_cases h4 : at_ = at'
        · by_cases h5 : ro = ro'
          · by_cases h6 : ke = ke'
            · by_cases h7 : va = va'
              · by_cases h9 : lo = lo'
                · by_cases h10 : hi = hi'
                  · by_cases h8 : op = op'
                    · subst h1 h2 h3 h4 h5 h6 h7 h8 h9 h10
                      exact ⟨true, by simp, by simp⟩
                    · exact ⟨false, by simp [h1, h2, h3, h4, h5, h6, h7, h8, h9, h10], by simp [rq, h8]⟩
                  · exact ⟨false, by simp [h1, h2, h3, h4, h5, h6, h7, h9, h10], by simp [rq, h10]⟩
                · exact ⟨false, by simp [h1, h2, h3, h4, h5, h6, h7, h9], by simp [rq, h9]⟩
              · exact ⟨false, by simp [h1, h2, h3, h4, h5, h6, h7], by simp [rq, h7]⟩
            · exact ⟨false, by simp [h1, h2, h3, h4, h5, h6], by simp [rq, h6]⟩
          · exact ⟨false, by simp [h1, h2, h3, h4, h5], by simp [rq, h5]⟩
        · exact ⟨false, by simp [h1, h2, h3, h4], by simp [rq, h4]⟩
      · exact ⟨false, by simp [h1, h2, h3], by simp [rq, h3]⟩
    · exact ⟨false, by simp [h1, h2], by simp [rq, h2]⟩
  · exact ⟨false, by simp [h1], by simp [rq, h1]⟩

/-- Both read the same. -/
theorem read_same (d : List UInt8) (hd : d.length ≤ 100000000) : ∃ g h e, m14_msg_ReadReq d = some (g, e) ∧ m15_r05_ReadReq d = some (h, e) ∧ g = rq h := by
  obtain ⟨x, e, p, hr, hp, hv, hm⟩ := refRead_eq d hd
  rw [hm, readReq_eq, hr]
  simp only [Option.bind_some]
  rw [end_m _ _ _ hp hd]
  simp only [Option.bind_some, saneReq_m]
  by_cases he : e = 0
  · subst he
    by_cases hl : p < d.length
    · exact ⟨zreq, zref, 3, by simp [hl], by simp [hl], rfl⟩
    · obtain ⟨h1, h2⟩ := tk_sane (hv rfl)
      cases hs : saneReq (reqOf x) with
      | true => exact ⟨reqOf x, refOf x, 0, by simp [hl], by simp [hl, h1, hs], (h2 hs).symm⟩
      | false => exact ⟨zreq, zref, 3, by simp [hl], by simp [hl, h1, hs], rfl⟩
  · exact ⟨zreq, zref, e, by simp [he], by simp [he], rfl⟩

theorem msgReqs_true (a0 a1 : GR05Req) (a2 : List UInt8) : m3_l05_MsgReqs a0 a1 a2 = some true := by
  unfold m3_l05_MsgReqs
  rw [awake5]
  simp only [Option.bind_some]
  obtain ⟨b1, h1, _⟩ := few_m a0
  obtain ⟨b2, h2, _⟩ := few_m a1
  rw [show m10_r05_Few (GR05Req.mk a0.Kind a0.Seq a0.Token a0.Attempt a0.RO a0.Key a0.Val (GApiRange.mk a0.Rng.Lo a0.Rng.Hi a0.Rng.Open)) = some b1 from h1, show m10_r05_Few (GR05Req.mk a1.Kind a1.Seq a1.Token a1.Attempt a1.RO a1.Key a1.Val (GApiRange.mk a1.Rng.Lo a1.Rng.Hi a1.Rng.Open)) = some b2 from h2]
  simp only [Option.bind_some]
  cases b1 with
  | false => rfl
  | true =>
  cases b2 with
  | false => rfl
  | true =>
  simp only [Bool.not_true, Bool.false_eq_true, if_false]
  by_cases hl : (1000 : Int) < (a2.length : Int)
  · rw [if_pos (decide_eq_true hl)]
  · rw [if_neg (by rw [decide_eq_true_eq]; exact hl)]
    obtain ⟨g, h, e, hg, hh, hgh⟩ := read_same a2 (by omega)
    obtain ⟨r, hr, hr2⟩ := sameReq_m (rq a0) (rq a1)
    obtain ⟨r', hr', hr2'⟩ := refSame_m a0 a1
    obtain ⟨q, hq, hq2⟩ := refSame_m (GR05Req.mk g.Kind g.Seq g.Token g.Attempt g.RO g.Key g.Val (GApiRange.mk g.Rng.Lo g.Rng.Hi g.Rng.Open)) h
    have hqt : q = true := hq2.2 (by rw [← hgh]; rfl)
    subst hqt
    have hrr : (r == r') = true := by
      by_cases he : rq a0 = rq a1
      · rw [hr2.2 he, hr2'.2 he]; rfl
      · have e1 : r = false := by
          cases r with
          | false => rfl
          | true => exact absurd (hr2.1 rfl) he
        have e2 : r' = false := by
          cases r' with
          | false => rfl
          | true => exact absurd (hr2'.1 rfl) he
        rw [e1, e2]; rfl
    have hrq : ∀ a : GR05Req, m12_l05_req (GR05Req.mk a.Kind a.Seq a.Token a.Attempt a.RO a.Key a.Val (GApiRange.mk a.Rng.Lo a.Rng.Hi a.Rng.Open)) = some (rq a) := fun _ => rfl
    have hpt : ∀ g : GMsgReq, m11_msg_PutReq (GMsgReq.mk g.Kind g.Seq g.Token g.Attempt g.RO g.Key g.Val (GApiRange.mk g.Rng.Lo g.Rng.Hi g.Rng.Open)) = some (if saneReq g then (eR (tupOf g), 0) else ([], 1)) := fun g => putReq_m g
    have hrp : ∀ g : GR05Req, m13_r05_PutReq (GR05Req.mk g.Kind g.Seq g.Token g.Attempt g.RO g.Key g.Val (GApiRange.mk g.Rng.Lo g.Rng.Hi g.Rng.Open)) = some (if saneReq (rq g) then (eR (tupOf (rq g)), 0) else ([], 1)) := fun g => refPut_m g
    have hsn : ∀ g : GMsgReq, m18_msg_SaneReq (GMsgReq.mk g.Kind g.Seq g.Token g.Attempt g.RO g.Key g.Val (GApiRange.mk g.Rng.Lo g.Rng.Hi g.Rng.Open)) = some (saneReq g) := fun g => saneReq_m g
    have hsr : ∀ g : GR05Req, m19_r05_SaneReq (GR05Req.mk g.Kind g.Seq g.Token g.Attempt g.RO g.Key g.Val (GApiRange.mk g.Rng.Lo g.Rng.Hi g.Rng.Open)) = some (saneReq (rq g)) := fun g => saneRef_m g
    have hask : ∀ g : GMsgReq, m17_l05_asked (GMsgReq.mk g.Kind g.Seq g.Token g.Attempt g.RO g.Key g.Val (GApiRange.mk g.Rng.Lo g.Rng.Hi g.Rng.Open)) = some (GR05Req.mk g.Kind g.Seq g.Token g.Attempt g.RO g.Key g.Val (GApiRange.mk g.Rng.Lo g.Rng.Hi g.Rng.Open)) := fun _ => rfl
    have hs1 : ∀ (a b : GMsgReq), m20_msg_SameReq (GMsgReq.mk a.Kind a.Seq a.Token a.Attempt a.RO a.Key a.Val (GApiRange.mk a.Rng.Lo a.Rng.Hi a.Rng.Open)) (GMsgReq.mk b.Kind b.Seq b.Token b.Attempt b.RO b.Key b.Val (GApiRange.mk b.Rng.Lo b.Rng.Hi b.Rng.Open)) = m20_msg_SameReq a b := fun _ _ => rfl
    have hs2 : ∀ (a b : GR05Req), m16_r05_SameReq (GR05Req.mk a.Kind a.Seq a.Token a.Attempt a.RO a.Key a.Val (GApiRange.mk a.Rng.Lo a.Rng.Hi a.Rng.Open)) (GR05Req.mk b.Kind b.Seq b.Token b.Attempt b.RO b.Key b.Val (GApiRange.mk b.Rng.Lo b.Rng.Hi b.Rng.Open)) = m16_r05_SameReq a b := fun _ _ => rfl
    unfold m3_l05_MsgReqs_k2
    simp only [hrq, hpt, hrp, hg, hh, hsn, hsr, hask, Option.bind_some, if_true, decide_true, beq_self_eq_true]
    rw [show m16_r05_SameReq (GR05Req.mk g.Kind g.Seq g.Token g.Attempt g.RO g.Key g.Val (GApiRange.mk g.Rng.Lo g.Rng.Hi g.Rng.Open)) (GR05Req.mk h.Kind h.Seq h.Token h.Attempt h.RO h.Key h.Val (GApiRange.mk h.Rng.Lo h.Rng.Hi h.Rng.Open)) = some true from hq]
    simp only [Option.bind_some, if_true]
    rw [show m20_msg_SameReq (GMsgReq.mk (rq a0).Kind (rq a0).Seq (rq a0).Token (rq a0).Attempt (rq a0).RO (rq a0).Key (rq a0).Val (GApiRange.mk (rq a0).Rng.Lo (rq a0).Rng.Hi (rq a0).Rng.Open)) (GMsgReq.mk (rq a1).Kind (rq a1).Seq (rq a1).Token (rq a1).Attempt (rq a1).RO (rq a1).Key (rq a1).Val (GApiRange.mk (rq a1).Rng.Lo (rq a1).Rng.Hi (rq a1).Rng.Open)) = some r from hr]
    simp only [Option.bind_some]
    rw [show m16_r05_SameReq (GR05Req.mk a0.Kind a0.Seq a0.Token a0.Attempt a0.RO a0.Key a0.Val (GApiRange.mk a0.Rng.Lo a0.Rng.Hi a0.Rng.Open)) (GR05Req.mk a1.Kind a1.Seq a1.Token a1.Attempt a1.RO a1.Key a1.Val (GApiRange.mk a1.Rng.Lo a1.Rng.Hi a1.Rng.Open)) = some r' from hr']
    simp only [Option.bind_some, hrr]
end Go.Proofs.YtljkjkkpogkgbaaDoor.Abs
